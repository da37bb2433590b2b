/- The statement FractionAdds: for any two fractions, the law returns true and changes nothing. No condition. -/
import Derived.Test.YtmhheepnojbgoaaRow
import Derived.Test.YtmhheepnojbgoaaKnown
import Derived.Test.YtmhheepnojbgoaaCmp
import Derived.Test.YtmhheepnojbgoaaLawMakes
namespace Go.Proofs.Ytmhheepnojbgoaa.lawAdds
open Go.Proofs.Ytmhheepnojbgoaa Go.ChangeShapes Go.WideShapes Go.ChangeAt Go.RowKit Go.Joins Pl


set_option maxHeartbeats 2000000 in
theorem walk (n d : Int) (hn1 : -9223372036854775808 ≤ n) (hn2 : n ≤ 9223372036854775807) (hd1 : -9223372036854775808 ≤ d) (hd2 : d ≤ 9223372036854775807) (p q : Int) (hp1 : -9223372036854775808 ≤ p) (hp2 : p ≤ 9223372036854775807) (hq1 : -9223372036854775808 ≤ q) (hq2 : q ≤ 9223372036854775807) (w : World) :
    Calls Try.prog 6 #[.agg #[.int .i64 n, .int .i64 d], .agg #[.int .i64 p, .int .i64 q]] w fun e w' => e = .returned (.bool true) ∧ Below w.heap.size w w' := by
  by_cases cf : canon n d
  · by_cases cg : canon p q
    · have Bf : Hid (canonB n d = true) := Lib.hid (by simpa [canonB] using cf)
      have Bg : Hid (canonB p q = true) := Lib.hid (by simpa [canonB] using cg)
      obtain ⟨f1, f2, f3, f4, f5⟩ := cf
      obtain ⟨g1, g2, g3, g4, g5⟩ := cg
      have f5 := Lib.hid f5
      have g5 := Lib.hid g5
      have nz : d * q ≠ 0 := Int.mul_ne_zero (by omega) (by omega)
      have Esub : Hid (n * q - p * d = n * q + -p * d) := Lib.hid (by rw [Int.neg_mul]; omega)
      have Eadd : Hid (p * d + n * q = n * q + p * d) := Lib.hid (Int.add_comm _ _)
      have Eden : Hid (q * d = d * q) := Lib.hid (Int.mul_comm _ _)
      have cf : canon n d := ⟨f1, f2, f3, f4, f5.out⟩
      have cg : canon p q := ⟨g1, g2, g3, g4, g5.out⟩
      by_cases he : mkE (n * q + p * d) (d * q) = 0
      · obtain ⟨r1, r2, r3⟩ := sub_back cf cg he
        obtain ⟨⟨s1, s2, s3, s4, s5⟩, s6⟩ := mk_ok nz he
        have R1 := Lib.hid r1
        have R2 := Lib.hid r2
        have R3 := Lib.hid r3
        have HE := Lib.hid he
        have he' : (mkE (n * q + p * d) (d * q) != 0) = false := by simp [he]
        clear cf cg he r1 r2 r3 s5 s6
        go_enter Try.func6, Try.ntmps6
        go_wp2_with fail
        refine (known_any _).mono ?_
        rintro e w1 ⟨rfl, hbw1⟩
        obtain ⟨hchbw1, hfhbw1⟩ := bcell hbw1
        have hzhbw1 := hbw1.size
        try simp at hzhbw1
        have hzhbw10 : w.heap.size < w1.heap.size := by omega
        have hzhbw11 : w.heap.size + 1 < w1.heap.size := by omega
        have hBhbw1 : Below w.heap.size w w1 := Below.trans (by (repeat' (first | (with_reducible exact Below.refl _ _) | (with_reducible assumption) | (with_reducible refine Below.alloc ?_ ?_ _) | (with_reducible refine below_drewN ?_ _) | (with_reducible refine Below.drew ?_) | (with_reducible refine Below.setCell ?_ ?_ _) | go_size))) (hbw1.mono (by go_size))
        have hWhbw1 : w.heap.size ≤ w1.heap.size := hBhbw1.size
        clear hbw1 hzhbw1
        go_wp2_with fail
        refine (rcheck_any n d hn1 hn2 hd1 hd2 _).mono ?_
        rintro e w2 ⟨rfl, hbw2⟩
        obtain ⟨hchbw2, hfhbw2⟩ := bcell hbw2
        have hzhbw2 := hbw2.size
        try simp at hzhbw2
        have hzhbw20 : w.heap.size < w2.heap.size := by omega
        have hzhbw21 : w.heap.size + 1 < w2.heap.size := by omega
        have hBhbw2 : Below w.heap.size w w2 := Below.trans (by (repeat' (first | (with_reducible exact Below.refl _ _) | (with_reducible assumption) | (with_reducible refine Below.alloc ?_ ?_ _) | (with_reducible refine below_drewN ?_ _) | (with_reducible refine Below.drew ?_) | (with_reducible refine Below.setCell ?_ ?_ _) | go_size))) (hbw2.mono (by go_size))
        have hWhbw2 : w.heap.size ≤ w2.heap.size := hBhbw2.size
        clear hbw2 hzhbw2
        rw [Bf.out]
        go_wp2_with fail
        refine (rcheck_any p q hp1 hp2 hq1 hq2 _).mono ?_
        rintro e w3 ⟨rfl, hbw3⟩
        obtain ⟨hchbw3, hfhbw3⟩ := bcell hbw3
        have hzhbw3 := hbw3.size
        try simp at hzhbw3
        have hzhbw30 : w.heap.size < w3.heap.size := by omega
        have hzhbw31 : w.heap.size + 1 < w3.heap.size := by omega
        have hBhbw3 : Below w.heap.size w w3 := Below.trans (by (repeat' (first | (with_reducible exact Below.refl _ _) | (with_reducible assumption) | (with_reducible refine Below.alloc ?_ ?_ _) | (with_reducible refine below_drewN ?_ _) | (with_reducible refine Below.drew ?_) | (with_reducible refine Below.setCell ?_ ?_ _) | go_size))) (hbw3.mono (by go_size))
        have hWhbw3 : w.heap.size ≤ w3.heap.size := hBhbw3.size
        clear hbw3 hzhbw3
        rw [Bg.out]
        go_wp2_with fail
        have k0 : w3.cell? ⟨w.heap.size, 0, none⟩ = some (.int .i64 n) := by simp [*, go_sem]
        have k1 : w3.cell? ⟨w.heap.size, 1, none⟩ = some (.int .i64 d) := by simp [*, go_sem]
        have k2 : w3.cell? ⟨w.heap.size + 1, 0, none⟩ = some (.int .i64 p) := by simp [*, go_sem]
        have k3 : w3.cell? ⟨w.heap.size + 1, 1, none⟩ = some (.int .i64 q) := by simp [*, go_sem]
        clear hchbw1 hfhbw1 hchbw2 hfhbw2 hchbw3 hfhbw3
        refine (add_any n d p q f3 f4 f1 f2 g3 g4 g1 g2 _).mono ?_
        rintro e w4 ⟨rfl, hbw4⟩
        obtain ⟨hchbw4, hfhbw4⟩ := bcell hbw4
        have hzhbw4 := hbw4.size
        try simp at hzhbw4
        have hzhbw40 : w.heap.size < w4.heap.size := by omega
        have hzhbw41 : w.heap.size + 1 < w4.heap.size := by omega
        have hBhbw4 : Below w.heap.size w w4 := Below.trans (by (repeat' (first | (with_reducible exact Below.refl _ _) | (with_reducible assumption) | (with_reducible refine Below.alloc ?_ ?_ _) | (with_reducible refine below_drewN ?_ _) | (with_reducible refine Below.drew ?_) | (with_reducible refine Below.setCell ?_ ?_ _) | go_size))) (hbw4.mono (by go_size))
        have hWhbw4 : w.heap.size ≤ w4.heap.size := hBhbw4.size
        clear hbw4 hzhbw4
        go_wp2_with fail
        refine (radd_any n d p q f3 f4 f1 f2 g3 g4 g1 g2 _).mono ?_
        rintro e w5 ⟨rfl, hbw5⟩
        obtain ⟨hchbw5, hfhbw5⟩ := bcell hbw5
        have hzhbw5 := hbw5.size
        try simp at hzhbw5
        have hzhbw50 : w.heap.size < w5.heap.size := by omega
        have hzhbw51 : w.heap.size + 1 < w5.heap.size := by omega
        have hzhbw52 : w4.heap.size < w5.heap.size := by omega
        have hBhbw5 : Below w.heap.size w w5 := Below.trans (by (repeat' (first | (with_reducible exact Below.refl _ _) | (with_reducible assumption) | (with_reducible refine Below.alloc ?_ ?_ _) | (with_reducible refine below_drewN ?_ _) | (with_reducible refine Below.drew ?_) | (with_reducible refine Below.setCell ?_ ?_ _) | go_size))) (hbw5.mono (by go_size))
        have hWhbw5 : w.heap.size ≤ w5.heap.size := hBhbw5.size
        clear hbw5 hzhbw5
        go_wp2_with fail
        refine (sub_any n d p q f3 f4 f1 f2 g3 g4 g1 g2 _).mono ?_
        rintro e w6 ⟨rfl, hbw6⟩
        obtain ⟨hchbw6, hfhbw6⟩ := bcell hbw6
        have hzhbw6 := hbw6.size
        try simp at hzhbw6
        have hzhbw60 : w.heap.size < w6.heap.size := by omega
        have hzhbw61 : w.heap.size + 1 < w6.heap.size := by omega
        have hzhbw62 : w4.heap.size < w6.heap.size := by omega
        have hzhbw63 : w5.heap.size < w6.heap.size := by omega
        have hBhbw6 : Below w.heap.size w w6 := Below.trans (by (repeat' (first | (with_reducible exact Below.refl _ _) | (with_reducible assumption) | (with_reducible refine Below.alloc ?_ ?_ _) | (with_reducible refine below_drewN ?_ _) | (with_reducible refine Below.drew ?_) | (with_reducible refine Below.setCell ?_ ?_ _) | go_size))) (hbw6.mono (by go_size))
        have hWhbw6 : w.heap.size ≤ w6.heap.size := hBhbw6.size
        clear hbw6 hzhbw6
        go_wp2_with fail
        refine (rsub_any n d p q f3 f4 f1 f2 g3 g4 g1 g2 _).mono ?_
        rintro e w7 ⟨rfl, hbw7⟩
        obtain ⟨hchbw7, hfhbw7⟩ := bcell hbw7
        have hzhbw7 := hbw7.size
        try simp at hzhbw7
        have hzhbw70 : w.heap.size < w7.heap.size := by omega
        have hzhbw71 : w.heap.size + 1 < w7.heap.size := by omega
        have hzhbw72 : w4.heap.size < w7.heap.size := by omega
        have hzhbw73 : w5.heap.size < w7.heap.size := by omega
        have hzhbw74 : w6.heap.size < w7.heap.size := by omega
        have hBhbw7 : Below w.heap.size w w7 := Below.trans (by (repeat' (first | (with_reducible exact Below.refl _ _) | (with_reducible assumption) | (with_reducible refine Below.alloc ?_ ?_ _) | (with_reducible refine below_drewN ?_ _) | (with_reducible refine Below.drew ?_) | (with_reducible refine Below.setCell ?_ ?_ _) | go_size))) (hbw7.mono (by go_size))
        have hWhbw7 : w.heap.size ≤ w7.heap.size := hBhbw7.size
        clear hbw7 hzhbw7
        rw [Esub.out]
        go_wp2_with fail
        refine (add_any p q n d g3 g4 g1 g2 f3 f4 f1 f2 _).mono ?_
        rintro e w8 ⟨rfl, hbw8⟩
        obtain ⟨hchbw8, hfhbw8⟩ := bcell hbw8
        have hzhbw8 := hbw8.size
        try simp at hzhbw8
        have hzhbw80 : w.heap.size < w8.heap.size := by omega
        have hzhbw81 : w.heap.size + 1 < w8.heap.size := by omega
        have hzhbw82 : w4.heap.size < w8.heap.size := by omega
        have hzhbw83 : w5.heap.size < w8.heap.size := by omega
        have hzhbw84 : w6.heap.size < w8.heap.size := by omega
        have hzhbw85 : w7.heap.size < w8.heap.size := by omega
        have hBhbw8 : Below w.heap.size w w8 := Below.trans (by (repeat' (first | (with_reducible exact Below.refl _ _) | (with_reducible assumption) | (with_reducible refine Below.alloc ?_ ?_ _) | (with_reducible refine below_drewN ?_ _) | (with_reducible refine Below.drew ?_) | (with_reducible refine Below.setCell ?_ ?_ _) | go_size))) (hbw8.mono (by go_size))
        have hWhbw8 : w.heap.size ≤ w8.heap.size := hBhbw8.size
        clear hbw8 hzhbw8
        rw [Eadd.out, Eden.out]
        go_wp2_with fail
        refine (lawMakes.is_mk (n * q + p * d) (d * q) nz _).mono ?_
        rintro e w9 ⟨rfl, hbw9⟩
        obtain ⟨hchbw9, hfhbw9⟩ := bcell hbw9
        have hzhbw9 := hbw9.size
        try simp at hzhbw9
        have hzhbw90 : w.heap.size < w9.heap.size := by omega
        have hzhbw91 : w.heap.size + 1 < w9.heap.size := by omega
        have hzhbw92 : w4.heap.size < w9.heap.size := by omega
        have hzhbw93 : w5.heap.size < w9.heap.size := by omega
        have hzhbw94 : w6.heap.size < w9.heap.size := by omega
        have hzhbw95 : w7.heap.size < w9.heap.size := by omega
        have hzhbw96 : w8.heap.size < w9.heap.size := by omega
        have hBhbw9 : Below w.heap.size w w9 := Below.trans (by (repeat' (first | (with_reducible exact Below.refl _ _) | (with_reducible assumption) | (with_reducible refine Below.alloc ?_ ?_ _) | (with_reducible refine below_drewN ?_ _) | (with_reducible refine Below.drew ?_) | (with_reducible refine Below.setCell ?_ ?_ _) | go_size))) (hbw9.mono (by go_size))
        have hWhbw9 : w.heap.size ≤ w9.heap.size := hBhbw9.size
        clear hbw9 hzhbw9
        go_wp2_with fail
        refine (lawMakes.is_mk (n * q + -p * d) (d * q) nz _).mono ?_
        rintro e w10 ⟨rfl, hbw10⟩
        obtain ⟨hchbw10, hfhbw10⟩ := bcell hbw10
        have hzhbw10 := hbw10.size
        try simp at hzhbw10
        have hzhbw100 : w.heap.size < w10.heap.size := by omega
        have hzhbw101 : w.heap.size + 1 < w10.heap.size := by omega
        have hzhbw102 : w4.heap.size < w10.heap.size := by omega
        have hzhbw103 : w5.heap.size < w10.heap.size := by omega
        have hzhbw104 : w6.heap.size < w10.heap.size := by omega
        have hzhbw105 : w7.heap.size < w10.heap.size := by omega
        have hzhbw106 : w8.heap.size < w10.heap.size := by omega
        have hBhbw10 : Below w.heap.size w w10 := Below.trans (by (repeat' (first | (with_reducible exact Below.refl _ _) | (with_reducible assumption) | (with_reducible refine Below.alloc ?_ ?_ _) | (with_reducible refine below_drewN ?_ _) | (with_reducible refine Below.drew ?_) | (with_reducible refine Below.setCell ?_ ?_ _) | go_size))) (hbw10.mono (by go_size))
        have hWhbw10 : w.heap.size ≤ w10.heap.size := hBhbw10.size
        clear hbw10 hzhbw10
        go_wp2_with fail
        
        refine (sub_any (mkN (n * q + p * d) (d * q)) (mkD (n * q + p * d) (d * q)) p q s3 s4 s1 s2 g3 g4 g1 g2 _).mono ?_
        rintro e w11 ⟨rfl, hbw11⟩
        obtain ⟨hchbw11, hfhbw11⟩ := bcell hbw11
        have hzhbw11 := hbw11.size
        try simp at hzhbw11
        have hzhbw110 : w.heap.size < w11.heap.size := by omega
        have hzhbw111 : w.heap.size + 1 < w11.heap.size := by omega
        have hzhbw112 : w4.heap.size < w11.heap.size := by omega
        have hBhbw11 : Below w.heap.size w w11 := Below.trans (by (repeat' (first | (with_reducible exact Below.refl _ _) | (with_reducible assumption) | (with_reducible refine Below.alloc ?_ ?_ _) | (with_reducible refine below_drewN ?_ _) | (with_reducible refine Below.drew ?_) | (with_reducible refine Below.setCell ?_ ?_ _) | go_size))) (hbw11.mono (by go_size))
        have hWhbw11 : w.heap.size ≤ w11.heap.size := hBhbw11.size
        clear hbw11 hzhbw11
        rw [R1.out, R2.out, R3.out]
        go_wp2
        go_ret
        exact ⟨rfl, by (repeat' (first | (with_reducible exact Below.refl _ _) | (with_reducible assumption) | (with_reducible refine Below.alloc ?_ ?_ _) | (with_reducible refine below_drewN ?_ _) | (with_reducible refine Below.drew ?_) | (with_reducible refine Below.setCell ?_ ?_ _) | go_size))⟩
      · have he' : (mkE (n * q + p * d) (d * q) != 0) = true := by simp [he]
        clear cf cg he
        go_enter Try.func6, Try.ntmps6
        go_wp2_with fail
        refine (known_any _).mono ?_
        rintro e w1 ⟨rfl, hbw1⟩
        obtain ⟨hchbw1, hfhbw1⟩ := bcell hbw1
        have hzhbw1 := hbw1.size
        try simp at hzhbw1
        have hzhbw10 : w.heap.size < w1.heap.size := by omega
        have hzhbw11 : w.heap.size + 1 < w1.heap.size := by omega
        have hBhbw1 : Below w.heap.size w w1 := Below.trans (by (repeat' (first | (with_reducible exact Below.refl _ _) | (with_reducible assumption) | (with_reducible refine Below.alloc ?_ ?_ _) | (with_reducible refine below_drewN ?_ _) | (with_reducible refine Below.drew ?_) | (with_reducible refine Below.setCell ?_ ?_ _) | go_size))) (hbw1.mono (by go_size))
        have hWhbw1 : w.heap.size ≤ w1.heap.size := hBhbw1.size
        clear hbw1 hzhbw1
        go_wp2_with fail
        refine (rcheck_any n d hn1 hn2 hd1 hd2 _).mono ?_
        rintro e w2 ⟨rfl, hbw2⟩
        obtain ⟨hchbw2, hfhbw2⟩ := bcell hbw2
        have hzhbw2 := hbw2.size
        try simp at hzhbw2
        have hzhbw20 : w.heap.size < w2.heap.size := by omega
        have hzhbw21 : w.heap.size + 1 < w2.heap.size := by omega
        have hBhbw2 : Below w.heap.size w w2 := Below.trans (by (repeat' (first | (with_reducible exact Below.refl _ _) | (with_reducible assumption) | (with_reducible refine Below.alloc ?_ ?_ _) | (with_reducible refine below_drewN ?_ _) | (with_reducible refine Below.drew ?_) | (with_reducible refine Below.setCell ?_ ?_ _) | go_size))) (hbw2.mono (by go_size))
        have hWhbw2 : w.heap.size ≤ w2.heap.size := hBhbw2.size
        clear hbw2 hzhbw2
        rw [Bf.out]
        go_wp2_with fail
        refine (rcheck_any p q hp1 hp2 hq1 hq2 _).mono ?_
        rintro e w3 ⟨rfl, hbw3⟩
        obtain ⟨hchbw3, hfhbw3⟩ := bcell hbw3
        have hzhbw3 := hbw3.size
        try simp at hzhbw3
        have hzhbw30 : w.heap.size < w3.heap.size := by omega
        have hzhbw31 : w.heap.size + 1 < w3.heap.size := by omega
        have hBhbw3 : Below w.heap.size w w3 := Below.trans (by (repeat' (first | (with_reducible exact Below.refl _ _) | (with_reducible assumption) | (with_reducible refine Below.alloc ?_ ?_ _) | (with_reducible refine below_drewN ?_ _) | (with_reducible refine Below.drew ?_) | (with_reducible refine Below.setCell ?_ ?_ _) | go_size))) (hbw3.mono (by go_size))
        have hWhbw3 : w.heap.size ≤ w3.heap.size := hBhbw3.size
        clear hbw3 hzhbw3
        rw [Bg.out]
        go_wp2_with fail
        have k0 : w3.cell? ⟨w.heap.size, 0, none⟩ = some (.int .i64 n) := by simp [*, go_sem]
        have k1 : w3.cell? ⟨w.heap.size, 1, none⟩ = some (.int .i64 d) := by simp [*, go_sem]
        have k2 : w3.cell? ⟨w.heap.size + 1, 0, none⟩ = some (.int .i64 p) := by simp [*, go_sem]
        have k3 : w3.cell? ⟨w.heap.size + 1, 1, none⟩ = some (.int .i64 q) := by simp [*, go_sem]
        clear hchbw1 hfhbw1 hchbw2 hfhbw2 hchbw3 hfhbw3
        refine (add_any n d p q f3 f4 f1 f2 g3 g4 g1 g2 _).mono ?_
        rintro e w4 ⟨rfl, hbw4⟩
        obtain ⟨hchbw4, hfhbw4⟩ := bcell hbw4
        have hzhbw4 := hbw4.size
        try simp at hzhbw4
        have hzhbw40 : w.heap.size < w4.heap.size := by omega
        have hzhbw41 : w.heap.size + 1 < w4.heap.size := by omega
        have hBhbw4 : Below w.heap.size w w4 := Below.trans (by (repeat' (first | (with_reducible exact Below.refl _ _) | (with_reducible assumption) | (with_reducible refine Below.alloc ?_ ?_ _) | (with_reducible refine below_drewN ?_ _) | (with_reducible refine Below.drew ?_) | (with_reducible refine Below.setCell ?_ ?_ _) | go_size))) (hbw4.mono (by go_size))
        have hWhbw4 : w.heap.size ≤ w4.heap.size := hBhbw4.size
        clear hbw4 hzhbw4
        go_wp2_with fail
        refine (radd_any n d p q f3 f4 f1 f2 g3 g4 g1 g2 _).mono ?_
        rintro e w5 ⟨rfl, hbw5⟩
        obtain ⟨hchbw5, hfhbw5⟩ := bcell hbw5
        have hzhbw5 := hbw5.size
        try simp at hzhbw5
        have hzhbw50 : w.heap.size < w5.heap.size := by omega
        have hzhbw51 : w.heap.size + 1 < w5.heap.size := by omega
        have hzhbw52 : w4.heap.size < w5.heap.size := by omega
        have hBhbw5 : Below w.heap.size w w5 := Below.trans (by (repeat' (first | (with_reducible exact Below.refl _ _) | (with_reducible assumption) | (with_reducible refine Below.alloc ?_ ?_ _) | (with_reducible refine below_drewN ?_ _) | (with_reducible refine Below.drew ?_) | (with_reducible refine Below.setCell ?_ ?_ _) | go_size))) (hbw5.mono (by go_size))
        have hWhbw5 : w.heap.size ≤ w5.heap.size := hBhbw5.size
        clear hbw5 hzhbw5
        go_wp2_with fail
        refine (sub_any n d p q f3 f4 f1 f2 g3 g4 g1 g2 _).mono ?_
        rintro e w6 ⟨rfl, hbw6⟩
        obtain ⟨hchbw6, hfhbw6⟩ := bcell hbw6
        have hzhbw6 := hbw6.size
        try simp at hzhbw6
        have hzhbw60 : w.heap.size < w6.heap.size := by omega
        have hzhbw61 : w.heap.size + 1 < w6.heap.size := by omega
        have hzhbw62 : w4.heap.size < w6.heap.size := by omega
        have hzhbw63 : w5.heap.size < w6.heap.size := by omega
        have hBhbw6 : Below w.heap.size w w6 := Below.trans (by (repeat' (first | (with_reducible exact Below.refl _ _) | (with_reducible assumption) | (with_reducible refine Below.alloc ?_ ?_ _) | (with_reducible refine below_drewN ?_ _) | (with_reducible refine Below.drew ?_) | (with_reducible refine Below.setCell ?_ ?_ _) | go_size))) (hbw6.mono (by go_size))
        have hWhbw6 : w.heap.size ≤ w6.heap.size := hBhbw6.size
        clear hbw6 hzhbw6
        go_wp2_with fail
        refine (rsub_any n d p q f3 f4 f1 f2 g3 g4 g1 g2 _).mono ?_
        rintro e w7 ⟨rfl, hbw7⟩
        obtain ⟨hchbw7, hfhbw7⟩ := bcell hbw7
        have hzhbw7 := hbw7.size
        try simp at hzhbw7
        have hzhbw70 : w.heap.size < w7.heap.size := by omega
        have hzhbw71 : w.heap.size + 1 < w7.heap.size := by omega
        have hzhbw72 : w4.heap.size < w7.heap.size := by omega
        have hzhbw73 : w5.heap.size < w7.heap.size := by omega
        have hzhbw74 : w6.heap.size < w7.heap.size := by omega
        have hBhbw7 : Below w.heap.size w w7 := Below.trans (by (repeat' (first | (with_reducible exact Below.refl _ _) | (with_reducible assumption) | (with_reducible refine Below.alloc ?_ ?_ _) | (with_reducible refine below_drewN ?_ _) | (with_reducible refine Below.drew ?_) | (with_reducible refine Below.setCell ?_ ?_ _) | go_size))) (hbw7.mono (by go_size))
        have hWhbw7 : w.heap.size ≤ w7.heap.size := hBhbw7.size
        clear hbw7 hzhbw7
        rw [Esub.out]
        go_wp2_with fail
        refine (add_any p q n d g3 g4 g1 g2 f3 f4 f1 f2 _).mono ?_
        rintro e w8 ⟨rfl, hbw8⟩
        obtain ⟨hchbw8, hfhbw8⟩ := bcell hbw8
        have hzhbw8 := hbw8.size
        try simp at hzhbw8
        have hzhbw80 : w.heap.size < w8.heap.size := by omega
        have hzhbw81 : w.heap.size + 1 < w8.heap.size := by omega
        have hzhbw82 : w4.heap.size < w8.heap.size := by omega
        have hzhbw83 : w5.heap.size < w8.heap.size := by omega
        have hzhbw84 : w6.heap.size < w8.heap.size := by omega
        have hzhbw85 : w7.heap.size < w8.heap.size := by omega
        have hBhbw8 : Below w.heap.size w w8 := Below.trans (by (repeat' (first | (with_reducible exact Below.refl _ _) | (with_reducible assumption) | (with_reducible refine Below.alloc ?_ ?_ _) | (with_reducible refine below_drewN ?_ _) | (with_reducible refine Below.drew ?_) | (with_reducible refine Below.setCell ?_ ?_ _) | go_size))) (hbw8.mono (by go_size))
        have hWhbw8 : w.heap.size ≤ w8.heap.size := hBhbw8.size
        clear hbw8 hzhbw8
        rw [Eadd.out, Eden.out]
        go_wp2_with fail
        refine (lawMakes.is_mk (n * q + p * d) (d * q) nz _).mono ?_
        rintro e w9 ⟨rfl, hbw9⟩
        obtain ⟨hchbw9, hfhbw9⟩ := bcell hbw9
        have hzhbw9 := hbw9.size
        try simp at hzhbw9
        have hzhbw90 : w.heap.size < w9.heap.size := by omega
        have hzhbw91 : w.heap.size + 1 < w9.heap.size := by omega
        have hzhbw92 : w4.heap.size < w9.heap.size := by omega
        have hzhbw93 : w5.heap.size < w9.heap.size := by omega
        have hzhbw94 : w6.heap.size < w9.heap.size := by omega
        have hzhbw95 : w7.heap.size < w9.heap.size := by omega
        have hzhbw96 : w8.heap.size < w9.heap.size := by omega
        have hBhbw9 : Below w.heap.size w w9 := Below.trans (by (repeat' (first | (with_reducible exact Below.refl _ _) | (with_reducible assumption) | (with_reducible refine Below.alloc ?_ ?_ _) | (with_reducible refine below_drewN ?_ _) | (with_reducible refine Below.drew ?_) | (with_reducible refine Below.setCell ?_ ?_ _) | go_size))) (hbw9.mono (by go_size))
        have hWhbw9 : w.heap.size ≤ w9.heap.size := hBhbw9.size
        clear hbw9 hzhbw9
        go_wp2_with fail
        refine (lawMakes.is_mk (n * q + -p * d) (d * q) nz _).mono ?_
        rintro e w10 ⟨rfl, hbw10⟩
        obtain ⟨hchbw10, hfhbw10⟩ := bcell hbw10
        have hzhbw10 := hbw10.size
        try simp at hzhbw10
        have hzhbw100 : w.heap.size < w10.heap.size := by omega
        have hzhbw101 : w.heap.size + 1 < w10.heap.size := by omega
        have hzhbw102 : w4.heap.size < w10.heap.size := by omega
        have hzhbw103 : w5.heap.size < w10.heap.size := by omega
        have hzhbw104 : w6.heap.size < w10.heap.size := by omega
        have hzhbw105 : w7.heap.size < w10.heap.size := by omega
        have hzhbw106 : w8.heap.size < w10.heap.size := by omega
        have hBhbw10 : Below w.heap.size w w10 := Below.trans (by (repeat' (first | (with_reducible exact Below.refl _ _) | (with_reducible assumption) | (with_reducible refine Below.alloc ?_ ?_ _) | (with_reducible refine below_drewN ?_ _) | (with_reducible refine Below.drew ?_) | (with_reducible refine Below.setCell ?_ ?_ _) | go_size))) (hbw10.mono (by go_size))
        have hWhbw10 : w.heap.size ≤ w10.heap.size := hBhbw10.size
        clear hbw10 hzhbw10
        go_wp2_with fail
        
        go_ret
        exact ⟨rfl, by (repeat' (first | (with_reducible exact Below.refl _ _) | (with_reducible assumption) | (with_reducible refine Below.alloc ?_ ?_ _) | (with_reducible refine below_drewN ?_ _) | (with_reducible refine Below.drew ?_) | (with_reducible refine Below.setCell ?_ ?_ _) | go_size))⟩
    · have Bf : Hid (canonB n d = true) := Lib.hid (by simpa [canonB] using cf)
      have Bg : Hid (canonB p q = false) := Lib.hid (by simpa [canonB] using cg)
      clear cf cg
      go_enter Try.func6, Try.ntmps6
      go_wp2_with fail
      refine (known_any _).mono ?_
      rintro e w1 ⟨rfl, hbw1⟩
      obtain ⟨hchbw1, hfhbw1⟩ := bcell hbw1
      have hzhbw1 := hbw1.size
      try simp at hzhbw1
      have hzhbw10 : w.heap.size < w1.heap.size := by omega
      have hzhbw11 : w.heap.size + 1 < w1.heap.size := by omega
      have hBhbw1 : Below w.heap.size w w1 := Below.trans (by (repeat' (first | (with_reducible exact Below.refl _ _) | (with_reducible assumption) | (with_reducible refine Below.alloc ?_ ?_ _) | (with_reducible refine below_drewN ?_ _) | (with_reducible refine Below.drew ?_) | (with_reducible refine Below.setCell ?_ ?_ _) | go_size))) (hbw1.mono (by go_size))
      have hWhbw1 : w.heap.size ≤ w1.heap.size := hBhbw1.size
      clear hbw1 hzhbw1
      go_wp2_with fail
      refine (rcheck_any n d hn1 hn2 hd1 hd2 _).mono ?_
      rintro e w2 ⟨rfl, hbw2⟩
      obtain ⟨hchbw2, hfhbw2⟩ := bcell hbw2
      have hzhbw2 := hbw2.size
      try simp at hzhbw2
      have hzhbw20 : w.heap.size < w2.heap.size := by omega
      have hzhbw21 : w.heap.size + 1 < w2.heap.size := by omega
      have hBhbw2 : Below w.heap.size w w2 := Below.trans (by (repeat' (first | (with_reducible exact Below.refl _ _) | (with_reducible assumption) | (with_reducible refine Below.alloc ?_ ?_ _) | (with_reducible refine below_drewN ?_ _) | (with_reducible refine Below.drew ?_) | (with_reducible refine Below.setCell ?_ ?_ _) | go_size))) (hbw2.mono (by go_size))
      have hWhbw2 : w.heap.size ≤ w2.heap.size := hBhbw2.size
      clear hbw2 hzhbw2
      rw [Bf.out]
      go_wp2_with fail
      refine (rcheck_any p q hp1 hp2 hq1 hq2 _).mono ?_
      rintro e w3 ⟨rfl, hbw3⟩
      obtain ⟨hchbw3, hfhbw3⟩ := bcell hbw3
      have hzhbw3 := hbw3.size
      try simp at hzhbw3
      have hzhbw30 : w.heap.size < w3.heap.size := by omega
      have hzhbw31 : w.heap.size + 1 < w3.heap.size := by omega
      have hBhbw3 : Below w.heap.size w w3 := Below.trans (by (repeat' (first | (with_reducible exact Below.refl _ _) | (with_reducible assumption) | (with_reducible refine Below.alloc ?_ ?_ _) | (with_reducible refine below_drewN ?_ _) | (with_reducible refine Below.drew ?_) | (with_reducible refine Below.setCell ?_ ?_ _) | go_size))) (hbw3.mono (by go_size))
      have hWhbw3 : w.heap.size ≤ w3.heap.size := hBhbw3.size
      clear hbw3 hzhbw3
      rw [Bg.out]
      go_wp2_with fail
      refine (known_any _).mono ?_
      rintro e w4 ⟨rfl, hbw4⟩
      obtain ⟨hchbw4, hfhbw4⟩ := bcell hbw4
      have hzhbw4 := hbw4.size
      try simp at hzhbw4
      have hzhbw40 : w.heap.size < w4.heap.size := by omega
      have hzhbw41 : w.heap.size + 1 < w4.heap.size := by omega
      have hBhbw4 : Below w.heap.size w w4 := Below.trans (by (repeat' (first | (with_reducible exact Below.refl _ _) | (with_reducible assumption) | (with_reducible refine Below.alloc ?_ ?_ _) | (with_reducible refine below_drewN ?_ _) | (with_reducible refine Below.drew ?_) | (with_reducible refine Below.setCell ?_ ?_ _) | go_size))) (hbw4.mono (by go_size))
      have hWhbw4 : w.heap.size ≤ w4.heap.size := hBhbw4.size
      clear hbw4 hzhbw4
      go_wp2_with fail
      go_ret
      exact ⟨rfl, by (repeat' (first | (with_reducible exact Below.refl _ _) | (with_reducible assumption) | (with_reducible refine Below.alloc ?_ ?_ _) | (with_reducible refine below_drewN ?_ _) | (with_reducible refine Below.drew ?_) | (with_reducible refine Below.setCell ?_ ?_ _) | go_size))⟩
  · have Bf : Hid (canonB n d = false) := Lib.hid (by simpa [canonB] using cf)
    clear cf
    go_enter Try.func6, Try.ntmps6
    go_wp2_with fail
    refine (known_any _).mono ?_
    rintro e w1 ⟨rfl, hbw1⟩
    obtain ⟨hchbw1, hfhbw1⟩ := bcell hbw1
    have hzhbw1 := hbw1.size
    try simp at hzhbw1
    have hzhbw10 : w.heap.size < w1.heap.size := by omega
    have hzhbw11 : w.heap.size + 1 < w1.heap.size := by omega
    have hBhbw1 : Below w.heap.size w w1 := Below.trans (by (repeat' (first | (with_reducible exact Below.refl _ _) | (with_reducible assumption) | (with_reducible refine Below.alloc ?_ ?_ _) | (with_reducible refine below_drewN ?_ _) | (with_reducible refine Below.drew ?_) | (with_reducible refine Below.setCell ?_ ?_ _) | go_size))) (hbw1.mono (by go_size))
    have hWhbw1 : w.heap.size ≤ w1.heap.size := hBhbw1.size
    clear hbw1 hzhbw1
    go_wp2_with fail
    refine (rcheck_any n d hn1 hn2 hd1 hd2 _).mono ?_
    rintro e w2 ⟨rfl, hbw2⟩
    obtain ⟨hchbw2, hfhbw2⟩ := bcell hbw2
    have hzhbw2 := hbw2.size
    try simp at hzhbw2
    have hzhbw20 : w.heap.size < w2.heap.size := by omega
    have hzhbw21 : w.heap.size + 1 < w2.heap.size := by omega
    have hBhbw2 : Below w.heap.size w w2 := Below.trans (by (repeat' (first | (with_reducible exact Below.refl _ _) | (with_reducible assumption) | (with_reducible refine Below.alloc ?_ ?_ _) | (with_reducible refine below_drewN ?_ _) | (with_reducible refine Below.drew ?_) | (with_reducible refine Below.setCell ?_ ?_ _) | go_size))) (hbw2.mono (by go_size))
    have hWhbw2 : w.heap.size ≤ w2.heap.size := hBhbw2.size
    clear hbw2 hzhbw2
    rw [Bf.out]
    go_wp2_with fail
    refine (known_any _).mono ?_
    rintro e w4 ⟨rfl, hbw4⟩
    obtain ⟨hchbw4, hfhbw4⟩ := bcell hbw4
    have hzhbw4 := hbw4.size
    try simp at hzhbw4
    have hzhbw40 : w.heap.size < w4.heap.size := by omega
    have hzhbw41 : w.heap.size + 1 < w4.heap.size := by omega
    have hBhbw4 : Below w.heap.size w w4 := Below.trans (by (repeat' (first | (with_reducible exact Below.refl _ _) | (with_reducible assumption) | (with_reducible refine Below.alloc ?_ ?_ _) | (with_reducible refine below_drewN ?_ _) | (with_reducible refine Below.drew ?_) | (with_reducible refine Below.setCell ?_ ?_ _) | go_size))) (hbw4.mono (by go_size))
    have hWhbw4 : w.heap.size ≤ w4.heap.size := hBhbw4.size
    clear hbw4 hzhbw4
    go_wp2_with fail
    go_ret
    exact ⟨rfl, by (repeat' (first | (with_reducible exact Below.refl _ _) | (with_reducible assumption) | (with_reducible refine Below.alloc ?_ ?_ _) | (with_reducible refine below_drewN ?_ _) | (with_reducible refine Below.drew ?_) | (with_reducible refine Below.setCell ?_ ?_ _) | go_size))⟩

set_option maxRecDepth 100000 in
theorem lifted (os : Os) (started : os.Started) (H : Type) (enc : TypeId × Value → H) :
    ReturnsInHanded {} Try.checked os 6 .any (Rows.fractionAddsSpec.pre6 enc Try.prog Try.f6 Rows.fractionAddsRow.domain false) (Rows.fractionAddsSpec.post enc Try.prog Try.f6 false true false false) := by
  refine returnsInHanded_of_change (C := Try.checked) own started (by kernel_rfl) Try.func6
    (ChangeSpec.witness6 (enc := enc) (C := Try.checked) false ⟨#[], #[.agg #[.int .i64 0, .int .i64 0], .agg #[.int .i64 0, .int .i64 0]], []⟩ 8 (by kernel_rfl) (by kernel_rfl) (by kernel_rfl) (by kernel_rfl)) ?_
  intro W base args ds gs before hval0 hW _ _
  have hval : ∀ (j : Nat) t v, Try.f6.params[j]? = some t → args[j]? = some v → Value.okWide Try.prog W .any base t v := hval0
  have hW' := hW
  obtain ⟨p, q, hA0, hV, rfl, _, _⟩ := hW
  have hA : DataW.TrodAll enc Try.prog W 0 (fun _ => true) true Try.f6.params.toList args.toList ds p := hA0
  rw [Try.params6] at hA hval
  obtain ⟨v0, vs0, d0, ds0, p0, q0, hargs0, rfl, rfl, h0, r0⟩ := trodAll_cons hA
  obtain ⟨v1, vs1, d1, ds1, p1, q1, hargs1, rfl, rfl, h1, r1⟩ := trodAll_cons r0
  obtain ⟨rfl, rfl, rfl⟩ := trodAll_nil r1
  obtain rfl : args = #[v0, v1] := by cases args; simp_all
  obtain ⟨rfl, rfl⟩ := trodVars_none hV
  obtain ⟨c0, e0, y0, z0, m0, rfl, rfl, rfl, hy0, hz0⟩ := open_agg2 Try.underlying23 (by kernel_rfl) cells_fr (hval 0 23 v0 rfl rfl) h0
  obtain ⟨a0, ea0, rfl, wa0⟩ := DataW.trod_int Try.underlying3 hy0
  obtain ⟨b0, eb0, rfl, wb0⟩ := DataW.trod_int Try.underlying3 hz0
  simp at ea0 eb0
  subst ea0 eb0
  obtain ⟨c1, e1, y1, z1, m1, rfl, rfl, rfl, hy1, hz1⟩ := open_agg2 Try.underlying23 (by kernel_rfl) cells_fr (hval 1 23 v1 rfl rfl) h1
  obtain ⟨a1, ea1, rfl, wa1⟩ := DataW.trod_int Try.underlying3 hy1
  obtain ⟨b1, eb1, rfl, wb1⟩ := DataW.trod_int Try.underlying3 hz1
  simp at ea1 eb1
  subst ea1 eb1
  clear hA0 hval0
  simp only [List.append_nil] at hW'
  refine (walk a0 b0 (bd64 wa0).1 (bd64 wa0).2 (bd64 wb0).1 (bd64 wb0).2 a1 b1 (bd64 wa1).1 (bd64 wa1).2 (bd64 wb1).1 (bd64 wb1).2 W).mono fun e W' ⟨he, hb⟩ => ?_
  subst he
  exact ⟨_, rfl, post_plain hW' hb (fun _ _ _ => trodAll_mk1 (shut_bool Try.underlying4 _)) (fun sp => trodAll_cons_mk (fr_reads wa0 wb0 _ sp) (trodAll_cons_mk (fr_reads wa1 wb1 _ sp) trodAll_mk0)) (fun _ => rfl) (ok_one (by kernel_rfl) rfl (okWide_bool_mk Try.underlying4 _))⟩

theorem proved : Rows.FractionAddsSaid :=
  OpenClaim.holds_of_wide 6 Try.f6 rfl rfl rfl rfl rfl rfl rfl ⟨rfl, rfl, rfl, rfl, rfl⟩ rfl rfl rfl rfl rfl (by kernel_rfl) Try.func6 (by kernel_rfl)
    (of_decide_eq_true (by kernel_rfl)) (by unfold Func.isWrapper; first | (rw [if_pos (by decide +kernel)]; kernel_rfl) | (rw [if_neg (by decide +kernel)]; exact ⟨rfl, rfl⟩))
    (fun os started H enc _ => lifted os started H enc)
end Go.Proofs.Ytmhheepnojbgoaa.lawAdds
