/- The statement DictionaryMerges: for any two lists of strings, the law returns true and changes nothing. No condition. -/
import Derived.Test.YtjkpjcklfpmcnaaRow
namespace Go.Proofs.Ytjkpjcklfpmcnaa.lawMerges
open Go.Proofs.Ytjkpjcklfpmcnaa Go.ChangeShapes Go.WideShapes Go.ChangeAt Go.RowKit Go.Joins Dp

theorem few_true {L : List ByteArray} (h : fewB L = true) : L.length ≤ 60 ∧ ∀ x ∈ L, x.size ≤ 300 := by
  unfold fewB at h
  rw [Bool.and_eq_true] at h
  refine ⟨of_decide_eq_true h.2, fun x hx => ?_⟩
  exact of_decide_eq_true (List.all_eq_true.1 h.1 x hx)
theorem bld_comm (a b : List ByteArray) : bld (b ++ a) = bld (a ++ b) := srt_ext (bld_srt _) (bld_srt _) fun x => by
  rw [bld_mem, bld_mem, List.mem_append, List.mem_append, or_comm]
theorem bld_twice {a : List ByteArray} (h : Srt a) : bld (a ++ a) = a := srt_ext (bld_srt _) h fun x => by
  rw [bld_mem, List.mem_append, or_self]
theorem fr_cd {D M : List ByteArray} (hS : Srt D) (h : ∀ x ∈ M, x ∈ D) : M.map (frV D) = M.map (cdV D) :=
  List.map_congr_left fun x hx => by
    obtain ⟨k, hk, _⟩ := fd_mem hS (h x hx)
    unfold frV cdV; rw [hk]; rfl
set_option maxRecDepth 100000 in
set_option maxHeartbeats 4000000 in
theorem walk (w : World) (A : Option Addr) (c : Nat) (L : List ByteArray) (hL : L.length ≤ 9223372036854775807) (hs : ∀ x ∈ L, x.size ≤ 9223372036854775807) (hR : Rd Value.string w A L) (A' : Option Addr) (c' : Nat) (M : List ByteArray) (hM : M.length ≤ 9223372036854775807) (hsM : ∀ x ∈ M, x.size ≤ 9223372036854775807) (hRM : Rd Value.string w A' M) :
    Calls Try.prog 7 #[.slice A L.length c, .slice A' M.length c'] w fun e w' => e = .returned (.bool true) ∧ Below w.heap.size w w' := by
  have HR := Lib.hid hR
  have HRM := Lib.hid hRM
  have hfew := fun W => few_any A c L hL hs W
  have hfewM := fun W => few_any A' c' M hM hsM W
  cases hf : fewB L with
  | true =>
    rw [hf] at hfew
    have HFW := Lib.hid hfew
    obtain ⟨hl, hz⟩ := few_true hf
    cases hfM : fewB M with
    | true =>
      rw [hfM] at hfewM
      have HFM := Lib.hid hfewM
      obtain ⟨hlM, hzM⟩ := few_true hfM
      have hd := fun W => dictionaryOf_any A c L (by omega) hs W
      have hdM := fun W => dictionaryOf_any A' c' M (by omega) hsM W
      have hal := dcO_len L
      have hbl := dcO_len M
      have haS := dcO_srt L
      have has := dcO_size L
      have hbs := dcO_size M
      obtain ⟨a, ha⟩ : ∃ a, a = dcO L := ⟨_, rfl⟩
      obtain ⟨b, hb⟩ : ∃ b, b = dcO M := ⟨_, rfl⟩
      rw [← ha] at hd hal haS has
      rw [← hb] at hdM hbl hbs
      have hVl := bld_len (a ++ b)
      have hVS := bld_srt (a ++ b)
      rw [List.length_append] at hVl
      have hab : ∀ x ∈ a ++ b, x.size ≤ 255 := fun x hx => by
        rcases List.mem_append.1 hx with h | h
        · exact has x h
        · exact hbs x h
      have hba : ∀ x ∈ b ++ a, x.size ≤ 255 := fun x hx => by
        rcases List.mem_append.1 hx with h | h
        · exact hbs x h
        · exact has x h
      have haa : ∀ x ∈ a ++ a, x.size ≤ 255 := fun x hx => by
        rcases List.mem_append.1 hx with h | h
        · exact has x h
        · exact has x h
      have o1 := bdE_ok hab (by omega)
      have o2 := bdE_ok hba (by rw [bld_comm]; omega)
      have o3 := bdE_ok haa (by rw [bld_twice haS]; omega)
      have m1 := fun X x Y y W p q r s => merge_any X Y x y a b (by omega) (by omega) (fun z hz => by have := hab z hz; omega) p q r s W
      have m2 := fun X x Y y W p q r s => merge_any X Y x y b a (by omega) (by omega) (fun z hz => by have := hba z hz; omega) p q r s W
      have m3 := fun X x Y y W p q r s => merge_any X Y x y a a (by omega) (by omega) (fun z hz => by have := haa z hz; omega) p q r s W
      rw [o1.1, o1.2, if_pos rfl, if_pos rfl] at m1
      rw [o2.1, o2.2, if_pos rfl, if_pos rfl, bld_comm] at m2
      rw [o3.1, o3.2, if_pos rfl, bld_twice haS] at m3
      have m4 := fun X x Y y W p q => rmerge_any X Y x y a b (by omega) (by omega) p q W
      rw [bld_merge haS b] at m4
      obtain ⟨V, hV⟩ : ∃ V, V = bld (a ++ b) := ⟨_, rfl⟩
      have hinA : ∀ x ∈ a, x ∈ V := fun x hx => by rw [hV, bld_mem]; exact List.mem_append_left _ hx
      have hinB : ∀ x ∈ b, x ∈ V := fun x hx => by rw [hV, bld_mem]; exact List.mem_append_right _ hx
      rw [← hV] at m1 m2 m4 hVl hVS
      have f1 := fun X x Y y W => rfrom_any X Y x y a V (by omega) (by omega) W
      have f2 := fun X x Y y W => rfrom_any X Y x y b V (by omega) (by omega) W
      have f3 := fun X x Y y W => rfrom_any X Y x y a a (by omega) (by omega) W
      rw [fr_cd hVS hinA] at f1
      rw [fr_cd hVS hinB] at f2
      rw [fr_cd haS (fun x hx => hx)] at f3
      have hx1 : (a.map (cdV V)).length ≤ 60 := by rw [List.length_map]; omega
      have hx2 : (b.map (cdV V)).length ≤ 60 := by rw [List.length_map]; omega
      have hx3 : (a.map (cdV a)).length ≤ 60 := by rw [List.length_map]; omega
      obtain ⟨X, hX⟩ : ∃ X, X = a.map (cdV V) := ⟨_, rfl⟩
      obtain ⟨Y, hY⟩ : ∃ X, X = b.map (cdV V) := ⟨_, rfl⟩
      obtain ⟨Z, hZ⟩ : ∃ X, X = a.map (cdV a) := ⟨_, rfl⟩
      rw [← hX] at m1 m2 f1 hx1
      rw [← hY] at m1 m2 f2 hx2
      rw [← hZ] at m3 f3 hx3
      have H1 := Lib.hid m1
      have H2 := Lib.hid m2
      have H3 := Lib.hid m3
      have H4 := Lib.hid m4
      have F1 := Lib.hid f1
      have F2 := Lib.hid f2
      have F3 := Lib.hid f3
      have HD := Lib.hid hd
      have HDM := Lib.hid hdM
      clear hfew hfewM hf hfM hd hdM haS has hbs ha hb hab hba haa o1 o2 o3 m1 m2 m3 m4 f1 f2 f3 hV hinA hinB hX hY hZ hVS hR hRM hs hsM hz hzM
      go_enter Try.func7, Try.ntmps7
      go_wp2_with fail
      refine (known_any w).mono ?_
      rintro e w1 ⟨rfl, hB1⟩
      have HB1 := Lib.hid hB1
      have K1 := Lib.hid (HR.out.below hB1)
      have M1 := Lib.hid (HRM.out.below hB1)
      clear hB1
      go_wp2_with fail
      refine (HFW.out w1 K1.out).mono ?_
      rintro e w1' ⟨rfl, rfl⟩
      go_wp2_with fail
      refine (HFM.out _ M1.out).mono ?_
      rintro e w1' ⟨rfl, rfl⟩
      go_wp2_with fail
      refine (HD.out _ K1.out).mono ?_
      rintro e w2 ⟨⟨A2, c2, rfl, hc2, hA2, hr2⟩, hB2⟩
      have HB2 := Lib.hid (below_to HB1.out hB2)
      have M2 := Lib.hid (M1.out.below hB2)
      have a2 := Lib.hid hr2
      have GA := Lib.hid hA2
      clear hB2 hr2 hA2
      go_wp2_with fail
      refine (HDM.out _ M2.out).mono ?_
      rintro e w3 ⟨⟨A3, c3, rfl, hc3, hA3, hr3⟩, hB3⟩
      have HB3 := Lib.hid (below_to HB2.out hB3)
      have a3 := Lib.hid (a2.out.below hB3)
      have b3 := Lib.hid hr3
      have GB := Lib.hid hA3
      clear hB3 hr3 hA3
      go_wp2_with fail
      refine (H1.out A2 c2 A3 c3 _ GA.out GB.out hc2 hc3 a3.out b3.out).mono ?_
      rintro e w4 ⟨⟨D1, d1, X1, x1, Y1, y1, rfl, hd1, hx1', hy1, rd1, rx1, ry1⟩, hB4⟩
      have HB4 := Lib.hid (below_to HB3.out hB4)
      have a4 := Lib.hid (a3.out.below hB4)
      have b4 := Lib.hid (b3.out.below hB4)
      have p4 := Lib.hid rd1
      have q4 := Lib.hid rx1
      have r4 := Lib.hid ry1
      clear hB4 rd1 rx1 ry1
      go_wp2_with fail
      refine (H2.out A3 c3 A2 c2 _ GB.out GA.out hc3 hc2 b4.out a4.out).mono ?_
      rintro e w5 ⟨⟨D2, d2, X2, x2, Y2, y2, rfl, hd2, hx2', hy2, rd2, rx2, ry2⟩, hB5⟩
      have HB5 := Lib.hid (below_to HB4.out hB5)
      have a5 := Lib.hid (a4.out.below hB5)
      have b5 := Lib.hid (b4.out.below hB5)
      have p5 := Lib.hid (p4.out.below hB5)
      have q5 := Lib.hid (q4.out.below hB5)
      have r5 := Lib.hid (r4.out.below hB5)
      have s5 := Lib.hid rd2
      have t5 := Lib.hid rx2
      have u5 := Lib.hid ry2
      clear hB5 rd2 rx2 ry2
      go_wp2_with fail
      refine (H3.out A2 c2 A2 c2 _ GA.out GA.out hc2 hc2 a5.out a5.out).mono ?_
      rintro e w6 ⟨⟨D3, d3, X3, x3, Y3, y3, rfl, hd3, hx3', hy3, rd3, rx3, ry3⟩, hB6⟩
      have HB6 := Lib.hid (below_to HB5.out hB6)
      have a6 := Lib.hid (a5.out.below hB6)
      have b6 := Lib.hid (b5.out.below hB6)
      have p6 := Lib.hid (p5.out.below hB6)
      have q6 := Lib.hid (q5.out.below hB6)
      have r6 := Lib.hid (r5.out.below hB6)
      have s6 := Lib.hid (s5.out.below hB6)
      have t6 := Lib.hid (t5.out.below hB6)
      have u6 := Lib.hid (u5.out.below hB6)
      have v6 := Lib.hid rd3
      have z6 := Lib.hid rx3
      have y6 := Lib.hid ry3
      clear hB6 rd3 rx3 ry3
      go_wp2_with fail
      refine (H4.out A2 c2 A3 c3 _ GA.out hc2 a6.out b6.out).mono ?_
      rintro e w7 ⟨⟨D4, d4, rfl, hd4, hA4, rd4⟩, hB7⟩
      have HB7 := Lib.hid (below_to HB6.out hB7)
      have a7 := Lib.hid (a6.out.below hB7)
      have b7 := Lib.hid (b6.out.below hB7)
      have p7 := Lib.hid (p6.out.below hB7)
      have q7 := Lib.hid (q6.out.below hB7)
      have r7 := Lib.hid (r6.out.below hB7)
      have s7 := Lib.hid (s6.out.below hB7)
      have t7 := Lib.hid (t6.out.below hB7)
      have u7 := Lib.hid (u6.out.below hB7)
      have v7 := Lib.hid (v6.out.below hB7)
      have z7 := Lib.hid (z6.out.below hB7)
      have y7 := Lib.hid (y6.out.below hB7)
      have g7 := Lib.hid rd4
      clear hB7 rd4 hA4
      go_wp2_with fail
      have hsm := same_any D1 D4 d1 d4 V V (by omega) (by omega) _ p7.out g7.out
      rw [decide_eq_true rfl] at hsm
      refine hsm.mono ?_
      rintro e w8 ⟨rfl, hB8⟩
      have HB8 := Lib.hid (below_to HB7.out hB8)
      have a8 := Lib.hid (a7.out.below hB8)
      have b8 := Lib.hid (b7.out.below hB8)
      have q8 := Lib.hid (q7.out.below hB8)
      have r8 := Lib.hid (r7.out.below hB8)
      have s8 := Lib.hid (s7.out.below hB8)
      have t8 := Lib.hid (t7.out.below hB8)
      have u8 := Lib.hid (u7.out.below hB8)
      have v8 := Lib.hid (v7.out.below hB8)
      have z8 := Lib.hid (z7.out.below hB8)
      have y8 := Lib.hid (y7.out.below hB8)
      have p8 := Lib.hid (p7.out.below hB8)
      have g8 := Lib.hid (g7.out.below hB8)
      clear hB8
      go_wp2_with fail
      refine (F1.out D4 d4 A2 c2 _ a8.out g8.out).mono ?_
      rintro e w9 ⟨⟨iA, ic, rfl, hic, ri⟩, hB9⟩
      have HB9 := Lib.hid (below_to HB8.out hB9)
      have a9 := Lib.hid (a8.out.below hB9)
      have b9 := Lib.hid (b8.out.below hB9)
      have q9 := Lib.hid (q8.out.below hB9)
      have r9 := Lib.hid (r8.out.below hB9)
      have s9 := Lib.hid (s8.out.below hB9)
      have t9 := Lib.hid (t8.out.below hB9)
      have u9 := Lib.hid (u8.out.below hB9)
      have v9 := Lib.hid (v8.out.below hB9)
      have z9 := Lib.hid (z8.out.below hB9)
      have y9 := Lib.hid (y8.out.below hB9)
      have p9 := Lib.hid (p8.out.below hB9)
      have g9 := Lib.hid (g8.out.below hB9)
      have i9 := Lib.hid ri
      clear hB9 ri
      go_wp2_with fail
      have hsm := sameInts_any X1 iA x1 ic X X (by omega) (by omega) _ q9.out i9.out
      rw [decide_eq_true rfl] at hsm
      refine hsm.mono ?_
      rintro e w10 ⟨rfl, hB10⟩
      have HB10 := Lib.hid (below_to HB9.out hB10)
      have a10 := Lib.hid (a9.out.below hB10)
      have b10 := Lib.hid (b9.out.below hB10)
      have q10 := Lib.hid (q9.out.below hB10)
      have r10 := Lib.hid (r9.out.below hB10)
      have s10 := Lib.hid (s9.out.below hB10)
      have t10 := Lib.hid (t9.out.below hB10)
      have u10 := Lib.hid (u9.out.below hB10)
      have v10 := Lib.hid (v9.out.below hB10)
      have z10 := Lib.hid (z9.out.below hB10)
      have y10 := Lib.hid (y9.out.below hB10)
      have g10 := Lib.hid (g9.out.below hB10)
      clear hB10
      go_wp2_with fail
      refine (F2.out D4 d4 A3 c3 _ b10.out g10.out).mono ?_
      rintro e w11 ⟨⟨jA, jc, rfl, hjc, rj⟩, hB11⟩
      have HB11 := Lib.hid (below_to HB10.out hB11)
      have a11 := Lib.hid (a10.out.below hB11)
      have q11 := Lib.hid (q10.out.below hB11)
      have r11 := Lib.hid (r10.out.below hB11)
      have s11 := Lib.hid (s10.out.below hB11)
      have t11 := Lib.hid (t10.out.below hB11)
      have u11 := Lib.hid (u10.out.below hB11)
      have v11 := Lib.hid (v10.out.below hB11)
      have z11 := Lib.hid (z10.out.below hB11)
      have y11 := Lib.hid (y10.out.below hB11)
      have g11 := Lib.hid (g10.out.below hB11)
      have j11 := Lib.hid rj
      clear hB11 rj
      go_wp2_with fail
      have hsm := sameInts_any Y1 jA y1 jc Y Y (by omega) (by omega) _ r11.out j11.out
      rw [decide_eq_true rfl] at hsm
      refine hsm.mono ?_
      rintro e w12 ⟨rfl, hB12⟩
      have HB12 := Lib.hid (below_to HB11.out hB12)
      have a12 := Lib.hid (a11.out.below hB12)
      have q12 := Lib.hid (q11.out.below hB12)
      have r12 := Lib.hid (r11.out.below hB12)
      have s12 := Lib.hid (s11.out.below hB12)
      have t12 := Lib.hid (t11.out.below hB12)
      have u12 := Lib.hid (u11.out.below hB12)
      have v12 := Lib.hid (v11.out.below hB12)
      have z12 := Lib.hid (z11.out.below hB12)
      have y12 := Lib.hid (y11.out.below hB12)
      have g12 := Lib.hid (g11.out.below hB12)
      clear hB12
      go_wp2_with fail
      have hsm := same_any D2 D4 d2 d4 V V (by omega) (by omega) _ s12.out g12.out
      rw [decide_eq_true rfl] at hsm
      refine hsm.mono ?_
      rintro e w13 ⟨rfl, hB13⟩
      have HB13 := Lib.hid (below_to HB12.out hB13)
      have a13 := Lib.hid (a12.out.below hB13)
      have q13 := Lib.hid (q12.out.below hB13)
      have r13 := Lib.hid (r12.out.below hB13)
      have t13 := Lib.hid (t12.out.below hB13)
      have u13 := Lib.hid (u12.out.below hB13)
      have v13 := Lib.hid (v12.out.below hB13)
      have z13 := Lib.hid (z12.out.below hB13)
      have y13 := Lib.hid (y12.out.below hB13)
      clear hB13
      go_wp2_with fail
      have hsm := sameInts_any X2 Y1 x2 y1 Y Y (by omega) (by omega) _ t13.out r13.out
      rw [decide_eq_true rfl] at hsm
      refine hsm.mono ?_
      rintro e w14 ⟨rfl, hB14⟩
      have HB14 := Lib.hid (below_to HB13.out hB14)
      have a14 := Lib.hid (a13.out.below hB14)
      have q14 := Lib.hid (q13.out.below hB14)
      have u14 := Lib.hid (u13.out.below hB14)
      have v14 := Lib.hid (v13.out.below hB14)
      have z14 := Lib.hid (z13.out.below hB14)
      have y14 := Lib.hid (y13.out.below hB14)
      clear hB14
      go_wp2_with fail
      have hsm := sameInts_any Y2 X1 y2 x1 X X (by omega) (by omega) _ u14.out q14.out
      rw [decide_eq_true rfl] at hsm
      refine hsm.mono ?_
      rintro e w15 ⟨rfl, hB15⟩
      have HB15 := Lib.hid (below_to HB14.out hB15)
      have a15 := Lib.hid (a14.out.below hB15)
      have v15 := Lib.hid (v14.out.below hB15)
      have z15 := Lib.hid (z14.out.below hB15)
      have y15 := Lib.hid (y14.out.below hB15)
      clear hB15
      go_wp2_with fail
      have hsm := same_any D3 A2 d3 c2 a a (by omega) (by omega) _ v15.out a15.out
      rw [decide_eq_true rfl] at hsm
      refine hsm.mono ?_
      rintro e w16 ⟨rfl, hB16⟩
      have HB16 := Lib.hid (below_to HB15.out hB16)
      have a16 := Lib.hid (a15.out.below hB16)
      have z16 := Lib.hid (z15.out.below hB16)
      have y16 := Lib.hid (y15.out.below hB16)
      clear hB16
      go_wp2_with fail
      have hsm := sameInts_any X3 Y3 x3 y3 Z Z (by omega) (by omega) _ z16.out y16.out
      rw [decide_eq_true rfl] at hsm
      refine hsm.mono ?_
      rintro e w17 ⟨rfl, hB17⟩
      have HB17 := Lib.hid (below_to HB16.out hB17)
      have a17 := Lib.hid (a16.out.below hB17)
      have z17 := Lib.hid (z16.out.below hB17)
      clear hB17
      go_wp2_with fail
      refine (F3.out A2 c2 A2 c2 _ a17.out a17.out).mono ?_
      rintro e w18 ⟨⟨kA, kc, rfl, hkc, rk⟩, hB18⟩
      have HB18 := Lib.hid (below_to HB17.out hB18)
      have z18 := Lib.hid (z17.out.below hB18)
      have k18 := Lib.hid rk
      clear hB18 rk
      go_wp2_with fail
      have hsm := sameInts_any X3 kA x3 kc Z Z (by omega) (by omega) _ z18.out k18.out
      rw [decide_eq_true rfl] at hsm
      refine hsm.mono ?_
      rintro e w19 ⟨rfl, hB19⟩
      have HB19 := Lib.hid (below_to HB18.out hB19)
      clear hB19
      go_wp2_with fail
      go_ret
      exact ⟨rfl, HB19.out⟩
    | false =>
      rw [hfM] at hfewM
      have HFM := Lib.hid hfewM
      clear hfew hfewM hf hfM hR hRM hs hsM hL hM hz
      go_enter Try.func7, Try.ntmps7
      go_wp2_with fail
      refine (known_any w).mono ?_
      rintro e w1 ⟨rfl, hB1⟩
      have HB1 := Lib.hid hB1
      have K1 := Lib.hid (HR.out.below hB1)
      have M1 := Lib.hid (HRM.out.below hB1)
      go_wp2_with fail
      refine (HFW.out w1 K1.out).mono ?_
      rintro e w1' ⟨rfl, rfl⟩
      go_wp2_with fail
      refine (HFM.out _ M1.out).mono ?_
      rintro e w1' ⟨rfl, rfl⟩
      clear hB1
      go_wp2_with fail
      refine (known_any _).mono ?_
      rintro e w2 ⟨rfl, hB2⟩
      have HB2 := Lib.hid (below_to HB1.out hB2)
      clear hB2
      go_wp2_with fail
      go_ret
      exact ⟨rfl, HB2.out⟩
  | false =>
    rw [hf] at hfew
    have HFW := Lib.hid hfew
    clear hfew hfewM hf hR hRM hs hsM hL hM
    go_enter Try.func7, Try.ntmps7
    go_wp2_with fail
    refine (known_any w).mono ?_
    rintro e w1 ⟨rfl, hB1⟩
    have HB1 := Lib.hid hB1
    have K1 := Lib.hid (HR.out.below hB1)
    go_wp2_with fail
    refine (HFW.out w1 K1.out).mono ?_
    rintro e w1' ⟨rfl, rfl⟩
    clear hB1
    go_wp2_with fail
    refine (known_any _).mono ?_
    rintro e w2 ⟨rfl, hB2⟩
    have HB2 := Lib.hid (below_to HB1.out hB2)
    clear hB2
    go_wp2_with fail
    go_ret
    exact ⟨rfl, HB2.out⟩

set_option maxRecDepth 100000 in
theorem lifted (os : Os) (started : os.Started) (H : Type) (enc : TypeId × Value → H) :
    ReturnsInHanded {} Try.checked os 7 .any (Rows.dictionaryMergesSpec.pre6 enc Try.prog Try.f7 Rows.dictionaryMergesRow.domain false) (Rows.dictionaryMergesSpec.post enc Try.prog Try.f7 false true false false) := by
  refine returnsInHanded_of_change (C := Try.checked) own started (by kernel_rfl) Try.func7
    (ChangeSpec.witness6 (enc := enc) (C := Try.checked) false ⟨#[], #[.slice none 0 0, .slice none 0 0], []⟩ 8 (by kernel_rfl) (by kernel_rfl) (by kernel_rfl) (by kernel_rfl)) ?_
  intro W base args ds gs before hval0 hW _ _
  have hval : ∀ (j : Nat) t v, Try.f7.params[j]? = some t → args[j]? = some v → Value.okWide Try.prog W .any base t v := hval0
  have hW' := hW
  obtain ⟨p, q, hA0, hV, rfl, _, _⟩ := hW
  have hA : DataW.TrodAll enc Try.prog W 0 (fun _ => true) true Try.f7.params.toList args.toList ds p := hA0
  rw [Try.params7] at hA hval
  obtain ⟨v0, vs0, d0, ds0, p0, q0, hargs0, rfl, rfl, h0, r0⟩ := trodAll_cons hA
  obtain ⟨v1, vs1, d1, ds1, p1, q1, hargs1, rfl, rfl, h1, r1⟩ := trodAll_cons r0
  obtain ⟨rfl, rfl, rfl⟩ := trodAll_nil r1
  obtain rfl : args = #[v0, v1] := by cases args; simp_all
  obtain ⟨rfl, rfl⟩ := trodVars_none hV
  have lt0 : ∀ x ∈ p0, x.block < W.heap.size := fun x hx => hW'.lt x (by simp [hx])
  obtain ⟨A0, c0, L0, rfl, hL0, hs0, hR0⟩ := open_strs (hval 0 22 v0 rfl rfl) h0 lt0
  have lt1 : ∀ x ∈ p1, x.block < W.heap.size := fun x hx => hW'.lt x (by simp [hx])
  obtain ⟨A1, c1, L1, rfl, hL1, hs1, hR1⟩ := open_strs (hval 1 22 v1 rfl rfl) h1 lt1
  clear hA0 hval0
  simp only [List.append_nil] at hW'
  refine (walk W A0 c0 L0 hL0 hs0 hR0 A1 c1 L1 hL1 hs1 hR1).mono fun e W' ⟨he, hb⟩ => ?_
  subst he
  exact ⟨_, rfl, post_mem hW' hb (fun _ _ _ => trodAll_mk1 (shut_bool Try.underlying4 _)) (fun sp hsp => by
    have t := trodAll_cons_mk (carry laidOut (by kernel_rfl) (of_decide_eq_true (by kernel_rfl)) h0 hb lt0 sp (fun x hx => hsp x (by simp [hx]))) (trodAll_cons_mk (carry laidOut (by kernel_rfl) (of_decide_eq_true (by kernel_rfl)) h1 hb lt1 sp (fun x hx => hsp x (by simp [hx]))) trodAll_mk0)
    simp only [List.append_nil] at t
    exact t) (fun _ => rfl) (ok_one (by kernel_rfl) rfl (okWide_bool_mk Try.underlying4 _))⟩

theorem proved : Rows.DictionaryMergesSaid :=
  OpenClaim.holds_of_wide 7 Try.f7 rfl rfl rfl rfl rfl rfl rfl ⟨rfl, rfl, rfl, rfl, rfl⟩ rfl rfl rfl rfl rfl (by kernel_rfl) Try.func7 (by kernel_rfl)
    (of_decide_eq_true (by kernel_rfl)) (by unfold Func.isWrapper; first | (rw [if_pos (by decide +kernel)]; kernel_rfl) | (rw [if_neg (by decide +kernel)]; exact ⟨rfl, rfl⟩))
    (fun os started H enc _ => lifted os started H enc)

end Go.Proofs.Ytjkpjcklfpmcnaa.lawMerges
