/- The program's Normal. -/
import Derived.Test.YtkjpficpkpfkdaaSo
import Derived.Test.YtkjpficpkpfkdaaUn
namespace Go.Proofs.Ytkjpficpkpfkdaa
open Go.ChangeShapes Go.WideShapes Go.ChangeAt Go.RowKit Ts

/-- The first intervals of a list that are not empty, joined. -/
def jf (D : List Iv) (j : Nat) : List Iv := ((D.take j).filter (fun x => decide (x.1 < x.2))).foldl jn []
theorem jf_in (D : List Iv) (j : Nat) (h : j < D.length) (hx : D[j].1 < D[j].2) : jf D (j + 1) = jn (jf D j) D[j] := by
  unfold jf
  rw [take_snoc D j h, List.filter_append, List.foldl_append]
  simp [hx]
theorem jf_out (D : List Iv) (j : Nat) (h : j < D.length) (hx : ¬ D[j].1 < D[j].2) : jf D (j + 1) = jf D j := by
  unfold jf
  rw [take_snoc D j h, List.filter_append, List.foldl_append]
  simp [hx]
theorem foldl_jn_len (X L : List Iv) : (X.foldl jn L).length ≤ L.length + X.length := by
  induction X generalizing L with
  | nil => simp
  | cons x X ih => rw [List.foldl_cons]; have := ih (jn L x); have := jn_len L x; simp; omega
theorem jf_len (D : List Iv) (j : Nat) : (jf D j).length ≤ j := by
  unfold jf
  have h1 := foldl_jn_len ((D.take j).filter (fun x => decide (x.1 < x.2))) []
  have h2 := List.length_filter_le (fun x : Iv => decide (x.1 < x.2)) (D.take j)
  rw [List.length_take] at h2
  simp only [List.length_nil] at h1
  omega
/-- Whatever the order of equal beginnings, it is one list. -/
theorem jf_all {D L : List Iv} (hp : D.Perm L) (hs : D.Pairwise (fun x y => x.1 ≤ y.1)) : jf D D.length = ofL L := by
  unfold jf
  rw [List.take_length]
  obtain ⟨n1, n2⟩ := fold_nrm (S := D.filter (fun x => decide (x.1 < x.2))) (fun x hx => by simpa using (List.mem_filter.1 hx).2) (hs.filter _)
  refine nrm_ext n1 (ofL_spec L).1 (fun n => (n2 n).trans (Iff.trans ?_ ((ofL_spec L).2 n).symm))
  constructor
  · rintro ⟨x, hx, h⟩
    exact ⟨x, hp.mem_iff.1 (List.mem_filter.1 hx).1, h⟩
  · rintro ⟨x, hx, h⟩
    exact ⟨x, List.mem_filter.2 ⟨hp.mem_iff.2 hx, by simp; omega⟩, h⟩
set_option maxRecDepth 100000 in
set_option maxHeartbeats 4000000 in
theorem normal_ok {v : Value} {L : List Iv} (hl : L.length ≤ 4096) (hin : allIn L = true) (w : World) (hv : Sl w v L) :
    Calls Try.prog 16 #[v] w fun e w' => (∃ r, e = .returned (.tuple #[r, .int .i64 0]) ∧ Sl w' r (ofL L)) ∧ Below w.heap.size w w' := by
  obtain ⟨A, c, rfl, _, _, hA, hR⟩ := hv
  have HR := Lib.hid hR
  have H1 := Lib.hid (all_in_range A c L (by omega) w hR)
  rw [hin] at H1
  have HA := Lib.hid hA
  clear hR hA hin
  have hl4 : ¬ (4096 : Int) < (L.length : Int) := by omega
  go_enter Try.func16, Try.ntmps16
  go_wp2_with fail
  refine H1.out.mono ?_
  rintro e w1 ⟨rfl, hb⟩
  have HB1 := Lib.hid hb
  have H2 := Lib.hid (clone_any A c L (by omega) HA.out w1 ((HR.out.below hb).more hb.size))
  clear hb
  go_wp2_with fail
  refine H2.out.mono ?_
  rintro e w2 ⟨⟨v, rfl, hown⟩, hb⟩
  have HB2 := Lib.hid (HB1.out.trans (hb.mono HB1.out.size))
  have hwb : w.heap.size ≤ w1.heap.size := HB1.out.size
  obtain ⟨A2, c2, rfl, _, _, hA2⟩ := rs_own hown
  have HO := Lib.hid hown
  clear hb hown
  rcases hA2 with ⟨rfl, hn0, rfl⟩ | ⟨g, rfl, hg0, hg⟩
  · obtain rfl : L = [] := List.eq_nil_of_length_eq_zero hn0
    clear hn0 hl4
    go_wp2_with fail
    refine (sort_none none 0 w2).mono ?_
    rintro e w3 ⟨rfl, rfl⟩
    go_wp2_with fail
    go_loopw [5, 20] (fun u iv wr => u = .slice none 0 0 ∧ iv = .int .i64 0 ∧ Hid (Below w.heap.size w wr)) (fun _ _ _ => 0)
    case atStart => exact ⟨rfl, rfl, HB2⟩
    case round =>
      obtain ⟨rfl, rfl, HB⟩ := hrel
      go_wp2_with fail
      go_ret2
      exact ⟨⟨_, rfl, ⟨none, 0, rfl, Nat.le_refl _, by omega, (fun _ => ⟨rfl, rfl⟩), Rs.nil⟩⟩, HB.out⟩
  · have H3 := Lib.hid (sort_any w1.heap.size g c2 L (by omega) w2 HO.out)
    go_wp2_with fail
    refine H3.out.mono ?_
    rintro e w3 ⟨rfl, D, hp, hs, hR3, hg3⟩
    have hlen := hp.length_eq
    have HAll := Lib.hid (jf_all hp hs)
    have HB3 := Lib.hid (below_grownk (B := w.heap.size) (a := w) HB2.out HO.out hg3 hwb (Nat.le_refl _))
    have HR3 := Lib.hid hR3
    clear hp hs hR3 hg3
    have hl4 : D.length ≤ 4096 := by omega
    rw [← hlen]
    go_wp2_with fail
    go_loopw [5, 20] (fun u iv wr => ∃ j : Nat, j ≤ D.length ∧ iv = .int .i64 (j : Int) ∧ Hid (wr.ownsRow w3.heap.size 25 2 u (jf D j).length (ivCells (jf D j))) ∧ Hid (Below w3.heap.size w3 wr)) (fun _ iv _ => D.length - (intOf iv).toNat)
    case atStart => exact ⟨0, Nat.zero_le _, rfl, Lib.hid ⟨rfl, Or.inl ⟨rfl, rfl⟩⟩, Lib.hid (Below.refl _ _)⟩
    case round =>
      obtain ⟨j, hj, rfl, HOj, HB⟩ := hrel
      by_cases hlt : j < D.length
      · obtain ⟨b, off, e, hb, h0, h1⟩ := iv_at (HR3.out.below HB.out) j hlt
        simp only [Option.some.injEq, Addr.mk.injEq, and_true] at e
        obtain ⟨rfl, rfl⟩ := e
        rw [Nat.zero_add] at h0 h1
        have Hin := Lib.hid (jf_in D j hlt)
        have Hout := Lib.hid (jf_out D j hlt)
        have hjl := jf_len D j
        obtain ⟨x, hx⟩ : ∃ x, x = D[j] := ⟨_, rfl⟩
        rw [← hx] at h0 h1 Hin Hout
        clear hx
        obtain ⟨x1, x2⟩ := x
        dsimp only at h0 h1
        have hjI : (j : Int) < (D.length : Int) := by omega
        have hj0 : (0 : Int) ≤ (j : Int) := by omega
        have hw1 : IntKind.i64.wrap ((j : Int) + 1) = (j : Int) + 1 := by simp only [IntKind.wrap_i64]; omega
        have hgr : g < wr.heap.size := by have := HB.out.size; omega
        by_cases hgt : x1 < x2
        · have E := Lib.hid (Hin.out hgt)
          obtain ⟨J, hJ⟩ : ∃ J, J = jf D j := ⟨_, rfl⟩
          rw [← hJ] at HOj E hjl
          have hA3 : Below wr.heap.size wr (wr.alloc (.cells #[.int .i64 x1, .int .i64 x2] 25)) := (Below.refl _ _).alloc (Nat.le_refl _) _
          have Hjn := Lib.hid (join_any w3.heap.size u5 J (by omega) x1 x2 (wr.alloc (.cells #[.int .i64 x1, .int .i64 x2] 25)) (HOj.out.alloc _) (by have := HB.out.size; simp; omega))
          have HA3 := Lib.hid (HB.out.trans (hA3.mono HB.out.size))
          clear hJ hA3 Hin Hout
          go_wp2_with fail
          refine Hjn.out.mono ?_
          rintro e w4 ⟨v4, rfl, hown4, hg4⟩
          have HO4 := Lib.hid hown4
          have HB4 := Lib.hid (below_grownk (B := w3.heap.size) (a := w3) HA3.out (HOj.out.alloc _) hg4 (Nat.le_refl _) (Nat.le_refl _))
          clear hown4 hg4
          go_wp2_with fail
          go_roundw
          case rel => exact ⟨j + 1, by omega, by go_num, by rw [E.out]; exact HO4, HB4⟩
          case measure => simp [intOf] <;> omega
        · have E := Lib.hid (Hout.out hgt)
          have hle : x2 ≤ x1 := by omega
          clear Hin Hout
          go_wp2_with fail
          go_roundw
          case rel => exact ⟨j + 1, by omega, by go_num, by rw [E.out]; exact Lib.hid (HOj.out.alloc _), Lib.hid (HB.out.alloc HB.out.size _)⟩
          case measure => simp [intOf] <;> omega
      · obtain rfl : j = D.length := by omega
        rw [HAll.out] at HOj
        go_wp2_with fail
        go_ret2
        exact ⟨⟨_, rfl, sl_own HOj.out⟩, HB3.out.trans (HB.out.mono HB3.out.size)⟩
end Go.Proofs.Ytkjpficpkpfkdaa
