/- The reference's insert. -/
import Derived.Test.YtoohphhfigiicaaG
import Derived.Deep.RegionLaw
import Derived.Deep.RegionLawGrows
namespace Go.Proofs.Ytoohphhfigiicaa
open Go.ChangeShapes Go.WideShapes Go.ChangeAt Go.RowKit Dp

section
variable {P : Program} {w : World}
/-- append of some elements to a row of the call's own, as a step of a region that draws. -/
theorem step_append_more {ops : Array Oper} {o : Oper} {a : Act} {K : Act → World → Prop} {Q : Exit → Act → World → Prop} {E : Prop} (hg : o.guard = none) (s x : Operand) (t : TypeId)
    (ho : o.op = .call { callee := .builtin .append, args := #[s, x], argTypes := #[t, t] })
    (base : Nat) (e : TypeId) (i : TypeInfo) (z : Value) (bytes : Nat) (ht : P.underlying t = some (.slice e)) (hi : P.info? e = some i) (hz : i.zero = some z)
    (hsize : i.size = 1) (hby : i.bytes = bytes) (hzs : z.cells.size = 1)
    (v : Value) (n : Nat) (xs : List Value) (hs : a.eval s = v) (hown : w.ownsRow base e 1 v n xs)
    (ao : Option Addr) (m c : Nat) (hx : a.eval x = .slice ao m c) (news : List Value) (hl : news.length = m) (hnone : ao = none → m = 0 ∧ c = 0) (hnews : ∀ ad, ao = some ad → ∀ j u, news[j]? = some u → w.cell? (ad.add j) = some u) (h1 : ∀ u ∈ news, u.oneCell' = true)
    (hn : n + m ≤ 1000000) (hb : bytes ≤ 1000000) (hbase : base ≤ w.heap.size)
    (h : ∀ v' w', w'.ownsRow base e 1 v' (n + m) (xs ++ news) → w.grownBy w' v.ownBlock → K (a.put o.dst v') w') :
    if Region.wanted o (yielded ops a.tmps) = true then Oper.wp P o a w K Q else E := by
  have hw : Region.wanted o (yielded ops a.tmps) = true := by simp [Region.wanted, hg]
  rw [if_pos hw]
  cases ao with
  | some ad =>
    refine wp_append_own w s x t ho base e i z 1 bytes ht hi hz hsize hby hzs (by omega) v n xs hs hown ad m c news hx (by omega) (hnews ad rfl) h1 (by unfold maxLen; omega) ?_ hbase (fun v' w' h2 h3 _ => h v' w' h2 h3)
    have := Nat.mul_le_mul (show n + m ≤ 1000000 by omega) hb
    omega
  | none =>
    obtain ⟨rfl, rfl⟩ := hnone rfl
    obtain rfl : news = [] := List.eq_nil_of_length_eq_zero hl
    have hrun := run_append_owned_none (P := P) (w := w) base t o.type e i 1 ht hi v n xs hown
    unfold Oper.wp
    simp [execOp, ho, resolve, invoke, builtin, hs, hx, hrun, Result.andThen]
    exact h v w (by simpa using hown) ⟨rfl, rfl, rfl, Nat.le_refl _, fun _ _ _ => rfl⟩
end
theorem rd_cells {w : World} {A : Option Addr} {L : List ByteArray} (h : Rd Value.string w A L) (ad : Addr) (e : A = some ad) (k : Nat) : ∀ j u, ((L.drop k).map Value.string)[j]? = some u → w.cell? (ad.add (k + j)) = some u := by
  intro j u hu
  rw [List.getElem?_map, List.getElem?_drop] at hu
  obtain ⟨x, hx, rfl⟩ := Option.map_eq_some_iff.1 hu
  obtain ⟨hk, rfl⟩ := List.getElem?_eq_some_iff.1 hx
  obtain ⟨b, off, e2, hb, hc⟩ := h (k + j) hk
  rw [e] at e2
  injection e2 with e2
  subst e2
  unfold Addr.add
  split
  · rename_i h0
    have e3 : off + (k + j) = off := by omega
    rw [e3] at hc; exact hc
  · exact hc

/-- nil, or an address. -/
def Addressed (A : Option Addr) (c : Nat) : Prop := (A = none ∧ c = 0) ∨ ∃ b off, A = some ⟨b, off, none⟩
/-- A slice of strings that a call returns. -/
def OutS (w : World) (e : Ending) (R : List ByteArray) : Prop :=
  ∃ A c, e = .returned (.slice A R.length c) ∧ R.length ≤ c ∧ Addressed A c ∧ Rd Value.string w A R
theorem ins_have {L : List ByteArray} {s : ByteArray} (h : L[lw L s]? = some s) : ins L s = L := by unfold ins; rw [if_pos h]
theorem ins_new {L : List ByteArray} {s : ByteArray} (h : L[lw L s]? ≠ some s) : ins L s = L.take (lw L s) ++ s :: L.drop (lw L s) := by unfold ins; rw [if_neg h]
theorem cell_cut {w : World} {A : Option Addr} {L : List ByteArray} (h : Rd Value.string w A L) (k c : Nat) (hc : L.length ≤ c) (ad : Addr) (e : (if c = k then A else A.map (fun a => a.add (k * 1))) = some ad) : ∀ j u, ((L.drop k).map Value.string)[j]? = some u → w.cell? (ad.add j) = some u := by
  intro j u hu
  have hu2 := hu
  rw [List.getElem?_map, List.getElem?_drop] at hu2
  obtain ⟨x, hx, rfl⟩ := Option.map_eq_some_iff.1 hu2
  obtain ⟨hk, rfl⟩ := List.getElem?_eq_some_iff.1 hx
  rw [if_neg (by omega)] at e
  obtain ⟨a0, ha0, rfl⟩ := Option.map_eq_some_iff.1 e
  have := rd_cells h a0 ha0 k j _ hu
  have e2 : (a0.add (k * 1)).add j = a0.add (k + j) := by
    rw [Nat.mul_one]
    unfold Addr.add
    by_cases hi : k = 0 <;> by_cases hj : j = 0 <;> simp [hi, hj, Nat.add_assoc]
  rw [e2]; exact this
theorem own_built (w : World) (e : TypeId) (x : Value) : (w.alloc (.cells #[x] e)).drew.ownsRow w.heap.size e 1 (.slice (some ⟨w.heap.size, 0, none⟩) 1 1) 1 [x] :=
  ⟨rfl, .inr ⟨w.heap.size, 1, #[x], rfl, Nat.le_refl _, Deep.blk_alloc_new w _, Nat.le_refl _, by decide, rfl, rfl⟩⟩
theorem own_pos {w : World} {base e n : Nat} {v : Value} {xs : List Value} (h : w.ownsRow base e 1 v n xs) (hn : 0 < n) : ∃ g c, v = .slice (some ⟨g, 0, none⟩) n c ∧ base ≤ g ∧ g < w.heap.size ∧ n ≤ c ∧ ∀ j u, xs[j]? = some u → w.cell? ((⟨g, 0, none⟩ : Addr).add j) = some u := by
  have hl := h.1
  rcases h.2 with ⟨_, h0⟩ | ⟨g, cap, cur, hv, hbase, hg, hnc, hcap, hsz, htake⟩
  · omega
  · refine ⟨g, cap, hv, hbase, (Array.getElem?_eq_some_iff.1 hg).1, hnc, fun j u hu => ?_⟩
    have e1 : (⟨g, 0, none⟩ : Addr).add j = ⟨g, j, none⟩ := by unfold Addr.add; split <;> simp_all
    rw [e1, cell_of_row w g j cur _ _ hg]
    have hj : j < n := by have := (List.getElem?_eq_some_iff.1 hu).1; omega
    have := congrArg (fun l : List Value => l[j]?) htake
    simp only [Nat.mul_one] at this
    rw [List.getElem?_take_of_lt hj] at this
    rw [← Array.getElem?_toList, this]; exact hu
theorem one_strs (l : List ByteArray) : ∀ u ∈ l.map Value.string, u.oneCell' = true := by
  intro u hu
  obtain ⟨x, _, rfl⟩ := List.mem_map.1 hu
  rfl
theorem cells_keep {w w1 : World} {A : Option Addr} {L : List ByteArray} (h : Rd Value.string w A L) (hg : w.grownBy w1 (some w.heap.size)) (k : Nat) (b : Addr) (e : A = some b) : ∀ j u, ((L.take k).map Value.string)[j]? = some u → w1.cell? (b.add j) = some u := by
  intro j u hu
  rw [List.getElem?_map] at hu
  obtain ⟨x, hx, rfl⟩ := Option.map_eq_some_iff.1 hu
  have hj : j < k := by
    have := (List.getElem?_eq_some_iff.1 hx).1
    rw [List.length_take] at this; omega
  rw [List.getElem?_take_of_lt hj] at hx
  obtain ⟨hk, rfl⟩ := List.getElem?_eq_some_iff.1 hx
  obtain ⟨b', off, e2, hb, hc⟩ := h j hk
  rw [e] at e2
  injection e2 with e2
  subst e2
  have e1 : (⟨b', off, none⟩ : Addr).add j = ⟨b', off + j, none⟩ := by unfold Addr.add; split <;> simp_all
  rw [e1]
  exact (World.cell?_of_block (a := ⟨b', off + j, none⟩) (hg.block b' hb (by intro e; injection e with e; omega))).trans hc
theorem drop_cells {w w1 : World} {A : Option Addr} {L : List ByteArray} (h : Rd Value.string w A L) (hg : ∀ p : Addr, p.block < w.heap.size → w1.cell? p = w.cell? p) (k : Nat) (b : Addr) (e : A = some b) (sp : b.spot = none) : ∀ ad, some (⟨b.block, b.off + k, none⟩ : Addr) = some ad → ∀ j u, ((L.drop k).map Value.string)[j]? = some u → w1.cell? (ad.add j) = some u := by
  intro ad had j u hu
  injection had with had
  subst had
  have := rd_cells h b e k j u hu
  rw [List.getElem?_map, List.getElem?_drop] at hu
  obtain ⟨x, hx, rfl⟩ := Option.map_eq_some_iff.1 hu
  obtain ⟨hk, rfl⟩ := List.getElem?_eq_some_iff.1 hx
  obtain ⟨b', off, e2, hb, hc⟩ := h (k + j) hk
  rw [e] at e2
  injection e2 with e2
  subst e2
  have e1 : (⟨b', off + k, none⟩ : Addr).add j = ⟨b', off + (k + j), none⟩ := by unfold Addr.add; split <;> simp_all [Nat.add_assoc]
  rw [e1, hg _ hb]
  exact hc
theorem grown_two {a b c : World} (h : Below a.heap.size a b) (k : b.grownBy c (some a.heap.size)) : Below a.heap.size a c :=
  ⟨k.os.trans h.os, k.tape.trans h.tape, k.output.trans h.output, Nat.le_trans h.size k.size, fun i hi => (k.block i (by have := h.size; omega) (by intro e; injection e with e; omega)).trans (h.block i hi)⟩
theorem grown_none {a b c : World} (h : Below a.heap.size a b) (k : b.grownBy c none) : Below a.heap.size a c :=
  ⟨k.os.trans h.os, k.tape.trans h.tape, k.output.trans h.output, Nat.le_trans h.size k.size, fun i hi => (k.block i (by have := h.size; omega) (by simp)).trans (h.block i hi)⟩
theorem below_own {a b : World} (h : Below a.heap.size a b) : a.grownBy b (some a.heap.size) := ⟨h.os, h.tape, h.output, h.size, fun i hi _ => h.block i hi⟩
set_option maxRecDepth 100000 in
set_option maxHeartbeats 1000000 in
theorem insert_any (A : Option Addr) (c : Nat) (L : List ByteArray) (s : ByteArray) (hL : L.length ≤ 900000) (hc : L.length ≤ c) (hA : Addressed A c) (w : World) (hR : Rd Value.string w A L) :
    Calls Try.prog 49 #[.slice A L.length c, .string s] w fun e w' => OutS w' e (ins L s) ∧ Below w.heap.size w w' := by
  obtain ⟨i0, hi0, hz0, hz1, hz2⟩ := info_parts str_info
  have Hi0 := Lib.hid hi0
  have Hz0 := Lib.hid hz0
  have Hz1 := Lib.hid hz1
  have Hz2 := Lib.hid hz2
  have HR := Lib.hid hR
  have HA := Lib.hid hA
  have hle := lw_le L s
  have hlow := rlower_any A c L (by omega) s w hR
  have HI1 := Lib.hid (@ins_have L s)
  have HI2 := Lib.hid (@ins_new L s)
  obtain ⟨m, hm⟩ : ∃ m, m = lw L s := ⟨_, rfl⟩
  rw [← hm] at hle hlow HI1 HI2
  have Hl := Lib.hid hlow
  clear hR hA hi0 hz0 hz1 hz2 hlow hm
  go_enter Try.func49, Try.ntmps49
  go_wp2_with fail
  refine Hl.out.mono ?_
  rintro e w1 ⟨rfl, rfl⟩
  by_cases hlt : m < L.length
  · obtain ⟨b, off, rfl, hb, hcell⟩ := HR.out m hlt
    obtain ⟨x, hx⟩ : ∃ x, x = L[m] := ⟨_, rfl⟩
    rw [← hx] at hcell
    have Hx : Hid (L[m]? = some x) := Lib.hid (by rw [hx, List.getElem?_eq_getElem hlt])
    clear hx
    by_cases he : x = s
    · subst he
      have hI := HI1.out Hx.out
      have HI := Lib.hid hI
      clear hI
      go_wp2_with fail
      go_ret
      refine ⟨?_, Below.refl _ _⟩
      rw [HI.out]
      exact ⟨_, _, rfl, hc, .inr ⟨_, _, rfl⟩, HR.out⟩
    · have hbe : (x.toList == s.toList) = false := (Lib.bytes_beq_false_iff x s).2 he
      have HI := Lib.hid (HI2.out (by rw [Hx.out]; intro e; injection e with e; exact he e))
      clear he
      go_wp2_with fail
      have hmc : m ≤ c := by omega
      have hcm2 : ¬ c = m := by omega
      have hB1 : Below w1.heap.size w1 (w1.alloc (.cells #[.string s] 9)).drew := ((Below.refl _ _).alloc (Nat.le_refl _) _).drew
      have HB1 := Lib.hid hB1
      clear hB1
      go_region_law ((first
        | (refine step_append_more rfl (.tmp 27) (.tmp 30) 22 rfl w1.heap.size 9 i0 _ 16 Try.underlying22 Hi0.out Hz0.out Hz1.out Hz2.out rfl (.slice (some ⟨w1.heap.size, 0, none⟩) 1 1) 1 [.string s] (by simp [Act.eval]) (own_built _ _ _) (some ⟨b, off + m, none⟩) (L.length - m) (c - m) (by simp [Act.eval]) ((L.drop m).map Value.string) (by simp) (fun h => by cases h) (drop_cells HR.out (fun p hp => HB1.out.cell hp) m ⟨b, off, none⟩ rfl rfl) (one_strs _) (by omega) (by omega) (by simp) ?_; intro v1 w2 hown1 hg1; obtain ⟨g1, c1, rfl, hb1, hl1, hc1, hcells1⟩ := own_pos hown1 (by omega); have HC1 := Lib.hid hcells1; have HB2 := Lib.hid (grown_two HB1.out hg1); clear hown1 hg1 hcells1)
        | (refine step_append_grows rfl (.tmp 25) (.tmp 31) 22 rfl 9 i0 _ 1 16 Try.underlying22 Hi0.out Hz0.out Hz1.out Hz2.out rfl (by omega) (some ⟨b, off, none⟩) m m ((L.take m).map Value.string) (by simp [Act.eval]) (fun h => by cases h) (by rw [List.length_map, List.length_take]; omega) (fun b e => cells_keep HR.out (below_own HB2.out) m b e) ⟨g1, 0, none⟩ (1 + (L.length - m)) c1 ([.string s] ++ (L.drop m).map Value.string) (by simp [Act.eval]) (by simp; omega) HC1.out (one_strs (s :: L.drop m)) (by omega) (by unfold maxLen; omega) (by omega) ?_; intro v2 w3 hown2 hg2; have HB3 := Lib.hid (grown_none HB2.out hg2); obtain ⟨g2, c2, rfl, hb2, hl2, hc2, hcells2⟩ := own_pos hown2 (by omega); have HO2 := Lib.hid hown2; clear hown2 hg2 hcells2)))
      go_wp2_with fail
      go_ret
      refine ⟨?_, HB3.out⟩
      have hlen : (ins L s).length = m + (1 + (L.length - m)) := by rw [HI.out]; simp; omega
      refine ⟨some ⟨g2, 0, none⟩, c2, by rw [hlen]; rfl, by omega, .inr ⟨_, _, rfl⟩, ?_⟩
      have h := HO2.out
      have e : (L.take m).map Value.string ++ ([.string s] ++ (L.drop m).map Value.string) = (ins L s).map Value.string := by rw [HI.out]; simp
      rw [e] at h
      exact Rd.own h
  · have HI := Lib.hid (HI2.out (by rw [List.getElem?_eq_none (by omega)]; intro e; cases e))
    have Hd : Hid ((L.drop m).map Value.string = []) := Lib.hid (by rw [List.drop_eq_nil_of_le (by omega)]; rfl)
    have hmc : m ≤ c := by omega
    have HAd := HA.out
    clear HA
    rcases HAd with ⟨rfl, rfl⟩ | ⟨b, off, rfl⟩
    · obtain rfl : m = 0 := by omega
      obtain rfl : L = [] := List.eq_nil_of_length_eq_zero (by omega)
      go_wp2_with fail
      have hB1 : Below w1.heap.size w1 (w1.alloc (.cells #[.string s] 9)).drew := ((Below.refl _ _).alloc (Nat.le_refl _) _).drew
      have HB1 := Lib.hid hB1
      clear hB1
      go_region_law ((first
        | (refine step_append_more rfl (.tmp 27) (.tmp 30) 22 rfl w1.heap.size 9 i0 _ 16 Try.underlying22 Hi0.out Hz0.out Hz1.out Hz2.out rfl (.slice (some ⟨w1.heap.size, 0, none⟩) 1 1) 1 [.string s] (by simp [Act.eval]) (own_built _ _ _) none 0 0 (by simp [Act.eval]) ((([] : List ByteArray).drop 0).map Value.string) (by simp) (fun _ => ⟨by omega, by omega⟩) (fun ad _ j u hu => by rw [Hd.out] at hu; simp at hu) (one_strs _) (by omega) (by omega) (by simp) ?_; intro v1 w2 hown1 hg1; obtain ⟨g1, c1, rfl, hb1, hl1, hc1, hcells1⟩ := own_pos hown1 (by omega); have HC1 := Lib.hid hcells1; have HB2 := Lib.hid (grown_two HB1.out hg1); clear hown1 hg1 hcells1)
        | (refine step_append_grows rfl (.tmp 25) (.tmp 31) 22 rfl 9 i0 _ 1 16 Try.underlying22 Hi0.out Hz0.out Hz1.out Hz2.out rfl (by omega) none 0 0 ((([] : List ByteArray).take 0).map Value.string) (by simp [Act.eval]) (fun _ => ⟨by omega, by omega⟩) (by rw [List.length_map, List.length_take]; omega) (fun b e => cells_keep HR.out (below_own HB2.out) 0 b e) ⟨g1, 0, none⟩ (1 + 0) c1 ([.string s] ++ (([] : List ByteArray).drop 0).map Value.string) (by simp [Act.eval]) (by simp) HC1.out (one_strs (s :: ([] : List ByteArray).drop 0)) (by omega) (by unfold maxLen; omega) (by omega) ?_; intro v2 w3 hown2 hg2; have HB3 := Lib.hid (grown_none HB2.out hg2); obtain ⟨g2, c2, rfl, hb2, hl2, hc2, hcells2⟩ := own_pos hown2 (by omega); have HO2 := Lib.hid hown2; clear hown2 hg2 hcells2)))
      go_wp2_with fail
      go_ret
      refine ⟨?_, HB3.out⟩
      have hlen : (ins [] s).length = 0 + (1 + 0) := by rw [HI.out]; simp
      refine ⟨some ⟨g2, 0, none⟩, c2, by rw [hlen]; rfl, by omega, .inr ⟨_, _, rfl⟩, ?_⟩
      have h := HO2.out
      have e : (([] : List ByteArray).take 0).map Value.string ++ ([.string s] ++ (([] : List ByteArray).drop 0).map Value.string) = (ins [] s).map Value.string := by rw [HI.out]; simp
      rw [e] at h
      exact Rd.own h
    · by_cases hcm2 : c = m
      · obtain rfl := hcm2
        go_wp2_with fail
        have hB1 : Below w1.heap.size w1 (w1.alloc (.cells #[.string s] 9)).drew := ((Below.refl _ _).alloc (Nat.le_refl _) _).drew
        have HB1 := Lib.hid hB1
        clear hB1
        go_region_law ((first
          | (refine step_append_more rfl (.tmp 27) (.tmp 30) 22 rfl w1.heap.size 9 i0 _ 16 Try.underlying22 Hi0.out Hz0.out Hz1.out Hz2.out rfl (.slice (some ⟨w1.heap.size, 0, none⟩) 1 1) 1 [.string s] (by simp [Act.eval]) (own_built _ _ _) (some ⟨b, off, none⟩) 0 0 (by simp [Act.eval]) ((L.drop c).map Value.string) (by rw [Hd.out]; rfl) (fun h => by cases h) (fun ad _ j u hu => by rw [Hd.out] at hu; simp at hu) (one_strs _) (by omega) (by omega) (by simp) ?_; intro v1 w2 hown1 hg1; obtain ⟨g1, c1, rfl, hb1, hl1, hc1, hcells1⟩ := own_pos hown1 (by omega); have HC1 := Lib.hid hcells1; have HB2 := Lib.hid (grown_two HB1.out hg1); clear hown1 hg1 hcells1)
          | (refine step_append_grows rfl (.tmp 25) (.tmp 31) 22 rfl 9 i0 _ 1 16 Try.underlying22 Hi0.out Hz0.out Hz1.out Hz2.out rfl (by omega) (some ⟨b, off, none⟩) c c ((L.take c).map Value.string) (by simp [Act.eval]) (fun h => by cases h) (by rw [List.length_map, List.length_take]; omega) (fun b e => cells_keep HR.out (below_own HB2.out) c b e) ⟨g1, 0, none⟩ (1 + 0) c1 ([.string s] ++ (L.drop c).map Value.string) (by simp [Act.eval]) (by rw [Hd.out]; rfl) HC1.out (one_strs (s :: L.drop c)) (by omega) (by unfold maxLen; omega) (by omega) ?_; intro v2 w3 hown2 hg2; have HB3 := Lib.hid (grown_none HB2.out hg2); obtain ⟨g2, c2, rfl, hb2, hl2, hc2, hcells2⟩ := own_pos hown2 (by omega); have HO2 := Lib.hid hown2; clear hown2 hg2 hcells2)))
        go_wp2_with fail
        go_ret
        refine ⟨?_, HB3.out⟩
        have hlen : (ins L s).length = c + (1 + 0) := by rw [HI.out]; simp; omega
        refine ⟨some ⟨g2, 0, none⟩, c2, by rw [hlen]; rfl, by omega, .inr ⟨_, _, rfl⟩, ?_⟩
        have h := HO2.out
        have e : (L.take c).map Value.string ++ ([.string s] ++ (L.drop c).map Value.string) = (ins L s).map Value.string := by rw [HI.out]; simp
        rw [e] at h
        exact Rd.own h
      · go_wp2_with fail
        have hB1 : Below w1.heap.size w1 (w1.alloc (.cells #[.string s] 9)).drew := ((Below.refl _ _).alloc (Nat.le_refl _) _).drew
        have HB1 := Lib.hid hB1
        clear hB1
        go_region_law ((first
          | (refine step_append_more rfl (.tmp 27) (.tmp 30) 22 rfl w1.heap.size 9 i0 _ 16 Try.underlying22 Hi0.out Hz0.out Hz1.out Hz2.out rfl (.slice (some ⟨w1.heap.size, 0, none⟩) 1 1) 1 [.string s] (by simp [Act.eval]) (own_built _ _ _) (some ⟨b, off + m, none⟩) (L.length - m) (c - m) (by simp [Act.eval]) ((L.drop m).map Value.string) (by simp) (fun h => by cases h) (fun ad _ j u hu => by rw [Hd.out] at hu; simp at hu) (one_strs _) (by omega) (by omega) (by simp) ?_; intro v1 w2 hown1 hg1; obtain ⟨g1, c1, rfl, hb1, hl1, hc1, hcells1⟩ := own_pos hown1 (by omega); have HC1 := Lib.hid hcells1; have HB2 := Lib.hid (grown_two HB1.out hg1); clear hown1 hg1 hcells1)
          | (refine step_append_grows rfl (.tmp 25) (.tmp 31) 22 rfl 9 i0 _ 1 16 Try.underlying22 Hi0.out Hz0.out Hz1.out Hz2.out rfl (by omega) (some ⟨b, off, none⟩) m m ((L.take m).map Value.string) (by simp [Act.eval]) (fun h => by cases h) (by rw [List.length_map, List.length_take]; omega) (fun b e => cells_keep HR.out (below_own HB2.out) m b e) ⟨g1, 0, none⟩ (1 + (L.length - m)) c1 ([.string s] ++ (L.drop m).map Value.string) (by simp [Act.eval]) (by simp; omega) HC1.out (one_strs (s :: L.drop m)) (by omega) (by unfold maxLen; omega) (by omega) ?_; intro v2 w3 hown2 hg2; have HB3 := Lib.hid (grown_none HB2.out hg2); obtain ⟨g2, c2, rfl, hb2, hl2, hc2, hcells2⟩ := own_pos hown2 (by omega); have HO2 := Lib.hid hown2; clear hown2 hg2 hcells2)))
        go_wp2_with fail
        go_ret
        refine ⟨?_, HB3.out⟩
        have hlen : (ins L s).length = m + (1 + (L.length - m)) := by rw [HI.out]; simp; omega
        refine ⟨some ⟨g2, 0, none⟩, c2, by rw [hlen]; rfl, by omega, .inr ⟨_, _, rfl⟩, ?_⟩
        have h := HO2.out
        have e : (L.take m).map Value.string ++ ([.string s] ++ (L.drop m).map Value.string) = (ins L s).map Value.string := by rw [HI.out]; simp
        rw [e] at h
        exact Rd.own h
end Go.Proofs.Ytoohphhfigiicaa
