/- The reference's bounds (written by wip/bin/gen_bn.py). -/
import Derived.Test.YtkjpficpkpfkdaaUn
import Derived.Test.YtkjpficpkpfkdaaBo
import Derived.Deep.RegionLaw
import Derived.Deep.RegionLawGrows
namespace Go.Proofs.Ytkjpficpkpfkdaa
open Go.ChangeShapes Go.WideShapes Go.ChangeAt Go.RowKit Ts

section
variable {P : Program} {w : World}
/-- append of some elements of some cells to a row of the call's own. -/
theorem wpList_append_sized {ops : Array Oper} {rest : List Oper} {o : Oper} {a : Act} {Q : Exit → Act → World → Prop} (hg : o.guard = none) (s x : Operand) (t : TypeId)
    (ho : o.op = .call { callee := .builtin .append, args := #[s, x], argTypes := #[t, t] })
    (base : Nat) (e : TypeId) (i : TypeInfo) (z : Value) (size bytes : Nat) (ht : P.underlying t = some (.slice e)) (hi : P.info? e = some i) (hz : i.zero = some z)
    (hsize : i.size = size) (hby : i.bytes = bytes) (hzs : z.cells.size = size) (hsz : 0 < size)
    (v : Value) (n : Nat) (xs : List Value) (hs : a.eval s = v) (hown : w.ownsRow base e size v n xs)
    (ao : Option Addr) (m c : Nat) (hx : a.eval x = .slice ao m c) (news : List Value) (hl : news.length = m * size) (hnone : ao = none → m = 0 ∧ c = 0) (hnews : ∀ ad, ao = some ad → ∀ j u, news[j]? = some u → w.cell? (ad.add j) = some u) (h1 : ∀ u ∈ news, u.oneCell' = true)
    (hn : n + m ≤ 1000000) (hb : bytes ≤ 1000000) (hbase : base ≤ w.heap.size)
    (h : ∀ v' w', w'.ownsRow base e size v' (n + m) (xs ++ news) → w.grownBy w' v.ownBlock → wpList P ops Q rest (a.put o.dst v') w') : wpList P ops Q (o :: rest) a w :=
  wpList_plain hg fun _ hK => by
    cases ao with
    | some ad =>
      refine wp_append_own w s x t ho base e i z size bytes ht hi hz hsize hby hzs hsz v n xs hs hown ad m c news hx hl (hnews ad rfl) h1 (by unfold maxLen; omega) ?_ hbase (fun v' w' h2 h3 _ => hK _ _ (h v' w' h2 h3))
      have := Nat.mul_le_mul (show n + m ≤ 1000000 by omega) hb
      omega
    | none =>
      obtain ⟨rfl, rfl⟩ := hnone rfl
      obtain rfl : news = [] := List.eq_nil_of_length_eq_zero (by simpa using hl)
      have hrun := run_append_owned_none (P := P) (w := w) base t o.type e i size ht hi v n xs hown
      unfold Oper.wp
      simp [execOp, ho, resolve, invoke, builtin, hs, hx, hrun, Result.andThen]
      exact hK _ _ (h v w (by simpa using hown) ⟨rfl, rfl, rfl, Nat.le_refl _, fun _ _ _ => rfl⟩)
end
theorem rs_news {w W : World} {A : Option Addr} {xs : List Value} (h : Rs w w.heap.size A xs) (hb : Below w.heap.size w W) : ∀ ad, A = some ad → ∀ j u, xs[j]? = some u → W.cell? (ad.add j) = some u := by
  intro ad e j u hu
  obtain ⟨hj, he⟩ := List.getElem?_eq_some_iff.1 hu
  obtain ⟨b, off, e2, hlt, hc⟩ := h j hj
  obtain rfl : (⟨b, off, none⟩ : Addr) = ad := by rw [e2] at e; exact Option.some.inj e
  rw [add_flat, ← he]
  exact (hb.cell (p := ⟨b, off + j, none⟩) hlt).trans hc
def nC (L : List Int) : List Value := L.map (fun x => .int .i64 x)
theorem nC_len (L : List Int) : (nC L).length = L.length := List.length_map _
theorem nC_one (L : List Int) : ∀ u ∈ nC L, u.oneCell' = true := by
  intro u hu
  obtain ⟨x, _, rfl⟩ := List.mem_map.1 hu
  rfl
theorem own_below1 {w w' : World} {B e size n : Nat} {v : Value} {xs : List Value} (h : w.ownsRow B e size v n xs) (hb : Below w.heap.size w w') : w'.ownsRow B e size v n xs := own_belowk h hb
theorem num_at {w : World} {B : Nat} {A : Option Addr} {S : List Int} (h : Rs w B A (nC S)) (k : Nat) (hk : k < S.length) : ∃ g off, A = some ⟨g, off, none⟩ ∧ g < B ∧ w.cell? ⟨g, off + k, none⟩ = some (.int .i64 S[k]) := by
  obtain ⟨g, off, e, hg, hc⟩ := h k (by rw [nC_len]; exact hk)
  refine ⟨g, off, e, hg, hc.trans ?_⟩
  unfold nC; simp
theorem info_num : (Try.prog.info? 3).map (fun i => (i.zero, i.size, i.bytes)) = some (some (.int .i64 0), 1, 8) := by kernel_rfl
theorem own_emptyn {w : World} {B G e k : Nat} (h : w.heap[G]? = some (.cells #[] e (0, 0))) (hB : B ≤ G) : w.ownsRow B e k (.slice (some ⟨G, 0, none⟩) 0 0) 0 [] :=
  ⟨(Nat.zero_mul k).symm, .inr ⟨G, 0, #[], rfl, hB, h, Nat.le_refl _, by decide, (Nat.zero_mul k).symm, by rw [Nat.zero_mul]; rfl⟩⟩
theorem cells_one {w : World} {X : Nat} {u : Value} {e : TypeId} (h : w.heap[X]? = some (.cells #[u] e (0, 0))) : ∀ ad, some (⟨X, 0, none⟩ : Addr) = some ad → ∀ j y, [u][j]? = some y → w.cell? (ad.add j) = some y := by
  intro ad e j y hy
  cases e
  rw [add_flat, Nat.zero_add, cell_of_row w X j _ _ _ h]
  simpa using hy
theorem front_nums {W0 W : World} {g : Nat} {S : List Int} (h : Rs W0 W0.heap.size (some ⟨g, 0, none⟩) (nC S)) (hB : Below W0.heap.size W0 W) (k : Nat) (hk : k ≤ S.length) : ∀ ad, some (⟨g, 0, none⟩ : Addr) = some ad → ∀ j u, (nC (S.take k))[j]? = some u → W.cell? (ad.add j) = some u := by
  intro ad e j u hu
  refine rs_news h hB ad e j u ?_
  obtain ⟨hj, _⟩ := List.getElem?_eq_some_iff.1 hu
  rw [nC_len, List.length_take] at hj
  rw [← hu]
  unfold nC
  rw [List.getElem?_map, List.getElem?_map, List.getElem?_take_of_lt (by omega)]
theorem back_nums {W0 W : World} {g : Nat} {S : List Int} (h : Rs W0 W0.heap.size (some ⟨g, 0, none⟩) (nC S)) (hB : Below W0.heap.size W0 W) (k : Nat) (_hk : k ≤ S.length) : ∀ ad, some (⟨g, k, none⟩ : Addr) = some ad → ∀ j u, (nC (S.drop k))[j]? = some u → W.cell? (ad.add j) = some u := by
  intro ad e j u hu
  cases e
  have h2 := rs_news h hB ⟨g, 0, none⟩ rfl (k + j) u (by
    rw [← hu]; unfold nC
    rw [List.getElem?_map, List.getElem?_map, List.getElem?_drop])
  rw [add_flat] at h2 ⊢
  rw [Nat.zero_add] at h2
  exact h2
/-- The cells of a row of the call's own, of single cells, as a slice in memory. -/
theorem rs_ownn {w : World} {base e n : Nat} {v : Value} {xs : List Value} (h : w.ownsRow base e 1 v n xs) : ∃ A c, v = .slice A n c ∧ n ≤ c ∧ Rs w w.heap.size A xs ∧ ((A = none ∧ n = 0 ∧ c = 0) ∨ ∃ g, A = some ⟨g, 0, none⟩ ∧ base ≤ g ∧ g < w.heap.size) := by
  have hl := h.1
  rcases h.2 with ⟨rfl, h0⟩ | ⟨g, cap, cur, rfl, hbase, hh, hnc, hcap, hsz, htake⟩
  · have h0' : n = 0 := h0
    subst h0'
    obtain rfl : xs = [] := List.eq_nil_of_length_eq_zero (by simpa using hl)
    exact ⟨none, 0, rfl, Nat.le_refl _, Rs.nil, .inl ⟨rfl, rfl, rfl⟩⟩
  · refine ⟨_, cap, rfl, hnc, fun j hj => ⟨g, 0, rfl, (Array.getElem?_eq_some_iff.1 hh).1, ?_⟩, .inr ⟨g, rfl, hbase, (Array.getElem?_eq_some_iff.1 hh).1⟩⟩
    rw [Nat.zero_add, cell_of_row w g j _ _ _ hh]
    have h2 := congrArg (fun l : List Value => l[j]?) htake
    rw [List.getElem?_take_of_lt (by rw [← hl]; exact hj), List.getElem?_eq_getElem hj] at h2
    rw [← Array.getElem?_toList]; exact h2
set_option maxRecDepth 100000 in
set_option maxHeartbeats 8000000 in
theorem ref_bounds {va vb : Value} {a b : List Iv} (ha : a.length ≤ 1000) (hb : b.length ≤ 1000) (w : World) (hRa : Sl w va a) (hRb : Sl w vb b) :
    Calls Try.prog 58 #[va, vb] w fun e w' => (∃ r, e = .returned r ∧ w'.ownsRow w.heap.size 3 1 r (bds (fl (a ++ b))).length (nC (bds (fl (a ++ b))))) ∧ Below w.heap.size w w' := by
  obtain ⟨i0, hi0, hz0, hz1, hz2⟩ := info_parts info_iv
  obtain ⟨i1, hj0, hj1, hj2, hj3⟩ := info_parts info_num
  have Hi0 := Lib.hid hi0
  have Hz0 := Lib.hid hz0
  have Hz1 := Lib.hid hz1
  have Hz2 := Lib.hid hz2
  have Hj0 := Lib.hid hj0
  have Hj1 := Lib.hid hj1
  have Hj2 := Lib.hid hj2
  have Hj3 := Lib.hid hj3
  obtain ⟨A, c, rfl, _, _, hA0, hRa⟩ := hRa
  obtain ⟨B, d, rfl, _, _, hB0, hRb⟩ := hRb
  have HA0 := Lib.hid hA0
  have HB0 := Lib.hid hB0
  have HRa := Lib.hid hRa
  have HRb := Lib.hid hRb
  obtain ⟨T, hT⟩ : ∃ T, T = a ++ b := ⟨_, rfl⟩
  rw [← hT]
  obtain ⟨F, hF⟩ : ∃ F, F = fl T := ⟨_, rfl⟩
  rw [← hF]
  have hFl : F.length = 2 * T.length := by rw [hF, fl_len]
  have HE := Lib.hid (fun q (h : q < T.length) => fl_get T q h)
  rw [← hF] at HE
  have hall := bdk_all F
  obtain ⟨G, hG⟩ : ∃ G, G = bds F := ⟨_, rfl⟩
  rw [← hG] at hall ⊢
  have HAll := Lib.hid hall
  have HT := Lib.hid hT
  clear hi0 hz0 hz1 hz2 hRa hRb hj0 hj1 hj2 hj3 hA0 hB0 hF hG hall hT
  go_enter Try.func58, Try.ntmps58
  go_wp2_with (at_builtin; (first
    | (refine wpList_append_sized rfl (.tmp 10) (.tmp 11) 22 rfl w.heap.size 25 i0 _ 2 16 Try.underlying22 Hi0.out Hz0.out Hz1.out Hz2.out rfl (by decide) _ 0 [] rfl (own_empty (Deep.blk_alloc_new w _) (Nat.le_refl _)) A a.length c rfl (ivCells a) (by rw [iv_cells_len]) HA0.out (rs_news HRa.out ((Below.refl _ w).alloc (Nat.le_refl _) _)) (iv_one _) (by omega) (by omega) (by simp) ?_; intro v1 w2 hown1 hg1; have HO1 := Lib.hid hown1; have HBw := Lib.hid (below_grownk (B := w.heap.size) (a := w) ((Below.refl _ w).alloc (Nat.le_refl _) _) (own_empty (Deep.blk_alloc_new w _) (Nat.le_refl _)) hg1 (Nat.le_refl _) (Nat.le_refl _)); clear hown1 hg1)
    | (refine wpList_append_sized rfl (.tmp 12) (.tmp 13) 22 rfl w.heap.size 25 i0 _ 2 16 Try.underlying22 Hi0.out Hz0.out Hz1.out Hz2.out rfl (by decide) v1 (0 + a.length) ([] ++ ivCells a) rfl HO1.out B b.length d rfl (ivCells b) (by rw [iv_cells_len]) HB0.out (rs_news HRb.out HBw.out) (iv_one _) (by omega) (by omega) HBw.out.size ?_; intro v2 w3 hown2 hg2; have HO2 := Lib.hid hown2; have HBv := Lib.hid (below_grownk (B := w.heap.size) (a := w) HBw.out HO1.out hg2 (Nat.le_refl _) (Nat.le_refl _)); clear hown2 hg2; obtain ⟨A3, c3, rfl, hnc3, hR3, _⟩ := rs_own HO2.out; have HR3 := Lib.hid hR3; clear hR3)))
  have hT := HT.out
  have hTl : 0 + a.length + b.length = T.length := by rw [hT, List.length_append]; omega
  have hTl2 : T.length ≤ 2000 := by omega
  have hTc : [] ++ ivCells a ++ ivCells b = ivCells T := by rw [hT]; unfold ivCells; simp
  have hR4 := HR3.out
  rw [hTc] at hR4
  have hTl' : a.length + b.length = T.length := by omega
  rw [hTl] at hnc3
  rw [hTl']
  have HR4 := Lib.hid hR4
  clear hR4 hTc hTl hTl' hT HR3 HO2 HO1 HT
  rename World => W3
  go_loopw [5, 7] (fun u iv wr => ∃ j : Nat, j ≤ F.length ∧ iv = .int .i64 (j : Int) ∧ Hid (wr.ownsRow W3.heap.size 3 1 u (bdk F j).length (nC (bdk F j))) ∧ Hid (u = .slice none 0 0 ∨ 0 < (bdk F j).length) ∧ Hid (Below W3.heap.size W3 wr)) (fun _ iv _ => F.length - (intOf iv).toNat)
  case atStart => exact ⟨0, Nat.zero_le _, rfl, Lib.hid ⟨rfl, Or.inl ⟨rfl, rfl⟩⟩, Lib.hid (.inl rfl), Lib.hid (Below.refl _ _)⟩
  case round =>
    obtain ⟨j, hj, rfl, HO, HN, HB⟩ := hrel
    by_cases hlt : j < F.length
    · obtain ⟨q, hq⟩ : ∃ q, q = j / 2 := ⟨_, rfl⟩
      have hql : q < T.length := by omega
      obtain ⟨b4, off4, rfl, hb4, h0, h1⟩ := iv_at (HR4.out.below HB.out) q hql
      have hq1 : (j : Int).tdiv 2 = (q : Int) := by rw [Int.tdiv_eq_ediv_of_nonneg (by omega)]; omega
      have hq2 : (j : Int) / 2 = (q : Int) := by omega
      have hqI : (q : Int) < (T.length : Int) := by omega
      have hq0 : (0 : Int) ≤ (q : Int) := by omega
      have hjI : (j : Int) < 2 * (T.length : Int) := by omega
      have hwj : IntKind.i64.wrap (q : Int) = (q : Int) := by simp only [IntKind.wrap_i64]; omega
      have hwt : IntKind.i64.wrap (2 * (T.length : Int)) = 2 * (T.length : Int) := by simp only [IntKind.wrap_i64]; omega
      have hwn : IntKind.i64.wrap ((j : Int) + 1) = (j : Int) + 1 := by simp only [IntKind.wrap_i64]; omega
      have hs := bdk_succ F j hlt
      have hS := bdk_inc F j
      have hlen := bdk_len F j
      obtain ⟨S, hSe⟩ : ∃ S, S = bdk F j := ⟨_, rfl⟩
      rw [← hSe] at HO HN hs hS hlen
      obtain ⟨A', c', rfl, hnc, hRs, hA'⟩ := rs_ownn HO.out
      have HRs := Lib.hid hRs
      have HA' := Lib.hid hA'
      have HS := Lib.hid hS
      clear hSe hRs hA' hS
      rcases Nat.mod_two_eq_zero_or_one j with h | h
      · have ej : j = 2 * q := by omega
        obtain ⟨n, hn⟩ : ∃ n, n = F[j] := ⟨_, rfl⟩
        have e0 := (HE.out q hql).1
        rw [← ej, List.getElem?_eq_getElem hlt, ← hn, Option.some.injEq] at e0
        rw [← e0] at h0
        rw [← hn] at hs
        have E := Lib.hid hs
        have hr : (j : Int).tmod 2 = 0 := by rw [Int.tmod_eq_emod_of_nonneg (by omega)]; omega
        have hw0 : (j : Int) % 2 = 0 := by omega
        clear e0 hn ej hs hq
        go_wp2_with fail
        clear h0 h1 hb4 hq1 hq2 hqI hq0 hwj hr hw0
        rename World => W0
        go_loopw [9] (fun kv wk => ∃ k : Nat, k ≤ S.length ∧ kv = .int .i64 (k : Int) ∧ Hid (∀ i (h : i < S.length), i < k → S[i] < n) ∧ Hid (Below W0.heap.size W0 wk)) (fun kv _ => S.length - (intOf kv).toNat)
        case atStart => exact ⟨0, Nat.zero_le _, rfl, Lib.hid (fun i h hi => absurd hi (by omega)), Lib.hid (Below.refl _ _)⟩
        case round =>
          obtain ⟨k, hk, rfl, Hk, HBk⟩ := hrel
          have hwk : IntKind.i64.wrap ((k : Int) + 1) = (k : Int) + 1 := by simp only [IntKind.wrap_i64]; omega
          have hk0' : (0 : Int) ≤ (k : Int) := by omega
          by_cases hkS' : k < S.length
          · obtain ⟨g, off, rfl, hg, d0⟩ := num_at (HRs.out.below HBk.out) k hkS'
            obtain ⟨rfl, g0, gl⟩ : off = 0 ∧ W3.heap.size ≤ g ∧ g < W0.heap.size := by
              rcases HA'.out with ⟨h, _⟩ | ⟨g', h, h1, h2⟩
              · cases h
              · cases h; exact ⟨rfl, h1, h2⟩
            rw [Nat.zero_add] at d0
            obtain ⟨y, hy⟩ : ∃ y, y = S[k] := ⟨_, rfl⟩
            rw [← hy] at d0
            have HY := Lib.hid hy
            have hkI : (k : Int) < (S.length : Int) := by omega
            clear hy
            by_cases hyn : y < n
            · go_wp2_with fail
              go_roundw
              case rel =>
                refine ⟨k + 1, by omega, by go_num, Lib.hid (fun i h hi => ?_), HBk⟩
                by_cases e : i = k
                · subst e; rw [← HY.out]; exact hyn
                · exact Hk.out i h (by omega)
              case measure => simp [intOf]; omega
            · have hkE : ¬ k = S.length := by omega
              have hkE' : ¬ (k : Int) = (S.length : Int) := by omega
              by_cases hye : y = n
              · have HP := Lib.hid (insN_old n S k hkS' Hk.out (by rw [← HY.out]; exact hye))
                subst hye
                go_wp2_with fail
                go_roundw
                case rel => exact ⟨j + 1, by omega, by go_num, by rw [E.out, HP.out]; exact Lib.hid (own_below1 HO.out HBk.out), by rw [E.out, HP.out]; exact HN, Lib.hid (HB.out.trans (HBk.out.mono HB.out.size))⟩
                case measure => simp [intOf]; omega
              · have HP := Lib.hid (insN_new n S k (by omega) Hk.out (fun h => by rw [← HY.out]; omega))
                have hkS : k ≤ S.length := by omega
                have hmc : k ≤ c' := by omega
                by_cases hk0 : k = 0
                · subst hk0
                  have hc0 : ¬ c' = 0 := by omega
                  have hny : n ≤ y := by omega
                  have hyb : (y != n) = true := bne_iff_ne.2 hye
                  have hkp : (0 : Int) < (S.length : Int) := by omega
                  have hkz : ¬ (0 : Int) = (S.length : Int) := by omega
                  clear hyn HY hk0' hwk
                  go_wp2_with fail
                  have hG : W0.heap.size ≤ wr.heap.size := HBk.out.size
                  go_region_law ((first
                    | (refine step_append_sized rfl (.tmp 63) (.tmp 66) 68 rfl W0.heap.size 3 i1 _ 1 8 Try.underlying68 Hj0.out Hj1.out Hj2.out Hj3.out rfl (by decide) (.slice (some ⟨wr.heap.size, 0, none⟩) 0 0) 0 [] (by simp [Act.eval]) (own_emptyn (k := 1) (Deep.blk_alloc_new wr (.cells #[] 3)) hG) (some ⟨g, 0, none⟩) 0 c' (by simp [Act.eval]) [] (by rfl) (fun h => by cases h) (fun ad e j u hu => by simp at hu) (by first | exact nC_one _ | simp) (by omega) (by omega) (by have := HBk.out.size; simp; omega) ?_; intro v1 w2 hown1 hg1; have HBw := Lib.hid (below_grownk (B := W0.heap.size) (a := W0) ((Below.alloc HBk.out HBk.out.size _).drew) (own_emptyn (k := 1) (Deep.blk_alloc_new wr (.cells #[] 3)) hG) hg1 (Nat.le_refl _) (Nat.le_refl _)); have HO1 := Lib.hid hown1; clear hown1 hg1)
                    | (refine step_append_sized rfl (.tmp 63) (.tmp 66) 68 rfl W0.heap.size 3 i1 _ 1 8 Try.underlying68 Hj0.out Hj1.out Hj2.out Hj3.out rfl (by decide) (.slice (some ⟨wr.heap.size, 0, none⟩) 0 0) 0 [] (by simp [Act.eval]) (own_emptyn (k := 1) (blk_under wr (.cells #[] 3) (.cells #[.int .i64 n] 3)) hG) (some ⟨g, 0, none⟩) 0 c' (by simp [Act.eval]) [] (by rfl) (fun h => by cases h) (fun ad e j u hu => by simp at hu) (by first | exact nC_one _ | simp) (by omega) (by omega) (by have := HBk.out.size; simp; omega) ?_; intro v1 w2 hown1 hg1; have HBw := Lib.hid (below_grownk (B := W0.heap.size) (a := W0) ((Below.alloc (Below.alloc HBk.out HBk.out.size _) (by have := HBk.out.size; simp; omega) _).drew) (own_emptyn (k := 1) (blk_under wr (.cells #[] 3) (.cells #[.int .i64 n] 3)) hG) hg1 (Nat.le_refl _) (Nat.le_refl _)); have HO1 := Lib.hid hown1; have HX2 : Hid (w2.heap[wr.heap.size + 1]? = some (.cells #[.int .i64 n] 3)) := Lib.hid ((hg1.block (wr.heap.size + 1) (by simp) (by simp [Value.ownBlock])).trans (blk_over wr (.cells #[] 3) (.cells #[.int .i64 n] 3))); clear hown1 hg1)
                    | (refine step_append_sized rfl (.tmp 63) (.tmp 66) 68 rfl W0.heap.size 3 i1 _ 1 8 Try.underlying68 Hj0.out Hj1.out Hj2.out Hj3.out rfl (by decide) (.slice (some ⟨(wr.heap.size + 1), 0, none⟩) 0 0) 0 [] (by simp [Act.eval]) (own_emptyn (k := 1) (blk_over wr (.cells #[.int .i64 n] 3) (.cells #[] 3)) (by omega)) (some ⟨g, 0, none⟩) 0 c' (by simp [Act.eval]) [] (by rfl) (fun h => by cases h) (fun ad e j u hu => by simp at hu) (by first | exact nC_one _ | simp) (by omega) (by omega) (by have := HBk.out.size; simp; omega) ?_; intro v1 w2 hown1 hg1; have HBw := Lib.hid (below_grownk (B := W0.heap.size) (a := W0) ((Below.alloc (Below.alloc HBk.out HBk.out.size _) (by have := HBk.out.size; simp; omega) _).drew) (own_emptyn (k := 1) (blk_over wr (.cells #[.int .i64 n] 3) (.cells #[] 3)) (by omega)) hg1 (Nat.le_refl _) (Nat.le_refl _)); have HO1 := Lib.hid hown1; have HX2 : Hid (w2.heap[wr.heap.size]? = some (.cells #[.int .i64 n] 3)) := Lib.hid ((hg1.block wr.heap.size (by simp; omega) (by simp [Value.ownBlock])).trans (blk_under wr (.cells #[.int .i64 n] 3) (.cells #[] 3))); clear hown1 hg1)
                    | (refine step_append_sized rfl (.tmp 67) (.tmp 69) 68 rfl W0.heap.size 3 i1 _ 1 8 Try.underlying68 Hj0.out Hj1.out Hj2.out Hj3.out rfl (by decide) v1 (0 + 0) ([] ++ []) (by simp [Act.eval]) (HO1.out.alloc _) (some ⟨w2.heap.size, 0, none⟩) 1 1 (by simp [Act.eval]) [.int .i64 n] rfl (fun h => by cases h) (cells_one (Deep.blk_alloc_new w2 (.cells #[.int .i64 n] 3))) (by simp [Value.oneCell']) (by omega) (by omega) (by have := HBw.out.size; simp; omega) ?_; intro v2 w3 hown2 hg2; have HBv := Lib.hid (below_grownk (B := W0.heap.size) (a := W0) (Below.alloc HBw.out HBw.out.size _) (HO1.out.alloc _) hg2 (Nat.le_refl _) (Nat.le_refl _)); have HO2 := Lib.hid hown2; clear hown2 hg2)
                    | (refine step_append_sized rfl (.tmp 67) (.tmp 69) 68 rfl W0.heap.size 3 i1 _ 1 8 Try.underlying68 Hj0.out Hj1.out Hj2.out Hj3.out rfl (by decide) v1 (0 + 0) ([] ++ []) (by simp [Act.eval]) HO1.out (some ⟨(wr.heap.size + 1), 0, none⟩) 1 1 (by simp [Act.eval]) [.int .i64 n] rfl (fun h => by cases h) (cells_one HX2.out) (by simp [Value.oneCell']) (by omega) (by omega) (by have := HBw.out.size; simp; omega) ?_; intro v2 w3 hown2 hg2; have HBv := Lib.hid (below_grownk (B := W0.heap.size) (a := W0) HBw.out HO1.out hg2 (Nat.le_refl _) (Nat.le_refl _)); have HO2 := Lib.hid hown2; clear hown2 hg2)
                    | (refine step_append_sized rfl (.tmp 67) (.tmp 69) 68 rfl W0.heap.size 3 i1 _ 1 8 Try.underlying68 Hj0.out Hj1.out Hj2.out Hj3.out rfl (by decide) v1 (0 + 0) ([] ++ []) (by simp [Act.eval]) HO1.out (some ⟨wr.heap.size, 0, none⟩) 1 1 (by simp [Act.eval]) [.int .i64 n] rfl (fun h => by cases h) (cells_one HX2.out) (by simp [Value.oneCell']) (by omega) (by omega) (by have := HBw.out.size; simp; omega) ?_; intro v2 w3 hown2 hg2; have HBv := Lib.hid (below_grownk (B := W0.heap.size) (a := W0) HBw.out HO1.out hg2 (Nat.le_refl _) (Nat.le_refl _)); have HO2 := Lib.hid hown2; clear hown2 hg2)
                    | (refine step_append_sized rfl (.tmp 70) (.tmp 73) 68 rfl W0.heap.size 3 i1 _ 1 8 Try.underlying68 Hj0.out Hj1.out Hj2.out Hj3.out rfl (by decide) v2 (0 + 0 + 1) ([] ++ [] ++ [.int .i64 n]) (by simp [Act.eval]) HO2.out (some ⟨g, 0, none⟩) S.length c' (by simp [Act.eval]) (nC S) (by rw [nC_len, Nat.mul_one]) (fun h => by cases h) (by have h := back_nums HRs.out HBv.out 0 (Nat.zero_le _); simpa using h) (by first | exact nC_one _ | simp) (by omega) (by omega) HBv.out.size ?_; intro v3 w4 hown3 hg3; have HBu := Lib.hid (below_grownk (B := W0.heap.size) (a := W0) HBv.out HO2.out hg3 (Nat.le_refl _) (Nat.le_refl _)); have HO3 := Lib.hid hown3; clear hown3 hg3)))
                  all_goals
                    go_wp2_with fail
                    go_roundw
                    case rel =>
                      refine ⟨j + 1, by omega, by go_num, Lib.hid ?_, Lib.hid (.inr ?_), Lib.hid (HB.out.trans (HBu.out.mono HB.out.size))⟩
                      · have h := own_base HO3.out HB.out.size
                        have e1 : (bdk F (j + 1)).length = 0 + 0 + 1 + S.length := by rw [E.out, HP.out]; simp; omega
                        have e2 : nC (bdk F (j + 1)) = [] ++ [] ++ [.int .i64 n] ++ (nC S) := by rw [E.out, HP.out]; simp [nC]
                        rw [e1, e2]; exact h
                      · rw [E.out, HP.out, List.length_append, List.length_append]; simp only [List.length_cons, List.length_nil]; omega
                    case measure => simp [intOf]; omega
                · have hcm2 : ¬ c' = k := by omega
                  have hny : n ≤ y := by omega
                  have hyb : (y != n) = true := bne_iff_ne.2 hye
                  clear hyn HY
                  go_wp2_with fail
                  have hG : W0.heap.size ≤ wr.heap.size := HBk.out.size
                  go_region_law ((first
                    | (refine step_append_sized rfl (.tmp 63) (.tmp 66) 68 rfl W0.heap.size 3 i1 _ 1 8 Try.underlying68 Hj0.out Hj1.out Hj2.out Hj3.out rfl (by decide) (.slice (some ⟨wr.heap.size, 0, none⟩) 0 0) 0 [] (by simp [Act.eval]) (own_emptyn (k := 1) (Deep.blk_alloc_new wr (.cells #[] 3)) hG) (some ⟨g, 0, none⟩) k c' (by simp [Act.eval]) (nC (S.take k)) (by rw [nC_len, List.length_take, Nat.min_eq_left hkS, Nat.mul_one]) (fun h => by cases h) (front_nums HRs.out ((Below.alloc HBk.out HBk.out.size _).drew) k hkS) (by first | exact nC_one _ | simp) (by omega) (by omega) (by have := HBk.out.size; simp; omega) ?_; intro v1 w2 hown1 hg1; have HBw := Lib.hid (below_grownk (B := W0.heap.size) (a := W0) ((Below.alloc HBk.out HBk.out.size _).drew) (own_emptyn (k := 1) (Deep.blk_alloc_new wr (.cells #[] 3)) hG) hg1 (Nat.le_refl _) (Nat.le_refl _)); have HO1 := Lib.hid hown1; clear hown1 hg1)
                    | (refine step_append_sized rfl (.tmp 63) (.tmp 66) 68 rfl W0.heap.size 3 i1 _ 1 8 Try.underlying68 Hj0.out Hj1.out Hj2.out Hj3.out rfl (by decide) (.slice (some ⟨wr.heap.size, 0, none⟩) 0 0) 0 [] (by simp [Act.eval]) (own_emptyn (k := 1) (blk_under wr (.cells #[] 3) (.cells #[.int .i64 n] 3)) hG) (some ⟨g, 0, none⟩) k c' (by simp [Act.eval]) (nC (S.take k)) (by rw [nC_len, List.length_take, Nat.min_eq_left hkS, Nat.mul_one]) (fun h => by cases h) (front_nums HRs.out ((Below.alloc (Below.alloc HBk.out HBk.out.size _) (by have := HBk.out.size; simp; omega) _).drew) k hkS) (by first | exact nC_one _ | simp) (by omega) (by omega) (by have := HBk.out.size; simp; omega) ?_; intro v1 w2 hown1 hg1; have HBw := Lib.hid (below_grownk (B := W0.heap.size) (a := W0) ((Below.alloc (Below.alloc HBk.out HBk.out.size _) (by have := HBk.out.size; simp; omega) _).drew) (own_emptyn (k := 1) (blk_under wr (.cells #[] 3) (.cells #[.int .i64 n] 3)) hG) hg1 (Nat.le_refl _) (Nat.le_refl _)); have HO1 := Lib.hid hown1; have HX2 : Hid (w2.heap[wr.heap.size + 1]? = some (.cells #[.int .i64 n] 3)) := Lib.hid ((hg1.block (wr.heap.size + 1) (by simp) (by simp [Value.ownBlock])).trans (blk_over wr (.cells #[] 3) (.cells #[.int .i64 n] 3))); clear hown1 hg1)
                    | (refine step_append_sized rfl (.tmp 63) (.tmp 66) 68 rfl W0.heap.size 3 i1 _ 1 8 Try.underlying68 Hj0.out Hj1.out Hj2.out Hj3.out rfl (by decide) (.slice (some ⟨(wr.heap.size + 1), 0, none⟩) 0 0) 0 [] (by simp [Act.eval]) (own_emptyn (k := 1) (blk_over wr (.cells #[.int .i64 n] 3) (.cells #[] 3)) (by omega)) (some ⟨g, 0, none⟩) k c' (by simp [Act.eval]) (nC (S.take k)) (by rw [nC_len, List.length_take, Nat.min_eq_left hkS, Nat.mul_one]) (fun h => by cases h) (front_nums HRs.out ((Below.alloc (Below.alloc HBk.out HBk.out.size _) (by have := HBk.out.size; simp; omega) _).drew) k hkS) (by first | exact nC_one _ | simp) (by omega) (by omega) (by have := HBk.out.size; simp; omega) ?_; intro v1 w2 hown1 hg1; have HBw := Lib.hid (below_grownk (B := W0.heap.size) (a := W0) ((Below.alloc (Below.alloc HBk.out HBk.out.size _) (by have := HBk.out.size; simp; omega) _).drew) (own_emptyn (k := 1) (blk_over wr (.cells #[.int .i64 n] 3) (.cells #[] 3)) (by omega)) hg1 (Nat.le_refl _) (Nat.le_refl _)); have HO1 := Lib.hid hown1; have HX2 : Hid (w2.heap[wr.heap.size]? = some (.cells #[.int .i64 n] 3)) := Lib.hid ((hg1.block wr.heap.size (by simp; omega) (by simp [Value.ownBlock])).trans (blk_under wr (.cells #[.int .i64 n] 3) (.cells #[] 3))); clear hown1 hg1)
                    | (refine step_append_sized rfl (.tmp 67) (.tmp 69) 68 rfl W0.heap.size 3 i1 _ 1 8 Try.underlying68 Hj0.out Hj1.out Hj2.out Hj3.out rfl (by decide) v1 (0 + k) ([] ++ (nC (S.take k))) (by simp [Act.eval]) (HO1.out.alloc _) (some ⟨w2.heap.size, 0, none⟩) 1 1 (by simp [Act.eval]) [.int .i64 n] rfl (fun h => by cases h) (cells_one (Deep.blk_alloc_new w2 (.cells #[.int .i64 n] 3))) (by simp [Value.oneCell']) (by omega) (by omega) (by have := HBw.out.size; simp; omega) ?_; intro v2 w3 hown2 hg2; have HBv := Lib.hid (below_grownk (B := W0.heap.size) (a := W0) (Below.alloc HBw.out HBw.out.size _) (HO1.out.alloc _) hg2 (Nat.le_refl _) (Nat.le_refl _)); have HO2 := Lib.hid hown2; clear hown2 hg2)
                    | (refine step_append_sized rfl (.tmp 67) (.tmp 69) 68 rfl W0.heap.size 3 i1 _ 1 8 Try.underlying68 Hj0.out Hj1.out Hj2.out Hj3.out rfl (by decide) v1 (0 + k) ([] ++ (nC (S.take k))) (by simp [Act.eval]) HO1.out (some ⟨(wr.heap.size + 1), 0, none⟩) 1 1 (by simp [Act.eval]) [.int .i64 n] rfl (fun h => by cases h) (cells_one HX2.out) (by simp [Value.oneCell']) (by omega) (by omega) (by have := HBw.out.size; simp; omega) ?_; intro v2 w3 hown2 hg2; have HBv := Lib.hid (below_grownk (B := W0.heap.size) (a := W0) HBw.out HO1.out hg2 (Nat.le_refl _) (Nat.le_refl _)); have HO2 := Lib.hid hown2; clear hown2 hg2)
                    | (refine step_append_sized rfl (.tmp 67) (.tmp 69) 68 rfl W0.heap.size 3 i1 _ 1 8 Try.underlying68 Hj0.out Hj1.out Hj2.out Hj3.out rfl (by decide) v1 (0 + k) ([] ++ (nC (S.take k))) (by simp [Act.eval]) HO1.out (some ⟨wr.heap.size, 0, none⟩) 1 1 (by simp [Act.eval]) [.int .i64 n] rfl (fun h => by cases h) (cells_one HX2.out) (by simp [Value.oneCell']) (by omega) (by omega) (by have := HBw.out.size; simp; omega) ?_; intro v2 w3 hown2 hg2; have HBv := Lib.hid (below_grownk (B := W0.heap.size) (a := W0) HBw.out HO1.out hg2 (Nat.le_refl _) (Nat.le_refl _)); have HO2 := Lib.hid hown2; clear hown2 hg2)
                    | (refine step_append_sized rfl (.tmp 70) (.tmp 73) 68 rfl W0.heap.size 3 i1 _ 1 8 Try.underlying68 Hj0.out Hj1.out Hj2.out Hj3.out rfl (by decide) v2 (0 + k + 1) ([] ++ (nC (S.take k)) ++ [.int .i64 n]) (by simp [Act.eval]) HO2.out (some ⟨g, k, none⟩) (S.length - k) (c' - k) (by simp [Act.eval]) (nC (S.drop k)) (by rw [nC_len, List.length_drop, Nat.mul_one]) (fun h => by cases h) (back_nums HRs.out HBv.out k hkS) (by first | exact nC_one _ | simp) (by omega) (by omega) HBv.out.size ?_; intro v3 w4 hown3 hg3; have HBu := Lib.hid (below_grownk (B := W0.heap.size) (a := W0) HBv.out HO2.out hg3 (Nat.le_refl _) (Nat.le_refl _)); have HO3 := Lib.hid hown3; clear hown3 hg3)))
                  all_goals
                    go_wp2_with fail
                    go_roundw
                    case rel =>
                      refine ⟨j + 1, by omega, by go_num, Lib.hid ?_, Lib.hid (.inr ?_), Lib.hid (HB.out.trans (HBu.out.mono HB.out.size))⟩
                      · have h := own_base HO3.out HB.out.size
                        have e1 : (bdk F (j + 1)).length = 0 + k + 1 + (S.length - k) := by rw [E.out, HP.out]; simp only [List.length_append, List.length_take, List.length_drop, List.length_cons, List.length_nil, Nat.min_eq_left hkS]; omega
                        have e2 : nC (bdk F (j + 1)) = [] ++ (nC (S.take k)) ++ [.int .i64 n] ++ (nC (S.drop k)) := by rw [E.out, HP.out]; simp [nC]
                        rw [e1, e2]; exact h
                      · rw [E.out, HP.out, List.length_append, List.length_append]; simp only [List.length_cons, List.length_nil]; omega
                    case measure => simp [intOf]; omega
          · obtain rfl : k = S.length := by omega
            have hkE' : ¬ (S.length : Int) < (S.length : Int) := by omega
            have HP := Lib.hid (insN_new n S S.length (by omega) Hk.out (fun h => absurd h (by omega)))
            rcases HN.out with hnil | hpos
            · injection hnil with z1 z2 z3
              obtain rfl : S = [] := List.eq_nil_of_length_eq_zero z2
              subst z1 z3
              go_wp2_with fail
              have hG : W0.heap.size ≤ wr.heap.size := HBk.out.size
              go_region_law ((first
                | (refine step_append_sized rfl (.tmp 63) (.tmp 66) 68 rfl W0.heap.size 3 i1 _ 1 8 Try.underlying68 Hj0.out Hj1.out Hj2.out Hj3.out rfl (by decide) (.slice (some ⟨wr.heap.size, 0, none⟩) 0 0) 0 [] (by simp [Act.eval]) (own_emptyn (k := 1) (Deep.blk_alloc_new wr (.cells #[] 3)) hG) none 0 0 (by simp [Act.eval]) [] (by rfl) (fun _ => ⟨rfl, rfl⟩) (fun ad e j u hu => by simp at hu) (by first | exact nC_one _ | simp) (by omega) (by omega) (by have := HBk.out.size; simp; omega) ?_; intro v1 w2 hown1 hg1; have HBw := Lib.hid (below_grownk (B := W0.heap.size) (a := W0) ((Below.alloc HBk.out HBk.out.size _).drew) (own_emptyn (k := 1) (Deep.blk_alloc_new wr (.cells #[] 3)) hG) hg1 (Nat.le_refl _) (Nat.le_refl _)); have HO1 := Lib.hid hown1; clear hown1 hg1)
                | (refine step_append_sized rfl (.tmp 63) (.tmp 66) 68 rfl W0.heap.size 3 i1 _ 1 8 Try.underlying68 Hj0.out Hj1.out Hj2.out Hj3.out rfl (by decide) (.slice (some ⟨wr.heap.size, 0, none⟩) 0 0) 0 [] (by simp [Act.eval]) (own_emptyn (k := 1) (blk_under wr (.cells #[] 3) (.cells #[.int .i64 n] 3)) hG) none 0 0 (by simp [Act.eval]) [] (by rfl) (fun _ => ⟨rfl, rfl⟩) (fun ad e j u hu => by simp at hu) (by first | exact nC_one _ | simp) (by omega) (by omega) (by have := HBk.out.size; simp; omega) ?_; intro v1 w2 hown1 hg1; have HBw := Lib.hid (below_grownk (B := W0.heap.size) (a := W0) ((Below.alloc (Below.alloc HBk.out HBk.out.size _) (by have := HBk.out.size; simp; omega) _).drew) (own_emptyn (k := 1) (blk_under wr (.cells #[] 3) (.cells #[.int .i64 n] 3)) hG) hg1 (Nat.le_refl _) (Nat.le_refl _)); have HO1 := Lib.hid hown1; have HX2 : Hid (w2.heap[wr.heap.size + 1]? = some (.cells #[.int .i64 n] 3)) := Lib.hid ((hg1.block (wr.heap.size + 1) (by simp) (by simp [Value.ownBlock])).trans (blk_over wr (.cells #[] 3) (.cells #[.int .i64 n] 3))); clear hown1 hg1)
                | (refine step_append_sized rfl (.tmp 63) (.tmp 66) 68 rfl W0.heap.size 3 i1 _ 1 8 Try.underlying68 Hj0.out Hj1.out Hj2.out Hj3.out rfl (by decide) (.slice (some ⟨(wr.heap.size + 1), 0, none⟩) 0 0) 0 [] (by simp [Act.eval]) (own_emptyn (k := 1) (blk_over wr (.cells #[.int .i64 n] 3) (.cells #[] 3)) (by omega)) none 0 0 (by simp [Act.eval]) [] (by rfl) (fun _ => ⟨rfl, rfl⟩) (fun ad e j u hu => by simp at hu) (by first | exact nC_one _ | simp) (by omega) (by omega) (by have := HBk.out.size; simp; omega) ?_; intro v1 w2 hown1 hg1; have HBw := Lib.hid (below_grownk (B := W0.heap.size) (a := W0) ((Below.alloc (Below.alloc HBk.out HBk.out.size _) (by have := HBk.out.size; simp; omega) _).drew) (own_emptyn (k := 1) (blk_over wr (.cells #[.int .i64 n] 3) (.cells #[] 3)) (by omega)) hg1 (Nat.le_refl _) (Nat.le_refl _)); have HO1 := Lib.hid hown1; have HX2 : Hid (w2.heap[wr.heap.size]? = some (.cells #[.int .i64 n] 3)) := Lib.hid ((hg1.block wr.heap.size (by simp; omega) (by simp [Value.ownBlock])).trans (blk_under wr (.cells #[.int .i64 n] 3) (.cells #[] 3))); clear hown1 hg1)
                | (refine step_append_sized rfl (.tmp 67) (.tmp 69) 68 rfl W0.heap.size 3 i1 _ 1 8 Try.underlying68 Hj0.out Hj1.out Hj2.out Hj3.out rfl (by decide) v1 (0 + 0) ([] ++ []) (by simp [Act.eval]) (HO1.out.alloc _) (some ⟨w2.heap.size, 0, none⟩) 1 1 (by simp [Act.eval]) [.int .i64 n] rfl (fun h => by cases h) (cells_one (Deep.blk_alloc_new w2 (.cells #[.int .i64 n] 3))) (by simp [Value.oneCell']) (by omega) (by omega) (by have := HBw.out.size; simp; omega) ?_; intro v2 w3 hown2 hg2; have HBv := Lib.hid (below_grownk (B := W0.heap.size) (a := W0) (Below.alloc HBw.out HBw.out.size _) (HO1.out.alloc _) hg2 (Nat.le_refl _) (Nat.le_refl _)); have HO2 := Lib.hid hown2; clear hown2 hg2)
                | (refine step_append_sized rfl (.tmp 67) (.tmp 69) 68 rfl W0.heap.size 3 i1 _ 1 8 Try.underlying68 Hj0.out Hj1.out Hj2.out Hj3.out rfl (by decide) v1 (0 + 0) ([] ++ []) (by simp [Act.eval]) HO1.out (some ⟨(wr.heap.size + 1), 0, none⟩) 1 1 (by simp [Act.eval]) [.int .i64 n] rfl (fun h => by cases h) (cells_one HX2.out) (by simp [Value.oneCell']) (by omega) (by omega) (by have := HBw.out.size; simp; omega) ?_; intro v2 w3 hown2 hg2; have HBv := Lib.hid (below_grownk (B := W0.heap.size) (a := W0) HBw.out HO1.out hg2 (Nat.le_refl _) (Nat.le_refl _)); have HO2 := Lib.hid hown2; clear hown2 hg2)
                | (refine step_append_sized rfl (.tmp 67) (.tmp 69) 68 rfl W0.heap.size 3 i1 _ 1 8 Try.underlying68 Hj0.out Hj1.out Hj2.out Hj3.out rfl (by decide) v1 (0 + 0) ([] ++ []) (by simp [Act.eval]) HO1.out (some ⟨wr.heap.size, 0, none⟩) 1 1 (by simp [Act.eval]) [.int .i64 n] rfl (fun h => by cases h) (cells_one HX2.out) (by simp [Value.oneCell']) (by omega) (by omega) (by have := HBw.out.size; simp; omega) ?_; intro v2 w3 hown2 hg2; have HBv := Lib.hid (below_grownk (B := W0.heap.size) (a := W0) HBw.out HO1.out hg2 (Nat.le_refl _) (Nat.le_refl _)); have HO2 := Lib.hid hown2; clear hown2 hg2)
                | (refine step_append_sized rfl (.tmp 70) (.tmp 73) 68 rfl W0.heap.size 3 i1 _ 1 8 Try.underlying68 Hj0.out Hj1.out Hj2.out Hj3.out rfl (by decide) v2 (0 + 0 + 1) ([] ++ [] ++ [.int .i64 n]) (by simp [Act.eval]) HO2.out none 0 0 (by simp [Act.eval]) [] (by rfl) (fun _ => ⟨rfl, rfl⟩) (fun ad e j u hu => by simp at hu) (by first | exact nC_one _ | simp) (by omega) (by omega) HBv.out.size ?_; intro v3 w4 hown3 hg3; have HBu := Lib.hid (below_grownk (B := W0.heap.size) (a := W0) HBv.out HO2.out hg3 (Nat.le_refl _) (Nat.le_refl _)); have HO3 := Lib.hid hown3; clear hown3 hg3)))
              all_goals
                go_wp2_with fail
                go_roundw
                case rel =>
                  refine ⟨j + 1, by omega, by go_num, Lib.hid ?_, Lib.hid (.inr ?_), Lib.hid (HB.out.trans (HBu.out.mono HB.out.size))⟩
                  · have h := own_base HO3.out HB.out.size
                    have e1 : (bdk F (j + 1)).length = 0 + 0 + 1 + 0 := by rw [E.out, HP.out]; simp
                    have e2 : nC (bdk F (j + 1)) = [] ++ [] ++ [.int .i64 n] ++ [] := by rw [E.out, HP.out]; simp [nC]
                    rw [e1, e2]; exact h
                  · rw [E.out, HP.out, List.length_append, List.length_append]; simp only [List.length_cons, List.length_nil]; omega
                case measure => simp [intOf]; omega
            · obtain ⟨g, off, rfl, hg, _⟩ := num_at (HRs.out.below HBk.out) 0 hpos
              obtain ⟨rfl, g0, gl⟩ : off = 0 ∧ W3.heap.size ≤ g ∧ g < W0.heap.size := by
                rcases HA'.out with ⟨h, _⟩ | ⟨g', h, h1, h2⟩
                · cases h
                · cases h; exact ⟨rfl, h1, h2⟩
              obtain ⟨k, hk2⟩ : ∃ k : Nat, S.length = k := ⟨_, rfl⟩
              have hkS : k ≤ S.length := by omega
              by_cases hcm2 : c' = k
              · have hSk : S.length = c' := by omega
                rw [hSk] at HP hk hwk hk0' hkE'
                simp only [hSk]
                subst hcm2
                go_wp2_with fail
                have hG : W0.heap.size ≤ wr.heap.size := HBk.out.size
                go_region_law ((first
                  | (refine step_append_sized rfl (.tmp 63) (.tmp 66) 68 rfl W0.heap.size 3 i1 _ 1 8 Try.underlying68 Hj0.out Hj1.out Hj2.out Hj3.out rfl (by decide) (.slice (some ⟨wr.heap.size, 0, none⟩) 0 0) 0 [] (by simp [Act.eval]) (own_emptyn (k := 1) (Deep.blk_alloc_new wr (.cells #[] 3)) hG) (some ⟨g, 0, none⟩) c' c' (by simp [Act.eval]) (nC (S.take c')) (by rw [nC_len, List.length_take, Nat.min_eq_left hkS, Nat.mul_one]) (fun h => by cases h) (front_nums HRs.out ((Below.alloc HBk.out HBk.out.size _).drew) c' hkS) (by first | exact nC_one _ | simp) (by omega) (by omega) (by have := HBk.out.size; simp; omega) ?_; intro v1 w2 hown1 hg1; have HBw := Lib.hid (below_grownk (B := W0.heap.size) (a := W0) ((Below.alloc HBk.out HBk.out.size _).drew) (own_emptyn (k := 1) (Deep.blk_alloc_new wr (.cells #[] 3)) hG) hg1 (Nat.le_refl _) (Nat.le_refl _)); have HO1 := Lib.hid hown1; clear hown1 hg1)
                  | (refine step_append_sized rfl (.tmp 63) (.tmp 66) 68 rfl W0.heap.size 3 i1 _ 1 8 Try.underlying68 Hj0.out Hj1.out Hj2.out Hj3.out rfl (by decide) (.slice (some ⟨wr.heap.size, 0, none⟩) 0 0) 0 [] (by simp [Act.eval]) (own_emptyn (k := 1) (blk_under wr (.cells #[] 3) (.cells #[.int .i64 n] 3)) hG) (some ⟨g, 0, none⟩) c' c' (by simp [Act.eval]) (nC (S.take c')) (by rw [nC_len, List.length_take, Nat.min_eq_left hkS, Nat.mul_one]) (fun h => by cases h) (front_nums HRs.out ((Below.alloc (Below.alloc HBk.out HBk.out.size _) (by have := HBk.out.size; simp; omega) _).drew) c' hkS) (by first | exact nC_one _ | simp) (by omega) (by omega) (by have := HBk.out.size; simp; omega) ?_; intro v1 w2 hown1 hg1; have HBw := Lib.hid (below_grownk (B := W0.heap.size) (a := W0) ((Below.alloc (Below.alloc HBk.out HBk.out.size _) (by have := HBk.out.size; simp; omega) _).drew) (own_emptyn (k := 1) (blk_under wr (.cells #[] 3) (.cells #[.int .i64 n] 3)) hG) hg1 (Nat.le_refl _) (Nat.le_refl _)); have HO1 := Lib.hid hown1; have HX2 : Hid (w2.heap[wr.heap.size + 1]? = some (.cells #[.int .i64 n] 3)) := Lib.hid ((hg1.block (wr.heap.size + 1) (by simp) (by simp [Value.ownBlock])).trans (blk_over wr (.cells #[] 3) (.cells #[.int .i64 n] 3))); clear hown1 hg1)
                  | (refine step_append_sized rfl (.tmp 63) (.tmp 66) 68 rfl W0.heap.size 3 i1 _ 1 8 Try.underlying68 Hj0.out Hj1.out Hj2.out Hj3.out rfl (by decide) (.slice (some ⟨(wr.heap.size + 1), 0, none⟩) 0 0) 0 [] (by simp [Act.eval]) (own_emptyn (k := 1) (blk_over wr (.cells #[.int .i64 n] 3) (.cells #[] 3)) (by omega)) (some ⟨g, 0, none⟩) c' c' (by simp [Act.eval]) (nC (S.take c')) (by rw [nC_len, List.length_take, Nat.min_eq_left hkS, Nat.mul_one]) (fun h => by cases h) (front_nums HRs.out ((Below.alloc (Below.alloc HBk.out HBk.out.size _) (by have := HBk.out.size; simp; omega) _).drew) c' hkS) (by first | exact nC_one _ | simp) (by omega) (by omega) (by have := HBk.out.size; simp; omega) ?_; intro v1 w2 hown1 hg1; have HBw := Lib.hid (below_grownk (B := W0.heap.size) (a := W0) ((Below.alloc (Below.alloc HBk.out HBk.out.size _) (by have := HBk.out.size; simp; omega) _).drew) (own_emptyn (k := 1) (blk_over wr (.cells #[.int .i64 n] 3) (.cells #[] 3)) (by omega)) hg1 (Nat.le_refl _) (Nat.le_refl _)); have HO1 := Lib.hid hown1; have HX2 : Hid (w2.heap[wr.heap.size]? = some (.cells #[.int .i64 n] 3)) := Lib.hid ((hg1.block wr.heap.size (by simp; omega) (by simp [Value.ownBlock])).trans (blk_under wr (.cells #[.int .i64 n] 3) (.cells #[] 3))); clear hown1 hg1)
                  | (refine step_append_sized rfl (.tmp 67) (.tmp 69) 68 rfl W0.heap.size 3 i1 _ 1 8 Try.underlying68 Hj0.out Hj1.out Hj2.out Hj3.out rfl (by decide) v1 (0 + c') ([] ++ (nC (S.take c'))) (by simp [Act.eval]) (HO1.out.alloc _) (some ⟨w2.heap.size, 0, none⟩) 1 1 (by simp [Act.eval]) [.int .i64 n] rfl (fun h => by cases h) (cells_one (Deep.blk_alloc_new w2 (.cells #[.int .i64 n] 3))) (by simp [Value.oneCell']) (by omega) (by omega) (by have := HBw.out.size; simp; omega) ?_; intro v2 w3 hown2 hg2; have HBv := Lib.hid (below_grownk (B := W0.heap.size) (a := W0) (Below.alloc HBw.out HBw.out.size _) (HO1.out.alloc _) hg2 (Nat.le_refl _) (Nat.le_refl _)); have HO2 := Lib.hid hown2; clear hown2 hg2)
                  | (refine step_append_sized rfl (.tmp 67) (.tmp 69) 68 rfl W0.heap.size 3 i1 _ 1 8 Try.underlying68 Hj0.out Hj1.out Hj2.out Hj3.out rfl (by decide) v1 (0 + c') ([] ++ (nC (S.take c'))) (by simp [Act.eval]) HO1.out (some ⟨(wr.heap.size + 1), 0, none⟩) 1 1 (by simp [Act.eval]) [.int .i64 n] rfl (fun h => by cases h) (cells_one HX2.out) (by simp [Value.oneCell']) (by omega) (by omega) (by have := HBw.out.size; simp; omega) ?_; intro v2 w3 hown2 hg2; have HBv := Lib.hid (below_grownk (B := W0.heap.size) (a := W0) HBw.out HO1.out hg2 (Nat.le_refl _) (Nat.le_refl _)); have HO2 := Lib.hid hown2; clear hown2 hg2)
                  | (refine step_append_sized rfl (.tmp 67) (.tmp 69) 68 rfl W0.heap.size 3 i1 _ 1 8 Try.underlying68 Hj0.out Hj1.out Hj2.out Hj3.out rfl (by decide) v1 (0 + c') ([] ++ (nC (S.take c'))) (by simp [Act.eval]) HO1.out (some ⟨wr.heap.size, 0, none⟩) 1 1 (by simp [Act.eval]) [.int .i64 n] rfl (fun h => by cases h) (cells_one HX2.out) (by simp [Value.oneCell']) (by omega) (by omega) (by have := HBw.out.size; simp; omega) ?_; intro v2 w3 hown2 hg2; have HBv := Lib.hid (below_grownk (B := W0.heap.size) (a := W0) HBw.out HO1.out hg2 (Nat.le_refl _) (Nat.le_refl _)); have HO2 := Lib.hid hown2; clear hown2 hg2)
                  | (refine step_append_sized rfl (.tmp 70) (.tmp 73) 68 rfl W0.heap.size 3 i1 _ 1 8 Try.underlying68 Hj0.out Hj1.out Hj2.out Hj3.out rfl (by decide) v2 (0 + c' + 1) ([] ++ (nC (S.take c')) ++ [.int .i64 n]) (by simp [Act.eval]) HO2.out (some ⟨g, 0, none⟩) 0 0 (by simp [Act.eval]) [] (by rfl) (fun h => by cases h) (fun ad e j u hu => by simp at hu) (by first | exact nC_one _ | simp) (by omega) (by omega) HBv.out.size ?_; intro v3 w4 hown3 hg3; have HBu := Lib.hid (below_grownk (B := W0.heap.size) (a := W0) HBv.out HO2.out hg3 (Nat.le_refl _) (Nat.le_refl _)); have HO3 := Lib.hid hown3; clear hown3 hg3)))
                all_goals
                  go_wp2_with fail
                  go_roundw
                  case rel =>
                    refine ⟨j + 1, by omega, by go_num, Lib.hid ?_, Lib.hid (.inr ?_), Lib.hid (HB.out.trans (HBu.out.mono HB.out.size))⟩
                    · have h := own_base HO3.out HB.out.size
                      have e1 : (bdk F (j + 1)).length = 0 + c' + 1 + 0 := by rw [E.out, HP.out]; simp only [List.length_append, List.length_take, List.length_drop, List.length_cons, List.length_nil, Nat.min_eq_left hkS]; omega
                      have e2 : nC (bdk F (j + 1)) = [] ++ (nC (S.take c')) ++ [.int .i64 n] ++ [] := by rw [E.out, HP.out]; rw [List.drop_eq_nil_of_le (by omega)]; simp [nC]
                      rw [e1, e2]; exact h
                    · rw [E.out, HP.out, List.length_append, List.length_append]; simp only [List.length_cons, List.length_nil]; omega
                  case measure => simp [intOf]; omega
              · have hmc : k ≤ c' := by omega
                rw [hk2] at HP hk hwk hk0' hkE'
                simp only [hk2]
                go_wp2_with fail
                have hG : W0.heap.size ≤ wr.heap.size := HBk.out.size
                go_region_law ((first
                  | (refine step_append_sized rfl (.tmp 63) (.tmp 66) 68 rfl W0.heap.size 3 i1 _ 1 8 Try.underlying68 Hj0.out Hj1.out Hj2.out Hj3.out rfl (by decide) (.slice (some ⟨wr.heap.size, 0, none⟩) 0 0) 0 [] (by simp [Act.eval]) (own_emptyn (k := 1) (Deep.blk_alloc_new wr (.cells #[] 3)) hG) (some ⟨g, 0, none⟩) k c' (by simp [Act.eval]) (nC (S.take k)) (by rw [nC_len, List.length_take, Nat.min_eq_left hkS, Nat.mul_one]) (fun h => by cases h) (front_nums HRs.out ((Below.alloc HBk.out HBk.out.size _).drew) k hkS) (by first | exact nC_one _ | simp) (by omega) (by omega) (by have := HBk.out.size; simp; omega) ?_; intro v1 w2 hown1 hg1; have HBw := Lib.hid (below_grownk (B := W0.heap.size) (a := W0) ((Below.alloc HBk.out HBk.out.size _).drew) (own_emptyn (k := 1) (Deep.blk_alloc_new wr (.cells #[] 3)) hG) hg1 (Nat.le_refl _) (Nat.le_refl _)); have HO1 := Lib.hid hown1; clear hown1 hg1)
                  | (refine step_append_sized rfl (.tmp 63) (.tmp 66) 68 rfl W0.heap.size 3 i1 _ 1 8 Try.underlying68 Hj0.out Hj1.out Hj2.out Hj3.out rfl (by decide) (.slice (some ⟨wr.heap.size, 0, none⟩) 0 0) 0 [] (by simp [Act.eval]) (own_emptyn (k := 1) (blk_under wr (.cells #[] 3) (.cells #[.int .i64 n] 3)) hG) (some ⟨g, 0, none⟩) k c' (by simp [Act.eval]) (nC (S.take k)) (by rw [nC_len, List.length_take, Nat.min_eq_left hkS, Nat.mul_one]) (fun h => by cases h) (front_nums HRs.out ((Below.alloc (Below.alloc HBk.out HBk.out.size _) (by have := HBk.out.size; simp; omega) _).drew) k hkS) (by first | exact nC_one _ | simp) (by omega) (by omega) (by have := HBk.out.size; simp; omega) ?_; intro v1 w2 hown1 hg1; have HBw := Lib.hid (below_grownk (B := W0.heap.size) (a := W0) ((Below.alloc (Below.alloc HBk.out HBk.out.size _) (by have := HBk.out.size; simp; omega) _).drew) (own_emptyn (k := 1) (blk_under wr (.cells #[] 3) (.cells #[.int .i64 n] 3)) hG) hg1 (Nat.le_refl _) (Nat.le_refl _)); have HO1 := Lib.hid hown1; have HX2 : Hid (w2.heap[wr.heap.size + 1]? = some (.cells #[.int .i64 n] 3)) := Lib.hid ((hg1.block (wr.heap.size + 1) (by simp) (by simp [Value.ownBlock])).trans (blk_over wr (.cells #[] 3) (.cells #[.int .i64 n] 3))); clear hown1 hg1)
                  | (refine step_append_sized rfl (.tmp 63) (.tmp 66) 68 rfl W0.heap.size 3 i1 _ 1 8 Try.underlying68 Hj0.out Hj1.out Hj2.out Hj3.out rfl (by decide) (.slice (some ⟨(wr.heap.size + 1), 0, none⟩) 0 0) 0 [] (by simp [Act.eval]) (own_emptyn (k := 1) (blk_over wr (.cells #[.int .i64 n] 3) (.cells #[] 3)) (by omega)) (some ⟨g, 0, none⟩) k c' (by simp [Act.eval]) (nC (S.take k)) (by rw [nC_len, List.length_take, Nat.min_eq_left hkS, Nat.mul_one]) (fun h => by cases h) (front_nums HRs.out ((Below.alloc (Below.alloc HBk.out HBk.out.size _) (by have := HBk.out.size; simp; omega) _).drew) k hkS) (by first | exact nC_one _ | simp) (by omega) (by omega) (by have := HBk.out.size; simp; omega) ?_; intro v1 w2 hown1 hg1; have HBw := Lib.hid (below_grownk (B := W0.heap.size) (a := W0) ((Below.alloc (Below.alloc HBk.out HBk.out.size _) (by have := HBk.out.size; simp; omega) _).drew) (own_emptyn (k := 1) (blk_over wr (.cells #[.int .i64 n] 3) (.cells #[] 3)) (by omega)) hg1 (Nat.le_refl _) (Nat.le_refl _)); have HO1 := Lib.hid hown1; have HX2 : Hid (w2.heap[wr.heap.size]? = some (.cells #[.int .i64 n] 3)) := Lib.hid ((hg1.block wr.heap.size (by simp; omega) (by simp [Value.ownBlock])).trans (blk_under wr (.cells #[.int .i64 n] 3) (.cells #[] 3))); clear hown1 hg1)
                  | (refine step_append_sized rfl (.tmp 67) (.tmp 69) 68 rfl W0.heap.size 3 i1 _ 1 8 Try.underlying68 Hj0.out Hj1.out Hj2.out Hj3.out rfl (by decide) v1 (0 + k) ([] ++ (nC (S.take k))) (by simp [Act.eval]) (HO1.out.alloc _) (some ⟨w2.heap.size, 0, none⟩) 1 1 (by simp [Act.eval]) [.int .i64 n] rfl (fun h => by cases h) (cells_one (Deep.blk_alloc_new w2 (.cells #[.int .i64 n] 3))) (by simp [Value.oneCell']) (by omega) (by omega) (by have := HBw.out.size; simp; omega) ?_; intro v2 w3 hown2 hg2; have HBv := Lib.hid (below_grownk (B := W0.heap.size) (a := W0) (Below.alloc HBw.out HBw.out.size _) (HO1.out.alloc _) hg2 (Nat.le_refl _) (Nat.le_refl _)); have HO2 := Lib.hid hown2; clear hown2 hg2)
                  | (refine step_append_sized rfl (.tmp 67) (.tmp 69) 68 rfl W0.heap.size 3 i1 _ 1 8 Try.underlying68 Hj0.out Hj1.out Hj2.out Hj3.out rfl (by decide) v1 (0 + k) ([] ++ (nC (S.take k))) (by simp [Act.eval]) HO1.out (some ⟨(wr.heap.size + 1), 0, none⟩) 1 1 (by simp [Act.eval]) [.int .i64 n] rfl (fun h => by cases h) (cells_one HX2.out) (by simp [Value.oneCell']) (by omega) (by omega) (by have := HBw.out.size; simp; omega) ?_; intro v2 w3 hown2 hg2; have HBv := Lib.hid (below_grownk (B := W0.heap.size) (a := W0) HBw.out HO1.out hg2 (Nat.le_refl _) (Nat.le_refl _)); have HO2 := Lib.hid hown2; clear hown2 hg2)
                  | (refine step_append_sized rfl (.tmp 67) (.tmp 69) 68 rfl W0.heap.size 3 i1 _ 1 8 Try.underlying68 Hj0.out Hj1.out Hj2.out Hj3.out rfl (by decide) v1 (0 + k) ([] ++ (nC (S.take k))) (by simp [Act.eval]) HO1.out (some ⟨wr.heap.size, 0, none⟩) 1 1 (by simp [Act.eval]) [.int .i64 n] rfl (fun h => by cases h) (cells_one HX2.out) (by simp [Value.oneCell']) (by omega) (by omega) (by have := HBw.out.size; simp; omega) ?_; intro v2 w3 hown2 hg2; have HBv := Lib.hid (below_grownk (B := W0.heap.size) (a := W0) HBw.out HO1.out hg2 (Nat.le_refl _) (Nat.le_refl _)); have HO2 := Lib.hid hown2; clear hown2 hg2)
                  | (refine step_append_sized rfl (.tmp 70) (.tmp 73) 68 rfl W0.heap.size 3 i1 _ 1 8 Try.underlying68 Hj0.out Hj1.out Hj2.out Hj3.out rfl (by decide) v2 (0 + k + 1) ([] ++ (nC (S.take k)) ++ [.int .i64 n]) (by simp [Act.eval]) HO2.out (some ⟨g, k, none⟩) 0 (c' - k) (by simp [Act.eval]) [] (by rfl) (fun h => by cases h) (fun ad e j u hu => by simp at hu) (by first | exact nC_one _ | simp) (by omega) (by omega) HBv.out.size ?_; intro v3 w4 hown3 hg3; have HBu := Lib.hid (below_grownk (B := W0.heap.size) (a := W0) HBv.out HO2.out hg3 (Nat.le_refl _) (Nat.le_refl _)); have HO3 := Lib.hid hown3; clear hown3 hg3)))
                all_goals
                  go_wp2_with fail
                  go_roundw
                  case rel =>
                    refine ⟨j + 1, by omega, by go_num, Lib.hid ?_, Lib.hid (.inr ?_), Lib.hid (HB.out.trans (HBu.out.mono HB.out.size))⟩
                    · have h := own_base HO3.out HB.out.size
                      have e1 : (bdk F (j + 1)).length = 0 + k + 1 + 0 := by rw [E.out, HP.out]; simp only [List.length_append, List.length_take, List.length_drop, List.length_cons, List.length_nil, Nat.min_eq_left hkS]; omega
                      have e2 : nC (bdk F (j + 1)) = [] ++ (nC (S.take k)) ++ [.int .i64 n] ++ [] := by rw [E.out, HP.out]; rw [List.drop_eq_nil_of_le (by omega)]; simp [nC]
                      rw [e1, e2]; exact h
                    · rw [E.out, HP.out, List.length_append, List.length_append]; simp only [List.length_cons, List.length_nil]; omega
                  case measure => simp [intOf]; omega
      · have ej : j = 2 * q + 1 := by omega
        obtain ⟨n, hn⟩ : ∃ n, n = F[j] := ⟨_, rfl⟩
        have e0 := (HE.out q hql).2
        rw [← ej, List.getElem?_eq_getElem hlt, ← hn, Option.some.injEq] at e0
        rw [← e0] at h1
        rw [← hn] at hs
        have E := Lib.hid hs
        have hr : (j : Int).tmod 2 = 1 := by rw [Int.tmod_eq_emod_of_nonneg (by omega)]; omega
        have hw0 : (j : Int) % 2 = 1 := by omega
        clear e0 hn ej hs hq
        go_wp2_with fail
        clear h0 h1 hb4 hq1 hq2 hqI hq0 hwj hr hw0
        rename World => W0
        go_loopw [9] (fun kv wk => ∃ k : Nat, k ≤ S.length ∧ kv = .int .i64 (k : Int) ∧ Hid (∀ i (h : i < S.length), i < k → S[i] < n) ∧ Hid (Below W0.heap.size W0 wk)) (fun kv _ => S.length - (intOf kv).toNat)
        case atStart => exact ⟨0, Nat.zero_le _, rfl, Lib.hid (fun i h hi => absurd hi (by omega)), Lib.hid (Below.refl _ _)⟩
        case round =>
          obtain ⟨k, hk, rfl, Hk, HBk⟩ := hrel
          have hwk : IntKind.i64.wrap ((k : Int) + 1) = (k : Int) + 1 := by simp only [IntKind.wrap_i64]; omega
          have hk0' : (0 : Int) ≤ (k : Int) := by omega
          by_cases hkS' : k < S.length
          · obtain ⟨g, off, rfl, hg, d0⟩ := num_at (HRs.out.below HBk.out) k hkS'
            obtain ⟨rfl, g0, gl⟩ : off = 0 ∧ W3.heap.size ≤ g ∧ g < W0.heap.size := by
              rcases HA'.out with ⟨h, _⟩ | ⟨g', h, h1, h2⟩
              · cases h
              · cases h; exact ⟨rfl, h1, h2⟩
            rw [Nat.zero_add] at d0
            obtain ⟨y, hy⟩ : ∃ y, y = S[k] := ⟨_, rfl⟩
            rw [← hy] at d0
            have HY := Lib.hid hy
            have hkI : (k : Int) < (S.length : Int) := by omega
            clear hy
            by_cases hyn : y < n
            · go_wp2_with fail
              go_roundw
              case rel =>
                refine ⟨k + 1, by omega, by go_num, Lib.hid (fun i h hi => ?_), HBk⟩
                by_cases e : i = k
                · subst e; rw [← HY.out]; exact hyn
                · exact Hk.out i h (by omega)
              case measure => simp [intOf]; omega
            · have hkE : ¬ k = S.length := by omega
              have hkE' : ¬ (k : Int) = (S.length : Int) := by omega
              by_cases hye : y = n
              · have HP := Lib.hid (insN_old n S k hkS' Hk.out (by rw [← HY.out]; exact hye))
                subst hye
                go_wp2_with fail
                go_roundw
                case rel => exact ⟨j + 1, by omega, by go_num, by rw [E.out, HP.out]; exact Lib.hid (own_below1 HO.out HBk.out), by rw [E.out, HP.out]; exact HN, Lib.hid (HB.out.trans (HBk.out.mono HB.out.size))⟩
                case measure => simp [intOf]; omega
              · have HP := Lib.hid (insN_new n S k (by omega) Hk.out (fun h => by rw [← HY.out]; omega))
                have hkS : k ≤ S.length := by omega
                have hmc : k ≤ c' := by omega
                by_cases hk0 : k = 0
                · subst hk0
                  have hc0 : ¬ c' = 0 := by omega
                  have hny : n ≤ y := by omega
                  have hyb : (y != n) = true := bne_iff_ne.2 hye
                  have hkp : (0 : Int) < (S.length : Int) := by omega
                  have hkz : ¬ (0 : Int) = (S.length : Int) := by omega
                  clear hyn HY hk0' hwk
                  go_wp2_with fail
                  have hG : W0.heap.size ≤ wr.heap.size := HBk.out.size
                  go_region_law ((first
                    | (refine step_append_sized rfl (.tmp 63) (.tmp 66) 68 rfl W0.heap.size 3 i1 _ 1 8 Try.underlying68 Hj0.out Hj1.out Hj2.out Hj3.out rfl (by decide) (.slice (some ⟨wr.heap.size, 0, none⟩) 0 0) 0 [] (by simp [Act.eval]) (own_emptyn (k := 1) (Deep.blk_alloc_new wr (.cells #[] 3)) hG) (some ⟨g, 0, none⟩) 0 c' (by simp [Act.eval]) [] (by rfl) (fun h => by cases h) (fun ad e j u hu => by simp at hu) (by first | exact nC_one _ | simp) (by omega) (by omega) (by have := HBk.out.size; simp; omega) ?_; intro v1 w2 hown1 hg1; have HBw := Lib.hid (below_grownk (B := W0.heap.size) (a := W0) ((Below.alloc HBk.out HBk.out.size _).drew) (own_emptyn (k := 1) (Deep.blk_alloc_new wr (.cells #[] 3)) hG) hg1 (Nat.le_refl _) (Nat.le_refl _)); have HO1 := Lib.hid hown1; clear hown1 hg1)
                    | (refine step_append_sized rfl (.tmp 63) (.tmp 66) 68 rfl W0.heap.size 3 i1 _ 1 8 Try.underlying68 Hj0.out Hj1.out Hj2.out Hj3.out rfl (by decide) (.slice (some ⟨wr.heap.size, 0, none⟩) 0 0) 0 [] (by simp [Act.eval]) (own_emptyn (k := 1) (blk_under wr (.cells #[] 3) (.cells #[.int .i64 n] 3)) hG) (some ⟨g, 0, none⟩) 0 c' (by simp [Act.eval]) [] (by rfl) (fun h => by cases h) (fun ad e j u hu => by simp at hu) (by first | exact nC_one _ | simp) (by omega) (by omega) (by have := HBk.out.size; simp; omega) ?_; intro v1 w2 hown1 hg1; have HBw := Lib.hid (below_grownk (B := W0.heap.size) (a := W0) ((Below.alloc (Below.alloc HBk.out HBk.out.size _) (by have := HBk.out.size; simp; omega) _).drew) (own_emptyn (k := 1) (blk_under wr (.cells #[] 3) (.cells #[.int .i64 n] 3)) hG) hg1 (Nat.le_refl _) (Nat.le_refl _)); have HO1 := Lib.hid hown1; have HX2 : Hid (w2.heap[wr.heap.size + 1]? = some (.cells #[.int .i64 n] 3)) := Lib.hid ((hg1.block (wr.heap.size + 1) (by simp) (by simp [Value.ownBlock])).trans (blk_over wr (.cells #[] 3) (.cells #[.int .i64 n] 3))); clear hown1 hg1)
                    | (refine step_append_sized rfl (.tmp 63) (.tmp 66) 68 rfl W0.heap.size 3 i1 _ 1 8 Try.underlying68 Hj0.out Hj1.out Hj2.out Hj3.out rfl (by decide) (.slice (some ⟨(wr.heap.size + 1), 0, none⟩) 0 0) 0 [] (by simp [Act.eval]) (own_emptyn (k := 1) (blk_over wr (.cells #[.int .i64 n] 3) (.cells #[] 3)) (by omega)) (some ⟨g, 0, none⟩) 0 c' (by simp [Act.eval]) [] (by rfl) (fun h => by cases h) (fun ad e j u hu => by simp at hu) (by first | exact nC_one _ | simp) (by omega) (by omega) (by have := HBk.out.size; simp; omega) ?_; intro v1 w2 hown1 hg1; have HBw := Lib.hid (below_grownk (B := W0.heap.size) (a := W0) ((Below.alloc (Below.alloc HBk.out HBk.out.size _) (by have := HBk.out.size; simp; omega) _).drew) (own_emptyn (k := 1) (blk_over wr (.cells #[.int .i64 n] 3) (.cells #[] 3)) (by omega)) hg1 (Nat.le_refl _) (Nat.le_refl _)); have HO1 := Lib.hid hown1; have HX2 : Hid (w2.heap[wr.heap.size]? = some (.cells #[.int .i64 n] 3)) := Lib.hid ((hg1.block wr.heap.size (by simp; omega) (by simp [Value.ownBlock])).trans (blk_under wr (.cells #[.int .i64 n] 3) (.cells #[] 3))); clear hown1 hg1)
                    | (refine step_append_sized rfl (.tmp 67) (.tmp 69) 68 rfl W0.heap.size 3 i1 _ 1 8 Try.underlying68 Hj0.out Hj1.out Hj2.out Hj3.out rfl (by decide) v1 (0 + 0) ([] ++ []) (by simp [Act.eval]) (HO1.out.alloc _) (some ⟨w2.heap.size, 0, none⟩) 1 1 (by simp [Act.eval]) [.int .i64 n] rfl (fun h => by cases h) (cells_one (Deep.blk_alloc_new w2 (.cells #[.int .i64 n] 3))) (by simp [Value.oneCell']) (by omega) (by omega) (by have := HBw.out.size; simp; omega) ?_; intro v2 w3 hown2 hg2; have HBv := Lib.hid (below_grownk (B := W0.heap.size) (a := W0) (Below.alloc HBw.out HBw.out.size _) (HO1.out.alloc _) hg2 (Nat.le_refl _) (Nat.le_refl _)); have HO2 := Lib.hid hown2; clear hown2 hg2)
                    | (refine step_append_sized rfl (.tmp 67) (.tmp 69) 68 rfl W0.heap.size 3 i1 _ 1 8 Try.underlying68 Hj0.out Hj1.out Hj2.out Hj3.out rfl (by decide) v1 (0 + 0) ([] ++ []) (by simp [Act.eval]) HO1.out (some ⟨(wr.heap.size + 1), 0, none⟩) 1 1 (by simp [Act.eval]) [.int .i64 n] rfl (fun h => by cases h) (cells_one HX2.out) (by simp [Value.oneCell']) (by omega) (by omega) (by have := HBw.out.size; simp; omega) ?_; intro v2 w3 hown2 hg2; have HBv := Lib.hid (below_grownk (B := W0.heap.size) (a := W0) HBw.out HO1.out hg2 (Nat.le_refl _) (Nat.le_refl _)); have HO2 := Lib.hid hown2; clear hown2 hg2)
                    | (refine step_append_sized rfl (.tmp 67) (.tmp 69) 68 rfl W0.heap.size 3 i1 _ 1 8 Try.underlying68 Hj0.out Hj1.out Hj2.out Hj3.out rfl (by decide) v1 (0 + 0) ([] ++ []) (by simp [Act.eval]) HO1.out (some ⟨wr.heap.size, 0, none⟩) 1 1 (by simp [Act.eval]) [.int .i64 n] rfl (fun h => by cases h) (cells_one HX2.out) (by simp [Value.oneCell']) (by omega) (by omega) (by have := HBw.out.size; simp; omega) ?_; intro v2 w3 hown2 hg2; have HBv := Lib.hid (below_grownk (B := W0.heap.size) (a := W0) HBw.out HO1.out hg2 (Nat.le_refl _) (Nat.le_refl _)); have HO2 := Lib.hid hown2; clear hown2 hg2)
                    | (refine step_append_sized rfl (.tmp 70) (.tmp 73) 68 rfl W0.heap.size 3 i1 _ 1 8 Try.underlying68 Hj0.out Hj1.out Hj2.out Hj3.out rfl (by decide) v2 (0 + 0 + 1) ([] ++ [] ++ [.int .i64 n]) (by simp [Act.eval]) HO2.out (some ⟨g, 0, none⟩) S.length c' (by simp [Act.eval]) (nC S) (by rw [nC_len, Nat.mul_one]) (fun h => by cases h) (by have h := back_nums HRs.out HBv.out 0 (Nat.zero_le _); simpa using h) (by first | exact nC_one _ | simp) (by omega) (by omega) HBv.out.size ?_; intro v3 w4 hown3 hg3; have HBu := Lib.hid (below_grownk (B := W0.heap.size) (a := W0) HBv.out HO2.out hg3 (Nat.le_refl _) (Nat.le_refl _)); have HO3 := Lib.hid hown3; clear hown3 hg3)))
                  all_goals
                    go_wp2_with fail
                    go_roundw
                    case rel =>
                      refine ⟨j + 1, by omega, by go_num, Lib.hid ?_, Lib.hid (.inr ?_), Lib.hid (HB.out.trans (HBu.out.mono HB.out.size))⟩
                      · have h := own_base HO3.out HB.out.size
                        have e1 : (bdk F (j + 1)).length = 0 + 0 + 1 + S.length := by rw [E.out, HP.out]; simp; omega
                        have e2 : nC (bdk F (j + 1)) = [] ++ [] ++ [.int .i64 n] ++ (nC S) := by rw [E.out, HP.out]; simp [nC]
                        rw [e1, e2]; exact h
                      · rw [E.out, HP.out, List.length_append, List.length_append]; simp only [List.length_cons, List.length_nil]; omega
                    case measure => simp [intOf]; omega
                · have hcm2 : ¬ c' = k := by omega
                  have hny : n ≤ y := by omega
                  have hyb : (y != n) = true := bne_iff_ne.2 hye
                  clear hyn HY
                  go_wp2_with fail
                  have hG : W0.heap.size ≤ wr.heap.size := HBk.out.size
                  go_region_law ((first
                    | (refine step_append_sized rfl (.tmp 63) (.tmp 66) 68 rfl W0.heap.size 3 i1 _ 1 8 Try.underlying68 Hj0.out Hj1.out Hj2.out Hj3.out rfl (by decide) (.slice (some ⟨wr.heap.size, 0, none⟩) 0 0) 0 [] (by simp [Act.eval]) (own_emptyn (k := 1) (Deep.blk_alloc_new wr (.cells #[] 3)) hG) (some ⟨g, 0, none⟩) k c' (by simp [Act.eval]) (nC (S.take k)) (by rw [nC_len, List.length_take, Nat.min_eq_left hkS, Nat.mul_one]) (fun h => by cases h) (front_nums HRs.out ((Below.alloc HBk.out HBk.out.size _).drew) k hkS) (by first | exact nC_one _ | simp) (by omega) (by omega) (by have := HBk.out.size; simp; omega) ?_; intro v1 w2 hown1 hg1; have HBw := Lib.hid (below_grownk (B := W0.heap.size) (a := W0) ((Below.alloc HBk.out HBk.out.size _).drew) (own_emptyn (k := 1) (Deep.blk_alloc_new wr (.cells #[] 3)) hG) hg1 (Nat.le_refl _) (Nat.le_refl _)); have HO1 := Lib.hid hown1; clear hown1 hg1)
                    | (refine step_append_sized rfl (.tmp 63) (.tmp 66) 68 rfl W0.heap.size 3 i1 _ 1 8 Try.underlying68 Hj0.out Hj1.out Hj2.out Hj3.out rfl (by decide) (.slice (some ⟨wr.heap.size, 0, none⟩) 0 0) 0 [] (by simp [Act.eval]) (own_emptyn (k := 1) (blk_under wr (.cells #[] 3) (.cells #[.int .i64 n] 3)) hG) (some ⟨g, 0, none⟩) k c' (by simp [Act.eval]) (nC (S.take k)) (by rw [nC_len, List.length_take, Nat.min_eq_left hkS, Nat.mul_one]) (fun h => by cases h) (front_nums HRs.out ((Below.alloc (Below.alloc HBk.out HBk.out.size _) (by have := HBk.out.size; simp; omega) _).drew) k hkS) (by first | exact nC_one _ | simp) (by omega) (by omega) (by have := HBk.out.size; simp; omega) ?_; intro v1 w2 hown1 hg1; have HBw := Lib.hid (below_grownk (B := W0.heap.size) (a := W0) ((Below.alloc (Below.alloc HBk.out HBk.out.size _) (by have := HBk.out.size; simp; omega) _).drew) (own_emptyn (k := 1) (blk_under wr (.cells #[] 3) (.cells #[.int .i64 n] 3)) hG) hg1 (Nat.le_refl _) (Nat.le_refl _)); have HO1 := Lib.hid hown1; have HX2 : Hid (w2.heap[wr.heap.size + 1]? = some (.cells #[.int .i64 n] 3)) := Lib.hid ((hg1.block (wr.heap.size + 1) (by simp) (by simp [Value.ownBlock])).trans (blk_over wr (.cells #[] 3) (.cells #[.int .i64 n] 3))); clear hown1 hg1)
                    | (refine step_append_sized rfl (.tmp 63) (.tmp 66) 68 rfl W0.heap.size 3 i1 _ 1 8 Try.underlying68 Hj0.out Hj1.out Hj2.out Hj3.out rfl (by decide) (.slice (some ⟨(wr.heap.size + 1), 0, none⟩) 0 0) 0 [] (by simp [Act.eval]) (own_emptyn (k := 1) (blk_over wr (.cells #[.int .i64 n] 3) (.cells #[] 3)) (by omega)) (some ⟨g, 0, none⟩) k c' (by simp [Act.eval]) (nC (S.take k)) (by rw [nC_len, List.length_take, Nat.min_eq_left hkS, Nat.mul_one]) (fun h => by cases h) (front_nums HRs.out ((Below.alloc (Below.alloc HBk.out HBk.out.size _) (by have := HBk.out.size; simp; omega) _).drew) k hkS) (by first | exact nC_one _ | simp) (by omega) (by omega) (by have := HBk.out.size; simp; omega) ?_; intro v1 w2 hown1 hg1; have HBw := Lib.hid (below_grownk (B := W0.heap.size) (a := W0) ((Below.alloc (Below.alloc HBk.out HBk.out.size _) (by have := HBk.out.size; simp; omega) _).drew) (own_emptyn (k := 1) (blk_over wr (.cells #[.int .i64 n] 3) (.cells #[] 3)) (by omega)) hg1 (Nat.le_refl _) (Nat.le_refl _)); have HO1 := Lib.hid hown1; have HX2 : Hid (w2.heap[wr.heap.size]? = some (.cells #[.int .i64 n] 3)) := Lib.hid ((hg1.block wr.heap.size (by simp; omega) (by simp [Value.ownBlock])).trans (blk_under wr (.cells #[.int .i64 n] 3) (.cells #[] 3))); clear hown1 hg1)
                    | (refine step_append_sized rfl (.tmp 67) (.tmp 69) 68 rfl W0.heap.size 3 i1 _ 1 8 Try.underlying68 Hj0.out Hj1.out Hj2.out Hj3.out rfl (by decide) v1 (0 + k) ([] ++ (nC (S.take k))) (by simp [Act.eval]) (HO1.out.alloc _) (some ⟨w2.heap.size, 0, none⟩) 1 1 (by simp [Act.eval]) [.int .i64 n] rfl (fun h => by cases h) (cells_one (Deep.blk_alloc_new w2 (.cells #[.int .i64 n] 3))) (by simp [Value.oneCell']) (by omega) (by omega) (by have := HBw.out.size; simp; omega) ?_; intro v2 w3 hown2 hg2; have HBv := Lib.hid (below_grownk (B := W0.heap.size) (a := W0) (Below.alloc HBw.out HBw.out.size _) (HO1.out.alloc _) hg2 (Nat.le_refl _) (Nat.le_refl _)); have HO2 := Lib.hid hown2; clear hown2 hg2)
                    | (refine step_append_sized rfl (.tmp 67) (.tmp 69) 68 rfl W0.heap.size 3 i1 _ 1 8 Try.underlying68 Hj0.out Hj1.out Hj2.out Hj3.out rfl (by decide) v1 (0 + k) ([] ++ (nC (S.take k))) (by simp [Act.eval]) HO1.out (some ⟨(wr.heap.size + 1), 0, none⟩) 1 1 (by simp [Act.eval]) [.int .i64 n] rfl (fun h => by cases h) (cells_one HX2.out) (by simp [Value.oneCell']) (by omega) (by omega) (by have := HBw.out.size; simp; omega) ?_; intro v2 w3 hown2 hg2; have HBv := Lib.hid (below_grownk (B := W0.heap.size) (a := W0) HBw.out HO1.out hg2 (Nat.le_refl _) (Nat.le_refl _)); have HO2 := Lib.hid hown2; clear hown2 hg2)
                    | (refine step_append_sized rfl (.tmp 67) (.tmp 69) 68 rfl W0.heap.size 3 i1 _ 1 8 Try.underlying68 Hj0.out Hj1.out Hj2.out Hj3.out rfl (by decide) v1 (0 + k) ([] ++ (nC (S.take k))) (by simp [Act.eval]) HO1.out (some ⟨wr.heap.size, 0, none⟩) 1 1 (by simp [Act.eval]) [.int .i64 n] rfl (fun h => by cases h) (cells_one HX2.out) (by simp [Value.oneCell']) (by omega) (by omega) (by have := HBw.out.size; simp; omega) ?_; intro v2 w3 hown2 hg2; have HBv := Lib.hid (below_grownk (B := W0.heap.size) (a := W0) HBw.out HO1.out hg2 (Nat.le_refl _) (Nat.le_refl _)); have HO2 := Lib.hid hown2; clear hown2 hg2)
                    | (refine step_append_sized rfl (.tmp 70) (.tmp 73) 68 rfl W0.heap.size 3 i1 _ 1 8 Try.underlying68 Hj0.out Hj1.out Hj2.out Hj3.out rfl (by decide) v2 (0 + k + 1) ([] ++ (nC (S.take k)) ++ [.int .i64 n]) (by simp [Act.eval]) HO2.out (some ⟨g, k, none⟩) (S.length - k) (c' - k) (by simp [Act.eval]) (nC (S.drop k)) (by rw [nC_len, List.length_drop, Nat.mul_one]) (fun h => by cases h) (back_nums HRs.out HBv.out k hkS) (by first | exact nC_one _ | simp) (by omega) (by omega) HBv.out.size ?_; intro v3 w4 hown3 hg3; have HBu := Lib.hid (below_grownk (B := W0.heap.size) (a := W0) HBv.out HO2.out hg3 (Nat.le_refl _) (Nat.le_refl _)); have HO3 := Lib.hid hown3; clear hown3 hg3)))
                  all_goals
                    go_wp2_with fail
                    go_roundw
                    case rel =>
                      refine ⟨j + 1, by omega, by go_num, Lib.hid ?_, Lib.hid (.inr ?_), Lib.hid (HB.out.trans (HBu.out.mono HB.out.size))⟩
                      · have h := own_base HO3.out HB.out.size
                        have e1 : (bdk F (j + 1)).length = 0 + k + 1 + (S.length - k) := by rw [E.out, HP.out]; simp only [List.length_append, List.length_take, List.length_drop, List.length_cons, List.length_nil, Nat.min_eq_left hkS]; omega
                        have e2 : nC (bdk F (j + 1)) = [] ++ (nC (S.take k)) ++ [.int .i64 n] ++ (nC (S.drop k)) := by rw [E.out, HP.out]; simp [nC]
                        rw [e1, e2]; exact h
                      · rw [E.out, HP.out, List.length_append, List.length_append]; simp only [List.length_cons, List.length_nil]; omega
                    case measure => simp [intOf]; omega
          · obtain rfl : k = S.length := by omega
            have hkE' : ¬ (S.length : Int) < (S.length : Int) := by omega
            have HP := Lib.hid (insN_new n S S.length (by omega) Hk.out (fun h => absurd h (by omega)))
            rcases HN.out with hnil | hpos
            · injection hnil with z1 z2 z3
              obtain rfl : S = [] := List.eq_nil_of_length_eq_zero z2
              subst z1 z3
              go_wp2_with fail
              have hG : W0.heap.size ≤ wr.heap.size := HBk.out.size
              go_region_law ((first
                | (refine step_append_sized rfl (.tmp 63) (.tmp 66) 68 rfl W0.heap.size 3 i1 _ 1 8 Try.underlying68 Hj0.out Hj1.out Hj2.out Hj3.out rfl (by decide) (.slice (some ⟨wr.heap.size, 0, none⟩) 0 0) 0 [] (by simp [Act.eval]) (own_emptyn (k := 1) (Deep.blk_alloc_new wr (.cells #[] 3)) hG) none 0 0 (by simp [Act.eval]) [] (by rfl) (fun _ => ⟨rfl, rfl⟩) (fun ad e j u hu => by simp at hu) (by first | exact nC_one _ | simp) (by omega) (by omega) (by have := HBk.out.size; simp; omega) ?_; intro v1 w2 hown1 hg1; have HBw := Lib.hid (below_grownk (B := W0.heap.size) (a := W0) ((Below.alloc HBk.out HBk.out.size _).drew) (own_emptyn (k := 1) (Deep.blk_alloc_new wr (.cells #[] 3)) hG) hg1 (Nat.le_refl _) (Nat.le_refl _)); have HO1 := Lib.hid hown1; clear hown1 hg1)
                | (refine step_append_sized rfl (.tmp 63) (.tmp 66) 68 rfl W0.heap.size 3 i1 _ 1 8 Try.underlying68 Hj0.out Hj1.out Hj2.out Hj3.out rfl (by decide) (.slice (some ⟨wr.heap.size, 0, none⟩) 0 0) 0 [] (by simp [Act.eval]) (own_emptyn (k := 1) (blk_under wr (.cells #[] 3) (.cells #[.int .i64 n] 3)) hG) none 0 0 (by simp [Act.eval]) [] (by rfl) (fun _ => ⟨rfl, rfl⟩) (fun ad e j u hu => by simp at hu) (by first | exact nC_one _ | simp) (by omega) (by omega) (by have := HBk.out.size; simp; omega) ?_; intro v1 w2 hown1 hg1; have HBw := Lib.hid (below_grownk (B := W0.heap.size) (a := W0) ((Below.alloc (Below.alloc HBk.out HBk.out.size _) (by have := HBk.out.size; simp; omega) _).drew) (own_emptyn (k := 1) (blk_under wr (.cells #[] 3) (.cells #[.int .i64 n] 3)) hG) hg1 (Nat.le_refl _) (Nat.le_refl _)); have HO1 := Lib.hid hown1; have HX2 : Hid (w2.heap[wr.heap.size + 1]? = some (.cells #[.int .i64 n] 3)) := Lib.hid ((hg1.block (wr.heap.size + 1) (by simp) (by simp [Value.ownBlock])).trans (blk_over wr (.cells #[] 3) (.cells #[.int .i64 n] 3))); clear hown1 hg1)
                | (refine step_append_sized rfl (.tmp 63) (.tmp 66) 68 rfl W0.heap.size 3 i1 _ 1 8 Try.underlying68 Hj0.out Hj1.out Hj2.out Hj3.out rfl (by decide) (.slice (some ⟨(wr.heap.size + 1), 0, none⟩) 0 0) 0 [] (by simp [Act.eval]) (own_emptyn (k := 1) (blk_over wr (.cells #[.int .i64 n] 3) (.cells #[] 3)) (by omega)) none 0 0 (by simp [Act.eval]) [] (by rfl) (fun _ => ⟨rfl, rfl⟩) (fun ad e j u hu => by simp at hu) (by first | exact nC_one _ | simp) (by omega) (by omega) (by have := HBk.out.size; simp; omega) ?_; intro v1 w2 hown1 hg1; have HBw := Lib.hid (below_grownk (B := W0.heap.size) (a := W0) ((Below.alloc (Below.alloc HBk.out HBk.out.size _) (by have := HBk.out.size; simp; omega) _).drew) (own_emptyn (k := 1) (blk_over wr (.cells #[.int .i64 n] 3) (.cells #[] 3)) (by omega)) hg1 (Nat.le_refl _) (Nat.le_refl _)); have HO1 := Lib.hid hown1; have HX2 : Hid (w2.heap[wr.heap.size]? = some (.cells #[.int .i64 n] 3)) := Lib.hid ((hg1.block wr.heap.size (by simp; omega) (by simp [Value.ownBlock])).trans (blk_under wr (.cells #[.int .i64 n] 3) (.cells #[] 3))); clear hown1 hg1)
                | (refine step_append_sized rfl (.tmp 67) (.tmp 69) 68 rfl W0.heap.size 3 i1 _ 1 8 Try.underlying68 Hj0.out Hj1.out Hj2.out Hj3.out rfl (by decide) v1 (0 + 0) ([] ++ []) (by simp [Act.eval]) (HO1.out.alloc _) (some ⟨w2.heap.size, 0, none⟩) 1 1 (by simp [Act.eval]) [.int .i64 n] rfl (fun h => by cases h) (cells_one (Deep.blk_alloc_new w2 (.cells #[.int .i64 n] 3))) (by simp [Value.oneCell']) (by omega) (by omega) (by have := HBw.out.size; simp; omega) ?_; intro v2 w3 hown2 hg2; have HBv := Lib.hid (below_grownk (B := W0.heap.size) (a := W0) (Below.alloc HBw.out HBw.out.size _) (HO1.out.alloc _) hg2 (Nat.le_refl _) (Nat.le_refl _)); have HO2 := Lib.hid hown2; clear hown2 hg2)
                | (refine step_append_sized rfl (.tmp 67) (.tmp 69) 68 rfl W0.heap.size 3 i1 _ 1 8 Try.underlying68 Hj0.out Hj1.out Hj2.out Hj3.out rfl (by decide) v1 (0 + 0) ([] ++ []) (by simp [Act.eval]) HO1.out (some ⟨(wr.heap.size + 1), 0, none⟩) 1 1 (by simp [Act.eval]) [.int .i64 n] rfl (fun h => by cases h) (cells_one HX2.out) (by simp [Value.oneCell']) (by omega) (by omega) (by have := HBw.out.size; simp; omega) ?_; intro v2 w3 hown2 hg2; have HBv := Lib.hid (below_grownk (B := W0.heap.size) (a := W0) HBw.out HO1.out hg2 (Nat.le_refl _) (Nat.le_refl _)); have HO2 := Lib.hid hown2; clear hown2 hg2)
                | (refine step_append_sized rfl (.tmp 67) (.tmp 69) 68 rfl W0.heap.size 3 i1 _ 1 8 Try.underlying68 Hj0.out Hj1.out Hj2.out Hj3.out rfl (by decide) v1 (0 + 0) ([] ++ []) (by simp [Act.eval]) HO1.out (some ⟨wr.heap.size, 0, none⟩) 1 1 (by simp [Act.eval]) [.int .i64 n] rfl (fun h => by cases h) (cells_one HX2.out) (by simp [Value.oneCell']) (by omega) (by omega) (by have := HBw.out.size; simp; omega) ?_; intro v2 w3 hown2 hg2; have HBv := Lib.hid (below_grownk (B := W0.heap.size) (a := W0) HBw.out HO1.out hg2 (Nat.le_refl _) (Nat.le_refl _)); have HO2 := Lib.hid hown2; clear hown2 hg2)
                | (refine step_append_sized rfl (.tmp 70) (.tmp 73) 68 rfl W0.heap.size 3 i1 _ 1 8 Try.underlying68 Hj0.out Hj1.out Hj2.out Hj3.out rfl (by decide) v2 (0 + 0 + 1) ([] ++ [] ++ [.int .i64 n]) (by simp [Act.eval]) HO2.out none 0 0 (by simp [Act.eval]) [] (by rfl) (fun _ => ⟨rfl, rfl⟩) (fun ad e j u hu => by simp at hu) (by first | exact nC_one _ | simp) (by omega) (by omega) HBv.out.size ?_; intro v3 w4 hown3 hg3; have HBu := Lib.hid (below_grownk (B := W0.heap.size) (a := W0) HBv.out HO2.out hg3 (Nat.le_refl _) (Nat.le_refl _)); have HO3 := Lib.hid hown3; clear hown3 hg3)))
              all_goals
                go_wp2_with fail
                go_roundw
                case rel =>
                  refine ⟨j + 1, by omega, by go_num, Lib.hid ?_, Lib.hid (.inr ?_), Lib.hid (HB.out.trans (HBu.out.mono HB.out.size))⟩
                  · have h := own_base HO3.out HB.out.size
                    have e1 : (bdk F (j + 1)).length = 0 + 0 + 1 + 0 := by rw [E.out, HP.out]; simp
                    have e2 : nC (bdk F (j + 1)) = [] ++ [] ++ [.int .i64 n] ++ [] := by rw [E.out, HP.out]; simp [nC]
                    rw [e1, e2]; exact h
                  · rw [E.out, HP.out, List.length_append, List.length_append]; simp only [List.length_cons, List.length_nil]; omega
                case measure => simp [intOf]; omega
            · obtain ⟨g, off, rfl, hg, _⟩ := num_at (HRs.out.below HBk.out) 0 hpos
              obtain ⟨rfl, g0, gl⟩ : off = 0 ∧ W3.heap.size ≤ g ∧ g < W0.heap.size := by
                rcases HA'.out with ⟨h, _⟩ | ⟨g', h, h1, h2⟩
                · cases h
                · cases h; exact ⟨rfl, h1, h2⟩
              obtain ⟨k, hk2⟩ : ∃ k : Nat, S.length = k := ⟨_, rfl⟩
              have hkS : k ≤ S.length := by omega
              by_cases hcm2 : c' = k
              · have hSk : S.length = c' := by omega
                rw [hSk] at HP hk hwk hk0' hkE'
                simp only [hSk]
                subst hcm2
                go_wp2_with fail
                have hG : W0.heap.size ≤ wr.heap.size := HBk.out.size
                go_region_law ((first
                  | (refine step_append_sized rfl (.tmp 63) (.tmp 66) 68 rfl W0.heap.size 3 i1 _ 1 8 Try.underlying68 Hj0.out Hj1.out Hj2.out Hj3.out rfl (by decide) (.slice (some ⟨wr.heap.size, 0, none⟩) 0 0) 0 [] (by simp [Act.eval]) (own_emptyn (k := 1) (Deep.blk_alloc_new wr (.cells #[] 3)) hG) (some ⟨g, 0, none⟩) c' c' (by simp [Act.eval]) (nC (S.take c')) (by rw [nC_len, List.length_take, Nat.min_eq_left hkS, Nat.mul_one]) (fun h => by cases h) (front_nums HRs.out ((Below.alloc HBk.out HBk.out.size _).drew) c' hkS) (by first | exact nC_one _ | simp) (by omega) (by omega) (by have := HBk.out.size; simp; omega) ?_; intro v1 w2 hown1 hg1; have HBw := Lib.hid (below_grownk (B := W0.heap.size) (a := W0) ((Below.alloc HBk.out HBk.out.size _).drew) (own_emptyn (k := 1) (Deep.blk_alloc_new wr (.cells #[] 3)) hG) hg1 (Nat.le_refl _) (Nat.le_refl _)); have HO1 := Lib.hid hown1; clear hown1 hg1)
                  | (refine step_append_sized rfl (.tmp 63) (.tmp 66) 68 rfl W0.heap.size 3 i1 _ 1 8 Try.underlying68 Hj0.out Hj1.out Hj2.out Hj3.out rfl (by decide) (.slice (some ⟨wr.heap.size, 0, none⟩) 0 0) 0 [] (by simp [Act.eval]) (own_emptyn (k := 1) (blk_under wr (.cells #[] 3) (.cells #[.int .i64 n] 3)) hG) (some ⟨g, 0, none⟩) c' c' (by simp [Act.eval]) (nC (S.take c')) (by rw [nC_len, List.length_take, Nat.min_eq_left hkS, Nat.mul_one]) (fun h => by cases h) (front_nums HRs.out ((Below.alloc (Below.alloc HBk.out HBk.out.size _) (by have := HBk.out.size; simp; omega) _).drew) c' hkS) (by first | exact nC_one _ | simp) (by omega) (by omega) (by have := HBk.out.size; simp; omega) ?_; intro v1 w2 hown1 hg1; have HBw := Lib.hid (below_grownk (B := W0.heap.size) (a := W0) ((Below.alloc (Below.alloc HBk.out HBk.out.size _) (by have := HBk.out.size; simp; omega) _).drew) (own_emptyn (k := 1) (blk_under wr (.cells #[] 3) (.cells #[.int .i64 n] 3)) hG) hg1 (Nat.le_refl _) (Nat.le_refl _)); have HO1 := Lib.hid hown1; have HX2 : Hid (w2.heap[wr.heap.size + 1]? = some (.cells #[.int .i64 n] 3)) := Lib.hid ((hg1.block (wr.heap.size + 1) (by simp) (by simp [Value.ownBlock])).trans (blk_over wr (.cells #[] 3) (.cells #[.int .i64 n] 3))); clear hown1 hg1)
                  | (refine step_append_sized rfl (.tmp 63) (.tmp 66) 68 rfl W0.heap.size 3 i1 _ 1 8 Try.underlying68 Hj0.out Hj1.out Hj2.out Hj3.out rfl (by decide) (.slice (some ⟨(wr.heap.size + 1), 0, none⟩) 0 0) 0 [] (by simp [Act.eval]) (own_emptyn (k := 1) (blk_over wr (.cells #[.int .i64 n] 3) (.cells #[] 3)) (by omega)) (some ⟨g, 0, none⟩) c' c' (by simp [Act.eval]) (nC (S.take c')) (by rw [nC_len, List.length_take, Nat.min_eq_left hkS, Nat.mul_one]) (fun h => by cases h) (front_nums HRs.out ((Below.alloc (Below.alloc HBk.out HBk.out.size _) (by have := HBk.out.size; simp; omega) _).drew) c' hkS) (by first | exact nC_one _ | simp) (by omega) (by omega) (by have := HBk.out.size; simp; omega) ?_; intro v1 w2 hown1 hg1; have HBw := Lib.hid (below_grownk (B := W0.heap.size) (a := W0) ((Below.alloc (Below.alloc HBk.out HBk.out.size _) (by have := HBk.out.size; simp; omega) _).drew) (own_emptyn (k := 1) (blk_over wr (.cells #[.int .i64 n] 3) (.cells #[] 3)) (by omega)) hg1 (Nat.le_refl _) (Nat.le_refl _)); have HO1 := Lib.hid hown1; have HX2 : Hid (w2.heap[wr.heap.size]? = some (.cells #[.int .i64 n] 3)) := Lib.hid ((hg1.block wr.heap.size (by simp; omega) (by simp [Value.ownBlock])).trans (blk_under wr (.cells #[.int .i64 n] 3) (.cells #[] 3))); clear hown1 hg1)
                  | (refine step_append_sized rfl (.tmp 67) (.tmp 69) 68 rfl W0.heap.size 3 i1 _ 1 8 Try.underlying68 Hj0.out Hj1.out Hj2.out Hj3.out rfl (by decide) v1 (0 + c') ([] ++ (nC (S.take c'))) (by simp [Act.eval]) (HO1.out.alloc _) (some ⟨w2.heap.size, 0, none⟩) 1 1 (by simp [Act.eval]) [.int .i64 n] rfl (fun h => by cases h) (cells_one (Deep.blk_alloc_new w2 (.cells #[.int .i64 n] 3))) (by simp [Value.oneCell']) (by omega) (by omega) (by have := HBw.out.size; simp; omega) ?_; intro v2 w3 hown2 hg2; have HBv := Lib.hid (below_grownk (B := W0.heap.size) (a := W0) (Below.alloc HBw.out HBw.out.size _) (HO1.out.alloc _) hg2 (Nat.le_refl _) (Nat.le_refl _)); have HO2 := Lib.hid hown2; clear hown2 hg2)
                  | (refine step_append_sized rfl (.tmp 67) (.tmp 69) 68 rfl W0.heap.size 3 i1 _ 1 8 Try.underlying68 Hj0.out Hj1.out Hj2.out Hj3.out rfl (by decide) v1 (0 + c') ([] ++ (nC (S.take c'))) (by simp [Act.eval]) HO1.out (some ⟨(wr.heap.size + 1), 0, none⟩) 1 1 (by simp [Act.eval]) [.int .i64 n] rfl (fun h => by cases h) (cells_one HX2.out) (by simp [Value.oneCell']) (by omega) (by omega) (by have := HBw.out.size; simp; omega) ?_; intro v2 w3 hown2 hg2; have HBv := Lib.hid (below_grownk (B := W0.heap.size) (a := W0) HBw.out HO1.out hg2 (Nat.le_refl _) (Nat.le_refl _)); have HO2 := Lib.hid hown2; clear hown2 hg2)
                  | (refine step_append_sized rfl (.tmp 67) (.tmp 69) 68 rfl W0.heap.size 3 i1 _ 1 8 Try.underlying68 Hj0.out Hj1.out Hj2.out Hj3.out rfl (by decide) v1 (0 + c') ([] ++ (nC (S.take c'))) (by simp [Act.eval]) HO1.out (some ⟨wr.heap.size, 0, none⟩) 1 1 (by simp [Act.eval]) [.int .i64 n] rfl (fun h => by cases h) (cells_one HX2.out) (by simp [Value.oneCell']) (by omega) (by omega) (by have := HBw.out.size; simp; omega) ?_; intro v2 w3 hown2 hg2; have HBv := Lib.hid (below_grownk (B := W0.heap.size) (a := W0) HBw.out HO1.out hg2 (Nat.le_refl _) (Nat.le_refl _)); have HO2 := Lib.hid hown2; clear hown2 hg2)
                  | (refine step_append_sized rfl (.tmp 70) (.tmp 73) 68 rfl W0.heap.size 3 i1 _ 1 8 Try.underlying68 Hj0.out Hj1.out Hj2.out Hj3.out rfl (by decide) v2 (0 + c' + 1) ([] ++ (nC (S.take c')) ++ [.int .i64 n]) (by simp [Act.eval]) HO2.out (some ⟨g, 0, none⟩) 0 0 (by simp [Act.eval]) [] (by rfl) (fun h => by cases h) (fun ad e j u hu => by simp at hu) (by first | exact nC_one _ | simp) (by omega) (by omega) HBv.out.size ?_; intro v3 w4 hown3 hg3; have HBu := Lib.hid (below_grownk (B := W0.heap.size) (a := W0) HBv.out HO2.out hg3 (Nat.le_refl _) (Nat.le_refl _)); have HO3 := Lib.hid hown3; clear hown3 hg3)))
                all_goals
                  go_wp2_with fail
                  go_roundw
                  case rel =>
                    refine ⟨j + 1, by omega, by go_num, Lib.hid ?_, Lib.hid (.inr ?_), Lib.hid (HB.out.trans (HBu.out.mono HB.out.size))⟩
                    · have h := own_base HO3.out HB.out.size
                      have e1 : (bdk F (j + 1)).length = 0 + c' + 1 + 0 := by rw [E.out, HP.out]; simp only [List.length_append, List.length_take, List.length_drop, List.length_cons, List.length_nil, Nat.min_eq_left hkS]; omega
                      have e2 : nC (bdk F (j + 1)) = [] ++ (nC (S.take c')) ++ [.int .i64 n] ++ [] := by rw [E.out, HP.out]; rw [List.drop_eq_nil_of_le (by omega)]; simp [nC]
                      rw [e1, e2]; exact h
                    · rw [E.out, HP.out, List.length_append, List.length_append]; simp only [List.length_cons, List.length_nil]; omega
                  case measure => simp [intOf]; omega
              · have hmc : k ≤ c' := by omega
                rw [hk2] at HP hk hwk hk0' hkE'
                simp only [hk2]
                go_wp2_with fail
                have hG : W0.heap.size ≤ wr.heap.size := HBk.out.size
                go_region_law ((first
                  | (refine step_append_sized rfl (.tmp 63) (.tmp 66) 68 rfl W0.heap.size 3 i1 _ 1 8 Try.underlying68 Hj0.out Hj1.out Hj2.out Hj3.out rfl (by decide) (.slice (some ⟨wr.heap.size, 0, none⟩) 0 0) 0 [] (by simp [Act.eval]) (own_emptyn (k := 1) (Deep.blk_alloc_new wr (.cells #[] 3)) hG) (some ⟨g, 0, none⟩) k c' (by simp [Act.eval]) (nC (S.take k)) (by rw [nC_len, List.length_take, Nat.min_eq_left hkS, Nat.mul_one]) (fun h => by cases h) (front_nums HRs.out ((Below.alloc HBk.out HBk.out.size _).drew) k hkS) (by first | exact nC_one _ | simp) (by omega) (by omega) (by have := HBk.out.size; simp; omega) ?_; intro v1 w2 hown1 hg1; have HBw := Lib.hid (below_grownk (B := W0.heap.size) (a := W0) ((Below.alloc HBk.out HBk.out.size _).drew) (own_emptyn (k := 1) (Deep.blk_alloc_new wr (.cells #[] 3)) hG) hg1 (Nat.le_refl _) (Nat.le_refl _)); have HO1 := Lib.hid hown1; clear hown1 hg1)
                  | (refine step_append_sized rfl (.tmp 63) (.tmp 66) 68 rfl W0.heap.size 3 i1 _ 1 8 Try.underlying68 Hj0.out Hj1.out Hj2.out Hj3.out rfl (by decide) (.slice (some ⟨wr.heap.size, 0, none⟩) 0 0) 0 [] (by simp [Act.eval]) (own_emptyn (k := 1) (blk_under wr (.cells #[] 3) (.cells #[.int .i64 n] 3)) hG) (some ⟨g, 0, none⟩) k c' (by simp [Act.eval]) (nC (S.take k)) (by rw [nC_len, List.length_take, Nat.min_eq_left hkS, Nat.mul_one]) (fun h => by cases h) (front_nums HRs.out ((Below.alloc (Below.alloc HBk.out HBk.out.size _) (by have := HBk.out.size; simp; omega) _).drew) k hkS) (by first | exact nC_one _ | simp) (by omega) (by omega) (by have := HBk.out.size; simp; omega) ?_; intro v1 w2 hown1 hg1; have HBw := Lib.hid (below_grownk (B := W0.heap.size) (a := W0) ((Below.alloc (Below.alloc HBk.out HBk.out.size _) (by have := HBk.out.size; simp; omega) _).drew) (own_emptyn (k := 1) (blk_under wr (.cells #[] 3) (.cells #[.int .i64 n] 3)) hG) hg1 (Nat.le_refl _) (Nat.le_refl _)); have HO1 := Lib.hid hown1; have HX2 : Hid (w2.heap[wr.heap.size + 1]? = some (.cells #[.int .i64 n] 3)) := Lib.hid ((hg1.block (wr.heap.size + 1) (by simp) (by simp [Value.ownBlock])).trans (blk_over wr (.cells #[] 3) (.cells #[.int .i64 n] 3))); clear hown1 hg1)
                  | (refine step_append_sized rfl (.tmp 63) (.tmp 66) 68 rfl W0.heap.size 3 i1 _ 1 8 Try.underlying68 Hj0.out Hj1.out Hj2.out Hj3.out rfl (by decide) (.slice (some ⟨(wr.heap.size + 1), 0, none⟩) 0 0) 0 [] (by simp [Act.eval]) (own_emptyn (k := 1) (blk_over wr (.cells #[.int .i64 n] 3) (.cells #[] 3)) (by omega)) (some ⟨g, 0, none⟩) k c' (by simp [Act.eval]) (nC (S.take k)) (by rw [nC_len, List.length_take, Nat.min_eq_left hkS, Nat.mul_one]) (fun h => by cases h) (front_nums HRs.out ((Below.alloc (Below.alloc HBk.out HBk.out.size _) (by have := HBk.out.size; simp; omega) _).drew) k hkS) (by first | exact nC_one _ | simp) (by omega) (by omega) (by have := HBk.out.size; simp; omega) ?_; intro v1 w2 hown1 hg1; have HBw := Lib.hid (below_grownk (B := W0.heap.size) (a := W0) ((Below.alloc (Below.alloc HBk.out HBk.out.size _) (by have := HBk.out.size; simp; omega) _).drew) (own_emptyn (k := 1) (blk_over wr (.cells #[.int .i64 n] 3) (.cells #[] 3)) (by omega)) hg1 (Nat.le_refl _) (Nat.le_refl _)); have HO1 := Lib.hid hown1; have HX2 : Hid (w2.heap[wr.heap.size]? = some (.cells #[.int .i64 n] 3)) := Lib.hid ((hg1.block wr.heap.size (by simp; omega) (by simp [Value.ownBlock])).trans (blk_under wr (.cells #[.int .i64 n] 3) (.cells #[] 3))); clear hown1 hg1)
                  | (refine step_append_sized rfl (.tmp 67) (.tmp 69) 68 rfl W0.heap.size 3 i1 _ 1 8 Try.underlying68 Hj0.out Hj1.out Hj2.out Hj3.out rfl (by decide) v1 (0 + k) ([] ++ (nC (S.take k))) (by simp [Act.eval]) (HO1.out.alloc _) (some ⟨w2.heap.size, 0, none⟩) 1 1 (by simp [Act.eval]) [.int .i64 n] rfl (fun h => by cases h) (cells_one (Deep.blk_alloc_new w2 (.cells #[.int .i64 n] 3))) (by simp [Value.oneCell']) (by omega) (by omega) (by have := HBw.out.size; simp; omega) ?_; intro v2 w3 hown2 hg2; have HBv := Lib.hid (below_grownk (B := W0.heap.size) (a := W0) (Below.alloc HBw.out HBw.out.size _) (HO1.out.alloc _) hg2 (Nat.le_refl _) (Nat.le_refl _)); have HO2 := Lib.hid hown2; clear hown2 hg2)
                  | (refine step_append_sized rfl (.tmp 67) (.tmp 69) 68 rfl W0.heap.size 3 i1 _ 1 8 Try.underlying68 Hj0.out Hj1.out Hj2.out Hj3.out rfl (by decide) v1 (0 + k) ([] ++ (nC (S.take k))) (by simp [Act.eval]) HO1.out (some ⟨(wr.heap.size + 1), 0, none⟩) 1 1 (by simp [Act.eval]) [.int .i64 n] rfl (fun h => by cases h) (cells_one HX2.out) (by simp [Value.oneCell']) (by omega) (by omega) (by have := HBw.out.size; simp; omega) ?_; intro v2 w3 hown2 hg2; have HBv := Lib.hid (below_grownk (B := W0.heap.size) (a := W0) HBw.out HO1.out hg2 (Nat.le_refl _) (Nat.le_refl _)); have HO2 := Lib.hid hown2; clear hown2 hg2)
                  | (refine step_append_sized rfl (.tmp 67) (.tmp 69) 68 rfl W0.heap.size 3 i1 _ 1 8 Try.underlying68 Hj0.out Hj1.out Hj2.out Hj3.out rfl (by decide) v1 (0 + k) ([] ++ (nC (S.take k))) (by simp [Act.eval]) HO1.out (some ⟨wr.heap.size, 0, none⟩) 1 1 (by simp [Act.eval]) [.int .i64 n] rfl (fun h => by cases h) (cells_one HX2.out) (by simp [Value.oneCell']) (by omega) (by omega) (by have := HBw.out.size; simp; omega) ?_; intro v2 w3 hown2 hg2; have HBv := Lib.hid (below_grownk (B := W0.heap.size) (a := W0) HBw.out HO1.out hg2 (Nat.le_refl _) (Nat.le_refl _)); have HO2 := Lib.hid hown2; clear hown2 hg2)
                  | (refine step_append_sized rfl (.tmp 70) (.tmp 73) 68 rfl W0.heap.size 3 i1 _ 1 8 Try.underlying68 Hj0.out Hj1.out Hj2.out Hj3.out rfl (by decide) v2 (0 + k + 1) ([] ++ (nC (S.take k)) ++ [.int .i64 n]) (by simp [Act.eval]) HO2.out (some ⟨g, k, none⟩) 0 (c' - k) (by simp [Act.eval]) [] (by rfl) (fun h => by cases h) (fun ad e j u hu => by simp at hu) (by first | exact nC_one _ | simp) (by omega) (by omega) HBv.out.size ?_; intro v3 w4 hown3 hg3; have HBu := Lib.hid (below_grownk (B := W0.heap.size) (a := W0) HBv.out HO2.out hg3 (Nat.le_refl _) (Nat.le_refl _)); have HO3 := Lib.hid hown3; clear hown3 hg3)))
                all_goals
                  go_wp2_with fail
                  go_roundw
                  case rel =>
                    refine ⟨j + 1, by omega, by go_num, Lib.hid ?_, Lib.hid (.inr ?_), Lib.hid (HB.out.trans (HBu.out.mono HB.out.size))⟩
                    · have h := own_base HO3.out HB.out.size
                      have e1 : (bdk F (j + 1)).length = 0 + k + 1 + 0 := by rw [E.out, HP.out]; simp only [List.length_append, List.length_take, List.length_drop, List.length_cons, List.length_nil, Nat.min_eq_left hkS]; omega
                      have e2 : nC (bdk F (j + 1)) = [] ++ (nC (S.take k)) ++ [.int .i64 n] ++ [] := by rw [E.out, HP.out]; rw [List.drop_eq_nil_of_le (by omega)]; simp [nC]
                      rw [e1, e2]; exact h
                    · rw [E.out, HP.out, List.length_append, List.length_append]; simp only [List.length_cons, List.length_nil]; omega
                  case measure => simp [intOf]; omega
    · obtain rfl : j = F.length := by omega
      rw [HAll.out] at HO
      have hge : ¬ (F.length : Int) < 2 * (T.length : Int) := by omega
      have hge2 : 2 * (T.length : Int) ≤ (F.length : Int) := by omega
      have hwt : IntKind.i64.wrap (2 * (T.length : Int)) = 2 * (T.length : Int) := by simp only [IntKind.wrap_i64]; omega
      clear HN HAll
      go_wp2_with fail
      go_ret
      exact ⟨⟨_, rfl, own_base HO.out HBv.out.size⟩, HBv.out.trans (HB.out.mono HBv.out.size)⟩
end Go.Proofs.Ytkjpficpkpfkdaa
