/- The statement BitmapAdds: for any set and any number, the law returns true and changes nothing (written by wip/bin/gen_adds.py). -/
import Derived.Test.YtacgomhegjilgaaHe
import Derived.Test.YtacgomhegjilgaaGh
import Derived.Test.YtacgomhegjilgaaGj
import Derived.Test.YtacgomhegjilgaaHf
import Derived.Test.YtacgomhegjilgaaHg
namespace Go.Proofs.Ytacgomhegjilgaa.lawAdds
open Go.Proofs.Ytacgomhegjilgaa Go.ChangeShapes Go.WideShapes Go.ChangeAt Go.RowKit Go.Joins Ts

attribute [local go_sem ↓] Go.wp_at_zero Go.wp_at_succ
theorem nil_bs (n : Nat) : Bs n [] := ⟨Nrm.nil, Nat.zero_le _, fun _ h => absurd h In.nil⟩
theorem add_set {v : Value} {B N : List Iv} (hB : Bs 90000 B) (k : Int) (hk : isR k = true) (hN : Cmb fOr B (setL [k]) N) (w : World) (hv : Sl w v (rn B)) :
    Calls Try.prog 32 #[.agg #[v], .int .i64 k] w fun e w' => (∃ r, e = .returned (.tuple #[.agg #[r], .int .i64 0]) ∧ w'.ownsRow w.heap.size 39 2 r (rn N).length (ivCells (rn N))) ∧ Below w.heap.size w w' := by
  refine (add_ok hB k hk w hv).mono ?_
  rintro e w' ⟨⟨r, M, rfl, hown, hM⟩, hb⟩
  obtain rfl := hN.eq hM
  exact ⟨⟨r, rfl, hown⟩, hb⟩
section
variable {P : Program} {w : World}
theorem step_append_w {ops : Array Oper} {o : Oper} {a : Act} {K : Act → World → Prop} {Q : Exit → Act → World → Prop} {E : Prop} (hw : Region.wanted o (yielded ops a.tmps) = true) (s x : Operand) (t : TypeId)
    (ho : o.op = .call { callee := .builtin .append, args := #[s, x], argTypes := #[t, t] })
    (base : Nat) (e : TypeId) (i : TypeInfo) (z : Value) (size bytes : Nat) (ht : P.underlying t = some (.slice e)) (hi : P.info? e = some i) (hz : i.zero = some z)
    (hsize : i.size = size) (hby : i.bytes = bytes) (hzs : z.cells.size = size) (hsz : 0 < size)
    (v : Value) (n : Nat) (xs : List Value) (hs : a.eval s = v) (hown : w.ownsRow base e size v n xs)
    (ad : Addr) (m c : Nat) (hx : a.eval x = .slice (some ad) m c) (news : List Value) (hl : news.length = m * size) (hnews : ∀ j u, news[j]? = some u → w.cell? (ad.add j) = some u) (h1 : ∀ u ∈ news, u.oneCell' = true)
    (hn : n + m ≤ 1000000) (hb : bytes ≤ 1000000) (hbase : base ≤ w.heap.size)
    (h : ∀ v' w', w'.ownsRow base e size v' (n + m) (xs ++ news) → w.grownBy w' v.ownBlock → K (a.put o.dst v') w') :
    if Region.wanted o (yielded ops a.tmps) = true then Oper.wp P o a w K Q else E := by
  rw [if_pos hw]
  refine wp_append_own w s x t ho base e i z size bytes ht hi hz hsize hby hzs hsz v n xs hs hown ad m c news hx hl hnews h1 (by unfold maxLen; omega) ?_ hbase (fun v' w' h2 h3 _ => h v' w' h2 h3)
  have := Nat.mul_le_mul (show n + m ≤ 1000000 by omega) hb
  omega
end
theorem add_none {v : Value} {B : List Iv} (k : Int) (hk : isR k = false) (w : World) (hv : Sl w v (rn B)) :
    Calls Try.prog 32 #[.agg #[v], .int .i64 k] w fun e w' => e = .returned (.tuple #[.agg #[.slice none 0 0], .int .i64 2]) ∧ Below w.heap.size w w' := by
  obtain ⟨A, c, rfl, _⟩ := hv
  exact add_bad A c _ k hk w

set_option maxRecDepth 100000 in
set_option maxHeartbeats 16000000 in
theorem walk_neg (w : World) (b0 : Int) (hb0 : 0 ≤ b0 ∧ b0 ≤ 65535) (A0 : Option Addr) (c0 : Nat) (L0 : List Iv) (hL0 : L0.length ≤ 9223372036854775807) (hs0 : ∀ x ∈ L0, PrOk x) (hR0 : Rs w w.heap.size A0 (prCells L0)) (a1 : Int) (_wa1 : (Lit.int .i64 a1).wf = true) (ha : a1 < 0) :
    Calls Try.prog 7 #[.agg #[.int .u16 b0, .slice A0 L0.length c0], .int .i64 a1] w fun e w' => e = .returned (.bool true) ∧ Below w.heap.size w w' := by
  clear _wa1
  obtain ⟨hi0, hrw0, hln0⟩ := rowS_spec b0 hs0
  have CM0 := Lib.hid (fun W (g : Gb w W) => made_any b0 hb0 A0 c0 L0 hL0 hs0 W ((hR0.below g.out).more g.out.size))
  have CR0 := Lib.hid (fun W (g : Gb w W) => rows_any b0 hb0 A0 c0 L0 hL0 hs0 W ((hR0.below g.out).more g.out.size))
  obtain ⟨l0, hl0⟩ : ∃ l, l = rowS b0 L0 := ⟨_, rfl⟩
  rw [← hl0] at hi0 hrw0 hln0 CM0 CR0
  have hB0 : Bs 80000 (setL l0) := set_bs (by omega) hrw0
  have hm0 : ∀ n, n ∈ l0 ↔ In n (setL l0) := fun n => ((setL_spec l0).2 n).symm
  obtain ⟨M0, hM0⟩ : ∃ M, M = setL l0 := ⟨_, rfl⟩
  rw [← hM0] at hB0 hm0 CM0
  obtain ⟨R0, hRn0⟩ : ∃ R, R = rn M0 := ⟨_, rfl⟩
  rw [← hRn0] at CM0
  have HRn0 := Lib.hid hRn0
  have HRw0 := Lib.hid hrw0
  have HI0 := Lib.hid hi0
  have HBs0 := Lib.hid hB0
  have HM0 := Lib.hid hm0
  clear hR0 hl0 hM0 hRn0 hs0 hL0 hrw0 hi0 hB0 hm0
  go_enter Try.func7, Try.ntmps7
  go_wp2_with fail
  refine (known_any _).mono ?_
  rintro e w1 ⟨rfl, hb⟩
  have F1 : Fr (w.alloc (.cells #[.int .u16 b0, .slice A0 L0.length c0] 36)) w1 := ⟨hb⟩
  have G1 : Gb w w1 := Gb.call (Gb.alloc (Gb.refl w) _) F1
  have K0 : Bk1 (w.heap.size) (.cells #[.int .u16 b0, .slice A0 L0.length c0] 36 (0, 0)) w1 := Bk1.call ((Bk1.new (W := w) (by rfl) (fun v => Deep.blk_alloc_new v _) : Bk1 (w.heap.size) (.cells #[.int .u16 b0, .slice A0 L0.length c0] 36 (0, 0)) _)) F1
  have hk00 : w1.cell? ⟨w.heap.size, 0, none⟩ = some (.int .u16 b0) := cell_of_row w1 _ 0 _ _ _ K0.out
  have hk01 : w1.cell? ⟨w.heap.size, 1, none⟩ = some (.slice A0 L0.length c0) := cell_of_row w1 _ 1 _ _ _ K0.out
  have hz1 := F1.size1
  simp at hz1
  clear hb
  have HS : Hid (∀ W, Gb w1 W → W.cell? ⟨w.heap.size, 0, none⟩ = some (.int .u16 b0) ∧ W.cell? ⟨w.heap.size, 1, none⟩ = some (.slice A0 L0.length c0)) := Lib.hid (fun W g => by
    have f0 : W.heap[w.heap.size]? = some (.cells #[.int .u16 b0, .slice A0 L0.length c0] 36 (0, 0)) := (g.out.block _ (Array.getElem?_eq_some_iff.1 K0.out).1).trans K0.out
    exact ⟨cell_of_row W _ 0 _ _ _ f0, cell_of_row W _ 1 _ _ _ f0⟩)
  go_upto_region 3 with fail
  go_cut [5, 6] (fun s5 s6 wx => ∃ (X0 : Nat) (P0 : Option Addr) (p0 : Nat) (Q0 : Option Addr) (q0 : Nat), s5 = .pointer (some ⟨X0, 0, none⟩) ∧ s6 = .slice Q0 l0.length q0 ∧ Hid (Hold w [(X0, Obj.cells #[.slice P0 R0.length p0] 26 (0, 0))] [(.slice P0 R0.length p0, R0)] [(Q0, nC l0)] wx) ∧ Hid (Ow w.heap.size Q0 q0 l0 wx))
  case first =>
    go_region_held3 (fun W => W.cell? ⟨w.heap.size, 0, none⟩ = some (.int .u16 b0) ∧ W.cell? ⟨w.heap.size, 1, none⟩ = some (.slice A0 L0.length c0))
      (exact HS.out _ (by ((repeat (first | (with_reducible assumption) | (with_reducible exact Gb.refl _) | (with_reducible refine Gb.call ?_ (by with_reducible assumption)) | (with_reducible refine Gb.alloc ?_ _) | (with_reducible refine Gb.drew ?_) | (with_reducible refine Gb.setCell ?_ (by omega) _))); (first | done | fail))))
      ((first
        | (go_at_call 24; have := E0; refine (CR0.out _ (by ((repeat (first | (with_reducible assumption) | (with_reducible exact Gb.refl _) | (with_reducible refine Gb.call ?_ (by with_reducible assumption)) | (with_reducible refine Gb.alloc ?_ _) | (with_reducible refine Gb.drew ?_) | (with_reducible refine Gb.setCell ?_ (by omega) _))); (first | done | fail)))).mono ?_; rintro e v1 ⟨⟨y0, rfl, hown⟩, hb1⟩; have E1 : Fr _ v1 := ⟨hb1⟩; obtain ⟨Q0, q0, rfl, _, hro, _⟩ := rs_ownn hown; have U0 : Rt Q0 l0 v1 := ⟨hro⟩; have O0 : Ow w.heap.size Q0 q0 l0 v1 := ⟨own_base hown (le_gb (by ((repeat (first | (with_reducible assumption) | (with_reducible exact Gb.refl _) | (with_reducible refine Gb.call ?_ (by with_reducible assumption)) | (with_reducible refine Gb.alloc ?_ _) | (with_reducible refine Gb.drew ?_) | (with_reducible refine Gb.setCell ?_ (by omega) _))); (first | done | fail))))⟩; have z1 := E1.size1; (try simp at z1); clear hb1 hown hro; (try (have kk : Bk1 (w1.heap.size) (.cells #[.slice none 0 0] 26 (0, 0)) v1 := (by ((repeat (first | (with_reducible assumption) | (with_reducible refine Bk1.call ?_ (by with_reducible assumption)) | (with_reducible refine Bk1.new ?_ (new_bm _); first | rfl | (simp; done)) | (with_reducible refine Bk1.old ?_ _) | (with_reducible refine Bk1.drew ?_) | (with_reducible refine Bk1.same ?_) | (with_reducible refine Bk1.other ?_ (by omega) _))); (first | done | fail))); have cc : v1.cell? ⟨w1.heap.size, 0, none⟩ = some (.slice none 0 0) := cell_of_row _ _ 0 _ _ _ kk.out; have ff : v1.frozen? ⟨w1.heap.size, 0, none⟩ = false := frozen_of_row _ _ _ _ _ kk.out; have ll : w1.heap.size < v1.heap.size := (Array.getElem?_eq_some_iff.1 kk.out).1; clear kk)); (try (have kk : Bk1 (v0.heap.size) (.cells #[.slice none 0 0] 26 (0, 0)) v1 := (by ((repeat (first | (with_reducible assumption) | (with_reducible refine Bk1.call ?_ (by with_reducible assumption)) | (with_reducible refine Bk1.new ?_ (new_bm _); first | rfl | (simp; done)) | (with_reducible refine Bk1.old ?_ _) | (with_reducible refine Bk1.drew ?_) | (with_reducible refine Bk1.same ?_) | (with_reducible refine Bk1.other ?_ (by omega) _))); (first | done | fail))); have cc : v1.cell? ⟨v0.heap.size, 0, none⟩ = some (.slice none 0 0) := cell_of_row _ _ 0 _ _ _ kk.out; have ff : v1.frozen? ⟨v0.heap.size, 0, none⟩ = false := frozen_of_row _ _ _ _ _ kk.out; have ll : v0.heap.size < v1.heap.size := (Array.getElem?_eq_some_iff.1 kk.out).1; clear kk)))
        | (go_at_call 22; refine (CM0.out _ (by ((repeat (first | (with_reducible assumption) | (with_reducible exact Gb.refl _) | (with_reducible refine Gb.call ?_ (by with_reducible assumption)) | (with_reducible refine Gb.alloc ?_ _) | (with_reducible refine Gb.drew ?_) | (with_reducible refine Gb.setCell ?_ (by omega) _))); (first | done | fail)))).mono ?_; rintro e v0 ⟨⟨r0, rfl, hr0⟩, hb0⟩; have E0 : Fr _ v0 := ⟨hb0⟩; have T0 : St r0 R0 v0 := ⟨hr0⟩; have z0 := E0.size1; obtain ⟨P0, p0, rfl, _, _, _, _⟩ := hr0; (try simp at z0); clear hb0; (try (have kk : Bk1 (w1.heap.size) (.cells #[.slice none 0 0] 26 (0, 0)) v0 := (by ((repeat (first | (with_reducible assumption) | (with_reducible refine Bk1.call ?_ (by with_reducible assumption)) | (with_reducible refine Bk1.new ?_ (new_bm _); first | rfl | (simp; done)) | (with_reducible refine Bk1.old ?_ _) | (with_reducible refine Bk1.drew ?_) | (with_reducible refine Bk1.same ?_) | (with_reducible refine Bk1.other ?_ (by omega) _))); (first | done | fail))); have cc : v0.cell? ⟨w1.heap.size, 0, none⟩ = some (.slice none 0 0) := cell_of_row _ _ 0 _ _ _ kk.out; have ff : v0.frozen? ⟨w1.heap.size, 0, none⟩ = false := frozen_of_row _ _ _ _ _ kk.out; have ll : w1.heap.size < v0.heap.size := (Array.getElem?_eq_some_iff.1 kk.out).1; clear kk)))
        | fail))
    all_goals
      go_wp2_with fail
      go_meet
      refine ⟨_, P0, p0, Q0, q0, rfl, rfl, Lib.hid ⟨(by ((repeat (first | (with_reducible assumption) | (with_reducible exact Gb.refl _) | (with_reducible refine Gb.call ?_ (by with_reducible assumption)) | (with_reducible refine Gb.alloc ?_ _) | (with_reducible refine Gb.drew ?_) | (with_reducible refine Gb.setCell ?_ (by omega) _))); (first | done | fail)) : Gb w _).out, ?_, ?_, ?_⟩, Lib.hid (by ((repeat (first | (with_reducible assumption) | (with_reducible refine Ow.call ?_ (by with_reducible assumption)) | (with_reducible refine Ow.alloc ?_ _) | (with_reducible refine Ow.drew ?_) | (with_reducible refine Ow.store ?_ (by ((repeat (first | (with_reducible assumption) | (with_reducible refine Bk1.call ?_ (by with_reducible assumption)) | (with_reducible refine Bk1.new ?_ (new_bm _); first | rfl | (simp; done)) | (with_reducible refine Bk1.old ?_ _) | (with_reducible refine Bk1.drew ?_) | (with_reducible refine Bk1.same ?_) | (with_reducible refine Bk1.other ?_ (by omega) _))); (first | done | fail))) _))); (first | done | fail)))⟩
      · intro p hp
        simp only [List.mem_cons, List.not_mem_nil, or_false] at hp
        subst hp
        all_goals dsimp only
        all_goals refine Bk1.out ?_
        all_goals ((repeat (first | (with_reducible assumption) | (with_reducible refine Bk1.call ?_ (by with_reducible assumption)) | (with_reducible refine Bk1.new ?_ (new_bm _); first | rfl | (simp; done)) | (with_reducible refine Bk1.old ?_ _) | (with_reducible refine Bk1.drew ?_) | (with_reducible refine Bk1.same ?_) | (with_reducible refine Bk1.other ?_ (by omega) _))); (first | done | fail))
      · intro p hp
        simp only [List.mem_cons, List.not_mem_nil, or_false] at hp
        subst hp
        all_goals dsimp only
        all_goals refine St.out ?_
        all_goals ((repeat (first | (with_reducible assumption) | (with_reducible refine St.call ?_ (by with_reducible assumption)) | (with_reducible refine St.alloc ?_ _) | (with_reducible refine St.drew ?_) | (with_reducible refine St.store ?_ (by ((repeat (first | (with_reducible assumption) | (with_reducible refine Bk1.call ?_ (by with_reducible assumption)) | (with_reducible refine Bk1.new ?_ (new_bm _); first | rfl | (simp; done)) | (with_reducible refine Bk1.old ?_ _) | (with_reducible refine Bk1.drew ?_) | (with_reducible refine Bk1.same ?_) | (with_reducible refine Bk1.other ?_ (by omega) _))); (first | done | fail))) _))); (first | done | fail))
      · intro p hp
        simp only [List.mem_cons, List.not_mem_nil, or_false] at hp
        subst hp
        all_goals dsimp only
        all_goals refine Rt.out ?_
        all_goals ((repeat (first | (with_reducible assumption) | (with_reducible refine Rt.call ?_ (by with_reducible assumption)) | (with_reducible refine Rt.alloc ?_ _) | (with_reducible refine Rt.drew ?_) | (with_reducible refine Rt.store ?_ (by ((repeat (first | (with_reducible assumption) | (with_reducible refine Bk1.call ?_ (by with_reducible assumption)) | (with_reducible refine Bk1.new ?_ (new_bm _); first | rfl | (simp; done)) | (with_reducible refine Bk1.old ?_ _) | (with_reducible refine Bk1.drew ?_) | (with_reducible refine Bk1.same ?_) | (with_reducible refine Bk1.other ?_ (by omega) _))); (first | done | fail))) _))); (first | done | fail))
  case rest =>
    obtain ⟨X0, P0, p0, Q0, q0, rfl, rfl, H2, HO0⟩ := hcut
    clear HS K0 hk00 hk01 F1 G1 CM0 CR0
    have e0 := HRn0.out
    subst e0
    clear HRn0
    have CI0 := Lib.hid (fun A c v W (hv : Sl W v (rn M0)) (hR : Rs W W.heap.size A (nC l0)) => is_true (v := v) HBs0.out A c l0 (by omega) HI0.out HM0.out W hv hR)
    have hk : isR a1 = false := by unfold isR; simp; omega
    have CA := Lib.hid (fun v W (h : Sl W v (rn M0)) => add_none (v := v) a1 hk W h)
    clear hk
    have hc0 := H2.out.cell (.head _) 0
    go_wp2_with fail
    refine (CA.out _ _ (H2.out.set _ (.head _))).mono ?_
    rintro e v1 ⟨rfl, hb⟩
    have HH1 := Lib.hid (H2.out.next hb)
    have OL1 := Lib.hid ((HO0.out).call ⟨hb⟩)
    clear hb
    clear hc0
    have HA1 := Lib.hid (HH1.out.alloc (.cells #[.slice none 0 0] 26) (Deep.blk_alloc_new v1 _))
    have ha1_0 := HH1.out.cell (.head _) 0
    have hl1_0 := HH1.out.lt (.head _)
    have OLA1 := Lib.hid (OL1.out.alloc (.cells #[.slice none 0 0] 26))
    go_wp2_with fail
    refine (CI0.out _ _ _ _ (HA1.out.set _ (.head _)) (HA1.out.row _ (.head _))).mono ?_
    rintro e v2 ⟨rfl, hb⟩
    have HH2 := Lib.hid (HA1.out.next hb)
    have OL2 := Lib.hid ((OLA1.out).call ⟨hb⟩)
    clear hb
    clear ha1_0 hl1_0
    have hc0 := HH2.out.cell (.head _) 0
    have hc1 := HH2.out.cell (.tail _ (.head _)) 0
    go_wp2_with fail
    refine (is_true (N := []) (nil_bs _) none 0 [] (by decide) List.Pairwise.nil (fun n => ⟨(fun h => nomatch h), (fun h => absurd h In.nil)⟩) _ (sl_zero _) Rs.nil).mono ?_
    rintro e v3 ⟨rfl, hb⟩
    have HH3 := Lib.hid (HH2.out.next hb)
    have OL3 := Lib.hid ((OL2.out).call ⟨hb⟩)
    clear hb
    clear hc0 hc1
    go_wp2_with fail
    go_ret
    exact ⟨rfl, HH3.out.out⟩
set_option maxRecDepth 100000 in
set_option maxHeartbeats 16000000 in
theorem walk_big (w : World) (b0 : Int) (hb0 : 0 ≤ b0 ∧ b0 ≤ 65535) (A0 : Option Addr) (c0 : Nat) (L0 : List Iv) (hL0 : L0.length ≤ 9223372036854775807) (hs0 : ∀ x ∈ L0, PrOk x) (hR0 : Rs w w.heap.size A0 (prCells L0)) (a1 : Int) (_wa1 : (Lit.int .i64 a1).wf = true) (ha : 1048576 ≤ a1) :
    Calls Try.prog 7 #[.agg #[.int .u16 b0, .slice A0 L0.length c0], .int .i64 a1] w fun e w' => e = .returned (.bool true) ∧ Below w.heap.size w w' := by
  clear _wa1
  obtain ⟨hi0, hrw0, hln0⟩ := rowS_spec b0 hs0
  have CM0 := Lib.hid (fun W (g : Gb w W) => made_any b0 hb0 A0 c0 L0 hL0 hs0 W ((hR0.below g.out).more g.out.size))
  have CR0 := Lib.hid (fun W (g : Gb w W) => rows_any b0 hb0 A0 c0 L0 hL0 hs0 W ((hR0.below g.out).more g.out.size))
  obtain ⟨l0, hl0⟩ : ∃ l, l = rowS b0 L0 := ⟨_, rfl⟩
  rw [← hl0] at hi0 hrw0 hln0 CM0 CR0
  have hB0 : Bs 80000 (setL l0) := set_bs (by omega) hrw0
  have hm0 : ∀ n, n ∈ l0 ↔ In n (setL l0) := fun n => ((setL_spec l0).2 n).symm
  obtain ⟨M0, hM0⟩ : ∃ M, M = setL l0 := ⟨_, rfl⟩
  rw [← hM0] at hB0 hm0 CM0
  obtain ⟨R0, hRn0⟩ : ∃ R, R = rn M0 := ⟨_, rfl⟩
  rw [← hRn0] at CM0
  have HRn0 := Lib.hid hRn0
  have HRw0 := Lib.hid hrw0
  have HI0 := Lib.hid hi0
  have HBs0 := Lib.hid hB0
  have HM0 := Lib.hid hm0
  clear hR0 hl0 hM0 hRn0 hs0 hL0 hrw0 hi0 hB0 hm0
  go_enter Try.func7, Try.ntmps7
  go_wp2_with fail
  refine (known_any _).mono ?_
  rintro e w1 ⟨rfl, hb⟩
  have F1 : Fr (w.alloc (.cells #[.int .u16 b0, .slice A0 L0.length c0] 36)) w1 := ⟨hb⟩
  have G1 : Gb w w1 := Gb.call (Gb.alloc (Gb.refl w) _) F1
  have K0 : Bk1 (w.heap.size) (.cells #[.int .u16 b0, .slice A0 L0.length c0] 36 (0, 0)) w1 := Bk1.call ((Bk1.new (W := w) (by rfl) (fun v => Deep.blk_alloc_new v _) : Bk1 (w.heap.size) (.cells #[.int .u16 b0, .slice A0 L0.length c0] 36 (0, 0)) _)) F1
  have hk00 : w1.cell? ⟨w.heap.size, 0, none⟩ = some (.int .u16 b0) := cell_of_row w1 _ 0 _ _ _ K0.out
  have hk01 : w1.cell? ⟨w.heap.size, 1, none⟩ = some (.slice A0 L0.length c0) := cell_of_row w1 _ 1 _ _ _ K0.out
  have hz1 := F1.size1
  simp at hz1
  clear hb
  have HS : Hid (∀ W, Gb w1 W → W.cell? ⟨w.heap.size, 0, none⟩ = some (.int .u16 b0) ∧ W.cell? ⟨w.heap.size, 1, none⟩ = some (.slice A0 L0.length c0)) := Lib.hid (fun W g => by
    have f0 : W.heap[w.heap.size]? = some (.cells #[.int .u16 b0, .slice A0 L0.length c0] 36 (0, 0)) := (g.out.block _ (Array.getElem?_eq_some_iff.1 K0.out).1).trans K0.out
    exact ⟨cell_of_row W _ 0 _ _ _ f0, cell_of_row W _ 1 _ _ _ f0⟩)
  go_upto_region 3 with fail
  go_cut [5, 6] (fun s5 s6 wx => ∃ (X0 : Nat) (P0 : Option Addr) (p0 : Nat) (Q0 : Option Addr) (q0 : Nat), s5 = .pointer (some ⟨X0, 0, none⟩) ∧ s6 = .slice Q0 l0.length q0 ∧ Hid (Hold w [(X0, Obj.cells #[.slice P0 R0.length p0] 26 (0, 0))] [(.slice P0 R0.length p0, R0)] [(Q0, nC l0)] wx) ∧ Hid (Ow w.heap.size Q0 q0 l0 wx))
  case first =>
    go_region_held3 (fun W => W.cell? ⟨w.heap.size, 0, none⟩ = some (.int .u16 b0) ∧ W.cell? ⟨w.heap.size, 1, none⟩ = some (.slice A0 L0.length c0))
      (exact HS.out _ (by ((repeat (first | (with_reducible assumption) | (with_reducible exact Gb.refl _) | (with_reducible refine Gb.call ?_ (by with_reducible assumption)) | (with_reducible refine Gb.alloc ?_ _) | (with_reducible refine Gb.drew ?_) | (with_reducible refine Gb.setCell ?_ (by omega) _))); (first | done | fail))))
      ((first
        | (go_at_call 24; have := E0; refine (CR0.out _ (by ((repeat (first | (with_reducible assumption) | (with_reducible exact Gb.refl _) | (with_reducible refine Gb.call ?_ (by with_reducible assumption)) | (with_reducible refine Gb.alloc ?_ _) | (with_reducible refine Gb.drew ?_) | (with_reducible refine Gb.setCell ?_ (by omega) _))); (first | done | fail)))).mono ?_; rintro e v1 ⟨⟨y0, rfl, hown⟩, hb1⟩; have E1 : Fr _ v1 := ⟨hb1⟩; obtain ⟨Q0, q0, rfl, _, hro, _⟩ := rs_ownn hown; have U0 : Rt Q0 l0 v1 := ⟨hro⟩; have O0 : Ow w.heap.size Q0 q0 l0 v1 := ⟨own_base hown (le_gb (by ((repeat (first | (with_reducible assumption) | (with_reducible exact Gb.refl _) | (with_reducible refine Gb.call ?_ (by with_reducible assumption)) | (with_reducible refine Gb.alloc ?_ _) | (with_reducible refine Gb.drew ?_) | (with_reducible refine Gb.setCell ?_ (by omega) _))); (first | done | fail))))⟩; have z1 := E1.size1; (try simp at z1); clear hb1 hown hro; (try (have kk : Bk1 (w1.heap.size) (.cells #[.slice none 0 0] 26 (0, 0)) v1 := (by ((repeat (first | (with_reducible assumption) | (with_reducible refine Bk1.call ?_ (by with_reducible assumption)) | (with_reducible refine Bk1.new ?_ (new_bm _); first | rfl | (simp; done)) | (with_reducible refine Bk1.old ?_ _) | (with_reducible refine Bk1.drew ?_) | (with_reducible refine Bk1.same ?_) | (with_reducible refine Bk1.other ?_ (by omega) _))); (first | done | fail))); have cc : v1.cell? ⟨w1.heap.size, 0, none⟩ = some (.slice none 0 0) := cell_of_row _ _ 0 _ _ _ kk.out; have ff : v1.frozen? ⟨w1.heap.size, 0, none⟩ = false := frozen_of_row _ _ _ _ _ kk.out; have ll : w1.heap.size < v1.heap.size := (Array.getElem?_eq_some_iff.1 kk.out).1; clear kk)); (try (have kk : Bk1 (v0.heap.size) (.cells #[.slice none 0 0] 26 (0, 0)) v1 := (by ((repeat (first | (with_reducible assumption) | (with_reducible refine Bk1.call ?_ (by with_reducible assumption)) | (with_reducible refine Bk1.new ?_ (new_bm _); first | rfl | (simp; done)) | (with_reducible refine Bk1.old ?_ _) | (with_reducible refine Bk1.drew ?_) | (with_reducible refine Bk1.same ?_) | (with_reducible refine Bk1.other ?_ (by omega) _))); (first | done | fail))); have cc : v1.cell? ⟨v0.heap.size, 0, none⟩ = some (.slice none 0 0) := cell_of_row _ _ 0 _ _ _ kk.out; have ff : v1.frozen? ⟨v0.heap.size, 0, none⟩ = false := frozen_of_row _ _ _ _ _ kk.out; have ll : v0.heap.size < v1.heap.size := (Array.getElem?_eq_some_iff.1 kk.out).1; clear kk)))
        | (go_at_call 22; refine (CM0.out _ (by ((repeat (first | (with_reducible assumption) | (with_reducible exact Gb.refl _) | (with_reducible refine Gb.call ?_ (by with_reducible assumption)) | (with_reducible refine Gb.alloc ?_ _) | (with_reducible refine Gb.drew ?_) | (with_reducible refine Gb.setCell ?_ (by omega) _))); (first | done | fail)))).mono ?_; rintro e v0 ⟨⟨r0, rfl, hr0⟩, hb0⟩; have E0 : Fr _ v0 := ⟨hb0⟩; have T0 : St r0 R0 v0 := ⟨hr0⟩; have z0 := E0.size1; obtain ⟨P0, p0, rfl, _, _, _, _⟩ := hr0; (try simp at z0); clear hb0; (try (have kk : Bk1 (w1.heap.size) (.cells #[.slice none 0 0] 26 (0, 0)) v0 := (by ((repeat (first | (with_reducible assumption) | (with_reducible refine Bk1.call ?_ (by with_reducible assumption)) | (with_reducible refine Bk1.new ?_ (new_bm _); first | rfl | (simp; done)) | (with_reducible refine Bk1.old ?_ _) | (with_reducible refine Bk1.drew ?_) | (with_reducible refine Bk1.same ?_) | (with_reducible refine Bk1.other ?_ (by omega) _))); (first | done | fail))); have cc : v0.cell? ⟨w1.heap.size, 0, none⟩ = some (.slice none 0 0) := cell_of_row _ _ 0 _ _ _ kk.out; have ff : v0.frozen? ⟨w1.heap.size, 0, none⟩ = false := frozen_of_row _ _ _ _ _ kk.out; have ll : w1.heap.size < v0.heap.size := (Array.getElem?_eq_some_iff.1 kk.out).1; clear kk)))
        | fail))
    all_goals
      go_wp2_with fail
      go_meet
      refine ⟨_, P0, p0, Q0, q0, rfl, rfl, Lib.hid ⟨(by ((repeat (first | (with_reducible assumption) | (with_reducible exact Gb.refl _) | (with_reducible refine Gb.call ?_ (by with_reducible assumption)) | (with_reducible refine Gb.alloc ?_ _) | (with_reducible refine Gb.drew ?_) | (with_reducible refine Gb.setCell ?_ (by omega) _))); (first | done | fail)) : Gb w _).out, ?_, ?_, ?_⟩, Lib.hid (by ((repeat (first | (with_reducible assumption) | (with_reducible refine Ow.call ?_ (by with_reducible assumption)) | (with_reducible refine Ow.alloc ?_ _) | (with_reducible refine Ow.drew ?_) | (with_reducible refine Ow.store ?_ (by ((repeat (first | (with_reducible assumption) | (with_reducible refine Bk1.call ?_ (by with_reducible assumption)) | (with_reducible refine Bk1.new ?_ (new_bm _); first | rfl | (simp; done)) | (with_reducible refine Bk1.old ?_ _) | (with_reducible refine Bk1.drew ?_) | (with_reducible refine Bk1.same ?_) | (with_reducible refine Bk1.other ?_ (by omega) _))); (first | done | fail))) _))); (first | done | fail)))⟩
      · intro p hp
        simp only [List.mem_cons, List.not_mem_nil, or_false] at hp
        subst hp
        all_goals dsimp only
        all_goals refine Bk1.out ?_
        all_goals ((repeat (first | (with_reducible assumption) | (with_reducible refine Bk1.call ?_ (by with_reducible assumption)) | (with_reducible refine Bk1.new ?_ (new_bm _); first | rfl | (simp; done)) | (with_reducible refine Bk1.old ?_ _) | (with_reducible refine Bk1.drew ?_) | (with_reducible refine Bk1.same ?_) | (with_reducible refine Bk1.other ?_ (by omega) _))); (first | done | fail))
      · intro p hp
        simp only [List.mem_cons, List.not_mem_nil, or_false] at hp
        subst hp
        all_goals dsimp only
        all_goals refine St.out ?_
        all_goals ((repeat (first | (with_reducible assumption) | (with_reducible refine St.call ?_ (by with_reducible assumption)) | (with_reducible refine St.alloc ?_ _) | (with_reducible refine St.drew ?_) | (with_reducible refine St.store ?_ (by ((repeat (first | (with_reducible assumption) | (with_reducible refine Bk1.call ?_ (by with_reducible assumption)) | (with_reducible refine Bk1.new ?_ (new_bm _); first | rfl | (simp; done)) | (with_reducible refine Bk1.old ?_ _) | (with_reducible refine Bk1.drew ?_) | (with_reducible refine Bk1.same ?_) | (with_reducible refine Bk1.other ?_ (by omega) _))); (first | done | fail))) _))); (first | done | fail))
      · intro p hp
        simp only [List.mem_cons, List.not_mem_nil, or_false] at hp
        subst hp
        all_goals dsimp only
        all_goals refine Rt.out ?_
        all_goals ((repeat (first | (with_reducible assumption) | (with_reducible refine Rt.call ?_ (by with_reducible assumption)) | (with_reducible refine Rt.alloc ?_ _) | (with_reducible refine Rt.drew ?_) | (with_reducible refine Rt.store ?_ (by ((repeat (first | (with_reducible assumption) | (with_reducible refine Bk1.call ?_ (by with_reducible assumption)) | (with_reducible refine Bk1.new ?_ (new_bm _); first | rfl | (simp; done)) | (with_reducible refine Bk1.old ?_ _) | (with_reducible refine Bk1.drew ?_) | (with_reducible refine Bk1.same ?_) | (with_reducible refine Bk1.other ?_ (by omega) _))); (first | done | fail))) _))); (first | done | fail))
  case rest =>
    obtain ⟨X0, P0, p0, Q0, q0, rfl, rfl, H2, HO0⟩ := hcut
    clear HS K0 hk00 hk01 F1 G1 CM0 CR0
    have e0 := HRn0.out
    subst e0
    clear HRn0
    have CI0 := Lib.hid (fun A c v W (hv : Sl W v (rn M0)) (hR : Rs W W.heap.size A (nC l0)) => is_true (v := v) HBs0.out A c l0 (by omega) HI0.out HM0.out W hv hR)
    have hk : isR a1 = false := by unfold isR; simp; omega
    have CA := Lib.hid (fun v W (h : Sl W v (rn M0)) => add_none (v := v) a1 hk W h)
    clear hk
    have hc0 := H2.out.cell (.head _) 0
    go_wp2_with fail
    refine (CA.out _ _ (H2.out.set _ (.head _))).mono ?_
    rintro e v1 ⟨rfl, hb⟩
    have HH1 := Lib.hid (H2.out.next hb)
    have OL1 := Lib.hid ((HO0.out).call ⟨hb⟩)
    clear hb
    clear hc0
    have HA1 := Lib.hid (HH1.out.alloc (.cells #[.slice none 0 0] 26) (Deep.blk_alloc_new v1 _))
    have ha1_0 := HH1.out.cell (.head _) 0
    have hl1_0 := HH1.out.lt (.head _)
    have OLA1 := Lib.hid (OL1.out.alloc (.cells #[.slice none 0 0] 26))
    go_wp2_with fail
    refine (CI0.out _ _ _ _ (HA1.out.set _ (.head _)) (HA1.out.row _ (.head _))).mono ?_
    rintro e v2 ⟨rfl, hb⟩
    have HH2 := Lib.hid (HA1.out.next hb)
    have OL2 := Lib.hid ((OLA1.out).call ⟨hb⟩)
    clear hb
    clear ha1_0 hl1_0
    have hc0 := HH2.out.cell (.head _) 0
    have hc1 := HH2.out.cell (.tail _ (.head _)) 0
    go_wp2_with fail
    refine (is_true (N := []) (nil_bs _) none 0 [] (by decide) List.Pairwise.nil (fun n => ⟨(fun h => nomatch h), (fun h => absurd h In.nil)⟩) _ (sl_zero _) Rs.nil).mono ?_
    rintro e v3 ⟨rfl, hb⟩
    have HH3 := Lib.hid (HH2.out.next hb)
    have OL3 := Lib.hid ((OL2.out).call ⟨hb⟩)
    clear hb
    clear hc0 hc1
    go_wp2_with fail
    go_ret
    exact ⟨rfl, HH3.out.out⟩
set_option maxRecDepth 100000 in
set_option maxHeartbeats 16000000 in
theorem walk_ok (w : World) (b0 : Int) (hb0 : 0 ≤ b0 ∧ b0 ≤ 65535) (A0 : Option Addr) (c0 : Nat) (L0 : List Iv) (hL0 : L0.length ≤ 9223372036854775807) (hs0 : ∀ x ∈ L0, PrOk x) (hR0 : Rs w w.heap.size A0 (prCells L0)) (a1 : Int) (_wa1 : (Lit.int .i64 a1).wf = true) (ha : 0 ≤ a1 ∧ a1 < 1048576) :
    Calls Try.prog 7 #[.agg #[.int .u16 b0, .slice A0 L0.length c0], .int .i64 a1] w fun e w' => e = .returned (.bool true) ∧ Below w.heap.size w w' := by
  clear _wa1
  obtain ⟨hi0, hrw0, hln0⟩ := rowS_spec b0 hs0
  have CM0 := Lib.hid (fun W (g : Gb w W) => made_any b0 hb0 A0 c0 L0 hL0 hs0 W ((hR0.below g.out).more g.out.size))
  have CR0 := Lib.hid (fun W (g : Gb w W) => rows_any b0 hb0 A0 c0 L0 hL0 hs0 W ((hR0.below g.out).more g.out.size))
  obtain ⟨l0, hl0⟩ : ∃ l, l = rowS b0 L0 := ⟨_, rfl⟩
  rw [← hl0] at hi0 hrw0 hln0 CM0 CR0
  have hB0 : Bs 80000 (setL l0) := set_bs (by omega) hrw0
  have hm0 : ∀ n, n ∈ l0 ↔ In n (setL l0) := fun n => ((setL_spec l0).2 n).symm
  obtain ⟨M0, hM0⟩ : ∃ M, M = setL l0 := ⟨_, rfl⟩
  rw [← hM0] at hB0 hm0 CM0
  obtain ⟨R0, hRn0⟩ : ∃ R, R = rn M0 := ⟨_, rfl⟩
  rw [← hRn0] at CM0
  have HRn0 := Lib.hid hRn0
  have HRw0 := Lib.hid hrw0
  have HI0 := Lib.hid hi0
  have HBs0 := Lib.hid hB0
  have HM0 := Lib.hid hm0
  clear hR0 hl0 hM0 hRn0 hs0 hL0 hrw0 hi0 hB0 hm0
  go_enter Try.func7, Try.ntmps7
  go_wp2_with fail
  refine (known_any _).mono ?_
  rintro e w1 ⟨rfl, hb⟩
  have F1 : Fr (w.alloc (.cells #[.int .u16 b0, .slice A0 L0.length c0] 36)) w1 := ⟨hb⟩
  have G1 : Gb w w1 := Gb.call (Gb.alloc (Gb.refl w) _) F1
  have K0 : Bk1 (w.heap.size) (.cells #[.int .u16 b0, .slice A0 L0.length c0] 36 (0, 0)) w1 := Bk1.call ((Bk1.new (W := w) (by rfl) (fun v => Deep.blk_alloc_new v _) : Bk1 (w.heap.size) (.cells #[.int .u16 b0, .slice A0 L0.length c0] 36 (0, 0)) _)) F1
  have hk00 : w1.cell? ⟨w.heap.size, 0, none⟩ = some (.int .u16 b0) := cell_of_row w1 _ 0 _ _ _ K0.out
  have hk01 : w1.cell? ⟨w.heap.size, 1, none⟩ = some (.slice A0 L0.length c0) := cell_of_row w1 _ 1 _ _ _ K0.out
  have hz1 := F1.size1
  simp at hz1
  clear hb
  have HS : Hid (∀ W, Gb w1 W → W.cell? ⟨w.heap.size, 0, none⟩ = some (.int .u16 b0) ∧ W.cell? ⟨w.heap.size, 1, none⟩ = some (.slice A0 L0.length c0)) := Lib.hid (fun W g => by
    have f0 : W.heap[w.heap.size]? = some (.cells #[.int .u16 b0, .slice A0 L0.length c0] 36 (0, 0)) := (g.out.block _ (Array.getElem?_eq_some_iff.1 K0.out).1).trans K0.out
    exact ⟨cell_of_row W _ 0 _ _ _ f0, cell_of_row W _ 1 _ _ _ f0⟩)
  go_upto_region 3 with fail
  go_cut [5, 6] (fun s5 s6 wx => ∃ (X0 : Nat) (P0 : Option Addr) (p0 : Nat) (Q0 : Option Addr) (q0 : Nat), s5 = .pointer (some ⟨X0, 0, none⟩) ∧ s6 = .slice Q0 l0.length q0 ∧ Hid (Hold w [(X0, Obj.cells #[.slice P0 R0.length p0] 26 (0, 0))] [(.slice P0 R0.length p0, R0)] [(Q0, nC l0)] wx) ∧ Hid (Ow w.heap.size Q0 q0 l0 wx))
  case first =>
    go_region_held3 (fun W => W.cell? ⟨w.heap.size, 0, none⟩ = some (.int .u16 b0) ∧ W.cell? ⟨w.heap.size, 1, none⟩ = some (.slice A0 L0.length c0))
      (exact HS.out _ (by ((repeat (first | (with_reducible assumption) | (with_reducible exact Gb.refl _) | (with_reducible refine Gb.call ?_ (by with_reducible assumption)) | (with_reducible refine Gb.alloc ?_ _) | (with_reducible refine Gb.drew ?_) | (with_reducible refine Gb.setCell ?_ (by omega) _))); (first | done | fail))))
      ((first
        | (go_at_call 24; have := E0; refine (CR0.out _ (by ((repeat (first | (with_reducible assumption) | (with_reducible exact Gb.refl _) | (with_reducible refine Gb.call ?_ (by with_reducible assumption)) | (with_reducible refine Gb.alloc ?_ _) | (with_reducible refine Gb.drew ?_) | (with_reducible refine Gb.setCell ?_ (by omega) _))); (first | done | fail)))).mono ?_; rintro e v1 ⟨⟨y0, rfl, hown⟩, hb1⟩; have E1 : Fr _ v1 := ⟨hb1⟩; obtain ⟨Q0, q0, rfl, _, hro, _⟩ := rs_ownn hown; have U0 : Rt Q0 l0 v1 := ⟨hro⟩; have O0 : Ow w.heap.size Q0 q0 l0 v1 := ⟨own_base hown (le_gb (by ((repeat (first | (with_reducible assumption) | (with_reducible exact Gb.refl _) | (with_reducible refine Gb.call ?_ (by with_reducible assumption)) | (with_reducible refine Gb.alloc ?_ _) | (with_reducible refine Gb.drew ?_) | (with_reducible refine Gb.setCell ?_ (by omega) _))); (first | done | fail))))⟩; have z1 := E1.size1; (try simp at z1); clear hb1 hown hro; (try (have kk : Bk1 (w1.heap.size) (.cells #[.slice none 0 0] 26 (0, 0)) v1 := (by ((repeat (first | (with_reducible assumption) | (with_reducible refine Bk1.call ?_ (by with_reducible assumption)) | (with_reducible refine Bk1.new ?_ (new_bm _); first | rfl | (simp; done)) | (with_reducible refine Bk1.old ?_ _) | (with_reducible refine Bk1.drew ?_) | (with_reducible refine Bk1.same ?_) | (with_reducible refine Bk1.other ?_ (by omega) _))); (first | done | fail))); have cc : v1.cell? ⟨w1.heap.size, 0, none⟩ = some (.slice none 0 0) := cell_of_row _ _ 0 _ _ _ kk.out; have ff : v1.frozen? ⟨w1.heap.size, 0, none⟩ = false := frozen_of_row _ _ _ _ _ kk.out; have ll : w1.heap.size < v1.heap.size := (Array.getElem?_eq_some_iff.1 kk.out).1; clear kk)); (try (have kk : Bk1 (v0.heap.size) (.cells #[.slice none 0 0] 26 (0, 0)) v1 := (by ((repeat (first | (with_reducible assumption) | (with_reducible refine Bk1.call ?_ (by with_reducible assumption)) | (with_reducible refine Bk1.new ?_ (new_bm _); first | rfl | (simp; done)) | (with_reducible refine Bk1.old ?_ _) | (with_reducible refine Bk1.drew ?_) | (with_reducible refine Bk1.same ?_) | (with_reducible refine Bk1.other ?_ (by omega) _))); (first | done | fail))); have cc : v1.cell? ⟨v0.heap.size, 0, none⟩ = some (.slice none 0 0) := cell_of_row _ _ 0 _ _ _ kk.out; have ff : v1.frozen? ⟨v0.heap.size, 0, none⟩ = false := frozen_of_row _ _ _ _ _ kk.out; have ll : v0.heap.size < v1.heap.size := (Array.getElem?_eq_some_iff.1 kk.out).1; clear kk)))
        | (go_at_call 22; refine (CM0.out _ (by ((repeat (first | (with_reducible assumption) | (with_reducible exact Gb.refl _) | (with_reducible refine Gb.call ?_ (by with_reducible assumption)) | (with_reducible refine Gb.alloc ?_ _) | (with_reducible refine Gb.drew ?_) | (with_reducible refine Gb.setCell ?_ (by omega) _))); (first | done | fail)))).mono ?_; rintro e v0 ⟨⟨r0, rfl, hr0⟩, hb0⟩; have E0 : Fr _ v0 := ⟨hb0⟩; have T0 : St r0 R0 v0 := ⟨hr0⟩; have z0 := E0.size1; obtain ⟨P0, p0, rfl, _, _, _, _⟩ := hr0; (try simp at z0); clear hb0; (try (have kk : Bk1 (w1.heap.size) (.cells #[.slice none 0 0] 26 (0, 0)) v0 := (by ((repeat (first | (with_reducible assumption) | (with_reducible refine Bk1.call ?_ (by with_reducible assumption)) | (with_reducible refine Bk1.new ?_ (new_bm _); first | rfl | (simp; done)) | (with_reducible refine Bk1.old ?_ _) | (with_reducible refine Bk1.drew ?_) | (with_reducible refine Bk1.same ?_) | (with_reducible refine Bk1.other ?_ (by omega) _))); (first | done | fail))); have cc : v0.cell? ⟨w1.heap.size, 0, none⟩ = some (.slice none 0 0) := cell_of_row _ _ 0 _ _ _ kk.out; have ff : v0.frozen? ⟨w1.heap.size, 0, none⟩ = false := frozen_of_row _ _ _ _ _ kk.out; have ll : w1.heap.size < v0.heap.size := (Array.getElem?_eq_some_iff.1 kk.out).1; clear kk)))
        | fail))
    all_goals
      go_wp2_with fail
      go_meet
      refine ⟨_, P0, p0, Q0, q0, rfl, rfl, Lib.hid ⟨(by ((repeat (first | (with_reducible assumption) | (with_reducible exact Gb.refl _) | (with_reducible refine Gb.call ?_ (by with_reducible assumption)) | (with_reducible refine Gb.alloc ?_ _) | (with_reducible refine Gb.drew ?_) | (with_reducible refine Gb.setCell ?_ (by omega) _))); (first | done | fail)) : Gb w _).out, ?_, ?_, ?_⟩, Lib.hid (by ((repeat (first | (with_reducible assumption) | (with_reducible refine Ow.call ?_ (by with_reducible assumption)) | (with_reducible refine Ow.alloc ?_ _) | (with_reducible refine Ow.drew ?_) | (with_reducible refine Ow.store ?_ (by ((repeat (first | (with_reducible assumption) | (with_reducible refine Bk1.call ?_ (by with_reducible assumption)) | (with_reducible refine Bk1.new ?_ (new_bm _); first | rfl | (simp; done)) | (with_reducible refine Bk1.old ?_ _) | (with_reducible refine Bk1.drew ?_) | (with_reducible refine Bk1.same ?_) | (with_reducible refine Bk1.other ?_ (by omega) _))); (first | done | fail))) _))); (first | done | fail)))⟩
      · intro p hp
        simp only [List.mem_cons, List.not_mem_nil, or_false] at hp
        subst hp
        all_goals dsimp only
        all_goals refine Bk1.out ?_
        all_goals ((repeat (first | (with_reducible assumption) | (with_reducible refine Bk1.call ?_ (by with_reducible assumption)) | (with_reducible refine Bk1.new ?_ (new_bm _); first | rfl | (simp; done)) | (with_reducible refine Bk1.old ?_ _) | (with_reducible refine Bk1.drew ?_) | (with_reducible refine Bk1.same ?_) | (with_reducible refine Bk1.other ?_ (by omega) _))); (first | done | fail))
      · intro p hp
        simp only [List.mem_cons, List.not_mem_nil, or_false] at hp
        subst hp
        all_goals dsimp only
        all_goals refine St.out ?_
        all_goals ((repeat (first | (with_reducible assumption) | (with_reducible refine St.call ?_ (by with_reducible assumption)) | (with_reducible refine St.alloc ?_ _) | (with_reducible refine St.drew ?_) | (with_reducible refine St.store ?_ (by ((repeat (first | (with_reducible assumption) | (with_reducible refine Bk1.call ?_ (by with_reducible assumption)) | (with_reducible refine Bk1.new ?_ (new_bm _); first | rfl | (simp; done)) | (with_reducible refine Bk1.old ?_ _) | (with_reducible refine Bk1.drew ?_) | (with_reducible refine Bk1.same ?_) | (with_reducible refine Bk1.other ?_ (by omega) _))); (first | done | fail))) _))); (first | done | fail))
      · intro p hp
        simp only [List.mem_cons, List.not_mem_nil, or_false] at hp
        subst hp
        all_goals dsimp only
        all_goals refine Rt.out ?_
        all_goals ((repeat (first | (with_reducible assumption) | (with_reducible refine Rt.call ?_ (by with_reducible assumption)) | (with_reducible refine Rt.alloc ?_ _) | (with_reducible refine Rt.drew ?_) | (with_reducible refine Rt.store ?_ (by ((repeat (first | (with_reducible assumption) | (with_reducible refine Bk1.call ?_ (by with_reducible assumption)) | (with_reducible refine Bk1.new ?_ (new_bm _); first | rfl | (simp; done)) | (with_reducible refine Bk1.old ?_ _) | (with_reducible refine Bk1.drew ?_) | (with_reducible refine Bk1.same ?_) | (with_reducible refine Bk1.other ?_ (by omega) _))); (first | done | fail))) _))); (first | done | fail))
  case rest =>
    obtain ⟨X0, P0, p0, Q0, q0, rfl, rfl, H2, HO0⟩ := hcut
    clear HS K0 hk00 hk01 F1 G1 CM0 CR0
    have e0 := HRn0.out
    subst e0
    clear HRn0
    have CI0 := Lib.hid (fun A c v W (hv : Sl W v (rn M0)) (hR : Rs W W.heap.size A (nC l0)) => is_true (v := v) HBs0.out A c l0 (by omega) HI0.out HM0.out W hv hR)
    have hk := (isR_iff a1).2 ha
    have hS : Bs 1 (setL [a1]) := by
      obtain ⟨x, y⟩ := setL_spec [a1]
      refine ⟨x, ?_, fun n hn => by have := (y n).1 hn; simp at this; rw [this]; exact hk⟩
      rw [← jf_all]
      have := jf_len (srI [a1]) (srI [a1]).length
      rw [srI_len] at this ⊢
      simpa using this
    have hA : Bs 84 M0 := by
      have h := HBs0.out
      refine ⟨h.nrm, ?_, h.row⟩
      have h1 := setL_spec l0
      have e : M0 = setL l0 := nrm_ext h.nrm h1.1 (fun n => ((HM0.out n).symm.trans (h1.2 n).symm))
      rw [e, ← jf_all]
      have := jf_len (srI l0) (srI l0).length
      rw [srI_len] at this ⊢
      omega
    obtain ⟨N, cN, bN⟩ := ex_cmb fOr rfl hA hS
    have CA := Lib.hid (fun v W h => add_set (v := v) (hA.more (by omega)) a1 hk cN W h)
    have CS := Lib.hid (fun A c W h => ref_sorted A c (l0 ++ [a1]) (by simp; omega) W h)
    have hbl : (bds (l0 ++ [a1])).length ≤ 90 := by have := (bds_gen (l0 ++ [a1]) [] List.Pairwise.nil).2.2; unfold bds; simp only [List.length_nil, List.length_append, List.length_cons] at this; omega
    have hbi : Inc (bds (l0 ++ [a1])) := (bds_gen (l0 ++ [a1]) [] List.Pairwise.nil).1
    have hbm : ∀ n, n ∈ bds (l0 ++ [a1]) ↔ In n N := fun n => by
      rw [bds_mem, List.mem_append, HM0.out n, cN.2 n]
      show _ ↔ (has n M0 || has n (setL [a1])) = true
      rw [Bool.or_eq_true, has_in, has_in, (setL_spec [a1]).2 n]
    have CI := Lib.hid (fun A c v W (hv : Sl W v (rn N)) (hR : Rs W W.heap.size A (nC (bds (l0 ++ [a1])))) => is_true (v := v) (bN.more (by omega)) A c _ (by omega) hbi hbm W hv hR)
    obtain ⟨T, hT⟩ : ∃ T, T = bds (l0 ++ [a1]) := ⟨_, rfl⟩
    rw [← hT] at CS CI
    have hlen : (l0 ++ [a1]).length = l0.length + 1 := by simp
    rw [hlen] at CS
    have ha1 := ha.1
    have ha2 := ha.2
    have ha3 : ¬ a1 < 0 := by omega
    have ha4 : ¬ (1048576 : Int) ≤ a1 := by omega
    obtain ⟨i0, hi0, hz0, hz1, hz2⟩ := info_parts2 info_num
    have Hi0 := Lib.hid hi0
    have Hz0 := Lib.hid hz0
    have Hz1 := Lib.hid hz1
    have Hz2 := Lib.hid hz2
    have HLn := Lib.hid hlen
    clear hk hS hA cN bN hbl hbi hbm hT hi0 hz0 hz1 hz2 ha hlen
    have hc0 := H2.out.cell (.head _) 0
    go_wp2_with fail
    refine (CA.out _ _ (H2.out.set _ (.head _))).mono ?_
    rintro e v1 ⟨⟨r, rfl, hown⟩, hb⟩
    have HH1 := Lib.hid ((H2.out.next hb).addV (sl_own hown))
    have OL1 := Lib.hid (HO0.out.call ⟨hb⟩)
    have hlz := wc.heap.size
    obtain ⟨D1, d1, rfl, _, _, _⟩ := rs_own hown
    have HN1 := Lib.hid hown
    have HLt := Lib.hid (ow_lt HO0.out)
    have hzN := hb.size
    clear hb hown hc0 hlz
    have HA1 := Lib.hid (HH1.out.alloc (.cells #[.slice D1 (rn N).length d1] 26) (Deep.blk_alloc_new v1 _))
    have ha1_0 := HH1.out.cell (.head _) 0
    have hl1_0 := HH1.out.lt (.head _)
    have OLA1 := Lib.hid (OL1.out.alloc (.cells #[.slice D1 (rn N).length d1] 26))
    have HNa := Lib.hid (own_belowk HN1.out ((Below.refl _ _).alloc (Nat.le_refl _) (.cells #[.slice D1 (rn N).length d1] 26)))
    have HLt2 : Hid (∀ g, (Value.slice Q0 l0.length q0).ownBlock = some g → g < wc.heap.size ∧ g ≠ v1.heap.size) := Lib.hid (fun g hg => ⟨HLt.out g hg, by have := HLt.out g hg; have := hzN; omega⟩)
    clear hzN
    go_wp2_with fail
    refine (CI0.out _ _ _ _ (HA1.out.set _ (.tail _ (.head _))) (HA1.out.row _ (.head _))).mono ?_
    rintro e v2 ⟨rfl, hb⟩
    have HH2 := Lib.hid (HA1.out.next hb)
    have OL2 := Lib.hid ((OLA1.out).call ⟨hb⟩)
    have HNb := Lib.hid (own_belowk HNa.out hb)
    clear hb
    clear ha1_0 hl1_0
    have hcN := HH2.out.cell (.head _) 0
    have hRl := Lib.hid (HH2.out.row _ (.head _))
    go_wp2_with fail
    have hk5 := HH2.out.blk _ (.head _)
    have HK5 := Lib.hid hk5
    have OLk := OL2.out
    have G0k : Gb w v2 := ⟨HH2.out.out⟩
    clear hk5
    go_region_held3 (fun W => W.cell? ⟨v1.heap.size, 0, none⟩ = some (.slice D1 (rn N).length d1))
      (first | exact HS7.out.cell (.head _) 0 | exact HS6.out.cell (.head _) 0 | exact HS5.out.cell (.head _) 0 | exact cell_of_row _ _ 0 _ _ _ HK5.out | exact cell_of_row _ _ 0 _ _ _ (Bk1.drew ⟨HK5.out⟩).out | exact cell_of_row _ _ 0 _ _ _ (Bk1.old (Bk1.drew ⟨HK5.out⟩) _).out | exact cell_of_row _ _ 0 _ _ _ (Bk1.drew (Bk1.old ⟨HK5.out⟩ _)).out | assumption)
      ((first
        | (go_at_call 16; refine (CI.out _ _ _ _ (HS6.out.set _ (.head _)) (HS6.out.row _ (.head _))).mono ?_; rintro e v7 ⟨rfl, hb⟩; have HS7 := Lib.hid (HS6.out.next hb); clear hb)
        | (go_at_call 17; refine (CS.out _ _ _ HR5.out).mono ?_; rintro e v6 ⟨⟨r6, rfl, hown⟩, hb⟩; obtain ⟨D6, d6, rfl, _, hr6, _⟩ := rs_ownn hown; have HS6 := Lib.hid ((HS5.out.next hb).addN hr6); clear hb hown hr6)
        | (refine step_append_w (by rfl) (.tmp 41) (.tmp 43) 22 rfl w.heap.size 3 i0 _ 1 8 Try.underlying22 Hi0.out Hz0.out Hz1.out Hz2.out rfl (by decide) (.slice Q0 l0.length q0) l0.length (nC l0) (by rfl) ((by ((repeat (first | (with_reducible assumption) | (with_reducible refine Ow.call ?_ (by with_reducible assumption)) | (with_reducible refine Ow.alloc ?_ _) | (with_reducible refine Ow.drew ?_) | (with_reducible refine Ow.store ?_ (by ((repeat (first | (with_reducible assumption) | (with_reducible refine Bk1.call ?_ (by with_reducible assumption)) | (with_reducible refine Bk1.new ?_ (new_bm _); first | rfl | (simp; done)) | (with_reducible refine Bk1.old ?_ _) | (with_reducible refine Bk1.drew ?_) | (with_reducible refine Bk1.same ?_) | (with_reducible refine Bk1.other ?_ (by omega) _))); (first | done | fail))) _))); (first | done | fail)) : Ow w.heap.size Q0 q0 l0 _).out) ⟨v2.heap.size, 0, none⟩ 1 1 (by rfl) [.int .i64 a1] rfl (cells_one (Deep.blk_alloc_new v2 _) _ rfl) (by simp [Value.oneCell']) (by omega) (by omega) ((by ((repeat (first | (with_reducible assumption) | (with_reducible exact Gb.refl _) | (with_reducible refine Gb.call ?_ (by with_reducible assumption)) | (with_reducible refine Gb.alloc ?_ _) | (with_reducible refine Gb.drew ?_) | (with_reducible refine Gb.setCell ?_ (by omega) _))); (first | done | fail)) : Gb w _).out.size) ?_; intro r5 w5 hown5 hg5; rw [show nC l0 ++ [Value.int .i64 a1] = nC (l0 ++ [a1]) from (by simp [nC])] at hown5; have HS5 := Lib.hid (hold5 (vk := v2) hg5 (by ((repeat (first | (with_reducible assumption) | (with_reducible refine Ow.call ?_ (by with_reducible assumption)) | (with_reducible refine Ow.alloc ?_ _) | (with_reducible refine Ow.drew ?_) | (with_reducible refine Ow.store ?_ (by ((repeat (first | (with_reducible assumption) | (with_reducible refine Bk1.call ?_ (by with_reducible assumption)) | (with_reducible refine Bk1.new ?_ (new_bm _); first | rfl | (simp; done)) | (with_reducible refine Bk1.old ?_ _) | (with_reducible refine Bk1.drew ?_) | (with_reducible refine Bk1.same ?_) | (with_reducible refine Bk1.other ?_ (by omega) _))); (first | done | fail))) _))); (first | done | fail))) (by ((repeat (first | (with_reducible assumption) | (with_reducible exact Gb.refl _) | (with_reducible refine Gb.call ?_ (by with_reducible assumption)) | (with_reducible refine Gb.alloc ?_ _) | (with_reducible refine Gb.drew ?_) | (with_reducible refine Gb.setCell ?_ (by omega) _))); (first | done | fail))) (by ((repeat (first | (with_reducible assumption) | (with_reducible exact Gb.refl _) | (with_reducible refine Gb.call ?_ (by with_reducible assumption)) | (with_reducible refine Gb.alloc ?_ _) | (with_reducible refine Gb.drew ?_) | (with_reducible refine Gb.setCell ?_ (by omega) _))); (first | done | fail))) HK5.out rfl HNb.out (fun g hg => HLt2.out g hg)); obtain ⟨D5, d5, rfl, _, hr5, _⟩ := rs_ownn hown5; have HR5 := Lib.hid hr5; clear hown5 hg5 hr5)
        | fail))
    go_wp2_with fail
    go_ret
    exact ⟨rfl, HS7.out.out⟩
theorem walk (w : World) (b0 : Int) (hb0 : 0 ≤ b0 ∧ b0 ≤ 65535) (A0 : Option Addr) (c0 : Nat) (L0 : List Iv) (hL0 : L0.length ≤ 9223372036854775807) (hs0 : ∀ x ∈ L0, PrOk x) (hR0 : Rs w w.heap.size A0 (prCells L0)) (a1 : Int) (wa1 : (Lit.int .i64 a1).wf = true) :
    Calls Try.prog 7 #[.agg #[.int .u16 b0, .slice A0 L0.length c0], .int .i64 a1] w fun e w' => e = .returned (.bool true) ∧ Below w.heap.size w w' := by
  rcases (by omega : a1 < 0 ∨ 1048576 ≤ a1 ∨ (0 ≤ a1 ∧ a1 < 1048576)) with ha | ha | ha
  · exact walk_neg w b0 hb0 A0 c0 L0 hL0 hs0 hR0 a1 wa1 ha
  · exact walk_big w b0 hb0 A0 c0 L0 hL0 hs0 hR0 a1 wa1 ha
  · exact walk_ok w b0 hb0 A0 c0 L0 hL0 hs0 hR0 a1 wa1 ha
set_option maxRecDepth 100000 in
theorem lifted (os : Os) (started : os.Started) (H : Type) (enc : TypeId × Value → H) :
    ReturnsInHanded {} Try.checked os 7 .any (Rows.bitmapAddsSpec.pre6 enc Try.prog Try.f7 Rows.bitmapAddsRow.domain false) (Rows.bitmapAddsSpec.post enc Try.prog Try.f7 false true false false) := by
  refine returnsInHanded_of_change (C := Try.checked) own started (by kernel_rfl) Try.func7
    (ChangeSpec.witness6 (enc := enc) (C := Try.checked) false ⟨#[], #[.agg #[.int .u16 0, .slice none 0 0], .int .i64 0], []⟩ 8 (by kernel_rfl) (by kernel_rfl) (by kernel_rfl) (by kernel_rfl)) ?_
  intro W base args ds gs before hval0 hW _ _
  have hval : ∀ (j : Nat) t v, Try.f7.params[j]? = some t → args[j]? = some v → Value.okWide Try.prog W .any base t v := hval0
  have hW' := hW
  obtain ⟨p, q, hA0, hV, rfl, _, _⟩ := hW
  have hA : DataW.TrodAll enc Try.prog W 0 (fun _ => true) true Try.f7.params.toList args.toList ds p := hA0
  rw [Try.params7] at hA hval
  obtain ⟨v0, vs0, d0, ds0, p0, q0, hargs0, rfl, rfl, h0, r0⟩ := trodAll_cons hA
  obtain ⟨v1, vs1, d1, ds1, p1, q1, hargs1, rfl, rfl, h1, r1⟩ := trodAll_cons r0
  obtain ⟨rfl, rfl, rfl⟩ := trodAll_nil r1
  obtain rfl : args = #[v0, v1] := by cases args; simp_all
  obtain ⟨rfl, rfl⟩ := trodVars_none hV
  have lt0 : ∀ x ∈ p0, x.block < W.heap.size := fun x hx => hW'.lt x (by simp [hx])
  obtain ⟨b0, A0, c0, L0, rfl, hb0, hL0, hs0, hR0⟩ := open_set (hval 0 36 v0 rfl rfl) h0 lt0
  obtain ⟨a1, rfl, rfl, rfl, wa1⟩ := open_int Try.underlying3 (hval 1 3 v1 rfl rfl) h1
  clear hA0 hval0
  simp only [List.append_nil] at hW'
  refine (walk W b0 hb0 A0 c0 L0 hL0 hs0 hR0 a1 wa1).mono fun e W' ⟨he, hb⟩ => ?_
  subst he
  exact ⟨_, rfl, post_mem hW' hb (fun _ _ _ => trodAll_mk1 (shut_bool Try.underlying4 _)) (fun sp hsp => by
    have t := trodAll_cons_mk (carry laidOut (by kernel_rfl) (of_decide_eq_true (by kernel_rfl)) h0 hb lt0 sp (fun x hx => hsp x (by simp [hx]))) (trodAll_cons_mk (shut_int Try.underlying3 wa1) trodAll_mk0)
    simp only [List.append_nil] at t
    exact t) (fun _ => rfl) (ok_one (by kernel_rfl) rfl (okWide_bool_mk Try.underlying4 _))⟩

theorem proved : Rows.BitmapAddsSaid :=
  OpenClaim.holds_of_wide 7 Try.f7 rfl rfl rfl rfl rfl rfl rfl ⟨rfl, rfl, rfl, rfl, rfl⟩ rfl rfl rfl rfl rfl (by kernel_rfl) Try.func7 (by kernel_rfl)
    (of_decide_eq_true (by kernel_rfl)) (by unfold Func.isWrapper; first | (rw [if_pos (by decide +kernel)]; kernel_rfl) | (rw [if_neg (by decide +kernel)]; exact ⟨rfl, rfl⟩))
    (fun os started H enc _ => lifted os started H enc)

end Go.Proofs.Ytacgomhegjilgaa.lawAdds
