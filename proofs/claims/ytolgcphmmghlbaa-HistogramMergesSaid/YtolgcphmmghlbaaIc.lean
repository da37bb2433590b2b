/- Values of two lists together; append as a step behind a guard. -/
import Derived.Test.YtolgcphmmghlbaaIa
import Derived.Test.YtolgcphmmghlbaaHk
import Derived.Test.YtolgcphmmghlbaaHm
import Derived.Test.YtolgcphmmghlbaaHv
namespace Go.Proofs.Ytolgcphmmghlbaa
open Go.ChangeShapes Go.WideShapes Go.ChangeAt Go.RowKit Go.Joins
section
variable {P : Program} {w : World}
theorem step_append_mw {ops : Array Oper} {o : Oper} {a : Act} {K : Act → World → Prop} {Q : Exit → Act → World → Prop} {E : Prop} (hw : Region.wanted o (yielded ops a.tmps) = true) (s x : Operand) (t : TypeId)
    (ho : o.op = .call { callee := .builtin .append, args := #[s, x], argTypes := #[t, t] })
    (base : Nat) (e : TypeId) (i : TypeInfo) (z : Value) (bytes : Nat) (ht : P.underlying t = some (.slice e)) (hi : P.info? e = some i) (hz : i.zero = some z)
    (hsize : i.size = 1) (hby : i.bytes = bytes) (hzs : z.cells.size = 1)
    (v : Value) (n : Nat) (xs : List Value) (hs : a.eval s = v) (hown : w.ownsRow base e 1 v n xs)
    (ao : Option Addr) (m c : Nat) (hx : a.eval x = .slice ao m c) (news : List Value) (hl : news.length = m) (hnone : ao = none → m = 0 ∧ c = 0) (hnews : ∀ ad, ao = some ad → ∀ j u, news[j]? = some u → w.cell? (ad.add j) = some u) (h1 : ∀ u ∈ news, u.oneCell' = true)
    (hn : n + m ≤ 1000000) (hb : bytes ≤ 1000000) (hbase : base ≤ w.heap.size)
    (h : ∀ v' w', w'.ownsRow base e 1 v' (n + m) (xs ++ news) → w.grownBy w' v.ownBlock → K (a.put o.dst v') w') :
    if Region.wanted o (yielded ops a.tmps) = true then Oper.wp P o a w K Q else E := by
  rw [if_pos hw]
  cases ao with
  | some ad =>
    refine wp_append_own w s x t ho base e i z 1 bytes ht hi hz hsize hby hzs (by omega) v n xs hs hown ad m c news hx (by omega) (hnews ad rfl) h1 (by unfold maxLen; omega) ?_ hbase (fun v' w' h2 h3 _ => h v' w' h2 h3)
    have := Nat.mul_le_mul (show n + m ≤ 1000000 by omega) hb
    omega
  | none =>
    obtain ⟨rfl, rfl⟩ := hnone rfl
    obtain rfl : news = [] := List.eq_nil_of_length_eq_zero hl
    have hrun := run_append_owned_none (P := P) (w := w) base t o.type e i 1 ht hi v n xs hown
    unfold Oper.wp
    simp [execOp, ho, resolve, invoke, builtin, hs, hx, hrun, Result.andThen]
    exact h v w (by simpa using hown) ⟨rfl, rfl, rfl, Nat.le_refl _, fun _ _ _ => rfl⟩
end
theorem own_below {w w' : World} {base e n : Nat} {v : Value} {xs : List Value} (h : w.ownsRow base e 1 v n xs) (hb : Below w.heap.size w w') : w'.ownsRow base e 1 v n xs :=
  World.ownsRow.kept (row := none) h ⟨hb.os, hb.tape, hb.output, hb.size, fun k hk _ => hb.block k hk⟩ (Classical.em _)
theorem own_base {w : World} {B B' : Nat} {e n k : Nat} {v : Value} {xs : List Value} (h : w.ownsRow B e k v n xs) (hle : B' ≤ B) : w.ownsRow B' e k v n xs := by
  refine ⟨h.1, ?_⟩
  rcases h.2 with h | ⟨g, cap, cur, hv, hb, h⟩
  · exact .inl h
  · exact .inr ⟨g, cap, cur, hv, by omega, h⟩
theorem own_none {w : World} {B : Nat} {e n c : Nat} {A : Option Addr} {xs : List Value} (h : w.ownsRow B e 1 (.slice A n c) n xs) : A = none → n = 0 ∧ c = 0 := by
  rintro rfl
  rcases h.2 with ⟨hv, h0⟩ | ⟨g, cap, cur, hv, _⟩
  · injection hv with h1 h2 h3; exact ⟨h2, h3⟩
  · injection hv with h1; cases h1
theorem rd_news {w : World} {A : Option Addr} {L : List Int} (h : Rd (Value.int .i64) w A L) (ad : Addr) (e : A = some ad) : ∀ j u, (L.map (Value.int .i64))[j]? = some u → w.cell? (ad.add j) = some u := by
  intro j u hu
  rw [List.getElem?_map] at hu
  obtain ⟨x, hx, rfl⟩ := Option.map_eq_some_iff.1 hu
  obtain ⟨hk, rfl⟩ := List.getElem?_eq_some_iff.1 hx
  obtain ⟨b, off, e2, hb, hc⟩ := h j hk
  rw [e] at e2
  injection e2 with e2
  subst e2
  rw [add_flat]
  exact hc
theorem ints_one (L : List Int) : ∀ u ∈ L.map (Value.int .i64), u.oneCell' = true := by
  intro u hu
  obtain ⟨x, _, rfl⟩ := List.mem_map.1 hu
  rfl
/-- The counts of values of two lists are added. -/
theorem cvN_take (L : List Int) (K : List Int) (j : Nat) (hj : j ≤ L.length) : cvN (L ++ K) j = cvN L j := by
  induction j with
  | zero => rfl
  | succ j ih =>
    have e : (L ++ K).getD j 0 = L.getD j 0 := by
      simp [List.getD, List.getElem?_append_left (show j < L.length by omega)]
    show List.set _ _ _ = List.set _ _ _
    rw [e, ih (by omega)]
theorem cvN_more (L K : List Int) (hV : ∀ x ∈ K, Vl x) (j : Nat) (hj : j ≤ K.length) (n : Nat) : (cvN (L ++ K) (L.length + j)).getD n 0 = (cvN L L.length).getD n 0 + (cvN K j).getD n 0 := by
  induction j generalizing n with
  | zero =>
    rw [show L.length + 0 = L.length from rfl, cvN_take L K _ (Nat.le_refl _), show (cvN K 0).getD n 0 = 0 from rep_get 305 n]
    omega
  | succ j ih =>
    have hlt : j < K.length := by omega
    have e : (L ++ K).getD (L.length + j) 0 = K.getD j 0 := by
      have : (L ++ K)[L.length + j]? = K[j]? := by rw [List.getElem?_append_right (by omega)]; congr 1; omega
      simp only [List.getD, this]
    have hv := hV _ (List.getElem_mem hlt)
    have e2 : K.getD j 0 = K[j] := by simp [List.getD, List.getElem?_eq_getElem hlt]
    have h5 := ix_lt (K.getD j 0).toNat (by rw [e2]; have := hv.2; omega)
    have hS : cvN (L ++ K) (L.length + (j + 1)) = (cvN (L ++ K) (L.length + j)).set (ix ((L ++ K).getD (L.length + j) 0).toNat) ((cvN (L ++ K) (L.length + j)).getD (ix ((L ++ K).getD (L.length + j) 0).toNat) 0 + 1) := rfl
    rw [hS]
    show (List.set _ _ _).getD n 0 = _ + (List.set _ _ _).getD n 0
    rw [e, getD_set_int, getD_set_int, cvN_len, cvN_len, ih (by omega), ih (by omega)]
    by_cases h : ix (K.getD j 0).toNat = n
    · subst h
      rw [if_pos ⟨rfl, h5⟩, if_pos ⟨rfl, h5⟩]
      omega
    · rw [if_neg (fun y => h y.1), if_neg (fun y => h y.1)]
theorem cvN_app (L K : List Int) (hV : ∀ x ∈ K, Vl x) : cvN (L ++ K) (L ++ K).length = mgC (cvN L L.length) (cvN K K.length) := by
  refine list_ext_get _ _ ((cvN_len _ _).trans ((opL_len _ _ _ _).trans (cvN_len _ _)).symm) (fun i _ => ?_)
  rw [List.length_append, cvN_more L K hV _ (Nat.le_refl _), mgC_get _ _ (cvN_len _ _) (cvN_len _ _)]
theorem mgC_comm {cv dv : List Int} (hc : Cv cv) (hd : Cv dv) : mgC dv cv = mgC cv dv := by
  refine list_ext_get _ _ (((opL_len _ _ _ _).trans hd.len).trans ((opL_len _ _ _ _).trans hc.len).symm) (fun i _ => ?_)
  rw [mgC_get _ _ hd.len hc.len, mgC_get _ _ hc.len hd.len]; omega
theorem sb_mg {cv dv : List Int} (hc : Cv cv) (hd : Cv dv) : sbC (mgC cv dv) cv = dv := by
  have hl : (mgC cv dv).length = 305 := (opL_len _ _ _ _).trans hc.len
  refine list_ext_get _ _ (((opL_len _ _ _ _).trans hl).trans hd.len.symm) (fun i _ => ?_)
  rw [sbC_get _ _ hl hc.len, mgC_get _ _ hc.len hd.len]; omega
end Go.Proofs.Ytolgcphmmghlbaa
