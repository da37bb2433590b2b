/- What is read where the form of a fragment stands, or of a trace; shortSpans. -/
import Derived.Test.YtepcihfkkeahhaaFd
import Derived.Test.YtepcihfkkeahhaaFe
namespace Go.Proofs.Ytepcihfkkeahhaa
open Go.ChangeShapes Go.WideShapes Go.ChangeAt Go.RowKit En

theorem at_exch {s : ByteArray} {p : Nat} {x : Ex} (hx : ExOk x) (h : Hs s p (exF x)) : rdexch s (p, 0) = (x, (p + (exF x).length, 0)) := by
  have e : exF x = num x.f ++ (num x.t ++ (num x.s ++ (num x.r ++ num x.m))) := by simp [exF, nums]
  rw [e] at h ⊢
  have h1 := at_num (hx x.f (by simp)) h.left
  have k1 := h.right
  have h2 := at_num (hx x.t (by simp)) k1.left
  have k2 := k1.right
  have h3 := at_num (hx x.s (by simp)) k2.left
  have k3 := k2.right
  have h4 := at_num (hx x.r (by simp)) k3.left
  have h5 := at_num (hx x.m (by simp)) k3.right
  unfold rdexch
  simp only [h1, h2, h3, h4, h5, if_true]
  congr 2
  simp only [List.length_append]
  omega
theorem spForms_map (L : List Sv) : spForms L = (L.map Prod.fst).flatMap Sp.form := by
  unfold spForms
  rw [List.flatMap_map]
  rfl
theorem at_spans {s : ByteArray} {p : Nat} (L : List Sv) (hL : L.length ≤ 4096) (hf : ∀ x ∈ L, x.1.Fit) (h : Hs s p (num (L.length : Int) ++ spForms L)) :
    rdList (rdspan s) s (p, 0) = (L.map Prod.fst, (p + (num (L.length : Int) ++ spForms L).length, 0)) := by
  rw [spForms_map] at h ⊢
  have e : (L.length : Int) = ((L.map Prod.fst).length : Int) := by rw [List.length_map]
  rw [e] at h ⊢
  exact at_list (f := rdspan) (form := Sp.form) (L.map Prod.fst) (fun a _ => form_pos a) (fun a ha q hq => by
    obtain ⟨x, hx, rfl⟩ := List.mem_map.1 ha
    exact at_span (hf x hx) hq) (by rw [List.length_map]; exact hL) h
theorem exF_pos (x : Ex) : 0 < (exF x).length := by
  have := num_ge1 x.f
  unfold exF nums
  rw [List.flatMap_cons, List.length_append]; omega
theorem at_frag {s : ByteArray} {p : Nat} {a q : Int} {L : List Sv} {M : List Ex} (ha : In64 a) (hq : In64 q) (hL : L.length ≤ 4096) (hf : ∀ x ∈ L, x.1.Fit) (hM : M.length ≤ 4096) (hex : ∀ x ∈ M, ExOk x) (h : Hs s p (fragF a q L M)) :
    rdfrag s (p, 0) = ((a, q, L.map Prod.fst, M), (p + (fragF a q L M).length, 0)) := by
  unfold fragF at h ⊢
  have h1 := at_num ha h.left
  have k1 := h.right
  have h2 := at_num hq k1.left
  have k2 := k1.right
  have h3 := at_spans L hL hf k2.left
  have h4 := at_list (f := rdexch) (form := exF) M (fun a _ => exF_pos a) (fun a ha q hq => at_exch (hex a ha) hq) hM k2.right
  have e4 : (num (M.length : Int) ++ M.flatMap exF).length = (num (M.length : Int) ++ exForms M).length := rfl
  rw [e4] at h4
  unfold rdfrag
  simp only [h1, h2, h3, h4]
  congr 2
  simp only [List.length_append]
  omega
theorem at_trace {s : ByteArray} {p : Nat} {a q : Int} {L : List Sv} (ha : In64 a) (hq : In64 q) (hL : L.length ≤ 4096) (hf : ∀ x ∈ L, x.1.Fit) (h : Hs s p (traceF a q L)) :
    rdtrace s (p, 0) = ((a, q, L.map Prod.fst), (p + (traceF a q L).length, 0)) := by
  unfold traceF at h ⊢
  have h1 := at_num ha h.left
  have k1 := h.right
  have h2 := at_num hq k1.left
  have h3 := at_spans L hL hf k1.right
  unfold rdtrace
  simp only [h1, h2, h3]
  congr 2
  simp only [List.length_append]
  omega
/-- A fragment whose lists lie in memory. -/
def Fr (w : World) (A : Option Addr) (L : List Sv) (A2 : Option Addr) (M : List Ex) : Prop :=
  (∀ x ∈ L, x.1.Has w w.heap.size x.2.1 x.2.2) ∧ Rs w w.heap.size A (spCells L) ∧ Rs w w.heap.size A2 (exCells M)
theorem Fr.below {w w' : World} {A A2 : Option Addr} {L : List Sv} {M : List Ex} (h : Fr w A L A2 M) (hb : Below w.heap.size w w') : Fr w' A L A2 M :=
  ⟨fun x hx => ((h.1 x hx).below hb).more hb.size, (h.2.1.below hb).more hb.size, (h.2.2.below hb).more hb.size⟩
theorem Fr.svs {w : World} {lo : Nat} {q A A2 : Option Addr} {L : List Sv} {M : List Ex} (h : SvsQ w lo q A L) (h2 : Rq w lo q A2 (exCells M)) : Fr w A L A2 M :=
  ⟨fun x hx => (h.2 x hx).has, h.1.rs, h2.rs⟩
theorem Fr.svs0 {w : World} {lo : Nat} {q A : Option Addr} {L : List Sv} (h : SvsQ w lo q A L) : Fr w A L none [] :=
  ⟨fun x hx => (h.2 x hx).has, h.1.rs, Rs.nil⟩
/-- What the laws ask of a fragment that is short. -/
structure FOk (L : List Sv) (M : List Ex) : Prop where
  hL : L.length ≤ 4096
  hF : (spForms L).length ≤ 40000
  hM : M.length ≤ 4096
  hG : (exForms M).length ≤ 200000
  fit : ∀ x ∈ L, x.1.Fit
  hex : ∀ x ∈ M, ExOk x
theorem At.form_short {a : At} (h1 : a.key.size ≤ 100) (h2 : a.text.size ≤ 100) (hk : In64 a.kind) (hn : In64 a.int) : a.form.length ≤ 240 := by
  have b1 := num_bounds (a.key.size : Int) (by omega) (by omega)
  have b2 := num_bounds (a.text.size : Int) (by omega) (by omega)
  have b3 := num_bounds a.kind hk.1 hk.2
  have b4 := num_bounds a.int hn.1 hn.2
  unfold At.form attrF valueF
  simp only [List.length_append, text_len]
  omega
theorem atForms_short (L : List At) (h : ∀ a ∈ L, a.form.length ≤ 240) : (atForms L).length ≤ 240 * L.length := by
  induction L with
  | nil => exact Nat.zero_le _
  | cons a L ih =>
    have h1 := h a (List.mem_cons_self ..)
    have h2 := ih (fun b hb => h b (List.mem_cons_of_mem _ hb))
    unfold atForms at h2 ⊢
    rw [List.flatMap_cons, List.length_append, List.length_cons]; omega
theorem Sp.form_short (s : Sp) (hi : s.Ints) (hs : s.Short) : s.form.length ≤ 3000 := by
  obtain ⟨i1, i2, i3, i4⟩ := hi
  obtain ⟨h1, h2, h3, h4, h5, h6⟩ := hs
  have b1 := atForms_short s.al (fun a ha => At.form_short (h6 a ha).1 (h6 a ha).2 (i3 a ha).1 (i3 a ha).2)
  have b2 := rfForms_len s.ls i4
  have c1 := nums_len _ i1
  have c2 := nums_len _ i2
  have d3 := num_bounds (s.sv.size : Int) (by omega) (by omega)
  have d4 := num_bounds (s.ve.size : Int) (by omega) (by omega)
  have d5 := num_bounds (s.op.size : Int) (by omega) (by omega)
  have c6 := boolF_bound s.er
  have c7 := num_bounds (s.al.length : Int) (by omega) (by omega)
  have c8 := num_bounds (s.ls.length : Int) (by omega) (by omega)
  unfold Sp.form
  simp only [List.length_append, List.length_cons, List.length_nil, text_len] at c1 c2 ⊢
  omega
theorem spForms_short (L : List Sv) (h : ∀ x ∈ L, x.1.form.length ≤ 3000) : (spForms L).length ≤ 3000 * L.length := by
  induction L with
  | nil => exact Nat.zero_le _
  | cons a L ih =>
    have h1 := h a (List.mem_cons_self ..)
    have h2 := ih (fun b hb => h b (List.mem_cons_of_mem _ hb))
    unfold spForms at h2 ⊢
    have e : (spF a).length = a.1.form.length := rfl
    rw [List.flatMap_cons, List.length_append, List.length_cons, e]; omega
theorem exForms_len (L : List Ex) (h : ∀ x ∈ L, ExOk x) : (exForms L).length ≤ 45 * L.length := by
  induction L with
  | nil => exact Nat.zero_le _
  | cons a L ih =>
    have h1 := nums_len _ (h a (List.mem_cons_self ..))
    have h2 := ih (fun b hb => h b (List.mem_cons_of_mem _ hb))
    unfold exForms at h2 ⊢
    have e : (exF a).length = (nums [a.f, a.t, a.s, a.r, a.m]).length := rfl
    simp only [List.length_cons, List.length_nil] at h1
    rw [List.flatMap_cons, List.length_append, List.length_cons, e]; omega
theorem FOk.of_short {L : List Sv} {M : List Ex} (hi : ∀ x ∈ L, x.1.Ints) (hx : ∀ x ∈ M, ExOk x) (hs : L.length ≤ 4 ∧ ∀ x ∈ L, x.1.Short) (hm : M.length ≤ 8) : FOk L M := by
  have h1 := spForms_short L (fun x h => x.1.form_short (hi x h) (hs.2 x h))
  have h2 := exForms_len M hx
  exact ⟨by omega, by omega, by omega, by omega, fun x h => (x.1.fit (hi x h) (hs.2 x h)).1, hx⟩
def ShortsPost (w : World) (L : List Sv) (e : Ending) (w' : World) : Prop := (∃ bl, e = .returned (.bool bl) ∧ (bl = true → L.length ≤ 4 ∧ ∀ x ∈ L, x.1.Short)) ∧ Below w.heap.size w w'
set_option maxRecDepth 100000 in
set_option maxHeartbeats 2000000 in
theorem shorts_any (L : List Sv) (hl : L.length ≤ 9223372036854775807) (hlim : ∀ x ∈ L, x.1.Lim) (A : Option Addr) (c : Nat) (w : World) (hH : ∀ x ∈ L, x.1.Has w w.heap.size x.2.1 x.2.2) (hR : Rs w w.heap.size A (spCells L)) :
    Calls Try.prog 29 #[.slice A L.length c] w (ShortsPost w L) := by
  have HH := Lib.hid hH
  have HR := Lib.hid hR
  have HL := Lib.hid hlim
  clear hH hR hlim
  by_cases hle : L.length ≤ 4
  · have hle' : (L.length : Int) ≤ 4 := by omega
    go_enter Try.func29, Try.ntmps29
    go_wp2_with fail
    go_loopw [3] (fun iv wr => ∃ j : Nat, j ≤ L.length ∧ iv = .int .i64 (j : Int) ∧ Hid (Below w.heap.size w wr) ∧ Hid (∀ q, q < j → ∀ h : q < L.length, (L[q]).1.Short)) (fun iv _ => L.length - (intOf iv).toNat)
    case atStart => exact ⟨0, Nat.zero_le _, rfl, Lib.hid (Below.refl _ _), Lib.hid (fun q hq => absurd hq (by omega))⟩
    case round =>
      obtain ⟨j, hj, rfl, HB, hall⟩ := hrel
      have hbs := HB.out.size
      by_cases hlt : j < L.length
      · obtain ⟨b, off, rfl, hb, hcs⟩ := rows_at (C := spC) (k := 14) (by decide) (fun _ => rfl) (HR.out.below HB.out) j hlt
        have hz := HL.out _ (List.getElem_mem hlt)
        have hh := ((HH.out _ (List.getElem_mem hlt)).below HB.out).more hbs
        obtain ⟨x, hx⟩ : ∃ x, x = L[j] := ⟨_, rfl⟩
        rw [← hx] at hcs hz hh
        have Hx := Lib.hid hx
        clear hx
        have h0 := hcs 0 (by decide)
        have h1 := hcs 1 (by decide)
        have h2 := hcs 2 (by decide)
        have h3 := hcs 3 (by decide)
        have h4 := hcs 4 (by decide)
        have h5 := hcs 5 (by decide)
        have h6 := hcs 6 (by decide)
        have h7 := hcs 7 (by decide)
        have h8 := hcs 8 (by decide)
        have h9 := hcs 9 (by decide)
        have h10 := hcs 10 (by decide)
        have h11 := hcs 11 (by decide)
        have h12 := hcs 12 (by decide)
        have h13 := hcs 13 (by decide)
        clear hcs
        obtain ⟨s, va, vl⟩ := x
        dsimp only at hz hh
        have hca := short_any s hz va vl wr hh
        have Hs' := Lib.hid (show (L[j]).1 = s by rw [← Hx.out])
        obtain ⟨A1, c1, A2, c2, rfl, rfl, r1, r2⟩ := hh
        obtain ⟨t, i, p, r, c0, k, sv, ve, op, st, en, er, al, ls⟩ := s
        clear r1 r2 hz Hx
        simp only [spC, Sp.cells, Nat.add_zero, List.getElem?_cons_succ, List.getElem?_cons_zero] at h0 h1 h2 h3 h4 h5 h6 h7 h8 h9 h10 h11 h12 h13
        unfold Sp.cells at hca
        dsimp only at hca
        go_wp2_with fail
        refine hca.mono ?_
        rintro e w4 ⟨⟨bl, rfl, hbl⟩, hb4⟩
        have HB4 := Lib.hid (HB.out.trans (hb4.mono hbs))
        clear hb4 hca
        cases bl with
        | false =>
          clear hbl
          go_wp2_with fail
          go_ret
          exact ⟨⟨false, rfl, fun h => nomatch h⟩, HB4.out⟩
        | true =>
          have Hbl := Lib.hid (hbl rfl)
          clear hbl
          go_wp2_with fail
          go_roundw
          case rel =>
            refine ⟨j + 1, by omega, by go_num, HB4, Lib.hid (fun q hq hql => ?_)⟩
            by_cases e : q = j
            · subst e; rw [Hs'.out]; exact Hbl.out
            · exact hall.out q (by omega) hql
          case measure => simp [intOf]; omega
      · go_wp2_with fail
        go_ret
        refine ⟨⟨true, rfl, fun _ => ⟨hle, fun x hx => ?_⟩⟩, HB.out⟩
        obtain ⟨q, hq, rfl⟩ := List.getElem_of_mem hx
        exact hall.out q (by omega) hq
  · have hle' : ¬ (L.length : Int) ≤ 4 := by omega
    go_enter Try.func29, Try.ntmps29
    go_wp2_with fail
    go_loopw [3] (fun iv wr => ∃ j : Nat, j ≤ L.length ∧ iv = .int .i64 (j : Int) ∧ Hid (Below w.heap.size w wr)) (fun iv _ => L.length - (intOf iv).toNat)
    case atStart => exact ⟨0, Nat.zero_le _, rfl, Lib.hid (Below.refl _ _)⟩
    case round =>
      obtain ⟨j, hj, rfl, HB⟩ := hrel
      have hbs := HB.out.size
      by_cases hlt : j < L.length
      · obtain ⟨b, off, rfl, hb, hcs⟩ := rows_at (C := spC) (k := 14) (by decide) (fun _ => rfl) (HR.out.below HB.out) j hlt
        have hz := HL.out _ (List.getElem_mem hlt)
        have hh := ((HH.out _ (List.getElem_mem hlt)).below HB.out).more hbs
        obtain ⟨x, hx⟩ : ∃ x, x = L[j] := ⟨_, rfl⟩
        rw [← hx] at hcs hz hh
        clear hx
        have h0 := hcs 0 (by decide)
        have h1 := hcs 1 (by decide)
        have h2 := hcs 2 (by decide)
        have h3 := hcs 3 (by decide)
        have h4 := hcs 4 (by decide)
        have h5 := hcs 5 (by decide)
        have h6 := hcs 6 (by decide)
        have h7 := hcs 7 (by decide)
        have h8 := hcs 8 (by decide)
        have h9 := hcs 9 (by decide)
        have h10 := hcs 10 (by decide)
        have h11 := hcs 11 (by decide)
        have h12 := hcs 12 (by decide)
        have h13 := hcs 13 (by decide)
        clear hcs
        obtain ⟨s, va, vl⟩ := x
        dsimp only at hz hh
        have hca := short_any s hz va vl wr hh
        obtain ⟨A1, c1, A2, c2, rfl, rfl, r1, r2⟩ := hh
        obtain ⟨t, i, p, r, c0, k, sv, ve, op, st, en, er, al, ls⟩ := s
        clear r1 r2 hz
        simp only [spC, Sp.cells, Nat.add_zero, List.getElem?_cons_succ, List.getElem?_cons_zero] at h0 h1 h2 h3 h4 h5 h6 h7 h8 h9 h10 h11 h12 h13
        unfold Sp.cells at hca
        dsimp only at hca
        go_wp2_with fail
        refine hca.mono ?_
        rintro e w4 ⟨⟨bl, rfl, hbl⟩, hb4⟩
        have HB4 := Lib.hid (HB.out.trans (hb4.mono hbs))
        clear hb4 hca hbl
        cases bl with
        | false =>
          go_wp2_with fail
          go_ret
          exact ⟨⟨false, rfl, fun h => nomatch h⟩, HB4.out⟩
        | true =>
          go_wp2_with fail
          go_roundw
          case rel => exact ⟨j + 1, by omega, by go_num, HB4⟩
          case measure => simp [intOf]; omega
      · go_wp2_with fail
        go_ret
        exact ⟨⟨false, by show Ending.returned (.bool (decide _)) = _; rw [decide_eq_false (show ¬ (L.length : Int) ≤ 4 by omega)], fun h => nomatch h⟩, HB.out⟩
end Go.Proofs.Ytepcihfkkeahhaa
