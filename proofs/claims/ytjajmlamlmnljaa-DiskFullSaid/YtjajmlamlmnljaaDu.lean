/- The names and bytes of the law of a full disk (written by wip/bin/gen_du26.py). -/
import Derived.Test.YtjajmlamlmnljaaDr
namespace Go.Proofs.Ytjajmlamlmnljaa
open Go.ChangeShapes Go.WideShapes Go.ChangeAt Go.RowKit Go.Joins Go.Maps Go.ChangeMaps Go.MapKept

theorem u8_info : (Try.prog.info? 5).map (fun i => (i.zero, i.size, i.bytes)) = some (some (Value.int .u8 0), 1, 1) := by kernel_rfl
theorem make_bytes (n : Nat) (hn : n ≤ 100000000) (w : World) :
    (Instr.makeSlice 59 (.int .i64 (n : Int)) (.int .i64 (n : Int))).run Try.prog w = .ok (.slice (some ⟨w.heap.size, 0, none⟩) n n) (w.alloc (.cells (List.replicate n (Value.int .u8 0)).toArray 5)) := by
  obtain ⟨i0, hi0, hz0, hz1, hz2⟩ := info_parts u8_info
  have h := run_make w 59 5 i0 _ Try.underlying59 hi0 hz0 .i64 .i64 n n (by omega) (Int.le_refl _) (by rw [hz2]; omega) (by omega)
  rw [Int.toNat_natCast, hz1, Nat.mul_one] at h
  rw [h]
  have e : madeCells (Value.cells (Value.int .u8 0)) n = (List.replicate n (Value.int .u8 0)).toArray := by
    have := toList_madeCells_one (Value.int .u8 0) n
    rw [← this]; rfl
  rw [e]
/-- Block g, made for n bytes, holds l and then zeros. -/
def By (w : World) (g n : Nat) (l : List UInt8) : Prop :=
  l.length ≤ n ∧ w.heap[g]? = some (.cells (l.map u8v ++ List.replicate (n - l.length) (Value.int .u8 0)).toArray 5 (0, 0))
theorem By.lt {w : World} {g n : Nat} {l : List UInt8} (h : By w g n l) : g < w.heap.size := (Array.getElem?_eq_some_iff.1 h.2).1
theorem By.drewN {w : World} {g n : Nat} {l : List UInt8} (h : By w g n l) (q : Nat) : By (w.drewN q) g n l := h
theorem By.cell {w : World} {g n : Nat} {l : List UInt8} (h : By w g n l) (k : Nat) (hk : k < n) : (∃ u, w.cell? ⟨g, k, none⟩ = some u) ∧ w.frozen? ⟨g, k, none⟩ = false := by
  refine ⟨⟨(l.map u8v ++ List.replicate (n - l.length) (Value.int .u8 0)).toArray[k]'(by have := h.1; simp; omega), ?_⟩, frozen_of_row w g k _ _ h.2⟩
  rw [cell_of_row w g k _ _ _ h.2, Array.getElem?_eq_getElem]
theorem By.put {w : World} {g n : Nat} {l : List UInt8} (h : By w g n l) (k : Nat) (hk : k = l.length) (hn : k < n) (b : UInt8) : By (w.setCell ⟨g, k, none⟩ (u8v b)) g n (l ++ [b]) := by
  refine ⟨by rw [List.length_append, List.length_singleton]; omega, ?_⟩
  have e : (w.setCell ⟨g, k, none⟩ (u8v b)).heap[g]? = some (.cells ((l.map u8v ++ List.replicate (n - l.length) (Value.int .u8 0)).toArray.setIfInBounds k (u8v b)) 5 (0, 0)) := by
    simp only [World.setCell, Array.getElem?_modify, h.2]; simp
  rw [e]
  congr 2
  have hr : n - l.length = (n - (l ++ [b]).length) + 1 := by rw [List.length_append, List.length_singleton]; omega
  rw [hr, List.replicate_succ, List.setIfInBounds_toArray]
  congr 1
  subst hk
  have : (l.map u8v).length = l.length := List.length_map _
  rw [List.set_append, if_neg (by omega), this, Nat.sub_self, List.set_cons_zero, List.map_append, List.append_assoc]
  rfl
theorem u8_cast (n : Nat) (h : n < 256) : u8v (UInt8.ofNat n) = .int .u8 (n : Int) := by
  unfold u8v
  congr 1
  rw [UInt8.toNat_ofNat']
  omega

theorem by_conv {w : World} {g n : Nat} {l : List UInt8} (h : By w g n l) (hl : l.length = n) : (convert 59 9 (.slice (some ⟨g, 0, none⟩) n n)).run Try.prog w = .ok (.string ⟨l.toArray⟩) w := by
  have := run_convert_bytes_back w 59 9 5 ⟨g, 0, none⟩ n l Try.underlying59 Try.underlying5 Try.underlying9 (fun j hj => by
    have hc := cell_of_row w g j _ _ _ h.2
    rw [add_flat, Nat.zero_add, hc, List.getElem?_toArray, List.getElem?_append_left (by rw [List.length_map]; exact hj), List.getElem?_map, List.getElem?_eq_getElem hj]
    rfl)
  rw [hl] at this
  exact this
def kg : ByteArray := ⟨#[103]⟩
def fnm (i : Nat) : ByteArray := ⟨#[102, UInt8.ofNat (97 + i / 16), UInt8.ofNat (97 + i % 16)]⟩
theorem fnm_inj {i j : Nat} (hi : i < 256) (hj : j < 256) (h : fnm i = fnm j) : i = j := by
  have h := congrArg (fun b : ByteArray => b.data.toList) h
  simp only [fnm, List.cons.injEq, and_true, true_and] at h
  obtain ⟨h1, h2⟩ := h
  have e1 := congrArg UInt8.toNat h1
  have e2 := congrArg UInt8.toNat h2
  simp only [UInt8.toNat_ofNat'] at e1 e2
  omega
theorem nm_f (i : Nat) (hi : i < 256) : nmK (fnm i) = true := by
  have h : ∀ i : Fin 256, nmK (fnm i.1) = true := by decide +kernel
  exact h ⟨i, hi⟩
theorem nm_g : nmK kg = true := by decide
theorem ne_g (i : Nat) : kg ≠ fnm i := fun h => by
  have h := congrArg (fun b : ByteArray => b.data.toList) h
  simp [fnm, kg] at h
/-- The disk holds the first i names, each without bytes. -/
structure Fi (i : Nat) (L : List (Ct Fl)) : Prop where
  len : L.length = i
  has : ∀ x, hs L x ↔ ∃ j, j < i ∧ x = fnm j
  us : usF L = 0
theorem fi_zero : Fi 0 [] := ⟨rfl, fun x => by simp [hs], rfl⟩
theorem Fi.no {i : Nat} {L : List (Ct Fl)} (h : Fi i L) (hi : i < 256) : ¬ hs L (fnm i) := fun hh => by
  obtain ⟨j, hj, e⟩ := (h.has _).1 hh
  have := fnm_inj hi (by omega) e
  omega
theorem Fi.next {i : Nat} {L : List (Ct Fl)} (h : Fi i L) (hS : Sd L) (hi : i < 256) (r : Rw) (bs : List UInt8) (hr : r.n = 0) : Fi (i + 1) (pt L (fnm i) (r, bs)) := by
  have hn := h.no hi
  refine ⟨by rw [len_pt hS, if_neg hn, h.len], fun x => ?_, ?_⟩
  · rw [hs_pt, h.has]
    constructor
    · rintro (rfl | ⟨j, hj, rfl⟩)
      · exact ⟨i, by omega, rfl⟩
      · exact ⟨j, by omega, rfl⟩
    · rintro ⟨j, hj, rfl⟩
      by_cases e : j = i
      · exact .inl (by rw [e])
      · exact .inr ⟨j, by omega, rfl⟩
  · have : sv (fun f : Fl => f.1.n) (pt L (fnm i) (r, bs)) + 0 = sv (fun f : Fl => f.1.n) L + r.n := by
      have := sv_pt hS (fun f : Fl => f.1.n) (fnm i) (r, bs)
      rw [if_neg hn] at this
      exact this
    have hu : sv (fun f : Fl => f.1.n) L = 0 := h.us
    show sv (fun f : Fl => f.1.n) _ = 0
    omega
theorem app_fail (B p : Nat) (c : Int) (m : Option Nat) (L : List (Ct Fl)) (hc0 : 0 ≤ c ∧ c ≤ 100000000) (hL : L.length ≤ 1000) (hu : usF L ≤ 100000000) (k : ByteArray) (hkz : k.size ≤ 1000) (data : ByteArray) (hdz : data.size ≤ 1000) (code : Int) (hz : ap0 (Up c m L) k data = code) (hne : code ≠ 0)
    (w0 w : World) (hB : B ≤ w0.heap.size) (hb : Below B w0 w) (hD : Dk w B p (Up c m L)) :
    Calls Try.prog 24 #[.pointer (some ⟨p, 0, none⟩), .string k, .string data] w fun e w' => e = .returned (.int .i64 code) ∧ Dk w' B p (Up c m L) ∧ Below B w0 w' ∧ Tn (fun i => (Up c m L).ft p i) w w' := by
  refine (append_any B p (Up c m L) (show (0 : Int) ≤ 0 ∧ (0 : Int) ≤ 9223372036854775807 from by decide) (Nat.le_trans hL (by decide)) hu hc0 k (Nat.le_trans hkz (by decide)) data (Nat.le_trans hdz (by decide)) w (Nat.le_trans hB hb.size) hD).mono ?_
  rintro e w' ⟨rfl, ⟨S', hD', hA, _⟩, hT⟩
  have hn : ¬ ap0 (Up c m L) k data = 0 := by rw [hz]; exact hne
  unfold ApR at hA
  rw [if_neg hn] at hA
  subst hA
  exact ⟨by unfold apE; rw [if_neg hn, hz], hD', hT.below hb (fun i hi => (hD.ft_lt hi).1) hB, hT⟩
theorem rm_step (B p : Nat) (c : Int) (m : Option Nat) (L : List (Ct Fl)) (k : ByteArray) (hkz : k.size ≤ 1000) (hk : nmK k = true) (hh : hs L k)
    (w0 w : World) (hB : B ≤ w0.heap.size) (hb : Below B w0 w) (hD : Dk w B p (Up c m L)) :
    Calls Try.prog 26 #[.pointer (some ⟨p, 0, none⟩), .string k] w fun e w' => e = .returned (.int .i64 0) ∧ Dk w' B p (Up c m (dl L k)) ∧ Below B w0 w' := by
  have hf := fn_good (S := Up c m L) rfl hk hh
  have hg : bgE (Up c m L) [k] k = (Up c m L, (gt L k).1, 0) := by
    unfold bgE; rw [hf, if_pos rfl]; rfl
  have hy : rmS (Up c m L) k = (Up c m (dl L k), 0) := by
    unfold rmS; rw [hg, if_pos rfl]
  refine (remove_any B p (Up c m L) (show (0 : Int) ≤ 0 ∧ (0 : Int) ≤ 9223372036854775807 from by decide) k (Nat.le_trans hkz (by decide)) w hD).mono ?_
  rintro e w' ⟨rfl, hD', hT⟩
  rw [hy] at hD'
  exact ⟨by rw [hy], hD', hT.below hb (fun i hi => (hD.ft_lt (hi.elim .inl fun h => .inr (.inl h))).1) hB⟩
theorem fnm_conv (j : Nat) (hj : j < 256) (w : World) : (convert 59 9 (.slice (some ⟨w.heap.size, 0, none⟩) 3 3)).run Try.prog (w.alloc (.cells #[.int .u8 102, .int .u8 (97 + (j : Int) / 16), .int .u8 (97 + (j : Int) % 16)] 5)) = .ok (.string (fnm j)) (w.alloc (.cells #[.int .u8 102, .int .u8 (97 + (j : Int) / 16), .int .u8 (97 + (j : Int) % 16)] 5)) := by
  have e1 : u8v (UInt8.ofNat (97 + j / 16)) = .int .u8 (97 + (j : Int) / 16) := by rw [u8_cast _ (by omega)]; congr 1
  have e2 : u8v (UInt8.ofNat (97 + j % 16)) = .int .u8 (97 + (j : Int) % 16) := by rw [u8_cast _ (by omega)]; congr 1
  refine by_conv (n := 3) (l := [102, UInt8.ofNat (97 + j / 16), UInt8.ofNat (97 + j % 16)]) ⟨Nat.le_refl _, ?_⟩ rfl
  rw [Deep.blk_alloc_new, ← e1, ← e2]
  rfl
theorem us_zero {L : List (Ct Fl)} : usF L = 0 ↔ ∀ x ∈ L, x.2.1.n = 0 := by
  unfold usF sv
  induction L with
  | nil => simp
  | cons p L ih => rw [List.map_cons, List.sum_cons, List.forall_mem_cons, ← ih]; exact Nat.add_eq_zero_iff
theorem Fi.gt0 {i : Nat} {L : List (Ct Fl)} (h : Fi i L) (k : ByteArray) : (gt L k).1.n = 0 := by
  by_cases hh : hs L k
  · exact us_zero.1 h.us _ (gt_in hh)
  · rw [gt_none hh]; rfl
/-- The disk behind the bytes of the first name. -/
theorem Fi.full {L : List (Ct Fl)} (h : Fi 256 L) (hS : Sd L) (r : Rw) (bs : List UInt8) : (pt L (fnm 0) (r, bs)).length = 256 ∧ usF (pt L (fnm 0) (r, bs)) = r.n ∧ hs (pt L (fnm 0) (r, bs)) (fnm 0) ∧ hs (pt L (fnm 0) (r, bs)) (fnm 1) ∧ (dl (pt L (fnm 0) (r, bs)) (fnm 0)).length = 255 ∧ usF (dl (pt L (fnm 0) (r, bs)) (fnm 0)) = 0 := by
  have h0 : hs L (fnm 0) := (h.has _).2 ⟨0, by omega, rfl⟩
  have h1 : hs L (fnm 1) := (h.has _).2 ⟨1, by omega, rfl⟩
  have hl : (pt L (fnm 0) (r, bs)).length = 256 := by rw [len_pt hS, if_pos h0, h.len]
  have hh : hs (pt L (fnm 0) (r, bs)) (fnm 0) := (hs_pt _ _ _ _).2 (.inl rfl)
  refine ⟨hl, ?_, hh, (hs_pt _ _ _ _).2 (.inr h1), ?_, ?_⟩
  · have : sv (fun f : Fl => f.1.n) (pt L (fnm 0) (r, bs)) + (gt L (fnm 0)).1.n = sv (fun f : Fl => f.1.n) L + r.n := by
      have := sv_pt hS (fun f : Fl => f.1.n) (fnm 0) (r, bs)
      rw [if_pos h0] at this
      exact this
    rw [h.gt0] at this
    have hu : sv (fun f : Fl => f.1.n) L = 0 := h.us
    show sv (fun f : Fl => f.1.n) _ = _
    omega
  · have := len_dl (sd_pt hS (fnm 0) (r, bs)) (fnm 0)
    rw [if_pos hh, hl] at this
    omega
  · refine us_zero.2 fun x hx => ?_
    obtain ⟨hx, hne⟩ := mem_dl.1 hx
    rcases mem_pt hx with rfl | ⟨hx, _⟩
    · exact absurd rfl hne
    · exact us_zero.1 h.us x hx
theorem Fi.no_g {i : Nat} {L : List (Ct Fl)} (h : Fi i L) : ¬ hs L kg := fun hh => by
  obtain ⟨j, _, e⟩ := (h.has _).1 hh
  exact ne_g j e
theorem ap_six {L : List (Ct Fl)} (h : Fi 256 L) (c : Int) (m : Option Nat) : ap0 (Up c m L) kg ⟨#[]⟩ = 6 := by
  unfold ap0
  rw [if_pos (ck_good nm_g), if_pos ⟨h.no_g, by show 256 ≤ L.length; rw [h.len]; exact Nat.le_refl _⟩]
theorem ap_28 {L : List (Ct Fl)} {k data : ByteArray} (hk : nmK k = true) (hh : hs L k) (c : Int) (m : Option Nat) (hc : c - (usF L : Int) < (data.size : Int)) : ap0 (Up c m L) k data = 28 := by
  unfold ap0
  rw [if_pos (ck_good hk), if_neg (fun h => h.1 hh), if_pos hc]
theorem cap_law (n : Nat) (hn : n ≤ 255) (w : World) : Calls Try.prog 15 #[.int .u8 (n : Int)] w fun e w' => e = .returned (.int .i64 ((20 + n : Nat) : Int)) ∧ w' = w := by
  have h1 : IntKind.i64.wrap (n : Int) = (n : Int) := by simp only [IntKind.wrap_i64]; omega
  have h2 : IntKind.i64.wrap (20 + (n : Int)) = ((20 + n : Nat) : Int) := by simp only [IntKind.wrap_i64]; omega
  go_enter Try.func15, Try.ntmps15
  go_wp2_with fail
  go_ret
  exact ⟨by first | rfl | (simp only [h1, h2]; done) | (simp; done), rfl⟩
end Go.Proofs.Ytjajmlamlmnljaa
