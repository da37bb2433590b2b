/- Plain facts: coarsening, growing, gaps. -/
import Derived.Test.YtkjpficpkpfkdaaTs
namespace Go.Proofs.Ytkjpficpkpfkdaa.Ts

/-- The cells of some intervals. -/
def cells (s : Int) (L : List Iv) : List Iv := L.map fun x => (x.1 / s, (x.2 - 1) / s + 1)
theorem cell_in {s : Int} (hs : 0 < s) (x : Iv) (hx : x.1 < x.2) (n : Int) : (x.1 / s ≤ n ∧ n < (x.2 - 1) / s + 1) ↔ ∃ m, x.1 ≤ m ∧ m < x.2 ∧ m / s = n := by
  constructor
  · rintro ⟨h1, h2⟩
    have a : x.1 < (n + 1) * s := (Int.ediv_lt_iff_lt_mul hs).1 (by omega)
    have b : n * s ≤ x.2 - 1 := (Int.le_ediv_iff_mul_le hs).1 (by omega)
    have e : (n + 1) * s = n * s + s := by rw [Int.add_mul, Int.one_mul]
    refine ⟨max x.1 (n * s), by omega, by omega, ?_⟩
    have c : n ≤ max x.1 (n * s) / s := (Int.le_ediv_iff_mul_le hs).2 (by omega)
    have d : max x.1 (n * s) / s < n + 1 := (Int.ediv_lt_iff_lt_mul hs).2 (by omega)
    omega
  · rintro ⟨m, h1, h2, h3⟩
    have a : x.1 / s ≤ m / s := Int.ediv_le_ediv hs h1
    have b : m / s ≤ (x.2 - 1) / s := Int.ediv_le_ediv hs (by omega)
    omega
theorem in_cells {s : Int} (hs : 0 < s) {L : List Iv} (hL : ∀ x ∈ L, x.1 < x.2) (n : Int) : In n (cells s L) ↔ ∃ m, In m L ∧ m / s = n := by
  constructor
  · rintro ⟨y, hy, h⟩
    obtain ⟨x, hx, rfl⟩ := List.mem_map.1 hy
    obtain ⟨m, a, b, c⟩ := (cell_in hs x (hL x hx) n).1 h
    exact ⟨m, ⟨x, hx, a, b⟩, c⟩
  · rintro ⟨m, ⟨x, hx, a, b⟩, c⟩
    exact ⟨_, List.mem_map.2 ⟨x, hx, rfl⟩, (cell_in hs x (hL x hx) n).2 ⟨m, a, b, c⟩⟩
theorem cells_ok {s : Int} (hs : 0 < s) {L : List Iv} (h : Nrm L) : (∀ x ∈ cells s L, x.1 < x.2) ∧ (cells s L).Pairwise (fun x y => x.1 ≤ y.1) := by
  refine ⟨fun y hy => ?_, ?_⟩
  · obtain ⟨x, hx, rfl⟩ := List.mem_map.1 hy
    have := Int.ediv_le_ediv hs (show x.1 ≤ x.2 - 1 by have := h.1 x hx; omega)
    dsimp only; omega
  · refine List.pairwise_map.2 ?_
    have hp : L.Pairwise (fun x y => x.1 ≤ y.1) := List.Pairwise.imp_of_mem (fun {x y} hx _ hxy => by have := h.1 x hx; omega) h.2
    exact hp.imp (fun {x y} hxy => Int.ediv_le_ediv hs hxy)
/-- The coarse set: the program joins, the reference makes the normal list. -/
def coarse (s : Int) (L : List Iv) : List Iv := (cells s L).foldl jn []
theorem coarse_spec {s : Int} (hs : 0 < s) {L : List Iv} (h : Nrm L) : Nrm (coarse s L) ∧ (∀ n, In n (coarse s L) ↔ ∃ m, In m L ∧ m / s = n) ∧ ofL (cells s L) = coarse s L := by
  obtain ⟨a, b⟩ := cells_ok hs h
  obtain ⟨c, d⟩ := fold_nrm a b
  exact ⟨c, fun n => (d n).trans (in_cells hs h.1 n), nrm_ext (ofL_spec _).1 c (fun n => ((ofL_spec _).2 n).trans (d n).symm)⟩
/-- One size after the other is their product. -/
theorem coarse_twice {s t : Int} (hs : 0 < s) (ht : 0 < t) {L : List Iv} (h : Nrm L) : coarse t (coarse s L) = coarse (s * t) L := by
  obtain ⟨a, b, _⟩ := coarse_spec hs h
  obtain ⟨c, d, _⟩ := coarse_spec ht a
  obtain ⟨e, f, _⟩ := coarse_spec (Int.mul_pos hs ht) h
  refine nrm_ext c e (fun n => ?_)
  rw [d n, f n]
  constructor
  · rintro ⟨m, hm, rfl⟩
    obtain ⟨k, hk, rfl⟩ := (b m).1 hm
    exact ⟨k, hk, (Int.ediv_ediv_of_nonneg (Int.le_of_lt hs)).symm⟩
  · rintro ⟨k, hk, rfl⟩
    exact ⟨k / s, (b _).2 ⟨k, hk, rfl⟩, Int.ediv_ediv_of_nonneg (Int.le_of_lt hs)⟩
/-- The coarse set of a union. -/
theorem coarse_union {s : Int} (hs : 0 < s) {A B C N : List Iv} (hA : Nrm A) (hB : Nrm B) (hC : Nrm C) (hu : ∀ n, In n C ↔ In n A ∨ In n B) (hN : Nrm N) (hn : ∀ n, In n N ↔ In n (coarse s A) ∨ In n (coarse s B)) : coarse s C = N := by
  obtain ⟨_, a, _⟩ := coarse_spec hs hA
  obtain ⟨_, b, _⟩ := coarse_spec hs hB
  obtain ⟨c, d, _⟩ := coarse_spec hs hC
  refine nrm_ext c hN (fun n => ?_)
  rw [d n, hn n, a n, b n]
  constructor
  · rintro ⟨m, hm, e⟩
    rcases (hu m).1 hm with h | h
    · exact Or.inl ⟨m, h, e⟩
    · exact Or.inr ⟨m, h, e⟩
  · rintro (⟨m, hm, e⟩ | ⟨m, hm, e⟩)
    · exact ⟨m, (hu m).2 (Or.inl hm), e⟩
    · exact ⟨m, (hu m).2 (Or.inr hm), e⟩
/-- Intervals with other bounds. -/
def moved (b a : Int) (L : List Iv) : List Iv := L.map fun x => (x.1 + b, x.2 + a)
theorem moved_ok {b a : Int} (hba : b ≤ a) {L : List Iv} (h : Nrm L) : (∀ x ∈ moved b a L, x.1 < x.2) ∧ (moved b a L).Pairwise (fun x y => x.1 ≤ y.1) := by
  refine ⟨fun y hy => ?_, ?_⟩
  · obtain ⟨x, hx, rfl⟩ := List.mem_map.1 hy
    have := h.1 x hx
    dsimp only; omega
  · refine List.pairwise_map.2 (List.Pairwise.imp_of_mem (fun {x y} hx _ hxy => ?_) h.2)
    have := h.1 x hx
    dsimp only; omega
def grown (b a : Int) (L : List Iv) : List Iv := (moved b a L).foldl jn []
theorem grown_spec {b a : Int} (hba : b ≤ a) {L : List Iv} (h : Nrm L) : Nrm (grown b a L) ∧ (∀ n, In n (grown b a L) ↔ In n (moved b a L)) ∧ ofL (moved b a L) = grown b a L := by
  obtain ⟨p, q⟩ := moved_ok hba h
  obtain ⟨c, d⟩ := fold_nrm p q
  exact ⟨c, d, nrm_ext (ofL_spec _).1 c (fun n => ((ofL_spec _).2 n).trans (d n).symm)⟩
/-- Moving by one number keeps a list normal. -/
theorem shifted_nrm (b : Int) {L : List Iv} (h : Nrm L) : Nrm (moved b b L) := by
  refine ⟨fun y hy => ?_, ?_⟩
  · obtain ⟨x, hx, rfl⟩ := List.mem_map.1 hy
    have := h.1 x hx
    dsimp only; omega
  · exact List.pairwise_map.2 (h.2.imp (fun {x y} hxy => by dsimp only; omega))
theorem shifted (b : Int) {L : List Iv} (h : Nrm L) : grown b b L = moved b b L :=
  nrm_ext (grown_spec (Int.le_refl _) h).1 (shifted_nrm b h) (grown_spec (Int.le_refl _) h).2.1
theorem shifted_back (b : Int) (L : List Iv) : moved (-b) (-b) (moved b b L) = L := by
  unfold moved
  rw [List.map_map]
  refine (List.map_congr_left (fun x _ => ?_)).trans (List.map_id L)
  exact Prod.ext (by show x.1 + b + -b = x.1; omega) (by show x.2 + b + -b = x.2; omega)
/-- What lies between the intervals: the reference's list. -/
def gapsL : List Iv → List Iv
  | [] => []
  | [_] => []
  | x :: y :: L => (x.2, y.1) :: gapsL (y :: L)
theorem gaps_spec (L : List Iv) (x : Iv) (h : Nrm (x :: L)) : Nrm (gapsL (x :: L)) ∧ (∀ z ∈ gapsL (x :: L), x.2 ≤ z.1) ∧ ∀ n, In n (gapsL (x :: L)) ↔ (x.1 ≤ n ∧ n < ((x :: L).getLast (by simp)).2 ∧ ¬ In n (x :: L)) := by
  induction L generalizing x with
  | nil =>
    have hx := h.tail.2.1
    refine ⟨Nrm.nil, fun z hz => absurd hz (by simp [gapsL]), fun n => ⟨fun h => absurd h In.nil, ?_⟩⟩
    rintro ⟨h1, h2, h3⟩
    exact absurd (In.one.2 ⟨h1, by simpa using h2⟩) h3
  | cons y L ih =>
    obtain ⟨hL, hx, hf⟩ := h.tail
    obtain ⟨a, b, c⟩ := ih y hL
    have hxy := hf y (List.mem_cons_self ..)
    have hy := hL.tail.2.1
    have hlast : (x :: y :: L).getLast (by simp) = (y :: L).getLast (by simp) := List.getLast_cons (by simp)
    have hend : y.2 ≤ ((y :: L).getLast (by simp)).2 := by
      rcases List.mem_cons.1 (List.getLast_mem (l := y :: L) (by simp)) with e | e
      · rw [e]; exact Int.le_refl _
      · have p := hL.tail.2.2 _ e
        have q := hL.tail.1.1 _ e
        omega
    refine ⟨⟨fun z hz => ?_, List.pairwise_cons.2 ⟨fun z hz => ?_, a.2⟩⟩, fun z hz => ?_, fun n => ?_⟩
    · rcases List.mem_cons.1 hz with rfl | hz
      · exact hxy
      · exact a.1 z hz
    · have := b z hz
      dsimp only; omega
    · rcases List.mem_cons.1 hz with rfl | hz
      · exact Int.le_refl _
      · have := b z hz; omega
    · show In n ((x.2, y.1) :: gapsL (y :: L)) ↔ _
      rw [In.cons, c n, hlast, In.cons (x := x)]
      dsimp only
      constructor
      · rintro (⟨h1, h2⟩ | ⟨h1, h2, h3⟩)
        · refine ⟨by omega, by omega, ?_⟩
          rintro (h | ⟨z, hz, h⟩)
          · omega
          · rcases List.mem_cons.1 hz with rfl | hz
            · omega
            · have := hL.tail.2.2 z hz; omega
        · refine ⟨by omega, h2, ?_⟩
          rintro (h | h)
          · omega
          · exact h3 h
      · rintro ⟨h1, h2, h3⟩
        by_cases hn : n < y.1
        · left
          refine ⟨?_, hn⟩
          rcases Int.lt_or_le n x.2 with h | h
          · exact absurd (Or.inl ⟨h1, h⟩) h3
          · exact h
        · exact Or.inr ⟨by omega, h2, fun h => h3 (Or.inr h)⟩
end Go.Proofs.Ytkjpficpkpfkdaa.Ts
