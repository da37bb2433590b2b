/- Which blocks a disk has behind an operation; the names of the law. -/
import Derived.Test.YtjajmlamlmnljaaDv
namespace Go.Proofs.Ytjajmlamlmnljaa
open Go.ChangeShapes Go.WideShapes Go.ChangeAt Go.RowKit Go.Joins Go.Maps Go.ChangeMaps Go.MapKept

theorem ft_of {S S' : Ds} {p : Nat} (hm : S'.mp = S.mp) (hf : ∀ x ∈ S'.fs, ∃ y ∈ S.fs, x.2.1.A = y.2.1.A) (i : Nat) (h : S'.ft p i) : S.ft p i := by
  rcases h with h | h | ⟨x, hx, h⟩
  · exact .inl h
  · exact .inr (.inl (hm ▸ h))
  · obtain ⟨y, hy, e⟩ := hf x hx
    exact .inr (.inr ⟨y, hy, e ▸ h⟩)
theorem ft_op (S : Ds) (p i : Nat) (h : (opS S).1.ft p i) : S.ft p i :=
  ft_of (opS_mp S).1 (fun x hx => ⟨x, (opS_mp S).2.1 ▸ hx, rfl⟩) i h
theorem ft_bg (S : Ds) (ns : List ByteArray) (k : ByteArray) (p i : Nat) (h : (bgE S ns k).1.ft p i) : S.ft p i :=
  ft_of (bg_mp S ns k).1 (fun x hx => ⟨x, (bg_mp S ns k).2.1 ▸ hx, rfl⟩) i h
theorem ft_sync (S : Ds) (k : ByteArray) (p i : Nat) (h : (syS S k).1.ft p i) : S.ft p i := by
  unfold syS at h
  split at h
  · rename_i h0
    have hh := (bg_ok h0).1
    refine ft_of (S' := { (bgE S [k] k).1 with fs := sySL S.fs k }) (bg_mp S [k] k).1 (fun x hx => ?_) i h
    rcases mem_pt hx with rfl | ⟨hx, _⟩
    · exact ⟨_, gt_in hh, rfl⟩
    · exact ⟨x, hx, rfl⟩
  · exact ft_bg S [k] k p i h
theorem ft_remove (S : Ds) (k : ByteArray) (p i : Nat) (h : (rmS S k).1.ft p i) : S.ft p i := by
  unfold rmS at h
  split at h
  · exact ft_of (S' := { (bgE S [k] k).1 with fs := dl S.fs k }) (bg_mp S [k] k).1 (fun x hx => ⟨x, (mem_dl.1 hx).1, rfl⟩) i h
  · exact ft_bg S [k] k p i h
theorem ft_rename (S : Ds) (k k2 : ByteArray) (p i : Nat) (h : (rnS S k k2).1.ft p i) : S.ft p i := by
  unfold rnS at h
  split at h
  · rename_i h0
    have hh := (bg_ok h0).1
    refine ft_of (S' := { (bgE S [k, k2] k).1 with fs := rnL S.fs k k2 }) (bg_mp S [k, k2] k).1 (fun x hx => ?_) i h
    rcases mem_pt hx with rfl | ⟨hx, _⟩
    · exact ⟨_, gt_in hh, rfl⟩
    · exact ⟨x, (mem_dl.1 hx).1, rfl⟩
  · exact ft_bg S [k, k2] k p i h
theorem ft_start (S : Ds) (sc : List Int) (p i : Nat) (h : (stS S sc).ft p i) : S.ft p i := by
  unfold stS at h
  split at h
  · refine ft_of (S := S) (S' := ⟨S.cap, false, false, 0, S.mp, stF S.fs sc⟩) rfl (fun x hx => ?_) i h
    have key : ∀ (L : List (Ct Fl)) (sc : List Int), ∀ x ∈ stF L sc, ∃ y ∈ L, x.2.1.A = y.2.1.A := by
      intro L
      induction L with
      | nil => intro sc x hx; simp [stF] at hx
      | cons q L ih =>
        intro sc x hx
        rw [stF] at hx
        split at hx
        · obtain ⟨y, hy, e⟩ := ih sc x hx
          exact ⟨y, List.mem_cons_of_mem _ hy, e⟩
        · split at hx
          · rcases List.mem_cons.1 hx with rfl | hx
            · exact ⟨q, List.mem_cons_self, rfl⟩
            · obtain ⟨y, hy, e⟩ := ih sc.tail x hx
              exact ⟨y, List.mem_cons_of_mem _ hy, e⟩
          · rcases List.mem_cons.1 hx with rfl | hx
            · exact ⟨_, List.mem_cons_self, rfl⟩
            · obtain ⟨y, hy, e⟩ := ih sc x hx
              exact ⟨y, List.mem_cons_of_mem _ hy, e⟩
    exact key _ _ x hx
  · exact h
/-- The names of the law; the sixth is none. -/
def nml : Nat → ByteArray
  | 0 => ⟨#[97]⟩ | 1 => ⟨#[98]⟩ | 2 => ⟨#[99]⟩ | 3 => ⟨#[119, 97, 108, 46, 49]⟩ | 4 => ⟨#[119, 97, 108, 46, 50]⟩ | 5 => ⟨#[120, 32, 121]⟩ | 6 => ⟨#[100]⟩ | _ => ⟨#[101]⟩
theorem nml_size (m : Nat) : (nml m).size ≤ 5 := by
  rcases m with _ | _ | _ | _ | _ | _ | _ | _ <;> first | decide | (show (1 : Nat) ≤ 5; decide)
set_option maxRecDepth 100000 in
theorem name_law (n : Nat) (w : World) : Calls Try.prog 23 #[.int .u8 (n : Int)] w fun e w' => e = .returned (.string (nml (n % 8))) ∧ Below w.heap.size w w' := by
  obtain ⟨m, hm⟩ : ∃ m, m = n % 8 := ⟨_, rfl⟩
  have hm8 : m < 8 := by omega
  have hmi : (n : Int) % 8 = (m : Int) := by omega
  have hmI : (m : Int) < 8 := by omega
  have hm0 : (0 : Int) ≤ (m : Int) := by omega
  rw [← hm]
  clear hm
  go_enter Try.func23, Try.ntmps23
  go_wp2_with fail
  go_ret
  refine ⟨?_, (Below.refl _ _).alloc (Nat.le_refl _) _⟩
  clear hmi hmI hm0
  rcases m with _ | _ | _ | _ | _ | _ | _ | _ | m
  all_goals first | rfl | (exfalso; omega)
end Go.Proofs.Ytjajmlamlmnljaa
