/- The strings of the full dictionary, plain. -/
import Derived.Test.YtoohphhfigiicaaJ
namespace Go.Proofs.Ytoohphhfigiicaa
open Dp

/-- String number i: two bytes. -/
def fS (i : Nat) : ByteArray := ⟨#[UInt8.ofNat (i / 64), UInt8.ofNat (i % 64)]⟩
def fX (e : Nat) : ByteArray := ⟨#[64, UInt8.ofNat e]⟩
def fL (k : Nat) : List ByteArray := (List.range k).map fS
theorem fL_len (k : Nat) : (fL k).length = k := by unfold fL; rw [List.length_map, List.length_range]
theorem fL_snoc (k : Nat) : fL (k + 1) = fL k ++ [fS k] := by unfold fL; rw [List.range_succ, List.map_append]; rfl
theorem fS_size (i : Nat) : (fS i).size = 2 := rfl
theorem fX_size (i : Nat) : (fX i).size = 2 := rfl
theorem two_lt {a b c d : UInt8} (h : a.toNat < c.toNat ∨ (a.toNat = c.toNat ∧ b.toNat < d.toNat)) : [a, b] < [c, d] := by
  rcases h with h | ⟨h1, h2⟩
  · exact List.Lex.rel (UInt8.lt_iff_toNat_lt.2 h)
  · rw [UInt8.toNat_inj.1 h1]
    exact List.Lex.cons (List.Lex.rel (UInt8.lt_iff_toNat_lt.2 h2))
theorem fS_lt {i j : Nat} (h : i < j) (hj : j < 4096) : bl (fS i) (fS j) = true := by
  rw [bl_iff]
  refine two_lt ?_
  rw [UInt8.toNat_ofNat', UInt8.toNat_ofNat', UInt8.toNat_ofNat', UInt8.toNat_ofNat']
  omega
theorem fX_gt {i e : Nat} (h : i < 4096) : bl (fS i) (fX e) = true := by
  rw [bl_iff]
  refine two_lt (Or.inl ?_)
  rw [UInt8.toNat_ofNat']
  show _ < 64
  omega
theorem fL_srt {k : Nat} (h : k ≤ 4096) : Srt (fL k) := by
  unfold fL Srt
  refine List.pairwise_map.2 (List.Pairwise.imp_of_mem (fun {a b} ha hb hab => fS_lt hab ?_) List.pairwise_lt_range)
  have := List.mem_range.1 hb; omega
theorem fL_size {k : Nat} : ∀ x ∈ fL k, x.size = 2 := fun x hx => by
  obtain ⟨i, _, rfl⟩ := List.mem_map.1 hx
  rfl
theorem long2 {L : List ByteArray} (h : ∀ x ∈ L, x.size = 2) : L.any long = false := List.any_eq_false.2 (fun x hx => by unfold long; rw [h x hx]; decide)
/-- The strings, some of them twice. -/
theorem full_twice (r : Nat) : bdE (fL 4096 ++ (fL 4096).take r) = 0 ∧ bdV (fL 4096 ++ (fL 4096).take r) = fL 4096 := by
  have e : bld (fL 4096 ++ (fL 4096).take r) = fL 4096 := srt_ext (bld_srt _) (fL_srt (Nat.le_refl _)) (fun x => by
    rw [bld_mem, List.mem_append]
    exact ⟨fun h => h.elim id List.mem_of_mem_take, Or.inl⟩)
  have hl := long2 (L := fL 4096 ++ (fL 4096).take r) (fun x hx => (List.mem_append.1 hx).elim (fL_size x) (fun h => fL_size x (List.mem_of_mem_take h)))
  have h0 : bdE (fL 4096 ++ (fL 4096).take r) = 0 := by
    unfold bdE
    rw [hl, e, fL_len]; rfl
  exact ⟨h0, by unfold bdV; rw [if_pos h0, e]⟩
theorem more_srt (e : Nat) : Srt (fL 4096 ++ [fX e]) := by
  refine List.pairwise_append.2 ⟨fL_srt (Nat.le_refl _), List.pairwise_singleton _ _, fun a ha b hb => ?_⟩
  rw [List.mem_singleton.1 hb]
  obtain ⟨i, hi, rfl⟩ := List.mem_map.1 ha
  exact fX_gt (List.mem_range.1 hi)
/-- One string more is too many. -/
theorem full_more (e : Nat) : bdE (fL 4096 ++ [fX e]) = 6 ∧ bdV (fL 4096 ++ [fX e]) = [] ∧ chk (fL 4096 ++ [fX e]) = 6 := by
  have hb := bld_self (more_srt e)
  have hlen : (fL 4096 ++ [fX e]).length = 4097 := by rw [List.length_append, fL_len]; rfl
  have hl := long2 (L := fL 4096 ++ [fX e]) (fun x hx => (List.mem_append.1 hx).elim (fL_size x) (fun h => by rw [List.mem_singleton.1 h]; rfl))
  have h6 : bdE (fL 4096 ++ [fX e]) = 6 := by
    unfold bdE
    rw [hl, hb, hlen]; rfl
  refine ⟨h6, ?_, ?_⟩
  · unfold bdV; rw [h6]; rfl
  · unfold chk; rw [hlen]; rfl
end Go.Proofs.Ytoohphhfigiicaa
