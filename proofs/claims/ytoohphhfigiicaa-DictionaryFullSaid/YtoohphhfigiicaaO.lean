/- Size, Encode. -/
import Derived.Test.YtoohphhfigiicaaN
import Derived.Lib.BufferWrite
import Derived.Laws.CopyOwn
import Derived.Laws.BitsAllLaws
import Derived.Laws.IdiomStrings
namespace Go.Proofs.Ytoohphhfigiicaa
open Go.ChangeShapes Go.WideShapes Go.ChangeAt Go.RowKit Dp

theorem chkL_zero : ∀ (p : Option ByteArray) (l : List ByteArray), chkL p l = 0 → (∀ x ∈ l, x.size ≤ 255) ∧ Srt l ∧ (∀ q x, p = some q → l.head? = some x → bl q x = true)
  | p, [], _ => ⟨fun x hx => absurd hx (by simp), srt_nil, fun q x _ h => by simp at h⟩
  | p, s :: t, h => by
    by_cases h1 : 255 < s.size
    · rw [chk_long h1] at h; exact absurd h (by decide)
    · have key : chkL (some s) t = 0 ∧ (∀ q, p = some q → bl q s = true) := by
        cases p with
        | none => rw [chk_first (by omega)] at h; exact ⟨h, fun q e => by cases e⟩
        | some q =>
          cases hb : bl q s with
          | false => rw [chk_order (by omega) hb] at h; exact absurd h (by decide)
          | true => rw [chk_next (by omega) hb] at h; exact ⟨h, fun q' e => by injection e with e; subst e; exact hb⟩
      obtain ⟨g1, g2, g3⟩ := chkL_zero (some s) t key.1
      refine ⟨fun x hx => ?_, ?_, fun q x e e2 => ?_⟩
      · rcases List.mem_cons.1 hx with rfl | hx
        · omega
        · exact g1 x hx
      · refine List.pairwise_cons.2 ⟨fun x hx => ?_, g2⟩
        cases t with
        | nil => simp at hx
        | cons y t =>
          have hy := g3 s y rfl rfl
          rcases List.mem_cons.1 hx with rfl | hx
          · exact hy
          · exact bl_trans hy ((List.pairwise_cons.1 g2).1 x hx)
      · simp at e2; subst e2; exact key.2 q e
theorem chk_zero {L : List ByteArray} (h : chk L = 0) : (∀ x ∈ L, x.size ≤ 255) ∧ Srt L ∧ L.length ≤ 4096 := by
  unfold chk at h
  by_cases h4 : 4096 < L.length
  · rw [if_pos h4] at h; exact absurd h (by decide)
  · rw [if_neg h4] at h
    obtain ⟨g1, g2, _⟩ := chkL_zero none L h
    exact ⟨g1, g2, by omega⟩
theorem getD_at (L : List ByteArray) (k : Nat) (hk : k < L.length) : L.getD k ByteArray.empty = L[k] := by simp [List.getD, List.getElem?_eq_getElem hk]
set_option maxRecDepth 100000 in
set_option maxHeartbeats 1000000 in
theorem size_any (A : Option Addr) (c : Nat) (L : List ByteArray) (hL : L.length ≤ 10000) (hsz : ∀ x ∈ L, x.size ≤ 1000) (w : World) (hR : Rd Value.string w A L) :
    Calls Try.prog 42 #[.slice A L.length c] w fun e w' => e = .returned (.int .i64 ((frm L L.length).length : Nat)) ∧ ∃ q, w' = w.drewN q := by
  have HR := Lib.hid hR
  have Hs := Lib.hid hsz
  clear hR hsz
  go_enter Try.func42, Try.ntmps42
  go_wp2_with fail
  go_loopw [3, 8] (fun n i wr => ∃ k q : Nat, k ≤ L.length ∧ i = .int .i64 k ∧ n = .int .i64 ((frm L k).length : Nat) ∧ wr = w.drewN q) (fun _ i _ => L.length - (intOf i).toNat)
  case atStart => exact ⟨0, 0, Nat.zero_le _, rfl, rfl, rfl⟩
  case round =>
    obtain ⟨k, q, hk, rfl, rfl, rfl⟩ := hrel
    have hfb := frm_bound L k Hs.out
    by_cases hlt : k < L.length
    · obtain ⟨b, off, rfl, hb, hc⟩ := HR.out k hlt
      have hx := Hs.out _ (List.getElem_mem hlt)
      have hfl := frm_len L k
      have hil := item_len L k
      have hsw := sw_le L k
      rw [getD_at L k hlt] at hil hsw
      have hsh := shared_any (some ⟨b, off, none⟩) c L k hlt (by omega) (fun x hx => by have := Hs.out x hx; omega) (w.drewN q) HR.out
      have hbg := begins_any k (by omega)
      obtain ⟨x, hxe⟩ : ∃ x, x = L[k] := ⟨_, rfl⟩
      rw [← hxe] at hc hx hil hsw
      obtain ⟨F, hF⟩ : ∃ F, F = (frm L k).length := ⟨_, rfl⟩
      obtain ⟨F2, hF2⟩ : ∃ F, F = (frm L (k + 1)).length := ⟨_, rfl⟩
      obtain ⟨s, hs⟩ : ∃ s, s = sw L k := ⟨_, rfl⟩
      rw [← hF] at hfl hfb ⊢
      rw [← hF2] at hfl
      rw [← hs] at hsh hil hsw
      have HF2 := Lib.hid hF2
      have HSH := Lib.hid hsh
      have HBG := Lib.hid hbg
      clear hxe hF hF2 hs hsh hbg
      by_cases h16 : k % 16 = 0
      · rw [if_pos h16] at hil
        have hadd : Hid (F2 = F + (1 + (x.size - s))) := Lib.hid (by omega)
        rw [decide_eq_true h16] at HBG
        clear hfl hil h16
        go_wp2_with fail
        refine HSH.out.mono ?_
        rintro e w1 ⟨rfl, q1, rfl⟩
        go_wp2_with fail
        refine (HBG.out _).mono ?_
        rintro e w2 ⟨rfl, rfl⟩
        go_wp2_with fail
        go_roundw
        case rel => exact ⟨k + 1, q + q1, by omega, by go_num, by rw [← HF2.out, hadd.out]; congr 1; omega, rfl⟩
        case measure => simp [intOf]; omega
      · rw [if_neg h16] at hil
        have hadd : Hid (F2 = F + (2 + (x.size - s))) := Lib.hid (by omega)
        rw [decide_eq_false h16] at HBG
        clear hfl hil h16
        go_wp2_with fail
        refine HSH.out.mono ?_
        rintro e w1 ⟨rfl, q1, rfl⟩
        go_wp2_with fail
        refine (HBG.out _).mono ?_
        rintro e w2 ⟨rfl, rfl⟩
        go_wp2_with fail
        go_roundw
        case rel => exact ⟨k + 1, q + q1, by omega, by go_num, by rw [← HF2.out, hadd.out]; congr 1; omega, rfl⟩
        case measure => simp [intOf]; omega
    · obtain rfl : k = L.length := by omega
      go_wp2_with fail
      go_ret
      exact ⟨rfl, q, rfl⟩
end Go.Proofs.Ytoohphhfigiicaa
