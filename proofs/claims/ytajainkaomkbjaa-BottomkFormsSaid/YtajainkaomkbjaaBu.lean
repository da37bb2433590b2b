/- The law's known. -/
import Derived.Test.YtajainkaomkbjaaBs
namespace Go.Proofs.Ytajainkaomkbjaa
open Go.ChangeShapes Go.WideShapes Go.ChangeAt Go.RowKit Go.Joins Bt

theorem ins_old {d : List Ky} (h : Srt d) {s : Ky} (hs : s ∈ d) : ins d s = d := srt_ext (ins_srt h s) h fun x => by
  rw [ins_mem]
  exact ⟨fun h => h.elim id (fun e => e ▸ hs), .inl⟩
theorem ins_fresh {d : List Ky} {s : Ky} (hs : s ∉ d) : (ins d s).length = d.length + 1 := by
  rw [ins_length, if_neg (fun h => hs (List.mem_of_getElem? h))]
def tA : ByteArray := ⟨#[97]⟩
def tB : ByteArray := ⟨#[98]⟩
def tC : ByteArray := ⟨#[99]⟩
theorem ky_ne {sd : Int} {s t : ByteArray} (h : s ≠ t) : kyO sd s ≠ kyO sd t := fun e => h (by injection e)
theorem bld2 : (bld (kys 5 [tA, tB, tA])).length = 2 := by
  show (ins (ins (ins [] (kyO 5 tA)) (kyO 5 tB)) (kyO 5 tA)).length = 2
  have hs : Srt (ins (ins [] (kyO 5 tA)) (kyO 5 tB)) := ins_srt (ins_srt srt_nil _) _
  have hm : kyO 5 tA ∈ ins (ins [] (kyO 5 tA)) (kyO 5 tB) := by rw [ins_mem, ins_mem]; exact .inl (.inr rfl)
  rw [ins_old hs hm, ins_fresh (by rw [ins_mem]; rintro (h | h); (exact absurd h (by simp)); exact ky_ne (by decide) h), ins_fresh (by simp)]
  rfl
theorem bld3 : (ins (bld (kys 5 [tA, tB, tA])) (kyO 5 tC)).length = 3 := by
  rw [ins_fresh, bld2]
  rw [bld_mem]
  intro h
  simp only [kys, List.map_cons, List.map_nil, List.mem_cons, List.not_mem_nil, or_false] at h
  rcases h with h | h | h
  · exact ky_ne (by decide) h
  · exact ky_ne (by decide) h
  · exact ky_ne (by decide) h
theorem chkA : chkK tA = 0 := by decide
theorem chkB : chkK tB = 0 := by decide
theorem chkC : chkK tC = 0 := by decide
set_option maxRecDepth 100000 in
set_option maxHeartbeats 4000000 in
theorem known_any (w : World) : Calls Try.prog 14 #[] w fun e w' => e = .returned (.bool true) ∧ Below w.heap.size w w' := by
  have hR : Rd Value.string (w.alloc (.cells #[.string tA, .string tB, .string tA] 9)) (some ⟨w.heap.size, 0, none⟩) [tA, tB, tA] := fun k hk => by
    refine ⟨_, _, rfl, by simp, ?_⟩
    rw [cell_of_row _ _ _ _ _ _ (Deep.blk_alloc_new w _)]
    have : k = 0 ∨ k = 1 ∨ k = 2 := by simp at hk; omega
    rcases this with rfl | rfl | rfl <;> rfl
  have HOf := Lib.hid (of_ok 2 (by omega) (by omega) 5 (by omega) (by omega) (some ⟨w.heap.size, 0, none⟩) 3 [tA, tB, tA] (by simp) (fun t ht => by
    simp only [List.mem_cons, List.not_mem_nil, or_false] at ht
    rcases ht with rfl | rfl | rfl
    · exact ⟨by decide, chkA⟩
    · exact ⟨by decide, chkB⟩
    · exact ⟨by decide, chkA⟩) _ hR)
  have hb2 := bld2
  have hb3 := bld3
  have hsrt := bld_srt (kys 5 [tA, tB, tA])
  obtain ⟨S, hS⟩ : ∃ S, S = bld (kys 5 [tA, tB, tA]) := ⟨_, rfl⟩
  rw [← hS] at HOf hb2 hb3 hsrt
  have hx2 : (skt 2 S).2 = false := by show decide (2 < S.length) = false; rw [hb2]; rfl
  have hl2 : (skt 2 S).1.length = 2 := by show (S.take 2).length = 2; rw [List.length_take, hb2]; rfl
  have hx3 : (skt 2 (ins S (kyO 5 tC))).2 = true := by show decide (2 < (ins S (kyO 5 tC)).length) = true; rw [hb3]; rfl
  have hl3 : (skt 2 (ins S (kyO 5 tC))).1.length = 2 := by show ((ins S (kyO 5 tC)).take 2).length = 2; rw [List.length_take, hb3]; rfl
  have HEx := Lib.hid (fun W h => exact_any (g := w.heap.size + 1) (n := 2) (sd := 5) (x := skt 2 S) W h)
  rw [hx2] at HEx
  have HDi := Lib.hid (fun W h => distinct_exact (g := w.heap.size + 1) (n := 2) (sd := 5) (x := skt 2 S) W h hx2)
  rw [hl2] at HDi
  have HAd := Lib.hid (fun W h => add_ok (w.heap.size + 1) 2 5 (by omega) (by omega) (skt 2 S) (skt_srt hsrt 2) (skt_len 2 S) tC (by decide) chkC W h)
  rw [stp_skt] at HAd
  have HE3 := Lib.hid (fun W h => exact_any (g := w.heap.size + 1) (n := 2) (sd := 5) (x := skt 2 (ins S (kyO 5 tC))) W h)
  rw [hx3] at HE3
  have HL3 := Lib.hid (fun W h => least_any (g := w.heap.size + 1) (n := 2) (sd := 5) (x := skt 2 (ins S (kyO 5 tC))) W h (by omega))
  rw [hl3, hx3] at HL3
  have HK3 := Lib.hid (fun W h => keys_any (w.heap.size + 1) 2 5 (skt 2 (ins S (kyO 5 tC))) (by omega) W h)
  rw [hl3] at HK3
  have hz : (w.alloc (.cells #[.string tA, .string tB, .string tA] 9)).heap.size = w.heap.size + 1 := by simp
  rw [hz] at HOf
  have HB0 : Hid (Below w.heap.size w (w.alloc (.cells #[.string tA, .string tB, .string tA] 9))) := Lib.hid ((Below.refl _ _).alloc (Nat.le_refl _) _)
  obtain ⟨X, hX⟩ : ∃ X, X = skt 2 S := ⟨_, rfl⟩
  obtain ⟨Y, hY⟩ : ∃ Y, Y = skt 2 (ins S (kyO 5 tC)) := ⟨_, rfl⟩
  rw [← hX] at HOf HEx HDi HAd
  rw [← hY] at HAd HE3 HL3 HK3
  have HZ := Lib.hid hz
  clear hR hb2 hb3 hsrt hS hx2 hl2 hx3 hl3 hz hX hY
  go_enter Try.func14, Try.ntmps14
  go_wp2_with fail
  refine HOf.out.mono ?_
  rintro e w1 ⟨rfl, hsk, hb⟩
  have HB1 := Lib.hid (HB0.out.trans (hb.mono (Nat.le_succ _)))
  have HK := Lib.hid hsk
  clear hsk hb
  go_wp2_with fail
  refine (HEx.out _ HK.out).mono ?_
  rintro e w' ⟨rfl, rfl⟩
  go_wp2_with fail
  refine (HDi.out _ HK.out).mono ?_
  rintro e w' ⟨rfl, rfl⟩
  go_wp2_with fail
  refine (HAd.out _ HK.out).mono ?_
  rintro e w2 ⟨rfl, hsk, hg⟩
  have HB2 := Lib.hid (below_gs HB1.out hg (by omega) (Nat.le_refl _))
  have HK2 := Lib.hid hsk
  clear hsk hg
  go_wp2_with fail
  refine (HE3.out _ HK2.out).mono ?_
  rintro e w' ⟨rfl, rfl⟩
  go_wp2_with fail
  refine (HL3.out _ HK2.out).mono ?_
  rintro e w' ⟨rfl, rfl⟩
  go_wp2_with fail
  refine (HK3.out _ HK2.out).mono ?_
  rintro e w3 ⟨⟨v, rfl, ho⟩, hb⟩
  have HB3 := Lib.hid (HB2.out.trans (hb.mono HB2.out.size))
  obtain ⟨A, c, rfl, _⟩ := rs_own ho
  clear ho hb
  go_wp2_with fail
  go_ret
  exact ⟨rfl, HB3.out⟩
end Go.Proofs.Ytajainkaomkbjaa
