/- The law's model of an empty disk agrees with one. -/
import Derived.Test.YtjajmlamlmnljaaDr
import Derived.Deep.RegionHeld3
namespace Go.Proofs.Ytjajmlamlmnljaa
open Go.ChangeShapes Go.WideShapes Go.ChangeAt Go.RowKit Go.Joins Go.Maps Go.ChangeMaps Go.MapKept

set_option maxRecDepth 100000 in
set_option maxHeartbeats 4000000 in
theorem mused_zero (g : Nat) (n : Int) (w : World) (hg : w.heap[g]? = some (.cells #[.int .i64 n, .slice none 0 0, .bool false, .bool false, .int .i64 0] 30 (0, 0))) :
    Calls Try.prog 35 #[.pointer (some ⟨g, 0, none⟩)] w fun e w' => e = .returned (.int .i64 0) ∧ Below w.heap.size w w' := by
  have c1 := cell_of_row _ _ 1 _ _ _ hg
  simp at c1
  clear hg
  go_enter Try.func35, Try.ntmps35
  go_wp2_with fail
  go_loopw [3, 4] (fun nv iv wr => nv = .int .i64 0 ∧ iv = .int .i64 0 ∧ wr = w) (fun _ _ _ => 0)
  case atStart => exact ⟨rfl, rfl, rfl⟩
  case round =>
    obtain ⟨rfl, rfl, rfl⟩ := hrel
    go_wp2_with fail
    go_ret
    exact ⟨rfl, Below.refl _ _⟩
set_option maxRecDepth 100000 in
set_option maxHeartbeats 4000000 in
theorem agrees_zero (B p : Nat) (n : Int) (w : World) (hD : Dk w B p (Up n none [])) (g : Nat) (hg : w.heap[g]? = some (.cells #[.int .i64 n, .slice none 0 0, .bool false, .bool false, .int .i64 0] 30 (0, 0))) :
    Calls Try.prog 14 #[.pointer (some ⟨g, 0, none⟩), .pointer (some ⟨p, 0, none⟩)] w fun e w' => e = .returned (.bool true) ∧ Below w.heap.size w w' := by
  have HDk := Lib.hid hD
  have HG := Lib.hid hg
  have HLs := Lib.hid (list_any B p _ (by simp) w hD)
  clear hD hg
  go_enter Try.func14, Try.ntmps14
  go_wp2_with fail
  refine HLs.out.mono ?_
  rintro e w1 ⟨⟨v, rfl, ho⟩, hb⟩
  have HB1 := Lib.hid hb
  obtain ⟨A9, c9, rfl, hc9⟩ := own_slice ho
  rw [show (liL (Up n none [])).length = 0 from rfl]
  have HD1 := Lib.hid (HDk.out.below hb)
  have HG1 := Lib.hid ((hb.block g (Array.getElem?_eq_some_iff.1 HG.out).1).trans HG.out)
  clear ho hb hc9 HLs
  have HCl : Hid (∀ W, Below w1.heap.size w1 W → W.cell? ⟨g, 0, none⟩ = some (.int .i64 n) ∧ W.cell? ⟨g, 3, none⟩ = some (.bool false)) := Lib.hid (fun W hb => by
    have h := (hb.block g (Array.getElem?_eq_some_iff.1 HG1.out).1).trans HG1.out
    exact ⟨cell_of_row _ _ 0 _ _ _ h, cell_of_row _ _ 3 _ _ _ h⟩)
  have HDw : Hid (∀ k, Below w1.heap.size w1 (w1.drewN k)) := Lib.hid (fun k => below_drewN (Below.refl _ _) k)
  have HDn := Lib.hid (fun W (h : Below w1.heap.size w1 W) => down_any p (Up n none []) W (HD1.out.below h).blk)
  have HCp := Lib.hid (fun W (h : Below w1.heap.size w1 W) => cap_any p (Up n none []) W (HD1.out.below h).blk)
  go_wp2_with fail
  go_region_held3 (fun W => W.cell? ⟨g, 0, none⟩ = some (.int .i64 n) ∧ W.cell? ⟨g, 3, none⟩ = some (.bool false))
    (first | exact HCl.out _ HB9.out | exact HCl.out _ HB8.out | exact HCl.out _ (HDw.out _))
    ((first
      | (go_at_call 27; (refine (HDn.out _ (HDw.out _)).mono ?_); rintro e v8 ⟨rfl, hb⟩; have HB8 := Lib.hid ((HDw.out _).trans (hb.mono (HDw.out _).size)); clear hb)
      | (go_at_call 34; (refine (HCp.out _ HB8.out).mono ?_); rintro e v9 ⟨rfl, hb⟩; have HB9 := Lib.hid (HB8.out.trans (hb.mono HB8.out.size)); clear hb)
      | fail))
  have HD9 := Lib.hid (HD1.out.below HB9.out)
  have HG9 := Lib.hid ((HB9.out.block g (Array.getElem?_eq_some_iff.1 HG1.out).1).trans HG1.out)
  have HB09 := Lib.hid (HB1.out.trans (HB9.out.mono HB1.out.size))
  clear HCl HDw HDn HCp HB8 HB9
  have c1 := cell_of_row _ _ 1 _ _ _ HG9.out
  have c3 := cell_of_row _ _ 3 _ _ _ HG9.out
  simp at c1 c3
  have HUs : Hid (Calls Try.prog 32 #[.pointer (some ⟨p, 0, none⟩)] v9 fun e w' => e = .returned (.int .i64 0) ∧ Below v9.heap.size v9 w') := Lib.hid (used_any B p (Up n none []) (by simp [sv]) v9 HD9.out)
  go_wp2_with fail
  refine HUs.out.mono ?_
  rintro e v10 ⟨rfl, hb⟩
  have HG10 := Lib.hid ((hb.block g (Array.getElem?_eq_some_iff.1 HG9.out).1).trans HG9.out)
  have HB10 := Lib.hid (HB09.out.trans (hb.mono HB09.out.size))
  clear hb c1 c3
  go_wp2_with fail
  refine (mused_zero g n v10 HG10.out).mono ?_
  rintro e v11 ⟨rfl, hb⟩
  have HB11 := Lib.hid (HB10.out.trans (hb.mono HB10.out.size))
  clear hb
  go_wp2_with fail
  go_loopw [6, 7, 8, 9, 10] (fun iv _a _b _c _d wr => iv = .int .i64 0 ∧ wr = v11) (fun _ _ _ _ _ _ => 0)
  case atStart => exact ⟨rfl, rfl⟩
  case round =>
    obtain ⟨rfl, rfl⟩ := hrel
    go_wp2_with fail
    go_ret
    exact ⟨rfl, HB11.out⟩
end Go.Proofs.Ytjajmlamlmnljaa
