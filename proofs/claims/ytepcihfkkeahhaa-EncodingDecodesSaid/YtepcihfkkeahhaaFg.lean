/- EncodingFragments: the call (written by wip/bin/gen_fg.py). -/
import Derived.Test.YtepcihfkkeahhaaFf
import Derived.Test.YtepcihfkkeahhaaSh
namespace Go.Proofs.Ytepcihfkkeahhaa
open Go.ChangeShapes Go.WideShapes Go.ChangeAt Go.RowKit En

theorem map_forms {L L' : List Sv} (h : L'.map Prod.fst = L.map Prod.fst) : spForms L' = spForms L := by rw [spForms_map, spForms_map, h]
theorem map_len {L L' : List Sv} (h : L'.map Prod.fst = L.map Prod.fst) : L'.length = L.length := by
  have := congrArg List.length h
  simpa using this
theorem map_fit {L L' : List Sv} (h : L'.map Prod.fst = L.map Prod.fst) (hf : ∀ x ∈ L, x.1.Fit) : ∀ x ∈ L', x.1.Fit := fun x hx => by
  have h1 : x.1 ∈ L'.map Prod.fst := List.mem_map_of_mem hx
  rw [h] at h1
  obtain ⟨y, hy, e⟩ := List.mem_map.1 h1
  rw [← e]; exact hf y hy
theorem fragF_map {a q : Int} {L L' : List Sv} {M : List Ex} (h : L'.map Prod.fst = L.map Prod.fst) : fragF a q L' M = fragF a q L M := by unfold fragF; rw [map_forms h, map_len h]
theorem traceF_map {a q : Int} {L L' : List Sv} (h : L'.map Prod.fst = L.map Prod.fst) : traceF a q L' = traceF a q L := by unfold traceF; rw [map_forms h, map_len h]
/-- What is asked of a list of spans. -/
theorem FOk.map {L L' : List Sv} {M : List Ex} (h : FOk L M) (e : L'.map Prod.fst = L.map Prod.fst) : FOk L' M :=
  ⟨by rw [map_len e]; exact h.hL, by rw [map_forms e]; exact h.hF, h.hM, h.hG, map_fit e h.fit, h.hex⟩
theorem fragF_size {a q : Int} (ha : In64 a) (hq : In64 q) {L : List Sv} {M : List Ex} (h : FOk L M) : (bytesOf (fragF a q L M)).size ≤ 1000000 := by
  have b1 := num_bounds a ha.1 ha.2
  have b2 := num_bounds q hq.1 hq.2
  have b3 := num_bounds (L.length : Int) (by omega) (by have := h.hL; omega)
  have b4 := num_bounds (M.length : Int) (by omega) (by have := h.hM; omega)
  have := h.hF
  have := h.hG
  rw [bytesOf_size]; unfold fragF
  simp only [List.length_append]; omega
theorem traceF_size {a q : Int} (ha : In64 a) (hq : In64 q) {L : List Sv} {M : List Ex} (h : FOk L M) : (bytesOf (traceF a q L)).size ≤ 1000000 := by
  have b1 := num_bounds a ha.1 ha.2
  have b2 := num_bounds q hq.1 hq.2
  have b3 := num_bounds (L.length : Int) (by omega) (by have := h.hL; omega)
  have := h.hF
  rw [bytesOf_size]; unfold traceF
  simp only [List.length_append]; omega
theorem encF {a q : Int} {L : List Sv} {M : List Ex} (ha : In64 a) (hq : In64 q) (h : FOk L M) (A : Option Addr) (c : Nat) (A2 : Option Addr) (c2 : Nat) (w : World) (hr : Fr w A L A2 M) :
    Calls Try.prog 30 #[.agg #[.int .i64 a, .int .i64 q, .slice A L.length c, .slice A2 M.length c2]] w fun e w' => e = .returned (.string (bytesOf (fragF a q L M))) ∧ Below w.heap.size w w' :=
  encode_frag a q ha hq L h.hL h.hF A c M h.hM h.hG h.hex A2 c2 w (fun x hx => ⟨(h.fit x hx).1, hr.1 x hx⟩) hr.2.1 hr.2.2
theorem encT {a q : Int} {L : List Sv} {M : List Ex} (ha : In64 a) (hq : In64 q) (h : FOk L M) (A : Option Addr) (c : Nat) (A2 : Option Addr) (w : World) (hr : Fr w A L A2 M) :
    Calls Try.prog 31 #[.agg #[.int .i64 a, .int .i64 q, .slice A L.length c]] w fun e w' => e = .returned (.string (bytesOf (traceF a q L))) ∧ Below w.heap.size w w' :=
  encode_trace a q ha hq L h.hL h.hF A c w (fun x hx => ⟨(h.fit x hx).1, hr.1 x hx⟩) hr.2.1
theorem refF {a q : Int} {L : List Sv} {M : List Ex} (ha : In64 a) (hq : In64 q) (h : FOk L M) (L' : List Sv) (e : L'.map Prod.fst = L.map Prod.fst) (A : Option Addr) (c : Nat) (A2 : Option Addr) (c2 : Nat) (w : World) (hr : Fr w A L' A2 M) :
    Calls Try.prog 34 #[.agg #[.int .i64 a, .int .i64 q, .slice A L'.length c, .slice A2 M.length c2]] w fun e w' => e = .returned (.string (bytesOf (fragF a q L M))) ∧ Below w.heap.size w w' := by
  have h' := h.map e
  rw [← fragF_map e]
  exact ref_frag a q ha hq L' h'.hL h'.hF A c M h.hM h.hG h.hex A2 c2 w (fun x hx => ⟨(h'.fit x hx).1, hr.1 x hx⟩) hr.2.1 hr.2.2
theorem refT {a q : Int} {L : List Sv} {M : List Ex} (ha : In64 a) (hq : In64 q) (h : FOk L M) (L' : List Sv) (e : L'.map Prod.fst = L.map Prod.fst) (A : Option Addr) (c : Nat) (A2 : Option Addr) (N : List Ex) (w : World) (hr : Fr w A L' A2 N) :
    Calls Try.prog 35 #[.agg #[.int .i64 a, .int .i64 q, .slice A L'.length c]] w fun e w' => e = .returned (.string (bytesOf (traceF a q L))) ∧ Below w.heap.size w w' := by
  have h' := h.map e
  rw [← traceF_map e]
  exact ref_trace a q ha hq L' h'.hL h'.hF A c w (fun x hx => ⟨(h'.fit x hx).1, hr.1 x hx⟩) hr.2.1
theorem decF {a q : Int} {L : List Sv} {M : List Ex} (ha : In64 a) (hq : In64 q) (h : FOk L M) (w : World) : Calls Try.prog 32 #[.string (bytesOf (fragF a q L M))] w (DecFPost w (a, q, L.map Prod.fst, M) 0) := by
  have h1 := at_frag ha hq h.hL h.fit h.hM h.hex (hs_full (fragF a q L M))
  have h2 := decodeFragment_any (bytesOf (fragF a q L M)) (fragF_size ha hq h) w
  rw [h1, Nat.zero_add, ← bytesOf_size, end_full, if_pos rfl] at h2
  exact h2
theorem decT {a q : Int} {L : List Sv} {M : List Ex} (ha : In64 a) (hq : In64 q) (h : FOk L M) (w : World) : Calls Try.prog 33 #[.string (bytesOf (traceF a q L))] w (DecTPost w (a, q, L.map Prod.fst) 0) := by
  have h1 := at_trace ha hq h.hL h.fit (hs_full (traceF a q L))
  have h2 := decodeTrace_any (bytesOf (traceF a q L)) (traceF_size ha hq h) w
  rw [h1, Nat.zero_add, ← bytesOf_size, end_full, if_pos rfl] at h2
  exact h2
/-- The two Encode calls in one region that draws. -/
def EncC (f : FuncId) (v : Value) (F : ByteArray) (W : World) : Prop := ∀ (d : Nat) (os : Array Obj), Calls Try.prog f #[v] (Go.Sort.grow (redrawn W d) os) fun e w'' => e = .returned (.string F) ∧ ∃ p : Regrown, w'' = Go.Sort.grow (redrawn W p.d) p.os
theorem Fr.regrown {w : World} {A A2 : Option Addr} {L : List Sv} {M : List Ex} (h : Fr w A L A2 M) (d : Nat) (os : Array Obj) : Fr (Go.Sort.grow (redrawn w d) os) A L A2 M := h.below (below_regrown w d os)

set_option maxRecDepth 100000 in
set_option maxHeartbeats 4000000 in
theorem frags_any (a q id wt : Int) (ha : In64 a) (hq : In64 q) (hid : In64 id) (hwt : In64 wt) (L : List Sv) (hl : L.length ≤ 9223372036854775807) (hlim : ∀ x ∈ L, x.1.Lim) (hints : ∀ x ∈ L, x.1.Ints) (M : List Ex) (hm : M.length ≤ 9223372036854775807) (hex : ∀ x ∈ M, ExOk x) (A : Option Addr) (c : Nat) (A2 : Option Addr) (c2 : Nat) (w : World) (hR : Fr w A L A2 M) :
    Calls Try.prog 8 #[.agg #[.int .i64 a, .int .i64 q, .slice A L.length c, .slice A2 M.length c2], .int .i64 id, .int .i64 wt] w fun e w' => e = .returned (.bool true) ∧ Below w.heap.size w w' := by
  have hsh := fun W h1 h2 => shorts_any L hl hlim A c W h1 h2
  have hfok := fun h1 h2 => FOk.of_short hints hex h1 h2 (M := M)
  have hen := fun (h : FOk L M) W hr => encF ha hq h A c A2 c2 W hr
  have het := fun (h : FOk L M) W hr => encT hid hwt h A c A2 W hr
  have hrf := fun (h : FOk L M) L' e A c A2 c2 W hr => refF ha hq h L' e A c A2 c2 W hr
  have hrt := fun (h : FOk L M) L' e A c A2 N W hr => refT hid hwt h L' e A c A2 N W hr
  have hdf := fun (h : FOk L M) W => decF ha hq h W
  have hdt := fun (h : FOk L M) W => decT hid hwt h W
  obtain ⟨F, hF⟩ : ∃ F, F = bytesOf (fragF a q L M) := ⟨_, rfl⟩
  obtain ⟨G, hG⟩ : ∃ F, F = bytesOf (traceF id wt L) := ⟨_, rfl⟩
  simp only [← hF] at hen hrf hdf
  simp only [← hG] at het hrt hdt
  have Hsh := Lib.hid hsh
  have Hfok := Lib.hid hfok
  have Hen := Lib.hid hen
  have Het := Lib.hid het
  have Hrf := Lib.hid hrf
  have Hrt := Lib.hid hrt
  have Hdf := Lib.hid hdf
  have Hdt := Lib.hid hdt
  clear hsh hfok hen het hrf hrt hdf hdt hF hG hlim hints hex ha hq hid hwt
  have HB0 : Hid (Below w.heap.size w (w.alloc (.cells #[.int .i64 a, .int .i64 q, .slice A L.length c, .slice A2 M.length c2] 62))) := Lib.hid ((Below.refl _ _).alloc (Nat.le_refl _) _)
  have HR0 := Lib.hid (hR.below HB0.out)
  have Hb0 : Hid ((w.alloc (.cells #[.int .i64 a, .int .i64 q, .slice A L.length c, .slice A2 M.length c2] 62)).heap[w.heap.size]? = some (.cells #[.int .i64 a, .int .i64 q, .slice A L.length c, .slice A2 M.length c2] 62 (0, 0))) := Lib.hid (Deep.blk_alloc_new w _)
  clear hR
  go_enter Try.func8, Try.ntmps8
  go_wp2_with fail
  refine (known_any _).mono ?_
  rintro e w1 ⟨rfl, hb⟩
  have hs1 : w.heap.size < w1.heap.size := by have := hb.size; simp at this; omega
  have HB1 := Lib.hid (HB0.out.trans (hb.mono (by simp)))
  have HR1 := Lib.hid (HR0.out.below hb)
  have hb1 := (hb.block w.heap.size (by simp)).trans Hb0.out
  have Hb1 := Lib.hid hb1
  have c0 := cell_of_row w1 w.heap.size 0 _ _ _ hb1
  have c1 := cell_of_row w1 w.heap.size 1 _ _ _ hb1
  have c2' := cell_of_row w1 w.heap.size 2 _ _ _ hb1
  have c3' := cell_of_row w1 w.heap.size 3 _ _ _ hb1
  clear hb hb1
  go_wp2_with fail
  refine (Hsh.out w1 HR1.out.1 HR1.out.2.1).mono ?_
  rintro e w2 ⟨⟨bl, rfl, hbl⟩, hb⟩
  have hs2 := hb.size
  have HB2 := Lib.hid (HB1.out.trans (hb.mono (by omega)))
  have HR2 := Lib.hid (HR1.out.below hb)
  have hb2 := (hb.block w.heap.size hs1).trans Hb1.out
  have Hb2 := Lib.hid hb2
  clear c0 c1 c2' c3'
  have d0 := cell_of_row w2 w.heap.size 0 _ _ _ hb2
  have d1 := cell_of_row w2 w.heap.size 1 _ _ _ hb2
  have d2 := cell_of_row w2 w.heap.size 2 _ _ _ hb2
  have d3 := cell_of_row w2 w.heap.size 3 _ _ _ hb2
  clear hb hb2
  by_cases hok : bl = true ∧ M.length ≤ 8
  · obtain ⟨rfl, hm8⟩ := hok
    have hm8' : ¬ (8 : Int) < (M.length : Int) := by omega
    have Hq := Lib.hid (Hfok.out (hbl rfl) hm8)
    clear hbl
    have hs2' : w.heap.size < w2.heap.size := by omega
    have HBt : Hid (Below w2.heap.size w2 (w2.alloc (.cells #[.int .i64 id, .int .i64 wt, .slice A L.length c] 65))) := Lib.hid ((Below.refl _ _).alloc (Nat.le_refl _) _)
    have hbt := Deep.blk_alloc_new w2 (.cells #[.int .i64 id, .int .i64 wt, .slice A L.length c] 65)
    have Hbt := Lib.hid hbt
    have hbf := (HBt.out.block w.heap.size hs2').trans Hb2.out
    have Hbf := Lib.hid hbf
    have HRt := Lib.hid (HR2.out.below HBt.out)
    have CF : Hid (EncC 30 (.agg #[.int .i64 a, .int .i64 q, .slice A L.length c, .slice A2 M.length c2]) F (w2.alloc (.cells #[.int .i64 id, .int .i64 wt, .slice A L.length c] 65))) := Lib.hid (fun d os => Calls.regrown_of (Hen.out Hq.out _ (HRt.out.regrown d os)))
    have CT : Hid (EncC 31 (.agg #[.int .i64 id, .int .i64 wt, .slice A L.length c]) G (w2.alloc (.cells #[.int .i64 id, .int .i64 wt, .slice A L.length c] 65))) := Lib.hid (fun d os => Calls.regrown_of (Het.out Hq.out _ (HRt.out.regrown d os)))
    have f0 := fun d os => cell_regrown (cell_of_row _ w.heap.size 0 _ _ _ hbf) d os
    have f1 := fun d os => cell_regrown (cell_of_row _ w.heap.size 1 _ _ _ hbf) d os
    have f2 := fun d os => cell_regrown (cell_of_row _ w.heap.size 2 _ _ _ hbf) d os
    have f3 := fun d os => cell_regrown (cell_of_row _ w.heap.size 3 _ _ _ hbf) d os
    have t0 := fun d os => cell_regrown (cell_of_row _ w2.heap.size 0 _ _ _ hbt) d os
    have t1 := fun d os => cell_regrown (cell_of_row _ w2.heap.size 1 _ _ _ hbt) d os
    have t2 := fun d os => cell_regrown (cell_of_row _ w2.heap.size 2 _ _ _ hbt) d os
    clear hbt hbf
    go_wp2_with fail
    refine wp_region_quiet_below (by kernel_rfl) (by kernel_rfl) ?_
    repeat (go_big_quiet_step ((first | (go_at_call 30; exact CF.out _ _) | (go_at_call 31; exact CT.out _ _))))
    refine wpQuiet_nil ?_
    intro _ hw'
    obtain ⟨⟨dq, osq⟩, hw''⟩ := hw'
    subst hw''
    have HBg := Lib.hid (below_regrown (w2.alloc (.cells #[.int .i64 id, .int .i64 wt, .slice A L.length c] 65)) dq osq)
    clear f0 f1 f2 f3 t0 t1 t2 CF CT
    generalize Go.Sort.grow (redrawn (w2.alloc (.cells #[.int .i64 id, .int .i64 wt, .slice A L.length c] 65)) dq) osq = wg at *
    have hsg : w2.heap.size < wg.heap.size := by have := HBg.out.size; simp at this; omega
    have HRg := Lib.hid (HRt.out.below HBg.out)
    have HB3 := Lib.hid (HB2.out.trans ((HBt.out.trans (HBg.out.mono (by simp))).mono (by omega)))
    have Hf3 := Lib.hid ((HBg.out.block w.heap.size (by simp; omega)).trans Hbf.out)
    have Ht3 := Lib.hid ((HBg.out.block w2.heap.size (by simp)).trans Hbt.out)
    clear d0 d1 d2 d3
    go_wp2_with fail
    refine (Hdf.out Hq.out wg).mono ?_
    rintro e w4 ⟨⟨A3, c3, L3, A4, c4, hL3, rfl, hS3, hE3⟩, hb⟩
    have hs4 := hb.size
    have HB4 := Lib.hid (HB3.out.trans (hb.mono (by omega)))
    have HR4 := Lib.hid (HRg.out.below hb)
    have Hf4 := Lib.hid ((hb.block w.heap.size (by omega)).trans Hf3.out)
    have Ht4 := Lib.hid ((hb.block w2.heap.size (by omega)).trans Ht3.out)
    have HL3 := Lib.hid hL3
    have HG4 := Lib.hid (Fr.svs hS3 hE3)
    clear hb hL3 hS3 hE3
    dsimp only at HG4 HL3 ⊢
    go_wp2_with fail
    have HBx : Hid (Below w4.heap.size w4 (w4.alloc (.cells #[.int .i64 a, .int .i64 q, .slice A3 L3.length c3, .slice A4 M.length c4] 62))) := Lib.hid ((Below.refl _ _).alloc (Nat.le_refl _) _)
    have Hgx : Hid ((w4.alloc (.cells #[.int .i64 a, .int .i64 q, .slice A3 L3.length c3, .slice A4 M.length c4] 62)).heap[w4.heap.size]? = some (.cells #[.int .i64 a, .int .i64 q, .slice A3 L3.length c3, .slice A4 M.length c4] 62 (0, 0))) := Lib.hid (Deep.blk_alloc_new w4 _)
    refine (Hdt.out Hq.out _).mono ?_
    rintro e w5 ⟨⟨A5, c5, L5, hL5, rfl, hS5⟩, hb⟩
    have HB45 := Lib.hid (HBx.out.trans (hb.mono (by simp)))
    have hs5 : w4.heap.size < w5.heap.size := by have := hb.size; simp at this; omega
    have HB5 := Lib.hid (HB4.out.trans (HB45.out.mono (by omega)))
    have HR5 := Lib.hid (HR4.out.below HB45.out)
    have HG5 := Lib.hid (HG4.out.below HB45.out)
    have HU5 := Lib.hid (Fr.svs0 hS5)
    have HL5 := Lib.hid hL5
    have Hf5 := Lib.hid ((HB45.out.block w.heap.size (by omega)).trans Hf4.out)
    have Ht5 := Lib.hid ((HB45.out.block w2.heap.size (by omega)).trans Ht4.out)
    have Hg5 := Lib.hid ((hb.block w4.heap.size (by simp)).trans Hgx.out)
    clear hb hL5 hS5
    dsimp only at HU5 HL5 ⊢
    have HBy : Hid (Below w5.heap.size w5 (w5.alloc (.cells #[.int .i64 id, .int .i64 wt, .slice A5 L5.length c5] 65))) := Lib.hid ((Below.refl _ _).alloc (Nat.le_refl _) _)
    have Huy : Hid ((w5.alloc (.cells #[.int .i64 id, .int .i64 wt, .slice A5 L5.length c5] 65)).heap[w5.heap.size]? = some (.cells #[.int .i64 id, .int .i64 wt, .slice A5 L5.length c5] 65 (0, 0))) := Lib.hid (Deep.blk_alloc_new w5 _)
    have hlt5a : w.heap.size < w5.heap.size := by omega
    have hlt5b : w2.heap.size < w5.heap.size := by omega
    have x0 := cell_of_row w5 w.heap.size 0 _ _ _ Hf5.out
    have x1 := cell_of_row w5 w.heap.size 1 _ _ _ Hf5.out
    have x2 := cell_of_row w5 w.heap.size 2 _ _ _ Hf5.out
    have x3 := cell_of_row w5 w.heap.size 3 _ _ _ Hf5.out
    go_wp2_with fail
    refine (Hrf.out Hq.out L rfl A c A2 c2 _ (HR5.out.below HBy.out)).mono ?_
    rintro e w6 ⟨rfl, hb⟩
    have HB56 := Lib.hid (HBy.out.trans (hb.mono (by simp)))
    have hs6 : w5.heap.size < w6.heap.size := by have := hb.size; simp at this; omega
    have HB6 := Lib.hid (HB5.out.trans (HB56.out.mono (by omega)))
    have HR6 := Lib.hid (HR5.out.below HB56.out)
    have HG6 := Lib.hid (HG5.out.below HB56.out)
    have HU6 := Lib.hid (HU5.out.below HB56.out)
    have Ht6 := Lib.hid ((HB56.out.block w2.heap.size hlt5b).trans Ht5.out)
    have Hg6 := Lib.hid ((HB56.out.block w4.heap.size hs5).trans Hg5.out)
    have Hu6 := Lib.hid ((hb.block w5.heap.size (by simp)).trans Huy.out)
    have y0 := cell_of_row w6 w2.heap.size 0 _ _ _ Ht6.out
    have y1 := cell_of_row w6 w2.heap.size 1 _ _ _ Ht6.out
    have y2 := cell_of_row w6 w2.heap.size 2 _ _ _ Ht6.out
    clear hb x0 x1 x2 x3
    go_wp2_with fail
    refine (Hrt.out Hq.out L rfl A c A2 M w6 HR6.out).mono ?_
    rintro e w7 ⟨rfl, hb⟩
    have hs7 := hb.size
    have HB7 := Lib.hid (HB6.out.trans (hb.mono (by omega)))
    have HG7 := Lib.hid (HG6.out.below hb)
    have HU7 := Lib.hid (HU6.out.below hb)
    have Hg7 := Lib.hid ((hb.block w4.heap.size (by omega)).trans Hg6.out)
    have Hu7 := Lib.hid ((hb.block w5.heap.size hs6).trans Hu6.out)
    have g0 := cell_of_row w7 w4.heap.size 0 _ _ _ Hg7.out
    have g1 := cell_of_row w7 w4.heap.size 1 _ _ _ Hg7.out
    have g2 := cell_of_row w7 w4.heap.size 2 _ _ _ Hg7.out
    have g3 := cell_of_row w7 w4.heap.size 3 _ _ _ Hg7.out
    clear hb y0 y1 y2
    go_wp2_with fail
    refine (Hrf.out Hq.out L3 HL3.out A3 c3 A4 c4 w7 HG7.out).mono ?_
    rintro e w8 ⟨rfl, hb⟩
    have hs8 := hb.size
    have HB8 := Lib.hid (HB7.out.trans (hb.mono (by omega)))
    have HU8 := Lib.hid (HU7.out.below hb)
    have Hu8 := Lib.hid ((hb.block w5.heap.size (by omega)).trans Hu7.out)
    have v0 := cell_of_row w8 w5.heap.size 0 _ _ _ Hu8.out
    have v1 := cell_of_row w8 w5.heap.size 1 _ _ _ Hu8.out
    have v2 := cell_of_row w8 w5.heap.size 2 _ _ _ Hu8.out
    clear hb g0 g1 g2 g3
    go_wp2_with fail
    refine (Hrt.out Hq.out L5 HL5.out A5 c5 none [] w8 HU8.out).mono ?_
    rintro e w9 ⟨rfl, hb⟩
    have HB9 := Lib.hid (HB8.out.trans (hb.mono (by omega)))
    clear hb v0 v1 v2
    go_wp2_with fail
    go_ret
    exact ⟨rfl, HB9.out⟩
  · cases bl with
    | false =>
      clear hbl
      go_wp2_with fail
      refine (known_any w2).mono ?_
      rintro e w3 ⟨rfl, hb⟩
      have HB3 := Lib.hid (HB2.out.trans (hb.mono (by omega)))
      clear hb
      go_wp2_with fail
      go_ret
      exact ⟨rfl, HB3.out⟩
    | true =>
      have hm8 : (8 : Int) < (M.length : Int) := by
        have : ¬ M.length ≤ 8 := fun h => hok ⟨rfl, h⟩
        omega
      clear hbl
      go_wp2_with fail
      refine (known_any w2).mono ?_
      rintro e w3 ⟨rfl, hb⟩
      have HB3 := Lib.hid (HB2.out.trans (hb.mono (by omega)))
      clear hb
      go_wp2_with fail
      go_ret
      exact ⟨rfl, HB3.out⟩
end Go.Proofs.Ytepcihfkkeahhaa
