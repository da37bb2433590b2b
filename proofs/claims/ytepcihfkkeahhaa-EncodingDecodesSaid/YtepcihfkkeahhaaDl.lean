/- EncodingDecodes: the call (written by wip/bin/gen_dl.py). -/
import Derived.Test.YtepcihfkkeahhaaFg
import Derived.Test.YtepcihfkkeahhaaDg
import Derived.Test.YtepcihfkkeahhaaRx
namespace Go.Proofs.Ytepcihfkkeahhaa
open Go.ChangeShapes Go.WideShapes Go.ChangeAt Go.RowKit En

theorem below_qb {w w' : World} {b B : Nat} (g : Gq w w' (qb b)) (hb : B ≤ b) (hB : B ≤ w.heap.size) : Below B w w' :=
  ⟨g.os, g.tape, g.output, g.size, fun i hi => g.block i (by omega) (fun e => by simp at e; omega)⟩
def FrB (w : World) (B : Nat) (A : Option Addr) (L : List Sv) (A2 : Option Addr) (M : List Ex) : Prop :=
  (∀ x ∈ L, x.1.Has w B x.2.1 x.2.2) ∧ Rs w B A (spCells L) ∧ Rs w B A2 (exCells M)
theorem FrB.below {w w' : World} {B : Nat} {A A2 : Option Addr} {L : List Sv} {M : List Ex} (h : FrB w B A L A2 M) (hb : Below B w w') : FrB w' B A L A2 M :=
  ⟨fun x hx => (h.1 x hx).below hb, h.2.1.below hb, h.2.2.below hb⟩
theorem FrB.more {w : World} {B C : Nat} {A A2 : Option Addr} {L : List Sv} {M : List Ex} (h : FrB w B A L A2 M) (hb : B ≤ C) : FrB w C A L A2 M :=
  ⟨fun x hx => (h.1 x hx).more hb, h.2.1.more hb, h.2.2.more hb⟩
theorem fit_len {s : Sp} {L : List Sp} (h : s ∈ L) {n : Nat} (hl : (L.flatMap Sp.form).length ≤ n) : s.form.length ≤ n := Nat.le_trans (flat_le h) hl
theorem span_facts (s : ByteArray) (hs : s.size ≤ 400) : ∃ (x : Sp) (E : Int) (X : ByteArray), (E = 0 → X = s) ∧ (E ≠ 0 → X = bytesOf spZ.form) ∧ E = endE s (rdspan s (0, 0)).2 ∧ (∀ W, Calls Try.prog 27 #[.string s] W (DecSPost W x E)) ∧
    (∀ va vl W, x.Has W W.heap.size va vl → Calls Try.prog 28 #[.agg (x.cells va vl)] W fun e w' => e = .returned (.string X) ∧ Below W.heap.size W w') ∧
    (E = 0 → ∀ va vl W, (rdspan s (0, 0)).1.Has W W.heap.size va vl → Calls Try.prog 28 #[.agg ((rdspan s (0, 0)).1.cells va vl)] W fun e w' => e = .returned (.string s) ∧ Below W.heap.size W w') := by
  have hd := fun W => decodeSpan_gen s (by omega) W
  by_cases he : endE s (rdspan s (0, 0)).2 = 0
  · obtain ⟨h1, h2, h3⟩ := span_full he
    have hl : (rdspan s (0, 0)).1.form.length ≤ 100000 := by
      have := congrArg ByteArray.size h2
      rw [bytesOf_size] at this; omega
    have hr : ∀ va vl W, (rdspan s (0, 0)).1.Has W W.heap.size va vl → Calls Try.prog 28 #[.agg ((rdspan s (0, 0)).1.cells va vl)] W fun e w' => e = .returned (.string s) ∧ Below W.heap.size W w' := fun va vl W hR => by
      have h := ref_span (rdspan s (0, 0)).1 (Sp.fit_of h3 hl).1 va vl W hR
      rw [h2] at h
      exact h
    simp only [if_pos he] at hd
    exact ⟨_, _, s, fun _ => rfl, fun h => absurd he h, rfl, hd, hr, fun _ => hr⟩
  · simp only [if_neg he] at hd
    exact ⟨spZ, _, bytesOf spZ.form, fun h => absurd h he, fun _ => rfl, rfl, hd, fun va vl W hR => ref_span spZ spZ_ok va vl W hR, fun h => absurd h he⟩
theorem frag_facts (s : ByteArray) (hs : s.size ≤ 400) : ∃ (V : Int × Int × List Sp × List Ex) (E : Int) (X : ByteArray), (E = 0 → X = s) ∧ (E ≠ 0 → X = bytesOf (fragF 0 0 [] [])) ∧ (∀ W, Calls Try.prog 32 #[.string s] W (DecFPost W V E)) ∧
    (∀ L A c A2 c2 W, L.map Prod.fst = V.2.2.1 → FrB W W.heap.size A L A2 V.2.2.2 → Calls Try.prog 34 #[.agg #[.int .i64 V.1, .int .i64 V.2.1, .slice A L.length c, .slice A2 V.2.2.2.length c2]] W fun e w' => e = .returned (.string X) ∧ Below W.heap.size W w') := by
  have hd := fun W => decodeFragment_any s (by omega) W
  by_cases he : endE s (rdfrag s (0, 0)).2 = 0
  · obtain ⟨k1, k2⟩ := end_ok he
    obtain ⟨_, h3, h4, o1, o2, ⟨o3, o4⟩, o5, o6⟩ := snd_frag s (0, 0) k1
    simp only [if_pos he] at hd
    obtain ⟨V, hV⟩ : ∃ V, V = (rdfrag s (0, 0)).1 := ⟨_, rfl⟩
    rw [← hV] at h3 h4 o1 o2 o3 o4 o5 o6
    simp only [← hV] at hd
    dsimp only at h3 h4
    have h5 := h3.all (by rw [Nat.zero_add] at h4; omega)
    have h6 := h3.le
    simp only [List.length_append] at h6
    refine ⟨V, _, s, fun _ => rfl, fun h => absurd he h, hd, fun L A c A2 c2 W hL hR => ?_⟩
    have hfl : spForms L = V.2.2.1.flatMap Sp.form := by rw [spForms_map, hL]
    have hll : L.length = V.2.2.1.length := by rw [← hL, List.length_map]
    have hF : FOk L V.2.2.2 := ⟨by omega, by rw [hfl]; omega, o5, by show (V.2.2.2.flatMap exF).length ≤ 200000; omega, fun x hx => by
      have hm : x.1 ∈ V.2.2.1 := by rw [← hL]; exact List.mem_map_of_mem hx
      exact Sp.fit_of (o4 _ hm) (fit_len hm (by omega)), o6⟩
    have h := refF o1 o2 hF L rfl A c A2 c2 W hR
    have e : fragF V.1 V.2.1 L V.2.2.2 = num V.1 ++ (num V.2.1 ++ ((num V.2.2.1.length ++ V.2.2.1.flatMap Sp.form) ++ (num V.2.2.2.length ++ V.2.2.2.flatMap exF))) := by
      unfold fragF; rw [hfl, hll]; rfl
    rw [e, h5] at h
    exact h
  · simp only [if_neg he] at hd
    refine ⟨(0, 0, [], []), _, bytesOf (fragF 0 0 [] []), fun h => absurd h he, fun _ => rfl, hd, fun L A c A2 c2 W hL hR => ?_⟩
    have hl : L = [] := by simpa using hL
    subst hl
    exact refF ⟨by decide, by decide⟩ ⟨by decide, by decide⟩ ⟨Nat.zero_le _, Nat.zero_le _, Nat.zero_le _, Nat.zero_le _, fun x hx => absurd hx (by simp), fun x hx => absurd hx (by simp)⟩ [] rfl A c A2 c2 W hR
theorem trace_facts (s : ByteArray) (hs : s.size ≤ 400) : ∃ (V : Int × Int × List Sp) (E : Int) (X : ByteArray), (E = 0 → X = s) ∧ (E ≠ 0 → X = bytesOf (traceF 0 0 [])) ∧ (∀ W, Calls Try.prog 33 #[.string s] W (DecTPost W V E)) ∧
    (∀ L A c W, L.map Prod.fst = V.2.2 → FrB W W.heap.size A L none [] → Calls Try.prog 35 #[.agg #[.int .i64 V.1, .int .i64 V.2.1, .slice A L.length c]] W fun e w' => e = .returned (.string X) ∧ Below W.heap.size W w') := by
  have hd := fun W => decodeTrace_any s (by omega) W
  by_cases he : endE s (rdtrace s (0, 0)).2 = 0
  · obtain ⟨k1, k2⟩ := end_ok he
    obtain ⟨_, h3, h4, o1, o2, o3, o4⟩ := snd_trace s (0, 0) k1
    simp only [if_pos he] at hd
    obtain ⟨V, hV⟩ : ∃ V, V = (rdtrace s (0, 0)).1 := ⟨_, rfl⟩
    rw [← hV] at h3 h4 o1 o2 o3 o4
    simp only [← hV] at hd
    dsimp only at h3 h4
    have h5 := h3.all (by rw [Nat.zero_add] at h4; omega)
    have h6 := h3.le
    simp only [List.length_append] at h6
    refine ⟨V, _, s, fun _ => rfl, fun h => absurd he h, hd, fun L A c W hL hR => ?_⟩
    have hfl : spForms L = V.2.2.flatMap Sp.form := by rw [spForms_map, hL]
    have hll : L.length = V.2.2.length := by rw [← hL, List.length_map]
    have hF : FOk L [] := ⟨by omega, by rw [hfl]; omega, Nat.zero_le _, Nat.zero_le _, fun x hx => by
      have hm : x.1 ∈ V.2.2 := by rw [← hL]; exact List.mem_map_of_mem hx
      exact Sp.fit_of (o4 _ hm) (fit_len hm (by omega)), fun x hx => absurd hx (by simp)⟩
    have h := refT o1 o2 hF L rfl A c none [] W hR
    have e : traceF V.1 V.2.1 L = num V.1 ++ (num V.2.1 ++ (num V.2.2.length ++ V.2.2.flatMap Sp.form)) := by
      unfold traceF; rw [hfl, hll]
    rw [e, h5] at h
    exact h
  · simp only [if_neg he] at hd
    refine ⟨(0, 0, []), _, bytesOf (traceF 0 0 []), fun h => absurd h he, fun _ => rfl, hd, fun L A c W hL hR => ?_⟩
    have hl : L = [] := by simpa using hL
    subst hl
    exact refT (M := []) ⟨by decide, by decide⟩ ⟨by decide, by decide⟩ ⟨Nat.zero_le _, Nat.zero_le _, Nat.zero_le _, Nat.zero_le _, fun x hx => absurd hx (by simp), fun x hx => absurd hx (by simp)⟩ [] rfl A c none [] W hR
set_option maxRecDepth 100000 in
set_option maxHeartbeats 8000000 in
theorem decodes_any (s : ByteArray) (hs : s.size ≤ 400) (w : World) :
    Calls Try.prog 9 #[.string s] w fun e w' => e = .returned (.bool true) ∧ Below w.heap.size w w' := by
  obtain ⟨x, E1, X1, e1a, e1b, e1c, hd1, hr1, hr1'⟩ := span_facts s hs
  obtain ⟨V2, E2, X2, e2a, e2b, hd2, hr2⟩ := frag_facts s hs
  obtain ⟨V3, E3, X3, e3a, e3b, hd3, hr3⟩ := trace_facts s hs
  have hz1 := fun W => ref_span spZ spZ_ok (.slice none 0 0) (.slice none 0 0) W (zero_has _ _)
  have hz2 := fun W => refF (a := 0) (q := 0) (L := []) (M := []) ⟨by decide, by decide⟩ ⟨by decide, by decide⟩ ⟨Nat.zero_le _, Nat.zero_le _, Nat.zero_le _, Nat.zero_le _, fun x hx => absurd hx (by simp), fun x hx => absurd hx (by simp)⟩ [] rfl none 0 none 0 W ⟨fun x hx => absurd hx (by simp), Rs.nil, Rs.nil⟩
  have hz3 := fun W => refT (a := 0) (q := 0) (L := []) (M := []) ⟨by decide, by decide⟩ ⟨by decide, by decide⟩ ⟨Nat.zero_le _, Nat.zero_le _, Nat.zero_le _, Nat.zero_le _, fun x hx => absurd hx (by simp), fun x hx => absurd hx (by simp)⟩ [] rfl none 0 none [] W ⟨fun x hx => absurd hx (by simp), Rs.nil, Rs.nil⟩
  obtain ⟨Z1, hZ1⟩ : ∃ Z, Z = bytesOf spZ.form := ⟨_, rfl⟩
  obtain ⟨Z2, hZ2⟩ : ∃ Z, Z = bytesOf (fragF 0 0 [] []) := ⟨_, rfl⟩
  obtain ⟨Z3, hZ3⟩ : ∃ Z, Z = bytesOf (traceF 0 0 []) := ⟨_, rfl⟩
  rw [← hZ1] at e1b
  rw [← hZ2] at e2b
  rw [← hZ3] at e3b
  simp only [← hZ1] at hz1
  simp only [← hZ2] at hz2
  simp only [← hZ3] at hz3
  have hrs := fun W b h => rr_span b s (0, 0) (by omega) W h
  have hre := fun W b h => rr_end b s (rdspan s (0, 0)).2 (by omega) W h
  simp only [← e1c] at hre
  obtain ⟨R, hR⟩ : ∃ R, R = rdspan s (0, 0) := ⟨_, rfl⟩
  simp only [← hR] at hrs hre hr1'
  clear hR e1c hZ1 hZ2 hZ3
  obtain ⟨tx, ix, px, rx, cx, kx, svx, vex, opx, stx, enx, erx, alx, lsx⟩ := x
  obtain ⟨⟨ty, iy, py, ry, cy, ky, svy, vey, opy, sty, eny, ery, aly, lsy⟩, sty⟩ := R
  obtain ⟨fa, fq, fL, fM⟩ := V2
  obtain ⟨ta, tq, tL⟩ := V3
  unfold spZ Sp.cells at hz1
  unfold Sp.cells at hr1 hr1' hrs
  unfold DecSPost Sp.cells at hd1
  unfold DecFPost at hd2
  unfold DecTPost at hd3
  dsimp only at hz1 hr1 hr1' hrs hre hd1 hd2 hd3 hr2 hr3
  have Hd1 := Lib.hid hd1
  have Hd2 := Lib.hid hd2
  have Hd3 := Lib.hid hd3
  have Hr1 := Lib.hid hr1
  have Hr1' := Lib.hid hr1'
  have Hr2 := Lib.hid hr2
  have Hr3 := Lib.hid hr3
  have Hz1 := Lib.hid hz1
  have Hz2 := Lib.hid hz2
  have Hz3 := Lib.hid hz3
  have Hrs := Lib.hid hrs
  have Hre := Lib.hid hre
  have E1a := Lib.hid e1a
  have E1b := Lib.hid e1b
  have E2a := Lib.hid e2a
  have E2b := Lib.hid e2b
  have E3a := Lib.hid e3a
  have E3b := Lib.hid e3b
  clear hd1 hd2 hd3 hr1 hr1' hr2 hr3 hz1 hz2 hz3 hrs hre e1a e1b e2a e2b e3a e3b
  have hs' : ¬ (400 : Int) < (s.size : Int) := by omega
  go_enter Try.func9, Try.ntmps9
  go_wp2_with fail
  refine (known_any w).mono ?_
  rintro e w1 ⟨rfl, hb⟩
  have HB1 := Lib.hid hb
  have hs1 := hb.size
  clear hb
  go_wp2_with fail
  refine (Hd1.out w1).mono ?_
  rintro e w2 ⟨⟨va, vl, rfl, hq⟩, hb⟩
  obtain ⟨A1, c1, A2, c2, rfl, rfl, q1, q2⟩ := hq
  dsimp only at q1 q2 ⊢
  have hs2 := hb.size
  have HB2 := Lib.hid (HB1.out.trans (hb.mono (by omega)))
  have HX2 : Hid (Sp.Has w2 w2.heap.size ⟨tx, ix, px, rx, cx, kx, svx, vex, opx, stx, enx, erx, alx, lsx⟩ (.slice A1 alx.length c1) (.slice A2 lsx.length c2)) := Lib.hid ⟨A1, c1, A2, c2, rfl, rfl, q1.rs, q2.rs⟩
  have HAx : Hid (Below w2.heap.size w2 (w2.alloc (.cells #[.int .i64 tx, .int .i64 ix, .int .i64 px, .int .i64 rx, .int .i64 cx, .int .i64 kx, .string svx, .string vex, .string opx, .int .i64 stx, .int .i64 enx, .bool erx, .slice A1 alx.length c1, .slice A2 lsx.length c2] 54))) := Lib.hid ((Below.refl _ _).alloc (Nat.le_refl _) _)
  have Hxb : Hid ((w2.alloc (.cells #[.int .i64 tx, .int .i64 ix, .int .i64 px, .int .i64 rx, .int .i64 cx, .int .i64 kx, .string svx, .string vex, .string opx, .int .i64 stx, .int .i64 enx, .bool erx, .slice A1 alx.length c1, .slice A2 lsx.length c2] 54)).heap[w2.heap.size]? = some (.cells #[.int .i64 tx, .int .i64 ix, .int .i64 px, .int .i64 rx, .int .i64 cx, .int .i64 kx, .string svx, .string vex, .string opx, .int .i64 stx, .int .i64 enx, .bool erx, .slice A1 alx.length c1, .slice A2 lsx.length c2] 54 (0, 0))) := Lib.hid (Deep.blk_alloc_new w2 _)
  clear hb q1 q2
  go_wp2_with fail
  refine (Hd2.out _).mono ?_
  rintro e w3 ⟨⟨A3, c3, L3, A4, c4, hL3, rfl, hS3, hE3⟩, hb⟩
  have hs3 : w2.heap.size < w3.heap.size := by have := hb.size; simp at this; omega
  have HB23 := Lib.hid (HAx.out.trans (hb.mono (by simp)))
  have HB3 := Lib.hid (HB2.out.trans (HB23.out.mono (by omega)))
  have HX3 := Lib.hid ((HX2.out.below HB23.out).more (Nat.le_of_lt hs3))
  have Hxb3 := Lib.hid ((hb.block w2.heap.size (by simp)).trans Hxb.out)
  have HF3 : Hid (FrB w3 w3.heap.size A3 L3 A4 fM) := Lib.hid (Fr.svs hS3 hE3)
  have HL3 := Lib.hid hL3
  have HAf : Hid (Below w3.heap.size w3 (w3.alloc (.cells #[.int .i64 fa, .int .i64 fq, .slice A3 L3.length c3, .slice A4 fM.length c4] 62))) := Lib.hid ((Below.refl _ _).alloc (Nat.le_refl _) _)
  have Hfb : Hid ((w3.alloc (.cells #[.int .i64 fa, .int .i64 fq, .slice A3 L3.length c3, .slice A4 fM.length c4] 62)).heap[w3.heap.size]? = some (.cells #[.int .i64 fa, .int .i64 fq, .slice A3 L3.length c3, .slice A4 fM.length c4] 62 (0, 0))) := Lib.hid (Deep.blk_alloc_new w3 _)
  clear hb hL3 hS3 hE3
  go_wp2_with fail
  refine (Hd3.out _).mono ?_
  rintro e w4 ⟨⟨A5, c5, L5, hL5, rfl, hS5⟩, hb⟩
  have hs4 : w3.heap.size < w4.heap.size := by have := hb.size; simp at this; omega
  have HB34 := Lib.hid (HAf.out.trans (hb.mono (by simp)))
  have HB4 := Lib.hid (HB3.out.trans (HB34.out.mono (by omega)))
  have HX4 := Lib.hid ((HX3.out.below HB34.out).more (Nat.le_of_lt hs4))
  have HF4 := Lib.hid ((HF3.out.below HB34.out).more (Nat.le_of_lt hs4))
  have Hxb4 := Lib.hid ((HB34.out.block w2.heap.size hs3).trans Hxb3.out)
  have Hfb4 := Lib.hid ((hb.block w3.heap.size (by simp)).trans Hfb.out)
  have HT4 : Hid (FrB w4 w4.heap.size A5 L5 none []) := Lib.hid (Fr.svs0 hS5)
  have HL5 := Lib.hid hL5
  have HAt : Hid (Below w4.heap.size w4 ((w4.alloc (.cells #[.int .i64 ta, .int .i64 tq, .slice A5 L5.length c5] 65)).alloc (.cells #[.string s, .int .i64 0, .int .i64 0] 37))) := Lib.hid (((Below.refl _ _).alloc (Nat.le_refl _) _).alloc (by simp) _)
  have Htb : Hid (((w4.alloc (.cells #[.int .i64 ta, .int .i64 tq, .slice A5 L5.length c5] 65)).alloc (.cells #[.string s, .int .i64 0, .int .i64 0] 37)).heap[w4.heap.size]? = some (.cells #[.int .i64 ta, .int .i64 tq, .slice A5 L5.length c5] 65 (0, 0))) := Lib.hid ((Deep.blk_alloc_lt _ _ _ (by simp)).trans (Deep.blk_alloc_new w4 _))
  have Hqb : Hid (RR ((w4.alloc (.cells #[.int .i64 ta, .int .i64 tq, .slice A5 L5.length c5] 65)).alloc (.cells #[.string s, .int .i64 0, .int .i64 0] 37)) (w4.heap.size + 1) s (0, 0)) := Lib.hid ⟨blk_second w4 _ _, Nat.zero_le _⟩
  have hsz4 : ((w4.alloc (.cells #[.int .i64 ta, .int .i64 tq, .slice A5 L5.length c5] 65)).alloc (.cells #[.string s, .int .i64 0, .int .i64 0] 37)).heap.size = w4.heap.size + 2 := by simp
  have Hsz4 := Lib.hid hsz4
  clear hb hL5 hS5 hsz4
  go_wp2_with fail
  refine (Hrs.out _ _ Hqb.out).mono ?_
  rintro e w5 ⟨⟨vb, vm, rfl, hq⟩, hRR, hg⟩
  obtain ⟨A7, c7, A8, c8, rfl, rfl, q1, q2⟩ := hq
  dsimp only at q1 q2 ⊢
  have hb0 := below_qb (B := w4.heap.size + 1) hg (Nat.le_refl _) (by rw [Hsz4.out]; omega)
  have hs5 : w4.heap.size + 1 < w5.heap.size := by have := hg.size; rw [Hsz4.out] at this; omega
  have HB45 := Lib.hid (HAt.out.trans (hb0.mono (by omega)))
  have HB5 := Lib.hid (HB4.out.trans (HB45.out.mono (by omega)))
  have HX5 := Lib.hid ((HX4.out.below HB45.out).more (show w4.heap.size ≤ w5.heap.size by omega))
  have HF5 := Lib.hid ((HF4.out.below HB45.out).more (show w4.heap.size ≤ w5.heap.size by omega))
  have HT5 := Lib.hid ((HT4.out.below HB45.out).more (show w4.heap.size ≤ w5.heap.size by omega))
  have Hxb5 := Lib.hid ((HB45.out.block w2.heap.size (by omega)).trans Hxb4.out)
  have Hfb5 := Lib.hid ((HB45.out.block w3.heap.size (by omega)).trans Hfb4.out)
  have Htb5 := Lib.hid ((hb0.block w4.heap.size (by omega)).trans Htb.out)
  have HRR5 := Lib.hid hRR
  have HY5 : Hid (Sp.Has w5 w5.heap.size ⟨ty, iy, py, ry, cy, ky, svy, vey, opy, sty, eny, ery, aly, lsy⟩ (.slice A7 aly.length c7) (.slice A8 lsy.length c8)) := Lib.hid ⟨A7, c7, A8, c8, rfl, rfl, q1, q2⟩
  have HAy : Hid (Below w5.heap.size w5 (w5.alloc (.cells #[.int .i64 ty, .int .i64 iy, .int .i64 py, .int .i64 ry, .int .i64 cy, .int .i64 ky, .string svy, .string vey, .string opy, .int .i64 sty, .int .i64 eny, .bool ery, .slice A7 aly.length c7, .slice A8 lsy.length c8] 54))) := Lib.hid ((Below.refl _ _).alloc (Nat.le_refl _) _)
  have Hyb : Hid ((w5.alloc (.cells #[.int .i64 ty, .int .i64 iy, .int .i64 py, .int .i64 ry, .int .i64 cy, .int .i64 ky, .string svy, .string vey, .string opy, .int .i64 sty, .int .i64 eny, .bool ery, .slice A7 aly.length c7, .slice A8 lsy.length c8] 54)).heap[w5.heap.size]? = some (.cells #[.int .i64 ty, .int .i64 iy, .int .i64 py, .int .i64 ry, .int .i64 cy, .int .i64 ky, .string svy, .string vey, .string opy, .int .i64 sty, .int .i64 eny, .bool ery, .slice A7 aly.length c7, .slice A8 lsy.length c8] 54 (0, 0))) := Lib.hid (Deep.blk_alloc_new w5 _)
  clear hb0 hRR hg q1 q2
  go_wp2_with fail
  refine (Hre.out _ _ ⟨(HAy.out.block (w4.heap.size + 1) hs5).trans HRR5.out.1, HRR5.out.2⟩).mono ?_
  rintro e w6 ⟨rfl, hb⟩
  have hs6 : w5.heap.size < w6.heap.size := by have := hb.size; simp at this; omega
  have HB56 := Lib.hid (HAy.out.trans (hb.mono (by simp)))
  have HB6 := Lib.hid (HB5.out.trans (HB56.out.mono (by omega)))
  have HX6 := Lib.hid ((HX5.out.below HB56.out).more (Nat.le_of_lt hs6))
  have HY6 := Lib.hid ((HY5.out.below HB56.out).more (Nat.le_of_lt hs6))
  have HF6 := Lib.hid ((HF5.out.below HB56.out).more (Nat.le_of_lt hs6))
  have HT6 := Lib.hid ((HT5.out.below HB56.out).more (Nat.le_of_lt hs6))
  have Hxb6 := Lib.hid ((HB56.out.block w2.heap.size (by omega)).trans Hxb5.out)
  have Hfb6 := Lib.hid ((HB56.out.block w3.heap.size (by omega)).trans Hfb5.out)
  have Htb6 := Lib.hid ((HB56.out.block w4.heap.size (by omega)).trans Htb5.out)
  have Hyb6 := Lib.hid ((hb.block w5.heap.size (by simp)).trans Hyb.out)
  have hg2 : w2.heap.size < w6.heap.size := by omega
  have hg3 : w3.heap.size < w6.heap.size := by omega
  have hg4 : w4.heap.size < w6.heap.size := by omega
  clear hb
  by_cases hE1 : E1 = 0
  · subst hE1
    have hX1 := E1a.out rfl
    subst hX1
    have Hy := Lib.hid (Hr1'.out rfl)
    have x0 := cell_of_row w6 w2.heap.size 0 _ _ _ Hxb6.out
    have x1 := cell_of_row w6 w2.heap.size 1 _ _ _ Hxb6.out
    have x2 := cell_of_row w6 w2.heap.size 2 _ _ _ Hxb6.out
    have x3 := cell_of_row w6 w2.heap.size 3 _ _ _ Hxb6.out
    have x4 := cell_of_row w6 w2.heap.size 4 _ _ _ Hxb6.out
    have x5 := cell_of_row w6 w2.heap.size 5 _ _ _ Hxb6.out
    have x6 := cell_of_row w6 w2.heap.size 6 _ _ _ Hxb6.out
    have x7 := cell_of_row w6 w2.heap.size 7 _ _ _ Hxb6.out
    have x8 := cell_of_row w6 w2.heap.size 8 _ _ _ Hxb6.out
    have x9 := cell_of_row w6 w2.heap.size 9 _ _ _ Hxb6.out
    have x10 := cell_of_row w6 w2.heap.size 10 _ _ _ Hxb6.out
    have x11 := cell_of_row w6 w2.heap.size 11 _ _ _ Hxb6.out
    have x12 := cell_of_row w6 w2.heap.size 12 _ _ _ Hxb6.out
    have x13 := cell_of_row w6 w2.heap.size 13 _ _ _ Hxb6.out
    go_wp2_with fail
    refine (Hr1.out _ _ w6 HX6.out).mono ?_
    rintro e w7 ⟨rfl, hb⟩
    have hs7 := hb.size
    have HB7 := Lib.hid (HB6.out.trans (hb.mono (by omega)))
    have HY7 := Lib.hid ((HY6.out.below hb).more hb.size)
    have HF7 := Lib.hid ((HF6.out.below hb).more hb.size)
    have HT7 := Lib.hid ((HT6.out.below hb).more hb.size)
    have Hfb7 := Lib.hid ((hb.block w3.heap.size (by omega)).trans Hfb6.out)
    have Htb7 := Lib.hid ((hb.block w4.heap.size (by omega)).trans Htb6.out)
    have Hyb7 := Lib.hid ((hb.block w5.heap.size (by omega)).trans Hyb6.out)
    clear hb
    clear x0 x1 x2 x3 x4 x5 x6 x7 x8 x9 x10 x11 x12 x13
    have y0 := cell_of_row w7 w5.heap.size 0 _ _ _ Hyb7.out
    have y1 := cell_of_row w7 w5.heap.size 1 _ _ _ Hyb7.out
    have y2 := cell_of_row w7 w5.heap.size 2 _ _ _ Hyb7.out
    have y3 := cell_of_row w7 w5.heap.size 3 _ _ _ Hyb7.out
    have y4 := cell_of_row w7 w5.heap.size 4 _ _ _ Hyb7.out
    have y5 := cell_of_row w7 w5.heap.size 5 _ _ _ Hyb7.out
    have y6 := cell_of_row w7 w5.heap.size 6 _ _ _ Hyb7.out
    have y7 := cell_of_row w7 w5.heap.size 7 _ _ _ Hyb7.out
    have y8 := cell_of_row w7 w5.heap.size 8 _ _ _ Hyb7.out
    have y9 := cell_of_row w7 w5.heap.size 9 _ _ _ Hyb7.out
    have y10 := cell_of_row w7 w5.heap.size 10 _ _ _ Hyb7.out
    have y11 := cell_of_row w7 w5.heap.size 11 _ _ _ Hyb7.out
    have y12 := cell_of_row w7 w5.heap.size 12 _ _ _ Hyb7.out
    have y13 := cell_of_row w7 w5.heap.size 13 _ _ _ Hyb7.out
    go_wp2_with fail
    refine (Hy.out _ _ w7 HY7.out).mono ?_
    rintro e w8 ⟨rfl, hb⟩
    have hs8 := hb.size
    have HB8 := Lib.hid (HB7.out.trans (hb.mono (by omega)))
    have HF8 := Lib.hid ((HF7.out.below hb).more hb.size)
    have HT8 := Lib.hid ((HT7.out.below hb).more hb.size)
    have Hfb8 := Lib.hid ((hb.block w3.heap.size (by omega)).trans Hfb7.out)
    have Htb8 := Lib.hid ((hb.block w4.heap.size (by omega)).trans Htb7.out)
    clear hb
    clear y0 y1 y2 y3 y4 y5 y6 y7 y8 y9 y10 y11 y12 y13
    by_cases hE2 : E2 = 0
    · subst hE2
      have hX2 := E2a.out rfl
      subst hX2
      have f0 := cell_of_row w8 w3.heap.size 0 _ _ _ Hfb8.out
      have f1 := cell_of_row w8 w3.heap.size 1 _ _ _ Hfb8.out
      have f2 := cell_of_row w8 w3.heap.size 2 _ _ _ Hfb8.out
      have f3 := cell_of_row w8 w3.heap.size 3 _ _ _ Hfb8.out
      go_wp2_with fail
      refine (Hr2.out L3 A3 c3 A4 c4 w8 HL3.out HF8.out).mono ?_
      rintro e w9 ⟨rfl, hb⟩
      have hs9 := hb.size
      have HB9 := Lib.hid (HB8.out.trans (hb.mono (by omega)))
      have HT9 := Lib.hid ((HT8.out.below hb).more hb.size)
      have Htb9 := Lib.hid ((hb.block w4.heap.size (by omega)).trans Htb8.out)
      clear hb
      clear f0 f1 f2 f3
      by_cases hE3 : E3 = 0
      · subst hE3
        have hX3 := E3a.out rfl
        subst hX3
        have g0 := cell_of_row w9 w4.heap.size 0 _ _ _ Htb9.out
        have g1 := cell_of_row w9 w4.heap.size 1 _ _ _ Htb9.out
        have g2 := cell_of_row w9 w4.heap.size 2 _ _ _ Htb9.out
        go_wp2_with fail
        refine (Hr3.out L5 A5 c5 w9 HL5.out HT9.out).mono ?_
        rintro e wA ⟨rfl, hb⟩
        have hsA := hb.size
        have HBA := Lib.hid (HB9.out.trans (hb.mono (by omega)))
        clear hb
        go_wp2_with fail
        go_ret
        exact ⟨rfl, HBA.out⟩
      · have hX3 := E3b.out hE3
        subst hX3
        have hE3' : (E3 == (0 : Int)) = false := by simpa using hE3
        have hE3'' : (E3 != (0 : Int)) = true := by simpa using hE3
        have g0 := cell_of_row w9 w4.heap.size 0 _ _ _ Htb9.out
        have g1 := cell_of_row w9 w4.heap.size 1 _ _ _ Htb9.out
        have g2 := cell_of_row w9 w4.heap.size 2 _ _ _ Htb9.out
        go_wp2_with fail
        refine (Hr3.out L5 A5 c5 w9 HL5.out HT9.out).mono ?_
        rintro e wA ⟨rfl, hb⟩
        have hsA := hb.size
        have HBA := Lib.hid (HB9.out.trans (hb.mono (by omega)))
        clear hb
        clear g0 g1 g2
        go_wp2_with fail
        refine (Hz3.out wA).mono ?_
        rintro e wB ⟨rfl, hb⟩
        have hsB := hb.size
        have HBB := Lib.hid (HBA.out.trans (hb.mono (by omega)))
        clear hb
        go_wp2_with fail
        go_ret
        exact ⟨rfl, HBB.out⟩
    · have hX2 := E2b.out hE2
      subst hX2
      have hE2' : (E2 == (0 : Int)) = false := by simpa using hE2
      have hE2'' : (E2 != (0 : Int)) = true := by simpa using hE2
      have f0 := cell_of_row w8 w3.heap.size 0 _ _ _ Hfb8.out
      have f1 := cell_of_row w8 w3.heap.size 1 _ _ _ Hfb8.out
      have f2 := cell_of_row w8 w3.heap.size 2 _ _ _ Hfb8.out
      have f3 := cell_of_row w8 w3.heap.size 3 _ _ _ Hfb8.out
      go_wp2_with fail
      refine (Hr2.out L3 A3 c3 A4 c4 w8 HL3.out HF8.out).mono ?_
      rintro e w9' ⟨rfl, hb⟩
      have hs9' := hb.size
      have HB9' := Lib.hid (HB8.out.trans (hb.mono (by omega)))
      have HT9' := Lib.hid ((HT8.out.below hb).more hb.size)
      have Htb9' := Lib.hid ((hb.block w4.heap.size (by omega)).trans Htb8.out)
      clear hb
      clear f0 f1 f2 f3
      go_wp2_with fail
      refine (Hz2.out w9').mono ?_
      rintro e w9 ⟨rfl, hb⟩
      have hs9 := hb.size
      have HB9 := Lib.hid (HB9'.out.trans (hb.mono (by omega)))
      have HT9 := Lib.hid ((HT9'.out.below hb).more hb.size)
      have Htb9 := Lib.hid ((hb.block w4.heap.size (by omega)).trans Htb9'.out)
      clear hb
      by_cases hE3 : E3 = 0
      · subst hE3
        have hX3 := E3a.out rfl
        subst hX3
        have g0 := cell_of_row w9 w4.heap.size 0 _ _ _ Htb9.out
        have g1 := cell_of_row w9 w4.heap.size 1 _ _ _ Htb9.out
        have g2 := cell_of_row w9 w4.heap.size 2 _ _ _ Htb9.out
        go_wp2_with fail
        refine (Hr3.out L5 A5 c5 w9 HL5.out HT9.out).mono ?_
        rintro e wA ⟨rfl, hb⟩
        have hsA := hb.size
        have HBA := Lib.hid (HB9.out.trans (hb.mono (by omega)))
        clear hb
        go_wp2_with fail
        go_ret
        exact ⟨rfl, HBA.out⟩
      · have hX3 := E3b.out hE3
        subst hX3
        have hE3' : (E3 == (0 : Int)) = false := by simpa using hE3
        have hE3'' : (E3 != (0 : Int)) = true := by simpa using hE3
        have g0 := cell_of_row w9 w4.heap.size 0 _ _ _ Htb9.out
        have g1 := cell_of_row w9 w4.heap.size 1 _ _ _ Htb9.out
        have g2 := cell_of_row w9 w4.heap.size 2 _ _ _ Htb9.out
        go_wp2_with fail
        refine (Hr3.out L5 A5 c5 w9 HL5.out HT9.out).mono ?_
        rintro e wA ⟨rfl, hb⟩
        have hsA := hb.size
        have HBA := Lib.hid (HB9.out.trans (hb.mono (by omega)))
        clear hb
        clear g0 g1 g2
        go_wp2_with fail
        refine (Hz3.out wA).mono ?_
        rintro e wB ⟨rfl, hb⟩
        have hsB := hb.size
        have HBB := Lib.hid (HBA.out.trans (hb.mono (by omega)))
        clear hb
        go_wp2_with fail
        go_ret
        exact ⟨rfl, HBB.out⟩
  · have hX1 := E1b.out hE1
    subst hX1
    have hE1' : (E1 == (0 : Int)) = false := by simpa using hE1
    have hE1'' : (E1 != (0 : Int)) = true := by simpa using hE1
    have x0 := cell_of_row w6 w2.heap.size 0 _ _ _ Hxb6.out
    have x1 := cell_of_row w6 w2.heap.size 1 _ _ _ Hxb6.out
    have x2 := cell_of_row w6 w2.heap.size 2 _ _ _ Hxb6.out
    have x3 := cell_of_row w6 w2.heap.size 3 _ _ _ Hxb6.out
    have x4 := cell_of_row w6 w2.heap.size 4 _ _ _ Hxb6.out
    have x5 := cell_of_row w6 w2.heap.size 5 _ _ _ Hxb6.out
    have x6 := cell_of_row w6 w2.heap.size 6 _ _ _ Hxb6.out
    have x7 := cell_of_row w6 w2.heap.size 7 _ _ _ Hxb6.out
    have x8 := cell_of_row w6 w2.heap.size 8 _ _ _ Hxb6.out
    have x9 := cell_of_row w6 w2.heap.size 9 _ _ _ Hxb6.out
    have x10 := cell_of_row w6 w2.heap.size 10 _ _ _ Hxb6.out
    have x11 := cell_of_row w6 w2.heap.size 11 _ _ _ Hxb6.out
    have x12 := cell_of_row w6 w2.heap.size 12 _ _ _ Hxb6.out
    have x13 := cell_of_row w6 w2.heap.size 13 _ _ _ Hxb6.out
    go_wp2_with fail
    refine (Hr1.out _ _ w6 HX6.out).mono ?_
    rintro e w7 ⟨rfl, hb⟩
    have hs7 := hb.size
    have HB7 := Lib.hid (HB6.out.trans (hb.mono (by omega)))
    have HF7 := Lib.hid ((HF6.out.below hb).more hb.size)
    have HT7 := Lib.hid ((HT6.out.below hb).more hb.size)
    have Hfb7 := Lib.hid ((hb.block w3.heap.size (by omega)).trans Hfb6.out)
    have Htb7 := Lib.hid ((hb.block w4.heap.size (by omega)).trans Htb6.out)
    clear hb
    clear x0 x1 x2 x3 x4 x5 x6 x7 x8 x9 x10 x11 x12 x13
    go_wp2_with fail
    refine (Hz1.out w7).mono ?_
    rintro e w8 ⟨rfl, hb⟩
    have hs8 := hb.size
    have HB8 := Lib.hid (HB7.out.trans (hb.mono (by omega)))
    have HF8 := Lib.hid ((HF7.out.below hb).more hb.size)
    have HT8 := Lib.hid ((HT7.out.below hb).more hb.size)
    have Hfb8 := Lib.hid ((hb.block w3.heap.size (by omega)).trans Hfb7.out)
    have Htb8 := Lib.hid ((hb.block w4.heap.size (by omega)).trans Htb7.out)
    clear hb
    by_cases hE2 : E2 = 0
    · subst hE2
      have hX2 := E2a.out rfl
      subst hX2
      have f0 := cell_of_row w8 w3.heap.size 0 _ _ _ Hfb8.out
      have f1 := cell_of_row w8 w3.heap.size 1 _ _ _ Hfb8.out
      have f2 := cell_of_row w8 w3.heap.size 2 _ _ _ Hfb8.out
      have f3 := cell_of_row w8 w3.heap.size 3 _ _ _ Hfb8.out
      go_wp2_with fail
      refine (Hr2.out L3 A3 c3 A4 c4 w8 HL3.out HF8.out).mono ?_
      rintro e w9 ⟨rfl, hb⟩
      have hs9 := hb.size
      have HB9 := Lib.hid (HB8.out.trans (hb.mono (by omega)))
      have HT9 := Lib.hid ((HT8.out.below hb).more hb.size)
      have Htb9 := Lib.hid ((hb.block w4.heap.size (by omega)).trans Htb8.out)
      clear hb
      clear f0 f1 f2 f3
      by_cases hE3 : E3 = 0
      · subst hE3
        have hX3 := E3a.out rfl
        subst hX3
        have g0 := cell_of_row w9 w4.heap.size 0 _ _ _ Htb9.out
        have g1 := cell_of_row w9 w4.heap.size 1 _ _ _ Htb9.out
        have g2 := cell_of_row w9 w4.heap.size 2 _ _ _ Htb9.out
        go_wp2_with fail
        refine (Hr3.out L5 A5 c5 w9 HL5.out HT9.out).mono ?_
        rintro e wA ⟨rfl, hb⟩
        have hsA := hb.size
        have HBA := Lib.hid (HB9.out.trans (hb.mono (by omega)))
        clear hb
        go_wp2_with fail
        go_ret
        exact ⟨rfl, HBA.out⟩
      · have hX3 := E3b.out hE3
        subst hX3
        have hE3' : (E3 == (0 : Int)) = false := by simpa using hE3
        have hE3'' : (E3 != (0 : Int)) = true := by simpa using hE3
        have g0 := cell_of_row w9 w4.heap.size 0 _ _ _ Htb9.out
        have g1 := cell_of_row w9 w4.heap.size 1 _ _ _ Htb9.out
        have g2 := cell_of_row w9 w4.heap.size 2 _ _ _ Htb9.out
        go_wp2_with fail
        refine (Hr3.out L5 A5 c5 w9 HL5.out HT9.out).mono ?_
        rintro e wA ⟨rfl, hb⟩
        have hsA := hb.size
        have HBA := Lib.hid (HB9.out.trans (hb.mono (by omega)))
        clear hb
        clear g0 g1 g2
        go_wp2_with fail
        refine (Hz3.out wA).mono ?_
        rintro e wB ⟨rfl, hb⟩
        have hsB := hb.size
        have HBB := Lib.hid (HBA.out.trans (hb.mono (by omega)))
        clear hb
        go_wp2_with fail
        go_ret
        exact ⟨rfl, HBB.out⟩
    · have hX2 := E2b.out hE2
      subst hX2
      have hE2' : (E2 == (0 : Int)) = false := by simpa using hE2
      have hE2'' : (E2 != (0 : Int)) = true := by simpa using hE2
      have f0 := cell_of_row w8 w3.heap.size 0 _ _ _ Hfb8.out
      have f1 := cell_of_row w8 w3.heap.size 1 _ _ _ Hfb8.out
      have f2 := cell_of_row w8 w3.heap.size 2 _ _ _ Hfb8.out
      have f3 := cell_of_row w8 w3.heap.size 3 _ _ _ Hfb8.out
      go_wp2_with fail
      refine (Hr2.out L3 A3 c3 A4 c4 w8 HL3.out HF8.out).mono ?_
      rintro e w9' ⟨rfl, hb⟩
      have hs9' := hb.size
      have HB9' := Lib.hid (HB8.out.trans (hb.mono (by omega)))
      have HT9' := Lib.hid ((HT8.out.below hb).more hb.size)
      have Htb9' := Lib.hid ((hb.block w4.heap.size (by omega)).trans Htb8.out)
      clear hb
      clear f0 f1 f2 f3
      go_wp2_with fail
      refine (Hz2.out w9').mono ?_
      rintro e w9 ⟨rfl, hb⟩
      have hs9 := hb.size
      have HB9 := Lib.hid (HB9'.out.trans (hb.mono (by omega)))
      have HT9 := Lib.hid ((HT9'.out.below hb).more hb.size)
      have Htb9 := Lib.hid ((hb.block w4.heap.size (by omega)).trans Htb9'.out)
      clear hb
      by_cases hE3 : E3 = 0
      · subst hE3
        have hX3 := E3a.out rfl
        subst hX3
        have g0 := cell_of_row w9 w4.heap.size 0 _ _ _ Htb9.out
        have g1 := cell_of_row w9 w4.heap.size 1 _ _ _ Htb9.out
        have g2 := cell_of_row w9 w4.heap.size 2 _ _ _ Htb9.out
        go_wp2_with fail
        refine (Hr3.out L5 A5 c5 w9 HL5.out HT9.out).mono ?_
        rintro e wA ⟨rfl, hb⟩
        have hsA := hb.size
        have HBA := Lib.hid (HB9.out.trans (hb.mono (by omega)))
        clear hb
        go_wp2_with fail
        go_ret
        exact ⟨rfl, HBA.out⟩
      · have hX3 := E3b.out hE3
        subst hX3
        have hE3' : (E3 == (0 : Int)) = false := by simpa using hE3
        have hE3'' : (E3 != (0 : Int)) = true := by simpa using hE3
        have g0 := cell_of_row w9 w4.heap.size 0 _ _ _ Htb9.out
        have g1 := cell_of_row w9 w4.heap.size 1 _ _ _ Htb9.out
        have g2 := cell_of_row w9 w4.heap.size 2 _ _ _ Htb9.out
        go_wp2_with fail
        refine (Hr3.out L5 A5 c5 w9 HL5.out HT9.out).mono ?_
        rintro e wA ⟨rfl, hb⟩
        have hsA := hb.size
        have HBA := Lib.hid (HB9.out.trans (hb.mono (by omega)))
        clear hb
        clear g0 g1 g2
        go_wp2_with fail
        refine (Hz3.out wA).mono ?_
        rintro e wB ⟨rfl, hb⟩
        have hsB := hb.size
        have HBB := Lib.hid (HBA.out.trans (hb.mono (by omega)))
        clear hb
        go_wp2_with fail
        go_ret
        exact ⟨rfl, HBB.out⟩
end Go.Proofs.Ytepcihfkkeahhaa
