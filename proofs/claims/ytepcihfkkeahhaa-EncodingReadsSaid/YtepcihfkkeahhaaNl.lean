/- EncodingNil: the call. -/
import Derived.Test.YtepcihfkkeahhaaRi
import Derived.Test.YtepcihfkkeahhaaKn
namespace Go.Proofs.Ytepcihfkkeahhaa
open Go.ChangeShapes Go.WideShapes Go.ChangeAt Go.RowKit En

theorem below_none {w w' : World} (h : Gq w w' none) : Below w.heap.size w w' := ⟨h.os, h.tape, h.output, h.size, fun i hi => h.block i hi (by simp)⟩
theorem rp_none (w : World) : RP w none ByteArray.empty (0, 1) := Or.inl ⟨rfl, rfl, rfl⟩
theorem es : (ByteArray.empty).size ≤ 1000000 := by decide
theorem n_number (w : World) : Calls Try.prog 18 #[.pointer none] w fun e w' => e = .returned (.int .i64 0) ∧ Below w.heap.size w w' :=
  (number_q none ByteArray.empty (0, 1) es w (rp_none w)).mono fun _ _ ⟨a, _, c⟩ => ⟨a, below_none c⟩
theorem n_bool (w : World) : Calls Try.prog 41 #[.pointer none] w fun e w' => e = .returned (.bool false) ∧ Below w.heap.size w w' :=
  (bool_q none ByteArray.empty (0, 1) es w (rp_none w)).mono fun _ _ ⟨a, _, c⟩ => ⟨a, below_none c⟩
theorem n_text (n : Int) (w : World) : Calls Try.prog 42 #[.pointer none, .int .i64 n] w fun e w' => e = .returned (.string ⟨#[]⟩) ∧ Below w.heap.size w w' :=
  (text_q none ByteArray.empty (0, 1) es n w (rp_none w)).mono fun _ _ ⟨a, _, c⟩ => ⟨a, below_none c⟩
theorem n_count (n : Int) (w : World) : Calls Try.prog 43 #[.pointer none, .int .i64 n] w fun e w' => e = .returned (.int .i64 0) ∧ Below w.heap.size w w' :=
  (count_q none ByteArray.empty (0, 1) es n w (rp_none w)).mono fun _ _ ⟨a, _, c⟩ => ⟨a, below_none c⟩
theorem n_value (w : World) : Calls Try.prog 44 #[.pointer none] w fun e w' => e = .returned (.agg #[.int .i64 0, .string ⟨#[]⟩, .int .i64 0]) ∧ Below w.heap.size w w' :=
  (value_q none ByteArray.empty (0, 1) es w (rp_none w)).mono fun _ _ ⟨a, _, c⟩ => ⟨a, below_none c⟩
theorem n_attr (w : World) : Calls Try.prog 45 #[.pointer none] w fun e w' => e = .returned (.agg #[.string ⟨#[]⟩, .int .i64 0, .string ⟨#[]⟩, .int .i64 0]) ∧ Below w.heap.size w w' :=
  (attr_q none ByteArray.empty (0, 1) es w (rp_none w)).mono fun _ _ ⟨a, _, c⟩ => ⟨a, below_none c⟩
theorem n_ref (w : World) : Calls Try.prog 46 #[.pointer none] w fun e w' => e = .returned (.agg #[.int .i64 0, .int .i64 0]) ∧ Below w.heap.size w w' :=
  (ref_q none ByteArray.empty (0, 1) es w (rp_none w)).mono fun _ _ ⟨a, _, c⟩ => ⟨a, below_none c⟩
theorem n_exch (w : World) : Calls Try.prog 47 #[.pointer none] w fun e w' => e = .returned (.agg #[.int .i64 0, .int .i64 0, .int .i64 0, .int .i64 0, .int .i64 0]) ∧ Below w.heap.size w w' :=
  (exch_q none ByteArray.empty (0, 1) es w (rp_none w)).mono fun _ _ ⟨a, _, c⟩ => ⟨a, below_none c⟩
theorem n_msg (w : World) : Calls Try.prog 48 #[.pointer none] w fun e w' => e = .returned (.agg #[.int .i64 0, .int .i64 0, .int .i64 0, .int .i64 0, .int .i64 0, .int .i64 0, .int .i64 0, .int .i64 0, .int .i64 0, .int .i64 0]) ∧ Below w.heap.size w w' :=
  (msg_q none ByteArray.empty (0, 1) es w (rp_none w)).mono fun _ _ ⟨a, _, c⟩ => ⟨a, below_none c⟩
theorem n_span (w : World) : Calls Try.prog 49 #[.pointer none] w fun e w' => (∃ va vl, e = .returned (.agg (spZ.cells va vl)) ∧ spZ.Has w' w'.heap.size va vl) ∧ Below w.heap.size w w' :=
  (span_q none ByteArray.empty (0, 1) es w (rp_none w)).mono fun _ _ ⟨⟨va, vl, a, b⟩, _, c⟩ => ⟨⟨va, vl, a, b.has⟩, below_none c⟩
theorem n_left (w : World) : Calls Try.prog 20 #[.pointer none] w fun e w' => e = .returned (.int .i64 0) ∧ Below w.heap.size w w' :=
  left_q none ByteArray.empty (0, 1) es w (rp_none w)
theorem n_err (w : World) : Calls Try.prog 22 #[.pointer none] w fun e w' => e = .returned (.int .i64 1) ∧ w = w' :=
  err_q none ByteArray.empty (0, 1) w (rp_none w)
theorem n_end (w : World) : Calls Try.prog 19 #[.pointer none] w fun e w' => e = .returned (.int .i64 1) ∧ Below w.heap.size w w' :=
  end_q none ByteArray.empty (0, 1) es w (rp_none w)
theorem spZ_ok : spZ.Ok := by
  refine ⟨?_, by decide, by decide, by decide, ?_, ?_, ?_, by decide, by decide, by decide, by decide⟩
  · intro n hn; simp [spZ] at hn; subst hn; exact ⟨by omega, by omega⟩
  · intro n hn; simp [spZ] at hn; subst hn; exact ⟨by omega, by omega⟩
  · intro a ha; simp [spZ] at ha
  · intro a ha; simp [spZ] at ha
theorem w_bytes_nil (w : World) : Calls Try.prog 13 #[.pointer none] w fun e w' => e = .returned (.string ⟨#[]⟩) ∧ w = w' := by
  go_enter Try.func13, Try.ntmps13
  go_wp2_with fail
  go_ret
  exact ⟨rfl, rfl⟩
theorem w_len_nil (w : World) : Calls Try.prog 17 #[.pointer none] w fun e w' => e = .returned (.int .i64 0) ∧ w = w' := by
  go_enter Try.func17, Try.ntmps17
  go_wp2_with fail
  go_ret
  exact ⟨rfl, rfl⟩
theorem wn_span (s : ByteArray) (hs : s.size ≤ 20) (w : World) : Calls Try.prog 39 #[.pointer none, .agg #[.int .i64 0, .int .i64 0, .int .i64 0, .int .i64 0, .int .i64 0, .int .i64 0, .string s, .string ⟨#[]⟩, .string ⟨#[]⟩, .int .i64 0, .int .i64 0, .bool false, .slice none 0 0, .slice none 0 0]] w fun e w' => e = .returned (.tuple #[]) ∧ Below w.heap.size w w' := by
  have z : ∀ n ∈ [(0 : Int), 0, 0, 0, 0, 0], In64 n := by intro n hn; simp at hn; subst hn; exact ⟨by omega, by omega⟩
  have z2 : ∀ n ∈ [(0 : Int), 0], In64 n := by intro n hn; simp at hn; subst hn; exact ⟨by omega, by omega⟩
  have ok : Sp.Ok ⟨0, 0, 0, 0, 0, 0, s, ⟨#[]⟩, ⟨#[]⟩, 0, 0, false, [], []⟩ := ⟨z, by show s.size ≤ _; omega, Nat.zero_le _, Nat.zero_le _, z2, by intro a ha; simp at ha, by intro a ha; simp at ha, Nat.zero_le _, Nat.zero_le _, Nat.zero_le _, Nat.zero_le _⟩
  have hl : (Sp.form ⟨0, 0, 0, 0, 0, 0, s, ⟨#[]⟩, ⟨#[]⟩, 0, 0, false, [], []⟩).length ≤ 300000 := by
    have h1 := nums_len _ z
    have h2 := nums_len _ z2
    have h3 := text_bound s (by omega)
    have h4 : (text ⟨#[]⟩).length ≤ 10009 := text_bound _ (by decide)
    have h5 : (boolF false).length ≤ 9 := boolF_bound _
    have h6 : (num 0).length ≤ 9 := by decide
    unfold Sp.form
    simp only [List.length_append]
    simp only [List.length_cons, List.length_nil] at h1 h2
    have e1 : (atForms []).length = 0 := rfl
    have e2 : (rfForms []).length = 0 := rfl
    have e3 : (num (([] : List At).length : Int)).length ≤ 9 := h6
    have e4 : (num (([] : List (Int × Int)).length : Int)).length ≤ 9 := h6
    omega
  exact (w_span none [] _ ok hl (.slice none 0 0) (.slice none 0 0) (by decide) w (Or.inl rfl) ⟨none, 0, none, 0, rfl, rfl, Rs.nil, Rs.nil⟩).mono fun _ _ ⟨a, _, c⟩ => ⟨a, below_none c⟩
theorem wn_msg (n : Int) (hn : In64 n) (w : World) : Calls Try.prog 40 #[.pointer none, .agg #[.int .i64 n, .int .i64 0, .int .i64 0, .int .i64 0, .int .i64 0, .int .i64 0, .int .i64 0, .int .i64 0, .int .i64 0, .int .i64 0]] w fun e w' => e = .returned (.tuple #[]) ∧ Below w.heap.size w w' :=
  (w_message none [] n 0 0 0 0 0 0 0 0 0 (by
    intro m hm; simp at hm
    rcases hm with rfl | rfl
    · exact hn
    · exact ⟨by omega, by omega⟩) (by decide) w (Or.inl rfl)).mono fun _ _ ⟨a, _, c⟩ => ⟨a, below_none c⟩
theorem zero_has (w : World) (B : Nat) : spZ.Has w B (.slice none 0 0) (.slice none 0 0) := ⟨none, 0, none, 0, rfl, rfl, Rs.nil, Rs.nil⟩

set_option maxRecDepth 100000 in
set_option maxHeartbeats 4000000 in
theorem nil_any (n : Int) (hn : In64 n) (s : ByteArray) (hs : s.size ≤ 20) (w : World) : Calls Try.prog 11 #[.int .i64 n, .string s] w fun e w' => e = .returned (.bool true) ∧ Below w.heap.size w w' := by
  have Hspz : Hid (∀ va vl W, spZ.Has W W.heap.size va vl → Calls Try.prog 28 #[.agg (spZ.cells va vl)] W fun e w' => e = .returned (.string (bytesOf spZ.form)) ∧ Below W.heap.size W w') := Lib.hid (fun va vl W h => ref_span spZ spZ_ok va vl W h)
  obtain ⟨F, hF⟩ : ∃ F, F = bytesOf spZ.form := ⟨_, rfl⟩
  rw [← hF] at Hspz
  clear hF
  go_enter Try.func11, Try.ntmps11
  go_wp2_with fail
  refine (known_any w).mono ?_
  rintro e w1 ⟨rfl, hb⟩
  have HB := Lib.hid hb
  clear hb
  go_wp2_with fail
  refine ((w_numberq none [] n hn (by decide) w1 (Or.inl rfl))).mono ?_
  rintro e w2 ⟨rfl, _, hg⟩
  have hb := below_none hg
  have HB := Lib.hid (HB.out.trans (hb.mono HB.out.size))
  clear hb hg
  go_wp2_with fail
  refine ((w_bool none [] _ (by decide) w2 (Or.inl rfl))).mono ?_
  rintro e w3 ⟨rfl, _, hg⟩
  have hb := below_none hg
  have HB := Lib.hid (HB.out.trans (hb.mono HB.out.size))
  clear hb hg
  go_wp2_with fail
  refine ((w_text none [] s (by omega) (by decide) w3 (Or.inl rfl))).mono ?_
  rintro e w4 ⟨rfl, _, hg⟩
  have hb := below_none hg
  have HB := Lib.hid (HB.out.trans (hb.mono HB.out.size))
  clear hb hg
  go_wp2_with fail
  refine ((wn_span s hs w4)).mono ?_
  rintro e w5 ⟨rfl, hb⟩
  have HB := Lib.hid (HB.out.trans (hb.mono HB.out.size))
  clear hb
  go_wp2_with fail
  refine ((wn_msg n hn w5)).mono ?_
  rintro e w6 ⟨rfl, hb⟩
  have HB := Lib.hid (HB.out.trans (hb.mono HB.out.size))
  clear hb
  go_wp2_with fail
  refine ((n_number w6)).mono ?_
  rintro e w7 ⟨rfl, hb⟩
  have HB := Lib.hid (HB.out.trans (hb.mono HB.out.size))
  clear hb
  go_wp2_with fail
  refine ((n_bool w7)).mono ?_
  rintro e w8 ⟨rfl, hb⟩
  have HB := Lib.hid (HB.out.trans (hb.mono HB.out.size))
  clear hb
  go_wp2_with fail
  refine ((n_text n w8)).mono ?_
  rintro e w9 ⟨rfl, hb⟩
  have HB := Lib.hid (HB.out.trans (hb.mono HB.out.size))
  clear hb
  go_wp2_with fail
  refine ((n_count n w9)).mono ?_
  rintro e w10 ⟨rfl, hb⟩
  have HB := Lib.hid (HB.out.trans (hb.mono HB.out.size))
  clear hb
  go_wp2_with fail
  refine ((n_value w10)).mono ?_
  rintro e w11 ⟨rfl, hb⟩
  have HB := Lib.hid (HB.out.trans (hb.mono HB.out.size))
  clear hb
  go_wp2_with fail
  refine ((n_attr w11)).mono ?_
  rintro e w12 ⟨rfl, hb⟩
  have HB := Lib.hid (HB.out.trans (hb.mono HB.out.size))
  clear hb
  go_wp2_with fail
  refine ((n_ref w12)).mono ?_
  rintro e w13 ⟨rfl, hb⟩
  have HB := Lib.hid (HB.out.trans (hb.mono HB.out.size))
  clear hb
  go_wp2_with fail
  refine ((n_exch w13)).mono ?_
  rintro e w14 ⟨rfl, hb⟩
  have HB := Lib.hid (HB.out.trans (hb.mono HB.out.size))
  clear hb
  go_wp2_with fail
  refine ((n_msg w14)).mono ?_
  rintro e w15 ⟨rfl, hb⟩
  have HB := Lib.hid (HB.out.trans (hb.mono HB.out.size))
  clear hb
  go_wp2_with fail
  refine ((n_left w15)).mono ?_
  rintro e w16 ⟨rfl, hb⟩
  have HB := Lib.hid (HB.out.trans (hb.mono HB.out.size))
  clear hb
  go_wp2_with fail
  refine (n_span w16).mono ?_
  rintro e w17 ⟨⟨va, vl, rfl, hz⟩, hb⟩
  have HZ := Lib.hid hz
  have HB := Lib.hid (HB.out.trans (hb.mono HB.out.size))
  clear hb hz
  go_wp2_with fail
  refine ((Hspz.out va vl w17 HZ.out)).mono ?_
  rintro e w18 ⟨rfl, hb⟩
  have HB := Lib.hid (HB.out.trans (hb.mono HB.out.size))
  clear hb
  go_wp2_with fail
  refine ((Hspz.out (.slice none 0 0) (.slice none 0 0) w18 (zero_has _ _))).mono ?_
  rintro e w19 ⟨rfl, hb⟩
  have HB := Lib.hid (HB.out.trans (hb.mono HB.out.size))
  clear hb
  go_wp2_with fail
  refine (w_bytes_nil w19).mono ?_
  rintro e w20 ⟨rfl, rfl⟩
  go_wp2_with fail
  refine (w_len_nil w19).mono ?_
  rintro e w20 ⟨rfl, rfl⟩
  go_wp2_with fail
  refine (n_err w19).mono ?_
  rintro e w20 ⟨rfl, rfl⟩
  go_wp2_with fail
  refine ((n_end w19)).mono ?_
  rintro e w20 ⟨rfl, hb⟩
  have HB := Lib.hid (HB.out.trans (hb.mono HB.out.size))
  clear hb
  go_wp2_with fail
  go_ret
  exact ⟨rfl, HB.out⟩
end Go.Proofs.Ytepcihfkkeahhaa
