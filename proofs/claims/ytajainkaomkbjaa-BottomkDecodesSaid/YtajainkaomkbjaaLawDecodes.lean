/- BottomkDecodes: for any string of at most 300 bytes (and for any longer one, of which it says nothing) the law returns true. -/
import Derived.Test.YtajainkaomkbjaaFd
namespace Go.Proofs.Ytajainkaomkbjaa.lawDecodes
open Go.Proofs.Ytajainkaomkbjaa Go.ChangeShapes Go.WideShapes Go.ChangeAt Go.RowKit Go.Joins Bt

theorem laidOut : laidOutB Try.prog = true := by kernel_rfl
theorem text_in {K : List ByteArray} {t : ByteArray} (h : t ∈ K) : t.size ≤ (K.flatMap E.text).length := by
  induction K with
  | nil => cases h
  | cons x K ih =>
    rw [List.flatMap_cons, List.length_append]
    rcases List.mem_cons.1 h with rfl | h
    · rw [E.text_len]; omega
    · have := ih h; omega
theorem dc_ok {s : ByteArray} (h : dcE s = 0) : endD s = 0 ∧ 1 ≤ (r1 s).1 ∧ (r1 s).1 ≤ 1024 ∧ 0 ≤ (r2 s).1 ∧ (r2 s).1 ≤ 1048576 := by
  unfold dcE at h
  split at h
  · rename_i h1; exact absurd h h1
  · rename_i h1
    split at h
    · cases h
    · rename_i h2
      exact ⟨Classical.byContradiction h1, by omega, by omega, by omega, by omega⟩
/-- Encode of what Decode made. -/
theorem encode_dec (g : Nat) (s : ByteArray) (hs : s.size ≤ 300) (h : dcE s = 0) (w : World) (hk : Sk w g (r1 s).1 (r2 s).1 (kys (r2 s).1 (bdy s).1, !(r3 s).1)) :
    Calls Try.prog 24 #[.pointer (some ⟨g, 0, none⟩)] w fun e w' => e = .returned (.string s) ∧ Below w.heap.size w w' := by
  obtain ⟨h1, h2, h3, h4, h5⟩ := dc_ok h
  obtain ⟨e1, _, _⟩ := rd_sound h1
  have hl : (bdy s).1.length = cn s := rdT_len _ _ _
  have hc := (cn_nat s).2
  have hsz : (frB (r1 s).1 (r2 s).1 (r3 s).1 (bdy s).1).length = s.size := by rw [← E.bytesOf_size, e1]
  have hz : Sz (kys (r2 s).1 (bdy s).1) := fun k hk => by
    unfold kys at hk
    obtain ⟨t, ht, rfl⟩ := List.mem_map.1 hk
    show t.size ≤ 300
    have := text_in ht
    unfold frB at hsz
    simp only [List.length_append] at hsz
    omega
  refine (encode_any g _ _ ⟨by omega, by omega⟩ ⟨by omega, by omega⟩ (kys (r2 s).1 (bdy s).1, !(r3 s).1) (by rw [kys_length]; omega) hz w hk).mono ?_
  rintro e w' ⟨rfl, hb⟩
  refine ⟨?_, hb⟩
  rw [frE_kys, Bool.not_not, e1]
set_option maxRecDepth 100000 in
set_option maxHeartbeats 4000000 in
theorem walk (w : World) (t : ByteArray) (_ht : t.size ≤ 9223372036854775807) :
    Calls Try.prog 10 #[.string t] w fun e w' => e = .returned (.bool true) ∧ Below w.heap.size w w' := by
  by_cases hl : t.size ≤ 300
  · have hd : decide ((300 : Int) < (t.size : Int)) = false := by simp; omega
    have hd2 : ¬ (300 : Int) < (t.size : Int) := by omega
    have HDe := Lib.hid (fun W => decode_any t (by omega) W)
    have HDr := Lib.hid (fun W => rdecode_any t (by omega) W)
    have HEn := Lib.hid (fun g h W hk => encode_dec g t hl h W hk)
    obtain ⟨D, hD⟩ : ∃ D, D = dcE t := ⟨_, rfl⟩
    have HDc := Lib.hid hD
    rw [← hD] at HDr
    clear hD hl
    go_enter Try.func10, Try.ntmps10
    go_wp2_with fail
    with_reducible refine (known_any _).mono ?_
    rintro e w1 ⟨rfl, hb⟩
    have HB := Lib.hid hb
    clear hb
    go_wp2_with fail
    with_reducible refine (HDe.out _).mono ?_
    rintro e w2 ⟨⟨p, rfl, hp⟩, hb⟩
    rw [← HDc.out] at hp ⊢
    replace HB := Lib.hid (bz_call HB.out hb)
    clear hb
    rcases hp with ⟨hne, rfl⟩ | ⟨h0, g, rfl, hgw, hsk⟩
    · have p0 : (D == 0) = false := by simpa using hne
      have p1 : (D != D) = false := by simp
      clear hne
      go_wp2_with fail
      with_reducible refine (HDr.out _).mono ?_
      rintro e w3 ⟨rfl, hb⟩
      replace HB := Lib.hid (bz_call HB.out hb)
      clear hb
      go_wp2_with fail
      go_ret
      exact ⟨rfl, HB.out⟩
    · have HSk := Lib.hid hsk
      have HEn2 := Lib.hid (fun W hk => HEn.out g (by rw [← HDc.out]; exact h0) W hk)
      subst h0
      clear hsk hgw
      go_wp2_with fail
      with_reducible refine (HDr.out _).mono ?_
      rintro e w3 ⟨rfl, hb⟩
      replace HB := Lib.hid (bz_call HB.out hb)
      replace HSk := Lib.hid (HSk.out.below hb)
      clear hb
      go_wp2_with fail
      with_reducible refine (HEn2.out _ HSk.out).mono ?_
      rintro e w4 ⟨rfl, hb⟩
      replace HB := Lib.hid (bz_call HB.out hb)
      clear hb
      go_wp2_with fail
      go_ret
      exact ⟨rfl, HB.out⟩
  · have hd : decide ((300 : Int) < (t.size : Int)) = true := by simp; omega
    have hd2 : (300 : Int) < (t.size : Int) := by omega
    clear hl
    go_enter Try.func10, Try.ntmps10
    go_wp2_with fail
    with_reducible refine (known_any _).mono ?_
    rintro e w1 ⟨rfl, hb⟩
    have HB := Lib.hid hb
    clear hb
    go_wp2_with fail
    with_reducible refine (known_any _).mono ?_
    rintro e w2 ⟨rfl, hb⟩
    replace HB := Lib.hid (bz_call HB.out hb)
    clear hb
    go_wp2_with fail
    go_ret
    exact ⟨rfl, HB.out⟩
set_option maxRecDepth 100000 in
theorem lifted (os : Os) (started : os.Started) (H : Type) (enc : TypeId × Value → H) :
    ReturnsInHanded {} Try.checked os 10 .any (Rows.bottomkDecodesSpec.pre6 enc Try.prog Try.f10 Rows.bottomkDecodesRow.domain false) (Rows.bottomkDecodesSpec.post enc Try.prog Try.f10 false true false false) := by
  refine returnsInHanded_of_change (C := Try.checked) own started (by kernel_rfl) Try.func10
    (ChangeSpec.witness6 (enc := enc) (C := Try.checked) false ⟨#[], #[.string ByteArray.empty], []⟩ 8 (by kernel_rfl) (by kernel_rfl) (by kernel_rfl) (by kernel_rfl)) ?_
  intro W base args ds gs before hval0 hW _ _
  have hval : ∀ (j : Nat) t v, Try.f10.params[j]? = some t → args[j]? = some v → Value.okWide Try.prog W .any base t v := hval0
  have hW' := hW
  obtain ⟨p, q, hA0, hV, rfl, _, _⟩ := hW
  have hA : DataW.TrodAll enc Try.prog W 0 (fun _ => true) true Try.f10.params.toList args.toList ds p := hA0
  rw [Try.params10] at hA hval
  obtain ⟨v0, vs0, d0, ds0, p0, q0, hargs0, rfl, rfl, h0, r0⟩ := trodAll_cons hA
  obtain ⟨rfl, rfl, rfl⟩ := trodAll_nil r0
  obtain rfl : args = #[v0] := by cases args; simp_all
  obtain ⟨rfl, rfl⟩ := trodVars_none hV
  obtain ⟨s0, rfl, rfl, rfl, ws0⟩ := Go.ChangeMaps.open_string Try.underlying9 (hval 0 9 v0 rfl rfl) h0
  clear hA0 hval0
  simp only [List.append_nil] at hW'
  refine (walk W s0 ws0).mono fun e W' ⟨he, hb⟩ => ?_
  subst he
  exact ⟨_, rfl, post_mem hW' hb (fun _ _ _ => trodAll_mk1 (shut_bool Try.underlying4 _)) (fun _ _ => by
    exact trodAll_cons_mk (Go.ChangeMaps.shut_string Try.underlying9 ws0) trodAll_mk0) (fun _ => rfl) (ok_one (by kernel_rfl) rfl (okWide_bool_mk Try.underlying4 _))⟩

theorem proved : Rows.BottomkDecodesSaid :=
  OpenClaim.holds_of_wide 10 Try.f10 rfl rfl rfl rfl rfl rfl rfl ⟨rfl, rfl, rfl, rfl, rfl⟩ rfl rfl rfl rfl rfl (by kernel_rfl) Try.func10 (by kernel_rfl)
    (of_decide_eq_true (by kernel_rfl)) (by unfold Func.isWrapper; first | (rw [if_pos (by decide +kernel)]; kernel_rfl) | (rw [if_neg (by decide +kernel)]; exact ⟨rfl, rfl⟩))
    (fun os started H enc _ => lifted os started H enc)

end Go.Proofs.Ytajainkaomkbjaa.lawDecodes
