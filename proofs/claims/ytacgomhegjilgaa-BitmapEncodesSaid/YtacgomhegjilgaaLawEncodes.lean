/- The statement BitmapEncodes: for any set, the law returns true and changes nothing (written by wip/bin/gen_enc5.py). -/
import Derived.Test.YtacgomhegjilgaaHe
import Derived.Test.YtacgomhegjilgaaGh
import Derived.Test.YtacgomhegjilgaaHf
import Derived.Test.YtacgomhegjilgaaJg
namespace Go.Proofs.Ytacgomhegjilgaa.lawEncodes
open Go.Proofs.Ytacgomhegjilgaa Go.ChangeShapes Go.WideShapes Go.ChangeAt Go.RowKit Go.Joins Ts En

attribute [local go_sem ↓] Go.wp_at_zero Go.wp_at_succ

set_option maxRecDepth 100000 in
set_option maxHeartbeats 16000000 in
theorem walk (w : World) (b0 : Int) (hb0 : 0 ≤ b0 ∧ b0 ≤ 65535) (A0 : Option Addr) (c0 : Nat) (L0 : List Iv) (hL0 : L0.length ≤ 9223372036854775807) (hs0 : ∀ x ∈ L0, PrOk x) (hR0 : Rs w w.heap.size A0 (prCells L0)) :
    Calls Try.prog 11 #[.agg #[.int .u16 b0, .slice A0 L0.length c0]] w fun e w' => e = .returned (.bool true) ∧ Below w.heap.size w w' := by
  obtain ⟨hi0, hrw0, hln0⟩ := rowS_spec b0 hs0
  have CM0 := Lib.hid (fun W (g : Gb w W) => made_any b0 hb0 A0 c0 L0 hL0 hs0 W ((hR0.below g.out).more g.out.size))
  have CR0 := Lib.hid (fun W (g : Gb w W) => rows_any b0 hb0 A0 c0 L0 hL0 hs0 W ((hR0.below g.out).more g.out.size))
  obtain ⟨l0, hl0⟩ : ∃ l, l = rowS b0 L0 := ⟨_, rfl⟩
  rw [← hl0] at hi0 hrw0 hln0 CM0 CR0
  have hB0 : Bs 80000 (setL l0) := set_bs (by omega) hrw0
  have hm0 : ∀ n, n ∈ l0 ↔ In n (setL l0) := fun n => ((setL_spec l0).2 n).symm
  obtain ⟨M0, hM0⟩ : ∃ M, M = setL l0 := ⟨_, rfl⟩
  rw [← hM0] at hB0 hm0 CM0
  obtain ⟨R0, hRn0⟩ : ∃ R, R = rn M0 := ⟨_, rfl⟩
  rw [← hRn0] at CM0
  have HRn0 := Lib.hid hRn0
  have HRw0 := Lib.hid hrw0
  have HI0 := Lib.hid hi0
  have HBs0 := Lib.hid hB0
  have HM0 := Lib.hid hm0
  clear hR0 hl0 hM0 hRn0 hs0 hL0 hrw0 hi0 hB0 hm0
  go_enter Try.func11, Try.ntmps11
  go_wp2_with fail
  refine (known_any _).mono ?_
  rintro e w1 ⟨rfl, hb⟩
  have F1 : Fr (w.alloc (.cells #[.int .u16 b0, .slice A0 L0.length c0] 36)) w1 := ⟨hb⟩
  have G1 : Gb w w1 := Gb.call (Gb.alloc (Gb.refl w) _) F1
  have K0 : Bk1 (w.heap.size) (.cells #[.int .u16 b0, .slice A0 L0.length c0] 36 (0, 0)) w1 := Bk1.call ((Bk1.new (W := w) (by rfl) (fun v => Deep.blk_alloc_new v _) : Bk1 (w.heap.size) (.cells #[.int .u16 b0, .slice A0 L0.length c0] 36 (0, 0)) _)) F1
  have hk00 : w1.cell? ⟨w.heap.size, 0, none⟩ = some (.int .u16 b0) := cell_of_row w1 _ 0 _ _ _ K0.out
  have hk01 : w1.cell? ⟨w.heap.size, 1, none⟩ = some (.slice A0 L0.length c0) := cell_of_row w1 _ 1 _ _ _ K0.out
  have hz1 := F1.size1
  simp at hz1
  clear hb
  have HS : Hid (∀ W, Gb w1 W → W.cell? ⟨w.heap.size, 0, none⟩ = some (.int .u16 b0) ∧ W.cell? ⟨w.heap.size, 1, none⟩ = some (.slice A0 L0.length c0)) := Lib.hid (fun W g => by
    have f0 : W.heap[w.heap.size]? = some (.cells #[.int .u16 b0, .slice A0 L0.length c0] 36 (0, 0)) := (g.out.block _ (Array.getElem?_eq_some_iff.1 K0.out).1).trans K0.out
    exact ⟨cell_of_row W _ 0 _ _ _ f0, cell_of_row W _ 1 _ _ _ f0⟩)
  go_upto_region 3 with fail
  go_cut [3, 4] (fun s3 s4 wx => ∃ (X0 : Nat) (P0 : Option Addr) (p0 : Nat) (Q0 : Option Addr) (q0 : Nat), s3 = .pointer (some ⟨X0, 0, none⟩) ∧ s4 = .slice Q0 l0.length q0 ∧ Hid (Hold w [(X0, Obj.cells #[.slice P0 R0.length p0] 26 (0, 0))] [(.slice P0 R0.length p0, R0)] [(Q0, nC l0)] wx))
  case first =>
    go_region_held3 (fun W => W.cell? ⟨w.heap.size, 0, none⟩ = some (.int .u16 b0) ∧ W.cell? ⟨w.heap.size, 1, none⟩ = some (.slice A0 L0.length c0))
      (exact HS.out _ (by ((repeat (first | (with_reducible assumption) | (with_reducible exact Gb.refl _) | (with_reducible refine Gb.call ?_ (by with_reducible assumption)) | (with_reducible refine Gb.alloc ?_ _) | (with_reducible refine Gb.drew ?_) | (with_reducible refine Gb.setCell ?_ (by omega) _))); (first | done | fail))))
      ((first
        | (go_at_call 24; have := E0; refine (CR0.out _ (by ((repeat (first | (with_reducible assumption) | (with_reducible exact Gb.refl _) | (with_reducible refine Gb.call ?_ (by with_reducible assumption)) | (with_reducible refine Gb.alloc ?_ _) | (with_reducible refine Gb.drew ?_) | (with_reducible refine Gb.setCell ?_ (by omega) _))); (first | done | fail)))).mono ?_; rintro e v1 ⟨⟨y0, rfl, hown⟩, hb1⟩; have E1 : Fr _ v1 := ⟨hb1⟩; obtain ⟨Q0, q0, rfl, _, hro, _⟩ := rs_ownn hown; have U0 : Rt Q0 l0 v1 := ⟨hro⟩; have z1 := E1.size1; (try simp at z1); clear hb1 hown hro; (try (have kk : Bk1 (w1.heap.size) (.cells #[.slice none 0 0] 26 (0, 0)) v1 := (by ((repeat (first | (with_reducible assumption) | (with_reducible refine Bk1.call ?_ (by with_reducible assumption)) | (with_reducible refine Bk1.new ?_ (new_bm _); first | rfl | (simp; done)) | (with_reducible refine Bk1.old ?_ _) | (with_reducible refine Bk1.drew ?_) | (with_reducible refine Bk1.same ?_) | (with_reducible refine Bk1.other ?_ (by omega) _))); (first | done | fail))); have cc : v1.cell? ⟨w1.heap.size, 0, none⟩ = some (.slice none 0 0) := cell_of_row _ _ 0 _ _ _ kk.out; have ff : v1.frozen? ⟨w1.heap.size, 0, none⟩ = false := frozen_of_row _ _ _ _ _ kk.out; have ll : w1.heap.size < v1.heap.size := (Array.getElem?_eq_some_iff.1 kk.out).1; clear kk)); (try (have kk : Bk1 (v0.heap.size) (.cells #[.slice none 0 0] 26 (0, 0)) v1 := (by ((repeat (first | (with_reducible assumption) | (with_reducible refine Bk1.call ?_ (by with_reducible assumption)) | (with_reducible refine Bk1.new ?_ (new_bm _); first | rfl | (simp; done)) | (with_reducible refine Bk1.old ?_ _) | (with_reducible refine Bk1.drew ?_) | (with_reducible refine Bk1.same ?_) | (with_reducible refine Bk1.other ?_ (by omega) _))); (first | done | fail))); have cc : v1.cell? ⟨v0.heap.size, 0, none⟩ = some (.slice none 0 0) := cell_of_row _ _ 0 _ _ _ kk.out; have ff : v1.frozen? ⟨v0.heap.size, 0, none⟩ = false := frozen_of_row _ _ _ _ _ kk.out; have ll : v0.heap.size < v1.heap.size := (Array.getElem?_eq_some_iff.1 kk.out).1; clear kk)))
        | (go_at_call 22; refine (CM0.out _ (by ((repeat (first | (with_reducible assumption) | (with_reducible exact Gb.refl _) | (with_reducible refine Gb.call ?_ (by with_reducible assumption)) | (with_reducible refine Gb.alloc ?_ _) | (with_reducible refine Gb.drew ?_) | (with_reducible refine Gb.setCell ?_ (by omega) _))); (first | done | fail)))).mono ?_; rintro e v0 ⟨⟨r0, rfl, hr0⟩, hb0⟩; have E0 : Fr _ v0 := ⟨hb0⟩; have T0 : St r0 R0 v0 := ⟨hr0⟩; have z0 := E0.size1; obtain ⟨P0, p0, rfl, _, _, _, _⟩ := hr0; (try simp at z0); clear hb0; (try (have kk : Bk1 (w1.heap.size) (.cells #[.slice none 0 0] 26 (0, 0)) v0 := (by ((repeat (first | (with_reducible assumption) | (with_reducible refine Bk1.call ?_ (by with_reducible assumption)) | (with_reducible refine Bk1.new ?_ (new_bm _); first | rfl | (simp; done)) | (with_reducible refine Bk1.old ?_ _) | (with_reducible refine Bk1.drew ?_) | (with_reducible refine Bk1.same ?_) | (with_reducible refine Bk1.other ?_ (by omega) _))); (first | done | fail))); have cc : v0.cell? ⟨w1.heap.size, 0, none⟩ = some (.slice none 0 0) := cell_of_row _ _ 0 _ _ _ kk.out; have ff : v0.frozen? ⟨w1.heap.size, 0, none⟩ = false := frozen_of_row _ _ _ _ _ kk.out; have ll : w1.heap.size < v0.heap.size := (Array.getElem?_eq_some_iff.1 kk.out).1; clear kk)))
        | fail))
    all_goals
      go_wp2_with fail
      go_meet
      refine ⟨_, P0, p0, Q0, q0, rfl, rfl, Lib.hid ⟨(by ((repeat (first | (with_reducible assumption) | (with_reducible exact Gb.refl _) | (with_reducible refine Gb.call ?_ (by with_reducible assumption)) | (with_reducible refine Gb.alloc ?_ _) | (with_reducible refine Gb.drew ?_) | (with_reducible refine Gb.setCell ?_ (by omega) _))); (first | done | fail)) : Gb w _).out, ?_, ?_, ?_⟩⟩
      · intro p hp
        simp only [List.mem_cons, List.not_mem_nil, or_false] at hp
        subst hp
        all_goals dsimp only
        all_goals refine Bk1.out ?_
        all_goals ((repeat (first | (with_reducible assumption) | (with_reducible refine Bk1.call ?_ (by with_reducible assumption)) | (with_reducible refine Bk1.new ?_ (new_bm _); first | rfl | (simp; done)) | (with_reducible refine Bk1.old ?_ _) | (with_reducible refine Bk1.drew ?_) | (with_reducible refine Bk1.same ?_) | (with_reducible refine Bk1.other ?_ (by omega) _))); (first | done | fail))
      · intro p hp
        simp only [List.mem_cons, List.not_mem_nil, or_false] at hp
        subst hp
        all_goals dsimp only
        all_goals refine St.out ?_
        all_goals ((repeat (first | (with_reducible assumption) | (with_reducible refine St.call ?_ (by with_reducible assumption)) | (with_reducible refine St.alloc ?_ _) | (with_reducible refine St.drew ?_) | (with_reducible refine St.store ?_ (by ((repeat (first | (with_reducible assumption) | (with_reducible refine Bk1.call ?_ (by with_reducible assumption)) | (with_reducible refine Bk1.new ?_ (new_bm _); first | rfl | (simp; done)) | (with_reducible refine Bk1.old ?_ _) | (with_reducible refine Bk1.drew ?_) | (with_reducible refine Bk1.same ?_) | (with_reducible refine Bk1.other ?_ (by omega) _))); (first | done | fail))) _))); (first | done | fail))
      · intro p hp
        simp only [List.mem_cons, List.not_mem_nil, or_false] at hp
        subst hp
        all_goals dsimp only
        all_goals refine Rt.out ?_
        all_goals ((repeat (first | (with_reducible assumption) | (with_reducible refine Rt.call ?_ (by with_reducible assumption)) | (with_reducible refine Rt.alloc ?_ _) | (with_reducible refine Rt.drew ?_) | (with_reducible refine Rt.store ?_ (by ((repeat (first | (with_reducible assumption) | (with_reducible refine Bk1.call ?_ (by with_reducible assumption)) | (with_reducible refine Bk1.new ?_ (new_bm _); first | rfl | (simp; done)) | (with_reducible refine Bk1.old ?_ _) | (with_reducible refine Bk1.drew ?_) | (with_reducible refine Bk1.same ?_) | (with_reducible refine Bk1.other ?_ (by omega) _))); (first | done | fail))) _))); (first | done | fail))
  case rest =>
    obtain ⟨X0, P0, p0, Q0, q0, rfl, rfl, H2⟩ := hcut
    clear HS K0 hk00 hk01 F1 G1 CM0 CR0
    have e0 := HRn0.out
    subst e0
    clear HRn0
    have hA : Bs 84 M0 := by
      have h := HBs0.out
      refine ⟨h.nrm, ?_, h.row⟩
      have h1 := setL_spec l0
      have e : M0 = setL l0 := nrm_ext h.nrm h1.1 (fun n => ((HM0.out n).symm.trans (h1.2 n).symm))
      rw [e, ← jf_all]
      have := jf_len (srI l0) (srI l0).length
      rw [srI_len] at this ⊢
      omega
    have hrl : (rn M0).length ≤ 84 := by rw [rn_len]; exact hA.len
    have hrc := bs_rc hA
    have hruns : rsL l0 l0.length = rn M0 := rsL_all hA.nrm HI0.out HM0.out
    have hbd : ∀ x ∈ l0, -2000000 ≤ x ∧ x ≤ 2000000 := fun x hx => by
      have := (isR_iff x).1 (HRw0.out x hx)
      omega
    have hsz := frm_size hrc (by omega) (rn M0).length (Nat.le_refl _)
    obtain ⟨q1, q2⟩ := dc_frm hA.nrm (fun x hx => by have := hA.bd x hx; omega) (by have := hA.len; omega) (bytesOf (frmB (rn M0))) rfl
    have CE := Lib.hid (fun v W h => encode_any (v := v) (L := rn M0) (by omega) hrc W h)
    have CD := Lib.hid (fun W => decode_any (bytesOf (frmB (rn M0))) (Nat.le_trans hsz (by decide)) W)
    rw [q1, q2] at CD
    have CRu := Lib.hid (fun A c W h => ref_runs A c l0 (by omega) hbd W h)
    rw [hruns] at CRu
    have CRe := Lib.hid (fun A c W h => ref_encode A c (rn M0) (by omega) hrc W h)
    have CI := Lib.hid (fun A c v W (hv : Sl W v (rn M0)) (hR : Rs W W.heap.size A (nC l0)) => is_true (v := v) HBs0.out A c l0 (by omega) HI0.out HM0.out W hv hR)
    have ebb : (⟨(frmB (rn M0)).toArray⟩ : ByteArray) = bytesOf (frmB (rn M0)) := rfl
    rw [ebb] at CE
    obtain ⟨T, hT⟩ : ∃ T, T = bytesOf (frmB (rn M0)) := ⟨_, rfl⟩
    rw [← hT] at CE CD CRe
    clear hA hrl hrc hruns hbd hsz q1 q2 hT ebb
    have hc0 := H2.out.cell (.head _) 0
    go_wp2_with fail
    refine (CE.out _ _ (H2.out.set _ (.head _))).mono ?_
    rintro e v1 ⟨rfl, hb⟩
    have HH1 := Lib.hid (H2.out.next hb)
    clear hb
    clear hc0
    have hc0 := HH1.out.cell (.head _) 0
    go_wp2_with fail
    refine (CD.out _).mono ?_
    rintro e v2 ⟨⟨r, rfl, hr⟩, hb⟩
    have HH2 := Lib.hid ((HH1.out.next hb).addV hr)
    obtain ⟨D2, d2, rfl, _, _, _, _⟩ := hr
    clear hb
    clear hc0
    have HA2 := Lib.hid (HH2.out.alloc (.cells #[.slice D2 (rn M0).length d2] 26) (Deep.blk_alloc_new v2 _))
    have ha2_0 := HH2.out.cell (.head _) 0
    have hl2_0 := HH2.out.lt (.head _)
    have hc0 := HA2.out.cell (.head _) 0
    have hc1 := HA2.out.cell (.tail _ (.head _)) 0
    go_wp2_with fail
    refine (CRu.out Q0 q0 _ (HA2.out.row _ (.head _))).mono ?_
    rintro e v3 ⟨⟨r, rfl, hown⟩, hb⟩
    obtain ⟨D3, d3, rfl, _, hr, _⟩ := rs_own hown
    have HH3 := Lib.hid ((HA2.out.next hb).addN hr)
    clear hb hown hr
    clear hc0 hc1
    have hc0 := HH3.out.cell (.head _) 0
    have hc1 := HH3.out.cell (.tail _ (.head _)) 0
    go_wp2_with fail
    refine (CRe.out D3 d3 _ (HH3.out.row _ (.head _))).mono ?_
    rintro e v4 ⟨rfl, hb⟩
    have HH4 := Lib.hid (HH3.out.next hb)
    clear hb
    clear hc0 hc1
    have hc0 := HH4.out.cell (.head _) 0
    have hc1 := HH4.out.cell (.tail _ (.head _)) 0
    go_wp2_with fail
    refine (CI.out _ _ _ _ (HH4.out.set _ (.head _)) (HH4.out.row _ (.tail _ (.head _)))).mono ?_
    rintro e v5 ⟨rfl, hb⟩
    have HH5 := Lib.hid (HH4.out.next hb)
    clear hb
    clear hc0 hc1
    go_wp2_with fail
    go_ret
    exact ⟨by simp, HH5.out.out⟩
set_option maxRecDepth 100000 in
theorem lifted (os : Os) (started : os.Started) (H : Type) (enc : TypeId × Value → H) :
    ReturnsInHanded {} Try.checked os 11 .any (Rows.bitmapEncodesSpec.pre6 enc Try.prog Try.f11 Rows.bitmapEncodesRow.domain false) (Rows.bitmapEncodesSpec.post enc Try.prog Try.f11 false true false false) := by
  refine returnsInHanded_of_change (C := Try.checked) own started (by kernel_rfl) Try.func11
    (ChangeSpec.witness6 (enc := enc) (C := Try.checked) false ⟨#[], #[.agg #[.int .u16 0, .slice none 0 0]], []⟩ 8 (by kernel_rfl) (by kernel_rfl) (by kernel_rfl) (by kernel_rfl)) ?_
  intro W base args ds gs before hval0 hW _ _
  have hval : ∀ (j : Nat) t v, Try.f11.params[j]? = some t → args[j]? = some v → Value.okWide Try.prog W .any base t v := hval0
  have hW' := hW
  obtain ⟨p, q, hA0, hV, rfl, _, _⟩ := hW
  have hA : DataW.TrodAll enc Try.prog W 0 (fun _ => true) true Try.f11.params.toList args.toList ds p := hA0
  rw [Try.params11] at hA hval
  obtain ⟨v0, vs0, d0, ds0, p0, q0, hargs0, rfl, rfl, h0, r0⟩ := trodAll_cons hA
  obtain ⟨rfl, rfl, rfl⟩ := trodAll_nil r0
  obtain rfl : args = #[v0] := by cases args; simp_all
  obtain ⟨rfl, rfl⟩ := trodVars_none hV
  have lt0 : ∀ x ∈ p0, x.block < W.heap.size := fun x hx => hW'.lt x (by simp [hx])
  obtain ⟨b0, A0, c0, L0, rfl, hb0, hL0, hs0, hR0⟩ := open_set (hval 0 36 v0 rfl rfl) h0 lt0
  clear hA0 hval0
  simp only [List.append_nil] at hW'
  refine (walk W b0 hb0 A0 c0 L0 hL0 hs0 hR0).mono fun e W' ⟨he, hb⟩ => ?_
  subst he
  exact ⟨_, rfl, post_mem hW' hb (fun _ _ _ => trodAll_mk1 (shut_bool Try.underlying4 _)) (fun sp hsp => by
    have t := trodAll_cons_mk (carry laidOut (by kernel_rfl) (of_decide_eq_true (by kernel_rfl)) h0 hb lt0 sp (fun x hx => hsp x (by simp [hx]))) trodAll_mk0
    simp only [List.append_nil] at t
    exact t) (fun _ => rfl) (ok_one (by kernel_rfl) rfl (okWide_bool_mk Try.underlying4 _))⟩

theorem proved : Rows.BitmapEncodesSaid :=
  OpenClaim.holds_of_wide 11 Try.f11 rfl rfl rfl rfl rfl rfl rfl ⟨rfl, rfl, rfl, rfl, rfl⟩ rfl rfl rfl rfl rfl (by kernel_rfl) Try.func11 (by kernel_rfl)
    (of_decide_eq_true (by kernel_rfl)) (by unfold Func.isWrapper; first | (rw [if_pos (by decide +kernel)]; kernel_rfl) | (rw [if_neg (by decide +kernel)]; exact ⟨rfl, rfl⟩))
    (fun os started H enc _ => lifted os started H enc)

end Go.Proofs.Ytacgomhegjilgaa.lawEncodes
