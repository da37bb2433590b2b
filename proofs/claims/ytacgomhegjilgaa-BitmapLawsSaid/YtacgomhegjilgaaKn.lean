/- The law's 'known'. -/
import Derived.Test.YtacgomhegjilgaaHd
namespace Go.Proofs.Ytacgomhegjilgaa
open Go.ChangeShapes Go.WideShapes Go.ChangeAt Go.RowKit Ts

theorem known_set : rn (setL [5, 3, 4, 9]) = [(3, 5), (9, 9)] := by decide
theorem known_bs : Bs 90000 [(3, 6), (9, 10)] := by
  refine ⟨⟨?_, ?_⟩, by decide, fun k hk => ?_⟩
  · intro x hx; simp at hx; rcases hx with rfl | rfl <;> decide
  · simp
  · rw [isR_iff]
    simp only [In.cons] at hk
    rcases hk with hk | hk | hk
    · omega
    · omega
    · exact absurd hk In.nil
theorem known_not {N : List Iv} (h : Nrm N ∧ ∀ n, In n N ↔ (has n (allL 10) && !has n [(3, 6), (9, 10)]) = true) : N = [(0, 3), (6, 9)] := by
  refine nrm_ext h.1 ⟨fun x hx => ?_, by simp⟩ (fun n => (h.2 n).trans ?_)
  · simp at hx; rcases hx with rfl | rfl <;> decide
  · simp only [In.cons, has, allL, List.any_cons, List.any_nil, Bool.or_false, Bool.and_eq_true, Bool.not_eq_true', Bool.or_eq_false_iff, Bool.and_eq_false_iff, decide_eq_true_eq, decide_eq_false_iff_not, show (0 : Int) < 10 by decide, if_true]
    have : ¬ In n [] := In.nil
    simp only [this, or_false]
    omega
theorem known_sel : selR 3 [(3, 5), (9, 9)] = (9, true) := by decide
theorem known_rk : rkr 9 [(3, 5), (9, 9)] = 3 := by decide
theorem known_frm : (⟨(frmB [(3, 5), (9, 9)]).toArray⟩ : ByteArray) = { data := #[129, 2, 129, 3, 129, 3, 129, 3, 129, 1] } := by kernel_rfl
theorem known_rc : Rc [(3, 5), (9, 9)] := by intro x hx; simp at hx; rcases hx with rfl | rfl <;> decide
theorem known_asc : Asc [(3, 5), (9, 9)] := by unfold Asc; simp
set_option maxHeartbeats 4000000 in
set_option maxRecDepth 100000 in
theorem known_any (w : World) :
    Calls Try.prog 13 #[] w fun e w' => e = .returned (.bool true) ∧ Below w.heap.size w w' := by
  have hblk := Deep.blk_alloc_new w (.cells (nC [5, 3, 4, 9]).toArray 3)
  have HN := Lib.hid (of_any (some ⟨w.heap.size, 0, none⟩) 4 [5, 3, 4, 9] (by decide) (by decide) _ (rs_blk (cs := nC [5, 3, 4, 9]) hblk))
  have H0 := Lib.hid ((Hold.start w).alloc _ hblk)
  rw [known_set] at HN
  clear hblk
  go_enter Try.func13, Try.ntmps13
  go_wp2_with fail
  refine HN.out.mono ?_
  rintro e w1 ⟨⟨r, rfl, hr⟩, hb⟩
  have H1 := Lib.hid ((H0.out.next hb).addV hr)
  obtain ⟨A, c, rfl, _, _, _, _⟩ := hr
  have H1a := Lib.hid (H1.out.alloc (.cells #[.slice A 2 c] 26) (Deep.blk_alloc_new w1 _))
  clear hb
  have Hc := Lib.hid (not_ok (B := [(3, 6), (9, 10)]) known_bs 10 (by decide) _ (H1a.out.set _ (.head _)))
  go_wp2_with fail
  refine Hc.out.mono ?_
  rintro e w2 ⟨⟨r, N, rfl, hown, hN⟩, hb⟩
  obtain rfl := known_not hN
  have H2 := Lib.hid ((H1a.out.next hb).addV (sl_own hown))
  obtain ⟨A2, c2, rfl, _, _, _⟩ := rs_own hown
  have H2a := Lib.hid (H2.out.alloc (.cells #[.slice A2 2 c2] 26) (Deep.blk_alloc_new w2 _))
  have hc := H2.out.cell (.head _) 0
  have hlt := H2.out.lt (.head _)
  clear hb hown hN Hc
  have Hc := Lib.hid (select_sl (L := [(3, 5), (9, 9)]) (by decide) known_rc 3 (by decide) _ (H2a.out.set _ (.tail _ (.head _))))
  rw [known_sel] at Hc
  go_wp2_with fail
  refine Hc.out.mono ?_
  rintro e w3 ⟨rfl, hb⟩
  have H3 := Lib.hid (H2a.out.next hb)
  clear hb hc Hc
  have hc := H3.out.cell (.tail _ (.head _)) 0
  have Hc := Lib.hid (encode_any (L := [(3, 5), (9, 9)]) (by decide) known_rc _ (H3.out.set _ (.tail _ (.head _))))
  rw [known_frm] at Hc
  go_wp2_with fail
  refine Hc.out.mono ?_
  rintro e w4 ⟨rfl, hb⟩
  have H4 := Lib.hid (H3.out.next hb)
  clear hb hc Hc
  have hc := H4.out.cell (.head _) 0
  have H4a := Lib.hid (H4.out.alloc (.cells (ivCells [(0, 2), (6, 8)]).toArray 40) (Deep.blk_alloc_new w4 _))
  have Hc := Lib.hid (law_runs (L := [(0, 2), (6, 8)]) (by decide) (some ⟨w4.heap.size, 0, none⟩) 2 [(0, 2), (6, 8)] (by decide) _ (H4a.out.set _ (.head _)) (rs_blk (cs := ivCells [(0, 2), (6, 8)]) (H4a.out.blk _ (.head _))))
  rw [show decide ([((0 : Int), (2 : Int)), (6, 8)] = [(0, 2), (6, 8)]) = true by decide] at Hc
  go_wp2_with fail
  refine Hc.out.mono ?_
  rintro e w5 ⟨rfl, hb⟩
  have H5 := Lib.hid (H4a.out.next hb)
  clear hb hc Hc
  have hc := H5.out.cell (.tail _ (.tail _ (.head _))) 0
  have Hc := Lib.hid (rank_sl (L := [(3, 5), (9, 9)]) (by decide) known_asc (rc_rb known_rc) 9 _ (H5.out.set _ (.tail _ (.head _))))
  rw [known_rk] at Hc
  go_wp2_with fail
  refine Hc.out.mono ?_
  rintro e w6 ⟨rfl, hb⟩
  have H6 := Lib.hid (H5.out.next hb)
  clear hb hc Hc
  go_wp2_with fail
  go_ret
  exact ⟨rfl, H6.out.out⟩
end Go.Proofs.Ytacgomhegjilgaa
