/- EncodingCuts: the call (written by wip/bin/gen_fi.py). -/
import Derived.Test.YtepcihfkkeahhaaFg
import Derived.Test.YtepcihfkkeahhaaCu
namespace Go.Proofs.Ytepcihfkkeahhaa
open Go.ChangeShapes Go.WideShapes Go.ChangeAt Go.RowKit En

theorem fragF_pos (a q : Int) (L : List Sv) (M : List Ex) : 0 < (fragF a q L M).length := by
  have := num_ge1 a
  unfold fragF
  rw [List.length_append]; omega
theorem fragF_size' {a q : Int} (ha : In64 a) (hq : In64 q) {L : List Sv} {M : List Ex} (h : FOk L M) : (fragF a q L M).length ≤ 900000 := by
  have b1 := num_bounds a ha.1 ha.2
  have b2 := num_bounds q hq.1 hq.2
  have b3 := num_bounds (L.length : Int) (by omega) (by have := h.hL; omega)
  have b4 := num_bounds (M.length : Int) (by omega) (by have := h.hM; omega)
  have := h.hF
  have := h.hG
  unfold fragF
  simp only [List.length_append]; omega
theorem take_list (F : List UInt8) (k : Nat) : ((bytesOf F).extract 0 k).data.toList = F.take k := by
  have h := cut_mid (bytesOf F) 0 k
  rw [Nat.zero_add] at h
  rw [h]
  show (((bytesOf F).data.toList.drop 0).take k) = _
  rw [List.drop_zero]
  rfl
theorem cutF {a q : Int} (ha : In64 a) (hq : In64 q) {L : List Sv} {M : List Ex} (h : FOk L M) (k : Nat) (hk : k < (bytesOf (fragF a q L M)).size) (w : World) :
    Calls Try.prog 32 #[.string ((bytesOf (fragF a q L M)).extract 0 k)] w (DecFPost w (0, 0, [], []) 4) := by
  have hs := fragF_size ha hq h
  have e1 := take_list (fragF a q L M) k
  rw [bytesOf_size] at hk hs
  have hz : ((bytesOf (fragF a q L M)).extract 0 k).size = k := by
    have : ((bytesOf (fragF a q L M)).extract 0 k).data.toList.length = ((bytesOf (fragF a q L M)).extract 0 k).size := by simp
    rw [← this, e1, List.length_take]; omega
  have h1 := (pt_frag (s := (bytesOf (fragF a q L M)).extract 0 k) ha hq h).cut 0 ⟨k, hk, by rw [List.drop_zero]; exact e1⟩
  have h2 := decodeFragment_any ((bytesOf (fragF a q L M)).extract 0 k) (by rw [hz]; omega) w
  have e2 : endE ((bytesOf (fragF a q L M)).extract 0 k) (rdfrag ((bytesOf (fragF a q L M)).extract 0 k) (0, 0)).2 = 4 := by
    unfold endE; rw [if_neg (by rw [h1]; decide), h1]
  rw [e2, if_neg (by decide)] at h2
  exact h2
theorem moreF {a q : Int} (ha : In64 a) (hq : In64 q) {L : List Sv} {M : List Ex} (h : FOk L M) (b : UInt8) (w : World) :
    Calls Try.prog 32 #[.string (bytesOf (fragF a q L M) ++ bytesOf [b])] w (DecFPost w (0, 0, [], []) 3) := by
  have hs := fragF_size' ha hq h
  have hz : (bytesOf (fragF a q L M) ++ bytesOf [b]).size = (fragF a q L M).length + 1 := by rw [bytesOf_append, bytesOf_size, List.length_append]; rfl
  have h1 := at_frag (s := bytesOf (fragF a q L M) ++ bytesOf [b]) (p := 0) ha hq h.hL h.fit h.hM h.hex ⟨[b], by rw [bytesOf_append, List.drop_zero]; rfl⟩
  have h2 := decodeFragment_any (bytesOf (fragF a q L M) ++ bytesOf [b]) (by rw [hz]; omega) w
  have e2 : endE (bytesOf (fragF a q L M) ++ bytesOf [b]) (rdfrag (bytesOf (fragF a q L M) ++ bytesOf [b]) (0, 0)).2 = 3 := by
    rw [h1]; unfold endE
    dsimp only
    rw [if_pos rfl, if_pos (by rw [hz]; omega)]
  rw [e2, if_neg (by decide)] at h2
  exact h2
set_option maxRecDepth 100000 in
set_option maxHeartbeats 4000000 in
theorem cuts_any (a q : Int) (ha : In64 a) (hq : In64 q) (cut : Nat) (hcut : cut ≤ 65535) (more : UInt8) (L : List Sv) (hl : L.length ≤ 9223372036854775807) (hlim : ∀ x ∈ L, x.1.Lim) (hints : ∀ x ∈ L, x.1.Ints) (M : List Ex) (hm : M.length ≤ 9223372036854775807) (hex : ∀ x ∈ M, ExOk x) (A : Option Addr) (c : Nat) (A2 : Option Addr) (c2 : Nat) (w : World) (hR : Fr w A L A2 M) :
    Calls Try.prog 10 #[.agg #[.int .i64 a, .int .i64 q, .slice A L.length c, .slice A2 M.length c2], .int .u16 (cut : Int), .int .u8 (more.toNat : Int)] w fun e w' => e = .returned (.bool true) ∧ Below w.heap.size w w' := by
  have hsh := fun W h1 h2 => shorts_any L hl hlim A c W h1 h2
  have hfok := fun h1 h2 => FOk.of_short hints hex h1 h2 (M := M)
  have hen := fun (h : FOk L M) W hr => encF ha hq h A c A2 c2 W hr
  have hcf := fun (h : FOk L M) k hk W => cutF ha hq h k hk W
  have hmf := fun (h : FOk L M) W => moreF ha hq h more W
  have hfs := fun (h : FOk L M) => fragF_size ha hq h
  have hpos : 0 < (bytesOf (fragF a q L M)).size := by rw [bytesOf_size]; exact fragF_pos a q L M
  obtain ⟨F, hF⟩ : ∃ F, F = bytesOf (fragF a q L M) := ⟨_, rfl⟩
  simp only [← hF] at hen hcf hmf hfs hpos
  obtain ⟨B, hB⟩ : ∃ B, B = bytesOf [more] := ⟨_, rfl⟩
  simp only [← hB] at hmf
  have hB1 : B.size = 1 := by rw [hB]; rfl
  have HBm := Lib.hid hB
  have Hsh := Lib.hid hsh
  have Hfok := Lib.hid hfok
  have Hen := Lib.hid hen
  have Hcf := Lib.hid hcf
  have Hmf := Lib.hid hmf
  have Hfs := Lib.hid hfs
  clear hsh hfok hen hcf hmf hfs hF hB hlim hints hex ha hq
  have HB0 : Hid (Below w.heap.size w (w.alloc (.cells #[.int .i64 a, .int .i64 q, .slice A L.length c, .slice A2 M.length c2] 62))) := Lib.hid ((Below.refl _ _).alloc (Nat.le_refl _) _)
  have HR0 := Lib.hid (hR.below HB0.out)
  have Hb0 : Hid ((w.alloc (.cells #[.int .i64 a, .int .i64 q, .slice A L.length c, .slice A2 M.length c2] 62)).heap[w.heap.size]? = some (.cells #[.int .i64 a, .int .i64 q, .slice A L.length c, .slice A2 M.length c2] 62 (0, 0))) := Lib.hid (Deep.blk_alloc_new w _)
  clear hR
  go_enter Try.func10, Try.ntmps10
  go_wp2_with fail
  refine (known_any _).mono ?_
  rintro e w1 ⟨rfl, hb⟩
  have hs1 : w.heap.size < w1.heap.size := by have := hb.size; simp at this; omega
  have HB1 := Lib.hid (HB0.out.trans (hb.mono (by simp)))
  have HR1 := Lib.hid (HR0.out.below hb)
  have hb1 := (hb.block w.heap.size (by simp)).trans Hb0.out
  have Hb1 := Lib.hid hb1
  have c0 := cell_of_row w1 w.heap.size 0 _ _ _ hb1
  have c1 := cell_of_row w1 w.heap.size 1 _ _ _ hb1
  have c2' := cell_of_row w1 w.heap.size 2 _ _ _ hb1
  have c3' := cell_of_row w1 w.heap.size 3 _ _ _ hb1
  clear hb hb1
  go_wp2_with fail
  refine (Hsh.out w1 HR1.out.1 HR1.out.2.1).mono ?_
  rintro e w2 ⟨⟨bl, rfl, hbl⟩, hb⟩
  have hs2 := hb.size
  have HB2 := Lib.hid (HB1.out.trans (hb.mono (by omega)))
  have HR2 := Lib.hid (HR1.out.below hb)
  have hb2 := (hb.block w.heap.size hs1).trans Hb1.out
  have Hb2 := Lib.hid hb2
  clear c0 c1 c2' c3'
  have d0 := cell_of_row w2 w.heap.size 0 _ _ _ hb2
  have d1 := cell_of_row w2 w.heap.size 1 _ _ _ hb2
  have d2 := cell_of_row w2 w.heap.size 2 _ _ _ hb2
  have d3 := cell_of_row w2 w.heap.size 3 _ _ _ hb2
  clear hb hb2
  by_cases hok : bl = true ∧ M.length ≤ 8
  · obtain ⟨rfl, hm8⟩ := hok
    have hm8' : ¬ (8 : Int) < (M.length : Int) := by omega
    have Hq := Lib.hid (Hfok.out (hbl rfl) hm8)
    clear hbl
    have hfs := Hfs.out Hq.out
    have hlt0 : w.heap.size < w2.heap.size := by omega
    go_wp2_with fail
    refine (Hen.out Hq.out w2 HR2.out).mono ?_
    rintro e w3 ⟨rfl, hb⟩
    have hs3 := hb.size
    have HB3 := Lib.hid (HB2.out.trans (hb.mono (by omega)))
    clear hb d0 d1 d2 d3
    have hkl : cut % F.size < F.size := Nat.mod_lt _ hpos
    go_wp2_with fail
    refine (Hcf.out Hq.out _ hkl w3).mono ?_
    rintro e w4 ⟨⟨A3, c3, L3, A4, c4, _, rfl, _, _⟩, hb⟩
    have hs4 := hb.size
    have HB4 := Lib.hid (HB3.out.trans (hb.mono (by omega)))
    clear hb hkl
    dsimp only
    have hcv : (convert 76 9 (.slice (some ⟨w4.heap.size + 1, 0, none⟩) 1 1)).run Try.prog ((w4.alloc (.cells #[.int .i64 0, .int .i64 0, .slice A3 L3.length c3, .slice A4 0 c4] 62)).alloc (.cells #[.int .u8 (more.toNat : Int)] 5)) = .ok (.string B) ((w4.alloc (.cells #[.int .i64 0, .int .i64 0, .slice A3 L3.length c3, .slice A4 0 c4] 62)).alloc (.cells #[.int .u8 (more.toNat : Int)] 5)) :=
      HBm.out ▸ run_convert_bytes_back _ 76 9 5 ⟨w4.heap.size + 1, 0, none⟩ 1 [more] Try.underlying76 Try.underlying5 Try.underlying9 (fun j hj => by
        have hj0 : j = 0 := by simpa using hj
        subst hj0
        rw [add_flat, Nat.zero_add, cell_of_row _ (w4.heap.size + 1) 0 _ _ _ (blk_second w4 _ _)]
        rfl)
    have HBx : Hid (Below w4.heap.size w4 ((w4.alloc (.cells #[.int .i64 0, .int .i64 0, .slice A3 L3.length c3, .slice A4 0 c4] 62)).alloc (.cells #[.int .u8 (more.toNat : Int)] 5))) := Lib.hid (((Below.refl _ _).alloc (Nat.le_refl _) _).alloc (by simp) _)
    have hsx : F.size + B.size ≤ 1000001 := by omega
    go_wp2_with fail
    refine (Hmf.out Hq.out _).mono ?_
    rintro e w5 ⟨⟨A5, c5, L5, A6, c6, _, rfl, _, _⟩, hb⟩
    have HB5 := Lib.hid (HB4.out.trans ((HBx.out.trans (hb.mono (by simp; omega))).mono (by omega)))
    clear hb
    dsimp only
    go_wp2_with fail
    go_ret
    exact ⟨rfl, below_al HB5.out⟩
  · cases bl with
    | false =>
      clear hbl
      go_wp2_with fail
      refine (known_any w2).mono ?_
      rintro e w3 ⟨rfl, hb⟩
      have HB3 := Lib.hid (HB2.out.trans (hb.mono (by omega)))
      clear hb
      go_wp2_with fail
      go_ret
      exact ⟨rfl, HB3.out⟩
    | true =>
      have hm8 : (8 : Int) < (M.length : Int) := by
        have : ¬ M.length ≤ 8 := fun h => hok ⟨rfl, h⟩
        omega
      clear hbl
      go_wp2_with fail
      refine (known_any w2).mono ?_
      rintro e w3 ⟨rfl, hb⟩
      have HB3 := Lib.hid (HB2.out.trans (hb.mono (by omega)))
      clear hb
      go_wp2_with fail
      go_ret
      exact ⟨rfl, HB3.out⟩
end Go.Proofs.Ytepcihfkkeahhaa
