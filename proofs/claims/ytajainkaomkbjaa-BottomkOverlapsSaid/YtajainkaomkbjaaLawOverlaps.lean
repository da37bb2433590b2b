/- BottomkOverlaps: for any setting and any two lists of keys the law returns true. -/
import Derived.Test.YtajainkaomkbjaaDy
import Derived.Lib.QuietBelow
import Derived.Deep.RegionHeld3
import Derived.Deep.DeepCutAuto
namespace Go.Proofs.Ytajainkaomkbjaa.lawOverlaps
open Go.Proofs.Ytajainkaomkbjaa Go.ChangeShapes Go.WideShapes Go.ChangeAt Go.RowKit Go.Joins Bt

theorem laidOut : laidOutB Try.prog = true := by kernel_rfl
theorem own_str {w : World} {base n : Nat} {v : Value} {R : List ByteArray} (h : w.ownsRow base 9 1 v n (R.map Value.string)) : ∃ A c, v = .slice A n c ∧ n = R.length ∧ n ≤ c ∧ (A = none → c = 0) ∧ Rd Value.string w A R := by
  obtain ⟨A, c, rfl, hc, hr⟩ := out_own h
  have hn : n = R.length := by have := h.1; simpa using this.symm
  refine ⟨A, c, by rw [hn], hn, by omega, fun e => ?_, hr⟩
  rcases h.2 with ⟨hv, h0⟩ | ⟨g, cap, cur, hv, _⟩
  · injection hv
  · rw [e] at hv
    injection hv with h1
    cases h1
theorem own_lower {w : World} {base base' n e k : Nat} {v : Value} {xs : List Value} (h : w.ownsRow base e k v n xs) (hb : base' ≤ base) : w.ownsRow base' e k v n xs := by
  refine ⟨h.1, ?_⟩
  rcases h.2 with h0 | ⟨g, cap, cur, e1, hbase, hr⟩
  · exact .inl h0
  · exact .inr ⟨g, cap, cur, e1, Nat.le_trans hb hbase, hr⟩
theorem rd_cells {w : World} {A : Option Addr} {L : List ByteArray} (h : Rd Value.string w A L) : ∀ ad, A = some ad → ∀ j u, (L.map Value.string)[j]? = some u → w.cell? (ad.add j) = some u := by
  intro ad e j u hu
  have hlt := (List.getElem?_eq_some_iff.1 hu).1
  rw [List.length_map] at hlt
  obtain ⟨b, off, e2, _, hc⟩ := h j hlt
  rw [e] at e2
  injection e2 with e2
  subst e2
  rw [add_flat, hc]
  rw [List.getElem?_map, List.getElem?_eq_getElem hlt] at hu
  exact hu
section
variable {w : World}
theorem step_append_strs {ops : Array Oper} {o : Oper} {a : Act} {K : Act → World → Prop} {Q : Exit → Act → World → Prop} {E : Prop} (hg : o.guard = none) (s x : Operand)
    (ho : o.op = .call { callee := .builtin .append, args := #[s, x], argTypes := #[36, 36] })
    (base : Nat) (v : Value) (n : Nat) (L : List ByteArray) (hs : a.eval s = v) (hown : w.ownsRow base 9 1 v n (L.map Value.string))
    (ao : Option Addr) (m c : Nat) (hx : a.eval x = .slice ao m c) (M : List ByteArray) (hm : M.length = m) (hnone : ao = none → c = 0) (hmc : m ≤ c) (hR : Rd Value.string w ao M)
    (hn : n + m ≤ 1000000) (hbase : base ≤ w.heap.size)
    (h : ∀ v' w', w'.ownsRow base 9 1 v' (n + m) ((L ++ M).map Value.string) → w.grownBy w' v.ownBlock → K (a.put o.dst v') w') :
    if Region.wanted o (yielded ops a.tmps) = true then Oper.wp Try.prog o a w K Q else E := by
  have hw : Region.wanted o (yielded ops a.tmps) = true := by simp [Region.wanted, hg]
  rw [if_pos hw]
  obtain ⟨i0, hi0, hz0, hz1, hz2⟩ := info_parts2 str_info
  cases ao with
  | some ad =>
    refine wp_append_own w s x 36 ho base 9 i0 _ 1 16 Try.underlying36 hi0 hz0 hz1 hz2 rfl (by omega) v n (L.map Value.string) hs hown ad m c (M.map Value.string) hx (by rw [List.length_map, hm, Nat.mul_one]) (rd_cells hR ad rfl) (fun u hu => by obtain ⟨t, _, rfl⟩ := List.mem_map.1 hu; rfl) (by unfold maxLen; omega) (by omega) hbase (fun v' w' h2 h3 _ => h v' w' (by rw [List.map_append]; exact h2) h3)
  | none =>
    obtain rfl := hnone rfl
    obtain rfl : m = 0 := by omega
    obtain rfl : M = [] := List.eq_nil_of_length_eq_zero hm
    have hrun := run_append_owned_none (P := Try.prog) (w := w) base 36 o.type 9 i0 1 Try.underlying36 hi0 v n (L.map Value.string) hown
    unfold Oper.wp
    simp [execOp, ho, resolve, invoke, builtin, hs, hx, hrun, Result.andThen]
    exact h v w (by simpa using hown) ⟨rfl, rfl, rfl, Nat.le_refl _, fun _ _ _ => rfl⟩
end
theorem stv_set {w : World} {z : Nat} {n sd : Int} {S : List Ky} {u c0 c1 c2 : Value} {cs : Array Value} (h : StV w n sd S u) (hz : w.heap[z]? = some (.cells cs 28 (0, 0))) : StV (((w.setCell ⟨z, 0, none⟩ c0).setCell ⟨z, 1, none⟩ c1).setCell ⟨z, 2, none⟩ c2) n sd S u := by
  obtain ⟨v, e, hs⟩ := h
  exact ⟨v, e, SlV.grown hs ((((Gs.refl z w).set _).set _).set _) hz (by decide)⟩
theorem blk_set_all {w : World} {z : Nat} {c0 c1 c2 v0 v1 v2 : Value} {T : TypeId} (h : w.heap[z]? = some (.cells #[c0, c1, c2] T (0, 0))) : (((w.setCell ⟨z, 0, none⟩ v0).setCell ⟨z, 1, none⟩ v1).setCell ⟨z, 2, none⟩ v2).heap[z]? = some (.cells #[v0, v1, v2] T (0, 0)) := by
  rw [blk_set _ (blk_set _ (blk_set _ h))]
  simp

theorem slv_take {w : World} {A : Option Addr} {l c n : Nat} {S : List Ky} (h : SlV w (.slice A l c) S) : SlV w (.slice A (min l n) c) (S.take n) := by
  obtain ⟨A', c', e, h1, h2, h3⟩ := h
  simp only [Value.slice.injEq] at e
  obtain ⟨rfl, rfl, rfl⟩ := e
  exact ⟨A, c, by rw [List.length_take, Nat.min_comm], by rw [List.length_take]; omega, h2, h3.take n⟩
theorem slv_of {w : World} {n sd : Int} {S : List Ky} {A : Option Addr} {l c : Nat} {x y : Value} (h : StV w n sd S (.agg #[x, y, .slice A l c])) : SlV w (.slice A l c) S := by
  obtain ⟨v, e, h⟩ := h
  injection e with e
  have e2 := congrArg (fun q : Array Value => q[2]?) e
  simp at e2
  rw [e2]; exact h
theorem slv_le {w : World} {S : List Ky} {A : Option Addr} {l c : Nat} (h : SlV w (.slice A l c) S) : l ≤ c ∧ l = S.length := by
  obtain ⟨A', c', e, h1, _, _⟩ := h
  simp only [Value.slice.injEq] at e
  obtain ⟨rfl, rfl, rfl⟩ := e
  exact ⟨h1, rfl⟩
theorem slv_at {w : World} {S : List Ky} {A : Option Addr} {l c : Nat} (h : SlV w (.slice A l c) S) (j : Nat) (hj : j < S.length) :
    ∃ b off, A = some ⟨b, off, none⟩ ∧ b < w.heap.size ∧ w.cell? ⟨b, off + j * 2, none⟩ = some (.int .i64 S[j].1) ∧ w.cell? ⟨b, off + j * 2 + 1, none⟩ = some (.string S[j].2) := by
  obtain ⟨A', c', e, _, _, h3⟩ := h
  simp only [Value.slice.injEq] at e
  obtain ⟨rfl, rfl, rfl⟩ := e
  exact h3.at j hj
set_option maxRecDepth 100000 in
set_option maxHeartbeats 8000000 in
theorem walk (w : World) (a b : Nat) (ha : a ≤ 255) (hb : b ≤ 255) (A : Option Addr) (c : Nat) (L : List Nat) (hl : L.length ≤ 9223372036854775807) (hs : ∀ x ∈ L, x ≤ 255) (hR : Rd u8N w A L) (B : Option Addr) (d : Nat) (M : List Nat) (hl2 : M.length ≤ 9223372036854775807) (hs2 : ∀ x ∈ M, x ≤ 255) (hR2 : Rd u8N w B M) :
    Calls Try.prog 8 #[.agg #[.int .u8 (a : Int), .int .u8 (b : Int)], .slice A L.length c, .slice B M.length d] w fun e w' => e = .returned (.bool true) ∧ Below w.heap.size w w' := by
  have HMa := Lib.hid (fun W h => made_any a b ha hb A c L hl hs W h)
  have HMb := Lib.hid (fun W h => made_any a b ha hb B d M hl2 hs2 W h)
  have HKa := Lib.hid (fun W h => keys_law A c L hl hs W h)
  have HKb := Lib.hid (fun W h => keys_law B d M hl2 hs2 W h)
  have hok1 := txts_ok hs
  have hok2 := txts_ok hs2
  have hlen1 := txts_len L
  have hlen2 := txts_len M
  have HRa := Lib.hid hR
  have HRb := Lib.hid hR2
  obtain ⟨K1, hK1⟩ : ∃ K, K = txts L := ⟨_, rfl⟩
  obtain ⟨K2, hK2⟩ : ∃ K, K = txts M := ⟨_, rfl⟩
  rw [← hK1] at HMa HKa hok1 hlen1
  rw [← hK2] at HMb HKb hok2 hlen2
  obtain ⟨n, hn⟩ : ∃ n, n = 1 + a % 12 := ⟨_, rfl⟩
  have hn1 : 1 ≤ n ∧ n ≤ 12 := by omega
  rw [← hn] at HMa HMb
  have HRf := Lib.hid (fun W A c h => rof_any (n : Int) (b : Int) A c (K1 ++ K2) (by rw [List.length_append]; omega) (fun t ht => (List.mem_append.1 ht).elim (fun h => (hok1 t h).1) (fun h => (hok2 t h).1)) W h)
  have HEq := Lib.hid (mrg_bld (kys (b : Int) K1) (kys (b : Int) K2))
  rw [show kys (b : Int) K1 ++ kys (b : Int) K2 = kys (b : Int) (K1 ++ K2) by simp [kys]] at HEq
  have hS1 := bldk_len (b : Int) K1
  have hS2 := bldk_len (b : Int) K2
  have hS3 := bldk_len (b : Int) (K1 ++ K2)
  rw [List.length_append] at hS3
  have hSr1 := bld_srt (kys (b : Int) K1)
  have hSr2 := bld_srt (kys (b : Int) K2)
  obtain ⟨S, hS⟩ : ∃ S, S = bld (kys (b : Int) K1) := ⟨_, rfl⟩
  obtain ⟨T, hT⟩ : ∃ T, T = bld (kys (b : Int) K2) := ⟨_, rfl⟩
  obtain ⟨U, hU⟩ : ∃ U, U = bld (kys (b : Int) (K1 ++ K2)) := ⟨_, rfl⟩
  rw [← hS] at HMa HEq hS1 hSr1
  rw [← hT] at HMb HEq hS2 hSr2
  rw [← hU] at HRf HEq hS3
  have HSS := Lib.hid (mrg_self hSr1)
  have HSS0 := HSS
  have HTS : Hid (mrg T S = U) := Lib.hid (by rw [mrg_comm hSr2 hSr1]; exact HEq.out)
  have hb1 := hb_kys (b : Int) K1
  have hb2 := hb_kys (b : Int) K2
  have hb3 := hb_kys (b : Int) (K1 ++ K2)
  rw [← hS] at hb1
  rw [← hT] at hb2
  rw [← hU] at hb3
  have HUn := Lib.hid (fun g h W h1 h2 => union_all g h n (b : Int) (by omega) (by omega) S T hb1 hb2 W h1 h2)
  rw [HEq.out] at HUn
  have HOv := Lib.hid (fun g h W h1 h2 => overlap_all g h n (b : Int) (by omega) S T hSr1 hSr2 W h1 h2)
  have HOw := Lib.hid (fun g h W h1 h2 => overlap_all g h n (b : Int) (by omega) T S hSr2 hSr1 W h1 h2)
  rw [shN_comm hSr1 hSr2] at HOw
  have HOs := Lib.hid (fun g h W h1 h2 => overlap_all g h n (b : Int) (by omega) S S hSr1 hSr1 W h1 h2)
  rw [shN_self (by omega : 0 < n) hSr1] at HOs
  have HDr := Lib.hid (fun u W h => rdistinct_any n (b : Int) (by omega) (by omega) U (by omega) hb3 u W h)
  have HKv := Lib.hid (fun A l c hlc W => kept_val n (b : Int) A l c hlc W)
  have HSh : Hid (shN n S T = if (U.take n).length = 0 then 0 else cnB (S.take n) (T.take n) (U.take n) (U.take n).length * 1000000 / (U.take n).length) := Lib.hid (by unfold shN; rw [HEq.out])
  obtain ⟨D, hD⟩ : ∃ q, q = dstN n U := ⟨_, rfl⟩
  rw [← hD] at HUn HDr
  obtain ⟨sh, hsh⟩ : ∃ q, q = shN n S T := ⟨_, rfl⟩
  rw [← hsh] at HOv HOw HSh
  clear hD hsh hb1 hb2 hb3
  have hS40 : S.length ≤ 80 := by omega
  have hT40 : T.length ≤ 80 := by omega
  have hU80 : U.length ≤ 80 := by omega
  obtain ⟨k1, hk1⟩ : ∃ k, k = K1.length := ⟨_, rfl⟩
  obtain ⟨k2, hk2⟩ : ∃ k, k = K2.length := ⟨_, rfl⟩
  obtain ⟨k3, hk3⟩ : ∃ k, k = (K1 ++ K2).length := ⟨_, rfl⟩
  have HK3 : Hid (k1 + k2 = k3) := Lib.hid (by rw [hk1, hk2, hk3, List.length_append])
  have HL2 : Hid (K2.length = k2) := Lib.hid hk2.symm
  have HLe : Hid (k1 + k2 ≤ 1000000) := Lib.hid (by omega)
  rw [← hk1] at HKa
  rw [← hk2] at HKb
  rw [← hk3] at HRf
  obtain ⟨l1, hl1⟩ : ∃ l, l = S.length := ⟨_, rfl⟩
  obtain ⟨l2, hll2⟩ : ∃ l, l = T.length := ⟨_, rfl⟩
  obtain ⟨l3, hl3⟩ : ∃ l, l = U.length := ⟨_, rfl⟩
  have HL1 := Lib.hid hl1
  have HLl2 := Lib.hid hll2
  have HL3 := Lib.hid hl3
  have HN0 := Lib.hid hn1
  obtain ⟨m, hm⟩ : ∃ m, m = a % 12 := ⟨_, rfl⟩
  have HB0 : Hid (Below w.heap.size w (w.alloc (.cells #[.int .u8 (a : Int), .int .u8 (b : Int)] 23))) := Lib.hid ((Below.refl _ _).alloc (Nat.le_refl _) _)
  have HG0 := Lib.hid (Deep.blk_alloc_new w (.cells #[.int .u8 (a : Int), .int .u8 (b : Int)] 23))
  obtain ⟨la, hla⟩ : ∃ la, la = L.length := ⟨_, rfl⟩
  obtain ⟨lb, hlb⟩ : ∃ lb, lb = M.length := ⟨_, rfl⟩
  rw [← hla] at HMa HKa ⊢
  rw [← hlb] at HMb HKb ⊢
  clear hla hlb hl1 hll2 hl3 hm hk1 hk2 hk3 hS hT hU hSr1 hSr2 hS1 hS2 hS3 hok1 hok2 hlen1 hlen2 hK1 hK2 hn hR hR2 hl hl2 hs hs2 ha hb hn1
  go_enter Try.func8, Try.ntmps8
  go_wp2_with fail
  obtain ⟨w0, hw0⟩ : ∃ w0, w0 = (w.alloc (.cells #[.int .u8 (a : Int), .int .u8 (b : Int)] 23)) := ⟨_, rfl⟩
  rw [← hw0] at HB0 HG0 ⊢
  clear hw0
  have hl0 : w.heap.size < w0.heap.size := (Array.getElem?_eq_some_iff.1 HG0.out).1
  have HBK := Lib.hid (fun (W : World) (h : Below w0.heap.size w0 W) => HB0.out.trans (h.mono HB0.out.size))
  with_reducible refine (HMa.out _ (HRa.out.below HB0.out)).mono ?_
  rintro e w1 ⟨⟨g1, u1, rfl, hgw1, hsk, hst⟩, hb1⟩
  have HT1 := Lib.hid hst
  obtain ⟨v1, rfl, hv1⟩ := hst
  obtain ⟨A1, c1, rfl, _⟩ := hv1
  rw [← HL1.out] at HT1 ⊢
  obtain ⟨o1, ho1⟩ : ∃ o1, o1 = Obj.cells #[.int .i64 (n : Int), .int .i64 (b : Int), .slice A1 l1 c1] 28 := ⟨_, rfl⟩
  have HD1 := Lib.hid (hb1.alloc hb1.size o1)
  have HK1 := Lib.hid (hsk.below ((Below.refl _ _).alloc (Nat.le_refl _) o1))
  have HU1 := Lib.hid (HT1.out.below ((Below.refl _ _).alloc (Nat.le_refl _) o1))
  have HZa := Lib.hid (Deep.blk_alloc_new w1 o1)
  have q0 := cell_of_row _ w.heap.size 0 _ _ _ ((HD1.out.block _ hl0).trans HG0.out)
  have q1 := cell_of_row _ w.heap.size 1 _ _ _ ((HD1.out.block _ hl0).trans HG0.out)
  rw [ho1] at HD1 HK1 HU1 HZa q0 q1
  simp at q0 q1
  clear hb1 hsk ho1
  go_wp2_with fail
  obtain ⟨w2, hw2⟩ : ∃ w2, w2 = w1.alloc (.cells #[.int .i64 (n : Int), .int .i64 (b : Int), .slice A1 l1 c1] 28) := ⟨_, rfl⟩
  rw [← hw2] at HD1 HK1 HU1 HZa q0 q1 ⊢
  obtain ⟨z1, hz1⟩ : ∃ z1, z1 = w1.heap.size := ⟨_, rfl⟩
  rw [← hz1] at HZa ⊢
  clear hw2 hz1 q0 q1
  with_reducible refine (HMb.out _ (HRb.out.below (HBK.out _ HD1.out))).mono ?_
  rintro e w3 ⟨⟨g2, u2, rfl, hgw2, hsk, hst⟩, hb2⟩
  have HT2 := Lib.hid hst
  obtain ⟨v2, rfl, hv2⟩ := hst
  obtain ⟨A2, c2, rfl, _⟩ := hv2
  rw [← HLl2.out] at HT2 ⊢
  obtain ⟨o2, ho2⟩ : ∃ o2, o2 = Obj.cells #[.int .i64 (n : Int), .int .i64 (b : Int), .slice A2 l2 c2] 28 := ⟨_, rfl⟩
  have HE4 := Lib.hid (hb2.alloc hb2.size o2)
  have HK2 := Lib.hid (hsk.below ((Below.refl _ _).alloc (Nat.le_refl _) o2))
  have HU2 := Lib.hid (HT2.out.below ((Below.refl _ _).alloc (Nat.le_refl _) o2))
  have HZb := Lib.hid (Deep.blk_alloc_new w3 o2)
  have HK1 := Lib.hid (HK1.out.below HE4.out)
  have HU1 := Lib.hid (HU1.out.below HE4.out)
  have HZa := Lib.hid ((HE4.out.block _ (Array.getElem?_eq_some_iff.1 HZa.out).1).trans HZa.out)
  have HB3 := Lib.hid (HBK.out _ (HD1.out.trans (HE4.out.mono HD1.out.size)))
  rw [ho2] at HK2 HU2 HZb HK1 HU1 HZa HB3
  clear hb2 hsk ho2 HE4 HD1
  go_wp2_with fail
  obtain ⟨w4, hw4⟩ : ∃ w4, w4 = w3.alloc (.cells #[.int .i64 (n : Int), .int .i64 (b : Int), .slice A2 l2 c2] 28) := ⟨_, rfl⟩
  rw [← hw4] at HK2 HU2 HZb HK1 HU1 HZa HB3 ⊢
  obtain ⟨z2, hz2⟩ : ∃ z2, z2 = w3.heap.size := ⟨_, rfl⟩
  rw [← hz2] at HZb ⊢
  clear hw4 hz2
  with_reducible refine (known_any _).mono ?_
  rintro e w5 ⟨rfl, hb⟩
  have HB5 := Lib.hid (HB3.out.trans (hb.mono HB3.out.size))
  have HK1 := Lib.hid (HK1.out.below hb)
  have HK2 := Lib.hid (HK2.out.below hb)
  have HU1 := Lib.hid (HU1.out.below hb)
  have HU2 := Lib.hid (HU2.out.below hb)
  have HZa := Lib.hid ((hb.block _ (Array.getElem?_eq_some_iff.1 HZa.out).1).trans HZa.out)
  have HZb := Lib.hid ((hb.block _ (Array.getElem?_eq_some_iff.1 HZb.out).1).trans HZb.out)
  have HC : Hid (∀ W, Below w5.heap.size w5 W → W.cell? ⟨z1, 0, none⟩ = some (.int .i64 (n : Int)) ∧ W.cell? ⟨z1, 1, none⟩ = some (.int .i64 (b : Int))) := Lib.hid (fun W h => by
    have hz := (h.block _ (Array.getElem?_eq_some_iff.1 HZa.out).1).trans HZa.out
    exact ⟨cell_of_row W z1 0 _ _ _ hz, cell_of_row W z1 1 _ _ _ hz⟩)
  have HKa := Lib.hid (fun W (h : Below w5.heap.size w5 W) => HKa.out W (HRa.out.below (HB5.out.trans (h.mono HB5.out.size))))
  have HKb := Lib.hid (fun W (h : Below w5.heap.size w5 W) => HKb.out W (HRb.out.below (HB5.out.trans (h.mono HB5.out.size))))
  have HD0 : Hid (Below w5.heap.size w5 w5.drew) := Lib.hid (Below.refl _ _).drew
  clear hb
  go_upto_region 5 with fail
  go_cut [11] (fun s11 wx => ∃ (z : Nat) (A8 : Option Addr) (c8 : Nat), s11 = .pointer (some ⟨z, 0, none⟩) ∧ Hid (Below w5.heap.size w5 wx) ∧ Hid (wx.heap[z]? = some (.cells #[.int .i64 (n : Int), .int .i64 (b : Int), .slice A8 l3 c8] 28 (0, 0))) ∧ Hid (StV wx n b U (.agg #[.int .i64 (n : Int), .int .i64 (b : Int), .slice A8 l3 c8])))
  case first =>
    go_region_held3 (fun W => W.cell? ⟨z1, 0, none⟩ = some (.int .i64 (n : Int)) ∧ W.cell? ⟨z1, 1, none⟩ = some (.int .i64 (b : Int)))
      (exact HC.out _ (by first | exact HD4.out | exact ((HD4.out.setCell (p := ⟨_, 0, none⟩) HG.out _).setCell (p := ⟨_, 1, none⟩) HG.out _).setCell (p := ⟨_, 2, none⟩) HG.out _ | exact bz_alloc HD4.out _ | exact HD3.out | exact bz_alloc HD3.out _ | exact HD2.out | exact bz_alloc HD2.out _ | exact HD1.out | exact bz_alloc HD1.out _ | exact HD0.out | exact (bz_alloc (Below.refl _ _) _).drew | exact bz_alloc HD0.out _))
      ((first
        | (go_at_call 16; (with_reducible refine (HKa.out _ (by first | exact HD4.out | exact ((HD4.out.setCell (p := ⟨_, 0, none⟩) HG.out _).setCell (p := ⟨_, 1, none⟩) HG.out _).setCell (p := ⟨_, 2, none⟩) HG.out _ | exact bz_alloc HD4.out _ | exact HD3.out | exact bz_alloc HD3.out _ | exact HD2.out | exact bz_alloc HD2.out _ | exact HD1.out | exact bz_alloc HD1.out _ | exact HD0.out | exact (bz_alloc (Below.refl _ _) _).drew | exact bz_alloc HD0.out _)).mono ?_); rintro e v1 ⟨⟨x1, rfl, ho⟩, hb1⟩; have HD1 : Hid (Below w5.heap.size w5 v1) := Lib.hid (bz_call (by first | exact HD4.out | exact ((HD4.out.setCell (p := ⟨_, 0, none⟩) HG.out _).setCell (p := ⟨_, 1, none⟩) HG.out _).setCell (p := ⟨_, 2, none⟩) HG.out _ | exact bz_alloc HD4.out _ | exact HD3.out | exact bz_alloc HD3.out _ | exact HD2.out | exact bz_alloc HD2.out _ | exact HD1.out | exact bz_alloc HD1.out _ | exact HD0.out | exact (bz_alloc (Below.refl _ _) _).drew | exact bz_alloc HD0.out _) hb1); (first | fail | (have HZ1 := Lib.hid ((hb1.block _ (Array.getElem?_eq_some_iff.1 (Deep.blk_alloc_new _ (Obj.cells #[.int .i64 0, .int .i64 0, .slice none 0 0] 28))).1).trans (Deep.blk_alloc_new _ (Obj.cells #[.int .i64 0, .int .i64 0, .slice none 0 0] 28))); have HG := Lib.hid (HD0.out.size); have HN := Lib.hid (fun (q : Nat) (e : x1.ownBlock = some q) (h : q = w5.heap.size) => (absurd (ho.lt q e).1 (by rw [h]; show ¬ (w5.alloc _).heap.size ≤ w5.heap.size; rw [World.size_alloc]; exact Nat.not_succ_le_self _) : False))) | skip); have HO1 : Hid (v1.ownsRow w5.heap.size 9 1 x1 k1 (K1.map Value.string)) := Lib.hid (own_lower ho (Below.size (show Below w5.heap.size w5 _ from (by first | exact HD0.out | exact (bz_alloc (Below.refl _ _) _).drew | exact bz_alloc HD0.out _)))); obtain ⟨A5, c5, rfl, hq5⟩ := own_str ho; clear hb1 ho hq5)
        | (go_at_call 16; (with_reducible refine (HKb.out _ (by first | exact HD4.out | exact ((HD4.out.setCell (p := ⟨_, 0, none⟩) HG.out _).setCell (p := ⟨_, 1, none⟩) HG.out _).setCell (p := ⟨_, 2, none⟩) HG.out _ | exact bz_alloc HD4.out _ | exact HD3.out | exact bz_alloc HD3.out _ | exact HD2.out | exact bz_alloc HD2.out _ | exact HD1.out | exact bz_alloc HD1.out _ | exact HD0.out | exact (bz_alloc (Below.refl _ _) _).drew | exact bz_alloc HD0.out _)).mono ?_); rintro e v2 ⟨⟨x2, rfl, ho⟩, hb1⟩; have HD2 : Hid (Below w5.heap.size w5 v2) := Lib.hid (bz_call (by first | exact HD4.out | exact ((HD4.out.setCell (p := ⟨_, 0, none⟩) HG.out _).setCell (p := ⟨_, 1, none⟩) HG.out _).setCell (p := ⟨_, 2, none⟩) HG.out _ | exact bz_alloc HD4.out _ | exact HD3.out | exact bz_alloc HD3.out _ | exact HD2.out | exact bz_alloc HD2.out _ | exact HD1.out | exact bz_alloc HD1.out _ | exact HD0.out | exact (bz_alloc (Below.refl _ _) _).drew | exact bz_alloc HD0.out _) hb1); (first | (have HZ2 := Lib.hid ((hb1.block _ (Array.getElem?_eq_some_iff.1 HZ1.out).1).trans HZ1.out)) | (have HZ2 := Lib.hid ((hb1.block _ (Array.getElem?_eq_some_iff.1 (Deep.blk_alloc_new _ (Obj.cells #[.int .i64 0, .int .i64 0, .slice none 0 0] 28))).1).trans (Deep.blk_alloc_new _ (Obj.cells #[.int .i64 0, .int .i64 0, .slice none 0 0] 28))); have HG := Lib.hid (HD1.out.size); have HN := Lib.hid (fun (q : Nat) (e : (Value.slice A5 k1 c5).ownBlock = some q) (h : q = v1.heap.size) => (absurd (HO1.out.lt q e).2 (by rw [h]; exact Nat.lt_irrefl _) : False))) | skip); have HO2 : Hid (v2.ownsRow w5.heap.size 9 1 (.slice A5 k1 c5) k1 (K1.map Value.string)) := Lib.hid (own_below (by first | exact HO1.out | exact HO1.out.alloc _) hb1); obtain ⟨A6, c6, rfl, hq6, hc6, hn6, hr6⟩ := own_str ho; clear hq6; have HR6 := Lib.hid hr6; have HN6 := Lib.hid hn6; clear hb1 ho hr6 hn6)
        | (refine step_append_strs rfl (.tmp 55) (.tmp 57) rfl w5.heap.size (.slice A5 k1 c5) k1 K1 (by rfl) (by first | exact HO2.out | exact HO2.out.alloc _) A6 k2 c6 (by rfl) K2 HL2.out HN6.out hc6 (by first | exact HR6.out | exact HR6.out.alloc _) HLe.out (Below.size (show Below w5.heap.size w5 _ from (by first | exact HD4.out | exact ((HD4.out.setCell (p := ⟨_, 0, none⟩) HG.out _).setCell (p := ⟨_, 1, none⟩) HG.out _).setCell (p := ⟨_, 2, none⟩) HG.out _ | exact bz_alloc HD4.out _ | exact HD3.out | exact bz_alloc HD3.out _ | exact HD2.out | exact bz_alloc HD2.out _ | exact HD1.out | exact bz_alloc HD1.out _ | exact HD0.out | exact (bz_alloc (Below.refl _ _) _).drew | exact bz_alloc HD0.out _))) ?_; intro x3 v3 ho hg; have HD3 : Hid (Below w5.heap.size w5 v3) := Lib.hid (below_grownk (B := w5.heap.size) (a := w5) (by first | exact HD4.out | exact ((HD4.out.setCell (p := ⟨_, 0, none⟩) HG.out _).setCell (p := ⟨_, 1, none⟩) HG.out _).setCell (p := ⟨_, 2, none⟩) HG.out _ | exact bz_alloc HD4.out _ | exact HD3.out | exact bz_alloc HD3.out _ | exact HD2.out | exact bz_alloc HD2.out _ | exact HD1.out | exact bz_alloc HD1.out _ | exact HD0.out | exact (bz_alloc (Below.refl _ _) _).drew | exact bz_alloc HD0.out _) (by first | exact HO2.out | exact HO2.out.alloc _) hg (Nat.le_refl _) (Nat.le_refl _)); (first | (have HZ3 := Lib.hid ((hg.block _ (Array.getElem?_eq_some_iff.1 HZ2.out).1 (fun e => HN.out _ e.symm rfl)).trans HZ2.out)) | (have HZ3 := Lib.hid ((hg.block _ (Array.getElem?_eq_some_iff.1 (Deep.blk_alloc_new _ (Obj.cells #[.int .i64 0, .int .i64 0, .slice none 0 0] 28))).1 (fun e => absurd (HO2.out.lt _ e.symm).2 (Nat.lt_irrefl _))).trans (Deep.blk_alloc_new _ (Obj.cells #[.int .i64 0, .int .i64 0, .slice none 0 0] 28))); have HG := Lib.hid (HD2.out.size)) | skip); obtain ⟨A7, c7, rfl, hq7, hc7, hn7, hr7⟩ := own_str ho; clear hq7 hc7; have HR7 := Lib.hid hr7; rw [HK3.out]; clear ho hg hr7 hn7)
        | (go_at_call 18; (with_reducible refine (HRf.out _ _ _ (by first | exact HR7.out | exact HR7.out.alloc _)).mono ?_); rintro e v4 ⟨⟨u4, rfl, hst⟩, hb1⟩; have HD4 : Hid (Below w5.heap.size w5 v4) := Lib.hid (bz_call (by first | exact HD4.out | exact ((HD4.out.setCell (p := ⟨_, 0, none⟩) HG.out _).setCell (p := ⟨_, 1, none⟩) HG.out _).setCell (p := ⟨_, 2, none⟩) HG.out _ | exact bz_alloc HD4.out _ | exact HD3.out | exact bz_alloc HD3.out _ | exact HD2.out | exact bz_alloc HD2.out _ | exact HD1.out | exact bz_alloc HD1.out _ | exact HD0.out | exact (bz_alloc (Below.refl _ _) _).drew | exact bz_alloc HD0.out _) hb1); (first | (have HZ4 := Lib.hid ((hb1.block _ (Array.getElem?_eq_some_iff.1 HZ3.out).1).trans HZ3.out)) | (have HZ4 := Lib.hid ((hb1.block _ (Array.getElem?_eq_some_iff.1 (Deep.blk_alloc_new _ (Obj.cells #[.int .i64 0, .int .i64 0, .slice none 0 0] 28))).1).trans (Deep.blk_alloc_new _ (Obj.cells #[.int .i64 0, .int .i64 0, .slice none 0 0] 28))); have HG := Lib.hid (HD3.out.size)) | skip); have HT4 := Lib.hid hst; obtain ⟨y4, rfl, ⟨A8, c8, rfl, _⟩⟩ := hst; rw [← HL3.out] at HT4 ⊢; (first | (have f0 := frozen_of_row v4 _ 0 _ _ HZ4.out; have f1 := frozen_of_row v4 _ 1 _ _ HZ4.out; have f2 := frozen_of_row v4 _ 2 _ _ HZ4.out; have r0 := cell_of_row v4 _ 0 _ _ _ HZ4.out; have r1 := cell_of_row v4 _ 1 _ _ _ HZ4.out; have r2 := cell_of_row v4 _ 2 _ _ _ HZ4.out; simp at r0 r1 r2; have hzl := (Array.getElem?_eq_some_iff.1 HZ4.out).1) | skip); clear hb1)
        | fail))
    all_goals
      go_wp2_with fail
      go_meet
      first
        | exact ⟨_, A8, c8, rfl, Lib.hid (bz_alloc HD4.out _), Lib.hid (Deep.blk_alloc_new _ _), Lib.hid (HT4.out.below ((Below.refl _ _).alloc (Nat.le_refl _) _))⟩
        | exact ⟨_, A8, c8, rfl, Lib.hid (((HD4.out.setCell (p := ⟨_, 0, none⟩) HG.out _).setCell (p := ⟨_, 1, none⟩) HG.out _).setCell (p := ⟨_, 2, none⟩) HG.out _), Lib.hid (blk_set_all HZ4.out), Lib.hid (stv_set HT4.out HZ4.out)⟩
  case rest =>
    obtain ⟨z3, A8, c8, rfl, HBc, HZc, HUc⟩ := hcut
    have HBc := HBc
    have HB6 := Lib.hid (HB5.out.trans (HBc.out.mono HB5.out.size))
    have HK1 := Lib.hid (HK1.out.below HBc.out)
    have HK2 := Lib.hid (HK2.out.below HBc.out)
    have HU1 := Lib.hid (HU1.out.below HBc.out)
    have HU2 := Lib.hid (HU2.out.below HBc.out)
    have HZa := Lib.hid ((HBc.out.block _ (Array.getElem?_eq_some_iff.1 HZa.out).1).trans HZa.out)
    have HZb := Lib.hid ((HBc.out.block _ (Array.getElem?_eq_some_iff.1 HZb.out).1).trans HZb.out)
    have hg1 := HK1.out.lt
    have hg2 := HK2.out.lt
    have hwc := HB6.out.size
    have HVs := Lib.hid (slv_of HU1.out)
    have HVt := Lib.hid (slv_of HU2.out)
    have HVu := Lib.hid (slv_of HUc.out)
    have hle1 := (slv_le HVs.out).1
    have hle2 := (slv_le HVt.out).1
    have hle3 := (slv_le HVu.out).1
    replace HVs := Lib.hid (slv_take (n := n) HVs.out)
    replace HVt := Lib.hid (slv_take (n := n) HVt.out)
    replace HVu := Lib.hid (slv_take (n := n) HVu.out)
    have HKs := Lib.hid (fun W => HKv.out A1 l1 c1 hle1 W)
    have HKt := Lib.hid (fun W => HKv.out A2 l2 c2 hle2 W)
    have HKu := Lib.hid (fun W => HKv.out A8 l3 c8 hle3 W)
    obtain ⟨XS, hXS⟩ : ∃ q, q = S.take n := ⟨_, rfl⟩
    obtain ⟨XT, hXT⟩ : ∃ q, q = T.take n := ⟨_, rfl⟩
    obtain ⟨X, hX⟩ : ∃ q, q = U.take n := ⟨_, rfl⟩
    rw [← hXS] at HVs HSh
    rw [← hXT] at HVt HSh
    rw [← hX] at HVu HSh
    obtain ⟨ls, hls⟩ : ∃ q, q = min l1 n := ⟨_, rfl⟩
    obtain ⟨lt, hlt'⟩ : ∃ q, q = min l2 n := ⟨_, rfl⟩
    obtain ⟨lx, hlx⟩ : ∃ q, q = min l3 n := ⟨_, rfl⟩
    rw [← hls] at HVs HKs
    rw [← hlt'] at HVt HKt
    rw [← hlx] at HVu HKu
    have HLs := Lib.hid (slv_le HVs.out).2
    have HLt := Lib.hid (slv_le HVt.out).2
    have HLx := Lib.hid (slv_le HVu.out).2
    have hlx1 : lx ≤ 1000 := by have := HN0.out; omega
    have hls1 : ls ≤ 1000 := by have := HN0.out; omega
    have hlt1 : lt ≤ 1000 := by have := HN0.out; omega
    rw [← HLx.out] at HSh
    have hcs : ls ≤ c1 := by omega
    have hct : lt ≤ c2 := by omega
    have hcx : lx ≤ c8 := by omega
    clear hXS hXT hX hls hlt' hlx hle1 hle2 hle3 HU1 HU2 hg1 hg2 hwc HRf HKa HKb HMa HMb HEq HKv HSS HSS0 HTS HK3 HL2 HLe HLl2 HL3 HRa HRb
    have r0 := cell_of_row wc z3 0 _ _ _ HZc.out
    have r1 := cell_of_row wc z3 1 _ _ _ HZc.out
    have r2 := cell_of_row wc z3 2 _ _ _ HZc.out
    simp at r0 r1 r2
    go_wp2_with fail
    with_reducible refine (HKu.out _).mono ?_
    rintro e wb ⟨rfl, hb⟩
    clear r0 r1 r2
    have HBb := Lib.hid (bz_call HB6.out hb)
    have HK1 := Lib.hid (HK1.out.below hb)
    have HK2 := Lib.hid (HK2.out.below hb)
    have HVs := Lib.hid (HVs.out.below hb)
    have HVt := Lib.hid (HVt.out.below hb)
    have HVu := Lib.hid (HVu.out.below hb)
    have HUc := Lib.hid (HUc.out.below hb)
    have HZa := Lib.hid (blk_below HZa.out hb)
    have HZb := Lib.hid (blk_below HZb.out hb)
    have HZc := Lib.hid (blk_below HZc.out hb)
    clear hb
    have HCS := Lib.hid (cnB_succ XS XT X)
    have HCl := Lib.hid (cnB_le XS XT X)
    go_wp2_with fail
    go_loopw [13, 14] (fun bv iv wr => ∃ i : Nat, i ≤ lx ∧ bv = .int .i64 (cnB XS XT X i : Int) ∧ iv = .int .i64 (i : Int) ∧ Hid (Below wb.heap.size wb wr)) (fun _ iv _ => lx - (intOf iv).toNat)
    case atStart => exact ⟨0, Nat.zero_le _, rfl, rfl, Lib.hid (Below.refl _ _)⟩
    case round =>
      obtain ⟨i, hi, rfl, rfl, HW⟩ := hrel
      by_cases hlt : i < lx
      · have hi2 : i < X.length := by rw [← HLx.out]; exact hlt
        have HCi := Lib.hid (HCS.out i hi2)
        have HBi := Lib.hid (HCl.out i)
        have HXat := Lib.hid (fun W (h : Below wb.heap.size wb W) => slv_at (HVu.out.below h) i hi2)
        obtain ⟨⟨kh, kt⟩, hk⟩ : ∃ k, k = X[i] := ⟨_, rfl⟩
        rw [← hk] at HXat HCi
        dsimp only at HXat
        obtain ⟨bx, ox, hAx, hbx, _, _⟩ := HXat.out wb (Below.refl _ _)
        have HX0 : Hid (∀ W, Below wb.heap.size wb W → W.cell? ⟨bx, ox + i * 2, none⟩ = some (.int .i64 kh) ∧ W.cell? ⟨bx, ox + i * 2 + 1, none⟩ = some (.string kt)) := Lib.hid (fun W h => by
          obtain ⟨b', o', e', _, h1, h2⟩ := HXat.out W h
          rw [hAx] at e'
          simp only [Option.some.injEq, Addr.mk.injEq, and_true] at e'
          obtain ⟨rfl, rfl⟩ := e'
          exact ⟨h1, h2⟩)
        subst hAx
        obtain ⟨m, hm⟩ : ∃ q, q = cnB XS XT X i := ⟨_, rfl⟩
        rw [← hm] at HCi HBi ⊢
        have hmi := HBi.out
        have hiI : (i : Int) < (lx : Int) := by omega
        have hi0 : (0 : Int) ≤ (i : Int) := by omega
        have hwi : IntKind.i64.wrap ((i : Int) + 1) = (i : Int) + 1 := by simp only [IntKind.wrap_i64]; omega
        have hwm : IntKind.i64.wrap ((m : Int) + 1) = (m : Int) + 1 := by simp only [IntKind.wrap_i64]; omega
        clear hk hm HXat hbx
        go_wp2_with fail
        go_loopw [15, 17] (fun pv kv wr => ∃ k : Nat, k ≤ ls ∧ pv = .bool (anK XS (kh, kt) k) ∧ kv = .int .i64 (k : Int) ∧ Hid (Below wb.heap.size wb wr)) (fun _ kv _ => ls - (intOf kv).toNat)
        case atStart => exact ⟨0, Nat.zero_le _, rfl, rfl, HW⟩
        case round =>
          obtain ⟨k, hk, rfl, rfl, HW⟩ := hrel
          have hz := blk_below HZa.out HW.out
          have r0 := cell_of_row wr z1 0 _ _ _ hz
          have r1 := cell_of_row wr z1 1 _ _ _ hz
          have r2 := cell_of_row wr z1 2 _ _ _ hz
          simp at r0 r1 r2
          clear hz
          obtain ⟨pq, hp⟩ : ∃ q, q = anK XS (kh, kt) k := ⟨_, rfl⟩
          have HP := Lib.hid hp
          rw [← hp]
          clear hp
          go_wp2_with fail
          with_reducible refine (HKs.out _).mono ?_
          rintro e wk ⟨rfl, hb⟩
          clear r0 r1 r2
          have HWk := Lib.hid (bz_call HW.out hb)
          clear hb
          by_cases hkl : k < ls
          · have hk2 : k < XS.length := by rw [← HLs.out]; exact hkl
            have hz := blk_below HZa.out HWk.out
            have r0 := cell_of_row wk z1 0 _ _ _ hz
            have r1 := cell_of_row wk z1 1 _ _ _ hz
            have r2 := cell_of_row wk z1 2 _ _ _ hz
            simp at r0 r1 r2
            obtain ⟨bs, os', rfl, hbs, h0, h1⟩ := slv_at (HVs.out.below HWk.out) k hk2
            have HS := Lib.hid (anK_succ XS (kh, kt) k hk2)
            rw [← HP.out] at HS
            obtain ⟨⟨y1, y2⟩, hy⟩ : ∃ y, y = XS[k] := ⟨_, rfl⟩
            rw [← hy] at h0 h1 HS
            dsimp only at h0 h1
            obtain ⟨x0, x1⟩ := HX0.out wk HWk.out
            have hkI : (k : Int) < (ls : Int) := by omega
            have hk0 : (0 : Int) ≤ (k : Int) := by omega
            have hwk : IntKind.i64.wrap ((k : Int) + 1) = (k : Int) + 1 := by simp only [IntKind.wrap_i64]; omega
            have cG0 : ∀ d os, (Go.Sort.grow (redrawn wk d) os).cell? ⟨z1, 0, none⟩ = some (.int .i64 (n : Int)) := fun d os => cell_regrown r0 d os
            have cG1 : ∀ d os, (Go.Sort.grow (redrawn wk d) os).cell? ⟨z1, 1, none⟩ = some (.int .i64 (b : Int)) := fun d os => cell_regrown r1 d os
            have cG2 : ∀ d os, (Go.Sort.grow (redrawn wk d) os).cell? ⟨z1, 2, none⟩ = some (.slice (some ⟨bs, os', none⟩) l1 c1) := fun d os => cell_regrown r2 d os
            have cG3 : ∀ d os, (Go.Sort.grow (redrawn wk d) os).cell? ⟨bs, os' + k * 2, none⟩ = some (.int .i64 y1) := fun d os => cell_regrown h0 d os
            have cG4 : ∀ d os, (Go.Sort.grow (redrawn wk d) os).cell? ⟨bs, os' + k * 2 + 1, none⟩ = some (.string y2) := fun d os => cell_regrown h1 d os
            have cG5 : ∀ d os, (Go.Sort.grow (redrawn wk d) os).cell? ⟨bx, ox + i * 2, none⟩ = some (.int .i64 kh) := fun d os => cell_regrown x0 d os
            have cG6 : ∀ d os, (Go.Sort.grow (redrawn wk d) os).cell? ⟨bx, ox + i * 2 + 1, none⟩ = some (.string kt) := fun d os => cell_regrown x1 d os
            have CK : Hid (∀ d os, Calls Try.prog 26 #[.agg #[.int .i64 (n : Int), .int .i64 (b : Int), .slice (some ⟨bs, os', none⟩) l1 c1]] (Go.Sort.grow (redrawn wk d) os) fun e w'' => e = .returned (.slice (some ⟨bs, os', none⟩) ls c1) ∧ ∃ p : Regrown, w'' = Go.Sort.grow (redrawn wk p.d) p.os) := Lib.hid (fun d os => Calls.regrown_of (HKs.out _))
            clear hz r0 r1 r2 hy hk2 h0 h1 x0 x1 hbs
            cases pq with
            | true =>
              have HS2 : Hid (anK XS (kh, kt) (k + 1) = true) := Lib.hid (by rw [HS.out]; rfl)
              go_wp2_with fail
              refine wp_region_quiet_below (by kernel_rfl) (by kernel_rfl) ?_
              repeat (go_big_quiet_step ((exact CK.out _ _)))
              refine wpQuiet_nil ?_
              intro _ hw'
              obtain ⟨⟨dq, osq⟩, hw''⟩ := hw'
              subst hw''
              have HQ := Lib.hid (bz_call HWk.out (below_regrown wk dq osq))
              clear cG0 cG1 cG2 cG3 cG4 cG5 cG6 CK
              generalize Go.Sort.grow (redrawn wk dq) osq = wg at *
              go_wp2_with fail
              go_roundw
              case rel => exact ⟨k + 1, by omega, by rw [HS2.out], by go_num, HQ⟩
              case measure => simp [intOf] <;> omega
            | false =>
              by_cases hxy : y1 = kh ∧ y2 = kt
              · obtain ⟨rfl, rfl⟩ := hxy
                have HS2 : Hid (anK XS (y1, y2) (k + 1) = true) := Lib.hid (by rw [HS.out]; simp)
                go_wp2_with fail
                refine wp_region_quiet_below (by kernel_rfl) (by kernel_rfl) ?_
                repeat (go_big_quiet_step ((exact CK.out _ _)))
                refine wpQuiet_nil ?_
                intro _ hw'
                obtain ⟨⟨dq, osq⟩, hw''⟩ := hw'
                subst hw''
                have HQ := Lib.hid (bz_call HWk.out (below_regrown wk dq osq))
                clear cG0 cG1 cG2 cG3 cG4 cG5 cG6 CK
                generalize Go.Sort.grow (redrawn wk dq) osq = wg at *
                go_wp2_with fail
                go_roundw
                case rel => exact ⟨k + 1, by omega, by rw [HS2.out], by go_num, HQ⟩
                case measure => simp [intOf] <;> omega
              · have HS2 : Hid (anK XS (kh, kt) (k + 1) = false) := Lib.hid (by rw [HS.out, Bool.false_or]; exact decide_eq_false (fun e => hxy ⟨congrArg Prod.fst e, congrArg Prod.snd e⟩))
                by_cases hx1 : y1 = kh
                · subst hx1
                  have hx2 : (y2.toList == kt.toList) = false := (Lib.bytes_beq_false_iff y2 kt).2 (fun e => hxy ⟨rfl, e⟩)
                  clear hxy
                  go_wp2_with fail
                  refine wp_region_quiet_below (by kernel_rfl) (by kernel_rfl) ?_
                  repeat (go_big_quiet_step ((exact CK.out _ _)))
                  refine wpQuiet_nil ?_
                  intro _ hw'
                  obtain ⟨⟨dq, osq⟩, hw''⟩ := hw'
                  subst hw''
                  have HQ := Lib.hid (bz_call HWk.out (below_regrown wk dq osq))
                  clear cG0 cG1 cG2 cG3 cG4 cG5 cG6 CK
                  generalize Go.Sort.grow (redrawn wk dq) osq = wg at *
                  go_wp2_with fail
                  go_roundw
                  case rel => exact ⟨k + 1, by omega, by rw [HS2.out], by go_num, HQ⟩
                  case measure => simp [intOf] <;> omega
                · have hx1b : (y1 == kh) = false := by simpa using hx1
                  clear hxy
                  go_wp2_with fail
                  refine wp_region_quiet_below (by kernel_rfl) (by kernel_rfl) ?_
                  repeat (go_big_quiet_step ((exact CK.out _ _)))
                  refine wpQuiet_nil ?_
                  intro _ hw'
                  obtain ⟨⟨dq, osq⟩, hw''⟩ := hw'
                  subst hw''
                  have HQ := Lib.hid (bz_call HWk.out (below_regrown wk dq osq))
                  clear cG0 cG1 cG2 cG3 cG4 cG5 cG6 CK
                  generalize Go.Sort.grow (redrawn wk dq) osq = wg at *
                  go_wp2_with fail
                  go_roundw
                  case rel => exact ⟨k + 1, by omega, by rw [HS2.out], by go_num, HQ⟩
                  case measure => simp [intOf] <;> omega
          · obtain rfl : k = ls := by omega
            have HF : Hid (pq = inS XS (kh, kt)) := Lib.hid (by rw [HP.out, HLs.out]; rfl)
            have hkk : ¬ (k : Int) < (k : Int) := by omega
            have HFp := HF
            obtain ⟨pp, rfl⟩ : ∃ q, q = pq := ⟨_, rfl⟩
            clear HP HF
            have HW := HWk
            go_wp2_with fail
            clear hkk
            go_loopw [16, 18] (fun pv kv wr => ∃ k : Nat, k ≤ lt ∧ pv = .bool (anK XT (kh, kt) k) ∧ kv = .int .i64 (k : Int) ∧ Hid (Below wb.heap.size wb wr)) (fun _ kv _ => lt - (intOf kv).toNat)
            case atStart => exact ⟨0, Nat.zero_le _, rfl, rfl, HW⟩
            case round =>
              obtain ⟨k, hk, rfl, rfl, HW⟩ := hrel
              have hz := blk_below HZb.out HW.out
              have r0 := cell_of_row wr z2 0 _ _ _ hz
              have r1 := cell_of_row wr z2 1 _ _ _ hz
              have r2 := cell_of_row wr z2 2 _ _ _ hz
              simp at r0 r1 r2
              clear hz
              obtain ⟨pq, hp⟩ : ∃ q, q = anK XT (kh, kt) k := ⟨_, rfl⟩
              have HP := Lib.hid hp
              rw [← hp]
              clear hp
              go_wp2_with fail
              with_reducible refine (HKt.out _).mono ?_
              rintro e wk ⟨rfl, hb⟩
              clear r0 r1 r2
              have HWk := Lib.hid (bz_call HW.out hb)
              clear hb
              by_cases hkl : k < lt
              · have hk2 : k < XT.length := by rw [← HLt.out]; exact hkl
                have hz := blk_below HZb.out HWk.out
                have r0 := cell_of_row wk z2 0 _ _ _ hz
                have r1 := cell_of_row wk z2 1 _ _ _ hz
                have r2 := cell_of_row wk z2 2 _ _ _ hz
                simp at r0 r1 r2
                obtain ⟨bs, os', rfl, hbs, h0, h1⟩ := slv_at (HVt.out.below HWk.out) k hk2
                have HS := Lib.hid (anK_succ XT (kh, kt) k hk2)
                rw [← HP.out] at HS
                obtain ⟨⟨y1, y2⟩, hy⟩ : ∃ y, y = XT[k] := ⟨_, rfl⟩
                rw [← hy] at h0 h1 HS
                dsimp only at h0 h1
                obtain ⟨x0, x1⟩ := HX0.out wk HWk.out
                have hkI : (k : Int) < (lt : Int) := by omega
                have hk0 : (0 : Int) ≤ (k : Int) := by omega
                have hwk : IntKind.i64.wrap ((k : Int) + 1) = (k : Int) + 1 := by simp only [IntKind.wrap_i64]; omega
                have cG0 : ∀ d os, (Go.Sort.grow (redrawn wk d) os).cell? ⟨z2, 0, none⟩ = some (.int .i64 (n : Int)) := fun d os => cell_regrown r0 d os
                have cG1 : ∀ d os, (Go.Sort.grow (redrawn wk d) os).cell? ⟨z2, 1, none⟩ = some (.int .i64 (b : Int)) := fun d os => cell_regrown r1 d os
                have cG2 : ∀ d os, (Go.Sort.grow (redrawn wk d) os).cell? ⟨z2, 2, none⟩ = some (.slice (some ⟨bs, os', none⟩) l2 c2) := fun d os => cell_regrown r2 d os
                have cG3 : ∀ d os, (Go.Sort.grow (redrawn wk d) os).cell? ⟨bs, os' + k * 2, none⟩ = some (.int .i64 y1) := fun d os => cell_regrown h0 d os
                have cG4 : ∀ d os, (Go.Sort.grow (redrawn wk d) os).cell? ⟨bs, os' + k * 2 + 1, none⟩ = some (.string y2) := fun d os => cell_regrown h1 d os
                have cG5 : ∀ d os, (Go.Sort.grow (redrawn wk d) os).cell? ⟨bx, ox + i * 2, none⟩ = some (.int .i64 kh) := fun d os => cell_regrown x0 d os
                have cG6 : ∀ d os, (Go.Sort.grow (redrawn wk d) os).cell? ⟨bx, ox + i * 2 + 1, none⟩ = some (.string kt) := fun d os => cell_regrown x1 d os
                have CK : Hid (∀ d os, Calls Try.prog 26 #[.agg #[.int .i64 (n : Int), .int .i64 (b : Int), .slice (some ⟨bs, os', none⟩) l2 c2]] (Go.Sort.grow (redrawn wk d) os) fun e w'' => e = .returned (.slice (some ⟨bs, os', none⟩) lt c2) ∧ ∃ p : Regrown, w'' = Go.Sort.grow (redrawn wk p.d) p.os) := Lib.hid (fun d os => Calls.regrown_of (HKt.out _))
                clear hz r0 r1 r2 hy hk2 h0 h1 x0 x1 hbs
                cases pq with
                | true =>
                  have HS2 : Hid (anK XT (kh, kt) (k + 1) = true) := Lib.hid (by rw [HS.out]; rfl)
                  go_wp2_with fail
                  refine wp_region_quiet_below (by kernel_rfl) (by kernel_rfl) ?_
                  repeat (go_big_quiet_step ((exact CK.out _ _)))
                  refine wpQuiet_nil ?_
                  intro _ hw'
                  obtain ⟨⟨dq, osq⟩, hw''⟩ := hw'
                  subst hw''
                  have HQ := Lib.hid (bz_call HWk.out (below_regrown wk dq osq))
                  clear cG0 cG1 cG2 cG3 cG4 cG5 cG6 CK
                  generalize Go.Sort.grow (redrawn wk dq) osq = wg at *
                  go_wp2_with fail
                  go_roundw
                  case rel => exact ⟨k + 1, by omega, by rw [HS2.out], by go_num, HQ⟩
                  case measure => simp [intOf] <;> omega
                | false =>
                  by_cases hxy : y1 = kh ∧ y2 = kt
                  · obtain ⟨rfl, rfl⟩ := hxy
                    have HS2 : Hid (anK XT (y1, y2) (k + 1) = true) := Lib.hid (by rw [HS.out]; simp)
                    go_wp2_with fail
                    refine wp_region_quiet_below (by kernel_rfl) (by kernel_rfl) ?_
                    repeat (go_big_quiet_step ((exact CK.out _ _)))
                    refine wpQuiet_nil ?_
                    intro _ hw'
                    obtain ⟨⟨dq, osq⟩, hw''⟩ := hw'
                    subst hw''
                    have HQ := Lib.hid (bz_call HWk.out (below_regrown wk dq osq))
                    clear cG0 cG1 cG2 cG3 cG4 cG5 cG6 CK
                    generalize Go.Sort.grow (redrawn wk dq) osq = wg at *
                    go_wp2_with fail
                    go_roundw
                    case rel => exact ⟨k + 1, by omega, by rw [HS2.out], by go_num, HQ⟩
                    case measure => simp [intOf] <;> omega
                  · have HS2 : Hid (anK XT (kh, kt) (k + 1) = false) := Lib.hid (by rw [HS.out, Bool.false_or]; exact decide_eq_false (fun e => hxy ⟨congrArg Prod.fst e, congrArg Prod.snd e⟩))
                    by_cases hx1 : y1 = kh
                    · subst hx1
                      have hx2 : (y2.toList == kt.toList) = false := (Lib.bytes_beq_false_iff y2 kt).2 (fun e => hxy ⟨rfl, e⟩)
                      clear hxy
                      go_wp2_with fail
                      refine wp_region_quiet_below (by kernel_rfl) (by kernel_rfl) ?_
                      repeat (go_big_quiet_step ((exact CK.out _ _)))
                      refine wpQuiet_nil ?_
                      intro _ hw'
                      obtain ⟨⟨dq, osq⟩, hw''⟩ := hw'
                      subst hw''
                      have HQ := Lib.hid (bz_call HWk.out (below_regrown wk dq osq))
                      clear cG0 cG1 cG2 cG3 cG4 cG5 cG6 CK
                      generalize Go.Sort.grow (redrawn wk dq) osq = wg at *
                      go_wp2_with fail
                      go_roundw
                      case rel => exact ⟨k + 1, by omega, by rw [HS2.out], by go_num, HQ⟩
                      case measure => simp [intOf] <;> omega
                    · have hx1b : (y1 == kh) = false := by simpa using hx1
                      clear hxy
                      go_wp2_with fail
                      refine wp_region_quiet_below (by kernel_rfl) (by kernel_rfl) ?_
                      repeat (go_big_quiet_step ((exact CK.out _ _)))
                      refine wpQuiet_nil ?_
                      intro _ hw'
                      obtain ⟨⟨dq, osq⟩, hw''⟩ := hw'
                      subst hw''
                      have HQ := Lib.hid (bz_call HWk.out (below_regrown wk dq osq))
                      clear cG0 cG1 cG2 cG3 cG4 cG5 cG6 CK
                      generalize Go.Sort.grow (redrawn wk dq) osq = wg at *
                      go_wp2_with fail
                      go_roundw
                      case rel => exact ⟨k + 1, by omega, by rw [HS2.out], by go_num, HQ⟩
                      case measure => simp [intOf] <;> omega
              · obtain rfl : k = lt := by omega
                have HF : Hid (pq = inS XT (kh, kt)) := Lib.hid (by rw [HP.out, HLt.out]; rfl)
                have hkk : ¬ (k : Int) < (k : Int) := by omega
                have HFq := HF
                clear hk
                cases pp with
                | true =>
                  cases pq with
                  | true =>
                    have HC2 : Hid (cnB XS XT X (i + 1) = m + 1) := Lib.hid (by rw [HCi.out, ← HFp.out, ← HFq.out]; simp)
                    go_wp2_with fail
                    go_roundw
                    case rel => exact ⟨i + 1, by omega, by rw [HC2.out]; go_num, by go_num, HWk⟩
                    case measure => simp [intOf] <;> omega
                  | false =>
                    have HC2 : Hid (cnB XS XT X (i + 1) = m) := Lib.hid (by rw [HCi.out, ← HFp.out, ← HFq.out]; simp)
                    go_wp2_with fail
                    go_roundw
                    case rel => exact ⟨i + 1, by omega, by rw [HC2.out], by go_num, HWk⟩
                    case measure => simp [intOf] <;> omega
                | false =>
                  have HC2 : Hid (cnB XS XT X (i + 1) = m) := Lib.hid (by rw [HCi.out, ← HFp.out, ← HFq.out]; simp)
                  go_wp2_with fail
                  go_roundw
                  case rel => exact ⟨i + 1, by omega, by rw [HC2.out], by go_num, HWk⟩
                  case measure => simp [intOf] <;> omega
      · obtain rfl : i = lx := by omega
        replace HK1 := Lib.hid (HK1.out.below HW.out)
        replace HK2 := Lib.hid (HK2.out.below HW.out)
        replace HUc := Lib.hid (HUc.out.below HW.out)
        replace HZa := Lib.hid (blk_below HZa.out HW.out)
        replace HZc := Lib.hid (blk_below HZc.out HW.out)
        have HBw := Lib.hid (bz_call HBb.out HW.out)
        have HBi := Lib.hid (HCl.out i)
        obtain ⟨m, hm⟩ : ∃ q, q = cnB XS XT X i := ⟨_, rfl⟩
        rw [← hm] at HSh HBi ⊢
        have hmi := HBi.out
        clear hm
        by_cases h1 : l1 = 0
        · have HOs2 := Lib.hid HOs.out
          rw [if_pos (show S.length = 0 by rw [← HL1.out]; exact h1)] at HOs2
          subst h1
          rw [show ((0 : Nat) : Int) = 0 from rfl] at HOs2
          by_cases hx0 : i = 0
          · subst hx0
            have HSh2 : Hid (sh = 0) := Lib.hid HSh.out
            rw [HSh2.out] at HOv HOw
            rw [show ((0 : Nat) : Int) = 0 from rfl] at HOv HOw
            clear HSh HSh2 HOs hmi
            go_wp2_with fail
            with_reducible refine (HUn.out g1 g2 _ HK1.out HK2.out).mono ?_
            rintro e y0 ⟨rfl, hb⟩
            replace HK1 := Lib.hid (HK1.out.below hb)
            replace HK2 := Lib.hid (HK2.out.below hb)
            replace HUc := Lib.hid (HUc.out.below hb)
            replace HZa := Lib.hid (blk_below HZa.out hb)
            replace HZc := Lib.hid (blk_below HZc.out hb)
            replace HBw := Lib.hid (bz_call HBw.out hb)
            clear hb
            go_wp2_with fail
            with_reducible refine (HOv.out g1 g2 _ HK1.out HK2.out).mono ?_
            rintro e y1 ⟨rfl, hb⟩
            replace HK1 := Lib.hid (HK1.out.below hb)
            replace HK2 := Lib.hid (HK2.out.below hb)
            replace HUc := Lib.hid (HUc.out.below hb)
            replace HZa := Lib.hid (blk_below HZa.out hb)
            replace HZc := Lib.hid (blk_below HZc.out hb)
            replace HBw := Lib.hid (bz_call HBw.out hb)
            clear hb
            go_wp2_with fail
            with_reducible refine (HOw.out g2 g1 _ HK2.out HK1.out).mono ?_
            rintro e y2 ⟨rfl, hb⟩
            replace HK1 := Lib.hid (HK1.out.below hb)
            replace HK2 := Lib.hid (HK2.out.below hb)
            replace HUc := Lib.hid (HUc.out.below hb)
            replace HZa := Lib.hid (blk_below HZa.out hb)
            replace HZc := Lib.hid (blk_below HZc.out hb)
            replace HBw := Lib.hid (bz_call HBw.out hb)
            clear hb
            go_wp2_with fail
            with_reducible refine (HOs2.out g1 g1 _ HK1.out HK1.out).mono ?_
            rintro e y3 ⟨rfl, hb⟩
            replace HK1 := Lib.hid (HK1.out.below hb)
            replace HK2 := Lib.hid (HK2.out.below hb)
            replace HUc := Lib.hid (HUc.out.below hb)
            replace HZa := Lib.hid (blk_below HZa.out hb)
            replace HZc := Lib.hid (blk_below HZc.out hb)
            replace HBw := Lib.hid (bz_call HBw.out hb)
            clear hb
            have r0 := cell_of_row y3 z3 0 _ _ _ HZc.out
            have r1 := cell_of_row y3 z3 1 _ _ _ HZc.out
            have r2 := cell_of_row y3 z3 2 _ _ _ HZc.out
            simp at r0 r1 r2
            go_wp2_with fail
            with_reducible refine (HDr.out _ _ HUc.out).mono ?_
            rintro e y4 ⟨rfl, hb⟩
            clear r0 r1 r2
            replace HZa := Lib.hid (blk_below HZa.out hb)
            replace HBw := Lib.hid (bz_call HBw.out hb)
            clear hb
            have r2 := cell_of_row y4 z1 2 _ _ _ HZa.out
            simp at r2
            go_wp2_with fail
            go_ret
            exact ⟨rfl, HBw.out⟩
          · have HSh2 : Hid (sh = m * 1000000 / i) := Lib.hid (by rw [HSh.out, if_neg hx0])
            have hi0I : (0 : Int) < (i : Int) := by omega
            have hib : ((i : Int) == 0) = false := by rw [beq_eq_false_iff_ne]; omega
            have hw1 : IntKind.i64.wrap ((m : Int) * 1000000) = (m : Int) * 1000000 := by simp only [IntKind.wrap_i64]; omega
            have hdq : ((m : Int) * 1000000).tdiv (i : Int) = (sh : Int) := by
              rw [Int.tdiv_eq_ediv_of_nonneg (by omega), HSh2.out, Int.natCast_ediv, Int.natCast_mul]; rfl
            have hdq2 : ((m : Int) * 1000000) / (i : Int) = (sh : Int) := by
              rw [HSh2.out, Int.natCast_ediv, Int.natCast_mul]; rfl
            have hshl : sh ≤ m * 1000000 := by rw [HSh2.out]; exact Nat.div_le_self _ _
            have hw2 : IntKind.i64.wrap (sh : Int) = (sh : Int) := by simp only [IntKind.wrap_i64]; omega
            clear HSh HSh2 HOs hshl hmi
            go_wp2_with fail
            with_reducible refine (HUn.out g1 g2 _ HK1.out HK2.out).mono ?_
            rintro e y0 ⟨rfl, hb⟩
            replace HK1 := Lib.hid (HK1.out.below hb)
            replace HK2 := Lib.hid (HK2.out.below hb)
            replace HUc := Lib.hid (HUc.out.below hb)
            replace HZa := Lib.hid (blk_below HZa.out hb)
            replace HZc := Lib.hid (blk_below HZc.out hb)
            replace HBw := Lib.hid (bz_call HBw.out hb)
            clear hb
            go_wp2_with fail
            with_reducible refine (HOv.out g1 g2 _ HK1.out HK2.out).mono ?_
            rintro e y1 ⟨rfl, hb⟩
            replace HK1 := Lib.hid (HK1.out.below hb)
            replace HK2 := Lib.hid (HK2.out.below hb)
            replace HUc := Lib.hid (HUc.out.below hb)
            replace HZa := Lib.hid (blk_below HZa.out hb)
            replace HZc := Lib.hid (blk_below HZc.out hb)
            replace HBw := Lib.hid (bz_call HBw.out hb)
            clear hb
            go_wp2_with fail
            with_reducible refine (HOw.out g2 g1 _ HK2.out HK1.out).mono ?_
            rintro e y2 ⟨rfl, hb⟩
            replace HK1 := Lib.hid (HK1.out.below hb)
            replace HK2 := Lib.hid (HK2.out.below hb)
            replace HUc := Lib.hid (HUc.out.below hb)
            replace HZa := Lib.hid (blk_below HZa.out hb)
            replace HZc := Lib.hid (blk_below HZc.out hb)
            replace HBw := Lib.hid (bz_call HBw.out hb)
            clear hb
            go_wp2_with fail
            with_reducible refine (HOs2.out g1 g1 _ HK1.out HK1.out).mono ?_
            rintro e y3 ⟨rfl, hb⟩
            replace HK1 := Lib.hid (HK1.out.below hb)
            replace HK2 := Lib.hid (HK2.out.below hb)
            replace HUc := Lib.hid (HUc.out.below hb)
            replace HZa := Lib.hid (blk_below HZa.out hb)
            replace HZc := Lib.hid (blk_below HZc.out hb)
            replace HBw := Lib.hid (bz_call HBw.out hb)
            clear hb
            have r0 := cell_of_row y3 z3 0 _ _ _ HZc.out
            have r1 := cell_of_row y3 z3 1 _ _ _ HZc.out
            have r2 := cell_of_row y3 z3 2 _ _ _ HZc.out
            simp at r0 r1 r2
            go_wp2_with fail
            with_reducible refine (HDr.out _ _ HUc.out).mono ?_
            rintro e y4 ⟨rfl, hb⟩
            clear r0 r1 r2
            replace HZa := Lib.hid (blk_below HZa.out hb)
            replace HBw := Lib.hid (bz_call HBw.out hb)
            clear hb
            have r2 := cell_of_row y4 z1 2 _ _ _ HZa.out
            simp at r2
            go_wp2_with fail
            go_ret
            exact ⟨rfl, HBw.out⟩
        · have HOs2 := Lib.hid HOs.out
          rw [if_neg (show ¬ S.length = 0 by rw [← HL1.out]; exact h1)] at HOs2
          rw [show ((1000000 : Nat) : Int) = 1000000 from rfl] at HOs2
          have h1I : (0 : Int) < (l1 : Int) := by omega
          have h1b : ((l1 : Int) == 0) = false := by rw [beq_eq_false_iff_ne]; omega
          by_cases hx0 : i = 0
          · subst hx0
            have HSh2 : Hid (sh = 0) := Lib.hid HSh.out
            rw [HSh2.out] at HOv HOw
            rw [show ((0 : Nat) : Int) = 0 from rfl] at HOv HOw
            clear HSh HSh2 HOs hmi
            go_wp2_with fail
            with_reducible refine (HUn.out g1 g2 _ HK1.out HK2.out).mono ?_
            rintro e y0 ⟨rfl, hb⟩
            replace HK1 := Lib.hid (HK1.out.below hb)
            replace HK2 := Lib.hid (HK2.out.below hb)
            replace HUc := Lib.hid (HUc.out.below hb)
            replace HZa := Lib.hid (blk_below HZa.out hb)
            replace HZc := Lib.hid (blk_below HZc.out hb)
            replace HBw := Lib.hid (bz_call HBw.out hb)
            clear hb
            go_wp2_with fail
            with_reducible refine (HOv.out g1 g2 _ HK1.out HK2.out).mono ?_
            rintro e y1 ⟨rfl, hb⟩
            replace HK1 := Lib.hid (HK1.out.below hb)
            replace HK2 := Lib.hid (HK2.out.below hb)
            replace HUc := Lib.hid (HUc.out.below hb)
            replace HZa := Lib.hid (blk_below HZa.out hb)
            replace HZc := Lib.hid (blk_below HZc.out hb)
            replace HBw := Lib.hid (bz_call HBw.out hb)
            clear hb
            go_wp2_with fail
            with_reducible refine (HOw.out g2 g1 _ HK2.out HK1.out).mono ?_
            rintro e y2 ⟨rfl, hb⟩
            replace HK1 := Lib.hid (HK1.out.below hb)
            replace HK2 := Lib.hid (HK2.out.below hb)
            replace HUc := Lib.hid (HUc.out.below hb)
            replace HZa := Lib.hid (blk_below HZa.out hb)
            replace HZc := Lib.hid (blk_below HZc.out hb)
            replace HBw := Lib.hid (bz_call HBw.out hb)
            clear hb
            go_wp2_with fail
            with_reducible refine (HOs2.out g1 g1 _ HK1.out HK1.out).mono ?_
            rintro e y3 ⟨rfl, hb⟩
            replace HK1 := Lib.hid (HK1.out.below hb)
            replace HK2 := Lib.hid (HK2.out.below hb)
            replace HUc := Lib.hid (HUc.out.below hb)
            replace HZa := Lib.hid (blk_below HZa.out hb)
            replace HZc := Lib.hid (blk_below HZc.out hb)
            replace HBw := Lib.hid (bz_call HBw.out hb)
            clear hb
            have r0 := cell_of_row y3 z3 0 _ _ _ HZc.out
            have r1 := cell_of_row y3 z3 1 _ _ _ HZc.out
            have r2 := cell_of_row y3 z3 2 _ _ _ HZc.out
            simp at r0 r1 r2
            go_wp2_with fail
            with_reducible refine (HDr.out _ _ HUc.out).mono ?_
            rintro e y4 ⟨rfl, hb⟩
            clear r0 r1 r2
            replace HZa := Lib.hid (blk_below HZa.out hb)
            replace HBw := Lib.hid (bz_call HBw.out hb)
            clear hb
            have r2 := cell_of_row y4 z1 2 _ _ _ HZa.out
            simp at r2
            go_wp2_with fail
            go_ret
            exact ⟨rfl, HBw.out⟩
          · have HSh2 : Hid (sh = m * 1000000 / i) := Lib.hid (by rw [HSh.out, if_neg hx0])
            have hi0I : (0 : Int) < (i : Int) := by omega
            have hib : ((i : Int) == 0) = false := by rw [beq_eq_false_iff_ne]; omega
            have hw1 : IntKind.i64.wrap ((m : Int) * 1000000) = (m : Int) * 1000000 := by simp only [IntKind.wrap_i64]; omega
            have hdq : ((m : Int) * 1000000).tdiv (i : Int) = (sh : Int) := by
              rw [Int.tdiv_eq_ediv_of_nonneg (by omega), HSh2.out, Int.natCast_ediv, Int.natCast_mul]; rfl
            have hdq2 : ((m : Int) * 1000000) / (i : Int) = (sh : Int) := by
              rw [HSh2.out, Int.natCast_ediv, Int.natCast_mul]; rfl
            have hshl : sh ≤ m * 1000000 := by rw [HSh2.out]; exact Nat.div_le_self _ _
            have hw2 : IntKind.i64.wrap (sh : Int) = (sh : Int) := by simp only [IntKind.wrap_i64]; omega
            clear HSh HSh2 HOs hshl hmi
            go_wp2_with fail
            with_reducible refine (HUn.out g1 g2 _ HK1.out HK2.out).mono ?_
            rintro e y0 ⟨rfl, hb⟩
            replace HK1 := Lib.hid (HK1.out.below hb)
            replace HK2 := Lib.hid (HK2.out.below hb)
            replace HUc := Lib.hid (HUc.out.below hb)
            replace HZa := Lib.hid (blk_below HZa.out hb)
            replace HZc := Lib.hid (blk_below HZc.out hb)
            replace HBw := Lib.hid (bz_call HBw.out hb)
            clear hb
            go_wp2_with fail
            with_reducible refine (HOv.out g1 g2 _ HK1.out HK2.out).mono ?_
            rintro e y1 ⟨rfl, hb⟩
            replace HK1 := Lib.hid (HK1.out.below hb)
            replace HK2 := Lib.hid (HK2.out.below hb)
            replace HUc := Lib.hid (HUc.out.below hb)
            replace HZa := Lib.hid (blk_below HZa.out hb)
            replace HZc := Lib.hid (blk_below HZc.out hb)
            replace HBw := Lib.hid (bz_call HBw.out hb)
            clear hb
            go_wp2_with fail
            with_reducible refine (HOw.out g2 g1 _ HK2.out HK1.out).mono ?_
            rintro e y2 ⟨rfl, hb⟩
            replace HK1 := Lib.hid (HK1.out.below hb)
            replace HK2 := Lib.hid (HK2.out.below hb)
            replace HUc := Lib.hid (HUc.out.below hb)
            replace HZa := Lib.hid (blk_below HZa.out hb)
            replace HZc := Lib.hid (blk_below HZc.out hb)
            replace HBw := Lib.hid (bz_call HBw.out hb)
            clear hb
            go_wp2_with fail
            with_reducible refine (HOs2.out g1 g1 _ HK1.out HK1.out).mono ?_
            rintro e y3 ⟨rfl, hb⟩
            replace HK1 := Lib.hid (HK1.out.below hb)
            replace HK2 := Lib.hid (HK2.out.below hb)
            replace HUc := Lib.hid (HUc.out.below hb)
            replace HZa := Lib.hid (blk_below HZa.out hb)
            replace HZc := Lib.hid (blk_below HZc.out hb)
            replace HBw := Lib.hid (bz_call HBw.out hb)
            clear hb
            have r0 := cell_of_row y3 z3 0 _ _ _ HZc.out
            have r1 := cell_of_row y3 z3 1 _ _ _ HZc.out
            have r2 := cell_of_row y3 z3 2 _ _ _ HZc.out
            simp at r0 r1 r2
            go_wp2_with fail
            with_reducible refine (HDr.out _ _ HUc.out).mono ?_
            rintro e y4 ⟨rfl, hb⟩
            clear r0 r1 r2
            replace HZa := Lib.hid (blk_below HZa.out hb)
            replace HBw := Lib.hid (bz_call HBw.out hb)
            clear hb
            have r2 := cell_of_row y4 z1 2 _ _ _ HZa.out
            simp at r2
            go_wp2_with fail
            go_ret
            exact ⟨rfl, HBw.out⟩
set_option maxRecDepth 100000 in
theorem lifted (os : Os) (started : os.Started) (H : Type) (enc : TypeId × Value → H) :
    ReturnsInHanded {} Try.checked os 8 .any (Rows.bottomkOverlapsSpec.pre6 enc Try.prog Try.f8 Rows.bottomkOverlapsRow.domain false) (Rows.bottomkOverlapsSpec.post enc Try.prog Try.f8 false true false false) := by
  refine returnsInHanded_of_change (C := Try.checked) own started (by kernel_rfl) Try.func8
    (ChangeSpec.witness6 (enc := enc) (C := Try.checked) false ⟨#[], #[.agg #[.int .u8 0, .int .u8 0], .slice none 0 0, .slice none 0 0], []⟩ 8 (by kernel_rfl) (by kernel_rfl) (by kernel_rfl) (by kernel_rfl)) ?_
  intro W base args ds gs before hval0 hW _ _
  have hval : ∀ (j : Nat) t v, Try.f8.params[j]? = some t → args[j]? = some v → Value.okWide Try.prog W .any base t v := hval0
  have hW' := hW
  obtain ⟨p, q, hA0, hV, rfl, _, _⟩ := hW
  have hA : DataW.TrodAll enc Try.prog W 0 (fun _ => true) true Try.f8.params.toList args.toList ds p := hA0
  rw [Try.params8] at hA hval
  obtain ⟨v0, vs0, d0, ds0, p0, q0, hargs0, rfl, rfl, h0, r0⟩ := trodAll_cons hA
  obtain ⟨v1, vs1, d1, ds1, p1, q1, hargs1, rfl, rfl, h1, r1⟩ := trodAll_cons r0
  obtain ⟨v2, vs2, d2, ds2, p2, q2, hargs2, rfl, rfl, h2, r2⟩ := trodAll_cons r1
  obtain ⟨rfl, rfl, rfl⟩ := trodAll_nil r2
  obtain rfl : args = #[v0, v1, v2] := by cases args; simp_all
  obtain ⟨rfl, rfl⟩ := trodVars_none hV
  obtain ⟨a0, b0, rfl, rfl, rfl, ha0, hb0⟩ := open_setting (hval 0 23 v0 rfl rfl) h0
  have lt1 : ∀ x ∈ p1, x.block < W.heap.size := fun x hx => hW'.lt x (by simp [hx])
  obtain ⟨A1, c1, L1, rfl, hL1, hs1, hR1⟩ := open_u8s (hval 1 24 v1 rfl rfl) h1 lt1
  have lt2 : ∀ x ∈ p2, x.block < W.heap.size := fun x hx => hW'.lt x (by simp [hx])
  obtain ⟨A2, c2, L2, rfl, hL2, hs2, hR2⟩ := open_u8s (hval 2 24 v2 rfl rfl) h2 lt2
  clear hA0 hval0
  simp only [List.append_nil] at hW'
  refine (walk W a0 b0 ha0 hb0 A1 c1 L1 hL1 hs1 hR1 A2 c2 L2 hL2 hs2 hR2).mono fun e W' ⟨he, hb⟩ => ?_
  subst he
  exact ⟨_, rfl, post_mem hW' hb (fun _ _ _ => trodAll_mk1 (shut_bool Try.underlying4 _)) (fun sp hsp => by
    have t := trodAll_cons_mk (shut_setting ha0 hb0 _ sp) (trodAll_cons_mk (carry laidOut (by kernel_rfl) (of_decide_eq_true (by kernel_rfl)) h1 hb lt1 sp (fun x hx => hsp x (by simp [hx]))) (trodAll_cons_mk (carry laidOut (by kernel_rfl) (of_decide_eq_true (by kernel_rfl)) h2 hb lt2 sp (fun x hx => hsp x (by simp [hx]))) trodAll_mk0))
    simp only [List.append_nil] at t
    exact t) (fun _ => rfl) (ok_one (by kernel_rfl) rfl (okWide_bool_mk Try.underlying4 _))⟩

theorem proved : Rows.BottomkOverlapsSaid :=
  OpenClaim.holds_of_wide 8 Try.f8 rfl rfl rfl rfl rfl rfl rfl ⟨rfl, rfl, rfl, rfl, rfl⟩ rfl rfl rfl rfl rfl (by kernel_rfl) Try.func8 (by kernel_rfl)
    (of_decide_eq_true (by kernel_rfl)) (by unfold Func.isWrapper; first | (rw [if_pos (by decide +kernel)]; kernel_rfl) | (rw [if_neg (by decide +kernel)]; exact ⟨rfl, rfl⟩))
    (fun os started H enc _ => lifted os started H enc)

end Go.Proofs.Ytajainkaomkbjaa.lawOverlaps
