/- BottomkForms: for any setting and any two lists of keys the law returns true. -/
import Derived.Test.YtajainkaomkbjaaFe
import Derived.Deep.RegionHeld3
import Derived.Deep.RegionLaw
import Derived.Deep.DeepCutAuto
namespace Go.Proofs.Ytajainkaomkbjaa.lawForms
open Go.Proofs.Ytajainkaomkbjaa Go.ChangeShapes Go.WideShapes Go.ChangeAt Go.RowKit Go.Joins Bt

theorem laidOut : laidOutB Try.prog = true := by kernel_rfl
theorem own_str {w : World} {base n : Nat} {v : Value} {R : List ByteArray} (h : w.ownsRow base 9 1 v n (R.map Value.string)) : ∃ A c, v = .slice A n c ∧ n = R.length ∧ n ≤ c ∧ (A = none → c = 0) ∧ Rd Value.string w A R := by
  obtain ⟨A, c, rfl, hc, hr⟩ := out_own h
  have hn : n = R.length := by have := h.1; simpa using this.symm
  refine ⟨A, c, by rw [hn], hn, by omega, fun e => ?_, hr⟩
  rcases h.2 with ⟨hv, h0⟩ | ⟨g, cap, cur, hv, _⟩
  · injection hv
  · rw [e] at hv
    injection hv with h1
    cases h1
theorem own_lower {w : World} {base base' n e k : Nat} {v : Value} {xs : List Value} (h : w.ownsRow base e k v n xs) (hb : base' ≤ base) : w.ownsRow base' e k v n xs := by
  refine ⟨h.1, ?_⟩
  rcases h.2 with h0 | ⟨g, cap, cur, e1, hbase, hr⟩
  · exact .inl h0
  · exact .inr ⟨g, cap, cur, e1, Nat.le_trans hb hbase, hr⟩
theorem rd_cells {w : World} {A : Option Addr} {L : List ByteArray} (h : Rd Value.string w A L) : ∀ ad, A = some ad → ∀ j u, (L.map Value.string)[j]? = some u → w.cell? (ad.add j) = some u := by
  intro ad e j u hu
  have hlt := (List.getElem?_eq_some_iff.1 hu).1
  rw [List.length_map] at hlt
  obtain ⟨b, off, e2, _, hc⟩ := h j hlt
  rw [e] at e2
  injection e2 with e2
  subst e2
  rw [add_flat, hc]
  rw [List.getElem?_map, List.getElem?_eq_getElem hlt] at hu
  exact hu
section
variable {w : World}
theorem step_append_strs {ops : Array Oper} {o : Oper} {a : Act} {K : Act → World → Prop} {Q : Exit → Act → World → Prop} {E : Prop} (hg : o.guard = none) (s x : Operand)
    (ho : o.op = .call { callee := .builtin .append, args := #[s, x], argTypes := #[36, 36] })
    (base : Nat) (v : Value) (n : Nat) (L : List ByteArray) (hs : a.eval s = v) (hown : w.ownsRow base 9 1 v n (L.map Value.string))
    (ao : Option Addr) (m c : Nat) (hx : a.eval x = .slice ao m c) (M : List ByteArray) (hm : M.length = m) (hnone : ao = none → c = 0) (hmc : m ≤ c) (hR : Rd Value.string w ao M)
    (hn : n + m ≤ 1000000) (hbase : base ≤ w.heap.size)
    (h : ∀ v' w', w'.ownsRow base 9 1 v' (n + m) ((L ++ M).map Value.string) → w.grownBy w' v.ownBlock → K (a.put o.dst v') w') :
    if Region.wanted o (yielded ops a.tmps) = true then Oper.wp Try.prog o a w K Q else E := by
  have hw : Region.wanted o (yielded ops a.tmps) = true := by simp [Region.wanted, hg]
  rw [if_pos hw]
  obtain ⟨i0, hi0, hz0, hz1, hz2⟩ := info_parts2 str_info
  cases ao with
  | some ad =>
    refine wp_append_own w s x 36 ho base 9 i0 _ 1 16 Try.underlying36 hi0 hz0 hz1 hz2 rfl (by omega) v n (L.map Value.string) hs hown ad m c (M.map Value.string) hx (by rw [List.length_map, hm, Nat.mul_one]) (rd_cells hR ad rfl) (fun u hu => by obtain ⟨t, _, rfl⟩ := List.mem_map.1 hu; rfl) (by unfold maxLen; omega) (by omega) hbase (fun v' w' h2 h3 _ => h v' w' (by rw [List.map_append]; exact h2) h3)
  | none =>
    obtain rfl := hnone rfl
    obtain rfl : m = 0 := by omega
    obtain rfl : M = [] := List.eq_nil_of_length_eq_zero hm
    have hrun := run_append_owned_none (P := Try.prog) (w := w) base 36 o.type 9 i0 1 Try.underlying36 hi0 v n (L.map Value.string) hown
    unfold Oper.wp
    simp [execOp, ho, resolve, invoke, builtin, hs, hx, hrun, Result.andThen]
    exact h v w (by simpa using hown) ⟨rfl, rfl, rfl, Nat.le_refl _, fun _ _ _ => rfl⟩
end
theorem stv_set {w : World} {z : Nat} {n sd : Int} {S : List Ky} {u c0 c1 c2 : Value} {cs : Array Value} (h : StV w n sd S u) (hz : w.heap[z]? = some (.cells cs 28 (0, 0))) : StV (((w.setCell ⟨z, 0, none⟩ c0).setCell ⟨z, 1, none⟩ c1).setCell ⟨z, 2, none⟩ c2) n sd S u := by
  obtain ⟨v, e, hs⟩ := h
  exact ⟨v, e, SlV.grown hs ((((Gs.refl z w).set _).set _).set _) hz (by decide)⟩
theorem blk_set_all {w : World} {z : Nat} {c0 c1 c2 v0 v1 v2 : Value} {T : TypeId} (h : w.heap[z]? = some (.cells #[c0, c1, c2] T (0, 0))) : (((w.setCell ⟨z, 0, none⟩ v0).setCell ⟨z, 1, none⟩ v1).setCell ⟨z, 2, none⟩ v2).heap[z]? = some (.cells #[v0, v1, v2] T (0, 0)) := by
  rw [blk_set _ (blk_set _ (blk_set _ h))]
  simp
theorem sk_ne {w : World} {g b i : Nat} {t : ByteArray} {n sd : Int} {x : List Ky × Bool} (hs : Sk w g n sd x) (hc : w.cell? ⟨b, i, none⟩ = some (.string t)) : b ≠ g := by
  rintro rfl
  obtain ⟨v, ⟨A', c', rfl, _⟩, hb⟩ := hs
  rw [cell_of_row w _ i _ _ _ hb] at hc
  match i, hc with
  | 0, hc => simp at hc
  | 1, hc => simp at hc
  | 2, hc => simp at hc
  | 3, hc => simp at hc
  | i + 4, hc => simp at hc
theorem rd_gs {w w' : World} {A : Option Addr} {L : List ByteArray} {g : Nat} {n sd : Int} {x : List Ky × Bool} (h : Rd Value.string w A L) (hs : Sk w g n sd x) (k : Gs g w w') : Rd Value.string w' A L := fun j hj => by
  obtain ⟨b, off, e, hlt, hc⟩ := h j hj
  exact ⟨b, off, e, Nat.lt_of_lt_of_le hlt k.size, (cell_gs k hlt (sk_ne hs hc)).trans hc⟩
theorem txts_kd {L : List Nat} (hs : ∀ x ∈ L, x ≤ 255) : ∀ t ∈ txts L, chkK t = 0 ∧ t.size ≤ 300 := fun t ht => by
  unfold txts at ht
  obtain ⟨x, hx, rfl⟩ := List.mem_map.1 ht
  have := txtN_ok x (hs x (List.mem_of_mem_take hx))
  have h3 : (txtN x).size = 3 := rfl
  exact ⟨this.1, by omega⟩
set_option maxRecDepth 100000 in
set_option maxHeartbeats 8000000 in
theorem walk (w : World) (a b : Nat) (ha : a ≤ 255) (hb : b ≤ 255) (A : Option Addr) (c : Nat) (L : List Nat) (hl : L.length ≤ 9223372036854775807) (hs : ∀ x ∈ L, x ≤ 255) (hR : Rd u8N w A L) (B : Option Addr) (d : Nat) (M : List Nat) (hl2 : M.length ≤ 9223372036854775807) (hs2 : ∀ x ∈ M, x ≤ 255) (hR2 : Rd u8N w B M) :
    Calls Try.prog 9 #[.agg #[.int .u8 (a : Int), .int .u8 (b : Int)], .slice A L.length c, .slice B M.length d] w fun e w' => e = .returned (.bool true) ∧ Below w.heap.size w w' := by
  have HMa := Lib.hid (fun W h => made_any a b ha hb A c L hl hs W h)
  have HKa := Lib.hid (fun W h => keys_law A c L hl hs W h)
  have HKb := Lib.hid (fun W h => keys_law B d M hl2 hs2 W h)
  have hok1 := txts_ok hs
  have hok2 := txts_ok hs2
  have hkd1 := txts_kd hs
  have hkd2 := txts_kd hs2
  have hlen1 := txts_len L
  have hlen2 := txts_len M
  have HRa := Lib.hid hR
  have HRb := Lib.hid hR2
  obtain ⟨K1, hK1⟩ : ∃ K, K = txts L := ⟨_, rfl⟩
  obtain ⟨K2, hK2⟩ : ∃ K, K = txts M := ⟨_, rfl⟩
  rw [← hK1] at HMa HKa hok1 hlen1 hkd1
  rw [← hK2] at HKb hok2 hlen2 hkd2
  obtain ⟨n, hn⟩ : ∃ n, n = 1 + a % 12 := ⟨_, rfl⟩
  have hn1 : 1 ≤ n ∧ n ≤ 12 := by omega
  rw [← hn] at HMa
  have HRf := Lib.hid (fun W A c h => rof_any (n : Int) (b : Int) A c (K1 ++ K2) (by rw [List.length_append]; omega) (fun t ht => (List.mem_append.1 ht).elim (fun h => (hok1 t h).1) (fun h => (hok2 t h).1)) W h)
  have hKd1 := kd_kys (b : Int) hkd1
  have hKd3 : Kd (b : Int) (bld (kys (b : Int) (K1 ++ K2))) := kd_kys (b : Int) (fun t ht => (List.mem_append.1 ht).elim (hkd1 t) (hkd2 t))
  have hS1 := bldk_len (b : Int) K1
  have hS3 := bldk_len (b : Int) (K1 ++ K2)
  rw [List.length_append] at hS3
  have hSr1 := bld_srt (kys (b : Int) K1)
  have hSt : ∀ i, Srt (bld (kys (b : Int) (K1 ++ K2.take i))) := fun i => bld_srt _
  have hStep : ∀ i (h : i < K2.length), bld (kys (b : Int) (K1 ++ K2.take (i + 1))) = ins (bld (kys (b : Int) (K1 ++ K2.take i))) (kyO (b : Int) K2[i]) := fun i h => by
    rw [List.take_succ_eq_append_getElem h, ← List.append_assoc]
    show bld (((K1 ++ K2.take i) ++ [K2[i]]).map (kyO (b : Int))) = _
    rw [List.map_append]
    exact bld_snoc _ _
  have hS0 : bld (kys (b : Int) (K1 ++ K2.take 0)) = bld (kys (b : Int) K1) := by rw [List.take_zero, List.append_nil]
  have hSe : bld (kys (b : Int) (K1 ++ K2.take K2.length)) = bld (kys (b : Int) (K1 ++ K2)) := by rw [List.take_length]
  obtain ⟨S, hS⟩ : ∃ S, S = bld (kys (b : Int) K1) := ⟨_, rfl⟩
  obtain ⟨U, hU⟩ : ∃ U, U = bld (kys (b : Int) (K1 ++ K2)) := ⟨_, rfl⟩
  obtain ⟨SS, hSS⟩ : ∃ SS : Nat → List Ky, SS = fun i => bld (kys (b : Int) (K1 ++ K2.take i)) := ⟨_, rfl⟩
  have hSS' : ∀ i, bld (kys (b : Int) (K1 ++ K2.take i)) = SS i := fun i => by rw [hSS]
  simp only [hSS'] at hSt hStep hS0 hSe
  rw [← hS] at HMa hKd1 hS1 hSr1 hS0
  rw [← hU] at HRf hKd3 hS3 hSe
  have HS0 := Lib.hid hS0
  have HSe := Lib.hid hSe
  have HAdd := Lib.hid (fun g i (h : i < K2.length) W hk => add_ok g n (b : Int) hn1.1 (by omega) (skt n (SS i)) (skt_srt (hSt i) n) (skt_len n _) K2[i] (hok2 _ (List.getElem_mem h)).1 (hok2 _ (List.getElem_mem h)).2 W hk)
  have HStep := Lib.hid hStep
  have HAg := Lib.hid (fun W g u (X : List Ky) (hX : X.length ≤ 80) hk hu => agrees_any g n (b : Int) (by omega) X (by omega) u W hk hu)
  have HQe := Lib.hid (fun (X : List Ky) g h W h1 h2 => equal_self g h (n : Int) (b : Int) (skt n X) (by have := skt_len n X; omega) W h1 h2)
  have HEq := Lib.hid (fun g h W h1 h2 => equal_any g h (n : Int) (b : Int) (n : Int) (b : Int) (skt n U) (skt n S) (by have := skt_len n U; omega) W h1 h2)
  have hfz := frE_size (n := (n : Int)) (sd := (b : Int)) ⟨by omega, by omega⟩ ⟨by omega, by omega⟩ (skt n S) (by have := skt_len n S; omega) ((hKd1.sz).take n)
  have HDe := Lib.hid (fun W => decode_enc n (b : Int) hn1.1 (by omega) ⟨by omega, by omega⟩ S hSr1 hKd1 hfz W)
  have HEn := Lib.hid (fun g W h => encode_any g (n : Int) (b : Int) ⟨by omega, by omega⟩ ⟨by omega, by omega⟩ (skt n S) (by have := skt_len n S; omega) ((hKd1.sz).take n) W h)
  have HFo := Lib.hid (fun u W h => form_any n (b : Int) (by omega) ⟨by omega, by omega⟩ S (by omega) hKd1.sz u W h)
  have HFu := Lib.hid (fun u W h => form_any n (b : Int) (by omega) ⟨by omega, by omega⟩ U (by omega) hKd3.sz u W h)
  have HInj := Lib.hid (fun e => frE_inj (n := n) (sd := (b : Int)) (by omega) ⟨by omega, by omega⟩ hKd3 hKd1 e)
  have hS40 : S.length ≤ 80 := by omega
  have hU80 : U.length ≤ 80 := by omega
  obtain ⟨F, hF⟩ : ∃ q, q = frE n (b : Int) (skt n S) := ⟨_, rfl⟩
  obtain ⟨F2, hF2⟩ : ∃ q, q = frE n (b : Int) (skt n U) := ⟨_, rfl⟩
  rw [← hF] at HDe HEn HFo HInj
  rw [← hF2] at HFu HInj
  have HFe : Hid (skt n U = skt n S → F2 = F) := Lib.hid (fun e => by rw [hF, hF2, e])
  obtain ⟨k1, hk1⟩ : ∃ k, k = K1.length := ⟨_, rfl⟩
  obtain ⟨k2, hk2⟩ : ∃ k, k = K2.length := ⟨_, rfl⟩
  obtain ⟨k3, hk3⟩ : ∃ k, k = (K1 ++ K2).length := ⟨_, rfl⟩
  have HK3 : Hid (k1 + k2 = k3) := Lib.hid (by rw [hk1, hk2, hk3, List.length_append])
  have HL2 : Hid (K2.length = k2) := Lib.hid hk2.symm
  have HLe : Hid (k1 + k2 ≤ 1000000) := Lib.hid (by omega)
  have hk240 : k2 ≤ 40 := by omega
  rw [← hk1] at HKa
  rw [← hk2] at HKb HSe
  rw [← hk3] at HRf
  obtain ⟨l1, hl1⟩ : ∃ l, l = S.length := ⟨_, rfl⟩
  obtain ⟨l3, hl3⟩ : ∃ l, l = U.length := ⟨_, rfl⟩
  have HLa := Lib.hid hl1
  have HL3 := Lib.hid hl3
  obtain ⟨la, hla⟩ : ∃ la, la = L.length := ⟨_, rfl⟩
  obtain ⟨lb, hlb⟩ : ∃ lb, lb = M.length := ⟨_, rfl⟩
  rw [← hla] at HMa HKa ⊢
  rw [← hlb] at HKb ⊢
  have HB : Hid (Below w.heap.size w (w.alloc (.cells #[.int .u8 (a : Int), .int .u8 (b : Int)] 23))) := Lib.hid ((Below.refl _ _).alloc (Nat.le_refl _) _)
  clear hla hlb hl1 hl3 hk1 hk2 hk3 hF hF2 hfz hS hU hSS hSS' hS0 hSe hStep hSt hSr1 hS1 hS3 hKd1 hKd3 hok1 hok2 hkd1 hkd2 hlen1 hlen2 hK1 hK2 hn hR hR2 hl hl2 hs hs2 ha hb hn1
  go_enter Try.func9, Try.ntmps9
  go_wp2_with fail
  obtain ⟨w0, hw0⟩ : ∃ q, q = w.alloc (.cells #[.int .u8 (a : Int), .int .u8 (b : Int)] 23) := ⟨_, rfl⟩
  rw [← hw0] at HB ⊢
  clear hw0
  with_reducible refine (HMa.out _ (HRa.out.below HB.out)).mono ?_
  rintro e w1 ⟨⟨g1, u1, rfl, hgw, hsk, hst⟩, hb1⟩
  have hst0 := hst
  obtain ⟨v1, rfl, A1, c1, rfl, _⟩ := hst
  rw [← HLa.out] at hst0 ⊢
  have HL1 := Lib.hid (Nat.le_trans HB.out.size hgw)
  have hb2 := hb1.alloc hb1.size (.cells #[.int .i64 (n : Int), .int .i64 (b : Int), .slice A1 l1 c1] 28)
  replace HB := Lib.hid (bz_call HB.out hb2)
  have HK1 := Lib.hid (hsk.below ((Below.refl _ _).alloc (Nat.le_refl _) (.cells #[.int .i64 (n : Int), .int .i64 (b : Int), .slice A1 l1 c1] 28)))
  have HU1 := Lib.hid (hst0.below ((Below.refl _ _).alloc (Nat.le_refl _) (.cells #[.int .i64 (n : Int), .int .i64 (b : Int), .slice A1 l1 c1] 28)))
  have HZ1 := Lib.hid (Deep.blk_alloc_new w1 (.cells #[.int .i64 (n : Int), .int .i64 (b : Int), .slice A1 l1 c1] 28))
  clear hb1 hb2 hsk hst0 hgw
  go_wp2_with fail
  obtain ⟨w2, hw2⟩ : ∃ q, q = w1.alloc (.cells #[.int .i64 (n : Int), .int .i64 (b : Int), .slice A1 l1 c1] 28) := ⟨_, rfl⟩
  obtain ⟨z1, hz1⟩ : ∃ q, q = w1.heap.size := ⟨_, rfl⟩
  rw [← hz1] at HZ1 ⊢
  rw [← hw2] at HB HK1 HU1 HZ1 ⊢
  clear hw2 hz1
  with_reducible refine (known_any _).mono ?_
  rintro e w3 ⟨rfl, hb⟩
  replace HK1 := Lib.hid (HK1.out.below hb)
  replace HU1 := Lib.hid (HU1.out.below hb)
  replace HZ1 := Lib.hid (blk_below HZ1.out hb)
  replace HB := Lib.hid (bz_call HB.out hb)
  clear hb
  go_wp2_with fail
  with_reducible refine (HEn.out g1 _ HK1.out).mono ?_
  rintro e w4 ⟨rfl, hb⟩
  replace HK1 := Lib.hid (HK1.out.below hb)
  replace HU1 := Lib.hid (HU1.out.below hb)
  replace HZ1 := Lib.hid (blk_below HZ1.out hb)
  replace HB := Lib.hid (bz_call HB.out hb)
  clear hb
  go_wp2_with fail
  with_reducible refine (HDe.out _).mono ?_
  rintro e w5 ⟨⟨g2, rfl, hgw, hsk⟩, hb⟩
  have HNE12 := Lib.hid (Nat.ne_of_lt (Nat.lt_of_lt_of_le HK1.out.lt hgw))
  have HLg2 := Lib.hid (Nat.le_trans HB.out.size hgw)
  replace HK1 := Lib.hid (HK1.out.below hb)
  replace HU1 := Lib.hid (HU1.out.below hb)
  replace HZ1 := Lib.hid (blk_below HZ1.out hb)
  replace HB := Lib.hid (bz_call HB.out hb)
  have HK2 := Lib.hid hsk
  clear hb hsk hgw
  have r0 := cell_of_row _ z1 0 _ _ _ HZ1.out
  have r1 := cell_of_row _ z1 1 _ _ _ HZ1.out
  have r2 := cell_of_row _ z1 2 _ _ _ HZ1.out
  simp at r0 r1 r2
  go_wp2_with fail
  with_reducible refine (HFo.out _ _ HU1.out).mono ?_
  rintro e w6 ⟨rfl, hb⟩
  clear r0 r1 r2
  replace HK1 := Lib.hid (HK1.out.below hb)
  replace HU1 := Lib.hid (HU1.out.below hb)
  replace HZ1 := Lib.hid (blk_below HZ1.out hb)
  replace HK2 := Lib.hid (HK2.out.below hb)
  replace HB := Lib.hid (bz_call HB.out hb)
  clear hb
  have r0 := cell_of_row _ z1 0 _ _ _ HZ1.out
  have r1 := cell_of_row _ z1 1 _ _ _ HZ1.out
  have r2 := cell_of_row _ z1 2 _ _ _ HZ1.out
  simp at r0 r1 r2
  go_wp2_with fail
  with_reducible refine (HAg.out _ _ _ S hS40 HK2.out HU1.out).mono ?_
  rintro e w7 ⟨rfl, hb⟩
  clear r0 r1 r2
  replace HK1 := Lib.hid (HK1.out.below hb)
  replace HU1 := Lib.hid (HU1.out.below hb)
  replace HZ1 := Lib.hid (blk_below HZ1.out hb)
  replace HK2 := Lib.hid (HK2.out.below hb)
  replace HB := Lib.hid (bz_call HB.out hb)
  clear hb
  go_wp2_with fail
  with_reducible refine (HQe.out S g2 g1 _ HK2.out HK1.out).mono ?_
  rintro e w8 ⟨rfl, hb⟩
  replace HK1 := Lib.hid (HK1.out.below hb)
  replace HU1 := Lib.hid (HU1.out.below hb)
  replace HZ1 := Lib.hid (blk_below HZ1.out hb)
  replace HK2 := Lib.hid (HK2.out.below hb)
  replace HB := Lib.hid (bz_call HB.out hb)
  clear hb
  go_wp2_with fail
  with_reducible refine (HQe.out S g1 g2 _ HK1.out HK2.out).mono ?_
  rintro e w9 ⟨rfl, hb⟩
  replace HK1 := Lib.hid (HK1.out.below hb)
  replace HU1 := Lib.hid (HU1.out.below hb)
  replace HZ1 := Lib.hid (blk_below HZ1.out hb)
  replace HK2 := Lib.hid (HK2.out.below hb)
  replace HB := Lib.hid (bz_call HB.out hb)
  clear hb
  go_wp2_with fail
  with_reducible refine (HKb.out _ (HRb.out.below HB.out)).mono ?_
  rintro e w10 ⟨⟨x2, rfl, ho⟩, hb⟩
  replace HK1 := Lib.hid (HK1.out.below hb)
  replace HU1 := Lib.hid (HU1.out.below hb)
  replace HZ1 := Lib.hid (blk_below HZ1.out hb)
  replace HK2 := Lib.hid (HK2.out.below hb)
  replace HB := Lib.hid (bz_call HB.out hb)
  obtain ⟨A6, c6, rfl, hq6, hc6, hn6, hr6⟩ := own_str ho
  have HR6 := Lib.hid hr6
  have HN6 := Lib.hid hn6
  clear hb ho hq6 hr6 hn6
  rw [← HS0.out] at HK2
  go_wp2_with fail
  have HLg : Hid (w.heap.size ≤ g2) := HLg2
  go_loopw [13] (fun iv wr => ∃ i : Nat, i ≤ k2 ∧ iv = .int .i64 (i : Int) ∧ Hid (Sk wr g2 n b (skt n (SS i))) ∧ Hid (Sk wr g1 n b (skt n S)) ∧ Hid (StV wr n b S (.agg #[.int .i64 (n : Int), .int .i64 (b : Int), .slice A1 l1 c1])) ∧ Hid (wr.heap[z1]? = some (.cells #[.int .i64 (n : Int), .int .i64 (b : Int), .slice A1 l1 c1] 28 (0, 0))) ∧ Hid (Rd Value.string wr A6 K2) ∧ Hid (Below w.heap.size w wr)) (fun iv _ => k2 - (intOf iv).toNat)
  case atStart => exact ⟨0, Nat.zero_le _, rfl, HK2, HK1, HU1, HZ1, HR6, HB⟩
  case round =>
    obtain ⟨i, hi, rfl, HK2, HK1, HU1, HZ1, HR6, HB⟩ := hrel
    by_cases hlt : i < k2
    · have hi2 : i < K2.length := by rw [HL2.out]; exact hlt
      obtain ⟨bb, off, rfl, hbl, h0⟩ := str_at HR6.out i hi2
      have HA := Lib.hid (fun W hk => HAdd.out g2 i hi2 W hk)
      rw [stp_skt, ← HStep.out i hi2] at HA
      obtain ⟨t, ht⟩ : ∃ t, t = K2[i] := ⟨_, rfl⟩
      rw [← ht] at h0 HA
      have hiI : (i : Int) < (k2 : Int) := by omega
      have hi0 : (0 : Int) ≤ (i : Int) := by omega
      have hwi : IntKind.i64.wrap ((i : Int) + 1) = (i : Int) + 1 := by simp only [IntKind.wrap_i64]; omega
      clear ht
      go_wp2_with fail
      with_reducible refine (HA.out _ HK2.out).mono ?_
      rintro e wx ⟨rfl, hsk, hg⟩
      replace HK1 := Lib.hid (HK1.out.gs HK2.out hg HNE12.out)
      replace HU1 := Lib.hid (stv_gs HU1.out HK2.out hg)
      replace HZ1 := Lib.hid (blk_gs (by decide) HZ1.out HK2.out hg)
      have HR7 : Hid (Rd Value.string wx (some ⟨bb, off, none⟩) K2) := Lib.hid (rd_gs HR6.out HK2.out hg)
      replace HB := Lib.hid (below_gs HB.out hg HLg.out (Nat.le_refl _))
      replace HK2 := Lib.hid hsk
      clear hsk hg h0
      go_wp2_with fail
      go_roundw
      case rel => exact ⟨i + 1, by omega, by go_num, HK2, HK1, HU1, HZ1, HR7, HB⟩
      case measure => simp [intOf] <;> omega
    · obtain rfl : i = k2 := by omega
      rw [HSe.out] at HK2
      obtain ⟨w5, hw5⟩ : ∃ q, q = wr := ⟨_, rfl⟩
      rw [← hw5] at HK2 HK1 HU1 HZ1 HR6 HB ⊢
      clear hw5
      have HC : Hid (∀ W, Below w5.heap.size w5 W → W.cell? ⟨z1, 0, none⟩ = some (.int .i64 (n : Int)) ∧ W.cell? ⟨z1, 1, none⟩ = some (.int .i64 (b : Int))) := Lib.hid (fun W h => by
        have hz := (h.block _ (Array.getElem?_eq_some_iff.1 HZ1.out).1).trans HZ1.out
        exact ⟨cell_of_row W z1 0 _ _ _ hz, cell_of_row W z1 1 _ _ _ hz⟩)
      have HKa := Lib.hid (fun W (h : Below w5.heap.size w5 W) => HKa.out W (HRa.out.below (HB.out.trans (h.mono HB.out.size))))
      have HR6 := Lib.hid (fun W (h : Below w5.heap.size w5 W) => HR6.out.below h)
      have HD0 : Hid (Below w5.heap.size w5 w5.drew) := Lib.hid (Below.refl _ _).drew
      try clear HMa
      try clear HKb
      try clear HRa
      try clear HRb
      try clear HDe
      try clear HEn
      try clear HAdd
      try clear HStep
      try clear HS0
      try clear HSe
      try clear HQe
      go_upto_region 13 with fail
      go_cut [14] (fun s11 wx => ∃ (z : Nat) (A8 : Option Addr) (c8 : Nat), s11 = .pointer (some ⟨z, 0, none⟩) ∧ Hid (Below w5.heap.size w5 wx) ∧ Hid (wx.heap[z]? = some (.cells #[.int .i64 (n : Int), .int .i64 (b : Int), .slice A8 l3 c8] 28 (0, 0))) ∧ Hid (StV wx n b U (.agg #[.int .i64 (n : Int), .int .i64 (b : Int), .slice A8 l3 c8])))
      case first =>
        go_region_held3 (fun W => W.cell? ⟨z1, 0, none⟩ = some (.int .i64 (n : Int)) ∧ W.cell? ⟨z1, 1, none⟩ = some (.int .i64 (b : Int)))
          (exact HC.out _ (by first | exact HD4.out | exact ((HD4.out.setCell (p := ⟨_, 0, none⟩) HG.out _).setCell (p := ⟨_, 1, none⟩) HG.out _).setCell (p := ⟨_, 2, none⟩) HG.out _ | exact bz_alloc HD4.out _ | exact HD3.out | exact bz_alloc HD3.out _ | exact HD1.out | exact bz_alloc HD1.out _ | exact HD0.out | exact (bz_alloc (Below.refl _ _) _).drew | exact bz_alloc HD0.out _))
          ((first
            | (go_at_call 16; (with_reducible refine (HKa.out _ (by first | exact HD4.out | exact ((HD4.out.setCell (p := ⟨_, 0, none⟩) HG.out _).setCell (p := ⟨_, 1, none⟩) HG.out _).setCell (p := ⟨_, 2, none⟩) HG.out _ | exact bz_alloc HD4.out _ | exact HD3.out | exact bz_alloc HD3.out _ | exact HD1.out | exact bz_alloc HD1.out _ | exact HD0.out | exact (bz_alloc (Below.refl _ _) _).drew | exact bz_alloc HD0.out _)).mono ?_); rintro e v1 ⟨⟨x1, rfl, ho⟩, hb1⟩; have HD1 : Hid (Below w5.heap.size w5 v1) := Lib.hid (bz_call (by first | exact HD4.out | exact ((HD4.out.setCell (p := ⟨_, 0, none⟩) HG.out _).setCell (p := ⟨_, 1, none⟩) HG.out _).setCell (p := ⟨_, 2, none⟩) HG.out _ | exact bz_alloc HD4.out _ | exact HD3.out | exact bz_alloc HD3.out _ | exact HD1.out | exact bz_alloc HD1.out _ | exact HD0.out | exact (bz_alloc (Below.refl _ _) _).drew | exact bz_alloc HD0.out _) hb1); (first | (have HZ1' := Lib.hid ((hb1.block _ (Array.getElem?_eq_some_iff.1 (Deep.blk_alloc_new _ (Obj.cells #[.int .i64 0, .int .i64 0, .slice none 0 0] 28))).1).trans (Deep.blk_alloc_new _ (Obj.cells #[.int .i64 0, .int .i64 0, .slice none 0 0] 28))); have HG := Lib.hid (HD0.out.size); have HN := Lib.hid (fun (q : Nat) (e : x1.ownBlock = some q) (h : q = w5.heap.size) => (absurd (ho.lt q e).1 (by rw [h]; show ¬ (w5.alloc _).heap.size ≤ w5.heap.size; rw [World.size_alloc]; exact Nat.not_succ_le_self _) : False))) | skip); have HO1 : Hid (v1.ownsRow w5.heap.size 9 1 x1 k1 (K1.map Value.string)) := Lib.hid (own_lower ho (Below.size (show Below w5.heap.size w5 _ from (by first | exact HD0.out | exact (bz_alloc (Below.refl _ _) _).drew | exact bz_alloc HD0.out _)))); obtain ⟨A5, c5, rfl, hq5⟩ := own_str ho; clear hb1 ho hq5)
            | (refine step_append_strs rfl (.tmp 79) (.tmp 80) rfl w5.heap.size (.slice A5 k1 c5) k1 K1 (by rfl) (by first | exact HO1.out | exact HO1.out.alloc _) A6 i c6 (by rfl) K2 HL2.out HN6.out hc6 (HR6.out _ (by first | exact HD4.out | exact ((HD4.out.setCell (p := ⟨_, 0, none⟩) HG.out _).setCell (p := ⟨_, 1, none⟩) HG.out _).setCell (p := ⟨_, 2, none⟩) HG.out _ | exact bz_alloc HD4.out _ | exact HD3.out | exact bz_alloc HD3.out _ | exact HD1.out | exact bz_alloc HD1.out _ | exact HD0.out | exact (bz_alloc (Below.refl _ _) _).drew | exact bz_alloc HD0.out _)) HLe.out (Below.size (show Below w5.heap.size w5 _ from (by first | exact HD4.out | exact ((HD4.out.setCell (p := ⟨_, 0, none⟩) HG.out _).setCell (p := ⟨_, 1, none⟩) HG.out _).setCell (p := ⟨_, 2, none⟩) HG.out _ | exact bz_alloc HD4.out _ | exact HD3.out | exact bz_alloc HD3.out _ | exact HD1.out | exact bz_alloc HD1.out _ | exact HD0.out | exact (bz_alloc (Below.refl _ _) _).drew | exact bz_alloc HD0.out _))) ?_; intro x3 v3 ho hg; have HD3 : Hid (Below w5.heap.size w5 v3) := Lib.hid (below_grownk (B := w5.heap.size) (a := w5) (by first | exact HD4.out | exact ((HD4.out.setCell (p := ⟨_, 0, none⟩) HG.out _).setCell (p := ⟨_, 1, none⟩) HG.out _).setCell (p := ⟨_, 2, none⟩) HG.out _ | exact bz_alloc HD4.out _ | exact HD3.out | exact bz_alloc HD3.out _ | exact HD1.out | exact bz_alloc HD1.out _ | exact HD0.out | exact (bz_alloc (Below.refl _ _) _).drew | exact bz_alloc HD0.out _) (by first | exact HO1.out | exact HO1.out.alloc _) hg (Nat.le_refl _) (Nat.le_refl _)); (first | (have HZ3 := Lib.hid ((hg.block _ (Array.getElem?_eq_some_iff.1 HZ1'.out).1 (fun e => HN.out _ e.symm rfl)).trans HZ1'.out)) | (have HZ3 := Lib.hid ((hg.block _ (Array.getElem?_eq_some_iff.1 (Deep.blk_alloc_new _ (Obj.cells #[.int .i64 0, .int .i64 0, .slice none 0 0] 28))).1 (fun e => absurd (HO1.out.lt _ e.symm).2 (Nat.lt_irrefl _))).trans (Deep.blk_alloc_new _ (Obj.cells #[.int .i64 0, .int .i64 0, .slice none 0 0] 28))); have HG := Lib.hid (HD1.out.size)) | skip); obtain ⟨A7, c7, rfl, hq7, hc7, hn7, hr7⟩ := own_str ho; clear hq7 hc7; have HR7 := Lib.hid hr7; rw [HK3.out]; clear ho hg hr7 hn7)
            | (go_at_call 18; (with_reducible refine (HRf.out _ _ _ (by first | exact HR7.out | exact HR7.out.alloc _)).mono ?_); rintro e v4 ⟨⟨u4, rfl, hst⟩, hb1⟩; have HD4 : Hid (Below w5.heap.size w5 v4) := Lib.hid (bz_call (by first | exact HD4.out | exact ((HD4.out.setCell (p := ⟨_, 0, none⟩) HG.out _).setCell (p := ⟨_, 1, none⟩) HG.out _).setCell (p := ⟨_, 2, none⟩) HG.out _ | exact bz_alloc HD4.out _ | exact HD3.out | exact bz_alloc HD3.out _ | exact HD1.out | exact bz_alloc HD1.out _ | exact HD0.out | exact (bz_alloc (Below.refl _ _) _).drew | exact bz_alloc HD0.out _) hb1); (first | (have HZ4 := Lib.hid ((hb1.block _ (Array.getElem?_eq_some_iff.1 HZ3.out).1).trans HZ3.out)) | (have HZ4 := Lib.hid ((hb1.block _ (Array.getElem?_eq_some_iff.1 (Deep.blk_alloc_new _ (Obj.cells #[.int .i64 0, .int .i64 0, .slice none 0 0] 28))).1).trans (Deep.blk_alloc_new _ (Obj.cells #[.int .i64 0, .int .i64 0, .slice none 0 0] 28))); have HG := Lib.hid (HD3.out.size)) | skip); have HT4 := Lib.hid hst; obtain ⟨y4, rfl, ⟨A8, c8, rfl, _⟩⟩ := hst; rw [← HL3.out] at HT4 ⊢; (first | (have f0 := frozen_of_row v4 _ 0 _ _ HZ4.out; have f1 := frozen_of_row v4 _ 1 _ _ HZ4.out; have f2 := frozen_of_row v4 _ 2 _ _ HZ4.out; have r0 := cell_of_row v4 _ 0 _ _ _ HZ4.out; have r1 := cell_of_row v4 _ 1 _ _ _ HZ4.out; have r2 := cell_of_row v4 _ 2 _ _ _ HZ4.out; simp at r0 r1 r2; have hzl := (Array.getElem?_eq_some_iff.1 HZ4.out).1) | skip); clear hb1)
            | fail))
        all_goals
          go_wp2_with fail
          go_meet
          first
            | exact ⟨_, A8, c8, rfl, Lib.hid (bz_alloc HD4.out _), Lib.hid (Deep.blk_alloc_new _ _), Lib.hid (HT4.out.below ((Below.refl _ _).alloc (Nat.le_refl _) _))⟩
            | exact ⟨_, A8, c8, rfl, Lib.hid (((HD4.out.setCell (p := ⟨_, 0, none⟩) HG.out _).setCell (p := ⟨_, 1, none⟩) HG.out _).setCell (p := ⟨_, 2, none⟩) HG.out _), Lib.hid (blk_set_all HZ4.out), Lib.hid (stv_set HT4.out HZ4.out)⟩
      case rest =>
        obtain ⟨z3, A8, c8, rfl, HBc, HZc, HUc⟩ := hcut
        replace HB := Lib.hid (HB.out.trans (HBc.out.mono HB.out.size))
        replace HK1 := Lib.hid (HK1.out.below HBc.out)
        replace HK2 := Lib.hid (HK2.out.below HBc.out)
        replace HU1 := Lib.hid (HU1.out.below HBc.out)
        replace HZ1 := Lib.hid (blk_below HZ1.out HBc.out)
        have r0 := cell_of_row wc z1 0 _ _ _ HZ1.out
        have r1 := cell_of_row wc z1 1 _ _ _ HZ1.out
        have r2 := cell_of_row wc z1 2 _ _ _ HZ1.out
        have q0 := cell_of_row wc z3 0 _ _ _ HZc.out
        have q1 := cell_of_row wc z3 1 _ _ _ HZc.out
        have q2 := cell_of_row wc z3 2 _ _ _ HZc.out
        simp at r0 r1 r2 q0 q1 q2
        have cG0 : ∀ d os, (Go.Sort.grow (redrawn wc d) os).cell? ⟨z1, 0, none⟩ = some (.int .i64 (n : Int)) := fun d os => cell_regrown r0 d os
        have cG1 : ∀ d os, (Go.Sort.grow (redrawn wc d) os).cell? ⟨z1, 1, none⟩ = some (.int .i64 (b : Int)) := fun d os => cell_regrown r1 d os
        have cG2 : ∀ d os, (Go.Sort.grow (redrawn wc d) os).cell? ⟨z1, 2, none⟩ = some (.slice A1 l1 c1) := fun d os => cell_regrown r2 d os
        have cG3 : ∀ d os, (Go.Sort.grow (redrawn wc d) os).cell? ⟨z3, 0, none⟩ = some (.int .i64 (n : Int)) := fun d os => cell_regrown q0 d os
        have cG4 : ∀ d os, (Go.Sort.grow (redrawn wc d) os).cell? ⟨z3, 1, none⟩ = some (.int .i64 (b : Int)) := fun d os => cell_regrown q1 d os
        have cG5 : ∀ d os, (Go.Sort.grow (redrawn wc d) os).cell? ⟨z3, 2, none⟩ = some (.slice A8 l3 c8) := fun d os => cell_regrown q2 d os
        have C1 : Hid (∀ d os, Calls Try.prog 15 #[.agg #[.int .i64 (n : Int), .int .i64 (b : Int), .slice A8 l3 c8], .pointer (some ⟨g2, 0, none⟩)] (Go.Sort.grow (redrawn wc d) os) fun e w'' => e = .returned (.bool true) ∧ ∃ p : Regrown, w'' = Go.Sort.grow (redrawn wc p.d) p.os) := Lib.hid (fun d os => Calls.regrown_of (HAg.out _ _ _ U hU80 (HK2.out.below (below_regrown wc d os)) (HUc.out.below (below_regrown wc d os))))
        have C2 : Hid (∀ d os, Calls Try.prog 15 #[.agg #[.int .i64 (n : Int), .int .i64 (b : Int), .slice A1 l1 c1], .pointer (some ⟨g1, 0, none⟩)] (Go.Sort.grow (redrawn wc d) os) fun e w'' => e = .returned (.bool true) ∧ ∃ p : Regrown, w'' = Go.Sort.grow (redrawn wc p.d) p.os) := Lib.hid (fun d os => Calls.regrown_of (HAg.out _ _ _ S hS40 (HK1.out.below (below_regrown wc d os)) (HU1.out.below (below_regrown wc d os))))
        have C3 : Hid (∀ d os, Calls Try.prog 35 #[.agg #[.int .i64 (n : Int), .int .i64 (b : Int), .slice A8 l3 c8]] (Go.Sort.grow (redrawn wc d) os) fun e w'' => e = .returned (.string F2) ∧ ∃ p : Regrown, w'' = Go.Sort.grow (redrawn wc p.d) p.os) := Lib.hid (fun d os => Calls.regrown_of (HFu.out _ _ (HUc.out.below (below_regrown wc d os))))
        have C4 : Hid (∀ d os, Calls Try.prog 35 #[.agg #[.int .i64 (n : Int), .int .i64 (b : Int), .slice A1 l1 c1]] (Go.Sort.grow (redrawn wc d) os) fun e w'' => e = .returned (.string F) ∧ ∃ p : Regrown, w'' = Go.Sort.grow (redrawn wc p.d) p.os) := Lib.hid (fun d os => Calls.regrown_of (HFo.out _ _ (HU1.out.below (below_regrown wc d os))))
        have HQ0 : Hid (∀ r, decide ((n : Int) = (n : Int) ∧ (b : Int) = (b : Int) ∧ (skt n U).2 = (skt n S).2 ∧ (skt n U).1 = (skt n S).1) = r → ∀ d os, Calls Try.prog 21 #[.pointer (some ⟨g2, 0, none⟩), .pointer (some ⟨g1, 0, none⟩)] (Go.Sort.grow (redrawn wc d) os) fun e w'' => e = .returned (.bool r) ∧ ∃ p : Regrown, w'' = Go.Sort.grow (redrawn wc p.d) p.os) := Lib.hid (fun r hr d os => Calls.regrown_of ((HEq.out _ _ _ (HK2.out.below (below_regrown wc d os)) (HK1.out.below (below_regrown wc d os))).mono (by rintro e w' ⟨rfl, hb⟩; exact ⟨by subst hr; simp, hb⟩)))
        clear r0 r1 r2 q0 q1 q2
        by_cases hE : skt n U = skt n S
        · obtain rfl : F2 = F := HFe.out hE
          have C5 := Lib.hid (HQ0.out true (by rw [hE]; simp))
          clear hE HQ0
          go_wp2_with fail
          refine wp_region_quiet_below (by kernel_rfl) (by kernel_rfl) ?_
          repeat (go_big_quiet_step ((first | with_reducible exact C1.out _ _ | with_reducible exact C2.out _ _ | with_reducible exact C3.out _ _ | with_reducible exact C4.out _ _ | with_reducible exact C5.out _ _)))
          refine wpQuiet_nil ?_
          intro _ hw'
          obtain ⟨⟨dq, osq⟩, hw''⟩ := hw'
          subst hw''
          have HQ := Lib.hid (bz_call HB.out (below_regrown wc dq osq))
          clear cG0 cG1 cG2 cG3 cG4 cG5 C1 C2 C3 C4 C5
          generalize Go.Sort.grow (redrawn wc dq) osq = wg at *
          go_wp2_with fail
          go_ret
          exact ⟨rfl, HQ.out⟩
        · have hne : (F2.toList == F.toList) = false := (Lib.bytes_beq_false_iff F2 F).2 (fun e => hE (HInj.out e))
          have C5 := Lib.hid (HQ0.out false (decide_eq_false (fun h => hE (Prod.ext h.2.2.2 h.2.2.1))))
          clear hE HQ0
          go_wp2_with fail
          refine wp_region_quiet_below (by kernel_rfl) (by kernel_rfl) ?_
          repeat (go_big_quiet_step ((first | with_reducible exact C1.out _ _ | with_reducible exact C2.out _ _ | with_reducible exact C3.out _ _ | with_reducible exact C4.out _ _ | with_reducible exact C5.out _ _)))
          refine wpQuiet_nil ?_
          intro _ hw'
          obtain ⟨⟨dq, osq⟩, hw''⟩ := hw'
          subst hw''
          have HQ := Lib.hid (bz_call HB.out (below_regrown wc dq osq))
          clear cG0 cG1 cG2 cG3 cG4 cG5 C1 C2 C3 C4 C5
          generalize Go.Sort.grow (redrawn wc dq) osq = wg at *
          go_wp2_with fail
          go_ret
          exact ⟨rfl, HQ.out⟩
set_option maxRecDepth 100000 in
theorem lifted (os : Os) (started : os.Started) (H : Type) (enc : TypeId × Value → H) :
    ReturnsInHanded {} Try.checked os 9 .any (Rows.bottomkFormsSpec.pre6 enc Try.prog Try.f9 Rows.bottomkFormsRow.domain false) (Rows.bottomkFormsSpec.post enc Try.prog Try.f9 false true false false) := by
  refine returnsInHanded_of_change (C := Try.checked) own started (by kernel_rfl) Try.func9
    (ChangeSpec.witness6 (enc := enc) (C := Try.checked) false ⟨#[], #[.agg #[.int .u8 0, .int .u8 0], .slice none 0 0, .slice none 0 0], []⟩ 8 (by kernel_rfl) (by kernel_rfl) (by kernel_rfl) (by kernel_rfl)) ?_
  intro W base args ds gs before hval0 hW _ _
  have hval : ∀ (j : Nat) t v, Try.f9.params[j]? = some t → args[j]? = some v → Value.okWide Try.prog W .any base t v := hval0
  have hW' := hW
  obtain ⟨p, q, hA0, hV, rfl, _, _⟩ := hW
  have hA : DataW.TrodAll enc Try.prog W 0 (fun _ => true) true Try.f9.params.toList args.toList ds p := hA0
  rw [Try.params9] at hA hval
  obtain ⟨v0, vs0, d0, ds0, p0, q0, hargs0, rfl, rfl, h0, r0⟩ := trodAll_cons hA
  obtain ⟨v1, vs1, d1, ds1, p1, q1, hargs1, rfl, rfl, h1, r1⟩ := trodAll_cons r0
  obtain ⟨v2, vs2, d2, ds2, p2, q2, hargs2, rfl, rfl, h2, r2⟩ := trodAll_cons r1
  obtain ⟨rfl, rfl, rfl⟩ := trodAll_nil r2
  obtain rfl : args = #[v0, v1, v2] := by cases args; simp_all
  obtain ⟨rfl, rfl⟩ := trodVars_none hV
  obtain ⟨a0, b0, rfl, rfl, rfl, ha0, hb0⟩ := open_setting (hval 0 23 v0 rfl rfl) h0
  have lt1 : ∀ x ∈ p1, x.block < W.heap.size := fun x hx => hW'.lt x (by simp [hx])
  obtain ⟨A1, c1, L1, rfl, hL1, hs1, hR1⟩ := open_u8s (hval 1 24 v1 rfl rfl) h1 lt1
  have lt2 : ∀ x ∈ p2, x.block < W.heap.size := fun x hx => hW'.lt x (by simp [hx])
  obtain ⟨A2, c2, L2, rfl, hL2, hs2, hR2⟩ := open_u8s (hval 2 24 v2 rfl rfl) h2 lt2
  clear hA0 hval0
  simp only [List.append_nil] at hW'
  refine (walk W a0 b0 ha0 hb0 A1 c1 L1 hL1 hs1 hR1 A2 c2 L2 hL2 hs2 hR2).mono fun e W' ⟨he, hb⟩ => ?_
  subst he
  exact ⟨_, rfl, post_mem hW' hb (fun _ _ _ => trodAll_mk1 (shut_bool Try.underlying4 _)) (fun sp hsp => by
    have t := trodAll_cons_mk (shut_setting ha0 hb0 _ sp) (trodAll_cons_mk (carry laidOut (by kernel_rfl) (of_decide_eq_true (by kernel_rfl)) h1 hb lt1 sp (fun x hx => hsp x (by simp [hx]))) (trodAll_cons_mk (carry laidOut (by kernel_rfl) (of_decide_eq_true (by kernel_rfl)) h2 hb lt2 sp (fun x hx => hsp x (by simp [hx]))) trodAll_mk0))
    simp only [List.append_nil] at t
    exact t) (fun _ => rfl) (ok_one (by kernel_rfl) rfl (okWide_bool_mk Try.underlying4 _))⟩

theorem proved : Rows.BottomkFormsSaid :=
  OpenClaim.holds_of_wide 9 Try.f9 rfl rfl rfl rfl rfl rfl rfl ⟨rfl, rfl, rfl, rfl, rfl⟩ rfl rfl rfl rfl rfl (by kernel_rfl) Try.func9 (by kernel_rfl)
    (of_decide_eq_true (by kernel_rfl)) (by unfold Func.isWrapper; first | (rw [if_pos (by decide +kernel)]; kernel_rfl) | (rw [if_neg (by decide +kernel)]; exact ⟨rfl, rfl⟩))
    (fun os started H enc _ => lifted os started H enc)

end Go.Proofs.Ytajainkaomkbjaa.lawForms
