/- The statement ChecksumDetects: for any string, any burst and any three places, the law returns true and changes nothing. No condition but that the table reads as its initialiser lays it, which the card ties to the program's text. -/
import Derived.Test.YtediohaamblpbaaDoorFlip
import Derived.Test.YtediohaamblpbaaDoorRow3
import Derived.Lib.QuietBelow
import Derived.BigQuiet
namespace Go.Proofs.YtediohaamblpbaaDoor.lawDetects
open Go.Proofs.YtediohaamblpbaaDoor Go.ChangeShapes Go.WideShapes Go.ChangeAt Go.RowKit Go.Joins Ck
/-- The conversion of a string to bytes: a new block, which holds them. -/
theorem conv_to (S : ByteArray) (w : World) : ∃ (c : Nat) (w1 : World), (convert 9 49 (.string S)).run Tryd.prog w = .ok (.slice (some ⟨w.heap.size, 0, none⟩) S.size c) w1 ∧ BV w1 w.heap.size S.data.toList ∧ Below w.heap.size w w1 ∧ w1.heap.size = w.heap.size + 1 := by
  refine ⟨_, _, run_bytes_of_string w 9 49 5 S Tryd.underlying9 Tryd.underlying49 Tryd.underlying5, ⟨_, _, _, heap_alloc_new _ _, Nat.le_refl _, ?_, fun j hj => ?_⟩, ?_, ?_⟩
  · simp [bytesRow]
  · have hj' : j < S.data.size := by simpa using hj
    rw [bytesRow_at S _ j hj']
    simp
  · exact ((Below.refl _ _).drew).alloc (Nat.le_refl _) _
  · show (World.alloc _ _).heap.size = _
    rw [World.size_alloc]; rfl
theorem conv_back (g cap : Nat) (l : List UInt8) (n : Nat) (hn : n = l.length) (w : World) (h : BV w g l) : (convert 49 9 (.slice (some ⟨g, 0, none⟩) n cap)).run Tryd.prog w = .ok (.string ⟨l.toArray⟩) w := by
  subst hn
  refine run_convert_bytes_back w 49 9 5 ⟨g, 0, none⟩ cap l Tryd.underlying49 Tryd.underlying5 Tryd.underlying9 (fun j hj => ?_)
  have e : (⟨g, 0, none⟩ : Addr).add j = ⟨g, j, none⟩ := by unfold Addr.add; split <;> simp_all
  rw [e]; exact h.cell j hj
theorem bv_grown {w w' : World} {g g' : Nat} {l : List UInt8} (h : BV w g l) (hg : w.grownBy w' (some g')) (hne : g ≠ g') : BV w' g l :=
  h.same (hg.block g h.lt (fun e => hne (by injection e)))
theorem bv_below {w w' : World} {g B : Nat} {l : List UInt8} (h : BV w g l) (hb : Below B w w') (hlt : g < B) : BV w' g l := h.same (hb.block g hlt)
theorem below_grown {a w w' : World} {B g : Nat} (h : Below B a w) (hg : w.grownBy w' (some g)) (hB : B ≤ g) (hs : B ≤ a.heap.size) : Below B a w' :=
  ⟨hg.os.trans h.os, hg.tape.trans h.tape, hg.output.trans h.output, Nat.le_trans h.size hg.size, fun k hk => (hg.block k (by have := h.size; omega) (fun e => by injection e with e; omega)).trans (h.block k hk)⟩


structure Rel (w wr : World) (bx by_ : Array Value) (m m2 : List UInt8) : Prop where
  box1 : wr.heap[w.heap.size]? = some (.cells bx 47 (0, 0))
  box2 : wr.heap[w.heap.size + 1]? = some (.cells by_ 48 (0, 0))
  one : BV wr (w.heap.size + 1 + 1) m
  two : BV wr (w.heap.size + 1 + 1 + 1) m2
  below : Below w.heap.size w wr
theorem Rel.turn1 {w wr w' : World} {bx by_ : Array Value} {m m2 m' : List UInt8} (h : Rel w wr bx by_ m m2) (hn : BV w' (w.heap.size + 1 + 1) m') (hg : wr.grownBy w' (some (w.heap.size + 1 + 1))) : Rel w w' bx by_ m' m2 := by
  have hlt := h.two.lt
  exact ⟨(hg.block _ (by omega) (fun e => by injection e with e; omega)).trans h.box1, (hg.block _ (by omega) (fun e => by injection e with e; omega)).trans h.box2, hn, bv_grown h.two hg (by omega), below_grown h.below hg (by omega) (Nat.le_refl _)⟩
theorem Rel.turn2 {w wr w' : World} {bx by_ : Array Value} {m m2 m' : List UInt8} (h : Rel w wr bx by_ m m2) (hn : BV w' (w.heap.size + 1 + 1 + 1) m') (hg : wr.grownBy w' (some (w.heap.size + 1 + 1 + 1))) : Rel w w' bx by_ m m' := by
  have hlt := h.two.lt
  exact ⟨(hg.block _ (by omega) (fun e => by injection e with e; omega)).trans h.box1, (hg.block _ (by omega) (fun e => by injection e with e; omega)).trans h.box2, bv_grown h.one hg (by omega), hn, below_grown h.below hg (by omega) (Nat.le_refl _)⟩
theorem Rel.drewN {w wr : World} {bx by_ : Array Value} {m m2 : List UInt8} (h : Rel w wr bx by_ m m2) (n : Nat) : Rel w (wr.drewN n) bx by_ m m2 :=
  ⟨h.box1, h.box2, h.one.same rfl, h.two.same rfl, below_drewN h.below n⟩
theorem burst_on {l m : List UInt8} {a i : Nat} {w : BitVec 32} (h : Burst l m a i w) (hi : i < 32) : ∃ w', Burst l (flipped m (a + i)) a (i + 1) w' := by
  unfold flipped
  rw [h.len]
  by_cases hp : a + i < 8 * l.length
  · rw [if_pos hp]; exact ⟨_, h.turn hi hp⟩
  · rw [if_neg hp]; exact ⟨_, h.skip⟩
theorem turned_on {l m : List UInt8} {ps : List Nat} (h : Turned l m ps) (p : Nat) (hp : p ∉ ps) : ∃ ps', Turned l (flipped m p) ps' ∧ ps'.length ≤ ps.length + 1 ∧ ∀ q ∈ ps', q = p ∨ q ∈ ps := by
  unfold flipped
  rw [h.len]
  by_cases hl : p < 8 * l.length
  · rw [if_pos hl]; exact ⟨_, h.turn p hl hp, by simp, fun q hq => by simpa using hq⟩
  · rw [if_neg hl]; exact ⟨_, h, by omega, fun q hq => .inr hq⟩

theorem both (m : List UInt8) (S : ByteArray) (h : Ck.sum m = Ck.sum S.data.toList → m = S.data.toList) :
    ∃ B : Bool, (((Ck.sum m).toNat : Int) == ((Ck.sum S.data.toList).toNat : Int)) = B ∧ (m == S.toList) = B := by
  by_cases e : m = S.data.toList
  · subst e
    exact ⟨true, by simp, by simp [ByteArray.toList_eq]⟩
  · refine ⟨false, ?_, ?_⟩
    · rw [beq_eq_false_iff_ne]
      intro e2
      exact e (h (BitVec.eq_of_toNat_eq (by omega)))
    · rw [beq_eq_false_iff_ne]
      intro e2
      apply e
      rw [ByteArray.toList_eq] at e2
      exact e2
set_option maxHeartbeats 4000000 in
theorem walk (s S : ByteArray) (cut : (500 < s.size ∧ s.extract 0 500 = S) ∨ (s.size ≤ 500 ∧ S = s)) (hS : S.size ≤ 500) (at_ : Nat) (hat : at_ < 65536) (bits_ : BitVec 32) (b0 b1 b2 : Nat) (h0 : b0 < 65536) (h1 : b1 < 65536) (h2 : b2 < 65536) (hs : s.size ≤ 9223372036854775807) (w : World) (hT : Tab w) :
    Calls Tryd.prog 10 #[.string s, .agg #[.int .u16 at_, .int .u32 bits_.toNat], .agg #[.int .u16 b0, .int .u16 b1, .int .u16 b2]] w fun e w' => e = .returned (.bool true) ∧ Below w.heap.size w w' := by
  have HT := Lib.hid hT
  clear hT
  have z0 := (new2 w (.cells #[.int .u16 at_, .int .u32 bits_.toNat] 47) (.cells #[.int .u16 b0, .int .u16 b1, .int .u16 b2] 48))
  have zB := grown2 w (.cells #[.int .u16 at_, .int .u32 bits_.toNat] 47) (.cells #[.int .u16 b0, .int .u16 b1, .int .u16 b2] 48)
  have hsz : ((w.alloc (.cells #[.int .u16 at_, .int .u32 bits_.toNat] 47)).alloc (.cells #[.int .u16 b0, .int .u16 b1, .int .u16 b2] 48)).heap.size = w.heap.size + 1 + 1 := by simp
  obtain ⟨c1, w1, hr1, hb1, hB1, hz1⟩ := conv_to S ((w.alloc (.cells #[.int .u16 at_, .int .u32 bits_.toNat] 47)).alloc (.cells #[.int .u16 b0, .int .u16 b1, .int .u16 b2] 48))
  rw [hsz] at hr1 hb1 hB1 hz1
  obtain ⟨c2, w2, hr2, hb2, hB2, hz2⟩ := conv_to S w1
  rw [hz1] at hr2 hb2 hB2 hz2
  rcases cut with ⟨hcut, hcutS⟩ | ⟨hcut, rfl⟩
  all_goals
    have Z0 := Lib.hid z0
    have ZB := Lib.hid zB
    have Hb1 := Lib.hid hb1
    have HB1 := Lib.hid hB1
    have Hb2 := Lib.hid hb2
    have HB2 := Lib.hid hB2
    have Hz2 := Lib.hid hz2
    have Hz1 := Lib.hid hz1
    have Hsz := Lib.hid hsz
    clear z0 zB hb1 hB1 hb2 hB2 hz2 hz1 hsz
    go_enter Tryd.func10, Tryd.ntmps10
    go_wp2_with fail
    have HR : Hid (Rel w w2 #[.int .u16 at_, .int .u32 bits_.toNat] #[.int .u16 b0, .int .u16 b1, .int .u16 b2] S.data.toList S.data.toList) := by
      have l1 := Hsz.out
      have l2 := Hz1.out
      refine Lib.hid ⟨?_, ?_, ?_, Hb2.out, ?_⟩
      · rw [HB2.out.block _ (by omega), HB1.out.block _ (by omega)]; exact Z0.out.1
      · rw [HB2.out.block _ (by omega), HB1.out.block _ (by omega)]; exact Z0.out.2
      · exact bv_below Hb1.out HB2.out (by omega)
      · exact Below.trans (Below.trans ZB.out (HB1.out.mono (by omega))) (HB2.out.mono (by omega))
    clear hr1 hr2
    go_loopw [9] (fun i wr => ∃ (k : Nat) (m : List UInt8) (wb : BitVec 32), k ≤ 32 ∧ i = .int .i64 k ∧ Hid (Burst S.data.toList m at_ k wb) ∧ Hid (Rel w wr #[.int .u16 at_, .int .u32 bits_.toNat] #[.int .u16 b0, .int .u16 b1, .int .u16 b2] m S.data.toList)) (fun i _ => 32 - (intOf i).toNat)
    case atStart => exact ⟨0, _, _, Nat.zero_le _, rfl, Lib.hid (Burst.start _ _), HR⟩
    case round =>
      obtain ⟨k, m, wb, hk, rfl, hB, hR⟩ := hrel
      have hcb := cell_of_row wr w.heap.size 1 _ _ _ hR.out.box1
      have hnn : (0 : Int) ≤ (bits_.toNat : Int) / 2 ^ k := Int.ediv_nonneg (Int.natCast_nonneg _) (by rw [show ((2 : Int)) = ((2 : Nat) : Int) from rfl, ← Int.natCast_pow]; exact Int.natCast_nonneg _)
      by_cases hlt : k < 32
      · by_cases hbit : bits_.toNat / 2 ^ k % 2 = 1
        · have t1 : ((bits_.toNat : Int) / 2 ^ k % 2 == 1) = true := by
            rw [beq_iff_eq, show ((2 : Int)) = ((2 : Nat) : Int) from rfl, ← Int.natCast_pow, ← Int.natCast_ediv, ← Int.natCast_emod, hbit]; rfl
          clear hbit
          have hca := cell_of_row wr w.heap.size 0 _ _ _ hR.out.box1
          go_wp2_with fail
          refine (flip_any _ _ m (by rw [hB.out.len]; simpa using hS) (at_ + k) _ (by omega) (by omega) _ hR.out.one _ (by rw [hB.out.len]; simp)).mono ?_
          rintro e w' ⟨rfl, hbv, hg⟩
          obtain ⟨wb', hB'⟩ := burst_on hB.out hlt
          have HB' := Lib.hid hB'
          have HR' := Lib.hid (hR.out.turn1 hbv hg)
          clear hB' hbv hg hca hcb
          go_wp2_with fail
          go_roundw
          case rel => exact ⟨k + 1, _, wb', by omega, by go_num, HB', HR'⟩
          case measure => simp [intOf]; omega
        · have t1 : ((bits_.toNat : Int) / 2 ^ k % 2 == 1) = false := by
            rw [beq_eq_false_iff_ne, show ((2 : Int)) = ((2 : Nat) : Int) from rfl, ← Int.natCast_pow, ← Int.natCast_ediv, ← Int.natCast_emod]; omega
          clear hbit
          go_wp2_with fail
          go_roundw
          case rel => exact ⟨k + 1, m, wb, by omega, by go_num, Lib.hid hB.out.skip, hR⟩
          case measure => simp [intOf]; omega
      · obtain rfl : k = 32 := by omega
        go_wp2_with fail
        clear hcb
        go_loopw [10] (fun i wq => ∃ (j : Nat) (m2 : List UInt8) (ps : List Nat), j ≤ 3 ∧ i = .int .i64 j ∧ Hid (Turned S.data.toList m2 ps) ∧ Hid (ps.length ≤ j) ∧ Hid (∀ p ∈ ps, p = b0 ∨ (1 < j ∧ p = b1) ∨ (2 < j ∧ p = b2)) ∧ Hid (Rel w wq #[.int .u16 at_, .int .u32 bits_.toNat] #[.int .u16 b0, .int .u16 b1, .int .u16 b2] m m2)) (fun i _ => 3 - (intOf i).toNat)
        case atStart => exact ⟨0, _, [], Nat.zero_le _, rfl, Lib.hid (Turned.start _), Lib.hid (by simp), Lib.hid (by simp), hR⟩
        case round =>
          obtain ⟨j, m2, ps, hj, rfl, hTu, hlen, hmem, hR2⟩ := hrel
          have x0 := cell_of_row wr (w.heap.size + 1) 0 _ _ _ hR2.out.box2
          have x1 := cell_of_row wr (w.heap.size + 1) 1 _ _ _ hR2.out.box2
          have x2 := cell_of_row wr (w.heap.size + 1) 2 _ _ _ hR2.out.box2
          rcases (show j = 0 ∨ j = 1 ∨ j = 2 ∨ j = 3 by omega) with rfl | rfl | rfl | rfl
          · have hps : ps = [] := List.eq_nil_of_length_eq_zero (by have := hlen.out; omega)
            have Hps := Lib.hid hps
            clear hps
            go_wp2_with fail
            go_quiet (fail)
            go_wp2_with fail
            refine (flip_any _ _ m2 (by rw [hTu.out.len]; simpa using hS) b0 _ rfl (by omega) _ (hR2.out.drewN nq).two _ (by rw [hTu.out.len]; simp)).mono ?_
            rintro e w' ⟨rfl, hbv, hg⟩
            obtain ⟨ps', hTu', hlen', hmem'⟩ := turned_on hTu.out b0 (by rw [Hps.out]; simp)
            have HTu' := Lib.hid hTu'
            have Hlen' : Hid (ps'.length ≤ 1) := Lib.hid (by have := hlen.out; omega)
            have Hmem' : Hid (∀ p ∈ ps', p = b0 ∨ (1 < 1 ∧ p = b1) ∨ (2 < 1 ∧ p = b2)) := Lib.hid (fun p hp => by
              rcases hmem' p hp with rfl | hp
              · omega
              · rcases hmem.out p hp with h | ⟨h, e⟩ | ⟨h, e⟩
                · exact .inl h
                · exact .inr (.inl ⟨by omega, e⟩)
                · exact .inr (.inr ⟨by omega, e⟩))
            have HR' := Lib.hid ((hR2.out.drewN nq).turn2 hbv hg)
            clear hTu' hlen' hmem' hbv hg x0 x1 x2
            go_wp2_with fail
            go_roundw
            case rel => first | exact ⟨1, _, ps', by omega, rfl, HTu', Hlen', Hmem', HR'⟩ | ((repeat apply Exists.intro); exact ⟨⟨1, _, ps', by omega, rfl, HTu', Hlen', Hmem', HR'⟩, rfl⟩)
            case measure => simp [intOf]
          · by_cases hb : b1 = b0
            · have t10 : ((b1 : Int) != (b0 : Int)) = false := by rw [bne_eq_false_iff_eq]; omega
              clear hb
              go_wp2_with fail
              go_quiet (fail)
              have HR' := Lib.hid (hR2.out.drewN nq)
              have Hlen' : Hid (ps.length ≤ 2) := Lib.hid (by have := hlen.out; omega)
              have Hmem' : Hid (∀ p ∈ ps, p = b0 ∨ (1 < 2 ∧ p = b1) ∨ (2 < 2 ∧ p = b2)) := Lib.hid (fun p hp => by
                rcases hmem.out p hp with h | ⟨h, e⟩ | ⟨h, e⟩
                · exact .inl h
                · exact .inr (.inl ⟨by omega, e⟩)
                · exact .inr (.inr ⟨by omega, e⟩))
              go_wp2_with fail
              go_roundw
              case rel => exact ⟨2, _, ps, by omega, rfl, hTu, Hlen', Hmem', HR'⟩
              case measure => simp [intOf]
            · have t10 : ((b1 : Int) != (b0 : Int)) = true := by rw [bne_iff_ne]; omega
              have Hb := Lib.hid hb
              clear hb
              go_wp2_with fail
              go_quiet (fail)
              go_wp2_with fail
              refine (flip_any _ _ m2 (by rw [hTu.out.len]; simpa using hS) b1 _ rfl (by omega) _ (hR2.out.drewN nq).two _ (by rw [hTu.out.len]; simp)).mono ?_
              rintro e w' ⟨rfl, hbv, hg⟩
              obtain ⟨ps', hTu', hlen', hmem'⟩ := turned_on hTu.out b1 (fun hp => by
                rcases hmem.out _ hp with h | ⟨h, _⟩ | ⟨h, _⟩
                · exact Hb.out h
                · omega
                · omega)
              have HTu' := Lib.hid hTu'
              have Hlen' : Hid (ps'.length ≤ 2) := Lib.hid (by have := hlen.out; omega)
              have Hmem' : Hid (∀ p ∈ ps', p = b0 ∨ (1 < 2 ∧ p = b1) ∨ (2 < 2 ∧ p = b2)) := Lib.hid (fun p hp => by
                rcases hmem' p hp with rfl | hp
                · omega
                · rcases hmem.out p hp with h | ⟨h, e⟩ | ⟨h, e⟩
                  · exact .inl h
                  · exact .inr (.inl ⟨by omega, e⟩)
                  · exact .inr (.inr ⟨by omega, e⟩))
              have HR' := Lib.hid ((hR2.out.drewN nq).turn2 hbv hg)
              clear hTu' hlen' hmem' hbv hg x0 x1 x2
              go_wp2_with fail
              go_roundw
              case rel => first | exact ⟨2, _, ps', by omega, rfl, HTu', Hlen', Hmem', HR'⟩ | ((repeat apply Exists.intro); exact ⟨⟨2, _, ps', by omega, rfl, HTu', Hlen', Hmem', HR'⟩, rfl⟩)
              case measure => simp [intOf]
          · by_cases hb : b2 = b0
            · have t20 : ((b2 : Int) != (b0 : Int)) = false := by rw [bne_eq_false_iff_eq]; omega
              clear hb
              go_wp2_with fail
              go_quiet (fail)
              have HR' := Lib.hid (hR2.out.drewN nq)
              have Hlen' : Hid (ps.length ≤ 3) := Lib.hid (by have := hlen.out; omega)
              have Hmem' : Hid (∀ p ∈ ps, p = b0 ∨ (1 < 3 ∧ p = b1) ∨ (2 < 3 ∧ p = b2)) := Lib.hid (fun p hp => by
                rcases hmem.out p hp with h | ⟨h, e⟩ | ⟨h, e⟩
                · exact .inl h
                · exact .inr (.inl ⟨by omega, e⟩)
                · exact .inr (.inr ⟨by omega, e⟩))
              go_wp2_with fail
              go_roundw
              case rel => exact ⟨3, _, ps, by omega, rfl, hTu, Hlen', Hmem', HR'⟩
              case measure => simp [intOf]
            · have t20 : ((b2 : Int) != (b0 : Int)) = true := by rw [bne_iff_ne]; omega
              have Hb := Lib.hid hb
              clear hb
              by_cases hb' : b2 = b1
              · have t21 : ((b2 : Int) != (b1 : Int)) = false := by rw [bne_eq_false_iff_eq]; omega
                clear hb'
                go_wp2_with fail
                go_quiet (fail)
                have HR' := Lib.hid (hR2.out.drewN nq)
                have Hlen' : Hid (ps.length ≤ 3) := Lib.hid (by have := hlen.out; omega)
                have Hmem' : Hid (∀ p ∈ ps, p = b0 ∨ (1 < 3 ∧ p = b1) ∨ (2 < 3 ∧ p = b2)) := Lib.hid (fun p hp => by
                  rcases hmem.out p hp with h | ⟨h, e⟩ | ⟨h, e⟩
                  · exact .inl h
                  · exact .inr (.inl ⟨by omega, e⟩)
                  · exact .inr (.inr ⟨by omega, e⟩))
                go_wp2_with fail
                go_roundw
                case rel => exact ⟨3, _, ps, by omega, rfl, hTu, Hlen', Hmem', HR'⟩
                case measure => simp [intOf]
              · have t21 : ((b2 : Int) != (b1 : Int)) = true := by rw [bne_iff_ne]; omega
                have Hb' := Lib.hid hb'
                clear hb'
                go_wp2_with fail
                go_quiet (fail)
                go_wp2_with fail
                refine (flip_any _ _ m2 (by rw [hTu.out.len]; simpa using hS) b2 _ rfl (by omega) _ (hR2.out.drewN nq).two _ (by rw [hTu.out.len]; simp)).mono ?_
                rintro e w' ⟨rfl, hbv, hg⟩
                obtain ⟨ps', hTu', hlen', hmem'⟩ := turned_on hTu.out b2 (fun hp => by
                  rcases hmem.out _ hp with h | ⟨_, h⟩ | ⟨h, _⟩
                  · exact Hb.out h
                  · exact Hb'.out h
                  · omega)
                have HTu' := Lib.hid hTu'
                have Hlen' : Hid (ps'.length ≤ 3) := Lib.hid (by have := hlen.out; omega)
                have Hmem' : Hid (∀ p ∈ ps', p = b0 ∨ (1 < 3 ∧ p = b1) ∨ (2 < 3 ∧ p = b2)) := Lib.hid (fun p hp => by
                  rcases hmem' p hp with rfl | hp
                  · omega
                  · rcases hmem.out p hp with h | ⟨h, e⟩ | ⟨h, e⟩
                    · exact .inl h
                    · exact .inr (.inl ⟨by omega, e⟩)
                    · exact .inr (.inr ⟨by omega, e⟩))
                have HR' := Lib.hid ((hR2.out.drewN nq).turn2 hbv hg)
                clear hTu' hlen' hmem' hbv hg x0 x1 x2
                go_wp2_with fail
                go_roundw
                case rel => first | exact ⟨3, _, ps', by omega, rfl, HTu', Hlen', Hmem', HR'⟩ | ((repeat apply Exists.intro); exact ⟨⟨3, _, ps', by omega, rfl, HTu', Hlen', Hmem', HR'⟩, rfl⟩)
                case measure => simp [intOf]
          · clear x0 x1 x2
            go_wp2_with fail
            refine (sum_any _ (by simp [maxLen]; omega) _ (HT.out.below hR2.out.below)).mono ?_
            rintro e w' ⟨rfl, rfl⟩
            go_wp2_with fail
            have hf1 := hB.out.found
            have hf2 := hTu.out.found (by have := hlen.out; omega) (by simpa using hS)
            have l1 : S.size = m.length := by rw [hB.out.len]; simp
            have l2 : S.size = m2.length := by rw [hTu.out.len]; simp
            have L1 := Lib.hid l1
            have L2 := Lib.hid l2
            have m1 : ∀ W, Tab W → Calls Tryd.prog 20 #[.string ⟨m.toArray⟩] W fun e w' => e = .returned (.int .u32 (Ck.sum m).toNat) ∧ W = w' :=
              fun W hW => sum_any ⟨m.toArray⟩ (by show m.toArray.size ≤ maxLen; simp only [List.size_toArray, maxLen]; omega) W hW
            have m2' : ∀ W, Tab W → Calls Tryd.prog 20 #[.string ⟨m2.toArray⟩] W fun e w' => e = .returned (.int .u32 (Ck.sum m2).toNat) ∧ W = w' :=
              fun W hW => sum_any ⟨m2.toArray⟩ (by show m2.toArray.size ≤ maxLen; simp only [List.size_toArray, maxLen]; omega) W hW
            have M1 := Lib.hid m1
            have M2 := Lib.hid m2'
            obtain ⟨B1, e1, e2⟩ := both m S hf1
            obtain ⟨B2, e3, e4⟩ := both m2 S hf2
            clear hf1 hf2 l1 l2 m1 m2'
            have cK : ∀ d os, Calls Tryd.prog 14 #[] (Go.Sort.grow (redrawn wr d) os) fun e w'' => e = .returned (.bool true) ∧ ∃ p : Regrown, w'' = Go.Sort.grow (redrawn wr p.d) p.os :=
              fun d os => Calls.regrown_of (known_any _ ((HT.out.below hR2.out.below).below (below_regrown wr d os)))
            have cM1 : ∀ d os, Calls Tryd.prog 20 #[.string ⟨m.toArray⟩] (Go.Sort.grow (redrawn wr d) os) fun e w'' => e = .returned (.int .u32 (Ck.sum m).toNat) ∧ ∃ p : Regrown, w'' = Go.Sort.grow (redrawn wr p.d) p.os :=
              fun d os => (M1.out _ ((HT.out.below hR2.out.below).below (below_regrown wr d os))).mono fun _ _ ⟨he, hw⟩ => ⟨he, ⟨d, os⟩, hw.symm⟩
            have cM2 : ∀ d os, Calls Tryd.prog 20 #[.string ⟨m2.toArray⟩] (Go.Sort.grow (redrawn wr d) os) fun e w'' => e = .returned (.int .u32 (Ck.sum m2).toNat) ∧ ∃ p : Regrown, w'' = Go.Sort.grow (redrawn wr p.d) p.os :=
              fun d os => (M2.out _ ((HT.out.below hR2.out.below).below (below_regrown wr d os))).mono fun _ _ ⟨he, hw⟩ => ⟨he, ⟨d, os⟩, hw.symm⟩
            have k1 : ∀ d os, (convert 49 9 (.slice (some ⟨w.heap.size + 1 + 1, 0, none⟩) S.size c1)).run Tryd.prog (Go.Sort.grow (redrawn wr d) os) = .ok (.string ⟨m.toArray⟩) (Go.Sort.grow (redrawn wr d) os) :=
              fun d os => conv_back _ c1 m S.size L1.out _ (bv_below hR2.out.one (below_regrown wr d os) hR2.out.one.lt)
            have k2 : ∀ d os, (convert 49 9 (.slice (some ⟨w.heap.size + 1 + 1 + 1, 0, none⟩) S.size c2)).run Tryd.prog (Go.Sort.grow (redrawn wr d) os) = .ok (.string ⟨m2.toArray⟩) (Go.Sort.grow (redrawn wr d) os) :=
              fun d os => conv_back _ c2 m2 S.size L2.out _ (bv_below hR2.out.two (below_regrown wr d os) hR2.out.two.lt)
            have CK := Lib.hid cK
            have CM1 := Lib.hid cM1
            have CM2 := Lib.hid cM2
            have HRb := Lib.hid hR2.out.below
            clear cK cM1 cM2 Z0 ZB Hb1 HB1 Hb2 HB2 Hz2 Hz1 Hsz HR hB hR hTu hlen hmem hR2 HT M1 M2 L1 L2
            refine wp_region_quiet_below (by kernel_rfl) (by kernel_rfl) ?_
            repeat (go_big_quiet_step ((first | exact CK.out _ _ | exact CM1.out _ _ | exact CM2.out _ _)))
            refine wpQuiet_nil ?_
            intro _ hw'
            obtain ⟨⟨dq, osq⟩, hw''⟩ := hw'
            subst hw''
            go_wp2_with fail
            go_ret
            exact ⟨rfl, Below.trans HRb.out ((below_regrown wr dq osq).mono HRb.out.size)⟩

theorem walk_all (s : ByteArray) (hs : s.size ≤ 9223372036854775807) (at_ : Nat) (hat : at_ < 65536) (bits_ : BitVec 32) (b0 : Nat) (h0 : b0 < 65536) (b1 : Nat) (h1 : b1 < 65536) (b2 : Nat) (h2 : b2 < 65536) (w : World) (hT : Tab w) :
    Calls Tryd.prog 10 #[.string s, .agg #[.int .u16 at_, .int .u32 bits_.toNat], .agg #[.int .u16 b0, .int .u16 b1, .int .u16 b2]] w fun e w' => e = .returned (.bool true) ∧ Below w.heap.size w w' := by
  by_cases h : 500 < s.size
  · exact walk s _ (.inl ⟨h, rfl⟩) (by simp; omega) at_ hat bits_ b0 b1 b2 h0 h1 h2 hs w hT
  · exact walk s s (.inr ⟨by omega, rfl⟩) (by omega) at_ hat bits_ b0 b1 b2 h0 h1 h2 hs w hT
theorem u16_of {a : Int} (w : (Lit.int .u16 a).wf = true) : ∃ x : Nat, a = x ∧ x < 65536 := by
  have h : 0 ≤ a ∧ a ≤ 65535 := by simpa [Lit.wf, IntKind.min, IntKind.max, IntKind.signed, IntKind.bits] using w
  exact ⟨a.toNat, by omega, by omega⟩

theorem burst_reads {H : Type} {enc : TypeId × Value → H} {a b : Int} (wa : (Lit.int .u16 a).wf = true) (wb : (Lit.int .u32 b).wf = true) (W' : World) (sp : Nat → Bool) :
    DataW.Trod enc Tryd.prog W' 0 sp true 47 (.agg #[.int .u16 a, .int .u32 b]) (.agg [.lit (.int .u16 a), .lit (.int .u32 b)]) [] :=
  shut_agg2 (y0 := (.lit (.int .u16 a), [])) (y1 := (.lit (.int .u32 b), [])) Tryd.underlying47 (by kernel_rfl) (by kernel_rfl) ⟨1, by simp [DataW.trod, Tryd.underlying45, wa]⟩ ⟨1, by simp [DataW.trod, Tryd.underlying32, wb]⟩

set_option maxRecDepth 100000 in
theorem lifted (os : Os) (started : os.Started) (H : Type) (enc : TypeId × Value → H) :
    ReturnsInHanded {} Tryd.checked os 10 .any (fun w args => (Rows.checksumDetectsSpec.pre enc Tryd.prog Tryd.f10 [] false w args ∧ laidMetH Tryd.prog listed w) ∧ sizedMet enc Tryd.prog Tryd.f10 (OpenSpec.ofChange Rows.checksumDetectsSpec) false w args)
      (Rows.checksumDetectsSpec.post enc Tryd.prog Tryd.f10 false true false false) := by
  refine returnsInHanded_of_change_and (C := Tryd.checked) (X := fun w _ => laidMetH Tryd.prog listed w) (fun _ _ _ hh h => h.of_heap hh) own started (by kernel_rfl) Tryd.func10
    (ChangeSpec.witness_shaped (enc := enc) (C := Tryd.checked) (os := os) (X := fun w _ => laidMetH Tryd.prog listed w) false (World.doorLaid Tryd.prog 400 os) #[.string ByteArray.empty, .agg #[.int .u16 0, .int .u32 0], .agg #[.int .u16 0, .int .u16 0, .int .u16 0]] 8 rfl (World.shaped_of_RefB (by kernel_rfl) (by kernel_rfl)) (by kernel_rfl) (by kernel_rfl) (by kernel_rfl) (door_met os _)) ?_
  intro W base args ds gs before hval0 hW _ _ hL _
  have hval : ∀ (j : Nat) t v, Tryd.f10.params[j]? = some t → args[j]? = some v → Value.okWide Tryd.prog W .any base t v := hval0
  have hW' := hW
  obtain ⟨p, q, hA0, hV, rfl, _, _⟩ := hW
  have hA : DataW.TrodAll enc Tryd.prog W 0 (fun _ => true) true Tryd.f10.params.toList args.toList ds p := hA0
  rw [Tryd.params10] at hA hval
  obtain ⟨v0, vs0, d0, ds0, p0, q0, hargs0, rfl, rfl, h0, r0⟩ := trodAll_cons hA
  obtain ⟨v1, vs1, d1, ds1, p1, q1, hargs1, rfl, rfl, h1, r1⟩ := trodAll_cons r0
  obtain ⟨v2, vs2, d2, ds2, p2, q2, hargs2, rfl, rfl, h2, r2⟩ := trodAll_cons r1
  obtain ⟨rfl, rfl, rfl⟩ := trodAll_nil r2
  obtain rfl : args = #[v0, v1, v2] := by cases args; simp_all
  obtain ⟨rfl, rfl⟩ := trodVars_none hV
  obtain ⟨s0, rfl, rfl, rfl, ws0⟩ := Go.ChangeMaps.open_string Tryd.underlying9 (hval 0 9 v0 rfl rfl) h0
  obtain ⟨c10, c11, y0, y1, m1, rfl, rfl, rfl, hy0, hy1⟩ := open_agg2 Tryd.underlying47 (by kernel_rfl) (by kernel_rfl) (hval 1 47 v1 rfl rfl) h1
  obtain ⟨a10, e10, rfl, wa10⟩ := DataW.trod_int Tryd.underlying45 hy0
  obtain ⟨a11, e11, rfl, wa11⟩ := DataW.trod_int Tryd.underlying32 hy1
  simp at e10 e11
  subst e10 e11
  obtain ⟨m20, m21, m22, rfl, rfl, rfl, wm20, wm21, wm22⟩ := open_row3 Tryd.underlying48 Tryd.underlying45 (by kernel_rfl) (by kernel_rfl) (hval 2 48 v2 rfl rfl) h2
  obtain ⟨x10, rfl, g10⟩ := u16_of wa10
  obtain ⟨x11, rfl⟩ := u32_of wa11
  obtain ⟨x20, rfl, g20⟩ := u16_of wm20
  obtain ⟨x21, rfl, g21⟩ := u16_of wm21
  obtain ⟨x22, rfl, g22⟩ := u16_of wm22
  clear hA0 hval0
  simp only [List.append_nil] at hW'
  refine (walk_all s0 ws0 x10 g10 x11 x20 g20 x21 g21 x22 g22 W (of_laid hL)).mono fun e W' ⟨he, hb⟩ => ?_
  subst he
  exact ⟨_, rfl, post_plain hW' hb (fun _ _ _ => trodAll_mk1 (shut_bool Tryd.underlying4 _)) (fun sp => trodAll_cons_mk (Go.ChangeMaps.shut_string Tryd.underlying9 ws0) (trodAll_cons_mk (burst_reads wa10 wa11 _ sp) (trodAll_cons_mk (shut_row3 Tryd.underlying48 Tryd.underlying45 (by kernel_rfl) (by kernel_rfl) wm20 wm21 wm22) trodAll_mk0))) (fun _ => rfl) (ok_one (by kernel_rfl) rfl (okWide_bool_mk Tryd.underlying4 _))⟩

theorem row : Rows.ChecksumDetectsSaid :=
  OpenClaim.holds_of_wide 10 Tryd.f10 rfl rfl rfl rfl rfl rfl rfl ⟨rfl, rfl, rfl, rfl, rfl⟩ rfl rfl rfl rfl rfl (by kernel_rfl) Tryd.func10 (by kernel_rfl)
    (of_decide_eq_true (by kernel_rfl)) (by unfold Func.isWrapper; first | (rw [if_pos (by decide +kernel)]; kernel_rfl) | (rw [if_neg (by decide +kernel)]; exact ⟨rfl, rfl⟩))
    (fun os started H enc _ => lifted os started H enc)

theorem proved : Rows.ChecksumDetectsCardSaid :=
  Claim7.holds_tied_plain_at .later [] [.data] true _ false row (fun _ h => by cases h) (by kernel_rfl) (fun _ h => by cases h) checksumDetects_row_tie rfl ⟨rfl, rfl⟩ (by kernel_rfl) rfl
    (fun f fn hf hfn => by
      obtain rfl : f = 10 := Option.some.inj ((show Tryd.prog.funcNamed "sleuth/sleuthlaw04.ChecksumDetects" = some 10 by kernel_rfl).symm.trans hf) |>.symm
      obtain rfl : fn = Tryd.f10 := (Option.some.inj (Tryd.func10.symm.trans hfn)).symm
      exact ⟨by kernel_rfl, fun j t ht => by
        rw [Tryd.params10] at ht
        have hm : t ∈ [9, 47, 48] := by simpa using Array.mem_of_getElem? ht
        have hall : ([9, 47, 48].all fun u => !Tryd.prog.wantsStandIn u) = true := by kernel_rfl
        exact (show Tryd.prog.wantsStandIn t = false by simpa using List.all_eq_true.1 hall t hm)⟩)
    (by kernel_rfl)
end Go.Proofs.YtediohaamblpbaaDoor.lawDetects
