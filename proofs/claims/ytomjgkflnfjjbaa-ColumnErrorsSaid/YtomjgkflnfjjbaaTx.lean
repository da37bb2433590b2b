/- appendText, appendValue, appendAttr, the Writer's Attr. -/
import Derived.Test.YtomjgkflnfjjbaaRd
import Derived.Lib.AppendStr
namespace Go.Proofs.Ytomjgkflnfjjbaa
open Go.ChangeShapes Go.WideShapes Go.ChangeAt Go.RowKit En

/-- The form of a string. -/
def text (s : ByteArray) : List UInt8 := num s.size ++ s.data.toList
theorem text_len (s : ByteArray) : (text s).length = (num s.size).length + s.size := by unfold text; simp
theorem str_cells (s : ByteArray) : Lib.strCells s = s.data.toList.map u8v := rfl
set_option maxHeartbeats 1000000 in
set_option maxRecDepth 100000 in
theorem append_text (base : Nat) (v : Value) (len : Nat) (xs : List UInt8) (hlen : len ≤ 800000) (s : ByteArray) (hs : s.size ≤ 100000) (w : World) (hbase : base ≤ w.heap.size) (hown : w.ownsRow base 5 1 v len (xs.map u8v)) :
    Calls Try.prog 85 #[v, .string s] w fun e w' => (∃ v', w'.ownsRow base 5 1 v' (len + (text s).length) ((xs ++ text s).map u8v) ∧ e = .returned v') ∧ Bk base w w' := by
  obtain ⟨i0, hi0, hz0, hz1, hz2⟩ := info_parts u8_info
  have Hi0 := Lib.hid hi0
  have Hz0 := Lib.hid hz0
  have Hz1 := Lib.hid hz1
  have Hz2 := Lib.hid hz2
  have hn := append_number base v len xs (by omega) (s.size : Int) (by omega) (by omega) w hbase hown
  have hnb := num_bounds (s.size : Int) (by omega) (by omega)
  clear hi0 hz0 hz1 hz2 hown
  go_enter Try.func85, Try.ntmps85
  go_wp2_with fail
  refine hn.mono ?_
  rintro e w1 ⟨⟨v1, hown1, rfl⟩, hB1⟩
  have HO1 := Lib.hid hown1
  have HB1 := Lib.hid hB1
  have hb1 := hB1.1.size
  obtain ⟨n1, hn1⟩ : ∃ n1, n1 = len + (num (s.size : Int)).length := ⟨_, rfl⟩
  rw [← hn1] at HO1
  have hn1' : n1 ≤ 900000 := by omega
  clear hown1 hB1
  go_wp2_with (at_builtin; refine Lib.wpList_append_own_string _ rfl (.tmp 8) (.tmp 9) 90 9 rfl base 5 i0 Try.underlying90 Try.underlying9 Hi0.out Hz0.out Hz1.out Hz2.out v1 n1 _ rfl HO1.out s rfl (by unfold maxLen; omega) (by omega) (by omega) ?_; intro v2 w2 hown2 hg2 _; have HB2 := Lib.hid (bk_own (a := w) HB1.out HO1.out hg2 hbase); have HO2 := Lib.hid hown2; clear hown2 hg2)
  go_ret
  refine ⟨⟨_, ?_, rfl⟩, HB2.out⟩
  have h := HO2.out
  rw [str_cells, ← List.map_append, List.append_assoc, hn1, Nat.add_assoc, ← text_len] at h
  exact h
end Go.Proofs.Ytomjgkflnfjjbaa
