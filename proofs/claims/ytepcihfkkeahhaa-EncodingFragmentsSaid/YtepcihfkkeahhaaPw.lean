/- What is read where a form stands. -/
import Derived.Test.YtepcihfkkeahhaaRs
import Derived.Test.YtepcihfkkeahhaaEd
namespace Go.Proofs.Ytepcihfkkeahhaa
open Go.ChangeShapes Go.WideShapes Go.ChangeAt Go.RowKit En

/-- At p, the string goes on with F. -/
def Hs (s : ByteArray) (p : Nat) (F : List UInt8) : Prop := ∃ rest, s.data.toList.drop p = F ++ rest
theorem Hs.left {s : ByteArray} {p : Nat} {F G : List UInt8} (h : Hs s p (F ++ G)) : Hs s p F := by
  obtain ⟨rest, e⟩ := h
  exact ⟨G ++ rest, by rw [e, List.append_assoc]⟩
theorem Hs.right {s : ByteArray} {p : Nat} {F G : List UInt8} (h : Hs s p (F ++ G)) : Hs s (p + F.length) G := by
  obtain ⟨rest, e⟩ := h
  exact ⟨rest, by rw [← List.drop_drop, e, List.append_assoc, List.drop_left]⟩
theorem Hs.len {s : ByteArray} {p : Nat} {F : List UInt8} (h : Hs s p F) : F.length ≤ (s.data.toList.drop p).length := by
  obtain ⟨rest, e⟩ := h
  rw [e, List.length_append]; omega
theorem bytesOf_data' (s : ByteArray) : bytesOf s.data.toList = s := rfl
theorem rdG_at {α : Type} (z : α) (f : List UInt8 → α × Int × Int) (s : ByteArray) (p : Nat) (v : α) (k : Nat) (h : f (s.data.toList.drop p) = (v, (k : Int), 0)) : rdG z f s (p, 0) = (v, (p + k, 0)) := by
  unfold rdG
  simp only [h, if_true, Int.toNat_natCast]
theorem at_num {s : ByteArray} {p : Nat} {n : Int} (hn : In64 n) (h : Hs s p (num n)) : rdG 0 scan s (p, 0) = (n, (p + (num n).length, 0)) := by
  obtain ⟨rest, e⟩ := h
  exact rdG_at 0 scan s p n _ (by rw [e, scan_num n hn])
theorem at_bool {s : ByteArray} {p : Nat} {b : Bool} (h : Hs s p (boolF b)) : rdG false scanB s (p, 0) = (b, (p + (boolF b).length, 0)) := by
  obtain ⟨rest, e⟩ := h
  refine rdG_at false scanB s p b _ ?_
  have e2 : scan (boolF b ++ rest) = ((if b then 1 else 0), ((boolF b).length : Int), 0) := scan_num (if b then 1 else 0) (by cases b <;> exact ⟨by decide, by decide⟩) rest
  rw [e]; unfold scanB
  rw [e2]
  cases b <;> simp
theorem scanZ_at (most too : Int) (n : Nat) (hn : (n : Int) ≤ most) (hin : In64 (n : Int)) (rest : List UInt8) (hr : n ≤ rest.length) : scanZ most too (num (n : Int) ++ rest) = ((n : Int), ((num (n : Int)).length : Int), 0) := by
  unfold scanZ
  rw [scan_num (n : Int) hin rest]
  rw [List.length_append]
  dsimp only
  rw [if_pos rfl, if_neg (by omega), if_neg (by omega), if_neg (by omega)]
theorem at_cnt {s : ByteArray} {p : Nat} {n : Nat} (hn : n ≤ 4096) {G : List UInt8} (hG : n ≤ G.length) (h : Hs s p (num (n : Int) ++ G)) : rdG 0 (scanZ 4096 6) s (p, 0) = ((n : Int), (p + (num (n : Int)).length, 0)) := by
  obtain ⟨rest, e⟩ := h
  refine rdG_at 0 (scanZ 4096 6) s p _ _ ?_
  rw [e, List.append_assoc]
  exact scanZ_at 4096 6 n (by omega) ⟨by omega, by omega⟩ _ (by rw [List.length_append]; omega)
theorem at_text {s : ByteArray} {p : Nat} {t : ByteArray} (ht : t.size ≤ 4096) (h : Hs s p (text t)) : rdG ByteArray.empty (scanT 4096) s (p, 0) = (t, (p + (text t).length, 0)) := by
  obtain ⟨rest, e⟩ := h
  refine rdG_at ByteArray.empty (scanT 4096) s p t _ ?_
  rw [e]
  have e2 : text t ++ rest = num (t.size : Int) ++ (t.data.toList ++ rest) := by unfold text; rw [List.append_assoc]
  have hz := scanZ_at 4096 5 t.size (by omega) ⟨by omega, by omega⟩ (t.data.toList ++ rest) (by rw [List.length_append]; simp)
  rw [e2]
  unfold scanT
  rw [hz]
  simp only [if_true, Int.toNat_natCast]
  rw [List.drop_left, show t.size = t.data.toList.length by simp, List.take_left, text_len, show t.data.toList.length = t.size by simp]
  exact Prod.ext (bytesOf_data' t) (Prod.ext (by show _ = _; push_cast; rfl) rfl)
theorem at_value {s : ByteArray} {p : Nat} {k n : Int} {t : ByteArray} (hk : In64 k) (hn : In64 n) (ht : t.size ≤ 4096) (h : Hs s p (valueF k t n)) : rdvalue s (p, 0) = ((k, t, n), (p + (valueF k t n).length, 0)) := by
  have h1 := at_num hk h.left
  have h2 := at_text ht h.right.left
  have h3 := at_num hn h.right.right
  unfold rdvalue
  simp only [h1, h2, h3, if_true]
  congr 2
  unfold valueF
  rw [List.length_append, List.length_append]; omega
theorem at_attr {s : ByteArray} {p : Nat} {a : At} (hk : In64 a.kind) (hn : In64 a.int) (hkey : a.key.size ≤ 4096) (ht : a.text.size ≤ 4096) (h : Hs s p a.form) : rdattr s (p, 0) = (a, (p + a.form.length, 0)) := by
  have h1 := at_text hkey (Hs.left (F := text a.key) (G := valueF a.kind a.text a.int) h)
  have h2 := at_value hk hn ht (Hs.right (F := text a.key) (G := valueF a.kind a.text a.int) h)
  unfold rdattr
  simp only [h1, h2, if_true]
  have e : a.form.length = (text a.key).length + (valueF a.kind a.text a.int).length := by unfold At.form attrF; rw [List.length_append]
  rw [e, Nat.add_assoc]
theorem at_ref {s : ByteArray} {p : Nat} {a : Int × Int} (ha : RfOk a) (h : Hs s p (rfForm a)) : rdref s (p, 0) = (a, (p + (rfForm a).length, 0)) := by
  have e : rfForm a = num a.1 ++ num a.2 := by simp [rfForm, nums]
  rw [e] at h ⊢
  have h1 := at_num ha.1 h.left
  have h2 := at_num ha.2 h.right
  unfold rdref
  simp only [h1, h2, if_true]
  rw [List.length_append, Nat.add_assoc]
theorem at_list {α : Type} {f : ByteArray → St → α × St} {form : α → List UInt8} {s : ByteArray} (L : List α) (hpos : ∀ a ∈ L, 0 < (form a).length) (hf : ∀ a ∈ L, ∀ p, Hs s p (form a) → f s (p, 0) = (a, (p + (form a).length, 0))) (hL : L.length ≤ 4096) {p : Nat} (h : Hs s p (num (L.length : Int) ++ L.flatMap form)) :
    rdList (f s) s (p, 0) = (L, (p + (num (L.length : Int) ++ L.flatMap form).length, 0)) := by
  have hle : ∀ M : List α, (∀ a ∈ M, 0 < (form a).length) → M.length ≤ (M.flatMap form).length := by
    intro M
    induction M with
    | nil => intro _; exact Nat.zero_le _
    | cons a M ih =>
      intro hp
      have h1 := hp a (List.mem_cons_self ..)
      have h2 := ih (fun b hb => hp b (List.mem_cons_of_mem _ hb))
      rw [List.flatMap_cons, List.length_append, List.length_cons]; omega
  have hc := at_cnt hL (hle L hpos) h
  have gen : ∀ (M acc : List α) (q : Nat), (∀ a ∈ M, a ∈ L) → Hs s q (M.flatMap form) → rdL (f s) M.length acc (q, 0) = (acc ++ M, (q + (M.flatMap form).length, 0)) := by
    intro M
    induction M with
    | nil => intro acc q _ _; simp [rdL]
    | cons a M ih =>
      intro acc q hM hq
      rw [List.flatMap_cons] at hq
      have h1 := hf a (hM a (List.mem_cons_self ..)) q hq.left
      show (if (f s (q, 0)).2.2 = 0 then _ else _) = _
      rw [h1]
      simp only [if_true]
      rw [ih (acc ++ [a]) _ (fun b hb => hM b (List.mem_cons_of_mem _ hb)) hq.right]
      rw [List.flatMap_cons, List.length_append, List.append_assoc, List.singleton_append, Nat.add_assoc]
  unfold rdList
  rw [hc]
  simp only [Int.toNat_natCast]
  rw [gen L [] _ (fun a ha => ha) h.right, List.nil_append, List.length_append, Nat.add_assoc]
def Sp.Fit (s : Sp) : Prop := s.Ok ∧ s.sv.size ≤ 4096 ∧ s.ve.size ≤ 4096 ∧ s.op.size ≤ 4096 ∧ (∀ a ∈ s.al, a.key.size ≤ 4096 ∧ a.text.size ≤ 4096)
theorem num_ge1 (n : Int) : 0 < (num n).length := by simp [num]
theorem at_span {s : ByteArray} {p : Nat} {x : Sp} (hx : x.Fit) (h : Hs s p x.form) : rdspan s (p, 0) = (x, (p + x.form.length, 0)) := by
  obtain ⟨⟨o1, o2, o3, o4, o5, o6, o7, o8, o9, o10, o11⟩, f1, f2, f3, f4⟩ := hx
  have e0 : x.form = num x.t ++ (num x.i ++ (num x.p ++ (num x.r ++ (num x.c ++ (num x.k ++ (text x.sv ++ (text x.ve ++ (text x.op ++ (num x.st ++ (num x.en ++ (boolF x.er ++ ((num x.al.length ++ atForms x.al) ++ (num x.ls.length ++ rfForms x.ls))))))))))))) := by
    unfold Sp.form nums; simp
  rw [e0] at h ⊢
  have h1 := at_num (o1 x.t (by simp)) h.left
  have k1 := h.right
  have h2 := at_num (o1 x.i (by simp)) k1.left
  have k2 := k1.right
  have h3 := at_num (o1 x.p (by simp)) k2.left
  have k3 := k2.right
  have h4 := at_num (o1 x.r (by simp)) k3.left
  have k4 := k3.right
  have h5 := at_num (o1 x.c (by simp)) k4.left
  have k5 := k4.right
  have h6 := at_num (o1 x.k (by simp)) k5.left
  have k6 := k5.right
  have h7 := at_text f1 k6.left
  have k7 := k6.right
  have h8 := at_text f2 k7.left
  have k8 := k7.right
  have h9 := at_text f3 k8.left
  have k9 := k8.right
  have h10 := at_num (o5 x.st (by simp)) k9.left
  have k10 := k9.right
  have h11 := at_num (o5 x.en (by simp)) k10.left
  have k11 := k10.right
  have h12 := at_bool k11.left
  have k12 := k11.right
  have h13 := at_list (f := rdattr) (form := At.form) x.al (fun a _ => by have := num_ge1 (a.key.size : Int); unfold At.form attrF; rw [List.length_append, text_len]; omega) (fun a ha q hq => at_attr (o6 a ha).2.2.1 (o6 a ha).2.2.2 (f4 a ha).1 (f4 a ha).2 hq) o8 k12.left
  have k13 := k12.right
  have h14 := at_list (f := rdref) (form := rfForm) x.ls (fun a _ => by have := num_ge1 a.1; unfold rfForm nums; rw [List.flatMap_cons, List.length_append]; omega) (fun a ha q hq => at_ref (o7 a ha) hq) o9 k13
  have e13 : (num (x.al.length : Int) ++ x.al.flatMap At.form).length = (num (x.al.length : Int) ++ atForms x.al).length := rfl
  have e14 : (num (x.ls.length : Int) ++ x.ls.flatMap rfForm).length = (num (x.ls.length : Int) ++ rfForms x.ls).length := rfl
  rw [e13] at h13
  rw [e14] at h14
  unfold rdspan
  simp only [h1, h2, h3, h4, h5, h6, h7, h8, h9, h10, h11, h12, h13, h14, if_true]
  congr 2
  simp only [List.length_append]
  omega
end Go.Proofs.Ytepcihfkkeahhaa
