/- What is proved here: the bytes of an answer that may be written are read as that answer. -/
import Derived.Test.YtkdncnhjlgidnaaGreatDoorAPlain
namespace Go.Proofs.YtkdncnhjlgidnaaGreatDoor
open Go Go.RowKit

theorem goNums_write {xs a l r : List Int} {p : Nat} {most : Int} (hx : xs = a ++ ((enc l.length ++ encAll l) ++ r)) (hp : p = a.length) (hl : l.length ≤ 1000000) (hm : (l.length : Int) ≤ most) (h : ∀ x ∈ l, 0 ≤ x ∧ x ≤ 9223372036854775807) :
    goNums xs p 0 most = (l, (a ++ (enc l.length ++ encAll l)).length, 0) := by
  subst hx hp
  have hd : (a ++ ((enc l.length ++ encAll l) ++ r)).drop a.length = enc l.length ++ (encAll l ++ r) := by rw [List.drop_left, List.append_assoc]
  have hd2 : (a ++ ((enc l.length ++ encAll l) ++ r)).drop (a.length + (enc l.length).length) = encAll l ++ r := by
    rw [← List.drop_drop, hd, List.drop_left]
  have ht : numsR (a ++ ((enc l.length ++ encAll l) ++ r)) a.length most = (l, (enc l.length).length + (encAll l).length, 0) := by
    unfold numsR
    rw [hd, numF_enc9 l.length _ (by omega)]
    simp only [if_true]
    rw [if_neg (by omega), hd2, numsF_encAll l [] 0 r h]
    simp
  unfold goNums
  rw [ht, if_pos rfl, if_pos rfl]
  simp [List.length_append]
/-- A message that may be written. -/
def Fine (x : TK) : Prop := (0 ≤ x.id ∧ x.id ≤ 4611686018427387904) ∧ (0 ≤ x.ct ∧ x.ct ≤ 4611686018427387904) ∧ x.rc.size ≤ 256 ∧ x.bd.size ≤ 256 ∧ x.gr.size ≤ 256
theorem tkR_write {xs a r : List Int} {p : Nat} {x : TK} (hx : xs = a ++ (tkB x ++ r)) (hp : p = a.length) (hf : Fine x) : tkR xs p 0 = (x, (a ++ tkB x).length, 0) := by
  obtain ⟨f1, f2, f3, f4, f5⟩ := hf
  have e0 : goNum xs p 0 = (x.id.toNat, (a ++ enc x.id.toNat).length, 0) := goNum_write (r := enc x.ct.toNat ++ encT (nums x.rc) ++ encT (nums x.bd) ++ encT (nums x.gr) ++ r) (by rw [hx]; unfold tkB; simp only [List.append_assoc]) hp (by omega)
  have e1 : goNum xs (a ++ enc x.id.toNat).length 0 = (x.ct.toNat, (a ++ enc x.id.toNat ++ enc x.ct.toNat).length, 0) := goNum_write (r := encT (nums x.rc) ++ encT (nums x.bd) ++ encT (nums x.gr) ++ r) (by rw [hx]; unfold tkB; simp only [List.append_assoc]) rfl (by omega)
  have e2 : goText xs (a ++ enc x.id.toNat ++ enc x.ct.toNat).length 0 256 = (nums x.rc, (a ++ enc x.id.toNat ++ enc x.ct.toNat ++ encT (nums x.rc)).length, 0) := goText_write (r := encT (nums x.bd) ++ encT (nums x.gr) ++ r) (by rw [hx]; unfold tkB; simp only [List.append_assoc]) rfl (by rw [nums_length]; omega) (by rw [nums_length]; omega)
  have e3 : goText xs (a ++ enc x.id.toNat ++ enc x.ct.toNat ++ encT (nums x.rc)).length 0 256 = (nums x.bd, (a ++ enc x.id.toNat ++ enc x.ct.toNat ++ encT (nums x.rc) ++ encT (nums x.bd)).length, 0) := goText_write (r := encT (nums x.gr) ++ r) (by rw [hx]; unfold tkB; simp only [List.append_assoc]) rfl (by rw [nums_length]; omega) (by rw [nums_length]; omega)
  have e4 : goText xs (a ++ enc x.id.toNat ++ enc x.ct.toNat ++ encT (nums x.rc) ++ encT (nums x.bd)).length 0 256 = (nums x.gr, (a ++ enc x.id.toNat ++ enc x.ct.toNat ++ encT (nums x.rc) ++ encT (nums x.bd) ++ encT (nums x.gr)).length, 0) := goText_write (r := r) (by rw [hx]; unfold tkB; simp only [List.append_assoc]) rfl (by rw [nums_length]; omega) (by rw [nums_length]; omega)
  unfold tkR
  simp only [e0, e1, e2, e3, e4, strOfNums_nums, Int.toNat_of_nonneg f1.1, Int.toNat_of_nonneg f2.1]
  unfold tkB
  simp only [List.append_assoc]
theorem rdK_write {xs a r : List Int} {p : Nat} {T : List TK} (hx : xs = a ++ (T.flatMap tkB ++ r)) (hp : p = a.length) (hf : ∀ x ∈ T, Fine x) : ∀ k, k ≤ T.length → rdK xs p 0 k = (T.take k, (a ++ (T.take k).flatMap tkB).length, 0)
  | 0, _ => by simp [rdK, hp]
  | k + 1, hk => by
    have hk' : k < T.length := by omega
    have ih := rdK_write hx hp hf k (by omega)
    have hsp : T.flatMap tkB = (T.take k).flatMap tkB ++ (tkB T[k] ++ (T.drop (k + 1)).flatMap tkB) := by
      conv => lhs; rw [← List.take_append_drop k T]
      rw [List.flatMap_append, List.drop_eq_getElem_cons hk', List.flatMap_cons]
    have e := tkR_write (xs := xs) (a := a ++ (T.take k).flatMap tkB) (r := (T.drop (k + 1)).flatMap tkB ++ r) (x := T[k]) (by rw [hx, hsp]; simp only [List.append_assoc]) rfl (hf _ (List.getElem_mem _))
    rw [rdK, ih]
    simp only [e]
    rw [List.take_succ_eq_append_getElem hk', List.flatMap_append]
    simp [List.append_assoc]
/-- What was written is read as it was. -/
theorem araw_back {cd : Int} {I : List Int} {T : List TK} (h : aRight cd I T = true) : araw (aBytes cd I T) = ⟨cd.toNat, I, T.length, T, (aBytes cd I T).length, 0⟩ := by
  have g := aGood h
  have hc := g.code
  have hf := g.few
  obtain ⟨xs, hxs⟩ : ∃ xs, xs = aBytes cd I T := ⟨_, rfl⟩
  have hx2 : xs = enc cd.toNat ++ (enc I.length ++ encAll I) ++ enc T.length ++ T.flatMap tkB := hxs
  have e0 : goNum xs 0 0 = (cd.toNat, (enc cd.toNat).length, 0) := by
    have := goNum_write (xs := xs) (a := []) (r := (enc I.length ++ encAll I) ++ enc T.length ++ T.flatMap tkB) (v := cd.toNat) (p := 0) (by rw [hx2]; simp only [List.nil_append, List.append_assoc]) rfl (by omega)
    simpa using this
  have e1 : goNums xs (enc cd.toNat).length 0 10 = (I, (enc cd.toNat ++ (enc I.length ++ encAll I)).length, 0) := goNums_write (r := enc T.length ++ T.flatMap tkB) (by rw [hx2]; simp only [List.append_assoc]) rfl (by omega) (by omega) (fun x hx => by have := g.ids x hx; omega)
  have e2 : goNum xs (enc cd.toNat ++ (enc I.length ++ encAll I)).length 0 = (T.length, (enc cd.toNat ++ (enc I.length ++ encAll I) ++ enc T.length).length, 0) := goNum_write (r := T.flatMap tkB) (by rw [hx2]; simp only [List.append_assoc]) rfl (by omega)
  have e3 := rdK_write (xs := xs) (a := enc cd.toNat ++ (enc I.length ++ encAll I) ++ enc T.length) (r := []) (T := T) (by rw [hx2]; simp only [List.append_assoc, List.append_nil]) rfl g.tks T.length (Nat.le_refl _)
  rw [← hxs, araw_is e0 e1 e2 (show T.length = min T.length 10 by omega), e3, List.take_length, hx2]
theorem why_back {cd : Int} {I : List Int} {T : List TK} (h : aRight cd I T = true) : whyA (aBytes cd I T) (aBytes cd I T).length 0 ((cd.toNat : Nat) : Int) I T = 0 := by
  have hc := (aGood h).code
  unfold whyA
  rw [if_neg (by simp), if_neg (by omega), Int.toNat_of_nonneg hc.1, h, decide_eq_true rfl]
  rfl
end Go.Proofs.YtkdncnhjlgidnaaGreatDoor
