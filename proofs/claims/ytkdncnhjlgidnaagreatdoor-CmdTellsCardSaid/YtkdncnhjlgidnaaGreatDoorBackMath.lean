/- What is proved here: plain lemmas: what was encoded is read as it was, in order. -/
import Derived.Test.YtkdncnhjlgidnaaGreatDoorAwakeC
namespace Go.Proofs.YtkdncnhjlgidnaaGreatDoor
open Go Go.RowKit

theorem numF_enc : ∀ (f i acc v : Nat) (r : List Int), v < 128 ^ (f + 1) → (i = 0 ∨ 0 < v) → numF (f + 1) i acc (enc v ++ r) = (acc + v * 128 ^ i, i + (enc v).length, 0) := by
  intro f
  induction f with
  | zero =>
    intro i acc v r hv hi
    have hv' : v < 128 := by simpa using hv
    rw [enc_small hv', List.singleton_append, numF_last _ _ _ _ _ (by omega) (by omega)]
    rw [Int.toNat_natCast, Nat.mod_eq_of_lt hv']
    rfl
  | succ f ih =>
    intro i acc v r hv hi
    by_cases hv' : v < 128
    · rw [enc_small hv', List.singleton_append, numF_last _ _ _ _ _ (by omega) (by omega)]
      rw [Int.toNat_natCast, Nat.mod_eq_of_lt hv']
      rfl
    · rw [enc_big hv', List.cons_append, numF_on _ _ _ _ _ (by omega)]
      have hq : v / 128 < 128 ^ (f + 1) := by
        rw [Nat.div_lt_iff_lt_mul (by omega)]
        rw [Nat.pow_succ] at hv
        exact hv
      rw [ih (i + 1) _ (v / 128) r hq (.inr (by omega))]
      rw [Int.toNat_natCast]
      have h1 : (128 + v % 128) % 128 = v % 128 := by omega
      rw [h1]
      have h2 : v % 128 * 128 ^ i + v / 128 * 128 ^ (i + 1) = v * 128 ^ i := by
        rw [Nat.pow_succ, Nat.mul_comm (128 ^ i) 128, ← Nat.mul_assoc, ← Nat.add_mul]
        congr 1
        omega
      rw [Nat.add_assoc, h2, List.length_cons]
      congr 2
      omega

theorem numF_enc9 (v : Nat) (r : List Int) (hv : v ≤ 9223372036854775807) : numF 9 0 0 (enc v ++ r) = (v, (enc v).length, 0) := by
  have h := numF_enc 8 0 0 v r (by have : (128 : Nat) ^ (8 + 1) = 9223372036854775808 := by decide
                                   rw [this]; omega) (.inl rfl)
  rw [h]
  simp

theorem numsF_encAll : ∀ (l acc : List Int) (used : Nat) (r : List Int), (∀ x ∈ l, 0 ≤ x ∧ x ≤ 9223372036854775807) → numsF l.length acc used (encAll l ++ r) = (acc ++ l, used + (encAll l).length, 0)
  | [], acc, used, r, _ => by simp [numsF, encAll_nil]
  | x :: l, acc, used, r, h => by
    have hx := h x (List.mem_cons_self ..)
    rw [encAll_cons, List.append_assoc, List.length_cons, numsF_on (numF_enc9 x.toNat _ (by omega)), List.drop_left, numsF_encAll l _ _ r fun y hy => h y (List.mem_cons_of_mem _ hy)]
    rw [Int.toNat_of_nonneg hx.1, List.append_assoc, List.singleton_append, List.length_append, Nat.add_assoc]

theorem goNum_enc (x : Nat) (r : List Int) (hx : x ≤ 9223372036854775807) : goNum (enc x ++ r) 0 0 = (x, (enc x).length, 0) := by
  unfold goNum
  rw [List.drop_zero, numF_enc9 x r hx, if_pos rfl, if_pos rfl, Nat.zero_add]
theorem goText_enc (a : List Int) (s : ByteArray) (r : List Int) (hs : s.size ≤ 1000000) : goText (a ++ (enc s.size ++ nums s) ++ r) a.length 0 (s.size : Int) = (nums s, a.length + ((enc s.size).length + s.size), 0) := by
  have hd : (a ++ (enc s.size ++ nums s) ++ r).drop a.length = enc s.size ++ (nums s ++ r) := by
    rw [List.append_assoc, List.drop_left, List.append_assoc]
  have hd2 : (a ++ (enc s.size ++ nums s) ++ r).drop (a.length + (enc s.size).length) = nums s ++ r := by
    rw [← List.drop_drop, hd, List.drop_left]
  have ht : textR (a ++ (enc s.size ++ nums s) ++ r) a.length (s.size : Int) = (nums s, (enc s.size).length + s.size, 0) := by
    unfold textR
    rw [hd, numF_enc9 s.size _ (by omega)]
    simp only [if_true]
    rw [if_neg (by omega), if_neg]
    · rw [hd2, List.take_left' (nums_length s)]
    · simp only [List.length_append, nums_length]
      omega
  unfold goText
  rw [ht, if_pos rfl, if_pos rfl]
theorem goNums_enc (a l : List Int) (hl : l.length ≤ 1000000) (h : ∀ x ∈ l, 0 ≤ x ∧ x ≤ 9223372036854775807) : goNums (a ++ (enc l.length ++ encAll l)) a.length 0 (l.length : Int) = (l, a.length + ((enc l.length).length + (encAll l).length), 0) := by
  have hd : (a ++ (enc l.length ++ encAll l)).drop a.length = enc l.length ++ (encAll l ++ []) := by rw [List.drop_left, List.append_nil]
  have hd2 : (a ++ (enc l.length ++ encAll l)).drop (a.length + (enc l.length).length) = encAll l ++ [] := by
    rw [← List.drop_drop, hd, List.drop_left]
  have ht : numsR (a ++ (enc l.length ++ encAll l)) a.length (l.length : Int) = (l, (enc l.length).length + (encAll l).length, 0) := by
    unfold numsR
    rw [hd, numF_enc9 l.length _ (by omega)]
    simp only [if_true]
    rw [if_neg (by omega), hd2, numsF_encAll l [] 0 [] h]
    simp
  unfold goNums
  rw [ht, if_pos rfl, if_pos rfl]
theorem strOfNums_nums (s : ByteArray) : strOfNums (nums s) = s := by
  unfold strOfNums nums
  rw [List.map_map]
  have h : (fun n : Int => UInt8.ofNat n.toNat) ∘ (fun b : UInt8 => (b.toNat : Int)) = id := by
    funext b
    simp
  rw [h, List.map_id]
end Go.Proofs.YtkdncnhjlgidnaaGreatDoor
