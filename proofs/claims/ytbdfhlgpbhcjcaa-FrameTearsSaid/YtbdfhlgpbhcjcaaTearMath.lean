/- What is proved here: plain lemmas: a frame of which one to four bytes in a row are changed, all of the sum, or all behind it, is none. No program is named. -/
import Derived.Test.YtbdfhlgpbhcjcaaSealMath
namespace Go.Proofs.Ytbdfhlgpbhcjcaa
open Go Go.RowKit

theorem crc_len4 {s : Nat} (hs : s < 2 ^ 32) : ∀ (m m' : List Int), m.length = 4 → m'.length = 4 → (∀ x ∈ m, 0 ≤ x ∧ x < 256) → (∀ x ∈ m', 0 ≤ x ∧ x < 256) → crc s m = crc s m' → m = m'
  | [a0, a1, a2, a3], [b0, b1, b2, b3], _, _, ha, hb, h => by
    have a0' := ha a0 (by simp)
    have a1' := ha a1 (by simp)
    have a2' := ha a2 (by simp)
    have a3' := ha a3 (by simp)
    have b0' := hb b0 (by simp)
    have b1' := hb b1 (by simp)
    have b2' := hb b2 (by simp)
    have b3' := hb b3 (by simp)
    have := crc_four hs a0.toNat a1.toNat a2.toNat a3.toNat b0.toNat b1.toNat b2.toNat b3.toNat (by omega) (by omega) (by omega) (by omega) (by omega) (by omega) (by omega) (by omega) h
    rw [show a0 = b0 by omega, show a1 = b1 by omega, show a2 = b2 by omega, show a3 = b3 by omega]
theorem crc_short {s : Nat} (hs : s < 2 ^ 32) (m m' : List Int) (hl : m.length = m'.length) (h4 : m.length ≤ 4) (hm : ∀ x ∈ m, 0 ≤ x ∧ x < 256) (hm' : ∀ x ∈ m', 0 ≤ x ∧ x < 256) (h : crc s m = crc s m') : m = m' := by
  have hz : ∀ x ∈ List.replicate (4 - m.length) (0 : Int), 0 ≤ x ∧ x < 256 := fun x hx => by
    have := (List.mem_replicate.1 hx).2
    omega
  have e := crc_len4 hs (m ++ List.replicate (4 - m.length) 0) (m' ++ List.replicate (4 - m.length) 0) (by simp; omega) (by simp; omega) (bytes_app hm hz) (bytes_app hm' hz) (by rw [crc_append, crc_append, h])
  exact List.append_cancel_right e
/-- Two rows of bytes that part in at most four in a row have two sums. -/
theorem sum_short (p m m' q : List Int) (hl : m.length = m'.length) (h4 : m.length ≤ 4) (hp : ∀ x ∈ p, 0 ≤ x ∧ x < 256) (hm : ∀ x ∈ m, 0 ≤ x ∧ x < 256) (hm' : ∀ x ∈ m', 0 ≤ x ∧ x < 256) (hq : ∀ x ∈ q, 0 ≤ x ∧ x < 256)
    (h : sumL (p ++ (m ++ q)) = sumL (p ++ (m' ++ q))) : m = m' := by
  have h1 : crc 4294967295 (p ++ (m ++ q)) = crc 4294967295 (p ++ (m' ++ q)) := by
    have h0 : (4294967295 ^^^ crc 4294967295 (p ++ (m ++ q))) = (4294967295 ^^^ crc 4294967295 (p ++ (m' ++ q))) := h
    have : 4294967295 ^^^ (4294967295 ^^^ crc 4294967295 (p ++ (m ++ q))) = 4294967295 ^^^ (4294967295 ^^^ crc 4294967295 (p ++ (m' ++ q))) := by rw [h0]
    rwa [← Nat.xor_assoc, ← Nat.xor_assoc, Nat.xor_self, Nat.zero_xor, Nat.zero_xor] at this
  rw [crc_append, crc_append, crc_append, crc_append] at h1
  have hs : crc 4294967295 p < 2 ^ 32 := crc_lt p _ (by decide) hp
  exact crc_short hs m m' hl h4 hm hm' (crc_inj q _ _ (crc_lt m _ hs hm) (crc_lt m' _ hs hm') hq h1)

/-- Is the k-th byte from a on one that is changed? -/
def tornB (S : List Int) (a k : Nat) : Bool := decide (a ≤ S.length ∧ a + k < S.length ∧ (6 ≤ a ∨ a + k < 6))
/-- The first k of the changes. -/
def tear (S : List Int) (a : Nat) (x : List Int) : Nat → List Int
  | 0 => S
  | k + 1 => if tornB S a k then (tear S a x k).set (a + k) ((((tear S a x k).getD (a + k) 0).toNat ^^^ (x.getD k 0).toNat : Nat) : Int) else tear S a x k
theorem tear_length (S : List Int) (a : Nat) (x : List Int) : ∀ k, (tear S a x k).length = S.length
  | 0 => rfl
  | k + 1 => by
    rw [tear]
    split
    · rw [List.length_set, tear_length S a x k]
    · exact tear_length S a x k
theorem tear_take (S : List Int) (a : Nat) (x : List Int) : ∀ k, (tear S a x k).take a = S.take a
  | 0 => rfl
  | k + 1 => by
    rw [tear]
    split
    · rw [List.take_set_of_le (by omega), tear_take S a x k]
    · exact tear_take S a x k
theorem tear_drop (S : List Int) (a : Nat) (x : List Int) : ∀ k, k ≤ 4 → (tear S a x k).drop (a + 4) = S.drop (a + 4)
  | 0, _ => rfl
  | k + 1, h => by
    rw [tear]
    split
    · rw [List.drop_set_of_lt (by omega), tear_drop S a x k (by omega)]
    · exact tear_drop S a x k (by omega)
theorem tear_low (S : List Int) (a : Nat) (x : List Int) (ha : a < 6) : ∀ k, (tear S a x k).drop 6 = S.drop 6
  | 0 => rfl
  | k + 1 => by
    rw [tear]
    split
    · rename_i h
      unfold tornB at h
      rw [decide_eq_true_eq] at h
      rw [List.drop_set_of_lt (by omega), tear_low S a x ha k]
    · exact tear_low S a x ha k
theorem getD_byte {S : List Int} (hS : ∀ x ∈ S, 0 ≤ x ∧ x < 256) (j : Nat) : 0 ≤ S.getD j 0 ∧ S.getD j 0 < 256 := by
  rw [List.getD_eq_getElem?_getD]
  by_cases h : j < S.length
  · rw [List.getElem?_eq_getElem h]
    exact hS _ (List.getElem_mem h)
  · rw [List.getElem?_eq_none (by omega)]
    decide
theorem tear_bytes {S : List Int} (hS : ∀ x ∈ S, 0 ≤ x ∧ x < 256) (a : Nat) {x : List Int} (hx : ∀ y ∈ x, 0 ≤ y ∧ y < 256) : ∀ k, ∀ y ∈ tear S a x k, 0 ≤ y ∧ y < 256
  | 0 => hS
  | k + 1 => by
    rw [tear]
    have ih := tear_bytes hS a hx k
    split
    · intro y hy
      rcases List.mem_or_eq_of_mem_set hy with hy | rfl
      · exact ih y hy
      · have h1 := getD_byte ih (a + k)
        have h2 := getD_byte hx k
        have := xor_byte (a := ((tear S a x k).getD (a + k) 0).toNat) (b := (x.getD k 0).toNat) (by omega) (by omega)
        omega
    · exact ih
/-- A torn frame is one just if nothing is torn. -/
theorem tear_why {xs : List Int} (hx : ∀ x ∈ xs, 0 ≤ x ∧ x < 256) (hn : xs.length ≤ 4096) (a : Nat) (ha : 2 ≤ a) {x : List Int} (hxx : ∀ y ∈ x, 0 ≤ y ∧ y < 256) : decide (whyF (tear (sealF xs) a x 4) = 0) = decide (tear (sealF xs) a x 4 = sealF xs) := by
  have hS := sealF_bytes hx
  have hT := tear_bytes hS a hxx 4
  have hl := tear_length (sealF xs) a x 4
  have hw0 := seal_why hn hx []
  rw [List.append_nil] at hw0
  by_cases he : tear (sealF xs) a x 4 = sealF xs
  · rw [decide_eq_true he, he, decide_eq_true hw0]
  · rw [decide_eq_false he, decide_eq_false]
    intro hw
    apply he
    have htake := tear_take (sealF xs) a x 4
    have hdrop := tear_drop (sealF xs) a x 4 (Nat.le_refl _)
    have hlow := tear_low (sealF xs) a x (k := 4)
    generalize tear (sealF xs) a x 4 = T at *
    have h2 : T.take 2 = headF xs := by
      have h3 : T.take 2 = (T.take a).take 2 := by rw [List.take_take, Nat.min_eq_left ha]
      have h4 : (sealF xs).take 2 = ((sealF xs).take a).take 2 := by rw [List.take_take, Nat.min_eq_left ha]
      rw [h3, htake, ← h4]
      have := seal_take2 xs []
      rwa [List.append_nil] at this
    have hsz : sizeF T = xs.length := by unfold sizeF; rw [h2, headF_low (by omega)]
    rw [sealF_length] at hl
    have hb := (why_zero hT hw).2.2
    rw [hsz, List.take_of_length_le (by omega), List.take_of_length_le (by rw [List.length_drop]; omega)] at hb
    have hx6 : (sealF xs).drop 6 = xs := by
      have := seal_drop6 xs []
      rwa [List.append_nil, List.append_nil] at this
    by_cases h6 : a < 6
    · have := hlow h6
      rw [hx6] at this
      rw [hb, this]
    · have hbl : (T.drop 6).length = xs.length := by rw [List.length_drop]; omega
      have hTb : ∀ y ∈ T.drop 6, 0 ≤ y ∧ y < 256 := drop_bytes hT 6
      -- the sums' bytes are the same
      have hs6 : T.take 6 = (sealF xs).take 6 := by
        have h3 : T.take 6 = (T.take a).take 6 := by rw [List.take_take, Nat.min_eq_left (by omega)]
        have h4 : (sealF xs).take 6 = ((sealF xs).take a).take 6 := by rw [List.take_take, Nat.min_eq_left (by omega)]
        rw [h3, htake, ← h4]
      have hhead : headF (T.drop 6) = headF xs := by unfold headF; rw [hbl]
      have hsum : sumL (headF xs ++ T.drop 6) = sumL (headF xs ++ xs) := by
        have e1 : ((T.take 6).drop 2) = lowB 4 (sumL (headF xs ++ T.drop 6)) := by
          have : T.take 6 = headF xs ++ lowB 4 (sumL (headF xs ++ T.drop 6)) := by
            conv => lhs; rw [hb]
            unfold sealF
            rw [hhead]
            exact take_app (by rw [List.length_append, headF_length, lowB_length])
          rw [this]
          exact drop_app (headF_length xs)
        have e2 : (((sealF xs).take 6).drop 2) = lowB 4 (sumL (headF xs ++ xs)) := by
          have : (sealF xs).take 6 = headF xs ++ lowB 4 (sumL (headF xs ++ xs)) := by
            unfold sealF
            exact take_app (by rw [List.length_append, headF_length, lowB_length])
          rw [this]
          exact drop_app (headF_length xs)
        have e3 : lowB 4 (sumL (headF xs ++ T.drop 6)) = lowB 4 (sumL (headF xs ++ xs)) := by rw [← e1, ← e2, hs6]
        have := congrArg lowN e3
        rwa [sum_low (bytes_app (headF_bytes xs) hTb), sum_low (bytes_app (headF_bytes xs) hx)] at this
      -- the bodies part in at most four bytes in a row
      have split : ∀ L : List Int, L.drop 6 = (L.take a).drop 6 ++ ((L.drop a).take 4 ++ L.drop (a + 4)) := fun L => by
        have e1 : L = L.take a ++ ((L.drop a).take 4 ++ L.drop (a + 4)) := by
          rw [← List.drop_drop, List.take_append_drop, List.take_append_drop]
        by_cases hla : a ≤ L.length
        · conv => lhs; rw [e1]
          rw [List.drop_append_of_le_length (by rw [List.length_take]; omega)]
        · have h7 : L.drop a = [] := List.drop_of_length_le (by omega)
          have h8 : L.drop (a + 4) = [] := List.drop_of_length_le (by omega)
          rw [h7, h8, List.take_of_length_le (by omega)]
          simp
      have hT2 := split T
      have hS2 := split (sealF xs)
      rw [hx6] at hS2
      rw [htake, hdrop] at hT2
      have hmid : ((sealF xs).drop a).take 4 = (T.drop a).take 4 := by
        have hq : ∀ y ∈ (sealF xs).drop (a + 4), 0 ≤ y ∧ y < 256 := drop_bytes hS _
        refine sum_short (headF xs ++ ((sealF xs).take a).drop 6) _ _ ((sealF xs).drop (a + 4)) ?_ ?_ (bytes_app (headF_bytes xs) (drop_bytes (take_bytes hS a) 6)) (take_bytes (drop_bytes hS a) 4) (take_bytes (drop_bytes hT a) 4) hq ?_
        · rw [List.length_take, List.length_take, List.length_drop, List.length_drop, hl, sealF_length]
        · rw [List.length_take]; omega
        · rw [List.append_assoc, List.append_assoc, ← hT2, ← hS2, hsum]
      have hbody : T.drop 6 = xs := by rw [hT2, ← hmid, ← hS2]
      rw [hb, hbody]
end Go.Proofs.Ytbdfhlgpbhcjcaa
