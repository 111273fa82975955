/- What is proved here: plain lemmas on the checksum of bytes: by half bytes, by bits, and by dividing a row of bits; that it is linear, and tells four changed bytes in a row. No program is named. -/
/- What is proved here: what frame.low returns: the number of at most four bytes, the lowest first; memory stays as it was. -/
/- What is proved here: what frame.appendLow returns: the row, and behind it so many bytes of the number, the lowest first, in the row's own memory or a new one. -/
/- What is proved here: what frame.effects returns: of each half byte what four steps make of it; new memory is made, and none that was there is changed. -/
import Derived.WalkKit
import Derived.Lib.Hide
import Derived.Test.YtnomicnmpllajaaGreatDoorPFu1
import Derived.Laws.BitsAll
import Derived.Deep.DeepCutAuto
section
namespace Go.Proofs.YtnomicnmpllajaaGreatDoor
open Go Go.RowKit

/-- The polynomial, the lowest bit the coefficient of x^31. -/
def poly : Nat := 3988292384
/-- One bit is shifted out. -/
def step (s : Nat) : Nat := s / 2 ^^^ s % 2 * poly
def four (s : Nat) : Nat := step (step (step (step s)))
def upd (s c : Nat) : Nat := four (four (s ^^^ c))
/-- The state behind a list of bytes. -/
def crc (s : Nat) (l : List Int) : Nat := l.foldl (fun s c => upd s c.toNat) s
/-- The checksum of a list of bytes. -/
def sumL (l : List Int) : Nat := 4294967295 ^^^ crc 4294967295 l

theorem xor_lc (a b c : Nat) : a ^^^ (b ^^^ c) = b ^^^ (a ^^^ c) := by rw [← Nat.xor_assoc, Nat.xor_comm a b, Nat.xor_assoc]
theorem bit_mul (b j : Nat) (h : b < 2) (p : Nat) : (b * p).testBit j = (b.testBit 0 && p.testBit j) := by
  rcases (by omega : b = 0 ∨ b = 1) with rfl | rfl <;> simp
theorem step_bit (s j : Nat) : (step s).testBit j = (s.testBit (j + 1) ^^ (s.testBit 0 && poly.testBit j)) := by
  unfold step
  rw [Nat.testBit_xor, bit_mul _ _ (Nat.mod_lt _ (by omega)), Nat.testBit_succ]
  congr 2
  simp [Nat.testBit_zero]
theorem step_xor (a b : Nat) : step (a ^^^ b) = step a ^^^ step b := by
  apply Nat.eq_of_testBit_eq
  intro i
  simp only [step_bit, Nat.testBit_xor]
  generalize a.testBit (i + 1) = x
  generalize b.testBit (i + 1) = y
  generalize a.testBit 0 = z
  generalize b.testBit 0 = u
  generalize poly.testBit i = v
  revert x y z u v
  decide
theorem step_dbl (a : Nat) : step (2 * a) = a := by
  unfold step
  rw [Nat.mul_mod_right, Nat.zero_mul, Nat.mul_div_cancel_left _ (by omega), Nat.xor_zero]
theorem poly_lt : poly < 2 ^ 32 := by decide
theorem step_lt {s : Nat} (h : s < 2 ^ 32) : step s < 2 ^ 32 := by
  unfold step
  refine Nat.xor_lt_two_pow (by omega) ?_
  have hp := poly_lt
  rcases (by omega : s % 2 = 0 ∨ s % 2 = 1) with e | e <;> rw [e] <;> omega
theorem four_lt {s : Nat} (h : s < 2 ^ 32) : four s < 2 ^ 32 := step_lt (step_lt (step_lt (step_lt h)))
theorem four_xor (a b : Nat) : four (a ^^^ b) = four a ^^^ four b := by unfold four; rw [step_xor, step_xor, step_xor, step_xor]
theorem step_two (a : Nat) : step (2 * a) = a := step_dbl a
theorem four_16 (a : Nat) : four (16 * a) = a := by
  unfold four
  rw [show 16 * a = 2 * (2 * (2 * (2 * a))) by omega, step_two, step_two, step_two, step_two]
theorem split_low (k s : Nat) : s = 2 ^ k * (s / 2 ^ k) ^^^ s % 2 ^ k := by
  apply Nat.eq_of_testBit_eq
  intro i
  rw [Nat.testBit_xor, Nat.testBit_two_pow_mul, Nat.testBit_mod_two_pow, Nat.testBit_div_two_pow]
  by_cases h : i < k
  · simp [h, Nat.not_le.2 h]
  · have hk : k ≤ i := by omega
    simp [h, hk]
theorem four_split (s : Nat) : four s = s / 16 ^^^ four (s % 16) := by
  have h := split_low 4 s
  rw [show (2 : Nat) ^ 4 = 16 from rfl] at h
  have e := congrArg four h
  rw [four_xor, four_16] at e
  exact e
theorem upd_lt {s c : Nat} (hs : s < 2 ^ 32) (hc : c < 256) : upd s c < 2 ^ 32 := four_lt (four_lt (Nat.xor_lt_two_pow hs (by omega)))
theorem crc_nil (s : Nat) : crc s [] = s := rfl
theorem crc_cons (s : Nat) (c : Int) (l : List Int) : crc s (c :: l) = crc (upd s c.toNat) l := rfl
theorem crc_append (s : Nat) (l m : List Int) : crc s (l ++ m) = crc (crc s l) m := List.foldl_append
theorem crc_snoc (s : Nat) (l : List Int) (c : Int) : crc s (l ++ [c]) = upd (crc s l) c.toNat := by rw [crc_append]; rfl
theorem crc_lt : ∀ (l : List Int) (s : Nat), s < 2 ^ 32 → (∀ x ∈ l, 0 ≤ x ∧ x < 256) → crc s l < 2 ^ 32
  | [], _, h, _ => h
  | c :: l, s, h, hl => crc_lt l _ (upd_lt h (by have := hl c (List.mem_cons_self ..); omega)) fun x hx => hl x (List.mem_cons_of_mem _ hx)
theorem sumL_lt (l : List Int) (hl : ∀ x ∈ l, 0 ≤ x ∧ x < 256) : sumL l < 2 ^ 32 := Nat.xor_lt_two_pow (by decide) (crc_lt l _ (by decide) hl)

/-! ### changes -/
theorem upd_diff (s t c d : Nat) : upd s c ^^^ upd t d = four (four ((s ^^^ t) ^^^ (c ^^^ d))) := by
  unfold upd
  rw [← four_xor, ← four_xor]
  congr 2
  apply Nat.eq_of_testBit_eq
  intro i
  simp only [Nat.testBit_xor]
  cases s.testBit i <;> cases t.testBit i <;> cases c.testBit i <;> cases d.testBit i <;> rfl
theorem poly_top : poly.testBit 31 = true := by decide
theorem lt_of_bits {s k : Nat} (h : ∀ i, k ≤ i → s.testBit i = false) : s < 2 ^ k := Nat.lt_pow_two_of_testBit s fun i hi => h i hi
theorem bit_hi {s k i : Nat} (h : s < 2 ^ k) (hi : k ≤ i) : s.testBit i = false := Nat.testBit_lt_two_pow (Nat.lt_of_lt_of_le h (Nat.pow_le_pow_right (by omega) hi))
/-- A step whose answer is short had nothing to shift out. -/
theorem step_back {s : Nat} (h : s < 2 ^ 32) (hv : step s < 2 ^ 31) : s = 2 * step s := by
  have h31 : (step s).testBit 31 = false := bit_hi hv (Nat.le_refl _)
  rw [step_bit, bit_hi h (by omega), poly_top, Bool.and_true, Bool.false_xor] at h31
  rw [Nat.testBit_zero] at h31
  have h2 : s % 2 = 0 := by
    have : ¬ s % 2 = 1 := by simpa using h31
    omega
  unfold step
  rw [h2, Nat.zero_mul, Nat.xor_zero]
  omega
theorem four_back {s : Nat} (h : s < 2 ^ 32) (hv : four s < 2 ^ 28) : s = 16 * four s := by
  have h1 := step_lt h
  have h2 := step_lt h1
  have h3 := step_lt h2
  have e4 : step (step (step s)) = 2 * four s := step_back h3 (by unfold four at hv; omega)
  have e3 : step (step s) = 2 * step (step (step s)) := step_back h2 (by omega)
  have e2 : step s = 2 * step (step s) := step_back h1 (by omega)
  have e1 : s = 2 * step s := step_back h (by omega)
  omega
theorem eight_back {s : Nat} (h : s < 2 ^ 32) (hv : four (four s) < 2 ^ 24) : s = 256 * four (four s) := by
  have h1 := four_back (four_lt h) (by omega)
  have h2 := four_back h (by omega)
  omega
theorem xor_shift (a c k : Nat) {a' : Nat} (h : a ^^^ c = 2 ^ k * a') (hc : c < 2 ^ k) : a = 2 ^ k * a' + c := by
  have e : a = 2 ^ k * a' ^^^ c := by rw [← h, Nat.xor_assoc, Nat.xor_self, Nat.xor_zero]
  rw [e]
  apply Nat.eq_of_testBit_eq
  intro i
  rw [Nat.two_pow_add_eq_or_of_lt hc, Nat.testBit_xor, Nat.testBit_or, Nat.testBit_two_pow_mul]
  by_cases hi : k ≤ i
  · rw [bit_hi hc hi]; simp
  · simp [hi]
theorem xor_zero_iff {a b : Nat} (h : a ^^^ b = 0) : a = b := by
  have : a ^^^ b ^^^ b = b := by rw [h, Nat.zero_xor]
  rwa [Nat.xor_assoc, Nat.xor_self, Nat.xor_zero] at this
theorem xor_byte {a b : Nat} (ha : a < 256) (hb : b < 256) : a ^^^ b < 2 ^ 8 := Nat.xor_lt_two_pow (by omega) (by omega)
theorem xor_state {a b : Nat} (ha : a < 2 ^ 32) (hb : b < 2 ^ 32) : a ^^^ b < 2 ^ 32 := Nat.xor_lt_two_pow ha hb
/-- Of two bytes behind two states: what the states differ by is told by what they then differ by, while that is short. -/
theorem upd_back {s t c d v : Nat} (hs : s < 2 ^ 32) (ht : t < 2 ^ 32) (hc : c < 256) (hd : d < 256) (h : upd s c ^^^ upd t d = v) (hv : v < 2 ^ 24) : s ^^^ t = 2 ^ 8 * v + (c ^^^ d) := by
  rw [upd_diff] at h
  have hb := xor_byte hc hd
  have h8 := eight_back (s := (s ^^^ t) ^^^ (c ^^^ d)) (Nat.xor_lt_two_pow (xor_state hs ht) (by omega)) (by omega)
  rw [h] at h8
  exact xor_shift _ _ 8 h8 hb
theorem upd_inj {s t c : Nat} (hs : s < 2 ^ 32) (ht : t < 2 ^ 32) (hc : c < 256) (h : upd s c = upd t c) : s = t := by
  have := upd_back hs ht hc hc (v := 0) (by rw [h, Nat.xor_self]) (by omega)
  rw [Nat.xor_self] at this
  exact xor_zero_iff this
theorem crc_inj : ∀ (l : List Int) (s t : Nat), s < 2 ^ 32 → t < 2 ^ 32 → (∀ x ∈ l, 0 ≤ x ∧ x < 256) → crc s l = crc t l → s = t
  | [], _, _, _, _, _, h => h
  | c :: l, s, t, hs, ht, hl, h => by
    have hc := hl c (List.mem_cons_self ..)
    exact upd_inj hs ht (by omega) (crc_inj l _ _ (upd_lt hs (by omega)) (upd_lt ht (by omega)) (fun x hx => hl x (List.mem_cons_of_mem _ hx)) h)
/-- One to four bytes in a row, changed: another state. -/
theorem crc_four {s : Nat} (hs : s < 2 ^ 32) (a0 a1 a2 a3 b0 b1 b2 b3 : Nat) (ha0 : a0 < 256) (ha1 : a1 < 256) (ha2 : a2 < 256) (ha3 : a3 < 256) (hb0 : b0 < 256) (hb1 : b1 < 256) (hb2 : b2 < 256) (hb3 : b3 < 256)
    (h : upd (upd (upd (upd s a0) a1) a2) a3 = upd (upd (upd (upd s b0) b1) b2) b3) : a0 = b0 ∧ a1 = b1 ∧ a2 = b2 ∧ a3 = b3 := by
  have u1 := upd_lt hs ha0
  have u2 := upd_lt u1 ha1
  have u3 := upd_lt u2 ha2
  have v1 := upd_lt hs hb0
  have v2 := upd_lt v1 hb1
  have v3 := upd_lt v2 hb2
  have x0 := xor_byte ha0 hb0
  have x1 := xor_byte ha1 hb1
  have x2 := xor_byte ha2 hb2
  have x3 := xor_byte ha3 hb3
  have e3 := upd_back u3 v3 ha3 hb3 (v := 0) (by rw [h, Nat.xor_self]) (by omega)
  have e2 := upd_back u2 v2 ha2 hb2 e3 (by omega)
  have e1 := upd_back u1 v1 ha1 hb1 e2 (by omega)
  have e0 := upd_back hs hs ha0 hb0 e1 (by omega)
  rw [Nat.xor_self] at e0
  exact ⟨xor_zero_iff (by omega), xor_zero_iff (by omega), xor_zero_iff (by omega), xor_zero_iff (by omega)⟩

/-! ### by bits -/
/-- The lowest bits of a number, the lowest one first. -/
def bitsN : Nat → Nat → List Bool
  | 0, _ => []
  | k + 1, c => decide (c % 2 = 1) :: bitsN k (c / 2)
def bstep (s : Nat) (b : Bool) : Nat := step (s ^^^ b.toNat)
def stepN : Nat → Nat → Nat
  | 0, s => s
  | k + 1, s => stepN k (step s)
theorem bitsN_length : ∀ k c, (bitsN k c).length = k
  | 0, _ => rfl
  | k + 1, c => by rw [bitsN, List.length_cons, bitsN_length k]
theorem bstep_low (s c : Nat) : step (s ^^^ c) = bstep s (decide (c % 2 = 1)) ^^^ c / 2 := by
  have h := split_low 1 c
  rw [show (2 : Nat) ^ 1 = 2 from rfl] at h
  have hb : (decide (c % 2 = 1)).toNat = c % 2 := by rcases (by omega : c % 2 = 0 ∨ c % 2 = 1) with e | e <;> simp [e]
  unfold bstep
  rw [hb]
  have e : s ^^^ c = s ^^^ c % 2 ^^^ 2 * (c / 2) := by
    rw [Nat.xor_assoc, Nat.xor_comm (c % 2), ← h]
  rw [e, step_xor, step_dbl]
theorem bits_fold : ∀ (k s c : Nat), stepN k (s ^^^ c) = (bitsN k c).foldl bstep s ^^^ c / 2 ^ k
  | 0, s, c => by simp [stepN, bitsN]
  | k + 1, s, c => by
    rw [stepN, bstep_low, bits_fold k, bitsN, List.foldl_cons, Nat.div_div_eq_div_mul, Nat.pow_succ, Nat.mul_comm 2]
theorem upd_bits (s c : Nat) (hc : c < 256) : upd s c = (bitsN 8 c).foldl bstep s := by
  have h := bits_fold 8 s c
  rw [show c / 2 ^ 8 = 0 from Nat.div_eq_of_lt (by omega), Nat.xor_zero] at h
  rw [← h]
  rfl
/-- All bits of a list of bytes. -/
def allBits (l : List Int) : List Bool := l.flatMap fun c => bitsN 8 c.toNat
theorem allBits_nil : allBits [] = [] := rfl
theorem allBits_cons (c : Int) (l : List Int) : allBits (c :: l) = bitsN 8 c.toNat ++ allBits l := rfl
theorem allBits_append (l m : List Int) : allBits (l ++ m) = allBits l ++ allBits m := List.flatMap_append
theorem allBits_snoc (l : List Int) (c : Int) : allBits (l ++ [c]) = allBits l ++ bitsN 8 c.toNat := by rw [allBits_append, allBits_cons, allBits_nil, List.append_nil]
theorem allBits_length : ∀ l : List Int, (allBits l).length = 8 * l.length
  | [] => rfl
  | c :: l => by rw [allBits_cons, List.length_append, bitsN_length, allBits_length l, List.length_cons]; omega
theorem crc_bits : ∀ (l : List Int) (s : Nat), (∀ x ∈ l, 0 ≤ x ∧ x < 256) → crc s l = (allBits l).foldl bstep s
  | [], _, _ => rfl
  | c :: l, s, hl => by
    have hc := hl c (List.mem_cons_self ..)
    rw [crc_cons, allBits_cons, List.foldl_append, ← upd_bits _ _ (by omega), crc_bits l _ fun x hx => hl x (List.mem_cons_of_mem _ hx)]
theorem bstep_lt {s : Nat} (h : s < 2 ^ 32) (b : Bool) : bstep s b < 2 ^ 32 := step_lt (Nat.xor_lt_two_pow h (by cases b <;> decide))
theorem fold_lt : ∀ (l : List Bool) (s : Nat), s < 2 ^ 32 → l.foldl bstep s < 2 ^ 32
  | [], _, h => h
  | b :: l, _, h => fold_lt l _ (bstep_lt h b)

/-! ### a row of bits, divided -/
def flip (L : List Bool) (q : Nat) : List Bool := L.set q (!L.getD q false)
theorem flip_length (L : List Bool) (q : Nat) : (flip L q).length = L.length := by unfold flip; rw [List.length_set]
theorem flip_at (L : List Bool) (q r : Nat) (h : q < L.length) : (flip L q).getD r false = (L.getD r false ^^ decide (r = q)) := by
  unfold flip
  rw [List.getD_eq_getElem?_getD, List.getElem?_set]
  by_cases e : q = r
  · subst e
    rw [if_pos rfl, if_pos h, decide_eq_true rfl]
    simp
  · rw [if_neg e, decide_eq_false (fun h => e h.symm), ← List.getD_eq_getElem?_getD]
    simp
def pows : List Nat := [26, 23, 22, 16, 12, 11, 10, 8, 7, 5, 4, 2, 1, 0]
/-- The first t of the polynomial's powers, flipped. -/
def flips (L : List Bool) (i t : Nat) : List Bool := (pows.take t).foldl (fun L p => flip L (i + 32 - p)) L
theorem flips_zero (L : List Bool) (i : Nat) : flips L i 0 = L := rfl
theorem flips_succ (L : List Bool) (i t : Nat) (h : t < 14) : flips L i (t + 1) = flip (flips L i t) (i + 32 - pows.getD t 0) := by
  unfold flips
  have hp : pows.take (t + 1) = pows.take t ++ [pows.getD t 0] := by
    have hl : t < pows.length := h
    rw [List.take_succ_eq_append_getElem hl, List.getD_eq_getElem?_getD, List.getElem?_eq_getElem hl, Option.getD_some]
  rw [hp, List.foldl_append]
  rfl
theorem foldl_flip_length (i : Nat) : ∀ (ps : List Nat) (L : List Bool), (ps.foldl (fun L p => flip L (i + 32 - p)) L).length = L.length
  | [], _ => rfl
  | p :: ps, L => by rw [List.foldl_cons, foldl_flip_length i ps, flip_length]
theorem flips_length (L : List Bool) (i t : Nat) : (flips L i t).length = L.length := foldl_flip_length i _ L
theorem foldl_flip_at (i j : Nat) : ∀ (ps : List Nat) (L : List Bool), i + 32 < L.length → (∀ p ∈ ps, p < 32) → (ps.foldl (fun L p => flip L (i + 32 - p)) L).getD (i + 1 + j) false = ps.foldl (fun b p => b ^^ decide (j = 31 - p)) (L.getD (i + 1 + j) false)
  | [], _, _, _ => rfl
  | p :: ps, L, hL, hp => by
    rw [List.foldl_cons, foldl_flip_at i j ps _ (by rw [flip_length]; exact hL) (fun q hq => hp q (List.mem_cons_of_mem _ hq)), List.foldl_cons, flip_at _ _ _ (by omega)]
    have := hp p (List.mem_cons_self ..)
    have e : decide (i + 1 + j = i + 32 - p) = decide (j = 31 - p) := by rw [decide_eq_decide]; omega
    rw [e]
theorem foldl_xor : ∀ (ps : List Nat) (j : Nat) (b : Bool), ps.foldl (fun b p => b ^^ decide (j = 31 - p)) b = (b ^^ ps.foldl (fun b p => b ^^ decide (j = 31 - p)) false)
  | [], _, b => by simp
  | p :: ps, j, b => by
    rw [List.foldl_cons, List.foldl_cons, foldl_xor ps j (b ^^ _), foldl_xor ps j (false ^^ _)]
    simp
theorem pows_bit (j : Nat) : pows.foldl (fun b p => b ^^ decide (j = 31 - p)) false = poly.testBit j := by
  by_cases h : j < 32
  · revert h
    revert j
    decide
  · rw [bit_hi poly_lt (by omega)]
    simp only [pows, List.foldl_cons, List.foldl_nil]
    have e : ∀ q, q < 32 → decide (j = q) = false := fun q hq => decide_eq_false (by omega)
    simp [e]
theorem flips_at (L : List Bool) (i j : Nat) (h : i + 32 < L.length) : (flips L i 14).getD (i + 1 + j) false = (L.getD (i + 1 + j) false ^^ poly.testBit j) := by
  unfold flips
  rw [show pows.take 14 = pows from rfl, foldl_flip_at i j _ _ h (by decide), foldl_xor, pows_bit]
/-- One round of the division, and the first k of them. -/
def round (L : List Bool) (i : Nat) : List Bool := if L.getD i false then flips L i 14 else L
def rounds (L : List Bool) : Nat → List Bool
  | 0 => L
  | k + 1 => round (rounds L k) k
theorem round_length (L : List Bool) (i : Nat) : (round L i).length = L.length := by unfold round; split; exact flips_length _ _ _; rfl
theorem rounds_length (L : List Bool) : ∀ k, (rounds L k).length = L.length
  | 0 => rfl
  | k + 1 => by rw [rounds, round_length, rounds_length L k]
/-- The first k of a row, flipped. -/
def starts (L : List Bool) (k : Nat) : List Bool := (L.take k).map (!·) ++ L.drop k
theorem starts_zero (L : List Bool) : starts L 0 = L := by simp [starts]
theorem starts_length (L : List Bool) (k : Nat) : (starts L k).length = L.length := by
  unfold starts; rw [List.length_append, List.length_map, ← List.length_append, List.take_append_drop]
theorem starts_at (L : List Bool) (k j : Nat) (h : k ≤ L.length) : (starts L k).getD j false = (L.getD j false ^^ decide (j < k)) := by
  unfold starts
  rw [List.getD_eq_getElem?_getD, List.getElem?_append, List.length_map, List.length_take, Nat.min_eq_left h]
  by_cases hj : j < k
  · rw [if_pos hj, decide_eq_true hj, List.getElem?_map, List.getElem?_take, if_pos hj, List.getElem?_eq_getElem (by omega), List.getD_eq_getElem?_getD, List.getElem?_eq_getElem (by omega)]
    simp
  · rw [if_neg hj, decide_eq_false hj, List.getElem?_drop, show k + (j - k) = j by omega, ← List.getD_eq_getElem?_getD]
    simp
theorem starts_succ (L : List Bool) (k : Nat) (h : k < L.length) : starts L (k + 1) = (starts L k).set k (!(starts L k).getD k false) := by
  apply List.ext_getElem?
  intro j
  have hl : j < L.length ∨ L.length ≤ j := by omega
  rcases hl with hl | hl
  · have e1 := starts_at L (k + 1) j (by omega)
    have e2 := flip_at (starts L k) k j (by rw [starts_length]; exact h)
    rw [starts_at L k j (by omega)] at e2
    have hf : (flip (starts L k) k) = (starts L k).set k (!(starts L k).getD k false) := rfl
    rw [← hf]
    rw [List.getD_eq_getElem?_getD, List.getElem?_eq_getElem (by rw [starts_length]; exact hl)] at e1
    rw [List.getD_eq_getElem?_getD, List.getElem?_eq_getElem (by rw [flip_length, starts_length]; exact hl)] at e2
    rw [List.getElem?_eq_getElem (by rw [starts_length]; exact hl), List.getElem?_eq_getElem (by rw [flip_length, starts_length]; exact hl)]
    simp only [Option.getD_some] at e1 e2
    rw [e1, e2, Bool.xor_assoc]
    congr 2
    by_cases h1 : j < k
    · simp [h1, show j < k + 1 by omega, show ¬ j = k by omega]
    · by_cases h2 : j = k
      · simp [h2]
      · simp [h1, h2, show ¬ j < k + 1 by omega]
  · rw [List.getElem?_eq_none (by rw [starts_length]; exact hl), List.getElem?_eq_none (by rw [List.length_set, starts_length]; exact hl)]
theorem ones_bit (j : Nat) : (4294967295 : Nat).testBit j = decide (j < 32) := by
  have h := Nat.testBit_two_pow_sub_one 32 j
  exact h
/-- What the rounds of the division leave, behind where they are. -/
theorem rounds_at (m : List Bool) : ∀ (k : Nat), k ≤ m.length → ∀ j,
    (rounds (starts (m ++ List.replicate 32 false) 32) k).getD (k + j) false = (((m.take k).foldl bstep 4294967295).testBit j ^^ (m ++ List.replicate 32 false).getD (k + j) false)
  | 0, _, j => by
    rw [rounds, starts_at _ _ _ (by simp), Nat.zero_add, List.take_zero, List.foldl_nil, ones_bit, Bool.xor_comm]
  | k + 1, hk, j => by
    have ih := rounds_at m k (by omega)
    have hl : (rounds (starts (m ++ List.replicate 32 false) 32) k).length = m.length + 32 := by rw [rounds_length, starts_length]; simp
    have h0 := ih 0
    have h1 := ih (j + 1)
    rw [Nat.add_zero] at h0
    rw [show k + (j + 1) = k + 1 + j by omega] at h1
    have hm : m.take (k + 1) = m.take k ++ [m.getD k false] := by
      rw [List.take_succ_eq_append_getElem (by omega)]
      simp [List.getD, List.getElem?_eq_getElem (show k < m.length by omega)]
    have hmk : (m ++ List.replicate 32 false).getD k false = m.getD k false := by
      rw [List.getD_eq_getElem?_getD, List.getElem?_append_left (by omega), ← List.getD_eq_getElem?_getD]
    rw [hmk] at h0
    rw [rounds, hm, List.foldl_append, List.foldl_cons, List.foldl_nil]
    generalize (m.take k).foldl bstep 4294967295 = S at *
    generalize rounds (starts (m ++ List.replicate 32 false) 32) k = L at *
    generalize m.getD k false = b at *
    have hb : ∀ i, (b.toNat).testBit (i + 1) = false := fun i => by cases b <;> simp [Nat.testBit_succ]
    have hb0 : (b.toNat).testBit 0 = b := by cases b <;> rfl
    unfold bstep round
    rw [step_bit, Nat.testBit_xor, Nat.testBit_xor, hb, hb0, ← h0, Bool.xor_false]
    by_cases hc : L.getD k false = true
    · rw [if_pos hc, flips_at _ _ _ (by omega), h1, hc, Bool.true_and]
      rw [Bool.xor_assoc, Bool.xor_assoc, Bool.xor_comm (poly.testBit j)]
    · have hc' : L.getD k false = false := by simpa using hc
      rw [if_neg hc, h1, hc', Bool.false_and, Bool.xor_false]
/-- The rest of the division, turned, is the checksum. -/
theorem rest_bit (l : List Int) (hl : ∀ x ∈ l, 0 ≤ x ∧ x < 256) (j : Nat) (hj : j < 32) :
    (!(rounds (starts (allBits l ++ List.replicate 32 false) 32) (allBits l).length).getD ((allBits l).length + j) false) = (sumL l).testBit j := by
  rw [rounds_at _ _ (Nat.le_refl _), List.take_length, ← crc_bits l _ hl]
  have e : (allBits l ++ List.replicate 32 false).getD ((allBits l).length + j) false = false := by
    rw [List.getD_eq_getElem?_getD, List.getElem?_append_right (by omega), List.getElem?_replicate]
    split <;> rfl
  rw [e, Bool.xor_false]
  unfold sumL
  rw [Nat.testBit_xor, ones_bit, decide_eq_true hj, Bool.true_xor]
theorem next_bit (T j : Nat) : T / 2 ^ j = T / 2 ^ (j + 1) * 2 + (T.testBit j).toNat := by
  have e : (T.testBit j).toNat = T / 2 ^ j % 2 := by
    rw [Nat.testBit_eq_decide_div_mod_eq]
    rcases (by omega : T / 2 ^ j % 2 = 0 ∨ T / 2 ^ j % 2 = 1) with h | h <;> simp [h]
  rw [e, Nat.pow_succ, ← Nat.div_div_eq_div_mul]
  omega
end Go.Proofs.YtnomicnmpllajaaGreatDoor
end

section
namespace Go.Proofs.YtnomicnmpllajaaGreatDoor
open Go Go.RowKit

/-- The number of bytes, the lowest one first. -/
def lowN : List Int → Nat
  | [] => 0
  | x :: l => x.toNat + 256 * lowN l
theorem lowN_snoc : ∀ (l : List Int) (x : Int), lowN (l ++ [x]) = lowN l + x.toNat * 256 ^ l.length
  | [], x => by simp [lowN]
  | y :: l, x => by
    rw [List.cons_append, lowN, lowN_snoc l x, lowN, List.length_cons, Nat.pow_succ, Nat.mul_add, ← Nat.add_assoc]
    congr 1
    rw [Nat.mul_comm 256, Nat.mul_assoc]
theorem lowN_lt : ∀ (l : List Int), (∀ x ∈ l, 0 ≤ x ∧ x < 256) → lowN l < 256 ^ l.length
  | [], _ => by simp [lowN]
  | x :: l, h => by
    have h1 := lowN_lt l fun y hy => h y (List.mem_cons_of_mem _ hy)
    have h2 := h x (List.mem_cons_self ..)
    rw [lowN, List.length_cons, Nat.pow_succ]
    omega
theorem or_byte (i acc : Nat) (x : Int) (hi : i < 4) (hacc : acc < 256 ^ i) (hx : 0 ≤ x ∧ x < 256) :
    bits .or .u32 (acc : Int) (x * 2 ^ (8 * i) % 4294967296) = ((acc + x.toNat * 256 ^ i : Nat) : Int) := by
  obtain ⟨k, rfl⟩ : ∃ k : Nat, x = (k : Int) := ⟨x.toNat, by omega⟩
  have hp : (2 : Int) ^ (8 * i) = ((256 ^ i : Nat) : Int) := by
    rw [Int.pow_mul, Int.natCast_pow]
    rfl
  have h8 : 256 ^ i ≤ 256 ^ 3 := Nat.pow_le_pow_right (by omega) (by omega)
  have h88 : (256 : Nat) ^ 3 = 16777216 := by decide
  have hm : k * 256 ^ i ≤ 255 * 256 ^ i := Nat.mul_le_mul_right _ (by omega)
  rw [hp, ← Int.natCast_mul, Int.emod_eq_of_lt (by omega) (by omega), Int.toNat_natCast]
  have hor : acc + k * 256 ^ i = acc ||| (k * 256 ^ i) := by
    have h256 : 256 ^ i = 2 ^ (8 * i) := by rw [Nat.pow_mul]
    rw [Nat.mul_comm k, h256, Nat.add_comm, Nat.or_comm]
    exact Nat.two_pow_add_eq_or_of_lt (by rw [← h256]; exact hacc) k
  rw [hor]
  exact u32_or_nat _ _ (by omega) (by omega)
set_option maxHeartbeats 400000 in
theorem low_any (A : Option Addr) (n c : Nat) (xs : List Int) (B : Nat) (w : World) (h : Rd w B .u8 A n c xs) (hb : ∀ x ∈ xs, 0 ≤ x ∧ x < 256) (hn : n ≤ 4) :
    Calls Tryz.prog 114 #[.slice A n c] w fun e w' => e = .returned (.int .u32 (lowN xs)) ∧ w = w' := by
  have HL := Lib.hid h.len
  have HB := Lib.hid hb
  clear hb
  go_enter Tryz.func114, Tryz.ntmps114
  go_wp2
  go_loop [3, 8] (fun a i => ∃ k : Nat, k ≤ n ∧ i = .int .i64 k ∧ a = .int .u32 (lowN (xs.take k))) (fun _ i => n - (intOf i).toNat)
  case atStart => exact ⟨0, Nat.zero_le _, rfl, rfl⟩
  case round =>
    obtain ⟨k, hk, rfl, rfl⟩ := hrel
    have hbk : ∀ x ∈ xs.take k, 0 ≤ x ∧ x < 256 := fun x hx => HB.out x (List.mem_of_mem_take hx)
    have hlt := lowN_lt _ hbk
    rw [List.length_take, HL.out, Nat.min_eq_left hk] at hlt
    by_cases hkn : k < n
    · obtain ⟨b, o, rfl, hbl, hcell⟩ := h.cell hkn
      have HS := Lib.hid (take_snoc xs k (by rw [HL.out]; exact hkn))
      have hx := HB.out (xs.getD k 0) (by
        rw [List.getD_eq_getElem?_getD, List.getElem?_eq_getElem (by rw [HL.out]; exact hkn)]
        exact List.getElem_mem _)
      have HO := Lib.hid (or_byte k (lowN (xs.take k)) (xs.getD k 0) (by omega) hlt hx)
      have HN := Lib.hid (lowN_snoc (xs.take k) (xs.getD k 0))
      clear hlt hbk
      generalize xs.getD k 0 = x at *
      generalize hacc : lowN (xs.take k) = acc at *
      have HA := Lib.hid hacc
      clear hacc
      go_wp2
      go_round
      case rel =>
        refine ⟨k + 1, by omega, by go_num, ?_⟩
        rw [HO.out, HS.out, HN.out, List.length_take, HL.out, Nat.min_eq_left hk]
      case measure => simp [intOf]; omega
    · go_wp2
      go_ret
      have hkn' : k = n := by omega
      subst hkn'
      rw [List.take_of_length_le (by rw [HL.out]; exact Nat.le_refl _)]
      exact ⟨rfl, rfl⟩
end Go.Proofs.YtnomicnmpllajaaGreatDoor
end

section
namespace Go.Proofs.YtnomicnmpllajaaGreatDoor
open Go Go.RowKit

/-- The lowest bytes of a number, the lowest one first. -/
def lowB : Nat → Nat → List Int
  | 0, _ => []
  | k + 1, n => ((n % 256 : Nat) : Int) :: lowB k (n / 256)
theorem lowB_length : ∀ k n, (lowB k n).length = k
  | 0, _ => rfl
  | k + 1, n => by rw [lowB, List.length_cons, lowB_length k]
theorem lowB_bytes : ∀ k n, ∀ x ∈ lowB k n, 0 ≤ x ∧ x < 256
  | 0, _, x, h => by cases h
  | k + 1, n, x, h => by
    rcases List.mem_cons.1 h with rfl | h
    · omega
    · exact lowB_bytes k (n / 256) x h
theorem lowN_lowB : ∀ k n, lowN (lowB k n) = n % 256 ^ k
  | 0, n => by simp [lowB, lowN, Nat.mod_one]
  | k + 1, n => by
    rw [lowB, lowN, lowN_lowB k, Int.toNat_natCast, Nat.pow_succ, Nat.mul_comm (256 ^ k), Nat.mod_mul]
theorem lowB_lowN : ∀ (l : List Int), (∀ x ∈ l, 0 ≤ x ∧ x < 256) → lowB l.length (lowN l) = l
  | [], _ => rfl
  | x :: l, h => by
    have h1 := h x (List.mem_cons_self ..)
    have h2 := lowB_lowN l fun y hy => h y (List.mem_cons_of_mem _ hy)
    rw [List.length_cons, lowB, lowN, show (x.toNat + 256 * lowN l) / 256 = lowN l by omega, h2, show (x.toNat + 256 * lowN l) % 256 = x.toNat by omega, Int.toNat_of_nonneg h1.1]
theorem lowN_inj {l m : List Int} (hl : ∀ x ∈ l, 0 ≤ x ∧ x < 256) (hm : ∀ x ∈ m, 0 ≤ x ∧ x < 256) (he : l.length = m.length) (h : lowN l = lowN m) : l = m := by
  rw [← lowB_lowN l hl, ← lowB_lowN m hm, he, h]

set_option maxHeartbeats 400000 in
theorem appendLow_any (base : Nat) (v : Value) (xs : List Int) (n m : Nat) (w : World) (hown : w.ownsRow base 5 1 v xs.length (xs.map (Value.int .u8))) (hbase : base ≤ w.heap.size)
    (hx : xs.length ≤ 10000000) (hn : n < 4294967296) (hm : m ≤ 4) :
    Calls Tryz.prog 62 #[v, .int .u32 n, .int .i64 m] w fun e w' =>
      ∃ v', e = .returned v' ∧ w'.ownsRow base 5 1 v' (xs ++ lowB m n).length ((xs ++ lowB m n).map (Value.int .u8)) ∧ Below base w w' := by
  obtain ⟨i0, hi, hz0, hz1, hz2⟩ := info_parts info_u8
  go_enter Tryz.func62, Tryz.ntmps62
  go_wp2
  go_loopw [0, 1, 8] (fun v' u i wr => ∃ (ys : List Int) (k r : Nat), i = .int .i64 k ∧ k ≤ m ∧ u = .int .u32 r ∧ r < 4294967296 ∧ ys.length ≤ xs.length + k ∧ Hid (ys ++ lowB (m - k) r = xs ++ lowB m n) ∧ wr.ownsRow base 5 1 v' ys.length (ys.map (Value.int .u8)) ∧ Below base w wr)
    (fun _ _ i _ => m - (intOf i).toNat)
  case atStart => exact ⟨xs, 0, n, rfl, Nat.zero_le _, rfl, hn, Nat.le_refl _, Lib.hid rfl, hown, Below.refl _ _⟩
  case round =>
    obtain ⟨ys, k, r, rfl, hk, rfl, hr, hy, HY, hown1, hb1⟩ := hrel
    by_cases hlt : k < m
    · have HE : Hid (lowB (m - k) r = ((r % 256 : Nat) : Int) :: lowB (m - (k + 1)) (r / 256)) := by
        rw [show m - k = (m - (k + 1)) + 1 by omega]; exact Lib.hid rfl
      have hu : ((r % 256 : Nat) : Int) = (r : Int) % 256 := by omega
      have HU := Lib.hid hu
      clear hu hown
      go_wp2_with (at_builtin
                   refine wpList_append_src rfl _ _ 33 rfl base 5 i0 _ 1 1 Tryz.underlying33 hi hz0 hz1 hz2 rfl (by omega) _ ys.length (ys.map (Value.int .u8)) rfl (hown1.alloc _)
                     (some ⟨wr.heap.size, 0, none⟩) 1 1 [.int .u8 ((r : Int) % 256)] rfl rfl (fun h => by cases h) (news_new _ _ _) (one_cell _ _) (by unfold maxLen; omega) (by omega) (by have := hb1.size; simp; omega) ?_
                   intro v2 w2 hown2 hg2)
      have hb2 : Below base w w2 := (hb1.alloc (by have := hb1.size; omega) _).grown hg2 (by have := hb1.size; simp; omega) (fun k hk => (hown1.lt k hk).1)
      go_roundw
      case rel =>
        refine ⟨ys ++ [((r % 256 : Nat) : Int)], k + 1, r / 256, by go_num, by omega, by go_num, by omega, by rw [List.length_append]; simp; omega, Lib.hid ?_, ?_, hb2⟩
        · rw [← HY.out, HE.out, List.append_assoc]; rfl
        · rw [HU.out]; simpa using hown2
      case measure => simp [intOf]; omega
    · go_wp2
      go_ret
      have e : ys = xs ++ lowB m n := by
        rw [← HY.out, show m - k = 0 by omega]; simp [lowB]
      rw [← e]
      exact ⟨_, rfl, hown1, hb1⟩
end Go.Proofs.YtnomicnmpllajaaGreatDoor
end

section
namespace Go.Proofs.YtnomicnmpllajaaGreatDoor
open Go Go.RowKit

/-- The table as far as it is made. -/
def tab (i : Nat) : Array Value := ((List.range 16).map fun j => Value.int .u32 ((if j < i then four j else 0 : Nat) : Int)).toArray
theorem tab_size (i : Nat) : (tab i).size = 16 := by unfold tab; simp
theorem tab_get (i j : Nat) (h : j < 16) : (tab i)[j]? = some (Value.int .u32 ((if j < i then four j else 0 : Nat) : Int)) := by
  unfold tab
  simp [h]
theorem tab_one (i : Nat) : (tab i).all (·.oneCell') = true := by
  rw [Array.all_eq_true_iff_forall_mem]
  intro v hv
  unfold tab at hv
  simp only [List.mem_toArray, List.mem_map] at hv
  obtain ⟨j, _, rfl⟩ := hv
  rfl
theorem tab_set (i : Nat) (h : i < 16) : (tab i).setIfInBounds i (Value.int .u32 (four i : Nat)) = tab (i + 1) := by
  apply Array.ext_getElem?
  intro j
  rw [Array.getElem?_setIfInBounds]
  by_cases hj : j < 16
  · rw [tab_get _ _ hj, tab_get _ _ hj, tab_size]
    by_cases e : i = j
    · subst e; simp [h]
    · rw [if_neg e]
      congr 3
      by_cases h1 : j < i
      · rw [if_pos h1, if_pos (by omega)]
      · rw [if_neg h1, if_neg (by omega)]
  · have e : i ≠ j := by omega
    rw [if_neg e, Array.getElem?_eq_none (by rw [tab_size]; omega), Array.getElem?_eq_none (by rw [tab_size]; omega)]
theorem stepN_succ : ∀ k s, stepN (k + 1) s = step (stepN k s)
  | 0, _ => rfl
  | k + 1, s => by rw [stepN, stepN_succ k, ← stepN]
theorem stepN_lt : ∀ (k : Nat) {s : Nat}, s < 2 ^ 32 → stepN k s < 2 ^ 32
  | 0, _, h => h
  | k + 1, _, h => stepN_lt k (step_lt h)
theorem xor_step (s : Nat) (h : s < 4294967296) : bits .xor .u32 ((s : Int) / 2) ((s : Int) % 2 * 3988292384) = ((step s : Nat) : Int) := by
  have e1 : (s : Int) / 2 = ((s / 2 : Nat) : Int) := by omega
  have e2 : (s : Int) % 2 * 3988292384 = ((s % 2 * poly : Nat) : Int) := by unfold poly; omega
  rw [e1, e2]
  exact u32_xor_nat _ _ (by omega) (by unfold poly; omega)

theorem below_setRow {B : Nat} {w w1 : World} (h : Below B w w1) {g : Nat} (hg : B ≤ g) (cs : Array Value) : Below B w (w1.setRow g cs) :=
  ⟨h.os, h.tape, h.output, by rw [size_setRow]; exact h.size, fun k hk => (setRow_other w1 g k cs (by omega)).trans (h.block k hk)⟩
theorem tab_zero : #[Value.int .u32 0, Value.int .u32 0, Value.int .u32 0, Value.int .u32 0, Value.int .u32 0, Value.int .u32 0, Value.int .u32 0, Value.int .u32 0, Value.int .u32 0, Value.int .u32 0, Value.int .u32 0, Value.int .u32 0, Value.int .u32 0, Value.int .u32 0, Value.int .u32 0, Value.int .u32 0] = tab 0 := by kernel_rfl
theorem info_tab : (Tryz.prog.info? 147).map (·.size) = some 16 := by kernel_rfl

set_option maxHeartbeats 400000 in
set_option maxRecDepth 100000 in
theorem effects_any (w : World) :
    Calls Tryz.prog 91 #[] w fun e w' => e = .returned (.agg (tab 16)) ∧ Below w.heap.size w w' := by
  go_enter Tryz.func91, Tryz.ntmps91
  go_wp2
  rw [tab_zero]
  go_loopw [4] (fun i wr => ∃ k : Nat, k ≤ 16 ∧ i = .int .i64 k ∧ wr = (w.alloc (.cells (tab 0) 147)).alloc (.cells (tab k) 147))
    (fun i _ => 16 - (intOf i).toNat)
  case atStart => exact ⟨0, by omega, rfl, rfl⟩
  case round =>
    obtain ⟨k, hk, rfl, rfl⟩ := hrel
    by_cases hlt : k < 16
    · go_wp2
      have hcv : IntKind.u32.wrap (k : Int) = (k : Int) := IntWalk.u32_in _ (by omega)
      go_loop [3, 9] (fun e j => ∃ q : Nat, q ≤ 4 ∧ j = .int .i64 q ∧ e = .int .u32 (stepN q k)) (fun _ j => 4 - (intOf j).toNat)
      case atStart => exact ⟨0, by omega, rfl, rfl⟩
      case round =>
        obtain ⟨q, hq, rfl, rfl⟩ := hrel
        have hs := stepN_lt q (s := k) (by omega)
        have HN := Lib.hid (stepN_succ q k)
        by_cases hql : q < 4
        · generalize stepN q k = s at *
          have HX := Lib.hid (xor_step s (by omega))
          go_wp2
          go_round
          case rel => exact ⟨q + 1, by omega, by go_num, by rw [HX.out, HN.out]⟩
          case measure => simp [intOf]; omega
        · have hq4 : q = 4 := by omega
          subst hq4
          have h4 : stepN 4 k = four k := rfl
          rw [h4] at hs
          rw [h4]
          clear h4 HN
          have HT := Lib.hid (tab_set k hlt)
          have hTk := tab_get k k hlt
          rw [if_neg (Nat.lt_irrefl k)] at hTk
          generalize tab k = T at *
          generalize four k = v at *
          go_wp2
          rw [HT.out]
          go_roundw
          case rel => exact ⟨k + 1, by omega, by go_num, rfl⟩
          case measure => simp [intOf]; omega
    · have hk16 : k = 16 := by omega
      subst hk16
      have h1 := heap_alloc2_old w (.cells (tab 0) 147) (.cells (tab 16) 147)
      have h2 := heap_alloc2_new w (.cells (tab 0) 147) (.cells (tab 16) 147)
      have hone := tab_one 16
      have hs0 := tab_size 0
      have hs1 := tab_size 16
      have hb : Below w.heap.size w ((w.alloc (.cells (tab 0) 147)).alloc (.cells (tab 16) 147)) := ((Below.refl _ _).alloc (Nat.le_refl _) _).alloc (by simp) _
      generalize (w.alloc (.cells (tab 0) 147)).alloc (.cells (tab 16) 147) = W at *
      have H0 := Lib.hid hs0
      have H1 := Lib.hid hs1
      clear hs0 hs1
      go_wp2_with (first
        | (refine wpList_load_row (o := ⟨some 22, .load 147 (.tmp 1), _, _, _, _⟩) rfl 147 (.tmp 1) rfl (w.heap.size + 1) rfl 147 (tab 16) (0, 0) _ h2 Tryz.underlying147 rfl (by rw [H1.out]; exact info_tab) ?_)
        | (refine wpList_store_row (o := ⟨none, .store 147 (.tmp 0) (.tmp 22), _, _, _, _⟩) rfl 147 (.tmp 0) (.tmp 22) rfl w.heap.size (tab 16) rfl rfl 147 (tab 0) h1 (by rw [H1.out]; exact info_tab) (by rw [H0.out, H1.out]) hone ?_))
      refine bodyPost_ret (v := .agg (tab 16)) ?_ rfl ⟨rfl, ?_⟩
      · exact results_cell_row rfl _ _ w.heap.size 147 (tab 16) (0, 0) _ rfl (setRow_heap W _ _ _ _ _ h1) Tryz.underlying147 rfl (by rw [H1.out]; exact info_tab)
      · exact below_setRow hb (Nat.le_refl _) _
end Go.Proofs.YtnomicnmpllajaaGreatDoor
end
