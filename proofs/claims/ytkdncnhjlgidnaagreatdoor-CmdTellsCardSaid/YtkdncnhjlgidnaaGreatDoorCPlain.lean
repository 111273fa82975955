/- What is proved here: plain lemmas on what a reader reads, in order: what was read is written as the bytes that were read; of bytes that end sooner the same is read, or the error is 'end'. No program is named. -/
import Derived.Test.YtkdncnhjlgidnaaGreatDoorBackMath
namespace Go.Proofs.YtkdncnhjlgidnaaGreatDoor
open Go Go.RowKit

theorem numF_back : ∀ (f i acc : Nat) (l : List Int) (v u : Nat), (∀ x ∈ l, 0 ≤ x ∧ x < 256) → numF f i acc l = (v, u, 0) →
    ∃ (d : Nat) (r : List Int), l = enc d ++ r ∧ u = i + (enc d).length ∧ v = acc + d * 128 ^ i ∧ (0 < i → 0 < d)
  | 0, i, acc, l, v, u, _, h => by simp [numF] at h
  | f + 1, i, acc, [], v, u, _, h => by simp [numF] at h
  | f + 1, i, acc, x :: r, v, u, hb, h => by
    have hx := hb x (List.mem_cons_self ..)
    by_cases h1 : 128 ≤ x
    · rw [numF_on _ _ _ _ _ h1] at h
      obtain ⟨d, r', hr, hu, hv, hd⟩ := numF_back f (i + 1) _ r v u (fun y hy => hb y (List.mem_cons_of_mem _ hy)) h
      have hd := hd (by omega)
      refine ⟨x.toNat % 128 + d * 128, r', ?_, ?_, ?_, fun _ => by omega⟩
      · rw [enc_big (by omega), show (x.toNat % 128 + d * 128) / 128 = d by omega, hr, List.cons_append]
        congr 1
        omega
      · rw [enc_big (by omega), show (x.toNat % 128 + d * 128) / 128 = d by omega, List.length_cons]
        omega
      · rw [hv, Nat.pow_succ, Nat.add_mul, Nat.mul_comm (128 ^ i) 128, ← Nat.mul_assoc]
        omega
    · by_cases hz : x = 0 ∧ 0 < i
      · obtain ⟨rfl, h0⟩ := hz
        rw [numF_zero _ _ _ _ h0] at h
        simp at h
      · rw [numF_last _ _ _ _ _ h1 hz] at h
        simp only [Prod.mk.injEq, and_true] at h
        refine ⟨x.toNat, r, ?_, ?_, ?_, fun h0 => by omega⟩
        · rw [enc_small (by omega), List.singleton_append, Int.toNat_of_nonneg hx.1]
        · rw [enc_small (by omega), ← h.2]; rfl
        · rw [← h.1, Nat.mod_eq_of_lt (by omega)]

theorem numF_cut : ∀ (f i acc : Nat) (l : List Int) (m : Nat), numF f i acc (l.take m) = numF f i acc l ∨ numF f i acc (l.take m) = (0, 0, 3)
  | 0, i, acc, l, m => .inl rfl
  | f + 1, i, acc, [], m => .inl (by rw [List.take_nil])
  | f + 1, i, acc, x :: r, 0 => .inr rfl
  | f + 1, i, acc, x :: r, m + 1 => by
    rw [List.take_succ_cons]
    by_cases h1 : 128 ≤ x
    · rw [numF_on _ _ _ _ _ h1, numF_on _ _ _ _ _ h1]
      exact numF_cut f (i + 1) _ r m
    · by_cases hz : x = 0 ∧ 0 < i
      · obtain ⟨rfl, h0⟩ := hz
        rw [numF_zero _ _ _ _ h0, numF_zero _ _ _ _ h0]
        exact .inl rfl
      · rw [numF_last _ _ _ _ _ h1 hz, numF_last _ _ _ _ _ h1 hz]
        exact .inl rfl

theorem goNum_stop {xs : List Int} {p why : Nat} (h : why ≠ 0) : goNum xs p why = (0, p, why) := by
  unfold goNum; rw [if_neg h]
theorem goText_stop {xs : List Int} {p why : Nat} {most : Int} (h : why ≠ 0) : goText xs p why most = ([], p, why) := by
  unfold goText; rw [if_neg h]
theorem goNums_stop {xs : List Int} {p why : Nat} {most : Int} (h : why ≠ 0) : goNums xs p why most = ([], p, why) := by
  unfold goNums; rw [if_neg h]

/-- The bytes ahead of a place. -/
def At (xs : List Int) (p : Nat) (a : List Int) : Prop := p ≤ xs.length ∧ xs.take p = a
theorem At.len {xs a : List Int} {p : Nat} (h : At xs p a) : a.length = p := by rw [← h.2, List.length_take]; have := h.1; omega
theorem At.zero (xs : List Int) : At xs 0 [] := ⟨Nat.zero_le _, by simp⟩
theorem At.drop {xs a l r : List Int} {p : Nat} (h : At xs p a) (hd : xs.drop p = l ++ r) : At xs (p + l.length) (a ++ l) := by
  have hl : l.length + r.length = xs.length - p := by rw [← List.length_drop, hd, List.length_append]
  refine ⟨by have := h.1; omega, ?_⟩
  rw [List.take_add, h.2, hd, List.take_left']
  rfl

/-- What was read as a number is written as the bytes that were read. -/
theorem goNum_back {xs a : List Int} {p : Nat} (hb : ∀ x ∈ xs, 0 ≤ x ∧ x < 256) (h : At xs p a) {v p' : Nat} (hN : goNum xs p 0 = (v, p', 0)) : At xs p' (a ++ enc v) ∧ v < 9223372036854775808 := by
  unfold goNum at hN
  rw [if_pos rfl] at hN
  rcases numF_is 9 0 0 (xs.drop p) (by simp) (by omega) with ⟨v', u, e, hv, hu0, hul⟩ | ⟨er, e, he⟩
  · rw [e, if_pos rfl] at hN
    simp only [Prod.mk.injEq, and_true] at hN
    obtain ⟨rfl, rfl⟩ := hN
    obtain ⟨d, r, hr, hu, hv2, _⟩ := numF_back 9 0 0 _ _ _ (fun x hx => hb x (List.mem_of_mem_drop hx)) e
    obtain rfl : v' = d := by simpa using hv2
    refine ⟨?_, hv⟩
    have := h.drop hr
    rw [Nat.zero_add] at hu
    rw [hu]
    exact this
  · rw [e, if_neg (by show ¬ er = 0; omega)] at hN
    simp only [Prod.mk.injEq] at hN
    omega
theorem goNum_cases (xs : List Int) (p : Nat) : (∃ v p', goNum xs p 0 = (v, p', 0)) ∨ goNum xs p 0 = (0, p, 2) ∨ goNum xs p 0 = (0, p, 3) := by
  unfold goNum
  rw [if_pos rfl]
  rcases numF_is 9 0 0 (xs.drop p) (by simp) (by omega) with ⟨v', u, e, hv, hu0, hul⟩ | ⟨er, e, he⟩
  · rw [e, if_pos rfl]; exact .inl ⟨_, _, rfl⟩
  · rw [e, if_neg (by show ¬ er = 0; omega)]
    rcases he with rfl | rfl
    · exact .inr (.inl rfl)
    · exact .inr (.inr rfl)
theorem goNum_write {xs a r : List Int} {v p : Nat} (hx : xs = a ++ (enc v ++ r)) (hp : p = a.length) (hv : v ≤ 9223372036854775807) : goNum xs p 0 = (v, (a ++ enc v).length, 0) := by
  subst hx hp
  unfold goNum
  rw [List.drop_left, numF_enc9 v r hv, if_pos rfl, if_pos rfl, List.length_append]
theorem goNum_cut (xs : List Int) (m p : Nat) : goNum (xs.take m) p 0 = goNum xs p 0 ∨ goNum (xs.take m) p 0 = (0, p, 3) := by
  unfold goNum
  rw [if_pos rfl, if_pos rfl, List.drop_take]
  rcases numF_cut 9 0 0 (xs.drop p) (m - p) with e | e
  · rw [e]; exact .inl rfl
  · rw [e]; exact .inr rfl

/-- A text's bytes, behind how many there are. -/
def encT (s : List Int) : List Int := enc s.length ++ s
theorem goText_back {xs a : List Int} {p : Nat} {most : Int} (hb : ∀ x ∈ xs, 0 ≤ x ∧ x < 256) (h : At xs p a) {s : List Int} {p' : Nat} (hT : goText xs p 0 most = (s, p', 0)) :
    At xs p' (a ++ encT s) ∧ (∀ x ∈ s, 0 ≤ x ∧ x < 256) ∧ (s.length : Int) ≤ most := by
  unfold goText at hT
  rw [if_pos rfl] at hT
  unfold textR at hT
  rcases numF_is 9 0 0 (xs.drop p) (by simp) (by omega) with ⟨v', u, e, hv, hu0, hul⟩ | ⟨er, e, he⟩
  · rw [e] at hT
    simp only [if_true] at hT
    by_cases hm : most < (v' : Int)
    · simp [if_pos hm] at hT
    · simp only [if_neg hm] at hT
      by_cases hl : xs.length - (p + u) < v'
      · simp [if_pos hl] at hT
      · simp only [if_neg hl, if_true, Prod.mk.injEq, and_true] at hT
        obtain ⟨hs, hp'⟩ := hT
        obtain ⟨d, r, hr, hu, hv2, _⟩ := numF_back 9 0 0 _ _ _ (fun x hx => hb x (List.mem_of_mem_drop hx)) e
        obtain rfl : v' = d := by simpa using hv2
        rw [Nat.zero_add] at hu
        have hsl : s.length = v' := by rw [← hs, List.length_take, List.length_drop]; omega
        have hd : xs.drop (p + u) = s ++ r.drop v' := by
          have h1 : xs.drop (p + u) = r := by rw [← List.drop_drop, hr, hu, List.drop_left]
          rw [h1] at hs ⊢
          rw [← hs, List.take_append_drop]
        refine ⟨?_, fun x hx => hb x ?_, by rw [hsl]; omega⟩
        · have h2 := h.drop hr
          rw [← hu] at h2
          have h3 := h2.drop hd
          unfold encT
          rw [hsl, ← List.append_assoc]
          rw [hsl, Nat.add_assoc, hp'] at h3
          exact h3
        · rw [← hs] at hx
          exact List.mem_of_mem_drop (List.mem_of_mem_take hx)
  · rw [e] at hT
    simp only [if_neg (show ¬ er = 0 by omega)] at hT
    simp only [Prod.mk.injEq] at hT
    omega
theorem goText_cases (xs : List Int) (p : Nat) (most : Int) (hp : p ≤ xs.length) : (∃ s p', goText xs p 0 most = (s, p', 0)) ∨ goText xs p 0 most = ([], p, 2) ∨ goText xs p 0 most = ([], p, 3) := by
  unfold goText
  rw [if_pos rfl]
  rcases textR_is xs p most hp with ⟨bs, us, e, _, _⟩ | ⟨er, e, he⟩
  · rw [e, if_pos rfl]; exact .inl ⟨_, _, rfl⟩
  · rw [e, if_neg (by show ¬ er = 0; omega)]
    rcases he with rfl | rfl
    · exact .inr (.inl rfl)
    · exact .inr (.inr rfl)
theorem goText_write {xs a r s : List Int} {p : Nat} {most : Int} (hx : xs = a ++ (encT s ++ r)) (hp : p = a.length) (hv : s.length ≤ 9223372036854775807) (hm : (s.length : Int) ≤ most) : goText xs p 0 most = (s, (a ++ encT s).length, 0) := by
  subst hx hp
  have hd : (a ++ (encT s ++ r)).drop a.length = enc s.length ++ (s ++ r) := by rw [List.drop_left, encT, List.append_assoc]
  have hd2 : (a ++ (encT s ++ r)).drop (a.length + (enc s.length).length) = s ++ r := by rw [← List.drop_drop, hd, List.drop_left]
  have ht : textR (a ++ (encT s ++ r)) a.length most = (s, (enc s.length).length + s.length, 0) := by
    unfold textR
    rw [hd, numF_enc9 s.length _ hv]
    simp only [if_true]
    rw [if_neg (by omega), if_neg]
    · rw [hd2, List.take_left' rfl]
    · simp only [List.length_append, encT]
      omega
  unfold goText
  rw [ht, if_pos rfl, if_pos rfl]
  simp [encT]
theorem textR_cut (xs : List Int) (m p : Nat) (most : Int) : textR (xs.take m) p most = textR xs p most ∨ textR (xs.take m) p most = ([], 0, 3) := by
  unfold textR
  rw [List.drop_take]
  rcases numF_cut 9 0 0 (xs.drop p) (m - p) with e | e
  · rw [e]
    generalize numF 9 0 0 (xs.drop p) = N
    obtain ⟨v, u, er⟩ := N
    dsimp only
    by_cases h0 : er = 0
    · rw [if_pos h0, if_pos h0]
      by_cases hm : most < (v : Int)
      · rw [if_pos hm, if_pos hm]; exact .inl rfl
      · rw [if_neg hm, if_neg hm]
        by_cases hl2 : (xs.take m).length - (p + u) < v
        · rw [if_pos hl2]; exact .inr rfl
        · have hl : ¬ xs.length - (p + u) < v := by rw [List.length_take] at hl2; omega
          rw [if_neg hl2, if_neg hl]
          left
          rw [List.length_take] at hl2
          rw [List.drop_take, List.take_take, show min v (m - (p + u)) = v by omega]
    · rw [if_neg h0, if_neg h0]; exact .inl rfl
  · rw [e, if_neg (by decide)]; exact .inr rfl
theorem goText_cut (xs : List Int) (m p : Nat) (most : Int) : goText (xs.take m) p 0 most = goText xs p 0 most ∨ goText (xs.take m) p 0 most = ([], p, 3) := by
  unfold goText
  rw [if_pos rfl, if_pos rfl]
  rcases textR_cut xs m p most with e | e
  · rw [e]; exact .inl rfl
  · rw [e]; exact .inr rfl

/-- So many numbers, one behind the other: what they are, the place, and why not. -/
def rdN (xs : List Int) (p why : Nat) : Nat → List Nat × Nat × Nat
  | 0 => ([], p, why)
  | k + 1 => ((rdN xs p why k).1 ++ [(goNum xs (rdN xs p why k).2.1 (rdN xs p why k).2.2).1], (goNum xs (rdN xs p why k).2.1 (rdN xs p why k).2.2).2)
/-- So many texts. -/
def rdT (xs : List Int) (p why : Nat) : Nat → List (List Int) × Nat × Nat
  | 0 => ([], p, why)
  | k + 1 => ((rdT xs p why k).1 ++ [(goText xs (rdT xs p why k).2.1 (rdT xs p why k).2.2 256).1], (goText xs (rdT xs p why k).2.1 (rdT xs p why k).2.2 256).2)
theorem rdN_len (xs : List Int) (p why : Nat) : ∀ k, (rdN xs p why k).1.length = k
  | 0 => rfl
  | k + 1 => by rw [rdN, List.length_append, rdN_len xs p why k]; rfl
theorem rdT_len (xs : List Int) (p why : Nat) : ∀ k, (rdT xs p why k).1.length = k
  | 0 => rfl
  | k + 1 => by rw [rdT, List.length_append, rdT_len xs p why k]; rfl
/-- The digits of many numbers, and texts. -/
def encN (l : List Nat) : List Int := l.flatMap enc
def encTs (l : List (List Int)) : List Int := l.flatMap encT
theorem encN_snoc (l : List Nat) (x : Nat) : encN (l ++ [x]) = encN l ++ enc x := by simp [encN]
theorem encTs_snoc (l : List (List Int)) (x : List Int) : encTs (l ++ [x]) = encTs l ++ encT x := by simp [encTs]

/-- Three states of a reader: it goes on, or it stopped by 2, or by 3. -/
def Ok3 (why : Nat) : Prop := why = 0 ∨ why = 2 ∨ why = 3
theorem goNum_ok3 {xs : List Int} {p why : Nat} (h : Ok3 why) : Ok3 (goNum xs p why).2.2 := by
  rcases h with rfl | h
  · rcases goNum_cases xs p with ⟨v, p', e⟩ | e | e
    · rw [e]; exact .inl rfl
    · rw [e]; exact .inr (.inl rfl)
    · rw [e]; exact .inr (.inr rfl)
  · rw [goNum_stop (by omega)]; exact .inr h
theorem goNum_le {xs : List Int} {p why : Nat} (hp : p ≤ xs.length) : (goNum xs p why).2.1 ≤ xs.length := by
  by_cases h : why = 0
  · exact (goNum_is xs p why hp (.inl h)).1
  · rw [goNum_stop h]; exact hp
theorem goText_ok3 {xs : List Int} {p why : Nat} {most : Int} (hp : p ≤ xs.length) (h : Ok3 why) : Ok3 (goText xs p why most).2.2 ∧ (goText xs p why most).2.1 ≤ xs.length := by
  rcases h with rfl | h
  · unfold goText
    rw [if_pos rfl]
    rcases textR_is xs p most hp with ⟨bs, us, e, _, hu⟩ | ⟨er, e, he⟩
    · rw [e, if_pos rfl]; exact ⟨.inl rfl, hu⟩
    · rw [e, if_neg (by show ¬ er = 0; omega)]; exact ⟨.inr he, hp⟩
  · rw [goText_stop (by omega)]; exact ⟨.inr h, hp⟩
theorem rdN_ok {xs : List Int} {p why : Nat} (hp : p ≤ xs.length) (h : Ok3 why) : ∀ k, (rdN xs p why k).2.1 ≤ xs.length ∧ Ok3 (rdN xs p why k).2.2
  | 0 => ⟨hp, h⟩
  | k + 1 => ⟨goNum_le (rdN_ok hp h k).1, goNum_ok3 (rdN_ok hp h k).2⟩
theorem rdT_ok {xs : List Int} {p why : Nat} (hp : p ≤ xs.length) (h : Ok3 why) : ∀ k, (rdT xs p why k).2.1 ≤ xs.length ∧ Ok3 (rdT xs p why k).2.2
  | 0 => ⟨hp, h⟩
  | k + 1 => ⟨(goText_ok3 (rdT_ok hp h k).1 (rdT_ok hp h k).2).2, (goText_ok3 (rdT_ok hp h k).1 (rdT_ok hp h k).2).1⟩

theorem rdN_back {xs a : List Int} {p : Nat} (hb : ∀ x ∈ xs, 0 ≤ x ∧ x < 256) (h : At xs p a) (why : Nat) : ∀ k, (rdN xs p why k).2.2 = 0 →
    why = 0 ∧ At xs (rdN xs p why k).2.1 (a ++ encN (rdN xs p why k).1) ∧ ∀ v ∈ (rdN xs p why k).1, v < 9223372036854775808
  | 0, h0 => ⟨h0, by simpa [rdN, encN] using h, by simp [rdN]⟩
  | k + 1, h0 => by
    by_cases hk : (rdN xs p why k).2.2 = 0
    · obtain ⟨hw, h1, h2⟩ := rdN_back hb h why k hk
      simp only [rdN] at h0 ⊢
      rw [hk] at h0 ⊢
      rcases goNum_cases xs (rdN xs p why k).2.1 with ⟨v, p', e⟩ | e | e
      · have h3 := goNum_back hb h1 e
        rw [e, encN_snoc]
        refine ⟨hw, by rw [← List.append_assoc]; exact h3.1, fun x hx => ?_⟩
        rcases List.mem_append.1 hx with hx | hx
        · exact h2 x hx
        · rw [List.mem_singleton.1 hx]; exact h3.2
      · rw [e] at h0; simp at h0
      · rw [e] at h0; simp at h0
    · simp only [rdN] at h0
      rw [goNum_stop hk] at h0
      exact absurd h0 hk
theorem rdT_back {xs a : List Int} {p : Nat} (hb : ∀ x ∈ xs, 0 ≤ x ∧ x < 256) (h : At xs p a) (why : Nat) : ∀ k, (rdT xs p why k).2.2 = 0 →
    why = 0 ∧ At xs (rdT xs p why k).2.1 (a ++ encTs (rdT xs p why k).1) ∧ ∀ s ∈ (rdT xs p why k).1, (∀ x ∈ s, 0 ≤ x ∧ x < 256) ∧ s.length ≤ 256
  | 0, h0 => ⟨h0, by simpa [rdT, encTs] using h, by simp [rdT]⟩
  | k + 1, h0 => by
    by_cases hk : (rdT xs p why k).2.2 = 0
    · obtain ⟨hw, h1, h2⟩ := rdT_back hb h why k hk
      simp only [rdT] at h0 ⊢
      rw [hk] at h0 ⊢
      rcases goText_cases xs (rdT xs p why k).2.1 256 h1.1 with ⟨v, p', e⟩ | e | e
      · have h3 := goText_back hb h1 e
        rw [e, encTs_snoc]
        refine ⟨hw, by rw [← List.append_assoc]; exact h3.1, fun x hx => ?_⟩
        rcases List.mem_append.1 hx with hx | hx
        · exact h2 x hx
        · rw [List.mem_singleton.1 hx]; exact ⟨h3.2.1, by have := h3.2.2; dsimp only; omega⟩
      · rw [e] at h0; simp at h0
      · rw [e] at h0; simp at h0
    · simp only [rdT] at h0
      rw [goText_stop hk] at h0
      exact absurd h0 hk

theorem rdN_write {xs a r : List Int} {p : Nat} (vs : List Nat) (hx : xs = a ++ (encN vs ++ r)) (hp : p = a.length) (hv : ∀ v ∈ vs, v ≤ 9223372036854775807) : ∀ k, k ≤ vs.length → rdN xs p 0 k = (vs.take k, (a ++ encN (vs.take k)).length, 0)
  | 0, _ => by simp [rdN, encN, hp]
  | k + 1, hk => by
    have ih := rdN_write vs hx hp hv k (by omega)
    have e1 : vs.take (k + 1) = vs.take k ++ [vs[k]] := List.take_succ_eq_append_getElem (by omega)
    have e2 : vs.drop k = vs[k] :: vs.drop (k + 1) := List.drop_eq_getElem_cons (by omega)
    have hx2 : xs = (a ++ encN (vs.take k)) ++ (enc vs[k] ++ (encN (vs.drop (k + 1)) ++ r)) := by
      have e3 : encN vs = encN (vs.take k) ++ (enc vs[k] ++ encN (vs.drop (k + 1))) := by
        conv => lhs; rw [← List.take_append_drop k vs, e2]
        unfold encN
        rw [List.flatMap_append, List.flatMap_cons]
      rw [hx, e3]
      simp only [List.append_assoc]
    simp only [rdN]
    rw [ih]
    simp only
    rw [goNum_write hx2 rfl (hv _ (List.getElem_mem _)), e1, encN_snoc, List.append_assoc]
theorem rdT_write {xs a r : List Int} {p : Nat} (vs : List (List Int)) (hx : xs = a ++ (encTs vs ++ r)) (hp : p = a.length) (hv : ∀ v ∈ vs, v.length ≤ 256) : ∀ k, k ≤ vs.length → rdT xs p 0 k = (vs.take k, (a ++ encTs (vs.take k)).length, 0)
  | 0, _ => by simp [rdT, encTs, hp]
  | k + 1, hk => by
    have ih := rdT_write vs hx hp hv k (by omega)
    have e1 : vs.take (k + 1) = vs.take k ++ [vs[k]] := List.take_succ_eq_append_getElem (by omega)
    have e2 : vs.drop k = vs[k] :: vs.drop (k + 1) := List.drop_eq_getElem_cons (by omega)
    have hx2 : xs = (a ++ encTs (vs.take k)) ++ (encT vs[k] ++ (encTs (vs.drop (k + 1)) ++ r)) := by
      have e3 : encTs vs = encTs (vs.take k) ++ (encT vs[k] ++ encTs (vs.drop (k + 1))) := by
        conv => lhs; rw [← List.take_append_drop k vs, e2]
        unfold encTs
        rw [List.flatMap_append, List.flatMap_cons]
      rw [hx, e3]
      simp only [List.append_assoc]
    have hl := hv vs[k] (List.getElem_mem _)
    simp only [rdT]
    rw [ih]
    simp only
    rw [goText_write hx2 rfl (by omega) (by omega), e1, encTs_snoc, List.append_assoc]

/-- Of bytes that end sooner the same is read, or the error is 'end'. -/
theorem rdN_cut (xs : List Int) (m p p2 why why2 : Nat) (h : (p2, why2) = (p, why) ∨ why2 = 3) : ∀ k, rdN (xs.take m) p2 why2 k = rdN xs p why k ∨ (rdN (xs.take m) p2 why2 k).2.2 = 3
  | 0 => by
    rcases h with h | h
    · left; simp only [Prod.mk.injEq] at h; simp [rdN, h.1, h.2]
    · exact .inr h
  | k + 1 => by
    simp only [rdN]
    rcases rdN_cut xs m p p2 why why2 h k with e | e
    · rw [e]
      by_cases h0 : (rdN xs p why k).2.2 = 0
      · rw [h0]
        rcases goNum_cut xs m (rdN xs p why k).2.1 with e | e
        · rw [e]; exact .inl rfl
        · rw [e]; exact .inr rfl
      · rw [goNum_stop h0, goNum_stop h0]; exact .inl rfl
    · right; rw [e, goNum_stop (by omega)]
theorem rdT_cut (xs : List Int) (m p p2 why why2 : Nat) (h : (p2, why2) = (p, why) ∨ why2 = 3) : ∀ k, rdT (xs.take m) p2 why2 k = rdT xs p why k ∨ (rdT (xs.take m) p2 why2 k).2.2 = 3
  | 0 => by
    rcases h with h | h
    · left; simp only [Prod.mk.injEq] at h; simp [rdT, h.1, h.2]
    · exact .inr h
  | k + 1 => by
    simp only [rdT]
    rcases rdT_cut xs m p p2 why why2 h k with e | e
    · rw [e]
      by_cases h0 : (rdT xs p why k).2.2 = 0
      · rw [h0]
        rcases goText_cut xs m (rdT xs p why k).2.1 256 with e | e
        · rw [e]; exact .inl rfl
        · rw [e]; exact .inr rfl
      · rw [goText_stop h0, goText_stop h0]; exact .inl rfl
    · right; rw [e, goText_stop (by omega)]

/-- What is read of a command's bytes: its eleven numbers, its six texts, how many bodies there are said to be, these bodies, the place, and why not. -/
structure Raw where
  ns : List Nat
  ts : List (List Int)
  many : Nat
  bs : List (List Int)
  p : Nat
  why : Nat
def rawN (K : Nat) (xs : List Int) := rdN xs 0 0 K
def rawT (K L : Nat) (xs : List Int) := rdT xs (rawN K xs).2.1 (rawN K xs).2.2 L
def rawM (K L : Nat) (xs : List Int) := goNum xs (rawT K L xs).2.1 (rawT K L xs).2.2
def rawB (K L : Nat) (xs : List Int) := rdT xs (rawM K L xs).2.1 (rawM K L xs).2.2 (min (rawM K L xs).1 10)
def raw (K L : Nat) (xs : List Int) : Raw := ⟨(rawN K xs).1, (rawT K L xs).1, (rawM K L xs).1, (rawB K L xs).1, (rawB K L xs).2.1, (rawB K L xs).2.2⟩
/-- The bytes of a command that is known by its numbers, texts and bodies. -/
def encRaw (ns : List Nat) (ts : List (List Int)) (many : Nat) (bs : List (List Int)) : List Int := encN ns ++ encTs ts ++ enc many ++ encTs bs

theorem raw_ok (K L : Nat) (xs : List Int) : (raw K L xs).p ≤ xs.length ∧ Ok3 (raw K L xs).why := by
  have h1 := rdN_ok (xs := xs) (Nat.zero_le _) (.inl rfl) K
  have h2 := rdT_ok h1.1 h1.2 L
  have h3 : (rawM K L xs).2.1 ≤ xs.length ∧ Ok3 (rawM K L xs).2.2 := ⟨goNum_le h2.1, goNum_ok3 h2.2⟩
  exact rdT_ok h3.1 h3.2 _
theorem raw_back {K L : Nat} {xs : List Int} (hb : ∀ x ∈ xs, 0 ≤ x ∧ x < 256) (h0 : (raw K L xs).why = 0) :
    At xs (raw K L xs).p (encRaw (raw K L xs).ns (raw K L xs).ts (raw K L xs).many (raw K L xs).bs) ∧ (∀ v ∈ (raw K L xs).ns, v < 9223372036854775808) ∧ (raw K L xs).many < 9223372036854775808 ∧
      (∀ s ∈ (raw K L xs).ts, (∀ x ∈ s, 0 ≤ x ∧ x < 256) ∧ s.length ≤ 256) ∧ (∀ s ∈ (raw K L xs).bs, (∀ x ∈ s, 0 ≤ x ∧ x < 256) ∧ s.length ≤ 256) := by
  have key : ∀ a, At xs (rawM K L xs).2.1 a → (rawM K L xs).2.2 = 0 ∧ At xs (raw K L xs).p (a ++ encTs (raw K L xs).bs) ∧ (∀ s ∈ (raw K L xs).bs, (∀ x ∈ s, 0 ≤ x ∧ x < 256) ∧ s.length ≤ 256) := fun a ha => rdT_back hb ha _ _ h0
  have hM0 : (rawM K L xs).2.2 = 0 := by
    by_cases h : (rawM K L xs).2.2 = 0
    · exact h
    · exfalso
      have : ∀ k, (rdT xs (rawM K L xs).2.1 (rawM K L xs).2.2 k).2.2 = (rawM K L xs).2.2 := fun k => by
        induction k with
        | zero => rfl
        | succ k ih => simp only [rdT]; rw [goText_stop (by rw [ih]; exact h)]; exact ih
      exact h ((this _).symm.trans h0)
  have hT0 : (rawT K L xs).2.2 = 0 := by
    by_cases h : (rawT K L xs).2.2 = 0
    · exact h
    · unfold rawM at hM0; rw [goNum_stop h] at hM0; exact absurd hM0 h
  have hN0 : (rawN K xs).2.2 = 0 := by
    by_cases h : (rawN K xs).2.2 = 0
    · exact h
    · exfalso
      have : ∀ k, (rdT xs (rawN K xs).2.1 (rawN K xs).2.2 k).2.2 = (rawN K xs).2.2 := fun k => by
        induction k with
        | zero => rfl
        | succ k ih => simp only [rdT]; rw [goText_stop (by rw [ih]; exact h)]; exact ih
      exact h ((this L).symm.trans hT0)
  obtain ⟨_, n1, n2⟩ := rdN_back hb (At.zero xs) 0 K hN0
  obtain ⟨_, t1, t2⟩ := rdT_back hb n1 _ L hT0
  have hM : goNum xs (rawT K L xs).2.1 0 = ((rawM K L xs).1, (rawM K L xs).2.1, 0) := by
    have e : rawM K L xs = goNum xs (rawT K L xs).2.1 0 := by unfold rawM; rw [hT0]
    rw [← e]
    exact Prod.ext rfl (Prod.ext rfl hM0)
  obtain ⟨m1, m2⟩ := goNum_back hb t1 hM
  obtain ⟨_, b1, b2⟩ := key _ m1
  refine ⟨?_, n2, m2, t2, b2⟩
  have e : encRaw (raw K L xs).ns (raw K L xs).ts (raw K L xs).many (raw K L xs).bs = [] ++ encN (rdN xs 0 0 K).1 ++ encTs (rdT xs (rdN xs 0 0 K).2.1 (rdN xs 0 0 K).2.2 L).1 ++ enc (rawM K L xs).1 ++ encTs (raw K L xs).bs := by
    simp [encRaw, raw, rawN, rawT]
  rw [e]
  exact b1

theorem raw_write {K L : Nat} (ns : List Nat) (ts bs : List (List Int)) (r : List Int) (hn : ns.length = K) (ht : ts.length = L) (hb : bs.length ≤ 10) (vn : ∀ v ∈ ns, v ≤ 9223372036854775807) (vt : ∀ s ∈ ts, s.length ≤ 256) (vb : ∀ s ∈ bs, s.length ≤ 256) :
    raw K L (encRaw ns ts bs.length bs ++ r) = ⟨ns, ts, bs.length, bs, (encRaw ns ts bs.length bs).length, 0⟩ := by
  have e1 : rawN K (encRaw ns ts bs.length bs ++ r) = (ns, (encN ns).length, 0) := by
    have := rdN_write (xs := encRaw ns ts bs.length bs ++ r) (a := []) (r := encTs ts ++ enc bs.length ++ encTs bs ++ r) (p := 0) ns (by simp [encRaw]) rfl vn K (by omega)
    rw [List.take_of_length_le (by omega)] at this
    simpa [rawN] using this
  have e2 : rawT K L (encRaw ns ts bs.length bs ++ r) = (ts, (encN ns ++ encTs ts).length, 0) := by
    have := rdT_write (xs := encRaw ns ts bs.length bs ++ r) (a := encN ns) (r := enc bs.length ++ encTs bs ++ r) (p := (encN ns).length) ts (by simp [encRaw]) rfl vt L (by omega)
    rw [List.take_of_length_le (by omega)] at this
    unfold rawT
    rw [e1]
    exact this
  have e3 : rawM K L (encRaw ns ts bs.length bs ++ r) = (bs.length, (encN ns ++ encTs ts ++ enc bs.length).length, 0) := by
    unfold rawM
    rw [e2]
    exact goNum_write (r := encTs bs ++ r) (by simp [encRaw]) rfl (by omega)
  have e4 : rawB K L (encRaw ns ts bs.length bs ++ r) = (bs, (encRaw ns ts bs.length bs).length, 0) := by
    have := rdT_write (xs := encRaw ns ts bs.length bs ++ r) (a := encN ns ++ encTs ts ++ enc bs.length) (r := r) (p := (encN ns ++ encTs ts ++ enc bs.length).length) bs (by simp [encRaw]) rfl vb bs.length (Nat.le_refl _)
    rw [List.take_of_length_le (Nat.le_refl _)] at this
    unfold rawB
    rw [e3]
    simp only
    rw [show min bs.length 10 = bs.length by omega]
    exact this
  unfold raw
  rw [e1, e2, e3, e4]

theorem raw_cut (K L : Nat) (xs : List Int) (m : Nat) : ((raw K L (xs.take m)).p, (raw K L (xs.take m)).why) = ((raw K L xs).p, (raw K L xs).why) ∨ (raw K L (xs.take m)).why = 3 := by
  have n := rdN_cut xs m 0 0 0 0 (.inl rfl) K
  have t : rawT K L (xs.take m) = rawT K L xs ∨ (rawT K L (xs.take m)).2.2 = 3 := by
    refine rdT_cut xs m _ _ _ _ ?_ L
    rcases n with e | e
    · left; unfold rawN; rw [e]
    · exact .inr e
  have M : rawM K L (xs.take m) = rawM K L xs ∨ (rawM K L (xs.take m)).2.2 = 3 := by
    unfold rawM
    rcases t with e | e
    · rw [e]
      by_cases h0 : (rawT K L xs).2.2 = 0
      · rw [h0]
        rcases goNum_cut xs m (rawT K L xs).2.1 with e | e
        · exact .inl e
        · right; rw [e]
      · rw [goNum_stop h0, goNum_stop h0]; exact .inl rfl
    · right; rw [e, goNum_stop (by omega)]
  show ((rawB K L (xs.take m)).2.1, (rawB K L (xs.take m)).2.2) = ((rawB K L xs).2.1, (rawB K L xs).2.2) ∨ (rawB K L (xs.take m)).2.2 = 3
  unfold rawB
  rcases M with e | e
  · rw [e]
    rcases rdT_cut xs m _ _ _ _ (.inl rfl) (min (rawM K L xs).1 10) with e | e
    · left; rw [e]
    · exact .inr e
  · right
    have : ∀ k, (rdT (xs.take m) (rawM K L (xs.take m)).2.1 (rawM K L (xs.take m)).2.2 k).2.2 = 3 := fun k => by
      induction k with
      | zero => exact e
      | succ k ih => simp only [rdT]; rw [goText_stop (by omega)]; exact ih
    exact this _
end Go.Proofs.YtkdncnhjlgidnaaGreatDoor
