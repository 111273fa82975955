/- What is proved here: 'CoilApart' returns true for any two numbers and any two texts, whatever the memory in which it is called, and nothing that was there has changed.
-/
import Derived.Test.YtogennogjnleaaaAwake
namespace Go.Proofs.Ytogennogjnleaaa
open Go Go.RowKit

theorem enc_eq (n m : Nat) : decide (enc n = enc m) = decide (n = m) := by
  by_cases h : n = m
  · subst h; simp
  · rw [decide_eq_false h, decide_eq_false]
    intro e
    exact h (enc_inj n m [] [] (by rw [List.append_nil, List.append_nil]; exact e)).1
theorem text_eq (s t : ByteArray) : decide (enc s.size ++ nums s = enc t.size ++ nums t) = (s.toList == t.toList) := by
  by_cases h : s = t
  · subst h; simp
  · rw [decide_eq_false, eq_comm, beq_eq_false_iff_ne]
    · intro e
      rw [ByteArray.toList_eq, ByteArray.toList_eq] at e
      apply h
      cases s; cases t
      simpa using e
    · intro e
      exact h (nums_inj (enc_inj _ _ _ _ e).2)
theorem app_bytes {xs ys : List Int} (hx : ∀ x ∈ xs, 0 ≤ x ∧ x < 256) (hy : ∀ x ∈ ys, 0 ≤ x ∧ x < 256) : ∀ x ∈ xs ++ ys, 0 ≤ x ∧ x < 256 := by
  intro x h
  rcases List.mem_append.1 h with h | h
  · exact hx x h
  · exact hy x h

theorem Rd.of_own' {w : World} {base e n : Nat} {k : IntKind} {v : Value} {xs : List Int} (h : w.ownsRow base e 1 v n (xs.map (Value.int k))) : ∃ A n c, v = .slice A n c ∧ Rd w w.heap.size k A n c xs := by
  obtain ⟨A, c, hv, hr⟩ := Rd.of_own h
  exact ⟨A, n, c, hv, hr⟩
theorem num_same (n m : Int) (h : 0 ≤ n) (k : 0 ≤ m) : decide (enc n.toNat = enc m.toNat) = (n == m) := by
  rw [enc_eq, Bool.eq_iff_iff, decide_eq_true_iff, beq_iff_eq]
  omega
theorem num_yes (n m : Int) (h : n.toNat = m.toNat) : decide (enc n.toNat = enc m.toNat) = true := by rw [enc_eq, decide_eq_true_iff]; exact h
theorem num_not (n m : Int) (h : n.toNat ≠ m.toNat) : decide (enc n.toNat = enc m.toNat) = false := by rw [enc_eq, decide_eq_false_iff_not]; exact h

set_option maxHeartbeats 2000000 in
set_option maxRecDepth 100000 in
theorem apart_short (n m : Int) (s t : ByteArray) (w : World) (hn : -9223372036854775808 ≤ n) (hn2 : n ≤ 9223372036854775807) (hm : -9223372036854775808 ≤ m) (hm2 : m ≤ 9223372036854775807) (hs : s.size ≤ 400) (ht : t.size ≤ 400) :
    Calls Try.prog 5 #[.int .i64 n, .int .i64 m, .string s, .string t] w fun e w' => e = .returned (.bool true) ∧ Below w.heap.size w w' := by
  have hcase : (0 ≤ n ∧ 0 ≤ m) ∨ (n < 0 ∧ m < 0) ∨ (n < 0 ∧ m = 0) ∨ (n < 0 ∧ 0 < m) ∨ (n = 0 ∧ m < 0) ∨ (0 < n ∧ m < 0) := by omega
  rcases hcase with ⟨h1, h2⟩ | ⟨h1, h2⟩ | ⟨h1, rfl⟩ | ⟨h1, h2⟩ | ⟨rfl, h2⟩ | ⟨h1, h2⟩
  all_goals
    go_enter Try.func5, Try.ntmps5
    go_wp2_with fail
    refine (Num_any none 0 0 [] _ w (Rd.none_ _ _ _) (by omega) (by omega) (by omega)).mono ?_
    rintro e w1 ⟨v1, rfl, hown1, hb1⟩
    rw [List.nil_append] at hown1
    obtain ⟨A1, n1, c1, rfl, hr1⟩ := Rd.of_own' hown1
    clear hown1
    go_wp2_with fail
    refine (Num_any none 0 0 [] _ w1 (Rd.none_ _ _ _) (by omega) (by omega) (by omega)).mono ?_
    rintro e w2 ⟨v2, rfl, hown2, hb2⟩
    rw [List.nil_append] at hown2
    obtain ⟨A2, n2, c2, rfl, hr2⟩ := Rd.of_own' hown2
    clear hown2
    have H3 := Equal_any A1 A2 _ c1 _ c2 _ _ _ _ w2 (hr1.below hb2) hr2 (enc_bytes _) (enc_bytes _)
    first
      | rw [num_same _ _ h1 h2] at H3
      | rw [num_yes _ _ (by omega)] at H3
      | rw [num_not _ _ (by omega)] at H3
    have HH3 := Lib.hid H3
    clear H3 hr1 hr2
    go_wp2_with fail
    refine HH3.out.mono ?_
    rintro e w2' ⟨rfl, rfl⟩
    clear HH3
    go_wp2_with fail
    refine (Text_any none 0 0 [] s w2 (Rd.none_ _ _ _) (by omega) (by omega)).mono ?_
    rintro e w3 ⟨v3, rfl, hown3, hb3⟩
    rw [List.nil_append] at hown3
    obtain ⟨A3, n3, c3, rfl, hr3⟩ := Rd.of_own' hown3
    clear hown3
    go_wp2_with fail
    refine (Text_any none 0 0 [] _ w3 (Rd.none_ _ _ _) (by omega) (by omega)).mono ?_
    rintro e w4 ⟨v4, rfl, hown4, hb4⟩
    rw [List.nil_append] at hown4
    obtain ⟨A4, n4, c4, rfl, hr4⟩ := Rd.of_own' hown4
    clear hown4
    have H5 := Equal_any A3 A4 _ c3 _ c4 _ _ _ _ w4 (hr3.below hb4) hr4 (app_bytes (enc_bytes _) (nums_bytes _)) (app_bytes (enc_bytes _) (nums_bytes _))
    rw [text_eq] at H5
    have HH5 := Lib.hid H5
    clear H5 hr3 hr4
    go_wp2_with fail
    refine HH5.out.mono ?_
    rintro e w4' ⟨rfl, rfl⟩
    clear HH5
    have hz1 := hb1.size
    have hz2 := hb2.size
    have hz3 := hb3.size
    have hz4 := hb4.size
    have hb : Below w.heap.size w w4 := ((hb1.trans (hb2.mono hz1)).trans (hb3.mono (by omega))).trans (hb4.mono (by omega))
    clear hb1 hb2 hb3 hb4
    go_wp2_with fail
    refine (awake_any w4).mono ?_
    rintro e w5 ⟨rfl, hb5⟩
    go_wp2_with fail
    go_ret
    refine ⟨?_, hb.trans (hb5.mono hb.size)⟩
    first
      | rfl
      | (have e : ((0 : Int) == m) = false := by rw [beq_eq_false_iff_ne]; omega
         simp [e]; done)
      | (have e : (n == 0) = false := by rw [beq_eq_false_iff_ne]; omega
         simp [e]; done)

set_option maxHeartbeats 400000 in
theorem apart_any (n m : Int) (s t : ByteArray) (w : World) (hn : -9223372036854775808 ≤ n) (hn2 : n ≤ 9223372036854775807) (hm : -9223372036854775808 ≤ m) (hm2 : m ≤ 9223372036854775807) (hs : s.size ≤ maxLen) (ht : t.size ≤ maxLen) :
    Calls Try.prog 5 #[.int .i64 n, .int .i64 m, .string s, .string t] w fun e w' => e = .returned (.bool true) ∧ Below w.heap.size w w' := by
  unfold maxLen at hs ht
  by_cases h1 : s.size ≤ 400
  · by_cases h2 : t.size ≤ 400
    · exact apart_short n m s t w hn hn2 hm hm2 h1 h2
    · have h2' : (400 : Int) < t.size := by omega
      go_enter Try.func5, Try.ntmps5
      go_wp2_with (go_at_call 7; refine (awake_any w).mono ?_; rintro e w1 ⟨rfl, hb1⟩)
      go_ret
      exact ⟨rfl, hb1⟩
  · have h1' : (400 : Int) < s.size := by omega
    go_enter Try.func5, Try.ntmps5
    go_wp2_with (go_at_call 7; refine (awake_any w).mono ?_; rintro e w1 ⟨rfl, hb1⟩)
    go_ret
    exact ⟨rfl, hb1⟩
end Go.Proofs.Ytogennogjnleaaa
