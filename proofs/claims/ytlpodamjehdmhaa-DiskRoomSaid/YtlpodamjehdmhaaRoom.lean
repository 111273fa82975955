/- What is proved here: 'DiskRoom' returns true at all arguments. -/
import Derived.Test.YtlpodamjehdmhaaCuts
namespace Go.Proofs.Ytlpodamjehdmhaa
open Go Go.RowKit Go.Maps

def zeros (n : Nat) : List Int := List.replicate n 0
theorem zeros_len (n : Nat) : (zeros n).length = n := List.length_replicate
theorem zeros_in (n : Nat) : ∀ x ∈ zeros n, 0 ≤ x ∧ x < 256 := fun x hx => by
  rw [List.eq_of_mem_replicate hx]
  omega
theorem made_zeros (n : Nat) : (madeCells (Value.int .u8 0).cells (n * 1)).toList = (zeros n).map (Value.int .u8) := by
  unfold zeros
  rw [List.map_replicate]
  show (madeCells #[.int .u8 0] (n * 1)).toList = _
  rw [toList_madeCells_one, Nat.mul_one]
abbrev strB : ByteArray := ⟨#[98]⟩
theorem strB_size : strB.size ≤ maxLen := by unfold maxLen strB; decide
theorem app_full {S : List RF} {ys : List Int} {room : Int} (s : ByteArray) (h0 : nameOk s.data.toList = true) (h : room < ((usedN S + ys.length : Nat) : Int)) : appendF room S s.data.toList ys = (S, 5) := by
  unfold appendF
  rw [if_neg (by rw [h0]; decide), if_pos h]
theorem app_ok {S : List RF} {ys : List Int} {room : Int} (s : ByteArray) (h0 : nameOk s.data.toList = true) (h : ((usedN S + ys.length : Nat) : Int) ≤ room) : (appendF room S s.data.toList ys).2 = 0 ∧ (appendF room S s.data.toList ys).1 = putN RF.nm ⟨s.data.toList, (oldRF S s.data.toList).b ++ ys, (oldRF S s.data.toList).s⟩ S := by
  unfold appendF
  rw [if_neg (by rw [h0]; decide), if_neg (by omega)]
  exact ⟨rfl, rfl⟩

set_option maxHeartbeats 1600000 in
set_option maxRecDepth 100000 in
theorem room_bad (a0 a1 a2 : Int) (w : World) (h : a1 < 0 ∨ 3000 < a1 ∨ a2 < 0 ∨ 3000 < a2) :
    Calls Try.prog 6 #[.int .i64 a0, .int .i64 a1, .int .i64 a2] w fun e w' => e = .returned (.bool true) ∧ Below w.heap.size w w' := by
  have HAW := Lib.hid fun W => awake_any W
  have hc : a1 < 0 ∨ (0 ≤ a1 ∧ 3000 < a1) ∨ (0 ≤ a1 ∧ a1 ≤ 3000 ∧ a2 < 0) ∨ (0 ≤ a1 ∧ a1 ≤ 3000 ∧ 0 ≤ a2 ∧ 3000 < a2) := by omega
  clear h
  rcases hc with h1 | ⟨h1, h2⟩ | ⟨h1, h2, h3⟩ | ⟨h1, h2, h3, h4⟩
  all_goals
    go_enter Try.func6, Try.ntmps6
    go_wp2_with (go_at_call 11; refine (HAW.out _).mono ?_; rintro e w1 ⟨rfl, hb⟩)
    go_ret
    exact ⟨rfl, hb⟩

/-- What the second Append leaves. -/
theorem room_two {u o2 : Nat} {R : Int} {S : List RF} (hS : S = [] ∨ ∃ b, S = one b 0) (hu : usedN S = u) (h : ((u + o2 : Nat) : Int) ≤ R) :
    (appendF R S strB.data.toList (zeros o2)).2 = 0 ∧ usedN (appendF R S strB.data.toList (zeros o2)).1 = u + o2 := by
  obtain ⟨h1, h2⟩ := app_ok (S := S) (ys := zeros o2) (room := R) strB (by decide) (by rw [hu, zeros_len]; exact h)
  refine ⟨h1, ?_⟩
  rw [h2]
  rcases hS with rfl | ⟨b, rfl⟩
  · obtain rfl : u = 0 := by rw [← hu]; rfl
    show (zeros o2).length + 0 = _
    rw [zeros_len, Nat.zero_add, Nat.add_zero]
  · have hu2 : b.length = u := by rw [← hu, one_used]
    show b.length + ((zeros o2).length + 0) = _
    rw [zeros_len, hu2, Nat.add_zero]

/-- What an Append leaves, and how many bytes there are. -/
theorem room_app {w wi : World} {d o : Nat} {R : Int} {S S' : List RF} {r : Int} (h : St w d R S wi) (s : ByteArray) (hs : s.size ≤ maxLen) (hL : S.length ≤ 1000000) (he : appendF R S s.data.toList (zeros o) = (S', r)) (A : Option Addr) (c : Nat) (hr : Rd wi wi.heap.size .u8 A o c (zeros o)) :
    Calls Try.prog 24 #[.pointer (some ⟨d, 0, none⟩), .string s, .slice A o c] wi fun e w' => e = .returned (.int .i64 r) ∧ St w d R S' w' := by
  have := append_st h s hs A o c (zeros o) hr (zeros_in o) hL
  rwa [he] at this

set_option maxHeartbeats 3200000 in
set_option maxRecDepth 100000 in
theorem room_walk (a0 R : Int) (o1 o2 u u2 : Nat) (r1 r2 : Int) (S1 S2 : List RF) (w : World) (h1 : o1 ≤ 3000) (h2 : o2 ≤ 3000) (hR : min (max a0 0) 1048576 = R) (hR2 : 0 ≤ R ∧ R ≤ 1048576)
    (e1 : appendF R [] strA.data.toList (zeros o1) = (S1, r1)) (e2 : appendF R S1 strB.data.toList (zeros o2) = (S2, r2)) (hL : S1.length ≤ 1000000) (hu : usedN S2 = u2)
    (hc1 : ((o1 : Int) ≤ R ∧ r1 = 0 ∧ o1 = u) ∨ (R < o1 ∧ r1 = 5 ∧ 0 = u)) (hc2 : ((o2 : Int) ≤ R - u ∧ r2 = 0 ∧ u + o2 = u2) ∨ (R - u < o2 ∧ r2 = 5 ∧ u = u2)) :
    Calls Try.prog 6 #[.int .i64 a0, .int .i64 o1, .int .i64 o2] w fun e w' => e = .returned (.bool true) ∧ Below w.heap.size w w' := by
  have HAW := Lib.hid fun W => awake_any W
  obtain ⟨i0, hi, hz0, hz1, hz2⟩ := info_parts info_u8
  have HNEW := Lib.hid (New_st a0 w)
  rw [show clampR a0 = R from hR] at HNEW
  have HA1 := Lib.hid fun wi (h : St w (w.heap.size + 1) R [] wi) A c hr => room_app h strA strA_size (by decide) e1 A c hr
  have HA2 := Lib.hid fun wi (h : St w (w.heap.size + 1) R S1 wi) A c hr => room_app h strB strB_size hL e2 A c hr
  have HU := Lib.hid fun wi (h : St w (w.heap.size + 1) R S2 wi) => by
    have := Used_any h.disk
    rwa [hu] at this
  have h1' : (o1 : Int) ≤ 3000 := by omega
  have h2' : (o2 : Int) ≤ 3000 := by omega
  have HMK := Lib.hid fun (W W' : World) n (ho : W'.ownsRow W.heap.size 5 1 (.slice (some ⟨W.heap.size, 0, none⟩) n n) n (madeCells (Value.int .u8 0).cells (n * 1)).toList) (hg : W.grownBy W' none) => by
    rw [made_zeros] at ho
    obtain ⟨A', c', e', hr⟩ := Rd.of_own ho
    have hb : Below W.heap.size W W' := ⟨hg.os, hg.tape, hg.output, hg.size, fun k hk => hg.block k hk (by simp)⟩
    cases e'
    exact And.intro hr hb
  clear e1 e2 hL hu
  rcases hc1 with ⟨q1, hr1, hu1⟩ | ⟨q1, hr1, hu1⟩ <;> subst hr1 <;> subst hu1 <;> rcases hc2 with ⟨q2, hr2, hu2⟩ | ⟨q2, hr2, hu2⟩ <;> subst hr2 <;> subst hu2
  · have d1 : decide ((o1 : Int) ≤ R) = true := decide_eq_true q1
    have d2 : decide ((o2 : Int) ≤ R - (o1 : Int)) = true := decide_eq_true q2
    have d3 : (o1 : Int) + (o2 : Int) ≤ R := by omega
    go_enter Try.func6, Try.ntmps6
    go_wp2_with (first
      | (go_at_call 12; refine HNEW.out.mono ?_; rintro e w1 ⟨rfl, h1, -⟩)
      | (at_make; refine wpList_make_full (o := ⟨some 36, _, _, _, _, _⟩) _ rfl _ _ 31 rfl _ 5 i0 _ 1 Try.underlying31 hi hz0 hz1 _ _ _ _ o1 rfl rfl rfl rfl (by rw [hz2]; omega) (by unfold maxLen; omega) (Nat.le_refl _) ?_; intro w2 ho hg; obtain ⟨hr2, hb2⟩ := HMK.out _ _ _ ho hg; replace h1 := h1.later hb2; clear ho hg hb2)
      | (go_at_call 24; (with_reducible refine (HA1.out _ h1 _ _ hr2).mono ?_); rintro e w3 ⟨rfl, h3⟩; clear h1 hr2)
      | (at_make; refine wpList_make_full (o := ⟨some 40, _, _, _, _, _⟩) _ rfl _ _ 31 rfl _ 5 i0 _ 1 Try.underlying31 hi hz0 hz1 _ _ _ _ o2 rfl rfl rfl rfl (by rw [hz2]; omega) (by unfold maxLen; omega) (Nat.le_refl _) ?_; intro w4 ho hg; obtain ⟨hr4, hb4⟩ := HMK.out _ _ _ ho hg; replace h3 := h3.later hb4; clear ho hg hb4)
      | (go_at_call 24; (with_reducible refine (HA2.out _ h3 _ _ hr4).mono ?_); rintro e w5 ⟨rfl, h5⟩; clear h3 hr4)
      | (go_at_call 23; (with_reducible refine (HU.out _ h5).mono ?_); rintro e w6 ⟨rfl, rfl⟩)
      | (go_at_call 11; refine (HAW.out _).mono ?_; rintro e w7 ⟨rfl, hb⟩))
    go_ret
    exact ⟨rfl, h5.below.trans (hb.mono h5.below.size)⟩
  · have d1 : decide ((o1 : Int) ≤ R) = true := decide_eq_true q1
    have d2 : decide ((o2 : Int) ≤ R - (o1 : Int)) = false := decide_eq_false (by omega)
    go_enter Try.func6, Try.ntmps6
    go_wp2_with (first
      | (go_at_call 12; refine HNEW.out.mono ?_; rintro e w1 ⟨rfl, h1, -⟩)
      | (at_make; refine wpList_make_full (o := ⟨some 36, _, _, _, _, _⟩) _ rfl _ _ 31 rfl _ 5 i0 _ 1 Try.underlying31 hi hz0 hz1 _ _ _ _ o1 rfl rfl rfl rfl (by rw [hz2]; omega) (by unfold maxLen; omega) (Nat.le_refl _) ?_; intro w2 ho hg; obtain ⟨hr2, hb2⟩ := HMK.out _ _ _ ho hg; replace h1 := h1.later hb2; clear ho hg hb2)
      | (go_at_call 24; (with_reducible refine (HA1.out _ h1 _ _ hr2).mono ?_); rintro e w3 ⟨rfl, h3⟩; clear h1 hr2)
      | (at_make; refine wpList_make_full (o := ⟨some 40, _, _, _, _, _⟩) _ rfl _ _ 31 rfl _ 5 i0 _ 1 Try.underlying31 hi hz0 hz1 _ _ _ _ o2 rfl rfl rfl rfl (by rw [hz2]; omega) (by unfold maxLen; omega) (Nat.le_refl _) ?_; intro w4 ho hg; obtain ⟨hr4, hb4⟩ := HMK.out _ _ _ ho hg; replace h3 := h3.later hb4; clear ho hg hb4)
      | (go_at_call 24; (with_reducible refine (HA2.out _ h3 _ _ hr4).mono ?_); rintro e w5 ⟨rfl, h5⟩; clear h3 hr4)
      | (go_at_call 23; (with_reducible refine (HU.out _ h5).mono ?_); rintro e w6 ⟨rfl, rfl⟩)
      | (go_at_call 11; refine (HAW.out _).mono ?_; rintro e w7 ⟨rfl, hb⟩))
    go_ret
    exact ⟨rfl, h5.below.trans (hb.mono h5.below.size)⟩
  · have d1 : decide ((o1 : Int) ≤ R) = false := decide_eq_false (by omega)
    replace q2 : (o2 : Int) ≤ R := by omega
    have d2 : decide ((o2 : Int) ≤ R) = true := decide_eq_true q2
    go_enter Try.func6, Try.ntmps6
    go_wp2_with (first
      | (go_at_call 12; refine HNEW.out.mono ?_; rintro e w1 ⟨rfl, h1, -⟩)
      | (at_make; refine wpList_make_full (o := ⟨some 36, _, _, _, _, _⟩) _ rfl _ _ 31 rfl _ 5 i0 _ 1 Try.underlying31 hi hz0 hz1 _ _ _ _ o1 rfl rfl rfl rfl (by rw [hz2]; omega) (by unfold maxLen; omega) (Nat.le_refl _) ?_; intro w2 ho hg; obtain ⟨hr2, hb2⟩ := HMK.out _ _ _ ho hg; replace h1 := h1.later hb2; clear ho hg hb2)
      | (go_at_call 24; (with_reducible refine (HA1.out _ h1 _ _ hr2).mono ?_); rintro e w3 ⟨rfl, h3⟩; clear h1 hr2)
      | (at_make; refine wpList_make_full (o := ⟨some 40, _, _, _, _, _⟩) _ rfl _ _ 31 rfl _ 5 i0 _ 1 Try.underlying31 hi hz0 hz1 _ _ _ _ o2 rfl rfl rfl rfl (by rw [hz2]; omega) (by unfold maxLen; omega) (Nat.le_refl _) ?_; intro w4 ho hg; obtain ⟨hr4, hb4⟩ := HMK.out _ _ _ ho hg; replace h3 := h3.later hb4; clear ho hg hb4)
      | (go_at_call 24; (with_reducible refine (HA2.out _ h3 _ _ hr4).mono ?_); rintro e w5 ⟨rfl, h5⟩; clear h3 hr4)
      | (go_at_call 23; (with_reducible refine (HU.out _ h5).mono ?_); rintro e w6 ⟨rfl, rfl⟩)
      | (go_at_call 11; refine (HAW.out _).mono ?_; rintro e w7 ⟨rfl, hb⟩))
    go_ret
    exact ⟨rfl, h5.below.trans (hb.mono h5.below.size)⟩
  · have d1 : decide ((o1 : Int) ≤ R) = false := decide_eq_false (by omega)
    replace q2 : R < (o2 : Int) := by omega
    have d2 : decide ((o2 : Int) ≤ R) = false := decide_eq_false (by omega)
    go_enter Try.func6, Try.ntmps6
    go_wp2_with (first
      | (go_at_call 12; refine HNEW.out.mono ?_; rintro e w1 ⟨rfl, h1, -⟩)
      | (at_make; refine wpList_make_full (o := ⟨some 36, _, _, _, _, _⟩) _ rfl _ _ 31 rfl _ 5 i0 _ 1 Try.underlying31 hi hz0 hz1 _ _ _ _ o1 rfl rfl rfl rfl (by rw [hz2]; omega) (by unfold maxLen; omega) (Nat.le_refl _) ?_; intro w2 ho hg; obtain ⟨hr2, hb2⟩ := HMK.out _ _ _ ho hg; replace h1 := h1.later hb2; clear ho hg hb2)
      | (go_at_call 24; (with_reducible refine (HA1.out _ h1 _ _ hr2).mono ?_); rintro e w3 ⟨rfl, h3⟩; clear h1 hr2)
      | (at_make; refine wpList_make_full (o := ⟨some 40, _, _, _, _, _⟩) _ rfl _ _ 31 rfl _ 5 i0 _ 1 Try.underlying31 hi hz0 hz1 _ _ _ _ o2 rfl rfl rfl rfl (by rw [hz2]; omega) (by unfold maxLen; omega) (Nat.le_refl _) ?_; intro w4 ho hg; obtain ⟨hr4, hb4⟩ := HMK.out _ _ _ ho hg; replace h3 := h3.later hb4; clear ho hg hb4)
      | (go_at_call 24; (with_reducible refine (HA2.out _ h3 _ _ hr4).mono ?_); rintro e w5 ⟨rfl, h5⟩; clear h3 hr4)
      | (go_at_call 23; (with_reducible refine (HU.out _ h5).mono ?_); rintro e w6 ⟨rfl, rfl⟩)
      | (go_at_call 11; refine (HAW.out _).mono ?_; rintro e w7 ⟨rfl, hb⟩))
    go_ret
    exact ⟨rfl, h5.below.trans (hb.mono h5.below.size)⟩

theorem room_any (a0 a1 a2 : Int) (w : World) :
    Calls Try.prog 6 #[.int .i64 a0, .int .i64 a1, .int .i64 a2] w fun e w' => e = .returned (.bool true) ∧ Below w.heap.size w w' := by
  by_cases h : a1 < 0 ∨ 3000 < a1 ∨ a2 < 0 ∨ 3000 < a2
  · exact room_bad a0 a1 a2 w h
  · obtain ⟨o1, rfl⟩ : ∃ k : Nat, a1 = k := ⟨a1.toNat, by omega⟩
    obtain ⟨o2, rfl⟩ : ∃ k : Nat, a2 = k := ⟨a2.toNat, by omega⟩
    obtain ⟨R, hR⟩ : ∃ R, min (max a0 0) 1048576 = R := ⟨_, rfl⟩
    have hR2 : 0 ≤ R ∧ R ≤ 1048576 := by omega
    have hone : (o1 : Int) ≤ R → appendF R [] strA.data.toList (zeros o1) = (one (zeros o1) 0, 0) := fun h => one_app0 (by rw [zeros_len]; exact h)
    have hfull : R < (o1 : Int) → appendF R [] strA.data.toList (zeros o1) = ([], 5) := fun h => app_full strA (by decide) (by rw [zeros_len]; simpa [usedN] using h)
    have two : ∀ (u : Nat) (S : List RF), (S = [] ∨ ∃ b, S = one b 0) → usedN S = u →
        ∃ r2 u2 S2, appendF R S strB.data.toList (zeros o2) = (S2, r2) ∧ usedN S2 = u2 ∧ (((o2 : Int) ≤ R - u ∧ r2 = 0 ∧ u + o2 = u2) ∨ (R - u < o2 ∧ r2 = 5 ∧ u = u2)) := by
      intro u S hS hu
      by_cases hf : (o2 : Int) ≤ R - u
      · obtain ⟨h1, h2⟩ := room_two hS hu (o2 := o2) (R := R) (by omega)
        exact ⟨0, _, _, by rw [← h1], h2, .inl ⟨hf, rfl, rfl⟩⟩
      · exact ⟨5, u, S, app_full strB (by decide) (by rw [hu, zeros_len]; omega), hu, .inr ⟨by omega, rfl, rfl⟩⟩
    by_cases hf : (o1 : Int) ≤ R
    · obtain ⟨r2, u2, S2, e2, hu, hc⟩ := two o1 (one (zeros o1) 0) (.inr ⟨_, rfl⟩) (by rw [one_used, zeros_len])
      exact room_walk a0 R o1 o2 o1 u2 0 r2 _ S2 w (by omega) (by omega) hR hR2 (hone hf) e2 (Nat.le_of_ble_eq_true rfl) hu (.inl ⟨hf, rfl, rfl⟩) hc
    · obtain ⟨r2, u2, S2, e2, hu, hc⟩ := two 0 [] (.inl rfl) rfl
      exact room_walk a0 R o1 o2 0 u2 5 r2 _ S2 w (by omega) (by omega) hR hR2 (hfull (by omega)) e2 (Nat.le_of_ble_eq_true rfl) hu (.inr ⟨by omega, rfl, rfl⟩) hc
end Go.Proofs.Ytlpodamjehdmhaa
