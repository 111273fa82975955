/- What is proved here: 'FrameUsed' returns true for any bytes, whatever the memory in which it is called, and nothing that was there has changed. -/
import Derived.Test.YtbdfhlgpbhcjcaaAll
namespace Go.Proofs.Ytbdfhlgpbhcjcaa
open Go Go.RowKit

theorem why_nil : whyF [] = 3 := rfl
theorem why_parts {xs : List Int} (h : whyF xs = 0) : 6 + sizeF xs ≤ xs.length ∧ sizeF xs ≤ 4096 ∧ sumF xs = true := by
  unfold whyF at h
  split at h
  · omega
  · split at h
    · omega
    · split at h
      · omega
      · split at h
        · rename_i h4
          exact ⟨by omega, by omega, h4⟩
        · omega
theorem why_of {xs : List Int} (h : 6 + sizeF xs ≤ xs.length) (h2 : sizeF xs ≤ 4096) (h3 : sumF xs = true) : whyF xs = 0 := by
  unfold whyF
  rw [if_neg (by omega), if_neg (by omega), if_neg (by omega), if_pos h3]
/-- A frame that begins a row begins what the row begins with, too. -/
theorem take_size {xs : List Int} {u : Nat} (hu : 2 ≤ u) : sizeF (xs.take u) = sizeF xs := by
  unfold sizeF
  rw [List.take_take, Nat.min_eq_left hu]
theorem take_body {xs : List Int} {u : Nat} (hu : 6 + sizeF xs ≤ u) : ((xs.take u).drop 6).take (sizeF (xs.take u)) = (xs.drop 6).take (sizeF xs) := by
  rw [take_size (by omega), List.drop_take, List.take_take, Nat.min_eq_left (by omega)]
theorem take_why {xs : List Int} {u : Nat} (h : whyF xs = 0) (hu : 6 + sizeF xs ≤ u) : whyF (xs.take u) = 0 := by
  obtain ⟨h1, h2, h3⟩ := why_parts h
  have hs := take_size (xs := xs) (u := u) (by omega)
  refine why_of (by rw [hs, List.length_take]; omega) (by rw [hs]; exact h2) ?_
  unfold sumF at h3 ⊢
  rw [take_body hu, List.take_take, Nat.min_eq_left (by omega), List.drop_take, List.take_take, Nat.min_eq_left (by omega)]
  exact h3
theorem Chain.take : ∀ (ys : List (List Int)) (xs : List Int) (u : Nat), Chain ys xs u → Chain ys (xs.take u) u
  | [], _, _, h => h
  | y :: ys, xs, u, ⟨h1, h2, u', h3, h4⟩ => by
    refine ⟨take_why h1 (by omega), by rw [take_body (by omega)]; exact h2, u', by rw [take_size (by omega)]; exact h3, ?_⟩
    have ih := Chain.take ys _ u' h4
    rw [take_size (by omega), List.drop_take, show u - (6 + sizeF xs) = u' by omega]
    exact ih
theorem Chain.only : ∀ (ys zs : List (List Int)) (xs : List Int) (u v : Nat), Chain ys xs u → Chain zs xs v → whyF (xs.drop u) ≠ 0 → whyF (xs.drop v) ≠ 0 → ys = zs ∧ u = v
  | [], [], _, _, _, h, k, _, _ => ⟨rfl, by rw [show _ = 0 from h, show _ = 0 from k]⟩
  | [], z :: zs, xs, u, v, h, ⟨k1, _⟩, hu, _ => by
    have h0 : u = 0 := h
    subst h0
    exact absurd k1 (by simpa using hu)
  | y :: ys, [], xs, u, v, ⟨h1, _⟩, k, _, hv => by
    have k0 : v = 0 := k
    subst k0
    exact absurd h1 (by simpa using hv)
  | y :: ys, z :: zs, xs, u, v, ⟨_, h2, u', h3, h4⟩, ⟨_, k2, v', k3, k4⟩, hu, hv => by
    rw [h3, ← List.drop_drop] at hu
    rw [k3, ← List.drop_drop] at hv
    obtain ⟨e1, e2⟩ := Chain.only ys zs _ u' v' h4 k4 hu hv
    exact ⟨by rw [h2, k2, e1], by omega⟩
theorem own_slice {w : World} {base e size n : Nat} {v : Value} {xs : List Value} (h : w.ownsRow base e size v n xs) (hs : size = 1) : ∃ A c, v = .slice A n c ∧ n ≤ c ∧ c ≤ maxLen := by
  subst hs
  rcases h.2 with ⟨rfl, rfl⟩ | ⟨g, cap, cur, rfl, hb, hg, hnc, hcm, hcs, htake⟩
  · exact ⟨none, 0, rfl, Nat.le_refl _, Nat.zero_le _⟩
  · exact ⟨_, _, rfl, hnc, hcm⟩
theorem stop_why {xs : List Int} {n u : Nat} (hl : xs.length = n) (hu : u ≤ n) (h : u < n → whyF (xs.drop u) ≠ 0) : whyF (xs.drop u) ≠ 0 := by
  by_cases hun : u < n
  · exact h hun
  · rw [List.drop_of_length_le (by omega), why_nil]; omega

set_option maxHeartbeats 1600000 in
set_option maxRecDepth 100000 in
theorem used_short (A : Option Addr) (n c : Nat) (xs : List Int) (w : World) (h : Rd w w.heap.size .u8 A n c xs) (hx : ∀ x ∈ xs, 0 ≤ x ∧ x < 256) (hn : n ≤ 600) :
    Calls Try.prog 8 #[.slice A n c] w fun e w' => e = .returned (.bool true) ∧ Below w.heap.size w w' := by
  have h1 : ¬ ((600 : Int) < n) := by omega
  have hm := h.max
  have hc := h.cap
  unfold maxLen at hm
  have HX := Lib.hid hx
  have HL := Lib.hid h.len
  have HA := Lib.hid (All_any A n c xs w h hx (by omega))
  clear hx
  go_enter Try.func8, Try.ntmps8
  go_wp2_with fail
  refine HA.out.mono ?_
  rintro e w1 ⟨l, v, u, hch, hu, hlu, hstop, rfl, hown, _, hb1⟩
  obtain ⟨Al, cl, rfl, hcl1, hcl2⟩ := own_slice hown rfl
  unfold maxLen at hcl2
  have hs1 := stop_why HL.out hu hstop
  have HCH := Lib.hid hch
  have HS1 := Lib.hid hs1
  obtain ⟨er, her, hf⟩ : ∃ er : Nat, (if u = n then 0 else whyF (xs.drop u)) = er ∧ ((er : Int) == 0) = ((u : Int) == n) := by
    by_cases hun : u = n
    · exact ⟨0, by rw [if_pos hun], by subst hun; simp⟩
    · refine ⟨_, by rw [if_neg hun], ?_⟩
      rw [beq_eq_false_iff_ne.2 (by omega), beq_eq_false_iff_ne.2 (by omega)]
  rw [her]
  clear her hch hstop hs1 hown HA
  have hu0 : decide ((u : Int) < 0) = false := by simp
  have hu1 : decide ((n : Int) < u) = false := by simp; omega
  have hu1' : ¬ ((n : Int) < u) := by omega
  have hu2 : decide (n < u) = false := by simp; omega
  generalize hfb : ((u : Int) == n) = fb at *
  have hr1 := h.below hb1
  have hb1z := hb1.size
  have HA2 := Lib.hid (All_any A u c (xs.take u) w1 ((hr1.take (m := u) (by omega)).more hb1z) (take_bytes HX.out u) (by omega))
  clear hr1
  have hcu : (u : Int) ≤ c := by omega
  go_wp2_with fail
  refine HA2.out.mono ?_
  rintro e w2 ⟨l2, v2, u2, hch2, hu2', _, hstop2, rfl, hown2, _, hb2⟩
  have hlt : (xs.take u).length = u := by rw [List.length_take, HL.out]; omega
  obtain ⟨e1, rfl⟩ := Chain.only _ _ _ _ _ (HCH.out.take) hch2 (by rw [List.drop_of_length_le (by rw [hlt]; exact Nat.le_refl _), why_nil]; omega) (stop_why hlt hu2' hstop2)
  have hll : l2.length = l.length := by
    have := congrArg List.length e1
    rw [List.length_map, List.length_map] at this
    exact this.symm
  obtain ⟨Al2, cl2, rfl, hcl3, hcl4⟩ := own_slice hown2 rfl
  rw [if_pos rfl, hll]
  have hbw2 := hb1.trans (hb2.mono hb1z)
  clear hch2 hstop2 hown2 e1 hll hlt hb1 hb2 HA2 hu2'
  have hnext : ∀ A2 m2 c2, m2 ≤ 600 → Rd w w.heap.size .u8 A2 m2 c2 (xs.drop u) → Calls Try.prog 15 #[.slice A2 m2 c2] w2 fun e w' => ∃ (f : Nat) (s1 s2 : Value), e = .returned (.tuple #[s1, s2, .int .i64 f]) ∧ ((f : Int) != 0) = true ∧ Below w.heap.size w w' := fun A2 m2 c2 hm2 hr => by
    refine (Next_any A2 m2 c2 _ w2 ((hr.below hbw2).more hbw2.size) (drop_bytes HX.out u) (by omega)).mono ?_
    rintro e w' ⟨hb', ⟨hw, rfl⟩ | ⟨hw, _⟩⟩
    · exact ⟨_, _, _, rfl, bne_iff_ne.2 (by omega), hbw2.trans (hb'.mono hbw2.size)⟩
    · exact absurd hw HS1.out
  have HNX := Lib.hid hnext
  have key : (A = none ∧ n = 0 ∧ c = 0 ∧ u = 0) ∨ (∃ a, A = some a ∧ n = 0 ∧ u = 0) ∨ (∃ b o, A = some ⟨b, o, none⟩ ∧ c = u ∧ n = u) ∨ (∃ b o, A = some ⟨b, o, none⟩ ∧ ¬ c = u) := by
    rcases A with _ | a
    · obtain ⟨rfl, rfl⟩ := h.nil rfl
      exact .inl ⟨rfl, rfl, rfl, by omega⟩
    · by_cases hn0 : n = 0
      · exact .inr (.inl ⟨a, rfl, hn0, by omega⟩)
      · obtain ⟨b, o, e, _⟩ := h.cell (j := 0) (by omega)
        by_cases hcu' : c = u
        · exact .inr (.inr (.inl ⟨b, o, e, hcu', by omega⟩))
        · exact .inr (.inr (.inr ⟨b, o, e, hcu'⟩))
  have HDROP : Hid (Rd w w.heap.size .u8 A n c xs) := Lib.hid h
  clear hnext HS1 HCH
  rcases key with ⟨rfl, rfl, rfl, rfl⟩ | ⟨a, rfl, rfl, rfl⟩ | ⟨b, o, rfl, rfl, rfl⟩ | ⟨b, o, rfl, hcu'⟩
  · go_wp2_with fail
    refine (HNX.out _ _ _ (by omega) (by simpa using HDROP.out)).mono ?_
    rintro e w3 ⟨f, s1, s2, rfl, hf3, hb3⟩
    go_wp2_with fail
    refine (awake_any w3).mono ?_
    rintro e w4 ⟨rfl, hb4⟩
    go_wp2_with fail
    go_ret
    exact ⟨rfl, hb3.trans (hb4.mono hb3.size)⟩
  · go_wp2_with fail
    refine (HNX.out _ _ _ (by omega) (by simpa using HDROP.out)).mono ?_
    rintro e w3 ⟨f, s1, s2, rfl, hf3, hb3⟩
    go_wp2_with fail
    refine (awake_any w3).mono ?_
    rintro e w4 ⟨rfl, hb4⟩
    go_wp2_with fail
    go_ret
    exact ⟨rfl, hb3.trans (hb4.mono hb3.size)⟩
  · go_wp2_with fail
    refine (HNX.out _ _ _ (by omega) (by rw [List.drop_of_length_le (by rw [HL.out]; exact Nat.le_refl _)]; exact Rd.empty _)).mono ?_
    rintro e w3 ⟨f, s1, s2, rfl, hf3, hb3⟩
    go_wp2_with fail
    refine (awake_any w3).mono ?_
    rintro e w4 ⟨rfl, hb4⟩
    go_wp2_with fail
    go_ret
    exact ⟨rfl, hb3.trans (hb4.mono hb3.size)⟩
  · go_wp2_with fail
    refine (HNX.out _ _ _ (by omega) (HDROP.out.drop (by omega))).mono ?_
    rintro e w3 ⟨f, s1, s2, rfl, hf3, hb3⟩
    go_wp2_with fail
    refine (awake_any w3).mono ?_
    rintro e w4 ⟨rfl, hb4⟩
    go_wp2_with fail
    go_ret
    exact ⟨rfl, hb3.trans (hb4.mono hb3.size)⟩

set_option maxHeartbeats 400000 in
theorem used_any (A : Option Addr) (n c : Nat) (xs : List Int) (w : World) (h : Rd w w.heap.size .u8 A n c xs) (hx : ∀ x ∈ xs, 0 ≤ x ∧ x < 256) :
    Calls Try.prog 8 #[.slice A n c] w fun e w' => e = .returned (.bool true) ∧ Below w.heap.size w w' := by
  by_cases hn : n ≤ 600
  · exact used_short A n c xs w h hx hn
  · have h1 : ((600 : Int) < n) := by omega
    go_enter Try.func8, Try.ntmps8
    go_wp2_with (go_at_call 11; refine (awake_any w).mono ?_; rintro e w1 ⟨rfl, hb1⟩)
    go_ret
    exact ⟨rfl, hb1⟩
end Go.Proofs.Ytbdfhlgpbhcjcaa
