/- What is proved here: what frame.Seal and frame.Next return, in new memory; none that was there is changed. -/
import Derived.Test.YtbdfhlgpbhcjcaaFirst
namespace Go.Proofs.Ytbdfhlgpbhcjcaa
open Go Go.RowKit

theorem first_any (A : Option Addr) (n c : Nat) (xs : List Int) (w : World) (h : Rd w w.heap.size .u8 A n c xs) (hx : ∀ x ∈ xs, 0 ≤ x ∧ x < 256) (hn2 : n ≤ 1000000) :
    Calls Try.prog 23 #[.slice A n c] w (FirstSaid w n xs) := by
  by_cases hn : n < 6
  · refine (first_short A n c xs _ w h hn).mono ?_
    rintro e w' ⟨rfl, rfl⟩
    exact FirstSaid.bad (er := 3) (by unfold whyF; rw [if_pos (by rw [h.len]; exact hn)]) (by omega) rfl (Below.refl _ _)
  · obtain ⟨b, o, rfl, _⟩ := h.cell (j := 0) (by omega)
    exact first_long b o n c xs w h hx (by omega) hn2

/-- The first two bytes, and a frame. -/
def headF (xs : List Int) : List Int := lowB 2 xs.length
def sealF (xs : List Int) : List Int := headF xs ++ lowB 4 (sumL (headF xs ++ xs)) ++ xs
theorem headF_length (xs : List Int) : (headF xs).length = 2 := lowB_length _ _
theorem sealF_length (xs : List Int) : (sealF xs).length = xs.length + 6 := by
  unfold sealF
  rw [List.length_append, List.length_append, headF_length, lowB_length]
  omega
theorem bytes_app {xs ys : List Int} (hx : ∀ x ∈ xs, 0 ≤ x ∧ x < 256) (hy : ∀ x ∈ ys, 0 ≤ x ∧ x < 256) : ∀ x ∈ xs ++ ys, 0 ≤ x ∧ x < 256 := app_bytes hx hy
theorem sealF_bytes {xs : List Int} (hx : ∀ x ∈ xs, 0 ≤ x ∧ x < 256) : ∀ x ∈ sealF xs, 0 ≤ x ∧ x < 256 := bytes_app (bytes_app (lowB_bytes _ _) (lowB_bytes _ _)) hx

set_option maxHeartbeats 400000 in
theorem Seal_no (A : Option Addr) (n c : Nat) (xs : List Int) (B : Nat) (w : World) (h : Rd w B .u8 A n c xs) (hn : 4096 < n) :
    Calls Try.prog 14 #[.slice A n c] w fun e w' => e = .returned (.tuple #[.slice none 0 0, .int .i64 5]) ∧ w = w' := by
  have hm := h.max
  have hc := h.cap
  unfold maxLen at hm
  have hn' : (4096 : Int) < n := by omega
  go_enter Try.func14, Try.ntmps14
  go_wp2
  go_ret2
  exact ⟨rfl, rfl⟩

set_option maxHeartbeats 1600000 in
set_option maxRecDepth 100000 in
theorem Seal_any (A : Option Addr) (n c : Nat) (xs : List Int) (w : World) (h : Rd w w.heap.size .u8 A n c xs) (hx : ∀ x ∈ xs, 0 ≤ x ∧ x < 256) (hn : n ≤ 4096) :
    Calls Try.prog 14 #[.slice A n c] w fun e w' =>
      ∃ v, e = .returned (.tuple #[v, .int .i64 0]) ∧ w'.ownsRow w.heap.size 5 1 v (n + 6) ((sealF xs).map (Value.int .u8)) ∧ Below w.heap.size w w' := by
  obtain ⟨i0, hi, hz0, hz1, hz2⟩ := info_parts info_u8
  have hn' : ¬ ((4096 : Int) < n) := by omega
  have HL := Lib.hid h.len
  have HX := Lib.hid hx
  have HH : Hid (lowB 2 n = headF xs) := by unfold headF; rw [HL.out]; exact Lib.hid rfl
  have HHL := Lib.hid (headF_length xs)
  clear hx
  go_enter Try.func14, Try.ntmps14
  go_wp2_with (at_make
               refine wpList_make_own _ rfl _ _ 22 rfl w.heap.size 5 i0 _ 1 Try.underlying22 hi hz0 hz1 _ _ _ (6 + n) rfl rfl (by omega) (by rw [hz2]; omega) (by unfold maxLen; omega) (Nat.le_refl _) ?_
               intro w1 hown1 hg1
               have hb1 : Below w.heap.size w w1 := (Below.refl _ _).grown hg1 (Nat.le_refl _) (fun k hk => by cases hk))
  refine (appendLow_any w.heap.size _ [] n 2 w1 hown1 hb1.size (by simp) (by omega) (by omega)).mono ?_
  rintro e w2 ⟨v1, rfl, hown2, hb2⟩
  rw [List.nil_append, HH.out, HHL.out] at hown2
  obtain ⟨A1, c1, rfl, hr1⟩ := Rd.of_own hown2
  have hbw2 := hb1.trans hb2
  clear hown1 hb1 hg1 hb2
  have hr0 := h.below hbw2
  have hb3 : Below w2.heap.size w2 (w2.alloc (.cells #[.slice A1 2 c1, .slice A n c] 22)) := (Below.refl _ _).alloc (Nat.le_refl _) _
  have HS := sumOf_two A1 A 2 c1 n c w2.heap.size _ xs (w2.alloc (.cells #[.slice A1 2 c1, .slice A n c] 22)) (by rw [World.cell?_alloc_at _ _ _ _ rfl]; rfl) (by rw [World.cell?_alloc_at _ _ _ _ rfl]; rfl) (by simp)
    ((hr1.below hb3).more hb3.size) ((hr0.below (hb3.mono hbw2.size)).more (by have := hbw2.size; simp; omega)) (by rw [← HH.out]; exact lowB_bytes _ _) HX.out (by omega) (by omega)
  have HSUM := Lib.hid HS
  have hown3 := own_below hown2 hb3
  have hlt := sumL_lt (headF xs ++ xs) (bytes_app (by rw [← HH.out]; exact lowB_bytes _ _) HX.out)
  clear HS hr1 hown2
  go_wp2_with fail
  refine HSUM.out.mono ?_
  rintro e w3 ⟨rfl, hb4⟩
  have hown4 := own_below hown3 hb4
  clear hown3 HSUM
  have hbw3 := hbw2.trans ((hb3.trans (hb4.mono hb3.size)).mono hbw2.size)
  clear hb3 hb4 hbw2 hr0
  have HB4 := Lib.hid (lowB_length 4 (sumL (headF xs ++ xs)))
  go_wp2_with fail
  refine (appendLow_any w.heap.size _ (headF xs) (sumL (headF xs ++ xs)) 4 w3 (by rw [HHL.out]; exact hown4) hbw3.size (by rw [HHL.out]; omega) (by omega) (by omega)).mono ?_
  rintro e w4 ⟨v4, rfl, hown5, hb5⟩
  rw [List.length_append, HHL.out, HB4.out] at hown5
  have hbw4 := hbw3.trans hb5
  have hrn := h.below hbw4
  have hlen : (xs.map (Value.int .u8)).length = n * 1 := by rw [List.length_map, HL.out, Nat.mul_one]
  have HLEN := Lib.hid hlen
  clear hlen hown4 hb5 hbw3
  go_wp2_with (at_builtin
               refine wpList_append_src rfl _ _ 22 rfl w.heap.size 5 i0 _ 1 1 Try.underlying22 hi hz0 hz1 hz2 rfl (by omega) _ 6 _ rfl hown5 A n c (xs.map (Value.int .u8)) rfl HLEN.out h.nil hrn.news (ints_oneCell _ _) (by unfold maxLen; omega) (by omega) hbw4.size ?_
               intro v6 w6 hown6 hg6)
  go_ret2
  refine ⟨v6, rfl, ?_, hbw4.grown hg6 hbw4.size (fun k hk => (hown5.lt k hk).1)⟩
  rw [Nat.add_comm]
  unfold sealF
  rw [List.map_append]
  exact hown6

/-- What 'Next' answers. -/
def NextSaid (w : World) (xs : List Int) (e : Ending) (w' : World) : Prop :=
  Below w.heap.size w w' ∧ ((whyF xs ≠ 0 ∧ e = .returned (.tuple #[.slice none 0 0, .slice none 0 0, .int .i64 (whyF xs)])) ∨
    (whyF xs = 0 ∧ 6 + sizeF xs ≤ xs.length ∧ ∃ A1 c1 A2 c2, e = .returned (.tuple #[.slice A1 (sizeF xs) c1, .slice A2 (xs.length - (6 + sizeF xs)) c2, .int .i64 0]) ∧
      Rd w' w'.heap.size .u8 A1 (sizeF xs) c1 ((xs.drop 6).take (sizeF xs)) ∧ Rd w' w'.heap.size .u8 A2 (xs.length - (6 + sizeF xs)) c2 (xs.drop (6 + sizeF xs))))

set_option maxHeartbeats 1600000 in
set_option maxRecDepth 100000 in
theorem Next_any (A : Option Addr) (n c : Nat) (xs : List Int) (w : World) (h : Rd w w.heap.size .u8 A n c xs) (hx : ∀ x ∈ xs, 0 ≤ x ∧ x < 256) (hn2 : n ≤ 1000000) :
    Calls Try.prog 15 #[.slice A n c] w (NextSaid w xs) := by
  have hm := h.max
  have hc := h.cap
  unfold maxLen at hm
  have HL := Lib.hid h.len
  have HF := Lib.hid (first_any A n c xs w h hx hn2)
  clear hx
  go_enter Try.func15, Try.ntmps15
  go_wp2_with fail
  refine HF.out.mono ?_
  rintro e w1 ⟨hb1, ⟨hw, rfl⟩ | ⟨hw, A1, c1, rfl, hr1, hle⟩⟩
  · have HW := Lib.hid hw
    have hwb : (((whyF xs : Nat) : Int) != 0) = true := by rw [bne_iff_ne]; omega
    clear hw
    generalize hq : whyF xs = q at *
    have HQ := Lib.hid hq
    clear hq
    go_wp2_with fail
    go_ret3
    have hq := HQ.out
    subst hq
    exact ⟨hb1, .inl ⟨HW.out, rfl⟩⟩
  · have HW := Lib.hid hw
    clear hw
    have hlt6 : 6 ≤ n := by omega
    obtain ⟨b, o, rfl, _⟩ := h.cell (j := 0) (by omega)
    have hr0 := h.below hb1
    have hone : ∀ V, Below w1.heap.size w1 V → Calls Try.prog 24 #[.slice A1 (sizeF xs) c1] V fun e w' => ∃ A c, e = .returned (.slice A (sizeF xs) c) ∧ Rd w' w'.heap.size .u8 A (sizeF xs) c ((xs.drop 6).take (sizeF xs)) ∧ Below V.heap.size V w' := fun V hV => by
      refine (Clone_any _ _ _ _ V ((hr1.below (hV.mono hb1.size)).more (by have := hV.size; have := hb1.size; omega)) (by omega)).mono ?_
      rintro e w' ⟨v, rfl, hown, hb⟩
      obtain ⟨A, c, rfl, hr⟩ := Rd.of_own hown
      exact ⟨A, c, rfl, hr, hb⟩
    have htwo : ∀ V A2 m2 c2, Rd w1 w.heap.size .u8 A2 m2 c2 (xs.drop (6 + sizeF xs)) → m2 ≤ n → Below w1.heap.size w1 V → Calls Try.prog 24 #[.slice A2 m2 c2] V fun e w' => ∃ A c, e = .returned (.slice A m2 c) ∧ Rd w' w'.heap.size .u8 A m2 c (xs.drop (6 + sizeF xs)) ∧ Below V.heap.size V w' := fun V A2 m2 c2 hr2 hm2 hV => by
      refine (Clone_any _ _ _ _ V ((hr2.below (hV.mono hb1.size)).more (by have := hV.size; have := hb1.size; omega)) (by omega)).mono ?_
      rintro e w' ⟨v, rfl, hown, hb⟩
      obtain ⟨A, c, rfl, hr⟩ := Rd.of_own hown
      exact ⟨A, c, rfl, hr, hb⟩
    have H1 := Lib.hid hone
    have H2 := Lib.hid htwo
    have hNi : ((6 : Int) + (sizeF xs : Nat)) ≤ n := by omega
    clear hone htwo hr1 h
    by_cases hcN : c = 6 + sizeF xs
    · have hnN : n = 6 + sizeF xs := by omega
      have h0 : xs.drop (6 + sizeF xs) = [] := List.drop_of_length_le (by rw [HL.out]; omega)
      have H0 := Lib.hid h0
      have HR2 : Hid (Rd w1 w.heap.size .u8 (some ⟨b, o, none⟩) 0 0 (xs.drop (6 + sizeF xs))) := Lib.hid (by rw [h0]; exact Rd.empty _)
      clear h0 hr0
      generalize hN : sizeF xs = N at *
      have HN := Lib.hid hN
      clear hN
      subst hcN
      subst hnN
      go_wp2_with fail
      go_region_with (first
        | (go_at_call_of 24 (Value.slice A1 N c1); refine (H1.out _ ((Below.refl _ _).drew)).mono ?_; rintro e wa ⟨Aa, ca, rfl, hra, hba⟩)
        | (go_at_call_of 24 (Value.slice (some ⟨b, o, none⟩) 0 0); refine (H2.out wa _ _ _ HR2.out (by omega) (((Below.refl _ _).drew).trans hba)).mono ?_; rintro e wb ⟨Ab, cb, rfl, hrb, hbb⟩))
      all_goals
        go_wp2_with fail
        go_ret3
        have hN := HN.out
        subst hN
        have hl := HL.out
        refine ⟨hb1.trans ((((Below.refl _ _).drew).trans (hba.trans (hbb.mono hba.size))).mono hb1.size), .inr ⟨HW.out, by omega, Aa, ca, Ab, cb, ?_, (hra.below hbb).more hbb.size, ?_⟩⟩
        · rw [show xs.length - (6 + sizeF xs) = 0 by omega]; rfl
        · rw [show xs.length - (6 + sizeF xs) = 0 by omega]; exact hrb
    · have HR2 := Lib.hid (hr0.drop hle)
      clear hr0
      generalize hN : sizeF xs = N at *
      have HN := Lib.hid hN
      clear hN
      go_wp2_with fail
      go_region_with (first
        | (go_at_call_of 24 (Value.slice A1 N c1); refine (H1.out _ ((Below.refl _ _).drew)).mono ?_; rintro e wa ⟨Aa, ca, rfl, hra, hba⟩)
        | (go_at_call 24; refine (H2.out wa _ _ _ HR2.out (by omega) (((Below.refl _ _).drew).trans hba)).mono ?_; rintro e wb ⟨Ab, cb, rfl, hrb, hbb⟩))
      all_goals
        go_wp2_with fail
        go_ret3
        have hN := HN.out
        subst hN
        have hl := HL.out
        subst hl
        exact ⟨hb1.trans ((((Below.refl _ _).drew).trans (hba.trans (hbb.mono hba.size))).mono hb1.size), .inr ⟨HW.out, hle, Aa, ca, Ab, cb, rfl, (hra.below hbb).more hbb.size, hrb⟩⟩
end Go.Proofs.Ytbdfhlgpbhcjcaa
