/- What is proved here: 'FrameSeals' returns true for any two rows of bytes, whatever the memory in which it is called, and nothing that was there has changed. -/
import Derived.Test.YtbdfhlgpbhcjcaaRefSeal
namespace Go.Proofs.Ytbdfhlgpbhcjcaa
open Go Go.RowKit

set_option maxHeartbeats 3200000 in
set_option maxRecDepth 100000 in
theorem seals_short (A B : Option Addr) (n c m d : Nat) (xs rs : List Int) (w : World) (h : Rd w w.heap.size .u8 A n c xs) (hx : ∀ x ∈ xs, 0 ≤ x ∧ x < 256) (k : Rd w w.heap.size .u8 B m d rs) (hr : ∀ x ∈ rs, 0 ≤ x ∧ x < 256) (hn : n ≤ 600) (hm : m ≤ 600) :
    Calls Try.prog 4 #[.slice A n c, .slice B m d] w fun e w' => e = .returned (.bool true) ∧ Below w.heap.size w w' := by
  obtain ⟨i0, hi, hz0, hz1, hz2⟩ := info_parts info_u8
  have h1 : ¬ ((600 : Int) < n) := by omega
  have h1' : decide ((600 : Int) < n) = false := by simpa using h1
  have h2 : ¬ ((600 : Int) < m) := by omega
  have h2' : decide ((600 : Int) < m) = false := by simpa using h2
  have h3 : ¬ ((4096 : Int) < n) := by omega
  have HX := Lib.hid hx
  have HR := Lib.hid hr
  have HL := Lib.hid h.len
  have HLR := Lib.hid k.len
  have HO0 := Lib.hid (fun (W : World) => World.ownsRow_lit (e := 5) (size := 1) W #[] 0 (Nat.le_refl _) (by decide) rfl)
  have HSL : Hid ((List.map (Value.int .u8) (sealF xs)).length = (n + 6) * 1) := Lib.hid (by rw [List.length_map, sealF_length, HL.out, Nat.mul_one])
  have HRL : Hid ((List.map (Value.int .u8) rs).length = m * 1) := Lib.hid (by rw [List.length_map, HLR.out, Nat.mul_one])
  clear hx hr
  go_enter Try.func4, Try.ntmps4
  go_wp2_with fail
  refine (Seal_any A n c xs w h HX.out (by omega)).mono ?_
  rintro e w1 ⟨v1, rfl, hown1, hb1⟩
  obtain ⟨A1, c1, rfl, hr1⟩ := Rd.of_own hown1
  have hz01 := hb1.size
  have hk1 := (k.below hb1).more hz01
  clear hown1
  go_wp2_with (first
    | (at_builtin; refine wpList_append_src (o := ⟨some 45, _, _, _, _, _⟩) rfl _ _ 22 rfl w1.heap.size 5 i0 _ 1 1 Try.underlying22 hi hz0 hz1 hz2 rfl (by omega) _ 0 [] rfl (HO0.out w1) A1 (n + 6) c1 (List.map (Value.int .u8) (sealF xs)) rfl HSL.out hr1.nil (hr1.alloc (Nat.le_refl _) _).news (ints_oneCell _ _) (by unfold maxLen; omega) (by omega) (by simp) ?_; intro v2 w2 hown2 hg2; have hb2 : Below w1.heap.size w1 w2 := ((Below.refl _ _).alloc (Nat.le_refl _) _).grown hg2 (by simp) (fun k hk => ((HO0.out w1).lt k hk).1); have hz2' := hb2.size; have hk2 := hk1.below hb2)
    | (at_builtin; refine wpList_append_src (o := ⟨some 47, _, _, _, _, _⟩) rfl _ _ 22 rfl w1.heap.size 5 i0 _ 1 1 Try.underlying22 hi hz0 hz1 hz2 rfl (by omega) _ (0 + (n + 6)) ([] ++ List.map (Value.int .u8) (sealF xs)) rfl hown2 B m d (rs.map (Value.int .u8)) rfl HRL.out k.nil hk2.news (ints_oneCell _ _) (by unfold maxLen; omega) (by omega) hz2' ?_; intro v3 w3 hown3 hg3))
  have hb3 : Below w1.heap.size w1 w3 := hb2.grown hg3 hz2' (fun k hk => (hown2.lt k hk).1)
  rw [List.nil_append, Nat.zero_add, ← List.map_append] at hown3
  obtain ⟨A3, c3, rfl, hr3⟩ := Rd.of_own hown3
  have hxs : xs.length < 65536 := by rw [HL.out]; omega
  have HW := Lib.hid (seal_why (xs := xs) (by rw [HL.out]; omega) HX.out rs)
  have HSZ : Hid (sizeF (sealF xs ++ rs) = n) := Lib.hid (by rw [seal_size hxs, HL.out])
  have HBD := Lib.hid (seal_body (xs := xs) hxs rs)
  have HRS := Lib.hid (seal_rest (xs := xs) hxs rs)
  have HLX : Hid ((sealF xs ++ rs).length - (6 + n) = m) := Lib.hid (by rw [List.length_append, sealF_length, HL.out, HLR.out]; omega)
  have HNX := Lib.hid (Next_any A3 (n + 6 + m) c3 _ w3 hr3 (bytes_app (sealF_bytes HX.out) HR.out) (by omega))
  clear hr3 hown3 hown2 hg3 hg2 hb2 hxs hk2 hz2'
  refine HNX.out.mono ?_
  rintro e w4 ⟨hb4, ⟨h0, _⟩ | ⟨_, _, A4, c4, A5, c5, rfl, hr4, hr5⟩⟩
  · exact absurd HW.out h0
  · rw [HBD.out, HSZ.out] at hr4
    rw [HRS.out, HSZ.out, HLX.out] at hr5
    rw [HSZ.out, HLX.out]
    have hb14 : Below w1.heap.size w1 w4 := hb3.trans (hb4.mono hb3.size)
    have hb04 := hb1.trans (hb14.mono hz01)
    have hz04 := hb04.size
    have hr14 := (hr1.below hb14).more hb14.size
    clear HNX HW HSZ HBD HRS HLX hb3 hb4 hb14 hb1 hr1 hk1
    have h04 := (h.below hb04).more hz04
    have HRF := Lib.hid (refSeal_any A n c xs w4 h04 HX.out (by omega))
    go_wp2_with fail
    refine HRF.out.mono ?_
    rintro e w5 ⟨v5, rfl, hown5, hb5⟩
    obtain ⟨A6, c6, rfl, hr6⟩ := Rd.of_own hown5
    have hb05 := hb04.trans (hb5.mono hz04)
    have hz05 := hb05.size
    have H1 := Lib.hid (by
      have := Equal_any A1 A6 (n + 6) c1 (n + 6) c6 _ _ (sealF xs) (sealF xs) w5 (hr14.below hb5) hr6 (sealF_bytes HX.out) (sealF_bytes HX.out)
      rwa [decide_eq_true rfl] at this)
    have H2 := Lib.hid (by
      have := Equal_any A4 A n c4 n c _ _ xs xs w5 (hr4.below hb5) (h.below hb05) HX.out HX.out
      rwa [decide_eq_true rfl] at this)
    have H3 := Lib.hid (by
      have := Equal_any A5 B m c5 m d _ _ rs rs w5 (hr5.below hb5) (k.below hb05) HR.out HR.out
      rwa [decide_eq_true rfl] at this)
    clear hown5 hr6 hr4 hr5 hr14 h04 HRF hb5 hb04
    go_wp2_with fail
    refine H1.out.mono ?_
    rintro e w5' ⟨rfl, rfl⟩
    go_wp2_with fail
    refine H2.out.mono ?_
    rintro e w5' ⟨rfl, rfl⟩
    go_wp2_with fail
    refine H3.out.mono ?_
    rintro e w5' ⟨rfl, rfl⟩
    clear H1 H2 H3
    go_wp2_with fail
    refine (awake_any w5).mono ?_
    rintro e w7 ⟨rfl, hb7⟩
    go_wp2_with fail
    go_ret
    exact ⟨rfl, hb05.trans (hb7.mono hz05)⟩

set_option maxHeartbeats 800000 in
theorem seals_any (A B : Option Addr) (n c m d : Nat) (xs rs : List Int) (w : World) (h : Rd w w.heap.size .u8 A n c xs) (hx : ∀ x ∈ xs, 0 ≤ x ∧ x < 256) (k : Rd w w.heap.size .u8 B m d rs) (hr : ∀ x ∈ rs, 0 ≤ x ∧ x < 256) :
    Calls Try.prog 4 #[.slice A n c, .slice B m d] w fun e w' => e = .returned (.bool true) ∧ Below w.heap.size w w' := by
  by_cases hm : m ≤ 600
  · have h2 : ¬ ((600 : Int) < m) := by omega
    have h2' : decide ((600 : Int) < m) = false := by simpa using h2
    by_cases hn : n ≤ 600
    · exact seals_short A B n c m d xs rs w h hx k hr hn hm
    · have h1 : ((600 : Int) < n) := by omega
      have h1' : decide ((600 : Int) < n) = true := by simpa using h1
      by_cases hn4 : n ≤ 4096
      · have h4 : ((n : Int) ≤ 4096) := by omega
        have h4' : decide ((n : Int) ≤ 4096) = true := by simpa using h4
        go_enter Try.func4, Try.ntmps4
        go_wp2_with (go_at_call 11; refine (awake_any w).mono ?_; rintro e w1 ⟨rfl, hb1⟩)
        go_ret
        exact ⟨rfl, hb1⟩
      · have h4 : ¬ ((n : Int) ≤ 4096) := by omega
        have h4' : decide ((n : Int) ≤ 4096) = false := by simpa using h4
        have h5 : ((4096 : Int) < n) := by omega
        go_enter Try.func4, Try.ntmps4
        go_wp2_with fail
        refine (Seal_no A n c xs _ w h (by omega)).mono ?_
        rintro e w1 ⟨rfl, rfl⟩
        go_wp2_with fail
        refine (awake_any w).mono ?_
        rintro e w1 ⟨rfl, hb1⟩
        go_wp2_with fail
        go_ret
        exact ⟨rfl, hb1⟩
  · have h2 : ((600 : Int) < m) := by omega
    have h2' : decide ((600 : Int) < m) = true := by simpa using h2
    by_cases hn : n ≤ 600
    · have h1 : ¬ ((600 : Int) < n) := by omega
      have h1' : decide ((600 : Int) < n) = false := by simpa using h1
      go_enter Try.func4, Try.ntmps4
      go_wp2_with (go_at_call 11; refine (awake_any w).mono ?_; rintro e w1 ⟨rfl, hb1⟩)
      go_ret
      exact ⟨rfl, hb1⟩
    · have h1 : ((600 : Int) < n) := by omega
      have h1' : decide ((600 : Int) < n) = true := by simpa using h1
      by_cases hn4 : n ≤ 4096
      · have h4 : ((n : Int) ≤ 4096) := by omega
        have h4' : decide ((n : Int) ≤ 4096) = true := by simpa using h4
        go_enter Try.func4, Try.ntmps4
        go_wp2_with (go_at_call 11; refine (awake_any w).mono ?_; rintro e w1 ⟨rfl, hb1⟩)
        go_ret
        exact ⟨rfl, hb1⟩
      · have h4 : ¬ ((n : Int) ≤ 4096) := by omega
        have h4' : decide ((n : Int) ≤ 4096) = false := by simpa using h4
        go_enter Try.func4, Try.ntmps4
        go_wp2_with (go_at_call 11; refine (awake_any w).mono ?_; rintro e w1 ⟨rfl, hb1⟩)
        go_ret
        exact ⟨rfl, hb1⟩
end Go.Proofs.Ytbdfhlgpbhcjcaa
