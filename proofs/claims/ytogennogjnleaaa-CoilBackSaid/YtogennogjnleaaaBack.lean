/- What is proved here: 'CoilBack' returns true for any number, any text and any list, whatever the memory in which it is called, and nothing that was there has changed. -/
import Derived.Test.YtogennogjnleaaaBackMath
import Derived.Test.YtogennogjnleaaaRowsLaw
import Derived.Deep.QuietTactic
import Derived.BigQuiet
namespace Go.Proofs.Ytogennogjnleaaa
open Go Go.RowKit

set_option maxHeartbeats 800000 in
set_option maxRecDepth 100000 in
theorem same_any (A : Option Addr) (n c : Nat) (A2 : Option Addr) (d B1 B2 : Nat) (l : List Int) (w : World) (h : Rd w B1 .i64 A n c l) (k : Rd w B2 .i64 A2 n d l) (hB1 : B1 ≤ w.heap.size) (hB2 : B2 ≤ w.heap.size) (hn : n ≤ 1000000) :
    Calls Try.prog 19 #[.slice A n c, .slice A2 n d] w fun e w' => e = .returned (.bool true) ∧ Below w.heap.size w w' := by
  go_enter Try.func19, Try.ntmps19
  go_wp2
  go_loopw [13] (fun v13 wr => ∃ j : Nat, v13 = .int .i64 j ∧ j ≤ n ∧ Below w.heap.size w wr) (fun i _ => n - (intOf i).toNat)
  case atStart => exact ⟨0, rfl, Nat.zero_le _, Below.refl _ _⟩
  case round =>
    obtain ⟨j, rfl, hj, hb⟩ := hrel
    by_cases hlt : j < n
    · obtain ⟨b, o, rfl, hbl, hcell⟩ := h.cell hlt
      obtain ⟨b2, o2, rfl, hbl2, hcell2⟩ := k.cell hlt
      have hc1 := (hb.cell (p := ⟨b, o + j, none⟩) (show b < _ by omega)).trans hcell
      have hc2 := (hb.cell (p := ⟨b2, o2 + j, none⟩) (show b2 < _ by omega)).trans hcell2
      clear hcell hcell2
      generalize l.getD j 0 = x at *
      have j0 : (0 : Int) ≤ j := by omega
      have j1 : (j : Int) < n := by omega
      go_wp2
      go_region
      all_goals
        go_wp2
        go_roundw
        case rel => exact ⟨j + 1, by go_num, by omega, hb.drew⟩
        case measure => simp [intOf]; omega
    · go_wp2
      go_ret
      exact ⟨rfl, hb⟩

set_option maxHeartbeats 2000000 in
set_option maxRecDepth 100000 in
theorem back_short (x : Int) (s : ByteArray) (A : Option Addr) (m d : Nat) (l : List Int) (w : World) (hlo : 0 ≤ x) (hhi : x ≤ 9223372036854775807) (hl : Rd w w.heap.size .i64 A m d l) (hr : ∀ x ∈ l, -9223372036854775808 ≤ x ∧ x ≤ 9223372036854775807) (hs : s.size ≤ 400) (hm : m ≤ 400) :
    Calls Try.prog 4 #[.int .i64 x, .string s, .slice A m d] w fun e w' => e = .returned (.bool true) ∧ Below w.heap.size w w' := by
  have HL := Lib.hid hl.len
  have HR := Lib.hid hr
  clear hr
  go_enter Try.func4, Try.ntmps4
  go_wp2_with fail
  go_loop [28] (fun v28 => ∃ j : Nat, v28 = .int .i64 j ∧ j ≤ m ∧ Hid (∀ k, k < j → 0 ≤ l.getD k 0)) (fun i => m - (intOf i).toNat)
  case atStart => exact ⟨0, rfl, Nat.zero_le _, Lib.hid (fun k hk => absurd hk (by omega))⟩
  case round =>
    obtain ⟨j, rfl, hj, hpos⟩ := hrel
    by_cases hlt : j < m
    · obtain ⟨b, o, rfl, hbl, hcell⟩ := hl.cell hlt
      by_cases hneg : l.getD j 0 < 0
      · generalize l.getD j 0 = y at *
        go_wp2_with fail
        refine (awake_any w).mono ?_
        rintro e w5 ⟨rfl, hb5⟩
        go_wp2_with fail
        go_ret
        exact ⟨rfl, hb5⟩
      · have hpos' : Hid (∀ k, k < j + 1 → 0 ≤ l.getD k 0) := Lib.hid (fun k hk => by
          rcases Nat.lt_succ_iff_lt_or_eq.1 hk with h | h
          · exact hpos.out k h
          · subst h; omega)
        generalize l.getD j 0 = y at *
        go_wp2_with fail
        go_round
        case rel => exact ⟨j + 1, by go_num, by omega, hpos'⟩
        case measure => simp [intOf]; omega
    · have hjm : j = m := by omega
      have hall : ∀ x ∈ l, 0 ≤ x ∧ x ≤ 9223372036854775807 := fun x hx => by
        obtain ⟨k, hk, rfl⟩ := List.mem_iff_getElem.1 hx
        have h1 := hpos.out k (by rw [HL.out] at hk; omega)
        rw [List.getD_eq_getElem?_getD, List.getElem?_eq_getElem hk] at h1
        exact ⟨h1, (HR.out _ hx).2⟩
      have HALL := Lib.hid hall
      clear hall hpos hjm
      have h9 : (enc x.toNat).length ≤ 9 := enc_len9 (by omega)
      have t9 : (enc s.size).length ≤ 9 := enc_len9 (by omega)
      have m9 : (enc m).length ≤ 9 := enc_len9 (by omega)
      have hnl := Lib.hid (nums_length s)
      have hen : (encAll l).length ≤ 4000 := by
        have h2 := encAll_len l (fun x hx => (HALL.out x hx).2)
        rw [HL.out] at h2
        omega
      go_wp2_with fail
      refine (Num_any none 0 0 [] x w (Rd.none_ _ _ _) (by omega) (by omega) hhi).mono ?_
      rintro e w1 ⟨v1, rfl, hown1, hb1⟩
      rw [List.nil_append] at hown1
      obtain ⟨A1, n1, c1, rfl, hr1⟩ := Rd.of_own' hown1
      have hn1 : n1 ≤ 9 := by rw [← hr1.len]; exact h9
      clear hown1
      go_wp2_with fail
      refine (Text_any A1 n1 c1 _ s w1 hr1 (by omega) (by omega)).mono ?_
      rintro e w2 ⟨v2, rfl, hown2, hb2⟩
      obtain ⟨A2, n2, c2, rfl, hr2⟩ := Rd.of_own' hown2
      have hn2 : n2 ≤ 500 := by rw [← hr2.len]; simp only [List.length_append, hnl.out]; omega
      clear hown2 hr1
      have hb12 := hb1.trans (hb2.mono hb1.size)
      have hz12 := hb12.size
      clear hb1 hb2
      go_wp2_with fail
      refine (Nums_any A2 n2 c2 _ A m d l w2 hr2 ((hl.below hb12).more hz12) (by omega) (by omega) HR.out).mono ?_
      rintro e w3 ⟨v3, rfl, hown3, hb3⟩
      obtain ⟨A3, n3, c3, rfl, hr3⟩ := Rd.of_own' hown3
      have hn3 : n3 ≤ 10000 := by rw [← hr3.len]; simp only [List.length_append, hnl.out]; omega
      clear hown3 hr2
      have hb13 := hb12.trans (hb3.mono hz12)
      have hz13 := hb13.size
      clear hb12 hb3
      go_wp2_with fail
      refine (Of_any A3 n3 c3 _ w3 hr3 (by omega)).mono ?_
      rintro e w4 ⟨g, A4, c4, rfl, hg, hrd, hb4⟩
      have hb14 := hb13.trans (hb4.mono hz13)
      have hz14 := hb14.size
      clear hb13 hb4 hr3
      have hX : ∀ y ∈ ((enc x.toNat ++ (enc s.size ++ nums s)) ++ (enc m ++ encAll l)), 0 ≤ y ∧ y < 256 := app_bytes (app_bytes (enc_bytes _) (app_bytes (enc_bytes _) (nums_bytes _))) (app_bytes (enc_bytes _) (encAll_bytes _))
      have g1 : goNum ((enc x.toNat ++ (enc s.size ++ nums s)) ++ (enc m ++ encAll l)) 0 0 = (x.toNat, (enc x.toNat).length, 0) := by
        rw [List.append_assoc]
        exact goNum_enc _ _ (by omega)
      have g2 : goText ((enc x.toNat ++ (enc s.size ++ nums s)) ++ (enc m ++ encAll l)) (enc x.toNat).length 0 (s.size : Int) = (nums s, (enc x.toNat).length + ((enc s.size).length + s.size), 0) := goText_enc _ _ _ (by omega)
      have g3 : goNums ((enc x.toNat ++ (enc s.size ++ nums s)) ++ (enc m ++ encAll l)) ((enc x.toNat).length + ((enc s.size).length + s.size)) 0 (m : Int) = (l, (enc x.toNat).length + ((enc s.size).length + s.size) + ((enc m).length + (encAll l).length), 0) := by
        have h := goNums_enc (enc x.toNat ++ (enc s.size ++ nums s)) l (by rw [HL.out]; omega) HALL.out
        rw [HL.out] at h
        rw [show (enc x.toNat ++ (enc s.size ++ nums s)).length = (enc x.toNat).length + ((enc s.size).length + s.size) by rw [List.length_append, List.length_append, hnl.out]] at h
        exact h
      have hlen : n3 = (enc x.toNat).length + ((enc s.size).length + s.size) + ((enc m).length + (encAll l).length) := by
        rw [← hrd.2.len]
        simp only [List.length_append, hnl.out]
      have G2 := Lib.hid g2
      have G3 := Lib.hid g3
      have HLEN := Lib.hid hlen
      have HX := Lib.hid hX
      clear g2 g3 hX hnl
      have H1 := ReaderNum_any g A4 n3 c4 _ 0 0 w4 hrd (.inl rfl) HX.out (by omega) (by omega)
      rw [g1, show ((x.toNat : Nat) : Int) = x from Int.toNat_of_nonneg hlo] at H1
      have HH1 := Lib.hid H1
      clear H1 g1 hlen
      generalize (enc x.toNat ++ (enc s.size ++ nums s)) ++ (enc m ++ encAll l) = X at *
      generalize hp1 : (enc x.toNat).length = P1 at *
      have HP1 := Lib.hid hp1
      clear hp1
      have hp2 : P1 + ((enc s.size).length + s.size) ≤ n3 := by rw [HLEN.out]; omega
      generalize hq2 : P1 + ((enc s.size).length + s.size) = P2 at *
      have HQ2 := Lib.hid hq2
      clear hq2
      have hp1' : P1 ≤ n3 := by rw [← HQ2.out] at hp2; omega
      rw [← HLEN.out] at G3
      clear HLEN
      go_wp2_with fail
      refine HH1.out.mono ?_
      rintro e w5 ⟨rfl, hrd1, hgr1⟩
      clear HH1
      have H2 := ReaderText_any g A4 n3 c4 X P1 0 w5 hrd1 (.inl rfl) HX.out (by omega) hp1' (s.size : Int)
      rw [G2.out, strOfNums_nums] at H2
      have HH2 := Lib.hid H2
      clear H2
      go_wp2_with fail
      refine HH2.out.mono ?_
      rintro e w6 ⟨rfl, hrd2, hgr2⟩
      clear HH2
      have H3 := ReaderNums_any g A4 n3 c4 X P2 0 w6 hrd2 (.inl rfl) HX.out (by omega) hp2 (m : Int)
      rw [G3.out] at H3
      have HH3 := Lib.hid H3
      clear H3
      go_wp2_with fail
      refine HH3.out.mono ?_
      rintro e w7 ⟨r, rfl, hown, hrd3, hgr3⟩
      clear HH3
      rw [HL.out] at hown
      obtain ⟨A7, c7, rfl, hrr⟩ := Rd.of_own hown
      have hz5 := hgr1.size
      have hz6 := hgr2.size
      have hz7 := hgr3.size
      have hb17 : Below w.heap.size w w7 := ((hb14.trans (below_grow hgr1 (by omega) hz14)).trans (below_grow hgr2 (by omega) (by omega))).trans (below_grow hgr3 (by omega) (by omega))
      clear hown hgr1 hgr2 hgr3 hrd hrd1 hrd2
      go_wp2_with fail
      refine (same_any A7 m c7 A d _ _ l w7 hrr (hl.below hb17) (Nat.le_refl _) hb17.size (by omega)).mono ?_
      rintro e w8 ⟨rfl, hb8⟩
      have hrd4 := hrd3.keep hb8
      go_wp2_with fail
      refine (Done_fine g A4 n3 c4 X w8 hrd4 (by omega)).mono ?_
      rintro e w9 ⟨rfl, hb9⟩
      have hz17 := hb17.size
      have hz8 := hb8.size
      have hb19 : Below w.heap.size w w9 := (hb17.trans (hb8.mono hz17)).trans (hb9.mono (by omega))
      go_wp2_with fail
      refine (awake_any w9).mono ?_
      rintro e w10 ⟨rfl, hb10⟩
      go_wp2_with fail
      go_ret
      exact ⟨rfl, hb19.trans (hb10.mono hb19.size)⟩

set_option maxHeartbeats 400000 in
theorem back_any (x : Int) (s : ByteArray) (A : Option Addr) (m d : Nat) (l : List Int) (w : World) (hlo : -9223372036854775808 ≤ x) (hhi : x ≤ 9223372036854775807) (hl : Rd w w.heap.size .i64 A m d l) (hr : ∀ x ∈ l, -9223372036854775808 ≤ x ∧ x ≤ 9223372036854775807) (hs : s.size ≤ maxLen) :
    Calls Try.prog 4 #[.int .i64 x, .string s, .slice A m d] w fun e w' => e = .returned (.bool true) ∧ Below w.heap.size w w' := by
  unfold maxLen at hs
  have hm3 := hl.cap
  have hm4 := hl.max
  unfold maxLen at hm4
  by_cases h0 : 0 ≤ x
  · by_cases h2 : s.size ≤ 400
    · by_cases h3 : m ≤ 400
      · exact back_short x s A m d l w h0 hhi hl hr h2 h3
      · have h3' : (400 : Int) < m := by omega
        clear hr
        go_enter Try.func4, Try.ntmps4
        go_wp2_with (go_at_call 7; refine (awake_any w).mono ?_; rintro e w1 ⟨rfl, hb1⟩)
        go_ret
        exact ⟨rfl, hb1⟩
    · have h2' : (400 : Int) < s.size := by omega
      clear hr
      go_enter Try.func4, Try.ntmps4
      go_wp2_with (go_at_call 7; refine (awake_any w).mono ?_; rintro e w1 ⟨rfl, hb1⟩)
      go_ret
      exact ⟨rfl, hb1⟩
  · clear hr
    have h0' : x < 0 := by omega
    go_enter Try.func4, Try.ntmps4
    go_wp2_with (go_at_call 7; refine (awake_any w).mono ?_; rintro e w1 ⟨rfl, hb1⟩)
    go_ret
    exact ⟨rfl, hb1⟩
end Go.Proofs.Ytogennogjnleaaa
