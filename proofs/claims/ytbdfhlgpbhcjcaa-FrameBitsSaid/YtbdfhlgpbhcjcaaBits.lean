/- What is proved here: 'FrameBits' returns true for any bytes, any place and any bit, whatever the memory in which it is called, and nothing that was there has changed. -/
import Derived.Test.YtbdfhlgpbhcjcaaAwake
import Derived.Laws.OwnMore
import Derived.Laws.BitsAllLaws
namespace Go.Proofs.Ytbdfhlgpbhcjcaa
open Go Go.RowKit

theorem upd_byte {s c d : Nat} (hs : s < 2 ^ 32) (hc : c < 256) (hd : d < 256) (h : upd s c = upd s d) : c = d := by
  have := upd_back hs hs hc hd (v := 0) (by rw [h, Nat.xor_self]) (by omega)
  rw [Nat.xor_self] at this
  exact xor_zero_iff (by omega)
theorem xor_right {a b c : Nat} (h : a ^^^ b = a ^^^ c) : b = c := by
  have : a ^^^ (a ^^^ b) = a ^^^ (a ^^^ c) := by rw [h]
  rwa [← Nat.xor_assoc, ← Nat.xor_assoc, Nat.xor_self, Nat.zero_xor, Nat.zero_xor] at this
theorem sumL_one {xs : List Int} {k : Nat} (hk : k < xs.length) (hx : ∀ x ∈ xs, 0 ≤ x ∧ x < 256) {z : Int} (hz : 0 ≤ z ∧ z < 256) (h : sumL (xs.set k z) = sumL xs) : z = xs[k] := by
  have h1 := xor_right h
  have e1 : xs = xs.take k ++ xs[k] :: xs.drop (k + 1) := by
    rw [← List.drop_eq_getElem_cons hk, List.take_append_drop]
  have e2 : xs.set k z = xs.take k ++ z :: xs.drop (k + 1) := by
    rw [List.set_eq_take_append_cons_drop, if_pos hk]
  have hb := hx xs[k] (List.getElem_mem _)
  have hs : crc 4294967295 (xs.take k) < 2 ^ 32 := crc_lt _ _ (by decide) (fun x hx' => hx x (List.mem_of_mem_take hx'))
  rw [e2] at h1
  conv at h1 => rhs; rw [e1]
  rw [crc_append, crc_append, crc_cons, crc_cons] at h1
  have h2 := crc_inj _ _ _ (upd_lt hs (by omega)) (upd_lt hs (by omega)) (fun x hx' => hx x (List.mem_of_mem_drop hx')) h1
  have h3 := upd_byte hs (by omega) (by omega) h2
  omega

theorem bit_turned (x bit : Int) (hx : 0 ≤ x ∧ x < 256) (_hb : 0 ≤ bit) : ∃ z, bits .xor .u8 x (2 ^ (bit % 8).toNat % 256) = z ∧ (0 ≤ z ∧ z < 256) ∧ z ≠ x := by
  obtain ⟨x, rfl⟩ : ∃ y : Nat, x = (y : Int) := ⟨x.toNat, by omega⟩
  obtain ⟨j, hj, hj8⟩ : ∃ j : Nat, (bit % 8).toNat = j ∧ j < 8 := ⟨_, rfl, by omega⟩
  rw [hj]
  have hp : (2 : Int) ^ j % 256 = ((2 ^ j : Nat) : Int) := by
    have h1 : (2 : Nat) ^ j ≤ 2 ^ 7 := Nat.pow_le_pow_right (by omega) (by omega)
    have h2 : (2 : Int) ^ j = ((2 ^ j : Nat) : Int) := by simp
    rw [h2]
    generalize (2 : Nat) ^ j = q at h1 ⊢
    omega
  have hlt : (2 : Nat) ^ j < 256 := by
    have h1 : (2 : Nat) ^ j ≤ 2 ^ 7 := Nat.pow_le_pow_right (by omega) (by omega)
    omega
  rw [hp, u8_xor_nat x (2 ^ j) (by omega) hlt]
  refine ⟨_, rfl, ?_, ?_⟩
  · have := xor_byte (a := x) (b := 2 ^ j) (by omega) hlt
    omega
  · intro e
    have e1 : x ^^^ 2 ^ j = x ^^^ 0 := by rw [Nat.xor_zero]; omega
    have := xor_right e1
    have := Nat.two_pow_pos j
    omega

set_option maxHeartbeats 1600000 in
set_option maxRecDepth 100000 in
theorem bits_short (A : Option Addr) (n c k : Nat) (bit : Int) (xs : List Int) (w : World) (h : Rd w w.heap.size .u8 A n c xs) (hx : ∀ x ∈ xs, 0 ≤ x ∧ x < 256) (hn : n ≤ 600) (hk : k < n) (hb0 : 0 ≤ bit) (hb1 : bit < 256) :
    Calls Try.prog 10 #[.slice A n c, .int .i64 k, .int .u8 bit] w fun e w' => e = .returned (.bool true) ∧ Below w.heap.size w w' := by
  obtain ⟨i0, hi, hz0, hz1, hz2⟩ := info_parts info_u8
  have h1 : ¬ ((600 : Int) < n) := by omega
  have h3 : decide ((600 : Int) < n) = false := by simpa using h1
  have h5 : decide ((k : Int) < 0) = false := by simp
  have h6 : decide ((n : Int) ≤ k) = false := by simp; omega
  have h7 : decide ((n : Int) ≤ (k : Int)) = false := by simp; omega
  have h8 : decide (n ≤ k) = false := by simp; omega
  have HX := Lib.hid hx
  have HL := Lib.hid h.len
  have HO0 := Lib.hid (fun (W : World) => World.ownsRow_lit (e := 5) (size := 1) W #[] 0 (Nat.le_refl _) (by decide) rfl)
  have HLEN : Hid ((xs.map (Value.int .u8)).length = n * 1) := Lib.hid (by rw [List.length_map, HL.out, Nat.mul_one])
  clear hx
  go_enter Try.func10, Try.ntmps10
  go_upto_region 4 with (at_builtin; refine wpList_append_src (o := ⟨some 24, _, _, _, _, _⟩) rfl _ _ 22 rfl w.heap.size 5 i0 _ 1 1 Try.underlying22 hi hz0 hz1 hz2 rfl (by omega) _ 0 [] rfl (HO0.out w) A n c (xs.map (Value.int .u8)) rfl HLEN.out h.nil (h.alloc (Nat.le_refl _) _).news (ints_oneCell _ _) (by unfold maxLen; omega) (by omega) (by simp) ?_; intro v2 w2 hown2 hg2)
  rw [List.nil_append, Nat.zero_add] at hown2
  obtain ⟨g, cap, rfl, hg1, hg2', _⟩ := own_place hown2 (by omega)
  have hcapm : n ≤ cap ∧ cap ≤ maxLen := by
    rcases hown2.2 with ⟨h', _⟩ | ⟨g', cap', cur, h', _, _, hnc, hcm, _⟩
    · cases h'
    · simp only [Value.slice.injEq] at h'
      omega
  obtain ⟨hcap1, hcap2⟩ := hcapm
  unfold maxLen at hcap2
  have hb2 : Below w.heap.size w w2 := ((Below.refl _ _).alloc (Nat.le_refl _) _).grown hg2 (by simp) (fun k hk => ((HO0.out w).lt k hk).1)
  have hkx : k < xs.length := by rw [HL.out]; exact hk
  have hcl : w2.cell? ⟨g, k, none⟩ = some (.int .u8 (xs.getD k 0)) := by
    rw [hown2.cellAt k (by omega), List.getElem?_map, List.getElem?_eq_getElem hkx, List.getD_eq_getElem?_getD, List.getElem?_eq_getElem hkx]
    rfl
  have hfr := hown2.frozenAt k
  have hkn : (k : Int) < n := by omega
  have hxk := HX.out (xs.getD k 0) (by rw [List.getD_eq_getElem?_getD, List.getElem?_eq_getElem hkx]; exact List.getElem_mem _)
  obtain ⟨z, hz, hzb, hzn⟩ := bit_turned (xs.getD k 0) bit hxk hb0
  have hne : (((sumL (xs.set k z) : Nat) : Int) != ((sumL xs : Nat) : Int)) = true := by
    rw [bne_iff_ne]
    intro e
    have e1 := sumL_one hkx HX.out hzb (by omega)
    rw [List.getD_eq_getElem?_getD, List.getElem?_eq_getElem hkx] at hzn
    exact hzn e1
  have HBY : Hid (∀ x ∈ xs.set k z, 0 ≤ x ∧ x < 256) := Lib.hid fun x hx' => by
    rcases List.mem_or_eq_of_mem_set hx' with hx' | rfl
    · exact HX.out x hx'
    · exact hzb
  have hst := hown2.stored k (.int .u8 z)
  rw [← List.map_set] at hst
  have HST := Lib.hid hst
  have HBS := Lib.hid (hb2.setCell (p := ⟨g, k, none⟩) hg1 (.int .u8 z))
  clear hkx hxk hst hzn
  generalize xs.getD k 0 = x at *
  go_upto_region 5 with fail
  have hown3 := HST.out.1
  have hb3 := HBS.out
  clear HST HBS hown2 hb2 hcl hfr hz
  generalize w2.setCell ⟨g, k, none⟩ (.int .u8 z) = w3 at *
  obtain ⟨A3, c3, hA3, hr3⟩ := Rd.of_own hown3
  obtain ⟨rfl, rfl⟩ : A3 = some ⟨g, 0, none⟩ ∧ c3 = cap := by simp only [Value.slice.injEq] at hA3; exact ⟨hA3.1.symm, hA3.2.2.symm⟩
  have H1 := Lib.hid (Sum_any _ _ _ _ w3 hr3 HBY.out (by omega))
  clear hown3 hA3 hr3
  generalize sumL (xs.set k z) = S1 at *
  go_wp2_with fail
  refine H1.out.mono ?_
  rintro e w4 ⟨rfl, hb4⟩
  have hb04 := hb3.trans (hb4.mono hb3.size)
  have H2 := Lib.hid (Sum_any A n c xs w4 ((h.below hb04).more hb04.size) HX.out (by omega))
  clear hb3 hb4 H1
  generalize hS2 : sumL xs = S2 at *
  have HS2 := Lib.hid hS2
  clear hS2
  go_wp2_with fail
  refine H2.out.mono ?_
  rintro e w5 ⟨rfl, hb5⟩
  have hb05 := hb04.trans (hb5.mono hb04.size)
  have hr5 := (h.below hb05).more hb05.size
  clear hb04 hb5 H2
  obtain ⟨b, o, rfl, _⟩ := h.cell (j := 0) (by omega)
  go_wp2_with (at_builtin; refine wpList_append_keep (o := ⟨some 42, _, _, _, _, _⟩) rfl _ _ 22 rfl w5.heap.size 5 i0 _ 1 Try.underlying22 hi hz0 hz1 hz2 rfl _ 0 [] rfl (HO0.out w5) ⟨b, o, none⟩ n c (xs.map (Value.int .u8)) rfl HLEN.out ((hr5.alloc (Nat.le_refl _) _).news _ rfl) (ints_oneCell _ _) (by unfold maxLen; omega) (by omega) (by simp) ?_; intro v6 w6 hown6 _ hg6)
  have hb6 : Below w5.heap.size w5 w6 := ((Below.refl _ _).alloc (Nat.le_refl _) _).grown hg6 (by simp) (fun k hk => ((HO0.out w5).lt k hk).1)
  rw [List.nil_append, Nat.zero_add] at hown6
  obtain ⟨A6, c6, rfl, hr6⟩ := Rd.of_own hown6
  have H3 := Lib.hid (Sum_any A6 n c6 xs w6 hr6 HX.out (by omega))
  rw [HS2.out] at H3
  have hb06 := hb05.trans (hb6.mono hb05.size)
  clear hown6 hr6 hb6 hr5 hb05
  go_wp2_with fail
  refine H3.out.mono ?_
  rintro e w7 ⟨rfl, hb7⟩
  have hb07 := hb06.trans (hb7.mono hb06.size)
  have H4 := Lib.hid (Sum_any _ n c xs w7 ((h.below hb07).more hb07.size) HX.out (by omega))
  rw [HS2.out] at H4
  clear hb06 hb7 H3
  go_wp2_with fail
  refine H4.out.mono ?_
  rintro e w8 ⟨rfl, hb8⟩
  have hb08 := hb07.trans (hb8.mono hb07.size)
  clear hb07 hb8 H4
  go_wp2_with fail
  refine (awake_any w8).mono ?_
  rintro e w9 ⟨rfl, hb9⟩
  go_wp2_with fail
  go_ret
  exact ⟨rfl, hb08.trans (hb9.mono hb08.size)⟩

theorem bits_any (A : Option Addr) (n c : Nat) (k bit : Int) (xs : List Int) (w : World) (h : Rd w w.heap.size .u8 A n c xs) (hx : ∀ x ∈ xs, 0 ≤ x ∧ x < 256) (hk : -9223372036854775808 ≤ k ∧ k ≤ 9223372036854775807) (hb0 : 0 ≤ bit) (hb1 : bit < 256) :
    Calls Try.prog 10 #[.slice A n c, .int .i64 k, .int .u8 bit] w fun e w' => e = .returned (.bool true) ∧ Below w.heap.size w w' := by
  by_cases hn : n ≤ 600
  · have h1 : ¬ ((600 : Int) < n) := by omega
    have h3 : decide ((600 : Int) < n) = false := by simpa using h1
    by_cases hk0 : 0 ≤ k
    · obtain ⟨k, rfl⟩ : ∃ j : Nat, k = (j : Int) := ⟨k.toNat, by omega⟩
      by_cases hkn : k < n
      · exact bits_short A n c k bit xs w h hx hn hkn hb0 hb1
      · have h5 : decide ((k : Int) < 0) = false := by simp
        have h6 : ((n : Int) ≤ k) := by omega
        have h7 : decide ((n : Int) ≤ (k : Int)) = true := by simp; omega
        have h8 : decide (n ≤ k) = true := by simp; omega
        go_enter Try.func10, Try.ntmps10
        go_wp2_with (go_at_call 11; refine (awake_any w).mono ?_; rintro e w1 ⟨rfl, hb1⟩)
        go_ret
        exact ⟨rfl, hb1⟩
    · have h5 : decide (k < 0) = true := by simp; omega
      have h6 : k < 0 := by omega
      go_enter Try.func10, Try.ntmps10
      go_wp2_with (go_at_call 11; refine (awake_any w).mono ?_; rintro e w1 ⟨rfl, hb1⟩)
      go_ret
      exact ⟨rfl, hb1⟩
  · have h1 : ((600 : Int) < n) := by omega
    go_enter Try.func10, Try.ntmps10
    go_wp2_with (go_at_call 11; refine (awake_any w).mono ?_; rintro e w1 ⟨rfl, hb1⟩)
    go_ret
    exact ⟨rfl, hb1⟩
end Go.Proofs.Ytbdfhlgpbhcjcaa
