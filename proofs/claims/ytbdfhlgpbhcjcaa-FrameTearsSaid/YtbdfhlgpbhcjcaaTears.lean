/- What is proved here: 'FrameTears' returns true for any bytes, any two places and any four bytes, whatever the memory in which it is called, and nothing that was there has changed. -/
import Derived.Test.YtbdfhlgpbhcjcaaAwake
import Derived.Test.YtbdfhlgpbhcjcaaTearMath
import Derived.Laws.OwnMore
import Derived.StillTailTactics
import Derived.Deep.DeepCutAuto
import Derived.Laws.BitsAllLaws
namespace Go.Proofs.Ytbdfhlgpbhcjcaa
open Go Go.RowKit

theorem cut_why {xs : List Int} (hn : xs.length ≤ 4096) {j : Nat} (hj : j < xs.length + 6) : whyF ((sealF xs).take j) = 3 := by
  have hl : ((sealF xs).take j).length = j := by rw [List.length_take, sealF_length]; omega
  unfold whyF
  rw [hl]
  by_cases h6 : j < 6
  · rw [if_pos h6]
  · have hsz : sizeF ((sealF xs).take j) = xs.length := by
      unfold sizeF
      rw [List.take_take, Nat.min_eq_left (by omega)]
      have := seal_take2 xs []
      rw [List.append_nil] at this
      rw [this, headF_low (by omega)]
    rw [if_neg h6, hsz, if_neg (by omega), if_pos (by omega)]

set_option maxHeartbeats 3200000 in
set_option maxRecDepth 100000 in
theorem tears_short (A : Option Addr) (n c a q : Nat) (x0 x1 x2 x3 : Int) (xs : List Int) (w : World) (h : Rd w w.heap.size .u8 A n c xs) (hx : ∀ x ∈ xs, 0 ≤ x ∧ x < 256) (hn : n ≤ 600) (ha : 2 ≤ a) (ha2 : a ≤ 9223372036854775807) (hq2 : q ≤ 9223372036854775807)
    (hxx : ∀ y ∈ [x0, x1, x2, x3], 0 ≤ y ∧ y < 256) :
    Calls Try.prog 6 #[.slice A n c, .int .i64 a, .int .i64 q, .agg #[.int .u8 x0, .int .u8 x1, .int .u8 x2, .int .u8 x3]] w fun e w' => e = .returned (.bool true) ∧ Below w.heap.size w w' := by
  obtain ⟨i0, hi, hz0, hz1, hz2⟩ := info_parts info_u8
  have h1 : ¬ ((600 : Int) < n) := by omega
  have h3 : decide ((600 : Int) < n) = false := by simpa using h1
  have h4 : decide ((a : Int) < 2) = false := by simp; omega
  have h4' : ¬ ((a : Int) < 2) := by omega
  have h5 : decide ((q : Int) < 0) = false := by simp
  have h5' : ¬ ((q : Int) < 0) := by omega
  have HX := Lib.hid hx
  have HL := Lib.hid h.len
  have HXX := Lib.hid hxx
  have HO0 := Lib.hid (fun (W : World) => World.ownsRow_lit (e := 5) (size := 1) W #[] 0 (Nat.le_refl _) (by decide) rfl)
  have hb0 : Below w.heap.size w (w.alloc (.cells #[.int .u8 x0, .int .u8 x1, .int .u8 x2, .int .u8 x3] 39)) := (Below.refl _ _).alloc (Nat.le_refl _) _
  have hr0 := (h.below hb0).more hb0.size
  have hxc : Hid (∀ j, j < 4 → (w.alloc (.cells #[.int .u8 x0, .int .u8 x1, .int .u8 x2, .int .u8 x3] 39)).cell? ⟨w.heap.size, j, none⟩ = some (.int .u8 ([x0, x1, x2, x3].getD j 0))) := Lib.hid fun j hj => by
    rw [World.cell?_alloc_at _ _ _ _ rfl]
    iterate 4 (rcases j with _ | j; · rfl)
    omega
  have hbs : w.heap.size < (w.alloc (.cells #[.int .u8 x0, .int .u8 x1, .int .u8 x2, .int .u8 x3] 39)).heap.size := by simp
  clear hx hxx
  go_enter Try.func6, Try.ntmps6
  go_upto_region 3 with fail
  generalize w.alloc (.cells #[.int .u8 x0, .int .u8 x1, .int .u8 x2, .int .u8 x3] 39) = wa at *
  go_wp2_with fail
  refine (Seal_any A n c xs wa hr0 HX.out (by omega)).mono ?_
  rintro e w1 ⟨v1, rfl, hown1, hb1⟩
  obtain ⟨A1, c1, rfl, hr1⟩ := Rd.of_own hown1
  have hb01 := hb0.trans (hb1.mono hb0.size)
  have hz01 := hb01.size
  have hza1 := hb1.size
  have hxc1 : Hid (∀ j, j < 4 → w1.cell? ⟨w.heap.size, j, none⟩ = some (.int .u8 ([x0, x1, x2, x3].getD j 0))) := Lib.hid fun j hj => (hb1.cell (p := ⟨w.heap.size, j, none⟩) hbs).trans (hxc.out j hj)
  have HLEN : Hid ((List.map (Value.int .u8) (sealF xs)).length = (n + 6) * 1) := Lib.hid (by rw [List.length_map, sealF_length, HL.out, Nat.mul_one])
  clear hown1 hxc hb0 hr0 hb1
  go_upto_region 7 with (at_builtin; refine wpList_append_src (o := ⟨some 40, _, _, _, _, _⟩) rfl _ _ 22 rfl w1.heap.size 5 i0 _ 1 1 Try.underlying22 hi hz0 hz1 hz2 rfl (by omega) _ 0 [] rfl (HO0.out w1) A1 (n + 6) c1 (List.map (Value.int .u8) (sealF xs)) rfl HLEN.out hr1.nil (hr1.alloc (Nat.le_refl _) _).news (ints_oneCell _ _) (by unfold maxLen; omega) (by omega) (by simp) ?_; intro v2 w2 hown2 hg2)
  rw [List.nil_append, Nat.zero_add] at hown2
  have hb2 : Below w1.heap.size w1 w2 := ((Below.refl _ _).alloc (Nat.le_refl _) _).grown hg2 (by simp) (fun k hk => ((HO0.out w1).lt k hk).1)
  have HSL : Hid ((sealF xs).length = n + 6) := Lib.hid (by rw [sealF_length, HL.out])
  have hN1 : n + 6 ≤ 606 := by omega
  have hN2 : 6 ≤ n + 6 := by omega
  generalize hNe : n + 6 = N at *
  have HNE := Lib.hid hNe
  clear hNe
  obtain ⟨g, cap, rfl, hg1, hg3, _⟩ := own_place hown2 (by omega)
  have hcapm : N ≤ cap ∧ cap ≤ maxLen := by
    rcases hown2.2 with ⟨h', _⟩ | ⟨g', cap', cur, h', _, _, hnc, hcm, _⟩
    · cases h'
    · simp only [Value.slice.injEq] at h'
      omega
  obtain ⟨hcap1, hcap2⟩ := hcapm
  unfold maxLen at hcap2
  clear hg2 HLEN
  go_wp2_with fail
  go_loopw [41] (fun i wr => ∃ k : Nat, i = .int .i64 k ∧ k ≤ 4 ∧ wr.ownsRow w1.heap.size 5 1 (.slice (some ⟨g, 0, none⟩) N cap) N ((tear (sealF xs) a [x0, x1, x2, x3] k).map (Value.int .u8)) ∧ Below w1.heap.size w1 wr)
    (fun i _ => 4 - (intOf i).toNat)
  case atStart => exact ⟨0, rfl, by omega, hown2, hb2⟩
  case round =>
    obtain ⟨k, rfl, hk, hown3, hb3⟩ := hrel
    clear hown2 hb2
    by_cases hk4 : k < 4
    · go_upto_region 10 with fail
      go_cut [65] (fun s65 wx => s65 = .bool (tornB (sealF xs) a k) ∧ wx = wr)
      case first =>
        have HTB : Hid (tornB (sealF xs) a k = decide (a ≤ N ∧ a + k < N ∧ (6 ≤ a ∨ a + k < 6))) := Lib.hid (by unfold tornB; rw [HSL.out])
        by_cases c1 : a ≤ N
        · have d1 : decide ((a : Int) ≤ N) = true := by simpa using c1
          have d1' : decide (a ≤ N) = true := by simpa using c1
          by_cases c2 : a + k < N
          · have d2 : (a : Int) + k < N := by omega
            have d2' : decide ((a : Int) + k < N) = true := by simpa using d2
            by_cases c3 : 6 ≤ a
            · have d3 : (6 : Int) ≤ a := by omega
              have d3' : decide ((6 : Int) ≤ a) = true := by simpa using d3
              have HE : Hid (tornB (sealF xs) a k = true) := Lib.hid (by rw [HTB.out, decide_eq_true_eq]; exact ⟨c1, c2, .inl c3⟩)
              go_wp2_with fail
              go_meet
              case rel => exact ⟨congrArg Value.bool HE.out.symm, rfl⟩
            · have d3 : ¬ (6 : Int) ≤ a := by omega
              have d3' : decide ((6 : Int) ≤ a) = false := by simpa using d3
              by_cases c4 : a + k < 6
              · have d4 : (a : Int) + k < 6 := by omega
                have d4' : decide ((a : Int) + k < 6) = true := by simpa using d4
                have HE : Hid (tornB (sealF xs) a k = true) := Lib.hid (by rw [HTB.out, decide_eq_true_eq]; exact ⟨c1, c2, .inr c4⟩)
                go_wp2_with fail
                go_meet
                case rel => exact ⟨congrArg Value.bool HE.out.symm, rfl⟩
              · have d4 : ¬ (a : Int) + k < 6 := by omega
                have d4' : decide ((a : Int) + k < 6) = false := by simpa using d4
                have HE : Hid (tornB (sealF xs) a k = false) := Lib.hid (by rw [HTB.out, decide_eq_false_iff_not]; omega)
                go_wp2_with fail
                go_meet
                case rel => exact ⟨congrArg Value.bool HE.out.symm, rfl⟩
          · have d2 : ¬ (a : Int) + k < N := by omega
            have d2' : decide ((a : Int) + k < N) = false := by simpa using d2
            have HE : Hid (tornB (sealF xs) a k = false) := Lib.hid (by rw [HTB.out, decide_eq_false_iff_not]; omega)
            go_wp2_with fail
            go_meet
            case rel => exact ⟨congrArg Value.bool HE.out.symm, rfl⟩
        · have d1 : decide ((a : Int) ≤ N) = false := by simpa using c1
          have d1' : decide (a ≤ N) = false := by simpa using c1
          have HE : Hid (tornB (sealF xs) a k = false) := Lib.hid (by rw [HTB.out, decide_eq_false_iff_not]; omega)
          go_wp2_with fail
          go_meet
          case rel => exact ⟨congrArg Value.bool HE.out.symm, rfl⟩
      case rest =>
        obtain ⟨rfl, rfl⟩ := hcut
        have hxk := hxc1.out k hk4
        have hxb := HXX.out
        have hgx := getD_byte hxb k
        have HTL : Hid ((tear (sealF xs) a [x0, x1, x2, x3] k).length = N) := Lib.hid (by rw [tear_length, HSL.out])
        have hTB := tear_bytes (sealF_bytes HX.out) a hxb k
        by_cases ht : tornB (sealF xs) a k = true
        · have HT : Hid (tear (sealF xs) a [x0, x1, x2, x3] (k + 1) = (tear (sealF xs) a [x0, x1, x2, x3] k).set (a + k) ((((tear (sealF xs) a [x0, x1, x2, x3] k).getD (a + k) 0).toNat ^^^ ([x0, x1, x2, x3].getD k 0).toNat : Nat) : Int)) := Lib.hid (by rw [tear, if_pos ht])
          have hin : a + k < N := by
            unfold tornB at ht
            rw [decide_eq_true_eq, HSL.out] at ht
            omega
          rw [ht]
          have hgt := getD_byte hTB (a + k)
          have hix : a + k < (tear (sealF xs) a [x0, x1, x2, x3] k).length := by rw [HTL.out]; exact hin
          have hcl : wc.cell? ⟨g, a + k, none⟩ = some (.int .u8 ((tear (sealF xs) a [x0, x1, x2, x3] k).getD (a + k) 0)) := by
            rw [hown3.cellAt (a + k) (by omega), List.getElem?_map, List.getElem?_eq_getElem hix, List.getD_eq_getElem?_getD, List.getElem?_eq_getElem hix]
            rfl
          have hxk' : wc.cell? ⟨w.heap.size, k, none⟩ = some (.int .u8 ([x0, x1, x2, x3].getD k 0)) := (hb3.cell (p := ⟨w.heap.size, k, none⟩) (show w.heap.size < w1.heap.size by omega)).trans hxk
          clear hxk ht hTB hix
          generalize [x0, x1, x2, x3].getD k 0 = y at *
          generalize (tear (sealF xs) a [x0, x1, x2, x3] k).getD (a + k) 0 = z at *
          have hxor : bits .xor .u8 z y = ((z.toNat ^^^ y.toNat : Nat) : Int) := u8_xor z y hgt.1 hgt.2 hgx.1 hgx.2
          generalize ((z.toNat ^^^ y.toNat : Nat) : Int) = u at *
          have e1 : IntKind.i64.wrap ((a : Int) + k) = (a : Int) + k := IntWalk.i64_in _ (by omega)
          have e3 : ((a : Int) + k).toNat = a + k := by omega
          have e4 : (0 : Int) ≤ (a : Int) + k := by omega
          have e5 : (a : Int) + k < N := by omega
          have e6 : (k : Int) < 4 := by omega
          go_upto_region 11 with fail
          go_still_tail 11, (by kernel_rfl)
          change wpList _ _ _ _ _ wc.drew
          have hcl2 : wc.drew.cell? ⟨g, a + k, none⟩ = some (.int .u8 z) := hcl
          have hown4 : wc.drew.ownsRow w1.heap.size 5 1 (.slice (some ⟨g, 0, none⟩) N cap) N ((tear (sealF xs) a [x0, x1, x2, x3] k).map (Value.int .u8)) := hown3.drew
          have hb4 := hb3.drew
          clear hcl hown3 hb3 hxk'
          generalize wc.drew = wd at *
          have hfr := hown4.frozenAt (a + k)
          have hst := hown4.stored (a + k) (.int .u8 u)
          rw [← List.map_set] at hst
          have HST := Lib.hid hst
          have HBS := Lib.hid (hb4.setCell (p := ⟨g, a + k, none⟩) hg1 (.int .u8 u))
          clear hst
          go_wp2_with fail
          go_roundw
          case rel => exact ⟨k + 1, by go_num, by omega, by rw [HT.out]; exact HST.out.1, HBS.out⟩
          case measure => simp [intOf]; omega
        · have ht' : tornB (sealF xs) a k = false := by simpa using ht
          have HT : Hid (tear (sealF xs) a [x0, x1, x2, x3] (k + 1) = tear (sealF xs) a [x0, x1, x2, x3] k) := Lib.hid (by rw [tear, if_neg ht])
          rw [ht']
          clear ht ht' hTB hxk
          generalize tear (sealF xs) a [x0, x1, x2, x3] k = T at *
          go_wp2_with fail
          go_roundw
          case rel => exact ⟨k + 1, by go_num, by omega, by rw [HT.out]; exact hown3, hb3⟩
          case measure => simp [intOf]; omega
    · have hk' : k = 4 := by omega
      subst hk'
      have hTB := tear_bytes (sealF_bytes HX.out) a HXX.out 4
      have HTW := Lib.hid (tear_why HX.out (by rw [HL.out]; omega) a ha HXX.out)
      have HCW : Hid (∀ j, j < N → whyF ((sealF xs).take j) = 3) := Lib.hid fun j hj => cut_why (by rw [HL.out]; omega) (by rw [HL.out, HNE.out]; exact hj)
      have HSB := Lib.hid (sealF_bytes HX.out)
      generalize tear (sealF xs) a [x0, x1, x2, x3] 4 = T at *
      generalize sealF xs = S at *
      have HTB := Lib.hid hTB
      obtain ⟨AT, cT, hAT, hrT⟩ := Rd.of_own hown3
      obtain ⟨rfl, rfl⟩ : AT = some ⟨g, 0, none⟩ ∧ cT = cap := by simp only [Value.slice.injEq] at hAT; exact ⟨hAT.1.symm, hAT.2.2.symm⟩
      have HNX := Lib.hid (Next_any _ N cT T wr hrT hTB (by omega))
      have hz13 := hb3.size
      clear hown3 hAT hTB
      go_wp2_with fail
      refine HNX.out.mono ?_
      rintro e w4 ⟨hb4, hcase⟩
      have hb14 : Below w1.heap.size w1 w4 := hb3.trans (hb4.mono hz13)
      have hb04 := hb01.trans (hb14.mono hz01)
      have hr14 := hr1.below hb14
      have hz14 := hb14.size
      have H1 := Equal_any _ A1 N cT N c1 _ _ T S w4 (hrT.below hb4) hr14 HTB.out HSB.out
      rw [← HTW.out] at H1
      obtain ⟨f, s13, s14, rfl, hf⟩ : ∃ (f : Nat) (s13 s14 : Value), e = .returned (.tuple #[s13, s14, .int .i64 f]) ∧ decide (whyF T = 0) = ((f : Int) == 0) := by
        rcases hcase with ⟨hw, rfl⟩ | ⟨hw, _, A5, c5, A6, c6, rfl, _, _⟩
        · exact ⟨whyF T, _, _, rfl, by rw [decide_eq_false hw]; exact (beq_eq_false_iff_ne.2 (by omega)).symm⟩
        · exact ⟨0, _, _, rfl, by rw [decide_eq_true hw]; rfl⟩
      rw [hf] at H1
      have HH1 := Lib.hid H1
      clear hf hcase H1 hrT hb4 hb3 hb14 HNX HTW hr1
      generalize hfb : ((f : Int) == 0) = fb at *
      go_wp2_with fail
      refine HH1.out.mono ?_
      rintro e w5 ⟨rfl, rfl⟩
      clear HH1
      by_cases hqN : q < N
      · have hqN' : (q : Int) < N := by omega
        obtain ⟨b1, o1, rfl, _⟩ := hr14.cell (j := 0) (by omega)
        have hc1 := hr14.cap
        have hr4q := (hr14.take (m := q) (by omega)).more (B' := w4.heap.size) hz14
        have HN2 := Lib.hid (Next_any _ q c1 _ w4 hr4q (take_bytes HSB.out q) (by omega))
        have HW2 := Lib.hid (HCW.out q hqN)
        clear hr4q
        go_wp2_with fail
        refine HN2.out.mono ?_
        rintro e w6 ⟨hb6, ⟨hw6, rfl⟩ | ⟨hw6, _⟩⟩
        · rw [HW2.out]
          have hb06 := hb04.trans (hb6.mono hb04.size)
          clear hw6 HN2 HW2 hb6
          go_wp2_with fail
          refine (awake_any w6).mono ?_
          rintro e w7 ⟨rfl, hb7⟩
          go_wp2_with fail
          go_ret
          exact ⟨rfl, hb06.trans (hb7.mono hb06.size)⟩
        · exfalso
          rw [HW2.out] at hw6
          omega
      · have hqN' : ¬ (q : Int) < N := by omega
        go_wp2_with fail
        refine (awake_any w4).mono ?_
        rintro e w7 ⟨rfl, hb7⟩
        go_wp2_with fail
        go_ret
        exact ⟨rfl, hb04.trans (hb7.mono hb04.size)⟩

set_option maxHeartbeats 400000 in
theorem tears_any (A : Option Addr) (n c : Nat) (a q x0 x1 x2 x3 : Int) (xs : List Int) (w : World) (h : Rd w w.heap.size .u8 A n c xs) (hx : ∀ x ∈ xs, 0 ≤ x ∧ x < 256) (ha : -9223372036854775808 ≤ a ∧ a ≤ 9223372036854775807) (hq : -9223372036854775808 ≤ q ∧ q ≤ 9223372036854775807)
    (hxx : ∀ y ∈ [x0, x1, x2, x3], 0 ≤ y ∧ y < 256) :
    Calls Try.prog 6 #[.slice A n c, .int .i64 a, .int .i64 q, .agg #[.int .u8 x0, .int .u8 x1, .int .u8 x2, .int .u8 x3]] w fun e w' => e = .returned (.bool true) ∧ Below w.heap.size w w' := by
  have hb0 : Below w.heap.size w (w.alloc (.cells #[.int .u8 x0, .int .u8 x1, .int .u8 x2, .int .u8 x3] 39)) := (Below.refl _ _).alloc (Nat.le_refl _) _
  by_cases hn : n ≤ 600
  · have h1 : ¬ ((600 : Int) < n) := by omega
    have h3 : decide ((600 : Int) < n) = false := by simpa using h1
    by_cases ha2 : 2 ≤ a
    · have h4 : decide (a < 2) = false := by simp; omega
      have h4' : ¬ a < 2 := by omega
      by_cases hq0 : 0 ≤ q
      · obtain ⟨a, rfl⟩ : ∃ j : Nat, a = (j : Int) := ⟨a.toNat, by omega⟩
        obtain ⟨q, rfl⟩ : ∃ j : Nat, q = (j : Int) := ⟨q.toNat, by omega⟩
        exact tears_short A n c a q x0 x1 x2 x3 xs w h hx hn (by omega) (by omega) (by omega) hxx
      · have h5 : decide (q < 0) = true := by simp; omega
        have h5' : q < 0 := by omega
        go_enter Try.func6, Try.ntmps6
        go_wp2_with fail
        refine (awake_any _).mono ?_
        rintro e w1 ⟨rfl, hb1⟩
        go_wp2_with fail
        go_ret
        exact ⟨rfl, hb0.trans (hb1.mono hb0.size)⟩
    · have h4 : decide (a < 2) = true := by simp; omega
      have h4' : a < 2 := by omega
      go_enter Try.func6, Try.ntmps6
      go_wp2_with fail
      refine (awake_any _).mono ?_
      rintro e w1 ⟨rfl, hb1⟩
      go_wp2_with fail
      go_ret
      exact ⟨rfl, hb0.trans (hb1.mono hb0.size)⟩
  · have h1 : ((600 : Int) < n) := by omega
    go_enter Try.func6, Try.ntmps6
    go_wp2_with fail
    refine (awake_any _).mono ?_
    rintro e w1 ⟨rfl, hb1⟩
    go_wp2_with fail
    go_ret
    exact ⟨rfl, hb0.trans (hb1.mono hb0.size)⟩
end Go.Proofs.Ytbdfhlgpbhcjcaa
