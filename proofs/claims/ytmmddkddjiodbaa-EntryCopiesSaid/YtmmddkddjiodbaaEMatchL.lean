/- What is proved here: EntryMatches. -/
import Derived.Test.YtmmddkddjiodbaaEMatch
namespace Go.Proofs.Ytmmddkddjiodbaa
open Go Go.RowKit Go.Maps Go.WideMaps

theorem bytes_ext {a b : ByteArray} (h : a.toList = b.toList) : a = b := by
  rw [ByteArray.toList_eq, ByteArray.toList_eq] at h
  have h2 := Array.toList_inj.1 h
  cases a; cases b
  simpa using h2
theorem mergeF_low {B T : Int} {L M : List En} {y term : Int} (h : y < B) : (mergeF B T L y term M).2.2 = decide (0 ≤ y) := by
  unfold mergeF
  by_cases h0 : y < 0
  · rw [if_pos h0, decide_eq_false (by omega)]
  · rw [if_neg h0, if_pos h, decide_eq_true (by omega)]
    split <;> rfl
theorem mergeF_high {B T : Int} {L M : List En} {y term : Int} (h0 : 0 ≤ B) (h : B + L.length < y) : (mergeF B T L y term M).2.2 = false := by
  unfold mergeF
  have : hasAt B L y = false := by unfold hasAt; rw [decide_eq_false_iff_not]; omega
  rw [if_neg (by omega), if_neg (by omega), if_neg (by rw [this]; simp)]
theorem mergeF_in {B T : Int} {L M : List En} (h0 : 0 ≤ B) {p : Nat} (hp : p ≤ L.length) : mergeF B T L (B + p) (termAt B T L (B + p)) M = (mergeL L p M, B + p + M.length, true) := by
  unfold mergeF
  have : hasAt B L (B + p) = true := by unfold hasAt; rw [decide_eq_true_eq]; omega
  rw [if_neg (by omega), if_neg (by omega), if_pos ⟨this, rfl⟩, show (B + p - B).toNat = p by omega]
set_option maxHeartbeats 12800000 in
set_option maxRecDepth 100000 in
theorem entryMatches_any {w : World} {A A' : Option Addr} {n c m d : Nat} {ops : List OpM} (hops : OpsRd w A n c ops) {y : Int} (hy : I64 y) {M : List En} (hr : WRd enC w (fun k => k < w.heap.size) A' m d M) :
    Calls Try.prog 6 #[.slice A n c, .int .i64 y, .slice A' m d] w fun e w' => e = .returned (.bool true) ∧ Below w.heap.size w w' := by
  have HAW := Lib.hid fun W => awake_any W
  have HFE := Lib.hid (few_any hops)
  have HN : Hid (Calls Try.prog 11 #[.int .i64 0, .int .i64 0] w fun e w2 => e = .returned (.pointer (some ⟨w.heap.size, 0, none⟩)) ∧ Hid (LogAt w2 w.heap.size 0 0 [] (fun k => k = w.heap.size) ∧ Below w.heap.size w w2)) := Lib.hid ((New_any w 0 0).mono (by
    rintro e w' ⟨rfl, h1, h2⟩
    exact ⟨rfl, Lib.hid ⟨h1, h2⟩⟩))
  have HRN : Hid (∀ V, Calls Try.prog 12 #[.int .i64 0, .int .i64 0] V fun e w2 => e = .returned (.agg #[.int .i64 0, .int .i64 0, .slice none 0 0]) ∧ Below V.heap.size V w2) := Lib.hid fun V => RNew_any 0 0 V
  have HOPS := Lib.hid hops
  have HR := Lib.hid hr
  have HLN := Lib.hid hr.len
  have HIY := Lib.hid hy
  have hcaps := hops.rd.caps
  have hcaps2 := hr.caps
  clear hops hr
  unfold I64 at hy
  by_cases h60 : 60 < m
  · have d1 : (60 : Int) < m := by omega
    clear HN HRN
    go_enter Try.func6, Try.ntmps6
    go_wp2_with (first
      | (go_at_call 9; refine HFE.out.mono ?_; intro e w1 hh; obtain ⟨q, rfl, hq, rfl⟩ := hh; clear hq; cases q)
      | (go_at_call 10; refine (HAW.out _).mono ?_; rintro e w1 ⟨rfl, hb⟩; have HB := Lib.hid hb; clear hb))
    all_goals
      go_ret
      exact ⟨rfl, HB.out⟩
  · have d1 : ¬ (60 : Int) < m := by omega
    have hm60 : m ≤ 60 := by omega
    go_enter Try.func6, Try.ntmps6
    go_upto_region 3 with (first
      | (go_at_call 9; refine HFE.out.mono ?_; intro e w1 hh; obtain ⟨q, rfl, hq, rfl⟩ := hh; have HQ := Lib.hid hq; clear hq; cases q)
      | (go_at_call 10; refine (HAW.out _).mono ?_; rintro e w1 ⟨rfl, hb⟩; have HB := Lib.hid hb; clear hb))
    · go_ret
      exact ⟨rfl, HB.out⟩
    · have hf := HQ.out (by first | trivial | rfl)
      have HF := Lib.hid hf
      have hn60 : n ≤ 60 := by have := hf.n60; have := HOPS.out.rd.len; omega
      clear hf HQ
      go_upto_region 4 with (first
        | (go_at_call 11; refine HN.out.mono ?_; rintro e w2 ⟨rfl, HL⟩)
        | (go_at_call 12; refine (HRN.out _).mono ?_; rintro e w3 ⟨rfl, hb3⟩; have HB3 := Lib.hid hb3; clear hb3))
      obtain ⟨w1, hw1⟩ : ∃ V1, V1 = w3.alloc (.cells #[.int .i64 0, .int .i64 0, .slice none 0 0] 29) := ⟨_, rfl⟩
      have HP0 : Hid (Two w w1 w1 w.heap.size w3.heap.size 0 0 0 [] none 0 0) := Lib.hid (by rw [hw1]; exact two_begin (w := w) (x := 0) (y := 0) (Nat.le_refl _) HL.out.1 HL.out.2 HB3.out (by omega) rfl)
      rw [← hw1]
      clear hw1 HN HRN HL HB3
      generalize hb0 : w.heap.size = b at *
      have HB0 := Lib.hid hb0
      clear hb0
      generalize w3.heap.size = rb at *
      go_wp2_with fail
      go_loopw [42] (fun i wr => ∃ k : Nat, i = .int .i64 k ∧ k ≤ n ∧ Hid (∃ B T L Ar nr cr, Two w w1 wr b rb (sumN (ops.take k)) B T L Ar nr cr)) (fun i _ => n - (intOf i).toNat)
      case atStart => exact ⟨0, rfl, Nat.zero_le _, Lib.hid ⟨_, _, _, _, _, _, HP0.out⟩⟩
      case round =>
        clear HP0
        obtain ⟨k, rfl, hkn, HP⟩ := hrel
        obtain ⟨B, T, L, Ar, nr, cr, htw⟩ := HP.out
        by_cases hlt : k < n
        · have hlt' : (k : Int) < n := by omega
          obtain ⟨p, g, o, hpk, hok, hpm, hs4, hsm, rfl, q0, q1, q2, q3⟩ := few_ops HOPS.out HF.out htw.bel hlt
          obtain ⟨V, hV⟩ : ∃ V, V = wr.alloc (.cells #[.int .i64 p.kind, .int .i64 p.at_, .int .i64 p.term, .slice p.A p.n p.c] 32) := ⟨_, rfl⟩
          have hbV : Below wr.heap.size wr V := by rw [hV]; exact (Below.refl _ _).alloc (Nat.le_refl _) _
          have hob : V.heap[wr.heap.size]? = some (.cells #[.int .i64 p.kind, .int .i64 p.at_, .int .i64 p.term, .slice p.A p.n p.c] 32 (0, 0)) := by rw [hV]; exact heap_alloc_new _ _
          have HD := Lib.hid (pair_step htw hbV hs4 hok hpm)
          have HSM := Lib.hid hsm
          obtain ⟨v0, v1, v2, v3⟩ := four_cells hob
          obtain ⟨z0, z1, z2, _⟩ := three_cells (htw.later hbV).blk
          have HV := Lib.hid hV
          clear HP htw hpk hok hpm hs4 hsm hV hbV hob
          obtain ⟨kd, y', tm, Ap, np, cp, Mp⟩ := p
          dsimp only at *
          go_upto_region 9 with fail
          rw [← HV.out]
          clear q0 q1 q2 q3
          go_wp2_with (go_at_call 17; refine HD.out.mono ?_; intro e w4 hh; obtain ⟨B2, T2, A2, n2, c2, rfl, s0, s1, s2, f0, f1, f2, HPN⟩ := hh)
          go_roundw
          case rel => exact ⟨k + 1, by go_num, by omega, Lib.hid (by rw [HSM.out]; obtain ⟨L2, ht2⟩ := HPN.out; exact ⟨B2, T2, L2, A2, n2, c2, ht2⟩)⟩
          case measure => simp [intOf]; omega
        · obtain rfl : k = n := by omega
          have hd0 : decide ((k : Int) < (k : Int)) = false := decide_eq_false (by omega)
          have hs60 : sumN (ops.take k) ≤ 400 := Nat.le_trans (sumN_le ops k) HF.out.s400
          obtain ⟨hbl, hbn⟩ := htw.len
          have hB0 := hbn.b0
          have hB1 : B ≤ 4398046511104 := by have := hbn.last; omega
          have hB2 := hbn.last
          have hLL : L.length < 100000 := by have := hbn.len; omega
          have HX : Hid (LN w wr b B T L) := Lib.hid (by obtain ⟨Φ, h1, _⟩ := htw.pair; exact ⟨Φ, h1.log, h1.new, h1.bel⟩)
          have HTE := Lib.hid (HX.out.term hB0 hB1 (by omega) HIY.out)
          have hRW : WRd enC w (fun k => k < w.heap.size) A' m d M := by rw [HB0.out]; exact HR.out
          have HMC := Lib.hid fun V (hv : LN w V b B T L) => match_calls hv hB0 hB1 hLL hRW (by omega) HIY.out (termAt B T L y)
          have HL5 : Hid (L.length < 500000) := Lib.hid (by omega)
          generalize hl0 : L.length = l at hB2 hLL
          clear HP htw hs60 hbl hbn HF HOPS HFE HX hRW
          rcases Int.lt_or_le y B with hlo | hlo
          · have e1 : decide (y < B) = true := decide_eq_true hlo
            simp only [mergeF_low hlo] at HMC
            clear hl0
            by_cases hy0 : 0 ≤ y
            · rw [decide_eq_true hy0] at HMC
              go_wp2_with (first
                | (go_at_call 21; refine HTE.out.mono ?_; rintro e w4 ⟨rfl, HY4⟩; have HC1 := Lib.hid (HMC.out w4 HY4.out.1))
                | (go_at_call 13; refine HC1.out.mono ?_; intro e w5 hh; obtain ⟨b', rfl, HC2⟩ := hh)
                | (go_at_call 25; refine HC2.out.mono ?_; intro e w6 hh; obtain ⟨A3, c3, rfl, HC3⟩ := hh)
                | (go_at_call 24; refine HC3.out.mono ?_; intro e w7 hh; obtain ⟨rfl, HM⟩ := hh; have HBS := Lib.hid HM.out.one.base; have HLS := Lib.hid (HM.out.two.last hB0 hB1 HL5.out))
                | (go_at_call 26; refine HBS.out.mono ?_; rintro e w8 ⟨rfl, rfl⟩)
                | (go_at_call 16; refine HLS.out.mono ?_; rintro e w8 ⟨rfl, HY8⟩; have HBS := Lib.hid (HM.out.later HY8.out.2).one.base)
                | (go_at_call 10; refine (HAW.out _).mono ?_; rintro e w9 ⟨rfl, hb⟩; have HB := Lib.hid (HM.out.one.bel.trans (hb.mono HM.out.one.bel.size)); clear hb))
              go_ret
              exact ⟨rfl, HB.out⟩
            · rw [decide_eq_false hy0] at HMC
              go_wp2_with (first
                | (go_at_call 21; refine HTE.out.mono ?_; rintro e w4 ⟨rfl, HY4⟩; have HC1 := Lib.hid (HMC.out w4 HY4.out.1))
                | (go_at_call 13; refine HC1.out.mono ?_; intro e w5 hh; obtain ⟨b', rfl, HC2⟩ := hh)
                | (go_at_call 25; refine HC2.out.mono ?_; intro e w6 hh; obtain ⟨A3, c3, rfl, HC3⟩ := hh)
                | (go_at_call 24; refine HC3.out.mono ?_; intro e w7 hh; obtain ⟨rfl, HM⟩ := hh; have HBS := Lib.hid HM.out.one.base; have HLS := Lib.hid (HM.out.two.last hB0 hB1 HL5.out))
                | (go_at_call 26; refine HBS.out.mono ?_; rintro e w8 ⟨rfl, rfl⟩)
                | (go_at_call 16; refine HLS.out.mono ?_; rintro e w8 ⟨rfl, HY8⟩; have HBS := Lib.hid (HM.out.later HY8.out.2).one.base)
                | (go_at_call 10; refine (HAW.out _).mono ?_; rintro e w9 ⟨rfl, hb⟩; have HB := Lib.hid (HM.out.one.bel.trans (hb.mono HM.out.one.bel.size)); clear hb))
              go_ret
              exact ⟨rfl, HB.out⟩
          · by_cases hhi : B + l < y
            · have hy0 : 0 ≤ y := by omega
              have e1 : decide (y < B) = false := decide_eq_false (by omega)
              have hhi' : B + L.length < y := by rw [hl0]; exact hhi
              simp only [mergeF_high hB0 hhi'] at HMC
              clear hhi'
              have hl1 : decide (B + l < y) = true := decide_eq_true hhi
              go_wp2_with (first
                | (go_at_call 21; refine HTE.out.mono ?_; rintro e w4 ⟨rfl, HY4⟩; have HC1 := Lib.hid (HMC.out w4 HY4.out.1))
                | (go_at_call 13; refine HC1.out.mono ?_; intro e w5 hh; obtain ⟨b', rfl, HC2⟩ := hh)
                | (go_at_call 25; refine HC2.out.mono ?_; intro e w6 hh; obtain ⟨A3, c3, rfl, HC3⟩ := hh)
                | (go_at_call 24; refine HC3.out.mono ?_; intro e w7 hh; obtain ⟨rfl, HM⟩ := hh; have HBS := Lib.hid HM.out.one.base; have HLS := Lib.hid (hl0 ▸ HM.out.two.last hB0 hB1 HL5.out))
                | (go_at_call 26; refine HBS.out.mono ?_; rintro e w8 ⟨rfl, rfl⟩)
                | (go_at_call 16; refine HLS.out.mono ?_; rintro e w8 ⟨rfl, HY8⟩; have HBS := Lib.hid (HM.out.later HY8.out.2).one.base)
                | (go_at_call 10; refine (HAW.out _).mono ?_; rintro e w9 ⟨rfl, hb⟩; have HB := Lib.hid ((HM.out.later HY8.out.2).one.bel.trans (hb.mono (HM.out.later HY8.out.2).one.bel.size)); clear hb))
              go_ret
              exact ⟨rfl, HB.out⟩
            · have hhi2 : y ≤ B + l := by omega
              have hy0 : 0 ≤ y := by omega
              have e1 : decide (y < B) = false := decide_eq_false (by omega)
              have hl1 : decide (B + l < y) = false := decide_eq_false (by omega)
              obtain ⟨p, hyp⟩ : ∃ p : Nat, y = B + p := ⟨(y - B).toNat, by omega⟩
              have hpl : p ≤ L.length := by omega
              have hmf : mergeF B T L y (termAt B T L y) M = (mergeL L p M, y + m, true) := by rw [hyp, mergeF_in hB0 hpl, HLN.out]
              have HOLD : Hid (∀ k, B ≤ k → k ≤ y → entAt B (mergeL L p M) k = entAt B L k) := Lib.hid fun k h1 h2 => match_old B L M p hpl k h1 (by omega)
              have HNEW : Hid (∀ (j : Nat) (x : En), M[j]? = some x → isAt B (mergeL L p M) (y + 1 + j) = true ∧ (entAt B (mergeL L p M) (y + 1 + j)).t = x.t ∧ (entAt B (mergeL L p M) (y + 1 + j) = x ∨ (isAt B L (y + 1 + j) = true ∧ entAt B L (y + 1 + j) = entAt B (mergeL L p M) (y + 1 + j)))) := Lib.hid fun j x hx => by
                rw [hyp]
                exact match_new B L M p hpl hx
              have HL6 : Hid ((mergeL L p M).length < 500000) := Lib.hid (by have := (mergeL_len M L p hpl).2; have := HLN.out; have := HL5.out; omega)
              simp only [hmf] at HMC
              generalize mergeL L p M = L2 at *
              have hw1 : IntKind.i64.wrap (y + m) = y + m := IntWalk.i64_in _ (by omega)
              have e2 : (y + (m : Int) == y + m) = true := beq_self_eq_true _
              have hyb : y < 4611686018427387904 := by omega
              clear hmf hyp hpl
              go_wp2_with (first
                | (go_at_call 21; refine HTE.out.mono ?_; rintro e w4 ⟨rfl, HY4⟩; have HC1 := Lib.hid (HMC.out w4 HY4.out.1))
                | (go_at_call 13; refine HC1.out.mono ?_; intro e w5 hh; obtain ⟨b', rfl, HC2⟩ := hh)
                | (go_at_call 25; refine HC2.out.mono ?_; intro e w6 hh; obtain ⟨A3, c3, rfl, HC3⟩ := hh)
                | (go_at_call 24; refine HC3.out.mono ?_; intro e w7 hh; obtain ⟨rfl, HM⟩ := hh; have HBS := Lib.hid HM.out.one.base; have HLS := Lib.hid (hl0 ▸ HM.out.two.last hB0 hB1 HL5.out))
                | (go_at_call 26; refine HBS.out.mono ?_; rintro e w8 ⟨rfl, rfl⟩)
                | (go_at_call 16; refine HLS.out.mono ?_; rintro e w8 ⟨rfl, HY8⟩; have HM8 := Lib.hid (HM.out.later HY8.out.2); have HBS := Lib.hid HM8.out.one.base))
              clear HMC HTE hw1 e2 hl1 hd0 hl0
              go_loopw [16] (fun i wr => ∃ k : Int, i = .int .i64 k ∧ B ≤ k ∧ k ≤ y + 1 ∧ Hid (Mt w wr b b' B T L2 L)) (fun i _ => (y + 1 - intOf i).toNat)
              case atStart => exact ⟨B, rfl, by omega, by omega, HM8⟩
              case round =>
                clear HM8 HM HBS HLS HY8 HC1 HC2 HC3 HY4
                obtain ⟨k, rfl, hk0, hk1, HY⟩ := hrel
                by_cases hlt2 : k ≤ y
                · have e2 : decide (k ≤ y) = true := decide_eq_true hlt2
                  have HG1 := Lib.hid (HY.out.one.get hB0 hB1 HL6.out (k := k) (by unfold I64; omega))
                  have HG2 := Lib.hid fun V (hv : Mt w V b b' B T L2 L) => hv.two.get hB0 hB1 HL5.out (k := k) (by unfold I64; omega)
                  rw [HOLD.out k hk0 hlt2] at HG1
                  clear HOLD HNEW
                  generalize entAt B L k = x at *
                  obtain ⟨xt, xd⟩ := x
                  dsimp only at *
                  have e5 : (xt == xt) = true := beq_self_eq_true _
                  have e6 : (xd.toList == xd.toList) = true := beq_self_eq_true _
                  go_upto_region 25 with (first
                    | (go_at_call 27; (with_reducible refine HG1.out.mono ?_); rintro e w5 ⟨rfl, HY5⟩; have HG3 := Lib.hid (HG2.out _ ((HY.out.later HY5.out.2).later ((Below.refl _ _).alloc (Nat.le_refl _) (.cells #[.int .i64 xt, .string xd] 36)))))
                    | (go_at_call 27; refine HG3.out.mono ?_; rintro e w6 ⟨rfl, HY6⟩))
                  have he5 := (HY6.out.2.block _ (by simp)).trans (heap_alloc_new w5 (.cells #[.int .i64 xt, .string xd] 36))
                  obtain ⟨V, hV⟩ : ∃ V, V = w6.alloc (.cells #[.int .i64 xt, .string xd] 36) := ⟨_, rfl⟩
                  have hbV : Below w6.heap.size w6 V := by rw [hV]; exact (Below.refl _ _).alloc (Nat.le_refl _) _
                  have he6 : V.heap[w6.heap.size]? = some (.cells #[.int .i64 xt, .string xd] 36 (0, 0)) := by rw [hV]; exact heap_alloc_new _ _
                  have he7 := (hbV.block _ (Array.getElem?_eq_some_iff.1 he5).1).trans he5
                  obtain ⟨z0, z1, _, _⟩ := two_cells he7
                  obtain ⟨y0, y1, _, _⟩ := two_cells he6
                  have HMV : Hid (Mt w V b b' B T L2 L) := Lib.hid ((((HY.out.later HY5.out.2).later ((Below.refl _ _).alloc (Nat.le_refl _) (.cells #[.int .i64 xt, .string xd] 36))).later HY6.out.2).later hbV)
                  rw [← hV]
                  clear hV hbV he5 he6 he7 HG1 HG2 HG3 HY HY5 HY6
                  generalize w5.heap.size = g5 at *
                  generalize w6.heap.size = g6 at *
                  go_wp2_with fail
                  go_roundw
                  case rel => exact ⟨k + 1, by go_num, by omega, by omega, HMV⟩
                  case measure => simp [intOf]; omega
                · have e2 : decide (k ≤ y) = false := decide_eq_false hlt2
                  have HY0 := HY
                  go_wp2_with fail
                  clear HOLD
                  go_loopw [130] (fun i wr => ∃ j : Nat, i = .int .i64 j ∧ j ≤ m ∧ Hid (Mt w wr b b' B T L2 L)) (fun i _ => m - (intOf i).toNat)
                  case atStart => exact ⟨0, rfl, Nat.zero_le _, HY0⟩
                  case round =>
                    clear HY HY0 e2 hlt2 hk0 hk1
                    obtain ⟨j, rfl, hjm, HY⟩ := hrel
                    by_cases hj : j < m
                    · have hj' : (j : Int) < m := by omega
                      obtain ⟨x, hx⟩ : ∃ x, M[j]? = some x := ⟨_, List.getElem?_eq_getElem (by rw [HLN.out]; exact hj)⟩
                      obtain ⟨n1, n2, n3⟩ := HNEW.out j x hx
                      have hbw := HY.out.one.bel
                      rw [HB0.out] at hbw
                      obtain ⟨g, o, hA, _, _, q0, q1⟩ := (HR.out.below' hbw).en hx
                      subst hA
                      obtain ⟨U, hU⟩ : ∃ U, U = wr.alloc (.cells #[.int .i64 x.t, .string x.d] 47) := ⟨_, rfl⟩
                      have hbU : Below wr.heap.size wr U := by rw [hU]; exact (Below.refl _ _).alloc (Nat.le_refl _) _
                      have heU : U.heap[wr.heap.size]? = some (.cells #[.int .i64 x.t, .string x.d] 47 (0, 0)) := by rw [hU]; exact heap_alloc_new _ _
                      have HU := Lib.hid (HY.out.later hbU)
                      have HEU := Lib.hid heU
                      have hwa : IntKind.i64.wrap (y + 1) = y + 1 := IntWalk.i64_in _ (by omega)
                      have hwb : IntKind.i64.wrap (y + 1 + j) = y + 1 + j := IntWalk.i64_in _ (by omega)
                      have HG1 := Lib.hid (HU.out.one.get hB0 hB1 HL6.out (k := y + 1 + j) (by unfold I64; omega))
                      have HG2 := Lib.hid fun V (hv : Mt w V b b' B T L2 L) => hv.two.get hB0 hB1 HL5.out (k := y + 1 + j) (by unfold I64; omega)
                      have HUV := Lib.hid hU
                      rw [n1] at HG1
                      clear HNEW n1 hx hbw hU hbU heU HY
                      generalize entAt B L2 (y + 1 + j) = z at *
                      generalize entAt B L (y + 1 + j) = z2 at *
                      generalize isAt B L (y + 1 + j) = q at *
                      obtain ⟨xt, xd⟩ := x
                      obtain ⟨zt, zd⟩ := z
                      obtain ⟨z2t, z2d⟩ := z2
                      dsimp only at *
                      subst n2
                      have e5 : (zt == zt) = true := beq_self_eq_true _
                      have e6 : (zd.toList == zd.toList) = true := beq_self_eq_true _
                      go_upto_region 30 with fail
                      rw [← HUV.out]
                      clear q0 q1
                      go_upto_region 32 with (first
                        | (go_at_call 27; (with_reducible refine HG1.out.mono ?_); rintro e w5 ⟨rfl, HY5⟩; have HG3 := Lib.hid (HG2.out _ ((HU.out.later HY5.out.2).later ((Below.refl _ _).alloc (Nat.le_refl _) (.cells #[.int .i64 zt, .string zd] 36)))))
                        | (go_at_call 27; refine HG3.out.mono ?_; rintro e w6 ⟨rfl, HY6⟩))
                      clear hwa hwb
                      have he5 := (HY6.out.2.block _ (by simp)).trans (heap_alloc_new w5 (.cells #[.int .i64 zt, .string zd] 36))
                      have heW := ((HY5.out.2.block _ (Array.getElem?_eq_some_iff.1 HEU.out).1).trans HEU.out)
                      have heX := (HY6.out.2.block _ (by have := (Array.getElem?_eq_some_iff.1 heW).1; simp; omega)).trans ((((Below.refl w5.heap.size w5).alloc (Nat.le_refl _) (.cells #[.int .i64 zt, .string zd] 36)).block _ (Array.getElem?_eq_some_iff.1 heW).1).trans heW)
                      obtain ⟨V, hV⟩ : ∃ V, V = w6.alloc (.cells #[.int .i64 z2t, .string z2d] 36) := ⟨_, rfl⟩
                      have hbV : Below w6.heap.size w6 V := by rw [hV]; exact (Below.refl _ _).alloc (Nat.le_refl _) _
                      have he6 : V.heap[w6.heap.size]? = some (.cells #[.int .i64 z2t, .string z2d] 36 (0, 0)) := by rw [hV]; exact heap_alloc_new _ _
                      have he7 := (hbV.block _ (Array.getElem?_eq_some_iff.1 he5).1).trans he5
                      have he8 := (hbV.block _ (Array.getElem?_eq_some_iff.1 heX).1).trans heX
                      obtain ⟨z0, z1, _, _⟩ := two_cells he7
                      obtain ⟨y0, y1, _, _⟩ := two_cells he6
                      obtain ⟨x0, x1, _, _⟩ := two_cells he8
                      have HMV : Hid (Mt w V b b' B T L2 L) := Lib.hid ((((HU.out.later HY5.out.2).later ((Below.refl _ _).alloc (Nat.le_refl _) (.cells #[.int .i64 zt, .string zd] 36))).later HY6.out.2).later hbV)
                      rw [← hV]
                      clear hV hbV he5 he6 he7 he8 heW heX HEU HG1 HG2 HG3 HU HY5 HY6 HUV
                      generalize w5.heap.size = g5 at *
                      generalize w6.heap.size = g6 at *
                      generalize wr.heap.size = g7 at *
                      by_cases hzd : zd = xd
                      · subst hzd
                        clear n3
                        go_wp2_with fail
                        go_roundw
                        case rel => exact ⟨j + 1, by go_num, by omega, HMV⟩
                        case measure => simp [intOf]; omega
                      · obtain ⟨m1, m2⟩ : q = true ∧ (⟨z2t, z2d⟩ : En) = ⟨zt, zd⟩ := by
                          rcases n3 with h | h
                          · exact absurd (En.mk.inj h).2 hzd
                          · exact h
                        obtain ⟨m3, m4⟩ := En.mk.inj m2
                        subst m1 m3 m4
                        have e7 : (z2d.toList == xd.toList) = false := by
                          rw [beq_eq_false_iff_ne]
                          intro e
                          exact hzd (bytes_ext e)
                        clear n3 m2 hzd
                        go_wp2_with fail
                        go_roundw
                        case rel => exact ⟨j + 1, by go_num, by omega, HMV⟩
                        case measure => simp [intOf]; omega
                    · obtain rfl : j = m := by omega
                      have hd8 : decide ((j : Int) < (j : Int)) = false := decide_eq_false (by omega)
                      clear HNEW
                      go_wp2_with (go_at_call 10; refine (HAW.out _).mono ?_; rintro e w9 ⟨rfl, hb⟩; have HB := Lib.hid (HY.out.one.bel.trans (hb.mono HY.out.one.bel.size)); clear hb)
                      go_ret
                      exact ⟨rfl, HB.out⟩
end Go.Proofs.Ytmmddkddjiodbaa
