/- What is proved here: EntryAdds. -/
import Derived.Test.YtmmddkddjiodbaaEArgs
namespace Go.Proofs.Ytmmddkddjiodbaa
open Go Go.RowKit Go.Maps Go.WideMaps

/-- What is told of place k, where p are past. -/
theorem adds_cases (L : List En) (p k : Nat) (hp : p ≤ L.length) (hk : k ≤ L.length + 1) :
    ((k < p ∨ L.length < k) ∧ isAt p (L.drop p) k = false ∧ entAt p (L.drop p) k = zeroE ∧ hasAt p (L.drop p) k = false ∧ termAt p (termAt 0 0 L p) (L.drop p) k = 0) ∨
    (k = p ∧ k = 0 ∧ isAt p (L.drop p) k = false ∧ entAt p (L.drop p) k = zeroE ∧ hasAt p (L.drop p) k = true ∧ termAt p (termAt 0 0 L p) (L.drop p) k = 0) ∨
    ∃ (i : Nat) (x : En), k = i + 1 ∧ i < L.length ∧ L[i]? = some x ∧ hasAt p (L.drop p) k = true ∧ termAt p (termAt 0 0 L p) (L.drop p) k = x.t ∧ ((k = p ∧ isAt p (L.drop p) k = false ∧ entAt p (L.drop p) k = zeroE) ∨ (p < k ∧ isAt p (L.drop p) k = true ∧ entAt p (L.drop p) k = x)) := by
  have hl : (L.drop p).length = L.length - p := List.length_drop ..
  rcases Nat.lt_trichotomy k p with h | h | h
  · have h1 : isAt p (L.drop p) k = false := by unfold isAt; rw [decide_eq_false_iff_not]; omega
    refine .inl ⟨.inl h, h1, (isAt_none h1).2, ?_, ?_⟩
    · unfold hasAt; rw [decide_eq_false_iff_not]; omega
    · unfold termAt; rw [if_neg (by omega), (isAt_none h1).2]; rfl
  · subst h
    have h1 : isAt k (L.drop k) k = false := by unfold isAt; rw [decide_eq_false_iff_not]; omega
    have h2 : hasAt k (L.drop k) k = true := by unfold hasAt; rw [decide_eq_true_eq]; omega
    have h3 : termAt k (termAt 0 0 L k) (L.drop k) k = termAt 0 0 L k := by rw [termAt, if_pos rfl]
    by_cases h0 : k = 0
    · refine .inr (.inl ⟨rfl, h0, h1, (isAt_none h1).2, h2, ?_⟩)
      rw [h3, h0]
      unfold termAt
      rw [if_pos (by omega)]
    · obtain ⟨x, hx⟩ : ∃ x, L[k - 1]? = some x := ⟨_, List.getElem?_eq_getElem (by omega)⟩
      obtain ⟨q1, q2⟩ := entAt_of (B := 0) (L := L) (k := k) (j := k - 1) (by omega) hx
      refine .inr (.inr ⟨k - 1, x, by omega, by omega, hx, h2, ?_, .inl ⟨rfl, h1, (isAt_none h1).2⟩⟩)
      rw [h3]
      unfold termAt
      rw [if_neg (by omega), q2]
  · by_cases hn : L.length < k
    · have h1 : isAt p (L.drop p) k = false := by unfold isAt; rw [decide_eq_false_iff_not]; omega
      refine .inl ⟨.inr hn, h1, (isAt_none h1).2, ?_, ?_⟩
      · unfold hasAt; rw [decide_eq_false_iff_not]; omega
      · unfold termAt; rw [if_neg (by omega), (isAt_none h1).2]; rfl
    · obtain ⟨x, hx⟩ : ∃ x, L[k - 1]? = some x := ⟨_, List.getElem?_eq_getElem (by omega)⟩
      have hd : (L.drop p)[k - p - 1]? = some x := by rw [List.getElem?_drop, show p + (k - p - 1) = k - 1 by omega]; exact hx
      obtain ⟨q1, q2⟩ := entAt_of (B := p) (L := L.drop p) (k := k) (j := k - p - 1) (by omega) hd
      refine .inr (.inr ⟨k - 1, x, by omega, by omega, hx, ?_, ?_, .inr ⟨h, q1, q2⟩⟩)
      · unfold hasAt; rw [decide_eq_true_eq]; omega
      · unfold termAt; rw [if_neg (by omega), q2]
set_option maxHeartbeats 12800000 in
set_option maxRecDepth 100000 in
theorem entryAdds_any {w : World} {A : Option Addr} {n c : Nat} {L : List En} (hr : WRd enC w (fun k => k < w.heap.size) A n c L) {ps : Int} (hps : I64 ps) :
    Calls Try.prog 7 #[.slice A n c, .int .i64 ps] w fun e w' => e = .returned (.bool true) ∧ Below w.heap.size w w' := by
  have HAW := Lib.hid fun W => awake_any W
  have HN : Hid (Calls Try.prog 11 #[.int .i64 0, .int .i64 0] w fun e w' => e = .returned (.pointer (some ⟨w.heap.size, 0, none⟩)) ∧ Hid (LN w w' w.heap.size 0 0 [])) := Lib.hid (New_ln (Below.refl _ _) 0 0)
  have HR := Lib.hid hr
  have hcaps := hr.caps
  have HLN := Lib.hid hr.len
  have HPS := Lib.hid hps
  clear hr
  unfold I64 at hps
  by_cases h60 : 60 < n
  · have d1 : (60 : Int) < n := by omega
    clear HN
    go_enter Try.func7, Try.ntmps7
    go_wp2_with (go_at_call 10; refine (HAW.out _).mono ?_; rintro e w1 ⟨rfl, hb⟩; have HB := Lib.hid hb; clear hb)
    go_ret
    exact ⟨rfl, HB.out⟩
  · have d1 : ¬ (60 : Int) < n := by omega
    have hn60 : n ≤ 60 := by omega
    go_enter Try.func7, Try.ntmps7
    go_wp2_with (go_at_call 11; refine HN.out.mono ?_; rintro e w1 ⟨rfl, HX0⟩)
    clear HN
    generalize hb0 : w.heap.size = b at *
    have HBB := Lib.hid hb0
    clear hb0
    go_loopw [23] (fun i wr => ∃ k : Nat, i = .int .i64 k ∧ k ≤ n ∧ Hid (LN w wr b 0 0 (L.take k))) (fun i _ => n - (intOf i).toNat)
    case atStart => exact ⟨0, rfl, Nat.zero_le _, by rw [List.take_zero]; exact HX0⟩
    case round =>
      clear HX0
      obtain ⟨k, rfl, hkn, HX⟩ := hrel
      by_cases hlt : k < n
      · have hlt' : (k : Int) < n := by omega
        obtain ⟨x, hx⟩ : ∃ x, L[k]? = some x := ⟨_, List.getElem?_eq_getElem (by rw [HLN.out]; exact hlt)⟩
        have hbw := HX.out.bel
        rw [HBB.out] at hbw
        obtain ⟨g, o, rfl, _, _, q0, q1⟩ := (HR.out.below' hbw).en hx
        have htk := take_more hx
        obtain ⟨V, hV⟩ : ∃ V, V = wr.alloc (.cells #[.int .i64 x.t, .string x.d] 47) := ⟨_, rfl⟩
        have hbV : Below wr.heap.size wr V := by rw [hV]; exact (Below.refl _ _).alloc (Nat.le_refl _) _
        have hres : V.heap[wr.heap.size]? = some (.cells #[.int .i64 x.t, .string x.d] 47 (0, 0)) := by rw [hV]; exact heap_alloc_new _ _
        obtain ⟨r0, r1, _, _⟩ := two_cells hres
        have HAD : Hid (Calls Try.prog 14 #[.pointer (some ⟨b, 0, none⟩), .agg #[.int .i64 x.t, .string x.d]] V fun e w' => e = .returned (.int .i64 (k + 1)) ∧ Hid (LN w w' b 0 0 (L.take (k + 1)))) := Lib.hid (by
          refine ((HX.out.later hbV).add (by omega) (by omega) (by rw [List.length_take]; omega) x).mono ?_
          rintro e w' ⟨rfl, hh⟩
          rw [← htk] at hh ⊢
          refine ⟨?_, hh⟩
          rw [List.length_take, HLN.out, Nat.min_eq_left (by omega)]
          congr 2
          omega)
        have HV := Lib.hid hV
        have e9 : ((k : Int) + 1 == k + 1) = true := beq_self_eq_true _
        clear hx hbw htk hV hbV hres
        obtain ⟨xt, xd⟩ := x
        dsimp only at *
        go_upto_region 9 with fail
        rw [← HV.out]
        clear q0 q1
        go_wp2_with (go_at_call 14; refine HAD.out.mono ?_; rintro e w3 ⟨rfl, HX3⟩)
        go_roundw
        case rel => exact ⟨k + 1, by go_num, by omega, HX3⟩
        case measure => simp [intOf]; omega
      · obtain rfl : k = n := by omega
        have hd0 : decide ((k : Int) < (k : Int)) = false := decide_eq_false (by omega)
        have hall : L.take k = L := List.take_of_length_le (by rw [HLN.out]; exact Nat.le_refl _)
        rw [hall] at HX
        have HPA := Lib.hid (HX.out.pass (by omega) (by omega) (by rw [HLN.out]; omega) HPS.out)
        unfold passR at HPA
        cases hq : hasAt 0 L ps with
        | false =>
          rw [if_neg (by rw [hq]; simp)] at HPA
          have hno : ps < 0 ∨ (¬ ps < 0 ∧ (k : Int) < ps) := by
            unfold hasAt at hq
            rw [decide_eq_false_iff_not, HLN.out] at hq
            omega
          clear hq hall HX
          dsimp only at HPA
          rcases hno with d2 | ⟨d2, d3⟩
          · go_wp2_with (first
              | (go_at_call 15; refine HPA.out.mono ?_; rintro e w4 ⟨rfl, HX4⟩; have HBS := Lib.hid HX4.out.base)
              | (go_at_call 26; refine HBS.out.mono ?_; rintro e w5 ⟨rfl, rfl⟩)
              | (go_at_call 10; refine (HAW.out _).mono ?_; rintro e w6 ⟨rfl, hb⟩; have HB := Lib.hid (HX4.out.bel.trans (hb.mono HX4.out.bel.size)); clear hb))
            go_ret
            exact ⟨rfl, HB.out⟩
          · go_wp2_with (first
              | (go_at_call 15; refine HPA.out.mono ?_; rintro e w4 ⟨rfl, HX4⟩; have HBS := Lib.hid HX4.out.base)
              | (go_at_call 26; refine HBS.out.mono ?_; rintro e w5 ⟨rfl, rfl⟩)
              | (go_at_call 10; refine (HAW.out _).mono ?_; rintro e w6 ⟨rfl, hb⟩; have HB := Lib.hid (HX4.out.bel.trans (hb.mono HX4.out.bel.size)); clear hb))
            go_ret
            exact ⟨rfl, HB.out⟩
        | true =>
          rw [if_pos hq] at HPA
          obtain ⟨p, rfl, hpk⟩ : ∃ p : Nat, ps = p ∧ p ≤ k := by
            unfold hasAt at hq
            rw [decide_eq_true_eq, HLN.out] at hq
            exact ⟨ps.toNat, by omega, by omega⟩
          rw [show ((p : Int) - 0).toNat = p by omega] at HPA
          clear hq hall HX hps HPS
          dsimp only at HPA
          have HAC := Lib.hid fun j hj => adds_cases L p j (by rw [HLN.out]; exact hpk) hj
          rw [HLN.out] at HAC
          generalize hT : termAt 0 0 L (p : Int) = T at *
          clear hT
          have hdl : (L.drop p).length = k - p := by rw [List.length_drop, HLN.out]
          have HDL := Lib.hid hdl
          clear hdl
          generalize L.drop p = L2 at *
          go_wp2_with (go_at_call 15; refine HPA.out.mono ?_; rintro e w4 ⟨rfl, HX4⟩)
          clear HPA
          go_loopw [8] (fun i wr => ∃ j : Nat, i = .int .i64 j ∧ j ≤ k + 2 ∧ Hid (LN w wr b p T L2)) (fun i _ => k + 2 - (intOf i).toNat)
          case atStart => exact ⟨0, rfl, Nat.zero_le _, HX4⟩
          case round =>
            clear HX4
            obtain ⟨j, rfl, hjk, HY⟩ := hrel
            by_cases hlt : j ≤ k + 1
            · have hlt' : (j : Int) ≤ k + 1 := by omega
              have HGE := Lib.hid (HY.out.get (by omega) (by omega) (by rw [HDL.out]; omega) (k := (j : Int)) (by unfold I64; omega))
              have HTE : Hid (∀ V, LN w V b p T L2 → Calls Try.prog 21 #[.pointer (some ⟨b, 0, none⟩), .int .i64 (j : Int)] V fun e w' => e = .returned (.tuple #[.int .i64 (termAt p T L2 j), .bool (hasAt p L2 j)]) ∧ Hid (LN w w' b p T L2 ∧ Below V.heap.size V w')) := Lib.hid fun V hv => hv.term (by omega) (by omega) (by rw [HDL.out]; omega) (k := (j : Int)) (by unfold I64; omega)
              have hac := HAC.out j hlt
              clear HAC
              rcases hac with ⟨hjj, h1, h2, h3, h4⟩ | ⟨hjp, hj0, h1, h2, h3, h4⟩ | ⟨i, x, hji0, hil, hx, h3, h4, ⟨hjp, h1, h2⟩ | ⟨hjp, h1, h2⟩⟩
              · rcases hjj with hjj | hjj
                · unfold zeroE at h2
                  have e1 : decide ((p : Int) < j) = false := decide_eq_false (by omega)
                  have e2 : decide ((p : Int) ≤ j) = false := decide_eq_false (by omega)
                  rw [h1, h2] at HGE
                  rw [h3, h4] at HTE
                  go_upto_region 19 with (first
                    | (go_at_call 27; refine HGE.out.mono ?_; rintro e w5 ⟨rfl, HY5⟩; have HTV := Lib.hid (HTE.out _ (HY5.out.1.later ((Below.refl _ _).alloc (Nat.le_refl _) (.cells #[.int .i64 0, .string ⟨#[]⟩] 36)))))
                    | (go_at_call 21; refine HTV.out.mono ?_; rintro e w6 ⟨rfl, HY6⟩))
                  have he6 := (HY6.out.2.block _ (by simp)).trans (heap_alloc_new w5 (.cells #[.int .i64 0, .string ⟨#[]⟩] 36))
                  obtain ⟨z0, z1, _, _⟩ := two_cells he6
                  have HLQ : Hid (∀ q, LN w (w6.drewN q) b p T L2) := Lib.hid fun q => HY6.out.1.later ((Chg.drewN (Φ := fun _ => False) w6 q).below (Nat.le_refl _) fun _ h => h.elim)
                  clear he6
                  have n1 : ¬ p < j := by omega
                  have n2 : ¬ p ≤ j := by omega
                  go_quiet (fail)
                  clear n1 n2
                  have HLV := Lib.hid (HLQ.out nq)
                  clear z0 z1
                  generalize w6.drewN nq = V at *
                  go_wp2_with fail
                  go_roundw
                  case rel => exact ⟨j + 1, by go_num, by omega, HLV⟩
                  case measure => simp [intOf]; omega
                · unfold zeroE at h2
                  have e1 : decide ((p : Int) < j) = true := decide_eq_true (by omega)
                  have e2 : decide ((p : Int) ≤ j) = true := decide_eq_true (by omega)
                  have e3 : decide ((j : Int) ≤ k) = false := decide_eq_false (by omega)
                  rw [h1, h2] at HGE
                  rw [h3, h4] at HTE
                  go_upto_region 19 with (first
                    | (go_at_call 27; refine HGE.out.mono ?_; rintro e w5 ⟨rfl, HY5⟩; have HTV := Lib.hid (HTE.out _ (HY5.out.1.later ((Below.refl _ _).alloc (Nat.le_refl _) (.cells #[.int .i64 0, .string ⟨#[]⟩] 36)))))
                    | (go_at_call 21; refine HTV.out.mono ?_; rintro e w6 ⟨rfl, HY6⟩))
                  have he6 := (HY6.out.2.block _ (by simp)).trans (heap_alloc_new w5 (.cells #[.int .i64 0, .string ⟨#[]⟩] 36))
                  obtain ⟨z0, z1, _, _⟩ := two_cells he6
                  have HLQ : Hid (∀ q, LN w (w6.drewN q) b p T L2) := Lib.hid fun q => HY6.out.1.later ((Chg.drewN (Φ := fun _ => False) w6 q).below (Nat.le_refl _) fun _ h => h.elim)
                  clear he6
                  have n1 : p < j := by omega
                  have n2 : p ≤ j := by omega
                  have n3 : ¬ j ≤ k := by omega
                  go_quiet (fail)
                  clear n1 n2 n3
                  have HLV := Lib.hid (HLQ.out nq)
                  clear z0 z1
                  generalize w6.drewN nq = V at *
                  go_wp2_with fail
                  go_roundw
                  case rel => exact ⟨j + 1, by go_num, by omega, HLV⟩
                  case measure => simp [intOf]; omega
              · unfold zeroE at h2
                have e1 : decide ((p : Int) < j) = false := decide_eq_false (by omega)
                have e2 : decide ((p : Int) ≤ j) = true := decide_eq_true (by omega)
                have e3 : decide ((j : Int) ≤ k) = true := decide_eq_true (by omega)
                have e4 : decide ((0 : Int) < j) = false := decide_eq_false (by omega)
                rw [h1, h2] at HGE
                rw [h3, h4] at HTE
                have n1 : ¬ p < j := by omega
                have n2 : p ≤ j := by omega
                have n3 : j ≤ k := by omega
                have n4 : ¬ 0 < j := by omega
                clear hjp hj0 h1 h2 h3 h4
                go_upto_region 19 with (first
                  | (go_at_call 27; refine HGE.out.mono ?_; rintro e w5 ⟨rfl, HY5⟩; have HTV := Lib.hid (HTE.out _ (HY5.out.1.later ((Below.refl _ _).alloc (Nat.le_refl _) (.cells #[.int .i64 0, .string ⟨#[]⟩] 36)))))
                  | (go_at_call 21; refine HTV.out.mono ?_; rintro e w6 ⟨rfl, HY6⟩))
                have he6 := (HY6.out.2.block _ (by simp)).trans (heap_alloc_new w5 (.cells #[.int .i64 0, .string ⟨#[]⟩] 36))
                obtain ⟨z0, z1, _, _⟩ := two_cells he6
                have HLQ : Hid (∀ q, LN w (w6.drewN q) b p T L2) := Lib.hid fun q => HY6.out.1.later ((Chg.drewN (Φ := fun _ => False) w6 q).below (Nat.le_refl _) fun _ h => h.elim)
                clear he6
                go_quiet (fail)
                have HLV := Lib.hid (HLQ.out nq)
                clear z0 z1
                generalize w6.drewN nq = V at *
                go_wp2_with fail
                go_roundw
                case rel => exact ⟨j + 1, by go_num, by omega, HLV⟩
                case measure => simp [intOf]; omega
              · unfold zeroE at h2
                obtain ⟨xt, xd⟩ := x
                dsimp only at *
                have e1 : decide ((p : Int) < j) = false := decide_eq_false (by omega)
                have e2 : decide ((p : Int) ≤ j) = true := decide_eq_true (by omega)
                have e3 : decide ((j : Int) ≤ k) = true := decide_eq_true (by omega)
                have e4 : decide ((0 : Int) < j) = true := decide_eq_true (by omega)
                have hji : (j : Int) - 1 = i := by omega
                have e5 : (xt == xt) = true := beq_self_eq_true _
                have hik : (i : Int) < k := by omega
                rw [h1, h2] at HGE
                rw [h3, h4] at HTE
                have n1 : ¬ p < j := by omega
                have n2 : p ≤ j := by omega
                have n3 : j ≤ k := by omega
                have n4 : 0 < j := by omega
                clear hjp hji0 h1 h2 h3 h4
                go_upto_region 19 with (first
                  | (go_at_call 27; refine HGE.out.mono ?_; rintro e w5 ⟨rfl, HY5⟩; have HTV := Lib.hid (HTE.out _ (HY5.out.1.later ((Below.refl _ _).alloc (Nat.le_refl _) (.cells #[.int .i64 0, .string ⟨#[]⟩] 36)))))
                  | (go_at_call 21; refine HTV.out.mono ?_; rintro e w6 ⟨rfl, HY6⟩))
                have he6 := (HY6.out.2.block _ (by simp)).trans (heap_alloc_new w5 (.cells #[.int .i64 0, .string ⟨#[]⟩] 36))
                obtain ⟨z0, z1, _, _⟩ := two_cells he6
                have HLQ : Hid (∀ q, LN w (w6.drewN q) b p T L2) := Lib.hid fun q => HY6.out.1.later ((Chg.drewN (Φ := fun _ => False) w6 q).below (Nat.le_refl _) fun _ h => h.elim)
                have hbw6 := HY6.out.1.bel
                rw [HBB.out] at hbw6
                obtain ⟨g, o, hA, _, _, q0, q1⟩ := (HR.out.below' hbw6).en hx
                subst hA
                clear hx hbw6
                clear he6
                go_quiet (fail)
                have HLV := Lib.hid (HLQ.out nq)
                have q0' : (w6.drewN nq).cell? ⟨g, o + i * 2, none⟩ = some (.int .i64 xt) := q0
                clear q0 q1
                clear z0 z1
                generalize w6.drewN nq = V at *
                go_wp2_with fail
                go_roundw
                case rel => exact ⟨j + 1, by go_num, by omega, HLV⟩
                case measure => simp [intOf]; omega
              · obtain ⟨xt, xd⟩ := x
                dsimp only at *
                have e1 : decide ((p : Int) < j) = true := decide_eq_true (by omega)
                have e2 : decide ((p : Int) ≤ j) = true := decide_eq_true (by omega)
                have e3 : decide ((j : Int) ≤ k) = true := decide_eq_true (by omega)
                have e4 : decide ((0 : Int) < j) = true := decide_eq_true (by omega)
                have hji : (j : Int) - 1 = i := by omega
                have hw1 : IntKind.i64.wrap (i : Int) = i := IntWalk.i64_in _ (by omega)
                have hw2 : IntKind.i64.wrap ((j : Int) - 1) = i := by rw [hji]; exact hw1
                have e5 : (xt == xt) = true := beq_self_eq_true _
                have e6 : (xd.toList == xd.toList) = true := beq_self_eq_true _
                have hik : (i : Int) < k := by omega
                rw [h1, h2] at HGE
                rw [h3, h4] at HTE
                have n1 : p < j := by omega
                have n2 : p ≤ j := by omega
                have n3 : j ≤ k := by omega
                have n4 : 0 < j := by omega
                clear hjp hji0 h1 h2 h3 h4
                go_upto_region 19 with (first
                  | (go_at_call 27; refine HGE.out.mono ?_; rintro e w5 ⟨rfl, HY5⟩; have HTV := Lib.hid (HTE.out _ (HY5.out.1.later ((Below.refl _ _).alloc (Nat.le_refl _) (.cells #[.int .i64 xt, .string xd] 36)))))
                  | (go_at_call 21; refine HTV.out.mono ?_; rintro e w6 ⟨rfl, HY6⟩))
                have he6 := (HY6.out.2.block _ (by simp)).trans (heap_alloc_new w5 (.cells #[.int .i64 xt, .string xd] 36))
                obtain ⟨z0, z1, _, _⟩ := two_cells he6
                have HLQ : Hid (∀ q, LN w (w6.drewN q) b p T L2) := Lib.hid fun q => HY6.out.1.later ((Chg.drewN (Φ := fun _ => False) w6 q).below (Nat.le_refl _) fun _ h => h.elim)
                have hbw6 := HY6.out.1.bel
                rw [HBB.out] at hbw6
                obtain ⟨g, o, hA, _, _, q0, q1⟩ := (HR.out.below' hbw6).en hx
                subst hA
                clear hx hbw6
                clear he6
                go_quiet (fail)
                have HLV := Lib.hid (HLQ.out nq)
                have q0' : (w6.drewN nq).cell? ⟨g, o + i * 2, none⟩ = some (.int .i64 xt) := q0
                clear q0 q1
                clear hw1 hw2
                clear z0 z1
                generalize w6.drewN nq = V at *
                go_wp2_with fail
                go_roundw
                case rel => exact ⟨j + 1, by go_num, by omega, HLV⟩
                case measure => simp [intOf]; omega
            · have hd9 : decide ((j : Int) ≤ k + 1) = false := decide_eq_false (by omega)
              have HBS := Lib.hid HY.out.base
              have HLS := Lib.hid (HY.out.last (by omega) (by omega) (by rw [HDL.out]; omega))
              have HCA : Hid ((p : Int) + L2.length = k) := Lib.hid (by rw [HDL.out]; omega)
              rw [HCA.out] at HLS
              have e5 : ((p : Int) == p) = true := beq_self_eq_true _
              have e6 : ((k : Int) == k) = true := beq_self_eq_true _
              clear HAC
              go_wp2_with (first
                | (go_at_call 26; refine HBS.out.mono ?_; rintro e w5 ⟨rfl, rfl⟩)
                | (go_at_call 16; refine HLS.out.mono ?_; rintro e w5 ⟨rfl, HY5⟩)
                | (go_at_call 10; refine (HAW.out _).mono ?_; rintro e w6 ⟨rfl, hb⟩; have HB := Lib.hid (HY5.out.1.bel.trans (hb.mono HY5.out.1.bel.size)); clear hb))
              go_ret
              exact ⟨rfl, HB.out⟩
end Go.Proofs.Ytmmddkddjiodbaa
