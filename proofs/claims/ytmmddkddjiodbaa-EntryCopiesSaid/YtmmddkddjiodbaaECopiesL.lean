/- What is proved here: EntryCopies. -/
import Derived.Test.YtmmddkddjiodbaaECopies
namespace Go.Proofs.Ytmmddkddjiodbaa
open Go Go.RowKit Go.Maps Go.WideMaps

set_option maxHeartbeats 12800000 in
set_option maxRecDepth 100000 in
theorem entryCopies_any {w : World} {A A' : Option Addr} {n c m d : Nat} {ops : List OpM} (hops : OpsRd w A n c ops) {M : List En} (hr : WRd enC w (fun k => k < w.heap.size) A' m d M) :
    Calls Try.prog 8 #[.slice A n c, .slice A' m d] w fun e w' => e = .returned (.bool true) ∧ Below w.heap.size w w' := by
  have HAW := Lib.hid fun W => awake_any W
  have HFE := Lib.hid (few_any hops)
  have HN : Hid (Calls Try.prog 11 #[.int .i64 0, .int .i64 0] w fun e w2 => e = .returned (.pointer (some ⟨w.heap.size, 0, none⟩)) ∧ Hid (LogAt w2 w.heap.size 0 0 [] (fun k => k = w.heap.size) ∧ Below w.heap.size w w2)) := Lib.hid ((New_any w 0 0).mono (by
    rintro e w' ⟨rfl, h1, h2⟩
    exact ⟨rfl, Lib.hid ⟨h1, h2⟩⟩))
  have HRN : Hid (∀ V, Calls Try.prog 12 #[.int .i64 0, .int .i64 0] V fun e w2 => e = .returned (.agg #[.int .i64 0, .int .i64 0, .slice none 0 0]) ∧ Below V.heap.size V w2) := Lib.hid fun V => RNew_any 0 0 V
  have HOPS := Lib.hid hops
  have HR := Lib.hid hr
  have HLN := Lib.hid hr.len
  have hcaps := hops.rd.caps
  have hcaps2 := hr.caps
  clear hops hr
  by_cases h60 : 60 < m
  · have d1 : (60 : Int) < m := by omega
    clear HN HRN
    go_enter Try.func8, Try.ntmps8
    go_wp2_with (first
      | (go_at_call 9; refine HFE.out.mono ?_; intro e w1 hh; obtain ⟨q, rfl, hq, rfl⟩ := hh; clear hq; cases q)
      | (go_at_call 10; refine (HAW.out _).mono ?_; rintro e w1 ⟨rfl, hb⟩; have HB := Lib.hid hb; clear hb))
    all_goals
      go_ret
      exact ⟨rfl, HB.out⟩
  · have d1 : ¬ (60 : Int) < m := by omega
    have hm60 : m ≤ 60 := by omega
    go_enter Try.func8, Try.ntmps8
    go_upto_region 3 with (first
      | (go_at_call 9; refine HFE.out.mono ?_; intro e w1 hh; obtain ⟨q, rfl, hq, rfl⟩ := hh; have HQ := Lib.hid hq; clear hq; cases q)
      | (go_at_call 10; refine (HAW.out _).mono ?_; rintro e w1 ⟨rfl, hb⟩; have HB := Lib.hid hb; clear hb))
    · go_ret
      exact ⟨rfl, HB.out⟩
    · have hf := HQ.out (by first | trivial | rfl)
      have HF := Lib.hid hf
      have hn60 : n ≤ 60 := by have := hf.n60; have := HOPS.out.rd.len; omega
      clear hf HQ
      go_upto_region 4 with (first
        | (go_at_call 11; refine HN.out.mono ?_; rintro e w2 ⟨rfl, HL⟩)
        | (go_at_call 12; refine (HRN.out _).mono ?_; rintro e w3 ⟨rfl, hb3⟩; have HB3 := Lib.hid hb3; clear hb3))
      obtain ⟨w1, hw1⟩ : ∃ V1, V1 = w3.alloc (.cells #[.int .i64 0, .int .i64 0, .slice none 0 0] 29) := ⟨_, rfl⟩
      have HP0 : Hid (Two w w1 w1 w.heap.size w3.heap.size 0 0 0 [] none 0 0) := Lib.hid (by rw [hw1]; exact two_begin (w := w) (x := 0) (y := 0) (Nat.le_refl _) HL.out.1 HL.out.2 HB3.out (by omega) rfl)
      rw [← hw1]
      clear hw1 HN HRN HL HB3
      generalize hb0 : w.heap.size = b at *
      have HB0 := Lib.hid hb0
      clear hb0
      generalize w3.heap.size = rb at *
      go_wp2_with fail
      go_loopw [34] (fun i wr => ∃ k : Nat, i = .int .i64 k ∧ k ≤ n ∧ Hid (∃ B T L Ar nr cr, Two w w1 wr b rb (sumN (ops.take k)) B T L Ar nr cr)) (fun i _ => n - (intOf i).toNat)
      case atStart => exact ⟨0, rfl, Nat.zero_le _, Lib.hid ⟨_, _, _, _, _, _, HP0.out⟩⟩
      case round =>
        clear HP0
        obtain ⟨k, rfl, hkn, HP⟩ := hrel
        obtain ⟨B, T, L, Ar, nr, cr, htw⟩ := HP.out
        by_cases hlt : k < n
        · have hlt' : (k : Int) < n := by omega
          obtain ⟨p, g, o, hpk, hok, hpm, hs4, hsm, rfl, q0, q1, q2, q3⟩ := few_ops HOPS.out HF.out htw.bel hlt
          obtain ⟨V, hV⟩ : ∃ V, V = wr.alloc (.cells #[.int .i64 p.kind, .int .i64 p.at_, .int .i64 p.term, .slice p.A p.n p.c] 32) := ⟨_, rfl⟩
          have hbV : Below wr.heap.size wr V := by rw [hV]; exact (Below.refl _ _).alloc (Nat.le_refl _) _
          have hob : V.heap[wr.heap.size]? = some (.cells #[.int .i64 p.kind, .int .i64 p.at_, .int .i64 p.term, .slice p.A p.n p.c] 32 (0, 0)) := by rw [hV]; exact heap_alloc_new _ _
          have HD := Lib.hid (pair_step htw hbV hs4 hok hpm)
          have HSM := Lib.hid hsm
          obtain ⟨v0, v1, v2, v3⟩ := four_cells hob
          obtain ⟨z0, z1, z2, _⟩ := three_cells (htw.later hbV).blk
          have HV := Lib.hid hV
          clear HP htw hpk hok hpm hs4 hsm hV hbV hob
          obtain ⟨kd, y', tm, Ap, np, cp, Mp⟩ := p
          dsimp only at *
          go_upto_region 9 with fail
          rw [← HV.out]
          clear q0 q1 q2 q3
          go_wp2_with (go_at_call 17; refine HD.out.mono ?_; intro e w4 hh; obtain ⟨B2, T2, A2, n2, c2, rfl, s0, s1, s2, f0, f1, f2, HPN⟩ := hh)
          go_roundw
          case rel => exact ⟨k + 1, by go_num, by omega, Lib.hid (by rw [HSM.out]; obtain ⟨L2, ht2⟩ := HPN.out; exact ⟨B2, T2, L2, A2, n2, c2, ht2⟩)⟩
          case measure => simp [intOf]; omega
        · obtain rfl : k = n := by omega
          have hd0 : decide ((k : Int) < (k : Int)) = false := decide_eq_false (by omega)
          have hs60 : sumN (ops.take k) ≤ 400 := Nat.le_trans (sumN_le ops k) HF.out.s400
          obtain ⟨hbl, hbn⟩ := htw.len
          have hB0 := hbn.b0
          have hB1 : B ≤ 4398046511104 := by have := hbn.last; omega
          have hLL : L.length < 100000 := by have := hbn.len; omega
          have hRW : WRd enC w (fun k => k < w.heap.size) A' m d M := by rw [HB0.out]; exact HR.out
          obtain ⟨Φ, hp, _⟩ := htw.pair
          have HP2 := Lib.hid hp
          have HC1 := Lib.hid (copies_calls hp.log hp.bel hB0 hB1 hLL hRW (by omega))
          have HXB : Hid (∀ U, Below wr.heap.size wr U → Calls Try.prog 26 #[.pointer (some ⟨b, 0, none⟩)] U fun e w' => e = .returned (.int .i64 B) ∧ U = w') := Lib.hid fun U hU => Base_any (hp.log.later hU)
          have HXF : Hid (∀ U, Below wr.heap.size wr U → Calls Try.prog 19 #[.pointer (some ⟨b, 0, none⟩), .int .i64 (B + 1), .int .i64 400] U fun e w' => ∃ A n c, e = .returned (.slice A n c) ∧ Hid (Gv U w' A n c)) := Lib.hid fun U hU => told_from (hp.log.later hU) hB0 hB1 hLL
          have HSM : Hid (∀ U, Below wr.heap.size wr U → Calls Try.prog 18 #[.pointer (some ⟨b, 0, none⟩), .agg #[.int .i64 B, .int .i64 T, .slice Ar nr cr]] U fun e w' => e = .returned (.bool true) ∧ Below U.heap.size U w') := Lib.hid fun U hU => by
            have h2 := hp.later hU
            exact Same_any h2.log h2.row hB0 hB1 (by omega)
          have HZB : Hid (∀ U, Below wr.heap.size wr U → U.cell? ⟨rb, 0, none⟩ = some (.int .i64 B) ∧ U.cell? ⟨rb, 1, none⟩ = some (.int .i64 T) ∧ U.cell? ⟨rb, 2, none⟩ = some (.slice Ar nr cr)) := Lib.hid fun U hU => by
            obtain ⟨z0, z1, z2, _⟩ := three_cells (hp.later hU).blk
            exact ⟨z0, z1, z2⟩
          have HBW : Hid (Below w.heap.size w wr) := Lib.hid hp.bel
          have hwB : IntKind.i64.wrap (B + 1) = B + 1 := IntWalk.i64_in _ (by omega)
          clear HP htw hp hs60 hbl hbn HF HOPS HFE hRW HP2
          generalize hV0 : wr = V0 at *
          clear hV0
          go_wp2_with (first
            | (go_at_call 13; refine HC1.out.mono ?_; intro e w2 hh; obtain ⟨b', rfl, HC2⟩ := hh)
            | (go_at_call 25; refine HC2.out.mono ?_; intro e w3 hh; obtain ⟨A3, c3, rfl, HCB, HC3⟩ := hh)
            | (go_at_call 26; (with_reducible refine HCB.out.mono ?_); rintro e w4 ⟨rfl, rfl⟩; clear HCB)
            | (go_at_call 24; refine HC3.out.mono ?_; intro e w4 hh; obtain ⟨v1, q, rfl, HC4⟩ := hh)
            | (go_at_call 14; refine HC4.out.mono ?_; intro e w5 hh; obtain ⟨la, rfl, HC5⟩ := hh)
            | (go_at_call 16; refine HC5.out.mono ?_; rintro e w6 ⟨rfl, HC6⟩)
            | (go_at_call 15; refine HC6.out.mono ?_; rintro e w7 ⟨rfl, HG7⟩; have HB7 := Lib.hid HG7.out.1.bel)
            | (go_at_call 26; refine (HXB.out w7 HB7.out).mono ?_; rintro e w8 ⟨rfl, rfl⟩)
            | (go_at_call 19; refine (HXF.out w7 HB7.out).mono ?_; intro e w8 hh; obtain ⟨A5, n5, c5, rfl, HT⟩ := hh))
          have hcap5 := HT.out.cap
          clear HC1 HC2 HC3 HC4 HC5 HC6 HXB HXF hwB
          go_loopw [71] (fun i wr => ∃ j : Nat, i = .int .i64 j ∧ j ≤ n5 ∧ Hid (Gv w7 wr A5 n5 c5)) (fun i _ => n5 - (intOf i).toNat)
          case atStart => exact ⟨0, rfl, Nat.zero_le _, HT⟩
          case round =>
            clear HT
            obtain ⟨j, rfl, hjn, HT⟩ := hrel
            by_cases hj : j < n5
            · have hj' : (j : Int) < n5 := by omega
              obtain ⟨g, i, hA, q0, q1, HN, _⟩ := HT.out.round hj
              subst hA
              have HN2 := Lib.hid (HN.out 78)
              clear HN HT
              go_wp2_with fail
              clear q0 q1
              go_roundw
              case rel => exact ⟨j + 1, by go_num, by omega, HN2⟩
              case measure => simp [intOf]; omega
            · obtain rfl : j = n5 := by omega
              have hd1 : decide ((j : Int) < (j : Int)) = false := decide_eq_false (by omega)
              have HBT := Lib.hid HT.out.bel
              have HGV := Lib.hid (HG7.out.1.later HBT.out)
              have HRG := Lib.hid (HG7.out.2.below HBT.out)
              have hcap3 := HG7.out.1.cap
              have HY1 := Lib.hid (y_calls HGV.out HRG.out (by omega))
              have HENT : Hid (∀ (j : Nat) (x : En), M[j]? = some x → isAt 0 (mergeL [] 0 M) (j + 1) = true ∧ entAt 0 (mergeL [] 0 M) (j + 1) = x) := Lib.hid fun j x hx => y_entry hx
              have HL2 : Hid ((mergeL [] 0 M).length < 500000) := Lib.hid (by have := (mergeL_len M [] 0 (by simp)).2; have := HLN.out; simp at *; omega)
              generalize mergeL [] 0 M = L2 at *
              clear HT HG7 HBT HGV HRG HB7
              generalize hW8 : wr = W8 at *
              clear hW8
              go_wp2_with (first
                | (go_at_call 11; refine HY1.out.mono ?_; rintro e w9 ⟨rfl, HY2⟩)
                | (go_at_call 24; refine HY2.out.mono ?_; intro e w10 hh; obtain ⟨v2, q2, rfl, HYV⟩ := hh))
              generalize W8.heap.size = b2 at *
              clear HY1 HY2
              go_loopw [87] (fun i wr => ∃ j : Nat, i = .int .i64 j ∧ j ≤ m ∧ Hid (Yv V0 W8 wr b2 L2 A3 m c3)) (fun i _ => m - (intOf i).toNat)
              case atStart => exact ⟨0, rfl, Nat.zero_le _, HYV⟩
              case round =>
                clear HYV
                obtain ⟨j, rfl, hjm, HY⟩ := hrel
                by_cases hj : j < m
                · have hj' : (j : Int) < m := by omega
                  obtain ⟨g, i, hA, q0, q1, HN⟩ := HY.out.round hj
                  subst hA
                  have HN2 := Lib.hid (HN.out 79)
                  clear HN HY
                  go_wp2_with fail
                  clear q0 q1
                  go_roundw
                  case rel => exact ⟨j + 1, by go_num, by omega, HN2⟩
                  case measure => simp [intOf]; omega
                · obtain rfl : j = m := by omega
                  have hd2 : decide ((j : Int) < (j : Int)) = false := decide_eq_false (by omega)
                  have HY0 := HY
                  go_wp2_with fail
                  generalize hj0 : j = m at *
                  clear hj0 hd2
                  go_loopw [97] (fun i wr => ∃ j : Nat, i = .int .i64 j ∧ j ≤ m ∧ Hid (Yv V0 W8 wr b2 L2 A3 m c3)) (fun i _ => m - (intOf i).toNat)
                  case atStart => exact ⟨0, rfl, Nat.zero_le _, HY0⟩
                  case round =>
                    clear HY HY0
                    obtain ⟨j, rfl, hjm, HY⟩ := hrel
                    by_cases hj : j < m
                    · have hj' : (j : Int) < m := by omega
                      obtain ⟨x, hx⟩ : ∃ x, M[j]? = some x := ⟨_, List.getElem?_eq_getElem (by rw [HLN.out]; exact hj)⟩
                      obtain ⟨n1, n2⟩ := HENT.out j x hx
                      have hbw : Below w.heap.size w wr := HBW.out.trans (HY.out.gv.bel.mono HBW.out.size)
                      rw [HB0.out] at hbw
                      obtain ⟨g, o, hA, _, _, q0, q1⟩ := (HR.out.below' hbw).en hx
                      subst hA
                      obtain ⟨U, hU⟩ : ∃ U, U = wr.alloc (.cells #[.int .i64 x.t, .string x.d] 47) := ⟨_, rfl⟩
                      have hbU : Below wr.heap.size wr U := by rw [hU]; exact (Below.refl _ _).alloc (Nat.le_refl _) _
                      have heU : U.heap[wr.heap.size]? = some (.cells #[.int .i64 x.t, .string x.d] 47 (0, 0)) := by rw [hU]; exact heap_alloc_new _ _
                      have HU := Lib.hid (HY.out.later hbU)
                      have HEU := Lib.hid heU
                      have hwa : IntKind.i64.wrap ((j : Int) + 1) = j + 1 := IntWalk.i64_in _ (by omega)
                      have HG1 := Lib.hid (HU.out.get HL2.out (k := (j : Int) + 1) (by unfold I64; omega))
                      have HUV := Lib.hid hU
                      rw [n1, n2] at HG1
                      clear n1 n2 hx hbw hU hbU heU HY
                      obtain ⟨xt, xd⟩ := x
                      dsimp only at *
                      have e5 : (xt == xt) = true := beq_self_eq_true _
                      have e6 : (xd.toList == xd.toList) = true := beq_self_eq_true _
                      go_upto_region 36 with fail
                      rw [← HUV.out]
                      clear q0 q1
                      go_upto_region 37 with (go_at_call 27; refine HG1.out.mono ?_; rintro e w5 ⟨rfl, hb5⟩; have HB5 := Lib.hid hb5; clear hb5)
                      clear hwa
                      have heW := ((HB5.out.block _ (Array.getElem?_eq_some_iff.1 HEU.out).1).trans HEU.out)
                      obtain ⟨V, hV⟩ : ∃ V, V = w5.alloc (.cells #[.int .i64 xt, .string xd] 36) := ⟨_, rfl⟩
                      have hbV : Below w5.heap.size w5 V := by rw [hV]; exact (Below.refl _ _).alloc (Nat.le_refl _) _
                      have he6 : V.heap[w5.heap.size]? = some (.cells #[.int .i64 xt, .string xd] 36 (0, 0)) := by rw [hV]; exact heap_alloc_new _ _
                      have he8 := (hbV.block _ (Array.getElem?_eq_some_iff.1 heW).1).trans heW
                      obtain ⟨y0, y1, _, _⟩ := two_cells he6
                      obtain ⟨x0, x1, _, _⟩ := two_cells he8
                      have HMV := Lib.hid ((HU.out.later HB5.out).later hbV)
                      rw [← hV]
                      clear hV hbV he6 he8 heW HEU HG1 HU HB5 HUV
                      generalize w5.heap.size = g6 at *
                      generalize wr.heap.size = g7 at *
                      go_wp2_with fail
                      go_roundw
                      case rel => exact ⟨j + 1, by go_num, by omega, HMV⟩
                      case measure => simp [intOf]; omega
                    · obtain rfl : j = m := by omega
                      have hd8 : decide ((j : Int) < (j : Int)) = false := decide_eq_false (by omega)
                      obtain ⟨z0, z1, z2⟩ := HZB.out _ HY.out.gv.bel
                      have HS := Lib.hid (HSM.out _ HY.out.gv.bel)
                      have HBY : Hid (Below w.heap.size w wr) := Lib.hid (HBW.out.trans (HY.out.gv.bel.mono HBW.out.size))
                      clear HENT HZB HSM HY
                      go_wp2_with (first
                        | (go_at_call 18; refine HS.out.mono ?_; rintro e w8 ⟨rfl, hb⟩; have HB8 := Lib.hid (HBY.out.trans (hb.mono HBY.out.size)); clear hb)
                        | (go_at_call 10; refine (HAW.out _).mono ?_; rintro e w9 ⟨rfl, hb⟩; have HB := Lib.hid (HB8.out.trans (hb.mono HB8.out.size)); clear hb))
                      go_ret
                      exact ⟨rfl, HB.out⟩
end Go.Proofs.Ytmmddkddjiodbaa
