/- What is proved here: EntryFrom. -/
import Derived.Test.YtmmddkddjiodbaaEStep
namespace Go.Proofs.Ytmmddkddjiodbaa
open Go Go.RowKit Go.Maps Go.WideMaps

theorem fromF_len (B : Int) (L : List En) (k most : Int) : (fromF B L k most).length ≤ L.length := by
  unfold fromF
  rw [List.length_take, List.length_drop]
  omega
/-- Both logs tell the entries from one on. -/
theorem two_from {w w1 wr : World} {b rb s : Nat} {B T : Int} {L : List En} {A : Option Addr} {n c : Nat} (h : Two w w1 wr b rb s B T L A n c) (hs : s ≤ 1000) {k most : Int} (hk : I64 k) (hm : I64 most) :
    Calls Try.prog 19 #[.pointer (some ⟨b, 0, none⟩), .int .i64 k, .int .i64 most] wr.drew fun e w2 => ∃ (A1 : Option Addr) (m c1 : Nat), e = .returned (.slice A1 m c1) ∧ w2.cell? ⟨rb, 0, none⟩ = some (.int .i64 B) ∧ w2.cell? ⟨rb, 1, none⟩ = some (.int .i64 T) ∧ w2.cell? ⟨rb, 2, none⟩ = some (.slice A n c) ∧
      Hid (Calls Try.prog 20 #[.agg #[.int .i64 B, .int .i64 T, .slice A n c], .int .i64 k, .int .i64 most] w2 fun e w3 => ∃ (A2 : Option Addr) (c2 : Nat), e = .returned (.slice A2 m c2) ∧ w3.cell? ⟨rb, 0, none⟩ = some (.int .i64 B) ∧ w3.cell? ⟨rb, 1, none⟩ = some (.int .i64 T) ∧ w3.cell? ⟨rb, 2, none⟩ = some (.slice A n c) ∧
        Hid (∃ F, Below w.heap.size w w3 ∧ m ≤ 1000 ∧ m ≤ c1 ∧ c1 ≤ 9223372036854775807 ∧ m ≤ c2 ∧ c2 ≤ 9223372036854775807 ∧ SRd enC w3 (fun _ => True) A1 m c1 F ∧ SRd enC w3 (fun _ => True) A2 m c2 F)) := by
  have hbd := (Below.refl wr.heap.size wr).drew
  obtain ⟨Φ, h1, h2⟩ := h.later hbd
  have g0 := h1.bnd.b0
  have g1 := h1.bnd.last
  have g2 := h1.bnd.len
  have gl := h1.row.len
  have hfl := fromF_len B L k most
  refine (From_any h1.log g0 (by omega) (by omega) hk hm).mono ?_
  rintro e w2 ⟨A1, c1, rfl, ho, hb2⟩
  have hp2 := h1.later hb2
  have x2 := three_cells hp2.blk
  refine ⟨A1, _, c1, rfl, x2.1, x2.2.1, x2.2.2.1, Lib.hid ?_⟩
  refine (RFrom_any (T := T) hp2.row g0 (by omega) (by omega)).mono ?_
  rintro e w3 ⟨A2, c2, rfl, hr, hb3⟩
  have hp3 := hp2.later hb3
  have x3 := three_cells hp3.blk
  have hr1 : SRd enC w2 (fun _ => True) A1 (fromF B L k most).length c1 (fromF B L k most) := SRd.own ho rfl fun _ _ _ => trivial
  have hr3 := hr1.below hb3
  have hr2 : SRd enC w3 (fun _ => True) A2 (fromF B L k most).length c2 (fromF B L k most) := hr.mono fun _ _ _ => trivial
  exact ⟨A2, c2, rfl, x3.1, x3.2.1, x3.2.2.1, Lib.hid ⟨_, hp3.bel, by omega, hr3.caps.1, hr3.caps.2, hr2.caps.1, hr2.caps.2, hr3, hr2⟩⟩
set_option maxHeartbeats 6400000 in
set_option maxRecDepth 100000 in
theorem entryFrom_any {w : World} {A : Option Addr} {n c : Nat} {ops : List OpM} (hops : OpsRd w A n c ops) {x k1 many : Int} (hx : I64 x) (hk1 : I64 k1) (hma : I64 many) :
    Calls Try.prog 4 #[.int .i64 x, .slice A n c, .int .i64 k1, .int .i64 many] w fun e w' => e = .returned (.bool true) ∧ Below w.heap.size w w' := by
  have HAW := Lib.hid fun W => awake_any W
  have HFE := Lib.hid (few_any hops)
  have HN := Lib.hid (pair_new (Below.refl w.heap.size w) x 1)
  have HRN := Lib.hid fun W => RNew_any x 1 W
  have HOPS := Lib.hid hops
  have hcaps := hops.rd.caps
  have HI1 := Lib.hid hk1
  have HI2 := Lib.hid hma
  clear hops
  unfold I64 at hx hk1 hma
  unfold rlV at HRN
  have hcase : (1099511627776 < x ∨ (¬ 1099511627776 < x ∧ (k1 < -1099511627776 ∨ (¬ k1 < -1099511627776 ∧ 1099511627776 < k1)))) ∨ (¬ 1099511627776 < x ∧ ¬ k1 < -1099511627776 ∧ ¬ 1099511627776 < k1) := by omega
  rcases hcase with hbad | ⟨hg1, hg2, hg3⟩
  · clear HN HRN HI1 HI2
    rcases hbad with d1 | ⟨d1, d2 | ⟨d2, d3⟩⟩
    · have e1 : decide (1099511627776 < x) = true := decide_eq_true d1
      go_enter Try.func4, Try.ntmps4
      go_wp2_with (first
        | (go_at_call 9; refine HFE.out.mono ?_; intro e w1 hh; obtain ⟨q, rfl, hq, rfl⟩ := hh; clear hq; cases q)
        | (go_at_call 10; refine (HAW.out _).mono ?_; rintro e w1 ⟨rfl, hb⟩; have HB := Lib.hid hb; clear hb))
      all_goals
        go_ret
        exact ⟨rfl, HB.out⟩
    · have e1 : decide (1099511627776 < x) = false := decide_eq_false d1
      have e2 : decide (k1 < -1099511627776) = true := decide_eq_true d2
      go_enter Try.func4, Try.ntmps4
      go_wp2_with (first
        | (go_at_call 9; refine HFE.out.mono ?_; intro e w1 hh; obtain ⟨q, rfl, hq, rfl⟩ := hh; clear hq; cases q)
        | (go_at_call 10; refine (HAW.out _).mono ?_; rintro e w1 ⟨rfl, hb⟩; have HB := Lib.hid hb; clear hb))
      all_goals
        go_ret
        exact ⟨rfl, HB.out⟩
    · have e1 : decide (1099511627776 < x) = false := decide_eq_false d1
      have e2 : decide (k1 < -1099511627776) = false := decide_eq_false d2
      have e3 : decide (1099511627776 < k1) = true := decide_eq_true d3
      go_enter Try.func4, Try.ntmps4
      go_wp2_with (first
        | (go_at_call 9; refine HFE.out.mono ?_; intro e w1 hh; obtain ⟨q, rfl, hq, rfl⟩ := hh; clear hq; cases q)
        | (go_at_call 10; refine (HAW.out _).mono ?_; rintro e w1 ⟨rfl, hb⟩; have HB := Lib.hid hb; clear hb))
      all_goals
        go_ret
        exact ⟨rfl, HB.out⟩
  · have e1 : decide (1099511627776 < x) = false := decide_eq_false hg1
    have e2 : decide (k1 < -1099511627776) = false := decide_eq_false hg2
    have e3 : decide (1099511627776 < k1) = false := decide_eq_false hg3
    have hxg2 : x ≤ 1099511627776 := by omega
    go_enter Try.func4, Try.ntmps4
    go_upto_region 3 with (first
      | (go_at_call 9; refine HFE.out.mono ?_; intro e w1 hh; obtain ⟨q, rfl, hq, rfl⟩ := hh; have HQ := Lib.hid hq; clear hq; cases q)
      | (go_at_call 10; refine (HAW.out _).mono ?_; rintro e w1 ⟨rfl, hb⟩; have HB := Lib.hid hb; clear hb))
    · go_ret
      exact ⟨rfl, HB.out⟩
    · have hf := HQ.out (by first | trivial | rfl)
      have HF := Lib.hid hf
      have hn60 : n ≤ 60 := by have := hf.n60; have := HOPS.out.rd.len; omega
      clear hf HQ
      go_wp2_with (first
        | (go_at_call 11; refine HN.out.mono ?_; rintro e w2 ⟨rfl, HL⟩)
        | (go_at_call 12; refine (HRN.out _).mono ?_; rintro e w3 ⟨rfl, hb3⟩; have HP0 := Lib.hid (two_begin (w := w) (Nat.le_refl _) HL.out.1 HL.out.2.1 hb3 hxg2 rfl); clear hb3))
      generalize hrb : w3.heap.size = rb at *
      clear hrb HN HRN HL
      generalize hb0 : w.heap.size = b at *
      have HB0 := Lib.hid hb0
      clear hb0
      generalize max x 0 = x0 at *
      generalize (max 1 0 : Int) = t0 at *
      generalize w3.alloc (.cells #[.int .i64 x0, .int .i64 t0, .slice none 0 0] 29) = w1 at *
      go_loopw [40] (fun i wr => ∃ k : Nat, i = .int .i64 k ∧ k ≤ n ∧ Hid (∃ B T L Ar nr cr, Two w w1 wr b rb (sumN (ops.take k)) B T L Ar nr cr)) (fun i _ => n - (intOf i).toNat)
      case atStart => exact ⟨0, rfl, Nat.zero_le _, Lib.hid ⟨_, _, _, _, _, _, HP0.out⟩⟩
      case round =>
        clear HP0
        obtain ⟨k, rfl, hkn, HP⟩ := hrel
        obtain ⟨B, T, L, Ar, nr, cr, htw⟩ := HP.out
        by_cases hlt : k < n
        · have hlt' : (k : Int) < n := by omega
          obtain ⟨p, g, o, hpk, hok, hpm, hs4, hsm, rfl, q0, q1, q2, q3⟩ := few_ops HOPS.out HF.out htw.bel hlt
          obtain ⟨V, hV⟩ : ∃ V, V = wr.alloc (.cells #[.int .i64 p.kind, .int .i64 p.at_, .int .i64 p.term, .slice p.A p.n p.c] 32) := ⟨_, rfl⟩
          have hbV : Below wr.heap.size wr V := by rw [hV]; exact (Below.refl _ _).alloc (Nat.le_refl _) _
          have hob : V.heap[wr.heap.size]? = some (.cells #[.int .i64 p.kind, .int .i64 p.at_, .int .i64 p.term, .slice p.A p.n p.c] 32 (0, 0)) := by rw [hV]; exact heap_alloc_new _ _
          have HD := Lib.hid (pair_step htw hbV hs4 hok hpm)
          have HSM := Lib.hid hsm
          obtain ⟨v0, v1, v2, v3⟩ := four_cells hob
          obtain ⟨z0, z1, z2, _⟩ := three_cells (htw.later hbV).blk
          have HV := Lib.hid hV
          clear HP htw hpk hok hpm hs4 hsm hV hbV hob
          obtain ⟨kd, y', tm, Ap, np, cp, M⟩ := p
          dsimp only at *
          go_upto_region 9 with fail
          rw [← HV.out]
          clear q0 q1 q2 q3
          go_wp2_with (go_at_call 17; refine HD.out.mono ?_; intro e w4 hh; obtain ⟨B2, T2, A2, n2, c2, rfl, s0, s1, s2, f0, f1, f2, HPN⟩ := hh)
          go_roundw
          case rel => exact ⟨k + 1, by go_num, by omega, Lib.hid (by rw [HSM.out]; obtain ⟨L2, ht2⟩ := HPN.out; exact ⟨B2, T2, L2, A2, n2, c2, ht2⟩)⟩
          case measure => simp [intOf]; omega
        · obtain rfl : k = n := by omega
          have hd0 : decide ((k : Int) < (k : Int)) = false := decide_eq_false (by omega)
          have hs60 : sumN (ops.take k) ≤ 1000 := Nat.le_trans (Nat.le_trans (sumN_le ops k) HF.out.s400) (by omega)
          have HFR := Lib.hid (two_from htw hs60 HI1.out HI2.out)
          obtain ⟨z0, z1, z2, _⟩ := three_cells htw.blk
          clear HP htw hs60
          go_upto_region 11 with fail
          go_region_held3 (fun w' => w'.cell? ⟨rb, 0, none⟩ = some (.int .i64 B) ∧ w'.cell? ⟨rb, 1, none⟩ = some (.int .i64 T) ∧ w'.cell? ⟨rb, 2, none⟩ = some (.slice Ar nr cr))
            (first | exact ⟨by assumption, by assumption, by assumption⟩ | exact ⟨z0, z1, z2⟩)
            (first
              | (go_at_call 19; refine HFR.out.mono ?_; intro e w5 hh; obtain ⟨A1, m, c1, rfl, s0, s1, s2, HRF⟩ := hh)
              | (go_at_call 20; refine HRF.out.mono ?_; intro e w6 hh; obtain ⟨A2, c2, rfl, u0, u1, u2, HX⟩ := hh))
          all_goals
            obtain ⟨F, hbF, hm1000, hmc1, hmc2, hmc3, hmc4, hr1, hr2⟩ := HX.out
            have HBF := Lib.hid hbF
            have HR1 := Lib.hid hr1
            have HR2 := Lib.hid hr2
            have hcc : m ≤ c1 ∧ c1 ≤ 9223372036854775807 ∧ m ≤ c2 ∧ c2 ≤ 9223372036854775807 := ⟨hmc1, hmc2, hmc3, hmc4⟩
            clear hbF hr1 hr2 hmc1 hmc2 hmc3 hmc4 z0 z1 z2 s0 s1 s2 u0 u1 u2
            go_wp2_with fail
            go_loopw [67] (fun i wr => ∃ j : Nat, i = .int .i64 j ∧ j ≤ m ∧ Hid (Below w6.heap.size w6 wr)) (fun i _ => m - (intOf i).toNat)
            case atStart => exact ⟨0, rfl, Nat.zero_le _, Lib.hid (Below.refl _ _)⟩
            case round =>
              obtain ⟨j, rfl, hjm, HBW⟩ := hrel
              by_cases hj : j < m
              · have hj' : (j : Int) < m := by omega
                obtain ⟨y, hy⟩ : ∃ y, F[j]? = some y := ⟨_, List.getElem?_eq_getElem (by rw [HR1.out.len]; exact hj)⟩
                obtain ⟨g1, o1, hA1, _, _, a0, a1⟩ := (HR1.out.below HBW.out).en hy
                obtain ⟨g2, o2, hA2, _, _, b0, b1⟩ := (HR2.out.below HBW.out).en hy
                subst hA1 hA2
                obtain ⟨yt, yd⟩ := y
                dsimp only at *
                have e3 : (yt == yt) = true := beq_self_eq_true _
                have e4 : (yd.toList == yd.toList) = true := beq_self_eq_true _
                have HDW : Hid (∀ q, Below w6.heap.size w6 (wr.drewN q)) := Lib.hid fun q => HBW.out.trans ((Chg.drewN (Φ := fun _ => False) wr q).below HBW.out.size fun _ h => h.elim)
                clear hy
                go_upto_region 17 with fail
                go_quiet (fail)
                have HBQ := Lib.hid (HDW.out nq)
                clear a0 a1 b0 b1
                generalize wr.drewN nq = V at *
                go_wp2_with fail
                go_roundw
                case rel => exact ⟨j + 1, by go_num, by omega, HBQ⟩
                case measure => simp [intOf]; omega
              · obtain rfl : j = m := by omega
                have hd1 : decide ((j : Int) < (j : Int)) = false := decide_eq_false (by omega)
                have HBE : Hid (Below w.heap.size w wr) := Lib.hid (HBF.out.trans (HBW.out.mono HBF.out.size))
                go_wp2_with (go_at_call 10; refine (HAW.out _).mono ?_; rintro e w8 ⟨rfl, hb⟩; have HB := Lib.hid (HBE.out.trans (hb.mono HBE.out.size)); clear hb)
                go_ret
                exact ⟨rfl, by first | exact HB.out | (rw [HB0.out]; exact HB.out) | (rw [← HB0.out]; exact HB.out)⟩
end Go.Proofs.Ytmmddkddjiodbaa
