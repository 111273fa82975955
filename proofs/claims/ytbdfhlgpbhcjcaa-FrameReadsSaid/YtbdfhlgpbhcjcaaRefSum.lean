/- What is proved here: what the document's own Sum returns: the checksum, by dividing a row of bits. -/
import Derived.Test.YtbdfhlgpbhcjcaaAwake
import Derived.Laws.OwnMore
import Derived.StillTailTactics
namespace Go.Proofs.Ytbdfhlgpbhcjcaa
open Go Go.RowKit

theorem info_bool : (Try.prog.info? 4).map (fun i => (i.zero, i.size, i.bytes)) = some (some (.bool false), 1, 1) := by kernel_rfl
theorem bitsN_snoc : ∀ (k c : Nat), bitsN (k + 1) c = bitsN k c ++ [decide (c / 2 ^ k % 2 = 1)]
  | 0, c => by simp [bitsN]
  | k + 1, c => by
    rw [bitsN, bitsN_snoc k, bitsN, List.cons_append, Nat.div_div_eq_div_mul, Nat.pow_succ, Nat.mul_comm 2]
theorem bit_eq (y : Nat) : ((y : Int) % 2 == 1) = decide (y % 2 = 1) := by
  rw [Bool.eq_iff_iff, beq_iff_eq, decide_eq_true_iff]; omega
theorem pows_le (t : Nat) : pows.getD t 0 ≤ 26 := by
  by_cases h : t < 14
  · revert h
    revert t
    decide
  · rw [List.getD_eq_getElem?_getD, List.getElem?_eq_none (by exact Nat.le_of_not_lt h)]
    decide
theorem one_bool (b : Bool) : ∀ u ∈ [Value.bool b], u.oneCell' = true := by
  intro u hu
  simp at hu
  subst hu
  rfl

set_option maxHeartbeats 400000 in
theorem powers_any (w : World) : Calls Try.prog 21 #[] w fun e w' => ∃ g, e = .returned (.slice (some ⟨g, 0, none⟩) 14 14) ∧ w.heap.size ≤ g ∧ g < w'.heap.size ∧ (∀ j, j < 14 → w'.cell? ⟨g, j, none⟩ = some (.int .i64 (pows.getD j 0 : Nat))) ∧ Below w.heap.size w w' := by
  go_enter Try.func21, Try.ntmps21
  go_wp2
  go_ret
  refine ⟨w.heap.size, rfl, Nat.le_refl _, by simp, fun j hj => ?_, (Below.refl _ _).alloc (Nat.le_refl _) _⟩
  rw [World.cell?_alloc_at _ _ _ _ rfl]
  iterate 14 (rcases j with _ | j; · rfl)
  omega

set_option maxHeartbeats 1600000 in
set_option maxRecDepth 100000 in
theorem refSum_any (A : Option Addr) (n c : Nat) (xs : List Int) (w : World) (h : Rd w w.heap.size .u8 A n c xs) (hx : ∀ x ∈ xs, 0 ≤ x ∧ x < 256) (hn : n ≤ 10000) :
    Calls Try.prog 13 #[.slice A n c] w fun e w' => e = .returned (.int .u32 (sumL xs)) ∧ Below w.heap.size w w' := by
  obtain ⟨i0, hi, hz0, hz1, hz2⟩ := info_parts info_bool
  have HL := Lib.hid h.len
  have HX := Lib.hid hx
  clear hx
  go_enter Try.func13, Try.ntmps13
  go_wp2_with fail
  go_loopw [3, 4] (fun v i wr => ∃ (k N : Nat) (bs : List Bool), i = .int .i64 k ∧ k ≤ n ∧ Hid (bs = allBits (xs.take k)) ∧ Hid (N = bs.length) ∧ N ≤ 8 * k ∧ wr.ownsRow w.heap.size 4 1 v N (bs.map Value.bool) ∧ Below w.heap.size w wr)
    (fun _ i _ => n - (intOf i).toNat)
  case atStart => exact ⟨0, 0, [], rfl, Nat.zero_le _, Lib.hid rfl, Lib.hid rfl, by omega, World.ownsRow_nil _ _ _ _, Below.refl _ _⟩
  case round =>
    obtain ⟨k, N, bs, rfl, hk, HB, HN, hN, hown, hb⟩ := hrel
    by_cases hkn : k < n
    · obtain ⟨b, o, rfl, hbl, hcell⟩ := h.cell hkn
      have hcell' := (hb.cell (p := ⟨b, o + k, none⟩) hbl).trans hcell
      have hxk := HX.out (xs.getD k 0) (by
        rw [List.getD_eq_getElem?_getD, List.getElem?_eq_getElem (by rw [HL.out]; exact hkn)]
        exact List.getElem_mem _)
      have HS := Lib.hid (take_snoc xs k (by rw [HL.out]; exact hkn))
      generalize xs.getD k 0 = x at *
      obtain ⟨x, rfl⟩ : ∃ y : Nat, x = (y : Int) := ⟨x.toNat, by omega⟩
      clear hcell
      go_wp2_with fail
      go_loopw [3, 5, 6] (fun v5 nn q wq => ∃ (j N5 : Nat) (y : Nat) (cs : List Bool), q = .int .i64 j ∧ j ≤ 8 ∧ nn = .int .i64 y ∧ y ≤ x ∧ Hid (y = x / 2 ^ j) ∧ Hid (cs = bs ++ bitsN j x) ∧ Hid (N5 = cs.length) ∧ N5 ≤ 8 * k + j ∧ wq.ownsRow w.heap.size 4 1 v5 N5 (cs.map Value.bool) ∧ Below w.heap.size w wq)
        (fun _ _ q _ => 8 - (intOf q).toNat)
      case atStart => exact ⟨0, N, x, bs, rfl, by omega, rfl, Nat.le_refl _, Lib.hid (by simp), Lib.hid (by simp [bitsN]), HN, by omega, hown, hb⟩
      case round =>
        obtain ⟨j, N5, y, cs, rfl, hj, rfl, hyx, HY, HC, HN5, hN5, hown5, hb5⟩ := hrel
        have hbz := hb5.size
        clear hown hb hcell'
        by_cases hj8 : j < 8
        · go_wp2_with (at_builtin; refine wpList_append_src rfl _ _ 44 rfl w.heap.size 4 i0 _ 1 1 Try.underlying44 hi hz0 hz1 hz2 rfl (by omega) _ N5 (cs.map Value.bool) rfl (hown5.alloc _) (some ⟨wr.heap.size, 0, none⟩) 1 1 [.bool ((y : Int) % 2 == 1)] rfl rfl (fun h => by cases h) (news_new _ _ _) (one_bool _) (by unfold maxLen; omega) (by omega) (by simp; omega) ?_; intro v6 w6 hown6 hg6)
          have hb6 : Below w.heap.size w w6 := (hb5.alloc hbz _).grown hg6 (by simp; omega) (fun k hk => (hown5.lt k hk).1)
          go_roundw
          case rel =>
            refine ⟨j + 1, N5 + 1, y / 2, cs ++ [decide (y % 2 = 1)], by go_num, by omega, by go_num, by omega, Lib.hid ?_, Lib.hid ?_, Lib.hid ?_, by omega, ?_, hb6⟩
            · rw [HY.out, Nat.div_div_eq_div_mul, Nat.pow_succ]
            · rw [HC.out, bitsN_snoc, HY.out, List.append_assoc]
            · rw [HN5.out]; simp
            · rw [← bit_eq]; simpa using hown6
          case measure => simp [intOf]; omega
        · have hj8' : j = 8 := by omega
          subst hj8'
          have HE : Hid (cs = allBits (xs.take (k + 1))) := Lib.hid (by rw [HC.out, HB.out, HS.out, allBits_snoc, Int.toNat_natCast])
          clear HC HB HS
          go_wp2_with fail
          go_roundw
          case rel => exact ⟨k + 1, N5, cs, by go_num, by omega, HE, HN5, by omega, hown5, hb5⟩
          case measure => simp [intOf]; omega
    · have hkn' : k = n := by omega
      subst hkn'
      have HBA : Hid (bs = allBits xs) := Lib.hid (by rw [HB.out, List.take_of_length_le (by rw [HL.out]; exact Nat.le_refl _)])
      have HNE : Hid (N = 8 * k) := Lib.hid (by rw [HN.out, HBA.out, allBits_length, HL.out])
      clear HB
      go_wp2_with fail
      go_loopw [3, 7] (fun v i wr => ∃ (q N3 : Nat) (cs : List Bool), i = .int .i64 q ∧ q ≤ 32 ∧ Hid (cs = allBits xs ++ List.replicate q false) ∧ Hid (N3 = cs.length) ∧ N3 = 8 * k + q ∧ wr.ownsRow w.heap.size 4 1 v N3 (cs.map Value.bool) ∧ Below w.heap.size w wr)
        (fun _ i _ => 32 - (intOf i).toNat)
      case atStart => exact ⟨0, N, bs, rfl, by omega, Lib.hid (by rw [HBA.out]; simp), HN, HNE.out, hown, hb⟩
      case round =>
        obtain ⟨q, N3, cs, rfl, hq, HC, HN3, hN3, hown3, hb3⟩ := hrel
        have hbz := hb3.size
        have HN3' := Lib.hid hN3
        have hN3b : N3 ≤ 80032 := by omega
        clear hown hb hN3
        by_cases hq32 : q < 32
        · go_wp2_with (at_builtin; refine wpList_append_src rfl _ _ 44 rfl w.heap.size 4 i0 _ 1 1 Try.underlying44 hi hz0 hz1 hz2 rfl (by omega) _ N3 (cs.map Value.bool) rfl (hown3.alloc _) (some ⟨wr.heap.size, 0, none⟩) 1 1 [.bool false] rfl rfl (fun h => by cases h) (news_new _ _ _) (one_bool _) (by unfold maxLen; omega) (by omega) (by simp; omega) ?_; intro v6 w6 hown6 hg6)
          have hb6 : Below w.heap.size w w6 := (hb3.alloc hbz _).grown hg6 (by simp; omega) (fun k hk => (hown3.lt k hk).1)
          go_roundw
          case rel =>
            refine ⟨q + 1, N3 + 1, cs ++ [false], by go_num, by omega, Lib.hid ?_, Lib.hid ?_, by have := HN3'.out; omega, by simpa using hown6, hb6⟩
            · rw [HC.out, List.replicate_succ', List.append_assoc]
            · rw [HN3.out]; simp
          case measure => simp [intOf]; omega
        · have hq' : q = 32 := by omega
          subst hq'
          obtain ⟨M, HM⟩ : ∃ M, Hid (M = allBits xs ++ List.replicate 32 false) := ⟨_, Lib.hid rfl⟩
          have hCM : cs = M := by rw [HC.out, HM.out]
          subst hCM
          obtain ⟨g, cap, rfl, hg1, hg2, _⟩ := own_place hown3 (by have := HN3'.out; omega)
          have hcapm : N3 ≤ cap := by
            rcases hown3.2 with ⟨h', _⟩ | ⟨g', cap', cur, h', _, _, hnc, _⟩
            · cases h'
            · simp only [Value.slice.injEq] at h'
              omega
          have hML : cs.length = 8 * k + 32 := by rw [← HN3.out, HN3'.out]
          have HML := Lib.hid hML
          have hN3le : N3 ≤ 80032 := by have := HN3'.out; omega
          have hN3ge : 32 ≤ N3 := by have := HN3'.out; omega
          have hcapx : cap ≤ maxLen := by
            rcases hown3.2 with ⟨h', _⟩ | ⟨g', cap', cur, h', _, _, hnc, hcm, _⟩
            · cases h'
            · simp only [Value.slice.injEq] at h'
              omega
          unfold maxLen at hcapx
          clear hML
          go_wp2_with fail
          go_loopw [8] (fun i wr => ∃ q : Nat, i = .int .i64 q ∧ q ≤ 32 ∧ wr.ownsRow w.heap.size 4 1 (.slice (some ⟨g, 0, none⟩) N3 cap) N3 ((starts cs q).map Value.bool) ∧ Below w.heap.size w wr ∧ g < wr.heap.size)
            (fun i _ => 32 - (intOf i).toNat)
          case atStart => exact ⟨0, rfl, by omega, by rw [starts_zero]; exact hown3, hb3, hg2⟩
          case round =>
            obtain ⟨q, rfl, hq4, hown4, hb4, hg4⟩ := hrel
            clear hown3 hb3 hg2 hbz
            by_cases hq32 : q < 32
            · have hcl : wr.cell? ⟨g, q, none⟩ = some (.bool ((starts cs q).getD q false)) := by
                rw [hown4.cellAt q (by omega), List.getElem?_map, List.getElem?_eq_getElem (by rw [starts_length, HML.out]; omega), List.getD_eq_getElem?_getD, List.getElem?_eq_getElem (by rw [starts_length, HML.out]; omega)]
                rfl
              have hfr := hown4.frozenAt q
              have HST := Lib.hid (starts_succ cs q (by rw [HML.out]; omega))
              have hst := hown4.stored q (.bool (!(starts cs q).getD q false))
              have HST2 := Lib.hid hst
              have hbs : Below w.heap.size w (wr.setCell ⟨g, q, none⟩ (.bool (!(starts cs q).getD q false))) := hb4.setCell hg1 _
              have HBS := Lib.hid hbs
              clear hst hbs
              generalize (starts cs q).getD q false = bq at *
              go_wp2_with fail
              go_roundw
              case rel =>
                refine ⟨q + 1, by go_num, by omega, ?_, HBS.out, by simpa using hg4⟩
                rw [HST.out, List.map_set]
                exact HST2.out.1
              case measure => simp [intOf]; omega
            · have hq' : q = 32 := by omega
              subst hq'
              go_wp2_with fail
              refine (powers_any wr).mono ?_
              rintro e w5 ⟨g5, rfl, hg5, hg5', hpow, hb5⟩
              have hown5 := own_below hown4 hb5
              have hb5' := hb4.trans (hb5.mono hb4.size)
              have hgne : g ≠ g5 := by omega
              have hg6 : g < w5.heap.size := by have := hb5.size; omega
              have HP := Lib.hid hpow
              clear hown4 hb4 hg4 hpow hb5
              have HSL : Hid ((starts cs 32).length = 8 * k + 32) := Lib.hid (by rw [starts_length, HML.out])
              have HSC : Hid (starts cs 32 = starts (allBits xs ++ List.replicate 32 false) 32) := Lib.hid (by rw [HC.out])
              generalize starts cs 32 = S0 at *
              go_wp2_with fail
              go_loopw [10] (fun i wr => ∃ q : Nat, i = .int .i64 q ∧ q ≤ 8 * k ∧ wr.ownsRow w.heap.size 4 1 (.slice (some ⟨g, 0, none⟩) N3 cap) N3 ((rounds S0 q).map Value.bool) ∧ Below w.heap.size w wr ∧ Hid (∀ j, j < 14 → wr.cell? ⟨g5, j, none⟩ = some (.int .i64 (pows.getD j 0 : Nat))) ∧ g5 < wr.heap.size)
                (fun i _ => 8 * k - (intOf i).toNat)
              case atStart => exact ⟨0, rfl, by omega, hown5, hb5', HP, hg5'⟩
              case round =>
                obtain ⟨q, rfl, hq5, hown6, hb6, HP6, hg56⟩ := hrel
                clear hown5 hb5' hg5' HP
                have hN3e := HN3'.out
                have HRL : Hid ((rounds S0 q).length = 8 * k + 32) := Lib.hid (by rw [rounds_length, HSL.out])
                have hN3i : (N3 : Int) = 8 * k + 32 := by omega
                have HN3i := Lib.hid hN3i
                clear hN3e hN3i
                by_cases hq8 : q < 8 * k
                · have hlt : (q : Int) + 32 < N3 := by have := HN3i.out; omega
                  have hcl : wr.cell? ⟨g, q, none⟩ = some (.bool ((rounds S0 q).getD q false)) := by
                    have hNq : q < N3 * 1 := by have := HN3'.out; omega
                    rw [hown6.cellAt q hNq, List.getElem?_map, List.getElem?_eq_getElem (by rw [HRL.out]; omega), List.getD_eq_getElem?_getD, List.getElem?_eq_getElem (by rw [HRL.out]; omega)]
                    rfl
                  by_cases hbit : (rounds S0 q).getD q false = true
                  · have HR : Hid (rounds S0 (q + 1) = flips (rounds S0 q) q 14) := Lib.hid (by rw [rounds, round, if_pos hbit])
                    rw [hbit] at hcl
                    clear hbit
                    generalize rounds S0 q = R at *
                    go_wp2_with fail
                    obtain ⟨wo, rfl⟩ : ∃ wo, wo = wr := ⟨_, rfl⟩
                    go_loopw [11] (fun i wr => ∃ t : Nat, i = .int .i64 t ∧ t ≤ 14 ∧ wr.ownsRow w.heap.size 4 1 (.slice (some ⟨g, 0, none⟩) N3 cap) N3 ((flips R q t).map Value.bool) ∧ Below w.heap.size w wr ∧ Hid (∀ j, j < 14 → wr.cell? ⟨g5, j, none⟩ = some (.int .i64 (pows.getD j 0 : Nat))) ∧ g5 < wr.heap.size)
                      (fun i _ => 14 - (intOf i).toNat)
                    case atStart => exact ⟨0, rfl, by omega, hown6, hb6, HP6, hg56⟩
                    case round =>
                      obtain ⟨t, rfl, ht, hown7, hb7, HP7, hg57⟩ := hrel
                      clear hown6 hb6 HP6 hg56 hcl
                      by_cases ht14 : t < 14
                      · have hpc := HP7.out t ht14
                        have hp26 := pows_le t
                        have HFS := Lib.hid (flips_succ R q t ht14)
                        have HFL : Hid ((flips R q t).length = 8 * k + 32) := Lib.hid (by rw [flips_length, HRL.out])
                        generalize pows.getD t 0 = pw at *
                        generalize flips R q t = F at *
                        have hix : q + 32 - pw < F.length := by rw [HFL.out]; omega
                        have hcf : wr.cell? ⟨g, q + 32 - pw, none⟩ = some (.bool (F.getD (q + 32 - pw) false)) := by
                          have hNq : q + 32 - pw < N3 * 1 := by have := HN3'.out; omega
                          rw [hown7.cellAt _ hNq, List.getElem?_map, List.getElem?_eq_getElem hix, List.getD_eq_getElem?_getD, List.getElem?_eq_getElem hix]
                          rfl
                        clear hix
                        generalize hbf : F.getD (q + 32 - pw) false = bf at *
                        have HBF := Lib.hid hbf
                        clear hbf
                        have e1 : IntKind.i64.wrap ((q : Int) + 32) = (q : Int) + 32 := IntWalk.i64_in _ (by omega)
                        have e2 : IntKind.i64.wrap ((q : Int) + 32 - pw) = (q : Int) + 32 - pw := IntWalk.i64_in _ (by omega)
                        have e3 : ((q : Int) + 32 - pw).toNat = q + 32 - pw := by omega
                        have e4 : (pw : Int) ≤ (q : Int) + 32 := by omega
                        have e5 : (q : Int) + 32 - pw < N3 := by omega
                        have e6 : (t : Int) < 14 := by omega
                        go_wp2_with fail
                        go_still_tail 20, (by kernel_rfl)
                        change wpList _ _ _ _ _ wr.drew
                        have hcf2 : wr.drew.cell? ⟨g, q + 32 - pw, none⟩ = some (.bool bf) := hcf
                        have hown8 : wr.drew.ownsRow w.heap.size 4 1 (.slice (some ⟨g, 0, none⟩) N3 cap) N3 (F.map Value.bool) := hown7.drew
                        have hb8 := hb7.drew
                        have HP8 : Hid (∀ j, j < 14 → wr.drew.cell? ⟨g5, j, none⟩ = some (.int .i64 (pows.getD j 0 : Nat))) := HP7
                        have hg58 : g5 < wr.drew.heap.size := hg57
                        clear hcf hown7 hb7 HP7 hg57 hpc
                        generalize wr.drew = wd at *
                        have hfr := hown8.frozenAt (q + 32 - pw)
                        have HST := Lib.hid (hown8.stored (q + 32 - pw) (.bool (!bf)))
                        have HBS := Lib.hid (hb8.setCell (p := ⟨g, q + 32 - pw, none⟩) hg1 (.bool (!bf)))
                        have HP9 : Hid (∀ j, j < 14 → (wd.setCell ⟨g, q + 32 - pw, none⟩ (.bool (!bf))).cell? ⟨g5, j, none⟩ = some (.int .i64 (pows.getD j 0 : Nat))) := Lib.hid fun j hj => by
                          rw [World.cell?_of_block (heap_setCell_other wd ⟨g, q + 32 - pw, none⟩ g5 _ (fun e => hgne e.symm))]
                          exact HP8.out j hj
                        clear HP8
                        go_wp2_with fail
                        go_roundw
                        case rel =>
                          refine ⟨t + 1, by go_num, by omega, ?_, HBS.out, HP9.out, by simpa using hg58⟩
                          rw [HFS.out]
                          unfold flip
                          rw [HBF.out, List.map_set]
                          exact HST.out.1
                        case measure => simp [intOf]; omega
                      · have ht' : t = 14 := by omega
                        subst ht'
                        go_wp2_with fail
                        go_roundw
                        case rel => exact ⟨q + 1, by go_num, by omega, by rw [HR.out]; exact hown7, hb7, HP7, hg57⟩
                        case measure => simp [intOf]; omega
                  · have hbit' : (rounds S0 q).getD q false = false := by simpa using hbit
                    have HR : Hid (rounds S0 (q + 1) = rounds S0 q) := Lib.hid (by rw [rounds, round, if_neg hbit])
                    rw [hbit'] at hcl
                    clear hbit hbit'
                    generalize rounds S0 q = R at *
                    go_wp2_with fail
                    go_roundw
                    case rel => exact ⟨q + 1, by go_num, by omega, by rw [HR.out]; exact hown6, hb6, HP6, hg56⟩
                    case measure => simp [intOf]; omega
                · have hq' : q = 8 * k := by omega
                  subst hq'
                  have hlt : ¬ ((8 * k : Nat) : Int) + 32 < N3 := by have := HN3i.out; omega
                  have HTB : Hid (∀ j, j < 32 → (!(rounds S0 (8 * k)).getD (8 * k + j) false) = (sumL xs).testBit j) := Lib.hid fun j hj => by
                    have := rest_bit xs HX.out j hj
                    rw [← HSC.out, allBits_length, HL.out] at this
                    exact this
                  have htl := sumL_lt xs HX.out
                  generalize hT : sumL xs = T at *
                  have HT := Lib.hid hT
                  clear hT
                  generalize rounds S0 (8 * k) = R at *
                  have hk8 : k ≤ 10000 := hn
                  go_wp2_with fail
                  go_loop [12, 13] (fun ot i => ∃ t : Nat, i = .int .i64 ((N3 : Int) - 1 - t) ∧ t ≤ 32 ∧ ot = .int .u32 (T / 2 ^ (32 - t) : Nat)) (fun _ i => (intOf i + 1).toNat)
                  case atStart => exact ⟨0, by simp, by omega, by rw [Nat.div_eq_of_lt htl]; rfl⟩
                  case round =>
                    obtain ⟨t, rfl, ht, rfl⟩ := hrel
                    by_cases ht32 : t < 32
                    · have hN3e := HN3'.out
                      have hix : N3 - 1 - t < R.length := by rw [HRL.out]; omega
                      have hjx : 8 * k + (31 - t) = N3 - 1 - t := by omega
                      have htb := HTB.out (31 - t) (by omega)
                      rw [hjx] at htb
                      have hcl : wr.cell? ⟨g, N3 - 1 - t, none⟩ = some (.bool (R.getD (N3 - 1 - t) false)) := by
                        have hNq : N3 - 1 - t < N3 * 1 := by omega
                        rw [hown6.cellAt _ hNq, List.getElem?_map, List.getElem?_eq_getElem hix, List.getD_eq_getElem?_getD, List.getElem?_eq_getElem hix]
                        rfl
                      have hnb := next_bit T (31 - t)
                      rw [← htb, show 31 - t + 1 = 32 - t by omega] at hnb
                      have hU : T / 2 ^ (32 - t) < 2 ^ t := by
                        rw [Nat.div_lt_iff_lt_mul (Nat.two_pow_pos _), ← Nat.pow_add, show t + (32 - t) = 32 by omega]
                        exact htl
                      have hU2 : (2 : Nat) ^ t ≤ 2 ^ 31 := Nat.pow_le_pow_right (by omega) (by omega)
                      have hU3 : T / 2 ^ (32 - t) ≤ 2147483647 := by omega
                      rw [show 31 - t = 32 - (t + 1) by omega] at hnb
                      have HNB := Lib.hid hnb
                      have hi0 : (0 : Int) ≤ (N3 : Int) - 1 - t := by omega
                      have hi1 : (N3 : Int) - 1 - t < N3 := by omega
                      clear hnb hjx htb hix hU hU2 hN3e
                      generalize T / 2 ^ (32 - t) = U at *
                      generalize R.getD (N3 - 1 - t) false = bq at *
                      cases bq
                      · go_wp2_with fail
                        go_round
                        case rel => exact ⟨t + 1, by go_num, by omega, by rw [HNB.out]; simp⟩
                        case measure => simp [intOf]; omega
                      · go_wp2_with fail
                        go_round
                        case rel => exact ⟨t + 1, by go_num, by omega, by rw [HNB.out]; simp⟩
                        case measure => simp [intOf]; omega
                    · have ht' : t = 32 := by omega
                      subst ht'
                      have hge : ¬ ((N3 : Int) - 32 ≤ (N3 : Int) - 1 - (32 : Nat)) := by omega
                      go_wp2_with fail
                      go_ret
                      have hT := HT.out
                      subst hT
                      exact ⟨rfl, hb6⟩
end Go.Proofs.Ytbdfhlgpbhcjcaa
