/- What is proved here: the document's own RightAnswer says of an answer what cmd.RightAnswer says. -/
import Derived.Test.YtkdncnhjlgidnaaGreatDoorARight
import Derived.Test.YtkdncnhjlgidnaaGreatDoorCRead10
import Derived.Test.YtkdncnhjlgidnaaGreatDoorCRdr10
namespace Go.Proofs.YtkdncnhjlgidnaaGreatDoor
open Go Go.RowKit Go.Maps

theorem all_cases {α : Type} (l : List α) (z : α) (p : α → Bool) (n : Nat) (hl : l.length = n) : ((∃ j, j < n ∧ p (l.getD j z) = false) → l.all p = false) ∧ ((∀ j, j < n → p (l.getD j z) = true) → l.all p = true) := by
  subst hl
  refine ⟨fun ⟨j, hj, h⟩ => ?_, fun h => ?_⟩
  · rw [List.all_eq_false]
    refine ⟨l.getD j z, ?_, by rw [h]; simp⟩
    rw [List.getD_eq_getElem?_getD, List.getElem?_eq_getElem hj]
    exact List.getElem_mem _
  · rw [List.all_eq_true]
    intro x hx
    obtain ⟨j, hj, rfl⟩ := List.getElem_of_mem hx
    have := h j hj
    rwa [List.getD_eq_getElem?_getD, List.getElem?_eq_getElem hj] at this
theorem fitB_no {x : Int} (h : x < 0 ∨ 4611686018427387904 < x) : fitB x = false := by
  unfold fitB
  rcases h with h | h
  · rw [decide_eq_false (by omega), Bool.false_and]
  · rw [decide_eq_false (show ¬ x ≤ 4611686018427387904 by omega), Bool.and_false]

set_option maxHeartbeats 6400000 in
set_option maxRecDepth 100000 in
theorem RightAnswer10_any (a : AM) (I : List Int) (T : List TK) (w : World) (hI : Rd w w.heap.size .i64 a.iA a.iN a.iC I) (hT : KRd w w.heap.size a.tA a.tN a.tC T) :
    Calls Tryz.prog 24 #[.agg a.cells] w fun e w' => e = .returned (.bool (aRight a.cd I T)) ∧ Below w.heap.size w w' := by
  have hi := hI.len; have ht := hT.len
  have a1 := all_cases I 0 fitB a.iN hi
  have a2 := all_cases T TK.zero TK.fine a.tN ht
  have HRR : Hid (aRight a.cd I T = (decide (a.iN ≤ 10) && decide (a.tN ≤ 10) && fitB a.cd && I.all fitB && T.all TK.fine)) := Lib.hid (by unfold aRight; rw [hi, ht])
  have R0 : Hid (a.cd < 0 ∨ 4611686018427387904 < a.cd ∨ 10 < a.iN ∨ 10 < a.tN → aRight a.cd I T = false) := Lib.hid fun h => by
    rw [HRR.out]
    rcases h with h | h | h | h
    · rw [fitB_no (.inl h)]; simp
    · rw [fitB_no (.inr h)]; simp
    · rw [decide_eq_false (show ¬ a.iN ≤ 10 by omega)]; simp
    · rw [decide_eq_false (show ¬ a.tN ≤ 10 by omega)]; simp
  have R1 : Hid (∀ j, j < a.iN → fitB (I.getD j 0) = false → aRight a.cd I T = false) := Lib.hid fun j hj h => by
    rw [HRR.out, a1.1 ⟨j, hj, h⟩]; simp
  have R2 : Hid (∀ j, j < a.tN → (T.getD j TK.zero).fine = false → aRight a.cd I T = false) := Lib.hid fun j hj h => by
    rw [HRR.out, a2.1 ⟨j, hj, h⟩]; simp
  have RY : Hid (fitB a.cd = true → a.iN ≤ 10 → a.tN ≤ 10 → (∀ j, j < a.iN → fitB (I.getD j 0) = true) → (∀ j, j < a.tN → (T.getD j TK.zero).fine = true) → aRight a.cd I T = true) := Lib.hid fun h1 h2 h3 h4 h5 => by
    rw [HRR.out, h1, decide_eq_true h2, decide_eq_true h3, a1.2 h4, a2.2 h5]; rfl
  have HI := Lib.hid hI; have HT := Lib.hid hT
  clear hi ht a1 a2 HRR hI hT
  generalize aRight a.cd I T = q at *
  unfold AM.cells
  generalize a.cd = cd at *
  generalize a.iA = iA at *
  generalize a.iN = iN at *
  generalize a.iC = iC at *
  generalize a.tA = tA at *
  generalize a.tN = tN at *
  generalize a.tC = tC at *
  go_enter Tryz.func24, Tryz.ntmps24
  go_upto_region 1 with fail
  have hb1 : Blk (w.alloc (.cells #[.int .i64 cd, .slice iA iN iC, .slice tA tN tC] 34)) w.heap.size 34 #[.int .i64 cd, .slice iA iN iC, .slice tA tN tC] := Blk.fresh _ _ _
  have hbel : Below w.heap.size w (w.alloc (.cells #[.int .i64 cd, .slice iA iN iC, .slice tA tN tC] 34)) := (Below.refl _ _).alloc (Nat.le_refl _) _
  generalize w.alloc (.cells #[.int .i64 cd, .slice iA iN iC, .slice tA tN tC] 34) = W at *
  have y0 := hb1.cell 0
  have y1 := hb1.cell 1
  have y2 := hb1.cell 2
  simp at y0 y1 y2
  have HDR0 : Hid (∀ n, Below w.heap.size w (W.drewN n) ∧ Blk (W.drewN n) w.heap.size 34 #[.int .i64 cd, .slice iA iN iC, .slice tA tN tC]) := Lib.hid fun n => ⟨hbel.trans ((drewn_below W n).mono hbel.size), hb1⟩
  clear hb1 hbel
  by_cases hA : cd < 0
  · have HF := Lib.hid (R0.out (.inl hA))
    go_quiet ((go_at_call 48; exact Calls.quiet_of_same (most_any _)))
    go_wp2_with fail
    go_ret
    exact ⟨by rw [HF.out]; rfl, (HDR0.out _).1⟩
  · have hdA : decide (cd < 0) = false := decide_eq_false (by omega)
    by_cases hB : 4611686018427387904 < cd
    · have HF := Lib.hid (R0.out (.inr (.inl hB)))
      go_quiet ((go_at_call 48; exact Calls.quiet_of_same (most_any _)))
      go_wp2_with fail
      go_ret
      exact ⟨by rw [HF.out]; rfl, (HDR0.out _).1⟩
    · have hdB : decide (4611686018427387904 < cd) = false := decide_eq_false (by omega)
      by_cases hC : 10 < iN
      · have HF := Lib.hid (R0.out (.inr (.inr (.inl hC))))
        have hCz : (10 : Int) < iN := by omega
        go_quiet ((go_at_call 48; exact Calls.quiet_of_same (most_any _)))
        go_wp2_with fail
        go_ret
        exact ⟨by rw [HF.out]; rfl, (HDR0.out _).1⟩
      · have hdC : decide ((10 : Int) < iN) = false := decide_eq_false (by omega)
        by_cases hD : 10 < tN
        · have HF := Lib.hid (R0.out (.inr (.inr (.inr hD))))
          have hDz : (10 : Int) < tN := by omega
          go_quiet ((go_at_call 48; exact Calls.quiet_of_same (most_any _)))
          go_wp2_with fail
          go_ret
          exact ⟨by rw [HF.out]; rfl, (HDR0.out _).1⟩
        · have hdD : decide ((10 : Int) < tN) = false := decide_eq_false (by omega)
          go_quiet ((go_at_call 48; exact Calls.quiet_of_same (most_any _)))
          have HB2 := Lib.hid (HDR0.out nq).2; have HBEL2 := Lib.hid (HDR0.out nq).1
          have HFC : Hid (fitB cd = true ∧ iN ≤ 10 ∧ tN ≤ 10) := Lib.hid ⟨by unfold fitB; rw [decide_eq_true (show 0 ≤ cd by omega), decide_eq_true (show cd ≤ 4611686018427387904 by omega)]; rfl, by omega, by omega⟩
          clear HDR0 y0 y1 y2 hdA hdB hdC hdD hA hB hC hD R0
          generalize W.drewN nq = W2 at *
          go_wp2_with fail
          go_loopw [3] (fun v1 wr => ∃ (j : Nat), j ≤ iN ∧ v1 = .int .i64 j ∧ Hid (∀ i, i < j → fitB (I.getD i 0) = true) ∧ Hid (Below W2.heap.size W2 wr)) (fun i _ => iN - (intOf i).toNat)
          case atStart => exact ⟨0, by omega, rfl, Lib.hid (fun i hi => absurd hi (Nat.not_lt_zero _)), Lib.hid (Below.refl _ _)⟩
          case round =>
            obtain ⟨j, hj, rfl, hall, hbw⟩ := hrel
            have y1 := (HB2.out.below hbw.out HB2.out.lt).cell 1
            simp at y1
            by_cases hlt : j < iN
            · have hjz : (j : Int) < iN := by omega
              have hiN : iN ≤ 10 := HFC.out.2.1
              obtain ⟨b, o, rfl, _, hcell⟩ := (HI.out.below (HBEL2.out.trans (hbw.out.mono HBEL2.out.size))).cell hlt
              have HDR : Hid (∀ n, Below W2.heap.size W2 (wr.drewN n)) := Lib.hid fun n => hbw.out.trans ((drewn_below wr n).mono hbw.out.size)
              have HX : Hid (∀ x, I.getD j 0 = x → (x < 0 ∨ 4611686018427387904 < x → q = false) ∧ (0 ≤ x ∧ x ≤ 4611686018427387904 → ∀ i, i < j + 1 → fitB (I.getD i 0) = true)) := Lib.hid fun x hx => ⟨fun h => R1.out j hlt (by rw [hx]; exact fitB_no h), fun h i hi => by
                rcases Nat.lt_or_ge i j with h1 | h1
                · exact hall.out i h1
                · obtain rfl : i = j := by omega
                  rw [hx]
                  unfold fitB
                  rw [decide_eq_true h.1, decide_eq_true h.2]
                  rfl⟩
              have hz := HBEL2.out.size
              generalize hx : I.getD j 0 = x at hcell
              have HXX := Lib.hid (HX.out x hx)
              clear hx HX hall
              by_cases h1 : x < 0
              · go_wp2_with fail
                go_quiet ((go_at_call 48; exact Calls.quiet_of_same (most_any _)))
                go_wp2_with fail
                go_ret
                exact ⟨by rw [HXX.out.1 (.inl h1)]; rfl, HBEL2.out.trans ((HDR.out _).mono hz)⟩
              · have hd1 : decide (x < 0) = false := decide_eq_false h1
                by_cases h2 : 4611686018427387904 < x
                · go_wp2_with fail
                  go_quiet ((go_at_call 48; exact Calls.quiet_of_same (most_any _)))
                  go_wp2_with fail
                  go_ret
                  exact ⟨by rw [HXX.out.1 (.inr h2)]; rfl, HBEL2.out.trans ((HDR.out _).mono hz)⟩
                · have hd2 : decide (4611686018427387904 < x) = false := decide_eq_false h2
                  have HFIT := Lib.hid (HXX.out.2 ⟨by omega, by omega⟩)
                  go_wp2_with fail
                  go_quiet ((go_at_call 48; exact Calls.quiet_of_same (most_any _)))
                  have HBQ := Lib.hid (HDR.out nq)
                  generalize wr.drewN nq = wr2 at *
                  clear hd1 hd2 h1 h2 hcell HXX
                  go_wp2_with fail
                  go_roundw
                  case rel => exact ⟨j + 1, by omega, by go_num, HFIT, HBQ⟩
                  case measure => simp [intOf]; omega
            · have hje : j = iN := by omega
              have HFA : Hid (∀ i, i < iN → fitB (I.getD i 0) = true) := Lib.hid (by rw [← hje]; exact hall.out)
              have hd0 : decide ((j : Int) < iN) = false := decide_eq_false (by omega)
              clear hje
              have HB3 := Lib.hid (HB2.out.below hbw.out HB2.out.lt)
              have HBEL3 := Lib.hid (HBEL2.out.trans (hbw.out.mono HBEL2.out.size))
              clear hall hbw HB2 HBEL2 R1
              go_wp2_with fail
              clear y1
              generalize wr = W3 at *
              go_loopw [4] (fun v2 wr2 => ∃ (j : Nat), j ≤ tN ∧ v2 = .int .i64 j ∧ Hid (∀ i, i < j → (T.getD i TK.zero).fine = true) ∧ Hid (Below W3.heap.size W3 wr2)) (fun i _ => tN - (intOf i).toNat)
              case atStart => exact ⟨0, by omega, rfl, Lib.hid (fun i hi => absurd hi (Nat.not_lt_zero _)), Lib.hid (Below.refl _ _)⟩
              case round =>
                obtain ⟨j, hj, rfl, hall, hbw⟩ := hrel
                have y2 := (HB3.out.below hbw.out HB3.out.lt).cell 2
                simp at y2
                by_cases hlt : j < tN
                · have hjz : (j : Int) < tN := by omega
                  have htN : tN ≤ 10 := HFC.out.2.2
                  obtain ⟨b, o, rfl, _, k0, k1, k2, k3, k4⟩ := (HT.out.below (HBEL3.out.trans (hbw.out.mono HBEL3.out.size))).cell hlt
                  have HX : Hid (∀ x, T.getD j TK.zero = x → (x.fine = false → q = false) ∧ (x.fine = true → ∀ i, i < j + 1 → (T.getD i TK.zero).fine = true)) := Lib.hid fun x hx => ⟨fun h => R2.out j hlt (by rw [hx]; exact h), fun h i hi => by
                    rcases Nat.lt_or_ge i j with h1 | h1
                    · exact hall.out i h1
                    · obtain rfl : i = j := by omega
                      rw [hx]
                      exact h⟩
                  have HXX := Lib.hid (HX.out _ rfl)
                  unfold TK.fine at HXX
                  generalize (T.getD j TK.zero).id = x0 at *
                  generalize (T.getD j TK.zero).ct = x1 at *
                  generalize (T.getD j TK.zero).rc = x2 at *
                  generalize (T.getD j TK.zero).bd = x3 at *
                  generalize (T.getD j TK.zero).gr = x4 at *
                  clear HX hall
                  go_upto_region 10 with fail
                  have hx1 : Blk (wr.alloc (.cells #[.int .i64 x0, .int .i64 x1, .string x2, .string x3, .string x4] 68)) wr.heap.size 68 #[.int .i64 x0, .int .i64 x1, .string x2, .string x3, .string x4] := Blk.fresh _ _ _
                  have hx2 : Below W3.heap.size W3 (wr.alloc (.cells #[.int .i64 x0, .int .i64 x1, .string x2, .string x3, .string x4] 68)) := hbw.out.alloc hbw.out.size _
                  generalize wr.alloc (.cells #[.int .i64 x0, .int .i64 x1, .string x2, .string x3, .string x4] 68) = wr2 at *
                  have HDR : Hid (∀ n, Below W3.heap.size W3 (wr2.drewN n)) := Lib.hid fun n => hx2.trans ((drewn_below wr2 n).mono hx2.size)
                  have k0 := hx1.cell 0
                  have k1 := hx1.cell 1
                  have k2 := hx1.cell 2
                  have k3 := hx1.cell 3
                  have k4 := hx1.cell 4
                  simp at k0 k1 k2 k3 k4
                  have hz4 := HBEL3.out.size
                  have HBEL4 := HBEL3
                  clear hx1 hx2 hbw y2
                  by_cases g0 : x0 < 0
                  · have HF := Lib.hid (HXX.out.1 (by simp only [fitB, Bool.and_eq_false_iff, decide_eq_false_iff_not]; omega))
                    go_wp2_with fail
                    go_quiet ((go_at_call 48; exact Calls.quiet_of_same (most_any _)))
                    go_wp2_with fail
                    go_ret
                    exact ⟨by rw [HF.out]; rfl, HBEL4.out.trans ((HDR.out _).mono hz4)⟩
                  · have d0 : decide (x0 < 0) = false := decide_eq_false (by omega)
                    by_cases g1 : 4611686018427387904 < x0
                    · have HF := Lib.hid (HXX.out.1 (by simp only [fitB, Bool.and_eq_false_iff, decide_eq_false_iff_not]; omega))
                      go_wp2_with fail
                      go_quiet ((go_at_call 48; exact Calls.quiet_of_same (most_any _)))
                      go_wp2_with fail
                      go_ret
                      exact ⟨by rw [HF.out]; rfl, HBEL4.out.trans ((HDR.out _).mono hz4)⟩
                    · have d1 : decide (4611686018427387904 < x0) = false := decide_eq_false (by omega)
                      by_cases g2 : x1 < 0
                      · have HF := Lib.hid (HXX.out.1 (by simp only [fitB, Bool.and_eq_false_iff, decide_eq_false_iff_not]; omega))
                        go_wp2_with fail
                        go_quiet ((go_at_call 48; exact Calls.quiet_of_same (most_any _)))
                        go_wp2_with fail
                        go_ret
                        exact ⟨by rw [HF.out]; rfl, HBEL4.out.trans ((HDR.out _).mono hz4)⟩
                      · have d2 : decide (x1 < 0) = false := decide_eq_false (by omega)
                        by_cases g3 : 4611686018427387904 < x1
                        · have HF := Lib.hid (HXX.out.1 (by simp only [fitB, Bool.and_eq_false_iff, decide_eq_false_iff_not]; omega))
                          go_wp2_with fail
                          go_quiet ((go_at_call 48; exact Calls.quiet_of_same (most_any _)))
                          go_wp2_with fail
                          go_ret
                          exact ⟨by rw [HF.out]; rfl, HBEL4.out.trans ((HDR.out _).mono hz4)⟩
                        · have d3 : decide (4611686018427387904 < x1) = false := decide_eq_false (by omega)
                          by_cases g4 : 256 < x2.size
                          · have HF := Lib.hid (HXX.out.1 (by simp only [fitB, Bool.and_eq_false_iff, decide_eq_false_iff_not]; omega))
                            have z4 : (256 : Int) < x2.size := by omega
                            go_wp2_with fail
                            go_quiet ((go_at_call 48; exact Calls.quiet_of_same (most_any _)))
                            go_wp2_with fail
                            go_ret
                            exact ⟨by rw [HF.out]; rfl, HBEL4.out.trans ((HDR.out _).mono hz4)⟩
                          · have d4 : decide ((256 : Int) < x2.size) = false := decide_eq_false (by omega)
                            by_cases g5 : 256 < x3.size
                            · have HF := Lib.hid (HXX.out.1 (by simp only [fitB, Bool.and_eq_false_iff, decide_eq_false_iff_not]; omega))
                              have z5 : (256 : Int) < x3.size := by omega
                              go_wp2_with fail
                              go_quiet ((go_at_call 48; exact Calls.quiet_of_same (most_any _)))
                              go_wp2_with fail
                              go_ret
                              exact ⟨by rw [HF.out]; rfl, HBEL4.out.trans ((HDR.out _).mono hz4)⟩
                            · have d5 : decide ((256 : Int) < x3.size) = false := decide_eq_false (by omega)
                              by_cases g6 : 256 < x4.size
                              · have HF := Lib.hid (HXX.out.1 (by simp only [fitB, Bool.and_eq_false_iff, decide_eq_false_iff_not]; omega))
                                have z6 : (256 : Int) < x4.size := by omega
                                go_wp2_with fail
                                go_quiet ((go_at_call 48; exact Calls.quiet_of_same (most_any _)))
                                go_wp2_with fail
                                go_ret
                                exact ⟨by rw [HF.out]; rfl, HBEL4.out.trans ((HDR.out _).mono hz4)⟩
                              · have d6 : decide ((256 : Int) < x4.size) = false := decide_eq_false (by omega)
                                have HFIT := Lib.hid (HXX.out.2 (by simp only [fitB, Bool.and_eq_true, decide_eq_true_eq]; omega))
                                clear HXX
                                go_wp2_with fail
                                go_quiet ((go_at_call 48; exact Calls.quiet_of_same (most_any _)))
                                have HBQ := Lib.hid (HDR.out nq)
                                generalize wr2.drewN nq = wr3 at *
                                clear g0 d0 g1 d1 g2 d2 g3 d3 g4 d4 g5 d5 g6 d6
                                go_wp2_with fail
                                go_roundw
                                case rel => exact ⟨j + 1, by omega, by go_num, HFIT, HBQ⟩
                                case measure => simp [intOf]; omega
                · have hje : j = tN := by omega
                  have HQ : Hid (q = true) := Lib.hid (RY.out HFC.out.1 HFC.out.2.1 HFC.out.2.2 HFA.out (by rw [← hje]; exact hall.out))
                  have hd0 : decide ((j : Int) < tN) = false := decide_eq_false (by omega)
                  have HBq := Lib.hid (HBEL3.out.trans (hbw.out.mono HBEL3.out.size))
                  clear hje
                  go_wp2_with fail
                  go_ret
                  exact ⟨by rw [HQ.out]; rfl, HBq.out⟩

end Go.Proofs.YtkdncnhjlgidnaaGreatDoor
