/- What is proved here: which rows of commands the laws go through: of each the bodies are at most so many. -/
import Derived.Test.YtjoifbfnkjbkhaaCFew
namespace Go.Proofs.Ytjoifbfnkjbkhaa
open Go Go.RowKit Go.Maps

section
variable {P : Program}
theorem run_loadVar_at (w : World) (g o : Nat) (ty : TypeId) (cs : List Value) (d : TypeDesc) (hc : ∀ i v, cs[i]? = some v → w.cell? ⟨g, o + i, none⟩ = some v)
    (hu : P.underlying ty = some d) (hd : (match d with | .struct _ | .array _ _ => true | _ => false) = true) (hi : (P.info? ty).map (·.size) = some cs.length) :
    (loadVar ty ⟨g, o, none⟩).run P w = .ok (.agg cs.toArray) w := by
  have hl : (loadCells ⟨g, o, none⟩ cs.length).run P w = .ok cs.toArray w :=
    run_loadCells_list (P := P) w ⟨g, o, none⟩ cs (fun j v hv => by rw [Addr.add_lit]; exact hc j v hv)
  cases hq : P.info? ty with
  | none => simp [hq] at hi
  | some i =>
    have hs : i.size = cs.length := by simpa [hq] using hi
    have hagg : (isAgg ty).run P w = .ok true w := by
      unfold isAgg
      rw [Sem.run_bind, run_underlying hu w]
      cases d <;> simp_all
    simp [loadVar, Sem.run_bind, hagg, sizeOf, typeInfo, hq, hs, hl]
theorem wpList_load_at {ops : Array Oper} {rest : List Oper} {o : Oper} {a : Act} {w : World} {Q : Exit → Act → World → Prop} (hgd : o.guard = none) (ty : TypeId) (x : Operand) (ho : o.op = .load ty x)
    (g off : Nat) (hx : a.eval x = .pointer (some ⟨g, off, none⟩)) (cs : List Value) (d : TypeDesc) (hc : ∀ i v, cs[i]? = some v → w.cell? ⟨g, off + i, none⟩ = some v)
    (hu : P.underlying ty = some d) (hd : (match d with | .struct _ | .array _ _ => true | _ => false) = true) (hi : (P.info? ty).map (·.size) = some cs.length)
    (h : wpList P ops Q rest (a.put o.dst (.agg cs.toArray)) w) : wpList P ops Q (o :: rest) a w :=
  wpList_plain hgd fun K hK => by
    unfold Oper.wp execOp
    simp only [ho, hx, Instr.loadAt, Instr.sureAddr, Sem.run_bind, Sem.run_pure, Result.andThen_ok, run_loadVar_at w g off ty cs d hc hu hd hi]
    exact hK _ _ h
end
/-- What Few tells of many. -/
def FewAll (N : Nat) (cA : Nat → CM) (w : World) (e : Ending) (w' : World) : Prop := ∃ b, e = .returned (.bool b) ∧ (b = true → ∀ k, k < N → (cA k).bn ≤ 750) ∧ Below w.heap.size w w'
set_option maxHeartbeats 3200000 in
set_option maxRecDepth 100000 in
theorem Few_many (s N : Nat) (cA : Nat → CM) (LA : Nat → List ByteArray) (w : World) (hN : N ≤ 60) (hsl : s < w.heap.size) (hs : ∀ k, k < N → ∀ i v, (cA k).cells[i]? = some v → w.cell? ⟨s, k * 18 + i, none⟩ = some v) (hL : ∀ k, k < N → TRd w w.heap.size (cA k).bA (cA k).bn (cA k).bc (LA k)) (hf : ∀ k, k < N → (cA k).Fits (LA k)) :
    Calls Try.prog 4 #[.slice (some ⟨s, 0, none⟩) N N] w (FewAll N cA w) := by
  have HS0 := Lib.hid hs; have HL0 := Lib.hid hL; have HF0 := Lib.hid hf
  clear hs hL hf
  go_enter Try.func4, Try.ntmps4
  go_wp2_with fail
  go_loopw [3, 4] (fun v3 v4 wr => ∃ (n : Int) (k : Nat), k ≤ N ∧ v4 = .int .i64 k ∧ v3 = .int .i64 n ∧ 0 ≤ n ∧ n ≤ (k : Int) * 4925812092436480 ∧ Hid (∀ i, i < k → 8 * ((cA i).bn : Int) ≤ n) ∧ Hid (Below w.heap.size w wr)) (fun _ i _ => N - (intOf i).toNat)
  case atStart => exact ⟨0, 0, by omega, rfl, rfl, by omega, by omega, Lib.hid fun i hi => absurd hi (Nat.not_lt_zero _), Lib.hid (Below.refl _ _)⟩
  case round =>
    obtain ⟨n0, k, hk, rfl, rfl, hn0, hn1, hk1, hb⟩ := hrel
    by_cases hlt : k < N
    · have hltz : (k : Int) < (N : Int) := by omega
      have hk60 : (k : Int) ≤ 60 := by omega
      have hn1' : n0 ≤ 295548725546188800 := by omega
      have hS : ∀ i v, (cA k).cells.toList[i]? = some v → wr.cell? ⟨s, k * 18 + i, none⟩ = some v := fun i v hv => (hb.out.cell (p := ⟨s, k * 18 + i, none⟩) hsl).trans (HS0.out k hlt i v (by simpa using hv))
      have hL := (HL0.out k hlt).below hb.out
      obtain ⟨g5, g6, g1, g2, g3, g4, hbn, fL⟩ := HF0.out k hlt
      have HK1 : Hid (∀ n1, 8 * ((cA k).bn : Int) ≤ n1 → n0 ≤ n1 → ∀ i, i < k + 1 → 8 * ((cA i).bn : Int) ≤ n1) := Lib.hid fun n1 h1 h2 i hi => by
        by_cases e : i = k
        · rw [e]; exact h1
        · have := hk1.out i (by omega)
          omega
      clear hk1
      have h11 : (cA k).cells[11]? = some (.string (cA k).bo) := rfl
      have h12 : (cA k).cells[12]? = some (.string (cA k).gr) := rfl
      have h13 : (cA k).cells[13]? = some (.string (cA k).ky) := rfl
      have h14 : (cA k).cells[14]? = some (.string (cA k).rc) := rfl
      have h3 : (cA k).cells[3]? = some (.string (cA k).qn) := rfl
      have h9 : (cA k).cells[9]? = some (.string (cA k).dd) := rfl
      have h15 : (cA k).cells[15]? = some (.slice (cA k).bA (cA k).bn (cA k).bc) := rfl
      have hA : (cA k).bn = 0 ∨ ∃ b o, (cA k).bA = some ⟨b, o, none⟩ := by
        rcases Nat.eq_zero_or_pos (cA k).bn with h | h
        · exact .inl h
        · obtain ⟨b, o, e, _⟩ := hL.cell h
          exact .inr ⟨b, o, e⟩
      have i1 := (cA k).info; have o1 := (cA k).ones; have s1 := (cA k).size
      generalize (cA k).cells = cs at *
      generalize (cA k).bo = t1 at *
      generalize (cA k).gr = t2 at *
      generalize (cA k).ky = t3 at *
      generalize (cA k).rc = t4 at *
      generalize (cA k).qn = t5 at *
      generalize (cA k).dd = t6 at *
      generalize (cA k).bA = bA at *
      generalize (cA k).bc = bc at *
      generalize (cA k).bn = bn at *
      have HLL := Lib.hid hL
      have HS := Lib.hid hS
      have H11 := Lib.hid h11; have H12 := Lib.hid h12; have H13 := Lib.hid h13; have H14 := Lib.hid h14; have H3 := Lib.hid h3; have H9 := Lib.hid h9; have H15 := Lib.hid h15
      have I1 := Lib.hid i1; have O1 := Lib.hid o1; have S1 := Lib.hid s1; have HA := Lib.hid hA
      have FL : Hid (∀ j, j < bn → ((LA k).getD j ⟨#[]⟩).size ≤ 140737488355328) := Lib.hid fun j hj => by
        have hl := hL.len
        rw [List.getD_eq_getElem?_getD, List.getElem?_eq_getElem (show j < (LA k).length by omega)]
        exact fL _ (List.getElem_mem _)
      clear hL hS h11 h12 h13 h14 h3 h9 h15 i1 o1 s1 fL hA
      go_upto_region 6 with (first
        | (refine wpList_store_row (o := ⟨none, .store 26 (.tmp 5) (.tmp 20), _, _, _, _⟩) rfl 26 (.tmp 5) (.tmp 20) rfl wr.heap.size cs rfl rfl 26 CM.zero.cells (heap_alloc_new wr _) I1.out (by rw [S1.out]; rfl) O1.out ?_)
        | (refine wpList_load_at (o := ⟨some 20, .load 26 (.tmp 19), _, _, _, _⟩) rfl 26 (.tmp 19) rfl s (k * 18) rfl cs.toList _ HS.out Try.underlying26 rfl (by rw [Array.length_toList]; exact I1.out) ?_))
      have hV : Blk ((wr.alloc (.cells CM.zero.cells 26)).setRow wr.heap.size cs) wr.heap.size 26 cs := setRow_heap _ _ _ cs _ _ (heap_alloc_new wr (.cells CM.zero.cells 26))
      have hbV : Below wr.heap.size wr ((wr.alloc (.cells CM.zero.cells 26)).setRow wr.heap.size cs) := below_setRow ((Below.refl _ _).alloc (Nat.le_refl _) _) (Nat.le_refl _) _
      change Code.wp _ _ _ _ ((wr.alloc (.cells CM.zero.cells 26)).setRow wr.heap.size cs)
      generalize (wr.alloc (.cells CM.zero.cells 26)).setRow wr.heap.size cs = V at *
      have HV := Lib.hid hV; have HBV := Lib.hid (hb.out.trans (hbV.mono hb.out.size))
      have HBV2 := Lib.hid (hbV.mono hb.out.size)
      clear hbV
      have c11 := (HV.out.cell 11).trans H11.out
      have c12 := (HV.out.cell 12).trans H12.out
      have c13 := (HV.out.cell 13).trans H13.out
      have c14 := (HV.out.cell 14).trans H14.out
      have c3 := (HV.out.cell 3).trans H3.out
      have c9 := (HV.out.cell 9).trans H9.out
      have c15 := (HV.out.cell 15).trans H15.out
      clear hV
      go_wp2_with fail
      rcases HA.out with h0 | ⟨b0, o0, rfl⟩
      · go_loopw [3, 6] (fun v3 v6 wr2 => ∃ (n : Int), v6 = .int .i64 0 ∧ v3 = .int .i64 n ∧ n0 ≤ n ∧ 8 * (bn : Int) ≤ n ∧ n ≤ n0 + 1970324836974592 ∧ V = wr2) (fun _ _ _ => 0)
        case atStart => exact ⟨_, rfl, rfl, by omega, by omega, by omega, rfl⟩
        case round =>
          obtain ⟨n, rfl, rfl, hnn, hn2, hn3, rfl⟩ := hrel
          have hbz : ¬ (0 : Int) < (bn : Int) := by omega
          go_wp2_with fail
          go_roundw
          case rel => exact ⟨n, k + 1, by omega, by go_num, rfl, by omega, by omega, Lib.hid (HK1.out n hn2 hnn), HBV⟩
          case measure => simp [intOf]; omega
      · go_loopw [3, 6] (fun v3 v6 wr2 => ∃ (n : Int) (j : Nat), v6 = .int .i64 j ∧ v3 = .int .i64 n ∧ j ≤ 21 ∧ n0 ≤ n ∧ 8 * (bn : Int) ≤ n ∧ n ≤ n0 + (14 + (j : Int)) * 140737488355328 ∧ V = wr2) (fun _ i _ => 21 - (intOf i).toNat)
        case atStart => exact ⟨_, 0, rfl, rfl, by omega, by omega, by omega, by omega, rfl⟩
        case round =>
          obtain ⟨n, j, rfl, rfl, hj21, hnn, hn2, hn3, rfl⟩ := hrel
          by_cases hjb : j < bn
          · have hjz : (j : Int) < (bn : Int) := by omega
            by_cases hj20 : j ≤ 20
            · have hjz2 : (j : Int) ≤ 20 := by omega
              obtain ⟨b, o, hbA, _, hcl⟩ := (HLL.out.below HBV2.out).cell hjb
              obtain ⟨rfl, rfl⟩ : b0 = b ∧ o0 = o := by simpa using hbA
              have hz := FL.out j hjb
              generalize (LA k).getD j ⟨#[]⟩ = t at *
              clear hbA
              go_wp2_with fail
              go_roundw
              case rel => exact ⟨n + (t.size : Int), j + 1, by go_num, rfl, by omega, by omega, by omega, by omega, by first | rfl | trivial⟩
              case measure => simp [intOf]; omega
            · have hjz2 : ¬ (j : Int) ≤ 20 := by omega
              go_wp2_with fail
              go_roundw
              case rel => exact ⟨n, k + 1, by omega, by go_num, rfl, by omega, by omega, Lib.hid (HK1.out n hn2 hnn), HBV⟩
              case measure => simp [intOf]; omega
          · have hjz : ¬ (j : Int) < (bn : Int) := by omega
            go_wp2_with fail
            go_roundw
            case rel => exact ⟨n, k + 1, by omega, by go_num, rfl, by omega, by omega, Lib.hid (HK1.out n hn2 hnn), HBV⟩
            case measure => simp [intOf]; omega
    · obtain rfl : k = N := by omega
      have hd0 : decide ((k : Int) < (k : Int)) = false := decide_eq_false (by omega)
      have hN60 : (k : Int) ≤ 60 := by omega
      have H8 := Lib.hid hk1.out
      by_cases hn6 : n0 ≤ 6000
      · go_wp2_with fail
        go_ret
        exact ⟨true, rfl, (fun _ i hi => by have := H8.out i hi; omega), hb.out⟩
      · go_wp2_with fail
        go_ret
        exact ⟨false, rfl, (fun h => by cases h), hb.out⟩
end Go.Proofs.Ytjoifbfnkjbkhaa
