/- What is proved here: which commands the laws go through: of one, whose bodies are at most so many. -/
import Derived.Test.YtkdncnhjlgidnaaDoorCAwake
namespace Go.Proofs.YtkdncnhjlgidnaaDoor
open Go Go.RowKit Go.Maps

/-- The sizes of a command's texts are those of texts in memory. -/
structure CM.Fits (c : CM) (L : List ByteArray) : Prop where
  q : c.qn.size ≤ 140737488355328
  d : c.dd.size ≤ 140737488355328
  b : c.bo.size ≤ 140737488355328
  g : c.gr.size ≤ 140737488355328
  k : c.ky.size ≤ 140737488355328
  r : c.rc.size ≤ 140737488355328
  n : c.bn ≤ 140737488355328
  bs : ∀ s ∈ L, s.size ≤ 140737488355328
/-- What Few tells. -/
def FewSaid (n : Nat) (w : World) (e : Ending) (w' : World) : Prop := ∃ b, e = .returned (.bool b) ∧ (b = true → n ≤ 750) ∧ Below w.heap.size w w'
set_option maxHeartbeats 3200000 in
set_option maxRecDepth 100000 in
theorem Few_any (s : Nat) (c : CM) (L : List ByteArray) (w : World) (hs : Blk w s 26 c.cells) (hL : TRd w w.heap.size c.bA c.bn c.bc L) (hf : c.Fits L) :
    Calls Tryd.prog 6 #[.slice (some ⟨s, 0, none⟩) 1 1] w (FewSaid c.bn w) := by
  obtain ⟨g5, g6, g1, g2, g3, g4, hbn, fL⟩ := hf
  have h11 : c.cells[11]? = some (.string c.bo) := rfl
  have h12 : c.cells[12]? = some (.string c.gr) := rfl
  have h13 : c.cells[13]? = some (.string c.ky) := rfl
  have h14 : c.cells[14]? = some (.string c.rc) := rfl
  have h3 : c.cells[3]? = some (.string c.qn) := rfl
  have h9 : c.cells[9]? = some (.string c.dd) := rfl
  have h15 : c.cells[15]? = some (.slice c.bA c.bn c.bc) := rfl
  have hA : c.bn = 0 ∨ ∃ b o, c.bA = some ⟨b, o, none⟩ := by
    rcases Nat.eq_zero_or_pos c.bn with h | h
    · exact .inl h
    · obtain ⟨b, o, e, _⟩ := hL.cell h
      exact .inr ⟨b, o, e⟩
  have i1 := c.info; have o1 := c.ones; have s1 := c.size
  generalize c.cells = cs at *
  generalize c.bo = t1 at *
  generalize c.gr = t2 at *
  generalize c.ky = t3 at *
  generalize c.rc = t4 at *
  generalize c.qn = t5 at *
  generalize c.dd = t6 at *
  generalize c.bA = bA at *
  generalize c.bc = bc at *
  generalize c.bn = bn at *
  have HLL := Lib.hid hL
  have HS := Lib.hid hs
  have H11 := Lib.hid h11; have H12 := Lib.hid h12; have H13 := Lib.hid h13; have H14 := Lib.hid h14; have H3 := Lib.hid h3; have H9 := Lib.hid h9; have H15 := Lib.hid h15
  have I1 := Lib.hid i1; have O1 := Lib.hid o1; have S1 := Lib.hid s1; have HA := Lib.hid hA
  have FL : Hid (∀ j, j < bn → (L.getD j ⟨#[]⟩).size ≤ 140737488355328) := Lib.hid fun j hj => by
    have hl := hL.len
    rw [List.getD_eq_getElem?_getD, List.getElem?_eq_getElem (show j < L.length by omega)]
    exact fL _ (List.getElem_mem _)
  clear hL hs h11 h12 h13 h14 h3 h9 h15 i1 o1 s1 fL hA
  go_enter Tryd.func6, Tryd.ntmps6
  go_wp2_with fail
  go_loopw [3, 4] (fun v3 v4 wr => ∃ (n : Int) (k : Nat), k ≤ 1 ∧ v4 = .int .i64 k ∧ v3 = .int .i64 n ∧ 0 ≤ n ∧ n ≤ 9007199254740992 ∧ (k = 0 → n = 0) ∧ (k = 1 → 8 * (bn : Int) ≤ n) ∧ Hid (Below w.heap.size w wr)) (fun _ i _ => 1 - (intOf i).toNat)
  case atStart => exact ⟨0, 0, by omega, rfl, rfl, by omega, by omega, fun _ => rfl, fun h => absurd h (by omega), Lib.hid (Below.refl _ _)⟩
  case round =>
    obtain ⟨n, k, hk, rfl, rfl, hn0, hn1, hk0, hk1, hb⟩ := hrel
    by_cases hlt : k < 1
    · obtain rfl : k = 0 := by omega
      obtain rfl : n = 0 := hk0 rfl
      have HSR := Lib.hid (HS.out.below hb.out HS.out.lt)
      go_upto_region 6 with (first
        | (refine wpList_store_row (o := ⟨none, .store 26 (.tmp 5) (.tmp 20), _, _, _, _⟩) rfl 26 (.tmp 5) (.tmp 20) rfl wr.heap.size cs rfl rfl 26 CM.zero.cells (heap_alloc_new wr _) I1.out (by rw [S1.out]; rfl) O1.out ?_)
        | (refine wpList_load_row (o := ⟨some 20, .load 26 (.tmp 19), _, _, _, _⟩) rfl 26 (.tmp 19) rfl s rfl 26 cs (0, 0) _ HSR.out Tryd.underlying26 rfl I1.out ?_))
      have hV : Blk ((wr.alloc (.cells CM.zero.cells 26)).setRow wr.heap.size cs) wr.heap.size 26 cs := setRow_heap _ _ _ cs _ _ (heap_alloc_new wr (.cells CM.zero.cells 26))
      have hbV : Below wr.heap.size wr ((wr.alloc (.cells CM.zero.cells 26)).setRow wr.heap.size cs) := below_setRow ((Below.refl _ _).alloc (Nat.le_refl _) _) (Nat.le_refl _) _
      change Code.wp _ _ _ _ ((wr.alloc (.cells CM.zero.cells 26)).setRow wr.heap.size cs)
      generalize (wr.alloc (.cells CM.zero.cells 26)).setRow wr.heap.size cs = V at *
      have HV := Lib.hid hV; have HBV := Lib.hid (hb.out.trans (hbV.mono hb.out.size))
      clear hbV
      have c11 := (HV.out.cell 11).trans H11.out
      have c12 := (HV.out.cell 12).trans H12.out
      have c13 := (HV.out.cell 13).trans H13.out
      have c14 := (HV.out.cell 14).trans H14.out
      have c3 := (HV.out.cell 3).trans H3.out
      have c9 := (HV.out.cell 9).trans H9.out
      have c15 := (HV.out.cell 15).trans H15.out
      clear hV
      go_wp2_with fail
      rcases HA.out with h0 | ⟨b0, o0, rfl⟩
      · go_loopw [3, 6] (fun v3 v6 wr2 => ∃ (n : Int), v6 = .int .i64 0 ∧ v3 = .int .i64 n ∧ 8 * (bn : Int) ≤ n ∧ n ≤ 1970324836974592 ∧ V = wr2) (fun _ _ _ => 0)
        case atStart => exact ⟨_, rfl, rfl, by omega, by omega, rfl⟩
        case round =>
          obtain ⟨n, rfl, rfl, hn2, hn3, rfl⟩ := hrel
          have hbz : ¬ (0 : Int) < (bn : Int) := by omega
          go_wp2_with fail
          go_roundw
          case rel => exact ⟨n, 1, by omega, rfl, rfl, by omega, by omega, fun h => absurd h (by omega), fun _ => hn2, HBV⟩
          case measure => simp [intOf]
      · go_loopw [3, 6] (fun v3 v6 wr2 => ∃ (n : Int) (j : Nat), v6 = .int .i64 j ∧ v3 = .int .i64 n ∧ j ≤ 21 ∧ 8 * (bn : Int) ≤ n ∧ n ≤ (14 + (j : Int)) * 140737488355328 ∧ V = wr2) (fun _ i _ => 21 - (intOf i).toNat)
        case atStart => exact ⟨_, 0, rfl, rfl, by omega, by omega, by omega, rfl⟩
        case round =>
          obtain ⟨n, j, rfl, rfl, hj21, hn2, hn3, rfl⟩ := hrel
          by_cases hjb : j < bn
          · have hjz : (j : Int) < (bn : Int) := by omega
            by_cases hj20 : j ≤ 20
            · have hjz2 : (j : Int) ≤ 20 := by omega
              obtain ⟨b, o, hbA, _, hcl⟩ := (HLL.out.below HBV.out).cell hjb
              obtain ⟨rfl, rfl⟩ : b0 = b ∧ o0 = o := by simpa using hbA
              have hz := FL.out j hjb
              generalize L.getD j ⟨#[]⟩ = t at *
              clear hbA
              go_wp2_with fail
              go_roundw
              case rel => exact ⟨n + (t.size : Int), j + 1, by go_num, rfl, by omega, by omega, by omega, by first | rfl | trivial⟩
              case measure => simp [intOf]; omega
            · have hjz2 : ¬ (j : Int) ≤ 20 := by omega
              go_wp2_with fail
              go_roundw
              case rel => exact ⟨n, 1, by omega, rfl, rfl, by omega, by omega, fun h => absurd h (by omega), fun _ => hn2, HBV⟩
              case measure => simp [intOf]
          · have hjz : ¬ (j : Int) < (bn : Int) := by omega
            go_wp2_with fail
            go_roundw
            case rel => exact ⟨n, 1, by omega, rfl, rfl, by omega, by omega, fun h => absurd h (by omega), fun _ => hn2, HBV⟩
            case measure => simp [intOf]
    · obtain rfl : k = 1 := by omega
      have h8 := hk1 rfl
      by_cases hn6 : n ≤ 6000
      · go_wp2_with fail
        go_ret
        exact ⟨true, rfl, fun _ => by omega, hb.out⟩
      · go_wp2_with fail
        go_ret
        exact ⟨false, rfl, (fun h => by cases h), hb.out⟩
end Go.Proofs.YtkdncnhjlgidnaaDoor
