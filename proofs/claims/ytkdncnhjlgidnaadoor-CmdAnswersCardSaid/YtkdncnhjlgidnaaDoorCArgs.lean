/- What is proved here: how a command that comes in is read. -/
import Derived.Test.YtkdncnhjlgidnaaDoorCFew
import Derived.Deep.Slices
import Derived.Deep.Strs
import Derived.Deep.Fields
import Derived.SizedLaws
import Derived.ChangeSlices
import Derived.ChangeArms
import Derived.OpenShut
namespace Go.Proofs.YtkdncnhjlgidnaaDoor
open Go Go.RowKit Go.ChangeShapes Go.WideShapes Go.Deep

section
variable {H : Type} {enc : TypeId × Value → H} {w : World} {held : Bool} {base : Nat}
theorem reach_num : reachBytes = 140737488351232 := by decide
theorem one_string {spare : Nat → Bool} {t : TypeId} {fuel : Nat} {v : Value} {x : DataW H × List MemPlace} (ht : Tryd.prog.underlying t = some .string) (h : DataW.trod enc Tryd.prog w base spare held fuel t [v] = some x) (hw : ∀ n ∈ x.1.weights Tryd.prog t, n ≤ reachBytes) :
    ∃ s : ByteArray, v = .string s ∧ s.size ≤ 140737488355328 := by
  obtain ⟨s, hcs, hx, _⟩ := DataW.trod_string ht h
  simp at hcs
  refine ⟨s, hcs, ?_⟩
  have := hw s.data.toList.length (by rw [hx]; simp [DataW.weights])
  rw [reach_num, Array.length_toList] at this
  show s.data.size ≤ _
  omega
theorem one_int {spare : Nat → Bool} {t : TypeId} {fuel : Nat} {v : Value} {x : DataW H × List MemPlace} (ht : Tryd.prog.underlying t = some (.int .i64)) (h : DataW.trod enc Tryd.prog w base spare held fuel t [v] = some x) :
    ∃ n : Int, v = .int .i64 n ∧ I64 n := by
  obtain ⟨n, hcs, _, hwf⟩ := DataW.trod_int ht h
  simp at hcs
  exact ⟨n, hcs, bounds_i64 hwf⟩
theorem one_bool {spare : Nat → Bool} {t : TypeId} {fuel : Nat} {v : Value} {x : DataW H × List MemPlace} (ht : Tryd.prog.underlying t = some .bool) (h : DataW.trod enc Tryd.prog w base spare held fuel t [v] = some x) : ∃ b : Bool, v = .bool b := by
  obtain ⟨b, hcs, hx⟩ := DataW.trod_bool ht h
  simp at hcs
  exact ⟨b, hcs⟩
theorem weightsAll_mem {P : Program} {e : TypeId} {d : DataW H} : ∀ {l : List (DataW H)}, d ∈ l → ∀ n ∈ d.weights P e, n ∈ DataW.weightsAll P e l
  | x :: l, hd, n, hn => by
    unfold DataW.weightsAll
    rcases List.mem_cons.1 hd with rfl | hd
    · exact List.mem_append.2 (.inl hn)
    · exact List.mem_append.2 (.inr (weightsAll_mem hd n hn))
/-- A slice of texts that came in. -/
theorem texts_in {fuel : Nat} {v : Value} {x : DataW H × List MemPlace} (h : DataW.trod enc Tryd.prog w base (fun _ => true) held fuel 24 [v] = some x) (hw : ∀ n ∈ x.1.weights Tryd.prog 24, n ≤ reachBytes) :
    ∃ A n c L, v = .slice A n c ∧ TRd w w.heap.size A n c L ∧ n ≤ 140737488355328 ∧ ∀ s ∈ L, s.size ≤ 140737488355328 := by
  rcases open_strs Tryd.underlying24 Tryd.underlying9 (by kernel_rfl) h with ⟨hcs, _⟩ | ⟨a, len, cap, m, Sx, hcs, _, hl, hm, hmm, hx, hcell⟩
  · simp at hcs
    subst hcs
    exact ⟨none, 0, 0, [], rfl, TRd.none_ _ _, by omega, fun s hs => by cases hs⟩
  · simp at hcs
    subst hcs
    simp only [if_true] at hmm
    subst hmm
    have hwt : ∀ i, i < len → (Sx i).size ≤ 140737488355328 := fun i hi => by
      have := hw (Sx i).data.toList.length (by
        rw [hx]
        simp only [DataW.weights, Tryd.underlying24]
        refine List.mem_cons_of_mem _ (List.mem_append.2 (.inl (weightsAll_mem (d := .lit (.string (Sx i).data.toList)) ?_ _ ?_)))
        · exact List.mem_map.2 ⟨i, List.mem_range.2 hi, rfl⟩
        · simp [DataW.weights])
      rw [reach_num, Array.length_toList] at this
      show (Sx i).data.size ≤ _
      omega
    have hby : Tryd.prog.bytesOf 9 = 16 := by kernel_rfl
    have hln : len ≤ 140737488355328 := by
      have := hw ((len + (m - len)) * 16) (by rw [hx]; simp [DataW.weights, Tryd.underlying24, hby])
      rw [reach_num] at this
      omega
    refine ⟨some a, len, m, (List.range len).map Sx, rfl, ⟨by simp, hl, hm, (fun e => by cases e), fun j s hs => ?_⟩, hln, fun s hs => ?_⟩
    · rw [List.getElem?_map] at hs
      obtain ⟨i, hi, rfl⟩ := Option.map_eq_some_iff.1 hs
      obtain ⟨hj, hi⟩ := List.getElem?_eq_some_iff.1 hi
      rw [List.length_range] at hj
      rw [List.getElem_range] at hi
      subst hi
      have hc := (hcell j (by omega)).1
      obtain ⟨b, o, spot⟩ := a
      have hspot : spot = none := by
        have := World.cell?_spot (hcell 0 (by omega)).1
        simpa [Addr.add] using this
      subst hspot
      rw [Addr.add_lit] at hc
      exact ⟨b, o, rfl, World.block_lt_of_cell? w _ hc, hc⟩
    · obtain ⟨i, hi, rfl⟩ := List.mem_map.1 hs
      exact hwt i (List.mem_range.1 hi)
theorem seven {α : Type} {l : List α} (h : l.length = 7) : ∃ a b c d e f g, l = [a, b, c, d, e, f, g] := by
  match l, h with
  | [a, b, c, d, e, f, g], _ => exact ⟨a, b, c, d, e, f, g, rfl⟩
theorem twelve {α : Type} {l : List α} (h : l.length = 12) : ∃ a b c d e f g i j k m n, l = [a, b, c, d, e, f, g, i, j, k, m, n] := by
  match l, h with
  | [a, b, c, d, e, f, g, i, j, k, m, n], _ => exact ⟨a, b, c, d, e, f, g, i, j, k, m, n, rfl⟩
theorem eighteen {α : Type} {l : List α} (h : l.length = 18) : ∃ a0 a1 a2 a3 a4 a5 a6 a7 a8 a9 b0 b1 b2 b3 b4 b5 b6 b7, l = [a0, a1, a2, a3, a4, a5, a6, a7, a8, a9, b0, b1, b2, b3, b4, b5, b6, b7] := by
  match l, h with
  | [a0, a1, a2, a3, a4, a5, a6, a7, a8, a9, b0, b1, b2, b3, b4, b5, b6, b7], _ => exact ⟨a0, a1, a2, a3, a4, a5, a6, a7, a8, a9, b0, b1, b2, b3, b4, b5, b6, b7, rfl⟩
theorem att_in {fuel : Nat} {v0 v1 v2 v3 v4 v5 v6 : Value} {x : DataW H × List MemPlace} (h : DataW.trod enc Tryd.prog w base (fun _ => true) held fuel 23 [v0, v1, v2, v3, v4, v5, v6] = some x) (hw : ∀ n ∈ x.1.weights Tryd.prog 23, n ≤ reachBytes) :
    ∃ (a b c d e : Int) (s : ByteArray) (f : Bool), v0 = .int .i64 a ∧ v1 = .int .i64 b ∧ v2 = .int .i64 c ∧ v3 = .int .i64 d ∧ v4 = .int .i64 e ∧ v5 = .string s ∧ v6 = .bool f ∧ s.size ≤ 140737488355328 := by
  have hu := Tryd.underlying23
  obtain ⟨xs, n, _, hx, hlen, hxl, hg⟩ := DataW.trod_struct hu h
  obtain ⟨y0, y1, y2, y3, y4, y5, y6, rfl⟩ := seven hxl
  have k3 : Tryd.prog.cellsOf 3 = 1 := by kernel_rfl
  have k9 : Tryd.prog.cellsOf 9 = 1 := by kernel_rfl
  have k4 : Tryd.prog.cellsOf 4 = 1 := by kernel_rfl
  have g0 := hg 0 _ rfl
  have g1 := hg 1 _ rfl
  have g2 := hg 2 _ rfl
  have g3 := hg 3 _ rfl
  have g4 := hg 4 _ rfl
  have g5 := hg 5 _ rfl
  have g6 := hg 6 _ rfl
  simp [k3, k9, k4] at g0 g1 g2 g3 g4 g5 g6
  have h5 : ∀ k ∈ y5.1.weights Tryd.prog 9, k ≤ reachBytes := fun k hk => by
    refine hw k ?_
    rw [hx]
    simp only [DataW.weights, hu]
    exact DataW.weights_mem_each (j := 5) (t := 9) (d := y5.1) rfl rfl k hk
  obtain ⟨a0, rfl, _⟩ := one_int Tryd.underlying3 g0
  obtain ⟨a1, rfl, _⟩ := one_int Tryd.underlying3 g1
  obtain ⟨a2, rfl, _⟩ := one_int Tryd.underlying3 g2
  obtain ⟨a3, rfl, _⟩ := one_int Tryd.underlying3 g3
  obtain ⟨a4, rfl, _⟩ := one_int Tryd.underlying3 g4
  obtain ⟨a5, rfl, hs⟩ := one_string Tryd.underlying9 g5 h5
  obtain ⟨a6, rfl⟩ := one_bool Tryd.underlying4 g6
  exact ⟨a0, a1, a2, a3, a4, a5, a6, rfl, rfl, rfl, rfl, rfl, rfl, rfl, hs⟩
/-- A command that came in. -/
theorem cmd_in {fuel : Nat} {cs : List Value} {x : DataW H × List MemPlace} (h : DataW.trod enc Tryd.prog w base (fun _ => true) held fuel 26 cs = some x) (hw : ∀ n ∈ x.1.weights Tryd.prog 26, n ≤ reachBytes) :
    ∃ (c : CM) (L : List ByteArray), cs = c.cells.toList ∧ TRd w w.heap.size c.bA c.bn c.bc L ∧ c.Fits L ∧ I64 c.n := by
  have hu := Tryd.underlying26
  obtain ⟨xs, n, _, hx, hlen, hxl, hg⟩ := DataW.trod_struct hu h
  have hC : Tryd.prog.cellsOf 26 = 18 := by kernel_rfl
  obtain ⟨a0, a1, a2, a3, a4, a5, a6, a7, a8, a9, b0, b1, b2, b3, b4, b5, b6, b7, rfl⟩ := eighteen (hlen.trans hC)
  obtain ⟨y0, y1, y2, y3, y4, y5, y6, y7, y8, y9, y10, y11, rfl⟩ := twelve hxl
  have k3 : Tryd.prog.cellsOf 3 = 1 := by kernel_rfl
  have k9 : Tryd.prog.cellsOf 9 = 1 := by kernel_rfl
  have k23 : Tryd.prog.cellsOf 23 = 7 := by kernel_rfl
  have k24 : Tryd.prog.cellsOf 24 = 1 := by kernel_rfl
  have g0 := hg 0 _ rfl
  have g1 := hg 1 _ rfl
  have g2 := hg 2 _ rfl
  have g3 := hg 3 _ rfl
  have g4 := hg 4 _ rfl
  have g5 := hg 5 _ rfl
  have g6 := hg 6 _ rfl
  have g7 := hg 7 _ rfl
  have g8 := hg 8 _ rfl
  have g9 := hg 9 _ rfl
  have g10 := hg 10 _ rfl
  have g11 := hg 11 _ rfl
  simp [k3, k9, k23, k24] at g0 g1 g2 g3 g4 g5 g6 g7 g8 g9 g10 g11
  have hmem : ∀ (j : Nat) (t : TypeId) (y : DataW H × List MemPlace), [3, 3, 3, 9, 23, 9, 9, 9, 9, 24, 3, 3][j]? = some t → [y0, y1, y2, y3, y4, y5, y6, y7, y8, y9, y10, y11][j]? = some y → ∀ k ∈ y.1.weights Tryd.prog t, k ≤ reachBytes := fun j t y ht hy k hk => by
    refine hw k ?_
    rw [hx]
    simp only [DataW.weights, hu]
    refine DataW.weights_mem_each (j := j) (t := t) (d := y.1) ht ?_ k hk
    rw [List.getElem?_map, hy]
    rfl
  obtain ⟨cl, rfl, _⟩ := one_int Tryd.underlying3 g0
  obtain ⟨rq, rfl, _⟩ := one_int Tryd.underlying3 g1
  obtain ⟨kd, rfl, _⟩ := one_int Tryd.underlying3 g2
  obtain ⟨qn, rfl, s1⟩ := one_string Tryd.underlying9 g3 (hmem 3 _ _ rfl rfl)
  obtain ⟨vi, re, de, wi, mx, dd, ff, rfl, rfl, rfl, rfl, rfl, rfl, rfl, s2⟩ := att_in g4 (hmem 4 _ _ rfl rfl)
  obtain ⟨bo, rfl, s3⟩ := one_string Tryd.underlying9 g5 (hmem 5 _ _ rfl rfl)
  obtain ⟨gr, rfl, s4⟩ := one_string Tryd.underlying9 g6 (hmem 6 _ _ rfl rfl)
  obtain ⟨ky, rfl, s5⟩ := one_string Tryd.underlying9 g7 (hmem 7 _ _ rfl rfl)
  obtain ⟨rc, rfl, s6⟩ := one_string Tryd.underlying9 g8 (hmem 8 _ _ rfl rfl)
  obtain ⟨bA, bn, bc, L, rfl, hL, hbn, hLs⟩ := texts_in g9 (hmem 9 _ _ rfl rfl)
  obtain ⟨nn, rfl, hn⟩ := one_int Tryd.underlying3 g10
  obtain ⟨mm, rfl, _⟩ := one_int Tryd.underlying3 g11
  exact ⟨⟨cl, rq, kd, qn, vi, re, de, wi, mx, dd, ff, bo, gr, ky, rc, bA, bn, bc, nn, mm⟩, L, rfl, hL, ⟨s1, s2, s3, s4, s5, s6, hbn, hLs⟩, hn⟩
end
end Go.Proofs.YtkdncnhjlgidnaaDoor
