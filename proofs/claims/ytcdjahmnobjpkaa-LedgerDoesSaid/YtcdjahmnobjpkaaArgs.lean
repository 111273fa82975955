/- What is proved here: how the calls that come in are read. -/
import Derived.Test.YtcdjahmnobjpkaaAwake
import Derived.Deep.Slices
import Derived.Deep.Fields
import Derived.SizedLaws
import Derived.ChangeSlices
import Derived.ChangeArms
namespace Go.Proofs.Ytcdjahmnobjpkaa
open Go Go.RowKit Go.ChangeShapes Go.WideShapes Go.Deep

/-- A call: what stands in its struct. -/
structure OpM where
  kind : Int
  v : Int
  t : Int
  k : ByteArray
def OpM.vals (p : OpM) : List Value := [.int .i64 p.kind, .int .i64 p.v, .int .i64 p.t, .string p.k]
structure OpOk (p : OpM) : Prop where
  ik : -9223372036854775808 ≤ p.kind ∧ p.kind ≤ 9223372036854775807
  iv : -9223372036854775808 ≤ p.v ∧ p.v ≤ 9223372036854775807
  it : -9223372036854775808 ≤ p.t ∧ p.t ≤ 9223372036854775807
  sk : p.k.size ≤ 140737488351232

section
variable {H : Type} {enc : TypeId × Value → H} {w : World} {spare : Nat → Bool} {held : Bool} {base : Nat}
theorem reach_num : reachBytes = 140737488351232 := by decide
theorem one_string {t : TypeId} {fuel : Nat} {v : Value} {x : DataW H × List MemPlace} (ht : Try.prog.underlying t = some .string) (h : DataW.trod enc Try.prog w base spare held fuel t [v] = some x) (hw : ∀ n ∈ x.1.weights Try.prog t, n ≤ reachBytes) :
    ∃ s : ByteArray, v = .string s ∧ s.size ≤ 140737488351232 := by
  obtain ⟨s, hcs, hx, _⟩ := DataW.trod_string ht h
  simp at hcs
  refine ⟨s, hcs, ?_⟩
  have := hw s.data.toList.length (by rw [hx]; simp [DataW.weights])
  rw [reach_num, Array.length_toList] at this
  exact this
theorem one_int {t : TypeId} {fuel : Nat} {v : Value} {x : DataW H × List MemPlace} (ht : Try.prog.underlying t = some (.int .i64)) (h : DataW.trod enc Try.prog w base spare held fuel t [v] = some x) :
    ∃ n : Int, v = .int .i64 n ∧ -9223372036854775808 ≤ n ∧ n ≤ 9223372036854775807 := by
  obtain ⟨n, hcs, _, hwf⟩ := DataW.trod_int ht h
  simp at hcs
  exact ⟨n, hcs, bounds_i64 hwf⟩

theorem four {α : Type} {l : List α} (h : l.length = 4) : ∃ a b c d, l = [a, b, c, d] := by
  match l, h with
  | [a, b, c, d], _ => exact ⟨a, b, c, d, rfl⟩

/-- The struct of a call, off its cells. -/
theorem op_of_trod {fuel : Nat} {cs : List Value} {x : DataW H × List MemPlace} (h : DataW.trod enc Try.prog w base (fun _ => true) held fuel 28 cs = some x) (hw : ∀ n ∈ x.1.weights Try.prog 28, n ≤ reachBytes) :
    ∃ p : OpM, cs = p.vals ∧ OpOk p := by
  have hu := Try.underlying28
  obtain ⟨xs, n, _, hx, hlen, hxl, hg⟩ := DataW.trod_struct hu h
  have hC : Try.prog.cellsOf 28 = 4 := by kernel_rfl
  obtain ⟨v0, v1, v2, v3, rfl⟩ := four (hlen.trans hC)
  obtain ⟨y0, y1, y2, y3, rfl⟩ := four hxl
  have k3 : Try.prog.cellsOf 3 = 1 := by kernel_rfl
  have k9 : Try.prog.cellsOf 9 = 1 := by kernel_rfl
  have g0 := hg 0 _ rfl
  have g1 := hg 1 _ rfl
  have g2 := hg 2 _ rfl
  have g3 := hg 3 _ rfl
  simp [k3, k9] at g0 g1 g2 g3
  have hmem : ∀ (j : Nat) (t : TypeId) (y : DataW H × List MemPlace), [3, 3, 3, 9][j]? = some t → [y0, y1, y2, y3][j]? = some y → ∀ k ∈ y.1.weights Try.prog t, k ≤ reachBytes := fun j t y ht hy k hk => by
    refine hw k ?_
    rw [hx]
    simp only [DataW.weights, hu]
    refine DataW.weights_mem_each (j := j) (t := t) (d := y.1) ht ?_ k hk
    rw [List.getElem?_map, hy]
    rfl
  obtain ⟨kind, rfl, i0⟩ := one_int Try.underlying3 g0
  obtain ⟨id, rfl, i1⟩ := one_int Try.underlying3 g1
  obtain ⟨tm, rfl, i2⟩ := one_int Try.underlying3 g2
  obtain ⟨nm, rfl, i3⟩ := one_string Try.underlying9 g3 (hmem 3 _ _ rfl rfl)
  exact ⟨⟨kind, id, tm, nm⟩, rfl, ⟨i0, i1, i2, i3⟩⟩

theorem weightsAll_mem {P : Program} {e : TypeId} {d : DataW H} : ∀ {l : List (DataW H)}, d ∈ l → ∀ n ∈ d.weights P e, n ∈ DataW.weightsAll P e l
  | a :: r, hd, n, hn => by
    unfold DataW.weightsAll
    rcases List.mem_cons.1 hd with rfl | hd
    · exact List.mem_append.2 (.inl hn)
    · exact List.mem_append.2 (.inr (weightsAll_mem hd n hn))
theorem add_form {a : Addr} {u : Value} (h : w.cell? (a.add 0) = some u) : a = ⟨a.block, a.off, none⟩ := by
  obtain ⟨b, o, sp⟩ := a
  cases sp with
  | none => rfl
  | some x =>
    exfalso
    unfold World.cell? at h
    simp [Addr.add] at h
    split at h
    · cases h
    · cases h
instance : Inhabited OpM := ⟨⟨0, 0, 0, .empty⟩⟩
end

/-- A slice of calls, as a list. -/
structure OpsRd (w : World) (B : Nat) (A : Option Addr) (n c : Nat) (l : List OpM) : Prop where
  len : l.length = n
  cap : n ≤ c
  max : c ≤ maxLen
  place : ∀ j p, l[j]? = some p → ∃ b o, A = some ⟨b, o, none⟩ ∧ b < B ∧ ∀ i u, p.vals[i]? = some u → w.cell? ⟨b, o + (j * 4 + i), none⟩ = some u
  ok : ∀ p ∈ l, OpOk p
theorem OpsRd.below {w w' : World} {B : Nat} {A : Option Addr} {n c : Nat} {l : List OpM} (h : OpsRd w B A n c l) (hb : Below B w w') : OpsRd w' B A n c l :=
  ⟨h.len, h.cap, h.max, fun j p hj => by
    obtain ⟨b, o, e, hB, hc⟩ := h.place j p hj
    exact ⟨b, o, e, hB, fun i u hu => by rw [hb.cell (p := ⟨b, o + (j * 4 + i), none⟩) hB]; exact hc i u hu⟩, h.ok⟩

theorem ops_in {H : Type} {enc : TypeId × Value → H} {w : World} {held : Bool} {base fuel : Nat} {v : Value} {x : DataW H × List MemPlace} (h : DataW.trod enc Try.prog w base (fun _ => true) held fuel 22 [v] = some x)
    (hw : ∀ n ∈ x.1.weights Try.prog 22, n ≤ reachBytes) : ∃ A n c l, v = .slice A n c ∧ OpsRd w w.heap.size A n c l := by
  have hC : Try.prog.cellsOf 28 = 4 := by kernel_rfl
  rcases open_slice Try.underlying22 h with ⟨hcs, _⟩ | ⟨a, len, cap, m, n, D, Pl, hcs, _, hl, hm, hmm, hx, hi⟩
  · simp at hcs
    subst hcs
    exact ⟨none, 0, 0, [], rfl, rfl, Nat.le_refl _, Nat.zero_le _, fun j p hj => by simp at hj, fun p hp => by cases hp⟩
  · simp at hcs
    subst hcs
    simp only [if_true] at hmm
    have key0 : ∀ i, i < len → ∃ p : OpM, (∀ j u, p.vals[j]? = some u → w.cell? (a.add (i * 4 + j)) = some u) ∧ OpOk p := by
      intro i hil
      obtain ⟨cs', hc, ht⟩ := hi i (by omega)
      obtain ⟨_, hcl, hat⟩ := World.cells?_some hc
      obtain ⟨p, hp, hok⟩ := op_of_trod ht (fun k hk => hw k (by
        rw [hx]
        simp only [DataW.weights, Try.underlying22]
        refine List.mem_cons_of_mem _ (List.mem_append.2 (.inl (weightsAll_mem ?_ k hk)))
        exact List.mem_map.2 ⟨i, List.mem_range.2 hil, rfl⟩))
      rw [hC] at hat
      have h6 : p.vals.length = 4 := rfl
      refine ⟨p, fun j u hu => ?_, hok⟩
      have hj : j < 4 := by rw [← h6]; exact (List.getElem?_eq_some_iff.1 hu).1
      have := hat j hj
      rw [add_add, hp, hu] at this
      exact this
    have hform : 0 < len → a = ⟨a.block, a.off, none⟩ := fun h0 => by
      obtain ⟨p, hp, _⟩ := key0 0 h0
      exact add_form (hp 0 _ rfl)
    have key : ∀ i, i < len → ∃ p : OpM, (a = ⟨a.block, a.off, none⟩ ∧ a.block < w.heap.size ∧ ∀ j u, p.vals[j]? = some u → w.cell? ⟨a.block, a.off + (i * 4 + j), none⟩ = some u) ∧ OpOk p := by
      intro i hil
      obtain ⟨p, hp, hok⟩ := key0 i hil
      have hfm := hform (by omega)
      have hcell : ∀ j u, p.vals[j]? = some u → w.cell? ⟨a.block, a.off + (i * 4 + j), none⟩ = some u := fun j u hu => by
        have := hp j u hu
        rw [hfm, Addr.add_lit] at this
        exact this
      exact ⟨p, ⟨hfm, World.block_lt_of_cell? w ⟨a.block, a.off + (i * 4 + 0), none⟩ (hcell 0 _ rfl), hcell⟩, hok⟩
    obtain ⟨f, hf⟩ := choose_lt key
    refine ⟨some a, len, cap, (List.range len).map f, rfl, by simp, hl, hm, fun j p hj => ?_, fun p hp => ?_⟩
    · rw [List.getElem?_map] at hj
      obtain ⟨i, hi', rfl⟩ := Option.map_eq_some_iff.1 hj
      obtain ⟨h1, h2⟩ := List.getElem?_eq_some_iff.1 hi'
      simp at h1 h2
      subst h2
      obtain ⟨⟨e, hB, hc⟩, _⟩ := hf j h1
      exact ⟨a.block, a.off, by rw [← e], hB, hc⟩
    · obtain ⟨i, hi', rfl⟩ := List.mem_map.1 hp
      exact (hf i (List.mem_range.1 hi')).2

theorem OpsRd.op {w w' : World} {A : Option Addr} {n c : Nat} {l : List OpM} (h : OpsRd w w.heap.size A n c l) (hb : Below w.heap.size w w') {j : Nat} (hj : j < n) :
    ∃ p b o, OpOk p ∧ l[j]? = some p ∧ A = some ⟨b, o, none⟩ ∧ w'.cell? ⟨b, o + j * 4, none⟩ = some (.int .i64 p.kind) ∧ w'.cell? ⟨b, o + j * 4 + 1, none⟩ = some (.int .i64 p.v) ∧ w'.cell? ⟨b, o + j * 4 + 2, none⟩ = some (.int .i64 p.t) ∧ w'.cell? ⟨b, o + j * 4 + 3, none⟩ = some (.string p.k) := by
  have hl : j < l.length := by rw [h.len]; exact hj
  obtain ⟨b, o, e, hB, hc⟩ := h.place j l[j] (List.getElem?_eq_getElem hl)
  refine ⟨l[j], b, o, h.ok _ (List.getElem_mem hl), List.getElem?_eq_getElem hl, e, ?_, ?_, ?_, ?_⟩
  · rw [hb.cell (p := ⟨b, o + j * 4, none⟩) hB]; exact hc 0 _ rfl
  · rw [hb.cell (p := ⟨b, o + j * 4 + 1, none⟩) hB, Nat.add_assoc]; exact hc 1 _ rfl
  · rw [hb.cell (p := ⟨b, o + j * 4 + 2, none⟩) hB, Nat.add_assoc]; exact hc 2 _ rfl
  · rw [hb.cell (p := ⟨b, o + j * 4 + 3, none⟩) hB, Nat.add_assoc]; exact hc 3 _ rfl
/-- The cells of the box that a round makes for a call. -/
abbrev opBox (p : OpM) : Obj := .cells #[.int .i64 p.kind, .int .i64 p.v, .int .i64 p.t, .string p.k] 28
theorem box_cells (w : World) (p : OpM) : (w.alloc (opBox p)).cell? ⟨w.heap.size, 0, none⟩ = some (.int .i64 p.kind) ∧ (w.alloc (opBox p)).cell? ⟨w.heap.size, 1, none⟩ = some (.int .i64 p.v) ∧ (w.alloc (opBox p)).cell? ⟨w.heap.size, 2, none⟩ = some (.int .i64 p.t) ∧ (w.alloc (opBox p)).cell? ⟨w.heap.size, 3, none⟩ = some (.string p.k) := by simp
theorem below_box (w : World) (p : OpM) : Below w.heap.size w (w.alloc (opBox p)) := (Below.refl _ _).alloc (Nat.le_refl _) _
end Go.Proofs.Ytcdjahmnobjpkaa
