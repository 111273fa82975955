/- What is proved here: how the entries, and the calls, that come in are read. -/
import Derived.Test.YtmmddkddjiodbaaEAwake
import Derived.Deep.Slices
import Derived.Deep.Fields
import Derived.SizedLaws
import Derived.ChangeSlices
import Derived.ChangeArms
import Derived.OpenShut
namespace Go.Proofs.Ytmmddkddjiodbaa
open Go Go.RowKit Go.ChangeShapes Go.WideShapes Go.Deep

section
variable {H : Type} {enc : TypeId × Value → H} {w : World} {spare : Nat → Bool} {held : Bool} {base : Nat}
theorem reach_num : reachBytes = 140737488351232 := by decide
theorem one_string {t : TypeId} {fuel : Nat} {v : Value} {x : DataW H × List MemPlace} (ht : Try.prog.underlying t = some .string) (h : DataW.trod enc Try.prog w base spare held fuel t [v] = some x) : ∃ s : ByteArray, v = .string s := by
  obtain ⟨s, hcs, hx, _⟩ := DataW.trod_string ht h
  simp at hcs
  exact ⟨s, hcs⟩
theorem one_int {t : TypeId} {fuel : Nat} {v : Value} {x : DataW H × List MemPlace} (ht : Try.prog.underlying t = some (.int .i64)) (h : DataW.trod enc Try.prog w base spare held fuel t [v] = some x) :
    ∃ n : Int, v = .int .i64 n ∧ I64 n := by
  obtain ⟨n, hcs, _, hwf⟩ := DataW.trod_int ht h
  simp at hcs
  exact ⟨n, hcs, bounds_i64 hwf⟩
theorem list2 {α : Type} {l : List α} (h : l.length = 2) : ∃ a b, l = [a, b] := by
  match l, h with
  | [a, b], _ => exact ⟨a, b, rfl⟩
theorem list4 {α : Type} {l : List α} (h : l.length = 4) : ∃ a b c d, l = [a, b, c, d] := by
  match l, h with
  | [a, b, c, d], _ => exact ⟨a, b, c, d, rfl⟩
theorem weightsAll_mem {P : Program} {e : TypeId} {d : DataW H} : ∀ {l : List (DataW H)}, d ∈ l → ∀ n ∈ d.weights P e, n ∈ DataW.weightsAll P e l
  | a :: r, hd, n, hn => by
    unfold DataW.weightsAll
    rcases List.mem_cons.1 hd with rfl | hd
    · exact List.mem_append.2 (.inl hn)
    · exact List.mem_append.2 (.inr (weightsAll_mem hd n hn))
theorem add_form {a : Addr} {u : Value} (h : w.cell? (a.add 0) = some u) : a = ⟨a.block, a.off, none⟩ := by
  obtain ⟨b, o, sp⟩ := a
  cases sp with
  | none => rfl
  | some x =>
    exfalso
    unfold World.cell? at h
    simp [Addr.add] at h
    split at h
    · cases h
    · cases h
/-- A slice of structs that came in. -/
theorem recs_in {α : Type} [Inhabited α] {f : α → List Value} {s : Nat} {Pr : α → Prop} (hs : ∀ x, (f x).length = s) (hs0 : 0 < s) {t e : TypeId} (hu : Try.prog.underlying t = some (.slice e)) (hC : Try.prog.cellsOf e = s) (hby : 1 ≤ Try.prog.bytesOf e)
    (hone : ∀ fuel cs x, DataW.trod enc Try.prog w base (fun _ => true) held fuel e cs = some x → (∀ n ∈ x.1.weights Try.prog e, n ≤ reachBytes) → ∃ p : α, cs = f p ∧ Pr p)
    {fuel : Nat} {v : Value} {x : DataW H × List MemPlace} (h : DataW.trod enc Try.prog w base (fun _ => true) held fuel t [v] = some x) (hw : ∀ n ∈ x.1.weights Try.prog t, n ≤ reachBytes) :
    ∃ A n c l, v = .slice A n c ∧ WRd f w (fun k => k < w.heap.size) A n c l ∧ (∀ p ∈ l, Pr p) ∧ n ≤ 140737488351232 := by
  rcases open_slice hu h with ⟨hcs, _⟩ | ⟨a, len, cap, m, n, D, Pl, hcs, _, hl, hm, hmm, hx, hi⟩
  · simp at hcs
    subst hcs
    exact ⟨none, 0, 0, [], rfl, WRd.none_ _ _ _, (fun p hp => by cases hp), by omega⟩
  · simp at hcs
    subst hcs
    simp only [if_true] at hmm
    have hlen : len ≤ 140737488351232 := by
      have h1 := hw _ (by
        rw [hx]
        simp only [DataW.weights, hu]
        exact List.mem_cons_self ..)
      rw [reach_num] at h1
      simp only [List.length_map, List.length_range] at h1
      have h2 : len * 1 ≤ 140737488351232 := Nat.le_trans (Nat.mul_le_mul (Nat.le_add_right _ _) hby) h1
      omega
    have key0 : ∀ i, i < len → ∃ p : α, (∀ j u, (f p)[j]? = some u → w.cell? (a.add (i * s + j)) = some u) ∧ Pr p := by
      intro i hil
      obtain ⟨cs', hc, ht⟩ := hi i (by omega)
      obtain ⟨_, hcl, hat⟩ := World.cells?_some hc
      obtain ⟨p, hp, hok⟩ := hone _ _ _ ht (fun k hk => hw k (by
        rw [hx]
        simp only [DataW.weights, hu]
        refine List.mem_cons_of_mem _ (List.mem_append.2 (.inl (weightsAll_mem ?_ k hk)))
        exact List.mem_map.2 ⟨i, List.mem_range.2 hil, rfl⟩))
      rw [hC] at hat
      refine ⟨p, fun j u hu => ?_, hok⟩
      have hj : j < s := by rw [← hs p]; exact (List.getElem?_eq_some_iff.1 hu).1
      have := hat j hj
      rw [add_add, hp, hu] at this
      exact this
    have hform : 0 < len → a = ⟨a.block, a.off, none⟩ := fun h0 => by
      obtain ⟨p, hp, _⟩ := key0 0 h0
      have h1 : (f p)[0]? = some ((f p)[0]'(by rw [hs]; exact hs0)) := List.getElem?_eq_getElem _
      have h2 := hp 0 _ h1
      rw [Nat.zero_mul, Nat.zero_add] at h2
      exact add_form h2
    obtain ⟨g, hg⟩ := choose_lt key0
    have hcells : ∀ ad, some a = some ad → ∀ j u, (((List.range len).map g).flatMap f)[j]? = some u → w.cell? (ad.add j) = some u := fun ad had j u hu => by
      obtain rfl := Option.some.inj had
      have hj := (List.getElem?_eq_some_iff.1 hu).1
      rw [fm_len hs, List.length_map, List.length_range] at hj
      have hi' : j / s < len := (Nat.div_lt_iff_lt_mul hs0).2 hj
      have hx : ((List.range len).map g)[j / s]? = some (g (j / s)) := by rw [List.getElem?_map, List.getElem?_range hi']; rfl
      have hm := Nat.mod_lt j hs0
      have hjs : j / s * s + j % s = j := by rw [Nat.mul_comm]; exact Nat.div_add_mod j s
      have h1 : (f (g (j / s)))[j % s]? = some ((f (g (j / s)))[j % s]'(by rw [hs]; exact hm)) := List.getElem?_eq_getElem _
      have h2 := fm_at hs hx _ _ h1
      rw [hjs, hu] at h2
      have h3 := (hg (j / s) hi').1 (j % s) _ h1
      rw [hjs] at h3
      rw [h3, Option.some.inj h2]
    refine ⟨some a, len, cap, (List.range len).map g, rfl, ⟨by simp, hl, hm, (fun e => by cases e), hcells, fun h0 ad had => ?_⟩, fun p hp => ?_, hlen⟩
    · obtain rfl := Option.some.inj had
      have hfm := hform h0
      have h1 : (f (g 0))[0]? = some ((f (g 0))[0]'(by rw [hs]; exact hs0)) := List.getElem?_eq_getElem _
      have h2 := (hg 0 h0).1 0 _ h1
      rw [hfm, Addr.add_lit] at h2
      have hb := World.block_lt_of_cell? w _ h2
      exact ⟨a.block, a.off, hfm, hb, hb⟩
    · obtain ⟨i, hi', rfl⟩ := List.mem_map.1 hp
      exact (hg i (List.mem_range.1 hi')).2
instance : Inhabited En := ⟨zeroE⟩
instance : Inhabited OpM := ⟨⟨0, 0, 0, none, 0, 0, []⟩⟩
/-- The struct of an entry, off its cells. -/
theorem en_of_trod {fuel : Nat} {cs : List Value} {x : DataW H × List MemPlace} (h : DataW.trod enc Try.prog w base (fun _ => true) held fuel 47 cs = some x) : ∃ p : En, cs = enC p ∧ I64 p.t := by
  obtain ⟨xs, n, _, hx, hlen, hxl, hg⟩ := DataW.trod_struct Try.underlying47 h
  have hC : Try.prog.cellsOf 47 = 2 := by kernel_rfl
  obtain ⟨v0, v1, rfl⟩ := list2 (hlen.trans hC)
  obtain ⟨y0, y1, rfl⟩ := list2 hxl
  have k3 : Try.prog.cellsOf 3 = 1 := by kernel_rfl
  have k9 : Try.prog.cellsOf 9 = 1 := by kernel_rfl
  have g0 := hg 0 _ rfl
  have g1 := hg 1 _ rfl
  simp [k3, k9] at g0 g1
  obtain ⟨t, rfl, i0⟩ := one_int Try.underlying3 g0
  obtain ⟨d, rfl⟩ := one_string Try.underlying9 g1
  exact ⟨⟨t, d⟩, rfl, i0⟩
theorem entries_in {fuel : Nat} {v : Value} {x : DataW H × List MemPlace} (h : DataW.trod enc Try.prog w base (fun _ => true) held fuel 27 [v] = some x) (hw : ∀ n ∈ x.1.weights Try.prog 27, n ≤ reachBytes) :
    ∃ A n c l, v = .slice A n c ∧ WRd enC w (fun k => k < w.heap.size) A n c l ∧ (∀ p ∈ l, I64 p.t) ∧ n ≤ 140737488351232 :=
  recs_in en_len (by omega) Try.underlying27 (by kernel_rfl) (by decide +kernel) (fun _ _ _ ht _ => en_of_trod ht) h hw
/-- The struct of a call, off its cells. -/
theorem op_of_trod {fuel : Nat} {cs : List Value} {x : DataW H × List MemPlace} (h : DataW.trod enc Try.prog w base (fun _ => true) held fuel 32 cs = some x) (hw : ∀ n ∈ x.1.weights Try.prog 32, n ≤ reachBytes) :
    ∃ p : OpM, cs = opC p ∧ OpOk w w.heap.size p := by
  have hu := Try.underlying32
  obtain ⟨xs, n, _, hx, hlen, hxl, hg⟩ := DataW.trod_struct hu h
  have hC : Try.prog.cellsOf 32 = 4 := by kernel_rfl
  obtain ⟨v0, v1, v2, v3, rfl⟩ := list4 (hlen.trans hC)
  obtain ⟨y0, y1, y2, y3, rfl⟩ := list4 hxl
  have k3 : Try.prog.cellsOf 3 = 1 := by kernel_rfl
  have k9 : Try.prog.cellsOf 27 = 1 := by kernel_rfl
  have g0 := hg 0 _ rfl
  have g1 := hg 1 _ rfl
  have g2 := hg 2 _ rfl
  have g3 := hg 3 _ rfl
  simp [k3, k9] at g0 g1 g2 g3
  have h3 : ∀ k ∈ y3.1.weights Try.prog 27, k ≤ reachBytes := fun k hk => by
    refine hw k ?_
    rw [hx]
    simp only [DataW.weights, hu]
    exact DataW.weights_mem_each (j := 3) (t := 27) (d := y3.1) rfl rfl k hk
  obtain ⟨a0, rfl, i0⟩ := one_int Try.underlying3 g0
  obtain ⟨a1, rfl, i1⟩ := one_int Try.underlying3 g1
  obtain ⟨a2, rfl, i2⟩ := one_int Try.underlying3 g2
  obtain ⟨A, n, c, l, rfl, hr, ht, hn⟩ := entries_in g3 h3
  exact ⟨⟨a0, a1, a2, A, n, c, l⟩, rfl, ⟨i0, i1, i2, hr, by dsimp only; omega, ht⟩⟩
theorem ops_in {fuel : Nat} {v : Value} {x : DataW H × List MemPlace} (h : DataW.trod enc Try.prog w base (fun _ => true) held fuel 22 [v] = some x) (hw : ∀ n ∈ x.1.weights Try.prog 22, n ≤ reachBytes) :
    ∃ A n c l, v = .slice A n c ∧ OpsRd w A n c l := by
  obtain ⟨A, n, c, l, e, h1, h2, _⟩ := recs_in op_len (by omega) Try.underlying22 (by kernel_rfl) (by decide +kernel) (fun _ _ _ ht hw => op_of_trod ht hw) h hw
  exact ⟨A, n, c, l, e, h1, h2⟩
end
end Go.Proofs.Ytmmddkddjiodbaa
