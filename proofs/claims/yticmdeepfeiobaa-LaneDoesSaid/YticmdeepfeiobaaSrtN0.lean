/- What is proved here: a row of things as a row of the sort, outside the walk: the order by turns; what the sorted row is in memory. -/
import Derived.Test.YticmdeepfeiobaaSrt
import Derived.Sort.AssemblyPlain
namespace Go.Proofs.Yticmdeepfeiobaa
open Go Go.RowKit Go.Maps Go.WideMaps Go.Shelf Go.Lib Go.Sort

/-- The ids of L. -/
abbrev InL (L : List Th) (x : Int) : Prop := ∃ t ∈ L, t.id = x
/-- The thing of an id. -/
def thOf (L : List Th) (t0 : Th) (x : Int) : Th := (at_ L x).getD t0
theorem thOf_spec {L : List Th} (t0 : Th) {x : Int} (h : InL L x) : thOf L t0 x ∈ L ∧ (thOf L t0 x).id = x := by
  unfold thOf
  cases ha : at_ L x with
  | none =>
    obtain ⟨t, ht, e⟩ := h
    exact absurd e (at_none.1 ha t ht)
  | some y => exact at_some ha
theorem thOf_id {L : List Th} (t0 : Th) (hn : (ids L).Nodup) {t : Th} (ht : t ∈ L) : thOf L t0 t.id = t := by
  obtain ⟨h1, h2⟩ := thOf_spec t0 (⟨t, ht, rfl⟩ : InL L t.id)
  exact nodup_id hn h1 ht h2
def cfL (L : List Th) (t0 : Th) (x y : W64 (InL L)) : Int := cmp1 (thOf L t0 x.val).tn (thOf L t0 y.val).tn
theorem ltL (L : List Th) (t0 : Th) (x y : W64 (InL L)) : ltOf (cfL L t0) x y = decide ((thOf L t0 x.val).tn < (thOf L t0 y.val).tn) := by
  show decide (cfL L t0 x y < 0) = _
  unfold cfL cmp1
  by_cases h : (thOf L t0 x.val).tn < (thOf L t0 y.val).tn
  · rw [if_pos (by omega)]; simp [h]
  · rw [if_neg (by omega)]
    split <;> simp [h]
theorem swoL (L : List Th) (t0 : Th) : SWO (ltOf (cfL L t0)) where
  irrefl x := by rw [ltL]; simp
  trans x y z h1 h2 := by
    rw [ltL, decide_eq_true_eq] at h1 h2 ⊢
    omega
  ntrans x y z h1 h2 := by
    rw [ltL, decide_eq_false_iff_not] at h1 h2 ⊢
    omega

section
variable {G : Int → Prop} [Inhabited (W64 G)] {w W : World} {rb : Nat} {dk : Array (W64 G)}
theorem sw_chg (S : SW encW w rb 0 dk W) : Chg (fun i => i = rb) w W := by
  have hle := S.le
  obtain ⟨n, os, rfl⟩ := S
  refine ⟨rfl, rfl, rfl, hle, fun k hk hne => ?_⟩
  show (grow (putRow encW (Sort.ahead w n) rb 0 dk) os).heap[k]? = _
  rw [heap_grow_old _ _ (by simpa [putRow, mapBlock, Sort.ahead] using hk)]
  have : rb ≠ k := fun e => hne e.symm
  simp [putRow, mapBlock, Sort.ahead, Array.getElem?_modify, this]
theorem sw_heap (S : SW encW w rb 0 dk W) {cur : Array Value} {e : TypeId} (hb : w.heap[rb]? = some (.cells cur e (0, 0))) : W.heap[rb]? = some (.cells (putCells encW 0 dk cur) e (0, 0)) := by
  obtain ⟨n, os, rfl⟩ := S
  have hg : rb < w.heap.size := (Array.getElem?_eq_some_iff.1 hb).1
  show (grow (putRow encW (Sort.ahead w n) rb 0 dk) os).heap[rb]? = _
  rw [heap_grow_old _ _ (by simpa [putRow, mapBlock, Sort.ahead] using hg)]
  simp [putRow, mapBlock, Sort.ahead, Array.getElem?_modify, hb, onCells]
theorem take_put (cur : Array Value) (ts : List (W64 G)) (h : ts.length ≤ cur.size) : (putCells encW 0 ts.toArray cur).toList.take ts.length = ts.map encW := by
  apply List.ext_getElem?
  intro j
  by_cases hj : j < ts.length
  · rw [List.getElem?_take_of_lt hj, Array.getElem?_toList]
    simp [putCells, hj, show j < cur.size by omega]
  · rw [List.getElem?_take_eq_none (by omega), List.getElem?_eq_none (by simp; omega)]
end

def mkW (L : List Th) (hw : ∀ x ∈ L, wfk x.id) (xs : List Th) (hx : ∀ x ∈ xs, x ∈ L) : List (W64 (InL L)) := xs.pmap (fun t ht => ⟨t.id, hw t ht, t, ht, rfl⟩) hx
theorem mkW_val (L : List Th) (hw : ∀ x ∈ L, wfk x.id) (xs : List Th) (hx : ∀ x ∈ xs, x ∈ L) : (mkW L hw xs hx).map (fun x => x.val) = xs.map Th.id := by
  unfold mkW
  rw [List.map_pmap]
  simp
theorem mkW_th (L : List Th) (t0 : Th) (hn : (ids L).Nodup) (hw : ∀ x ∈ L, wfk x.id) (xs : List Th) (hx : ∀ x ∈ xs, x ∈ L) : (mkW L hw xs hx).map (fun x => thOf L t0 x.val) = xs := by
  rw [show (fun x : W64 (InL L) => thOf L t0 x.val) = (thOf L t0) ∘ (fun x => x.val) from rfl, ← List.map_map, mkW_val, List.map_map]
  apply List.ext_getElem (by simp)
  intro i h1 h2
  simp only [List.getElem_map, Function.comp]
  exact thOf_id t0 hn (hx _ (List.getElem_mem h2))

end Go.Proofs.Yticmdeepfeiobaa
