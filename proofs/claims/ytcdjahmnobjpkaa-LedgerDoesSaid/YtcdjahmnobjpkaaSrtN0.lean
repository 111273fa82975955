/- What is proved here: a row of keys as a row of the sort, outside the walk: the order by times and keys; what the sorted row is in memory. -/
import Derived.Test.YtcdjahmnobjpkaaSrt
import Derived.Sort.AssemblyPlain
namespace Go.Proofs.Ytcdjahmnobjpkaa
open Go Go.RowKit Go.Maps Go.WideMaps Go.Shelf Go.Lib Go.Sort

/-- The keys of L. -/
abbrev InL (L : List En) (x : ByteArray) : Prop := ∃ t ∈ L, t.k = x
/-- The entry of a key. -/
def enOf (L : List En) (t0 : En) (x : ByteArray) : En := (findE L x).getD t0
theorem enOf_spec {L : List En} (t0 : En) {x : ByteArray} (h : InL L x) : enOf L t0 x ∈ L ∧ (enOf L t0 x).k = x := by
  unfold enOf
  cases ha : findE L x with
  | none =>
    obtain ⟨t, ht, e⟩ := h
    exact absurd e (findE_none.1 ha t ht)
  | some y => exact findE_some ha
theorem enOf_id {L : List En} (t0 : En) (hR : Rising En.nm L) {t : En} (ht : t ∈ L) : enOf L t0 t.k = t := by
  unfold enOf
  rw [findE_mem hR ht]
  rfl
instance (a b : En) : Decidable (befE a b) := inferInstanceAs (Decidable (a.t < b.t ∨ (a.t = b.t ∧ bytesBefore a.nm b.nm = true)))
theorem befE_irrefl (a : En) : ¬ befE a a := by
  rintro (h | ⟨_, h⟩)
  · omega
  · rw [WideAt.bytes_irrefl] at h; cases h
theorem befE_trans {a b c : En} (h1 : befE a b) (h2 : befE b c) : befE a c := by
  rcases h1 with h1 | ⟨e1, h1⟩ <;> rcases h2 with h2 | ⟨e2, h2⟩
  · exact .inl (by omega)
  · exact .inl (by omega)
  · exact .inl (by omega)
  · exact .inr ⟨by omega, WideShapes.bytes_trans _ _ _ h1 h2⟩
theorem befE_total {a b : En} (h : a.k ≠ b.k) : befE a b ∨ befE b a := by
  rcases Int.lt_trichotomy a.t b.t with h1 | h1 | h1
  · exact .inl (.inl h1)
  · rcases WideAt.bytes_total a.nm b.nm (fun e => h (nm_eq.1 e)) with h2 | h2
    · exact .inl (.inr ⟨h1, h2⟩)
    · exact .inr (.inr ⟨h1.symm, h2⟩)
  · exact .inr (.inl h1)
theorem befE_ntrans {a b c : En} (h1 : ¬ befE a b) (h2 : ¬ befE b c) : ¬ befE a c := by
  intro h3
  by_cases e1 : a.k = b.k
  · have en : a.nm = b.nm := nm_eq.2 e1
    by_cases e2 : a.t = b.t
    · refine h2 ?_
      unfold befE at h3 ⊢
      rw [← en, ← e2]
      exact h3
    · rcases Int.lt_trichotomy a.t b.t with h | h | h
      · exact h1 (.inl h)
      · exact e2 h
      · exact h2 (befE_trans (.inl h) h3)
  · rcases befE_total e1 with h | h
    · exact h1 h
    · exact h2 (befE_trans h h3)
def cfL (L : List En) (t0 : En) (x y : W64 (InL L)) : Int := cmpE (enOf L t0 x.val) (enOf L t0 y.val)
theorem ltL (L : List En) (t0 : En) (x y : W64 (InL L)) : ltOf (cfL L t0) x y = decide (befE (enOf L t0 x.val) (enOf L t0 y.val)) := by
  show decide (cfL L t0 x y < 0) = _
  unfold cfL
  rw [cmpE_lt]
  rfl
theorem swoL (L : List En) (t0 : En) : SWO (ltOf (cfL L t0)) where
  irrefl x := by rw [ltL]; simpa using befE_irrefl _
  trans x y z h1 h2 := by
    rw [ltL, decide_eq_true_eq] at h1 h2 ⊢
    exact befE_trans h1 h2
  ntrans x y z h1 h2 := by
    rw [ltL, decide_eq_false_iff_not] at h1 h2 ⊢
    exact befE_ntrans h1 h2

section
variable {G : ByteArray → Prop} [Inhabited (W64 G)] {w W : World} {rb : Nat} {dk : Array (W64 G)}
theorem sw_chg (S : SW encW w rb 0 dk W) : Chg (fun i => i = rb) w W := by
  have hle := S.le
  obtain ⟨n, os, rfl⟩ := S
  refine ⟨rfl, rfl, rfl, hle, fun k hk hne => ?_⟩
  show (grow (putRow encW (Sort.ahead w n) rb 0 dk) os).heap[k]? = _
  rw [heap_grow_old _ _ (by simpa [putRow, mapBlock, Sort.ahead] using hk)]
  have : rb ≠ k := fun e => hne e.symm
  simp [putRow, mapBlock, Sort.ahead, Array.getElem?_modify, this]
theorem sw_heap (S : SW encW w rb 0 dk W) {cur : Array Value} {e : TypeId} (hb : w.heap[rb]? = some (.cells cur e (0, 0))) : W.heap[rb]? = some (.cells (putCells encW 0 dk cur) e (0, 0)) := by
  obtain ⟨n, os, rfl⟩ := S
  have hg : rb < w.heap.size := (Array.getElem?_eq_some_iff.1 hb).1
  show (grow (putRow encW (Sort.ahead w n) rb 0 dk) os).heap[rb]? = _
  rw [heap_grow_old _ _ (by simpa [putRow, mapBlock, Sort.ahead] using hg)]
  simp [putRow, mapBlock, Sort.ahead, Array.getElem?_modify, hb, onCells]
theorem take_put (cur : Array Value) (ts : List (W64 G)) (h : ts.length ≤ cur.size) : (putCells encW 0 ts.toArray cur).toList.take ts.length = ts.map encW := by
  apply List.ext_getElem?
  intro j
  by_cases hj : j < ts.length
  · rw [List.getElem?_take_of_lt hj, Array.getElem?_toList]
    simp [putCells, hj, show j < cur.size by omega]
  · rw [List.getElem?_take_eq_none (by omega), List.getElem?_eq_none (by simp; omega)]
end

def mkW (L : List En) (hw : ∀ x ∈ L, x.k.size ≤ maxLen) (xs : List En) (hx : ∀ x ∈ xs, x ∈ L) : List (W64 (InL L)) := xs.pmap (fun t ht => ⟨t.k, hw t ht, t, ht, rfl⟩) hx
theorem mkW_val (L : List En) (hw : ∀ x ∈ L, x.k.size ≤ maxLen) (xs : List En) (hx : ∀ x ∈ xs, x ∈ L) : (mkW L hw xs hx).map (fun x => x.val) = xs.map En.k := by
  unfold mkW
  rw [List.map_pmap]
  simp
theorem mkW_en (L : List En) (t0 : En) (hR : Rising En.nm L) (hw : ∀ x ∈ L, x.k.size ≤ maxLen) (xs : List En) (hx : ∀ x ∈ xs, x ∈ L) : (mkW L hw xs hx).map (fun x => enOf L t0 x.val) = xs := by
  rw [show (fun x : W64 (InL L) => enOf L t0 x.val) = (enOf L t0) ∘ (fun x => x.val) from rfl, ← List.map_map, mkW_val, List.map_map]
  apply List.ext_getElem (by simp)
  intro i h1 h2
  simp only [List.getElem_map, Function.comp]
  exact enOf_id t0 hR (hx _ (List.getElem_mem h2))

end Go.Proofs.Ytcdjahmnobjpkaa
