/- What is proved here: what the document's own At, with and without make of the list of files. -/
import Derived.Test.YtpolkhippblcmaaTear
namespace Go.Proofs.Ytpolkhippblcmaa
open Go Go.RowKit Go.Maps

section
variable {L : List RV} {k : List UInt8} {x : RV} {j : Nat}
theorem put_map (x : RV) (L : List RV) : (putN RV.nm x L).map RV.f = putN RF.nm x.f (L.map RV.f) := map_putN (nm := RV.nm) (nm' := RF.nm) (g := RV.f) (fun _ => rfl) x L
theorem del_map (k : List UInt8) (L : List RV) : (keepN k L).map RV.f = delN RF.nm k (L.map RV.f) := keepN_map k L
theorem at_none (h : ∀ x ∈ L, x.nm ≠ k) : findN (L.map RV.f) k = none := by
  unfold findN
  rw [List.find?_eq_none]
  intro f hf
  obtain ⟨x, hx, rfl⟩ := List.mem_map.1 hf
  have := h x hx
  simpa [RV.f] using this
theorem at_some (hr : Rising RF.nm (L.map RV.f)) (hj : L[j]? = some x) (hk : x.nm = k) : findN (L.map RV.f) k = some x.f := by
  have hm : x.f ∈ L.map RV.f := List.mem_map.2 ⟨x, List.mem_of_getElem? hj, rfl⟩
  have := findN_some hr hm
  rw [← hk]
  exact this
theorem old_none (h : ∀ x ∈ L, x.nm ≠ k) : oldRF (L.map RV.f) k = ⟨k, [], 0⟩ := by
  unfold oldRF
  rw [at_none h]
  rfl
theorem old_some (hr : Rising RF.nm (L.map RV.f)) (hj : L[j]? = some x) (hk : x.nm = k) : oldRF (L.map RV.f) k = x.f := by
  unfold oldRF
  rw [at_some hr hj hk]
  rfl
theorem crash_rising {S : List RF} (h : Rising RF.nm S) (ks : List Int) : Rising RF.nm (crashF ks S) := by
  rw [← crashTo_all]
  exact crashTo_rising h ks _
/-- Every call leaves the files rising. -/
theorem do_rising {S : List RF} (h : Rising RF.nm S) (room : Int) (p : OpM) : Rising RF.nm (doF room S p).1 := by
  unfold doF
  split
  · unfold appendF
    split
    · exact h
    · split
      · exact h
      · exact h.putN _
  · split
    · unfold syncF
      split
      · exact h
      · exact h.putN _
    · split
      · unfold cutF
        split
        · exact h
        · split
          · exact h
          · exact h.putN _
      · split
        · unfold removeF
          split
          · exact h
          · exact h.delN _
        · split
          · exact crash_rising h _
          · unfold renameF
            split
            · exact h
            · split
              · exact h
              · split
                · exact h
                · exact (h.delN _).putN _
end
end Go.Proofs.Ytpolkhippblcmaa
