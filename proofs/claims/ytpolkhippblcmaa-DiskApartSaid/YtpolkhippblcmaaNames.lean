/- What is proved here: what the disk's Names returns. -/
import Derived.Test.YtpolkhippblcmaaApp
import Derived.Test.YtpolkhippblcmaaIter
namespace Go.Proofs.Ytpolkhippblcmaa
open Go Go.RowKit Go.Maps Go.Sort Go.Shelf

/-- A name as a string. -/
def nameV (k : List UInt8) : Value := encStr k
/-- What Names returns. -/
def NamesSaid (S : List RF) (w : World) (e : Ending) (w' : World) : Prop :=
  ∃ A c, e = .returned (.slice A S.length c) ∧ w'.ownsRow w.heap.size 9 1 (.slice A S.length c) S.length (S.map fun f => nameV f.nm) ∧ Below w.heap.size w w'

set_option maxHeartbeats 1000000 in
theorem Names_any {w : World} {d : Nat} {room : Int} {S : List RF} {Φ : Nat → Prop} (h : DiskAt w d room S Φ) (hL : S.length ≤ 1000000) :
    Calls Try.prog 14 #[.pointer (some ⟨d, 0, none⟩)] w (NamesSaid S w) := by
  obtain ⟨m, L, rfl, h⟩ := h
  obtain ⟨c0, c1, c2, f0, f1, f2⟩ := three_cells h.blk
  have hown := h.map
  have hl : L.length ≤ 1000000 := by simpa using hL
  have hmax : Maps.size (datOf L) ≤ maxLen := by rw [dat_size]; unfold maxLen; omega
  have hbytes : Maps.size (datOf L) * 16 ≤ 140737488355328 := by rw [dat_size]; omega
  have HE : Hid (∀ (v : Value) (ss : List (List UInt8)) (w1 : World), ss.Perm (strKeys (datOf L)) → w1.ownsRow (w.alloc (.cells #[.map (some m)] 55)).heap.size 9 1 v ss.length ((ss.mergeSort (fun x y => decide (x ≤ y))).map encStr) →
      Below (w.alloc (.cells #[.map (some m)] 55)).heap.size (w.alloc (.cells #[.map (some m)] 55)) w1 → NamesSaid (L.map Fil.f) w (.returned v) w1) := Lib.hid (by
    intro v ss w1 hp ho hb
    rw [dat_keys] at hp
    have hsr : Rising id (L.map Fil.nm) := Rising.map (g := Fil.nm) (nm' := id) (fun _ => rfl) h.srt
    rw [sorted_names hp hsr] at ho
    have hlen : ss.length = (L.map Fil.f).length := by rw [hp.length_eq]; simp
    rw [hlen] at ho
    obtain ⟨A, c, e⟩ := append_shape ho
    subst e
    refine ⟨A, c, rfl, ?_, ((Below.refl _ w).alloc (Nat.le_refl _) _).trans (hb.mono (by simp))⟩
    have := own_base ho (base' := w.heap.size) (by simp)
    rw [List.map_map] at this ⊢
    exact this)
  clear h hL hl
  refine (callsIn_wide (n := 6)).1 ?_
  have hfK : Fence.wide.fn 33 := trivial
  have hfS : Fence.wide.fn 32 := trivial
  refine callsIn_of_wp Try.func14 rfl trivial ?_ rfl
  simp only [Try.ntmps14, List.size_toArray, List.length_cons, List.length_nil, Nat.reduceAdd, Nat.reduceSub, Array.replicate_succ, Array.replicate_zero, List.push_toArray, List.append_toArray, List.nil_append, List.cons_append]
  gi_wp2_with (first
    | (gi_at_call 33; refine (Try.maps_Keys_33 _ _).mono ?_; rintro e w' ⟨rfl, rfl⟩)
    | (gi_at_call 32; refine (Try.slices_Sorted_keys_32_33 m _ _ _ w hown hmax hbytes).mono ?_; rintro e w' ⟨v, ss, rfl, hS, hrow, hnil, hb⟩; have HX := Lib.hid (HE.out v ss w' hS hrow hb); clear hS hrow hnil hb))
  go_ret
  exact HX.out
end Go.Proofs.Ytpolkhippblcmaa
