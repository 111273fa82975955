/- What is proved here: plain facts on things with numbers and times, their order, and a heap of them: what it is that a thing rises, and sinks. No program is named. -/
import Derived.WalkKit
import Derived.Lib.Hide
namespace Go.Proofs.Ytednibjemboclaa
open Go

/-- A thing: its number, its time. -/
abbrev It := Int × Int
def bef (x y : It) : Prop := x.2 < y.2 ∨ (x.2 = y.2 ∧ x.1 < y.1)
instance (x y : It) : Decidable (bef x y) := by unfold bef; infer_instance
def le (x y : It) : Prop := ¬ bef y x
theorem le_refl (x : It) : le x x := by unfold le bef; omega
theorem le_trans {x y z : It} (h : le x y) (k : le y z) : le x z := by unfold le bef at *; omega
theorem le_of_bef {x y : It} (h : bef x y) : le x y := by unfold le bef at *; omega
theorem bef_of_le {x y : It} (h : le x y) (hn : x.1 ≠ y.1) : bef x y := by unfold le bef at *; omega
theorem bef_irrefl (x : It) : ¬ bef x x := by unfold bef; omega
theorem bef_trans {x y z : It} (h : bef x y) (k : bef y z) : bef x z := by unfold bef at *; omega
theorem bef_asymm {x y : It} (h : bef x y) : ¬ bef y x := by unfold bef at *; omega
theorem le_total (x y : It) : le x y ∨ le y x := by unfold le bef; omega
theorem le_antisymm {x y : It} (h : le x y) (k : le y x) : x = y := by
  unfold le bef at *
  exact Prod.ext (by omega) (by omega)
/-- What compare answers. -/
def cmpf (x y : It) : Int := if x.2 < y.2 then -1 else if y.2 < x.2 then 1 else if x.1 < y.1 then -1 else if y.1 < x.1 then 1 else 0
theorem cmpf_neg (x y : It) : cmpf x y < 0 ↔ bef x y := by
  unfold cmpf bef
  split
  · omega
  · split
    · omega
    · split
      · omega
      · split <;> omega
theorem cmpf_pos (x y : It) : 0 < cmpf x y ↔ bef y x := by
  unfold cmpf bef
  split
  · omega
  · split
    · omega
    · split
      · omega
      · split <;> omega

/-- The thing at a place. -/
def g (H : List It) (j : Nat) : It := H.getD j (0, 0)
theorem g_set {H : List It} {i : Nat} (hi : i < H.length) (x : It) (j : Nat) : g (H.set i x) j = if j = i then x else g H j := by
  unfold g
  rw [List.getD_eq_getElem?_getD, List.getD_eq_getElem?_getD, List.getElem?_set]
  by_cases h : i = j
  · subst h
    simp [hi]
  · rw [if_neg h, if_neg (fun e => h e.symm)]
theorem g_same {H : List It} {i : Nat} (hi : i < H.length) (x : It) : g (H.set i x) i = x := by rw [g_set hi, if_pos rfl]
theorem g_other {H : List It} {i j : Nat} (hi : i < H.length) (x : It) (h : j ≠ i) : g (H.set i x) j = g H j := by rw [g_set hi, if_neg h]
theorem g_get {H : List It} {j : Nat} (h : j < H.length) : H[j] = g H j := by
  unfold g
  rw [List.getD_eq_getElem?_getD, List.getElem?_eq_getElem h]
  rfl
theorem g_get? {H : List It} {j : Nat} (h : j < H.length) : H[j]? = some (g H j) := by
  rw [List.getElem?_eq_getElem h, g_get h]
theorem g_mem {H : List It} {j : Nat} (h : j < H.length) : g H j ∈ H := by rw [← g_get h]; exact List.getElem_mem h
theorem mem_g {H : List It} {x : It} (h : x ∈ H) : ∃ j, j < H.length ∧ g H j = x := by
  obtain ⟨j, hj⟩ := List.getElem?_of_mem h
  obtain ⟨h1, h2⟩ := List.getElem?_eq_some_iff.1 hj
  exact ⟨j, h1, by rw [← g_get h1]; exact h2⟩

/-- A heap. -/
def Heap (H : List It) : Prop := ∀ j, 0 < j → j < H.length → le (g H ((j - 1) / 2)) (g H j)
/-- A heap but for the place i, whatever stands there. -/
structure Near (H : List It) (i : Nat) : Prop where
  rest : ∀ j, 0 < j → j < H.length → j ≠ i → (j - 1) / 2 ≠ i → le (g H ((j - 1) / 2)) (g H j)
  over : ∀ j, 0 < j → j < H.length → (j - 1) / 2 = i → 0 < i → le (g H ((i - 1) / 2)) (g H j)
theorem Heap.near {H : List It} (h : Heap H) (i : Nat) : Near H i :=
  ⟨fun j h0 hj _ _ => h j h0 hj, fun j h0 hj hp hi => by
    have h1 := h j h0 hj
    have h2 := h i hi (by omega)
    rw [hp] at h1
    exact le_trans h2 h1⟩
theorem Near.set {H : List It} {i : Nat} (h : Near H i) (hi : i < H.length) (x : It) : Near (H.set i x) i := by
  refine ⟨fun j h0 hj hji hp => ?_, fun j h0 hj hp h0i => ?_⟩
  · rw [List.length_set] at hj
    rw [g_other hi x hji, g_other hi x hp]
    exact h.rest j h0 hj hji hp
  · rw [List.length_set] at hj
    rw [g_other hi x (by omega), g_other hi x (by omega)]
    exact h.over j h0 hj hp h0i
/-- One up: what is above the hole goes down into it. -/
theorem Near.up {H : List It} {i : Nat} (h : Near H i) (hi : i < H.length) (h0 : 0 < i) : Near (H.set i (g H ((i - 1) / 2))) ((i - 1) / 2) := by
  have ha : (i - 1) / 2 < i := by omega
  generalize hae : (i - 1) / 2 = a at *
  refine ⟨fun j j0 hj hja hpa => ?_, fun j j0 hj hpa a0 => ?_⟩
  · rw [List.length_set] at hj
    have hji : j ≠ i := fun e => hpa (by rw [e]; exact hae)
    rw [g_other hi _ hji]
    by_cases hp : (j - 1) / 2 = i
    · rw [hp, g_same hi]
      have := h.over j j0 hj hp h0
      rw [hae] at this
      exact this
    · rw [g_other hi _ hp]
      exact h.rest j j0 hj hji hp
  · rw [List.length_set] at hj
    rw [g_other hi _ (show (a - 1) / 2 ≠ i by omega)]
    have h1 : le (g H ((a - 1) / 2)) (g H a) := h.rest a a0 (by omega) (by omega) (by omega)
    by_cases hji : j = i
    · rw [hji, g_same hi]
      exact h1
    · rw [g_other hi _ hji]
      have h2 := h.rest j j0 hj hji (by omega)
      rw [hpa] at h2
      exact le_trans h1 h2
/-- One down: the lesser of what is below the hole goes up into it. -/
theorem Near.down {H : List It} {i b : Nat} (h : Near H i) (hi : i < H.length) (hb : b < H.length) (h0 : 0 < b) (hp : (b - 1) / 2 = i)
    (hl : ∀ j, 0 < j → j < H.length → (j - 1) / 2 = i → le (g H b) (g H j)) : Near (H.set i (g H b)) b := by
  have hib : i < b := by omega
  refine ⟨fun j j0 hj hjb hpb => ?_, fun j j0 hj hpb b0 => ?_⟩
  · rw [List.length_set] at hj
    by_cases hji : j = i
    · rw [hji, g_same hi, g_other hi _ (show (i - 1) / 2 ≠ i by omega)]
      exact h.over b h0 hb hp (by omega)
    · rw [g_other hi _ hji]
      by_cases hpi : (j - 1) / 2 = i
      · rw [hpi, g_same hi]
        exact hl j j0 hj hpi
      · rw [g_other hi _ hpi]
        exact h.rest j j0 hj hji hpi
  · rw [List.length_set] at hj
    rw [hp, g_same hi, g_other hi _ (show j ≠ i by omega)]
    have := h.rest j j0 hj (by omega) (by omega)
    rw [hpb] at this
    exact this
/-- The hole is filled. -/
theorem Near.fill {H : List It} {i : Nat} (h : Near H i) (hi : i < H.length) (x : It) (ha : 0 < i → le (g H ((i - 1) / 2)) x) (hb : ∀ j, 0 < j → j < H.length → (j - 1) / 2 = i → le x (g H j)) : Heap (H.set i x) := by
  intro j j0 hj
  rw [List.length_set] at hj
  by_cases hji : j = i
  · subst hji
    rw [g_same hi, g_other hi _ (show (j - 1) / 2 ≠ j by omega)]
    exact ha j0
  · rw [g_other hi _ hji]
    by_cases hp : (j - 1) / 2 = i
    · rw [hp, g_same hi]
      exact hb j j0 hj hp
    · rw [g_other hi _ hp]
      exact h.rest j j0 hj hji hp
theorem Heap.head {H : List It} (h : Heap H) : ∀ j, j < H.length → le (g H 0) (g H j) := by
  intro j
  induction j using Nat.strongRecOn with
  | ind j ih =>
    intro hj
    by_cases h0 : j = 0
    · rw [h0]; exact le_refl _
    · exact le_trans (ih ((j - 1) / 2) (by omega) (by omega)) (h j (by omega) hj)
/-- The first ones of a heap are one. -/
theorem Heap.less {H T : List It} (h : Heap (H ++ T)) : Heap H := by
  intro j h0 hj
  have e : ∀ k, k < H.length → g (H ++ T) k = g H k := fun k hk => by
    unfold g
    rw [List.getD_eq_getElem?_getD, List.getD_eq_getElem?_getD, List.getElem?_append_left hk]
  have := h j h0 (by rw [List.length_append]; omega)
  rwa [e j hj, e _ (by omega)] at this
/-- Behind a heap stands what is yet to rise. -/
theorem Heap.more {H : List It} (h : Heap H) (x : It) : Near (H ++ [x]) H.length := by
  have e : ∀ k, k < H.length → g (H ++ [x]) k = g H k := fun k hk => by
    unfold g
    rw [List.getD_eq_getElem?_getD, List.getD_eq_getElem?_getD, List.getElem?_append_left hk]
  refine ⟨fun j j0 hj hji hp => ?_, fun j j0 hj hp _ => ?_⟩
  · rw [List.length_append] at hj
    simp at hj
    rw [e j (by omega), e _ (by omega)]
    exact h j j0 (by omega)
  · rw [List.length_append] at hj
    simp at hj
    omega

/-- What stands in a hole's place goes from one place to another: the same things. -/
theorem swap_perm {H : List It} {i a : Nat} (hi : i < H.length) (ha : a < H.length) (hne : a ≠ i) (x : It) : ((H.set i (g H a)).set a x).Perm (H.set i x) := by
  have h1 : i < (H.set i x).length := by rw [List.length_set]; exact hi
  have h2 : a < (H.set i x).length := by rw [List.length_set]; exact ha
  have h3 := List.set_set_perm h1 h2
  have e1 : (H.set i x)[i] = x := by simp
  have e2 : (H.set i x)[a] = g H a := by rw [List.getElem_set_ne (fun e => hne e.symm), g_get ha]
  rw [e1, e2, List.set_set] at h3
  exact h3

/-- Of where things stand: a number's place. -/
def upd (f : Int → Option Nat) (k : Int) (j : Nat) : Int → Option Nat := fun k' => if k' = k then some j else f k'
def del (f : Int → Option Nat) (k : Int) : Int → Option Nat := fun k' => if k' = k then none else f k'
theorem upd_same (f : Int → Option Nat) (k : Int) (j : Nat) : upd f k j k = some j := by simp [upd]
theorem upd_other (f : Int → Option Nat) {k k' : Int} (j : Nat) (h : k' ≠ k) : upd f k j k' = f k' := by simp [upd, h]
/-- All things' places are told, but that of the hole's; what is told of is one of them. -/
structure Told (f : Int → Option Nat) (H : List It) (i : Nat) (x : It) : Prop where
  lt : i < H.length
  nodup : ((H.set i x).map Prod.fst).Nodup
  at_ : ∀ j, j < H.length → j ≠ i → f (g H j).1 = some j
  only : ∀ k p, f k = some p → k ∈ (H.set i x).map Prod.fst
structure Tells (f : Int → Option Nat) (H : List It) : Prop where
  nodup : (H.map Prod.fst).Nodup
  at_ : ∀ j, j < H.length → f (g H j).1 = some j
  only : ∀ k p, f k = some p → k ∈ H.map Prod.fst
theorem nodup_g {H : List It} (h : (H.map Prod.fst).Nodup) {i j : Nat} (hi : i < H.length) (hj : j < H.length) (e : (g H i).1 = (g H j).1) : i = j := by
  have hi' : i < (H.map Prod.fst).length := by simpa using hi
  have hj' : j < (H.map Prod.fst).length := by simpa using hj
  have e2 : (H.map Prod.fst)[i] = (H.map Prod.fst)[j] := by
    simp only [List.getElem_map]
    rw [g_get hi, g_get hj]
    exact e
  rcases Nat.lt_trichotomy i j with h1 | h1 | h1
  · exact absurd e2 (List.pairwise_iff_getElem.1 h i j hi' hj' h1)
  · exact h1
  · exact absurd e2.symm (List.pairwise_iff_getElem.1 h j i hj' hi' h1)
theorem Told.step {f : Int → Option Nat} {H : List It} {i : Nat} {x : It} (h : Told f H i x) {a : Nat} (ha : a < H.length) (hne : a ≠ i) : Told (upd f (g H a).1 i) (H.set i (g H a)) a x := by
  have hp := swap_perm h.lt ha hne x
  have hn := h.nodup
  refine ⟨by rw [List.length_set]; exact ha, ((hp.map Prod.fst).nodup_iff).2 hn, fun j hj hja => ?_, fun k p hk => ((hp.map Prod.fst).mem_iff).2 ?_⟩
  · rw [List.length_set] at hj
    by_cases hji : j = i
    · rw [hji, g_same h.lt, upd_same]
    · rw [g_other h.lt _ hji]
      rw [upd_other]
      · exact h.at_ j hj hji
      · intro e
        refine hja (nodup_g hn (by rw [List.length_set]; exact hj) (by rw [List.length_set]; exact ha) ?_)
        rw [g_other h.lt _ hji, g_other h.lt _ hne]
        exact e
  · by_cases hk2 : k = (g H a).1
    · rw [hk2]
      refine List.mem_map.2 ⟨g H a, ?_, rfl⟩
      rw [← g_other h.lt x hne]
      exact g_mem (by rw [List.length_set]; exact ha)
    · rw [upd_other _ _ hk2] at hk
      exact h.only k p hk
theorem Told.fill {f : Int → Option Nat} {H : List It} {i : Nat} {x : It} (h : Told f H i x) : Tells (upd f x.1 i) (H.set i x) := by
  refine ⟨h.nodup, fun j hj => ?_, fun k p hk => ?_⟩
  · rw [List.length_set] at hj
    by_cases hji : j = i
    · rw [hji, g_same h.lt, upd_same]
    · rw [upd_other]
      · rw [g_other h.lt _ hji]
        exact h.at_ j hj hji
      · intro e
        refine hji (nodup_g h.nodup (by rw [List.length_set]; exact hj) (by rw [List.length_set]; exact h.lt) ?_)
        rw [e, g_same h.lt]
  · by_cases hk2 : k = x.1
    · rw [hk2]
      refine List.mem_map.2 ⟨x, ?_, rfl⟩
      have := g_mem (H := H.set i x) (j := i) (by rw [List.length_set]; exact h.lt)
      rwa [g_same h.lt] at this
    · rw [upd_other _ _ hk2] at hk
      exact h.only k p hk
/-- A place that is told is that of the thing. -/
theorem Tells.place {f : Int → Option Nat} {H : List It} (h : Tells f H) {k : Int} {p : Nat} (hk : f k = some p) : p < H.length ∧ (g H p).1 = k := by
  obtain ⟨y, hy, hyk⟩ := List.mem_map.1 (h.only k p hk)
  obtain ⟨j, hj, rfl⟩ := mem_g hy
  have := h.at_ j hj
  rw [hyk, hk] at this
  obtain rfl := Option.some.inj this
  exact ⟨hj, hyk⟩
theorem Tells.none {f : Int → Option Nat} {H : List It} (h : Tells f H) {k : Int} (hk : f k = none) : ∀ y ∈ H, y.1 ≠ k := by
  intro y hy e
  obtain ⟨j, hj, rfl⟩ := mem_g hy
  have := h.at_ j hj
  rw [e, hk] at this
  cases this
/-- A thing is set anew: its place is the hole. -/
theorem Tells.told {f : Int → Option Nat} {H : List It} (h : Tells f H) {i : Nat} (hi : i < H.length) {x : It} (hx : x.1 = (g H i).1) : Told f H i x := by
  have e : (H.set i x).map Prod.fst = H.map Prod.fst := by
    rw [List.map_set, hx]
    apply List.ext_getElem?
    intro j
    rw [List.getElem?_set]
    by_cases hij : i = j
    · subst hij
      simp [hi, g_get hi]
    · rw [if_neg hij]
  exact ⟨hi, by rw [e]; exact h.nodup, fun j hj _ => h.at_ j hj, fun k p hk => by rw [e]; exact h.only k p hk⟩
/-- One more, behind. -/
theorem Tells.more {f : Int → Option Nat} {H : List It} (h : Tells f H) {x : It} (hx : f x.1 = Option.none) : Told f (H ++ [x]) H.length x := by
  have e : (H ++ [x]).set H.length x = H ++ [x] := by
    rw [List.set_append_right _ _ (Nat.le_refl _)]
    simp
  have hnone := h.none hx
  refine ⟨by simp, ?_, fun j hj hji => ?_, fun k p hk => ?_⟩
  · rw [e, List.map_append, List.nodup_append]
    refine ⟨h.nodup, by simp, ?_⟩
    intro a ha b hb
    simp at hb
    subst hb
    obtain ⟨y, hy, rfl⟩ := List.mem_map.1 ha
    exact hnone y hy
  · have hj' : j < H.length := by simp at hj; omega
    have e2 : g (H ++ [x]) j = g H j := by
      unfold g
      rw [List.getD_eq_getElem?_getD, List.getD_eq_getElem?_getD, List.getElem?_append_left hj']
    rw [e2]
    exact h.at_ j hj'
  · rw [e, List.map_append]
    exact List.mem_append_left _ (h.only k p hk)
end Go.Proofs.Ytednibjemboclaa
