/- What is proved here: plain facts on things with numbers and times, their order, and a heap of them: what it is that a thing rises, and sinks. No program is named. -/
/- What is proved here: what it is that memory holds a timer's things and their places: definitions, and plain facts on them. -/
/- What is proved here: what 'put' does. -/
import Derived.WalkKit
import Derived.Lib.Hide
import Derived.Test.YtdjieapobodakaaGreatDoorPEx2
import Derived.Maps.OwnOps
import Derived.Maps.Views
import Derived.Laws.OwnMore
import Derived.Deep.AppendLies
import Derived.StillTailTactics
import Derived.Deep.QuietTactic
import Derived.BigQuiet
section
namespace Go.Proofs.YtdjieapobodakaaGreatDoor.Tim
open Go
set_option maxRecDepth 100000

/-- A thing: its number, its time. -/
abbrev It := Int × Int
def bef (x y : It) : Prop := x.2 < y.2 ∨ (x.2 = y.2 ∧ x.1 < y.1)
instance (x y : It) : Decidable (bef x y) := by unfold bef; infer_instance
def le (x y : It) : Prop := ¬ bef y x
theorem le_refl (x : It) : le x x := by unfold le bef; omega
theorem le_trans {x y z : It} (h : le x y) (k : le y z) : le x z := by unfold le bef at *; omega
theorem le_of_bef {x y : It} (h : bef x y) : le x y := by unfold le bef at *; omega
theorem bef_of_le {x y : It} (h : le x y) (hn : x.1 ≠ y.1) : bef x y := by unfold le bef at *; omega
theorem bef_irrefl (x : It) : ¬ bef x x := by unfold bef; omega
theorem bef_trans {x y z : It} (h : bef x y) (k : bef y z) : bef x z := by unfold bef at *; omega
theorem bef_asymm {x y : It} (h : bef x y) : ¬ bef y x := by unfold bef at *; omega
theorem le_total (x y : It) : le x y ∨ le y x := by unfold le bef; omega
theorem le_antisymm {x y : It} (h : le x y) (k : le y x) : x = y := by
  unfold le bef at *
  exact Prod.ext (by omega) (by omega)
/-- What compare answers. -/
def cmpf (x y : It) : Int := if x.2 < y.2 then -1 else if y.2 < x.2 then 1 else if x.1 < y.1 then -1 else if y.1 < x.1 then 1 else 0
theorem cmpf_neg (x y : It) : cmpf x y < 0 ↔ bef x y := by
  unfold cmpf bef
  split
  · omega
  · split
    · omega
    · split
      · omega
      · split <;> omega
theorem cmpf_pos (x y : It) : 0 < cmpf x y ↔ bef y x := by
  unfold cmpf bef
  split
  · omega
  · split
    · omega
    · split
      · omega
      · split <;> omega

/-- The thing at a place. -/
def g (H : List It) (j : Nat) : It := H.getD j (0, 0)
theorem g_set {H : List It} {i : Nat} (hi : i < H.length) (x : It) (j : Nat) : g (H.set i x) j = if j = i then x else g H j := by
  unfold g
  rw [List.getD_eq_getElem?_getD, List.getD_eq_getElem?_getD, List.getElem?_set]
  by_cases h : i = j
  · subst h
    simp [hi]
  · rw [if_neg h, if_neg (fun e => h e.symm)]
theorem g_same {H : List It} {i : Nat} (hi : i < H.length) (x : It) : g (H.set i x) i = x := by rw [g_set hi, if_pos rfl]
theorem g_other {H : List It} {i j : Nat} (hi : i < H.length) (x : It) (h : j ≠ i) : g (H.set i x) j = g H j := by rw [g_set hi, if_neg h]
theorem g_get {H : List It} {j : Nat} (h : j < H.length) : H[j] = g H j := by
  unfold g
  rw [List.getD_eq_getElem?_getD, List.getElem?_eq_getElem h]
  rfl
theorem g_get? {H : List It} {j : Nat} (h : j < H.length) : H[j]? = some (g H j) := by
  rw [List.getElem?_eq_getElem h, g_get h]
theorem g_mem {H : List It} {j : Nat} (h : j < H.length) : g H j ∈ H := by rw [← g_get h]; exact List.getElem_mem h
theorem mem_g {H : List It} {x : It} (h : x ∈ H) : ∃ j, j < H.length ∧ g H j = x := by
  obtain ⟨j, hj⟩ := List.getElem?_of_mem h
  obtain ⟨h1, h2⟩ := List.getElem?_eq_some_iff.1 hj
  exact ⟨j, h1, by rw [← g_get h1]; exact h2⟩

/-- A heap. -/
def Heap (H : List It) : Prop := ∀ j, 0 < j → j < H.length → le (g H ((j - 1) / 2)) (g H j)
/-- A heap but for the place i, whatever stands there. -/
structure Near (H : List It) (i : Nat) : Prop where
  rest : ∀ j, 0 < j → j < H.length → j ≠ i → (j - 1) / 2 ≠ i → le (g H ((j - 1) / 2)) (g H j)
  over : ∀ j, 0 < j → j < H.length → (j - 1) / 2 = i → 0 < i → le (g H ((i - 1) / 2)) (g H j)
theorem Heap.near {H : List It} (h : Heap H) (i : Nat) : Near H i :=
  ⟨fun j h0 hj _ _ => h j h0 hj, fun j h0 hj hp hi => by
    have h1 := h j h0 hj
    have h2 := h i hi (by omega)
    rw [hp] at h1
    exact le_trans h2 h1⟩
theorem Near.set {H : List It} {i : Nat} (h : Near H i) (hi : i < H.length) (x : It) : Near (H.set i x) i := by
  refine ⟨fun j h0 hj hji hp => ?_, fun j h0 hj hp h0i => ?_⟩
  · rw [List.length_set] at hj
    rw [g_other hi x hji, g_other hi x hp]
    exact h.rest j h0 hj hji hp
  · rw [List.length_set] at hj
    rw [g_other hi x (by omega), g_other hi x (by omega)]
    exact h.over j h0 hj hp h0i
/-- One up: what is above the hole goes down into it. -/
theorem Near.up {H : List It} {i : Nat} (h : Near H i) (hi : i < H.length) (h0 : 0 < i) : Near (H.set i (g H ((i - 1) / 2))) ((i - 1) / 2) := by
  have ha : (i - 1) / 2 < i := by omega
  generalize hae : (i - 1) / 2 = a at *
  refine ⟨fun j j0 hj hja hpa => ?_, fun j j0 hj hpa a0 => ?_⟩
  · rw [List.length_set] at hj
    have hji : j ≠ i := fun e => hpa (by rw [e]; exact hae)
    rw [g_other hi _ hji]
    by_cases hp : (j - 1) / 2 = i
    · rw [hp, g_same hi]
      have := h.over j j0 hj hp h0
      rw [hae] at this
      exact this
    · rw [g_other hi _ hp]
      exact h.rest j j0 hj hji hp
  · rw [List.length_set] at hj
    rw [g_other hi _ (show (a - 1) / 2 ≠ i by omega)]
    have h1 : le (g H ((a - 1) / 2)) (g H a) := h.rest a a0 (by omega) (by omega) (by omega)
    by_cases hji : j = i
    · rw [hji, g_same hi]
      exact h1
    · rw [g_other hi _ hji]
      have h2 := h.rest j j0 hj hji (by omega)
      rw [hpa] at h2
      exact le_trans h1 h2
/-- One down: the lesser of what is below the hole goes up into it. -/
theorem Near.down {H : List It} {i b : Nat} (h : Near H i) (hi : i < H.length) (hb : b < H.length) (h0 : 0 < b) (hp : (b - 1) / 2 = i)
    (hl : ∀ j, 0 < j → j < H.length → (j - 1) / 2 = i → le (g H b) (g H j)) : Near (H.set i (g H b)) b := by
  have hib : i < b := by omega
  refine ⟨fun j j0 hj hjb hpb => ?_, fun j j0 hj hpb b0 => ?_⟩
  · rw [List.length_set] at hj
    by_cases hji : j = i
    · rw [hji, g_same hi, g_other hi _ (show (i - 1) / 2 ≠ i by omega)]
      exact h.over b h0 hb hp (by omega)
    · rw [g_other hi _ hji]
      by_cases hpi : (j - 1) / 2 = i
      · rw [hpi, g_same hi]
        exact hl j j0 hj hpi
      · rw [g_other hi _ hpi]
        exact h.rest j j0 hj hji hpi
  · rw [List.length_set] at hj
    rw [hp, g_same hi, g_other hi _ (show j ≠ i by omega)]
    have := h.rest j j0 hj (by omega) (by omega)
    rw [hpb] at this
    exact this
/-- The hole is filled. -/
theorem Near.fill {H : List It} {i : Nat} (h : Near H i) (hi : i < H.length) (x : It) (ha : 0 < i → le (g H ((i - 1) / 2)) x) (hb : ∀ j, 0 < j → j < H.length → (j - 1) / 2 = i → le x (g H j)) : Heap (H.set i x) := by
  intro j j0 hj
  rw [List.length_set] at hj
  by_cases hji : j = i
  · subst hji
    rw [g_same hi, g_other hi _ (show (j - 1) / 2 ≠ j by omega)]
    exact ha j0
  · rw [g_other hi _ hji]
    by_cases hp : (j - 1) / 2 = i
    · rw [hp, g_same hi]
      exact hb j j0 hj hp
    · rw [g_other hi _ hp]
      exact h.rest j j0 hj hji hp
theorem Heap.head {H : List It} (h : Heap H) : ∀ j, j < H.length → le (g H 0) (g H j) := by
  intro j
  induction j using Nat.strongRecOn with
  | ind j ih =>
    intro hj
    by_cases h0 : j = 0
    · rw [h0]; exact le_refl _
    · exact le_trans (ih ((j - 1) / 2) (by omega) (by omega)) (h j (by omega) hj)
/-- The first ones of a heap are one. -/
theorem Heap.less {H T : List It} (h : Heap (H ++ T)) : Heap H := by
  intro j h0 hj
  have e : ∀ k, k < H.length → g (H ++ T) k = g H k := fun k hk => by
    unfold g
    rw [List.getD_eq_getElem?_getD, List.getD_eq_getElem?_getD, List.getElem?_append_left hk]
  have := h j h0 (by rw [List.length_append]; omega)
  rwa [e j hj, e _ (by omega)] at this
/-- Behind a heap stands what is yet to rise. -/
theorem Heap.more {H : List It} (h : Heap H) (x : It) : Near (H ++ [x]) H.length := by
  have e : ∀ k, k < H.length → g (H ++ [x]) k = g H k := fun k hk => by
    unfold g
    rw [List.getD_eq_getElem?_getD, List.getD_eq_getElem?_getD, List.getElem?_append_left hk]
  refine ⟨fun j j0 hj hji hp => ?_, fun j j0 hj hp _ => ?_⟩
  · rw [List.length_append] at hj
    simp at hj
    rw [e j (by omega), e _ (by omega)]
    exact h j j0 (by omega)
  · rw [List.length_append] at hj
    simp at hj
    omega

/-- What stands in a hole's place goes from one place to another: the same things. -/
theorem swap_perm {H : List It} {i a : Nat} (hi : i < H.length) (ha : a < H.length) (hne : a ≠ i) (x : It) : ((H.set i (g H a)).set a x).Perm (H.set i x) := by
  have h1 : i < (H.set i x).length := by rw [List.length_set]; exact hi
  have h2 : a < (H.set i x).length := by rw [List.length_set]; exact ha
  have h3 := List.set_set_perm h1 h2
  have e1 : (H.set i x)[i] = x := by simp
  have e2 : (H.set i x)[a] = g H a := by rw [List.getElem_set_ne (fun e => hne e.symm), g_get ha]
  rw [e1, e2, List.set_set] at h3
  exact h3

/-- Of where things stand: a number's place. -/
def upd (f : Int → Option Nat) (k : Int) (j : Nat) : Int → Option Nat := fun k' => if k' = k then some j else f k'
def del (f : Int → Option Nat) (k : Int) : Int → Option Nat := fun k' => if k' = k then none else f k'
theorem upd_same (f : Int → Option Nat) (k : Int) (j : Nat) : upd f k j k = some j := by simp [upd]
theorem upd_other (f : Int → Option Nat) {k k' : Int} (j : Nat) (h : k' ≠ k) : upd f k j k' = f k' := by simp [upd, h]
/-- All things' places are told, but that of the hole's; what is told of is one of them. -/
structure Told (f : Int → Option Nat) (H : List It) (i : Nat) (x : It) : Prop where
  lt : i < H.length
  nodup : ((H.set i x).map Prod.fst).Nodup
  at_ : ∀ j, j < H.length → j ≠ i → f (g H j).1 = some j
  only : ∀ k p, f k = some p → k ∈ (H.set i x).map Prod.fst
structure Tells (f : Int → Option Nat) (H : List It) : Prop where
  nodup : (H.map Prod.fst).Nodup
  at_ : ∀ j, j < H.length → f (g H j).1 = some j
  only : ∀ k p, f k = some p → k ∈ H.map Prod.fst
theorem nodup_g {H : List It} (h : (H.map Prod.fst).Nodup) {i j : Nat} (hi : i < H.length) (hj : j < H.length) (e : (g H i).1 = (g H j).1) : i = j := by
  have hi' : i < (H.map Prod.fst).length := by simpa using hi
  have hj' : j < (H.map Prod.fst).length := by simpa using hj
  have e2 : (H.map Prod.fst)[i] = (H.map Prod.fst)[j] := by
    simp only [List.getElem_map]
    rw [g_get hi, g_get hj]
    exact e
  rcases Nat.lt_trichotomy i j with h1 | h1 | h1
  · exact absurd e2 (List.pairwise_iff_getElem.1 h i j hi' hj' h1)
  · exact h1
  · exact absurd e2.symm (List.pairwise_iff_getElem.1 h j i hj' hi' h1)
theorem Told.step {f : Int → Option Nat} {H : List It} {i : Nat} {x : It} (h : Told f H i x) {a : Nat} (ha : a < H.length) (hne : a ≠ i) : Told (upd f (g H a).1 i) (H.set i (g H a)) a x := by
  have hp := swap_perm h.lt ha hne x
  have hn := h.nodup
  refine ⟨by rw [List.length_set]; exact ha, ((hp.map Prod.fst).nodup_iff).2 hn, fun j hj hja => ?_, fun k p hk => ((hp.map Prod.fst).mem_iff).2 ?_⟩
  · rw [List.length_set] at hj
    by_cases hji : j = i
    · rw [hji, g_same h.lt, upd_same]
    · rw [g_other h.lt _ hji]
      rw [upd_other]
      · exact h.at_ j hj hji
      · intro e
        refine hja (nodup_g hn (by rw [List.length_set]; exact hj) (by rw [List.length_set]; exact ha) ?_)
        rw [g_other h.lt _ hji, g_other h.lt _ hne]
        exact e
  · by_cases hk2 : k = (g H a).1
    · rw [hk2]
      refine List.mem_map.2 ⟨g H a, ?_, rfl⟩
      rw [← g_other h.lt x hne]
      exact g_mem (by rw [List.length_set]; exact ha)
    · rw [upd_other _ _ hk2] at hk
      exact h.only k p hk
theorem Told.fill {f : Int → Option Nat} {H : List It} {i : Nat} {x : It} (h : Told f H i x) : Tells (upd f x.1 i) (H.set i x) := by
  refine ⟨h.nodup, fun j hj => ?_, fun k p hk => ?_⟩
  · rw [List.length_set] at hj
    by_cases hji : j = i
    · rw [hji, g_same h.lt, upd_same]
    · rw [upd_other]
      · rw [g_other h.lt _ hji]
        exact h.at_ j hj hji
      · intro e
        refine hji (nodup_g h.nodup (by rw [List.length_set]; exact hj) (by rw [List.length_set]; exact h.lt) ?_)
        rw [e, g_same h.lt]
  · by_cases hk2 : k = x.1
    · rw [hk2]
      refine List.mem_map.2 ⟨x, ?_, rfl⟩
      have := g_mem (H := H.set i x) (j := i) (by rw [List.length_set]; exact h.lt)
      rwa [g_same h.lt] at this
    · rw [upd_other _ _ hk2] at hk
      exact h.only k p hk
/-- A place that is told is that of the thing. -/
theorem Tells.place {f : Int → Option Nat} {H : List It} (h : Tells f H) {k : Int} {p : Nat} (hk : f k = some p) : p < H.length ∧ (g H p).1 = k := by
  obtain ⟨y, hy, hyk⟩ := List.mem_map.1 (h.only k p hk)
  obtain ⟨j, hj, rfl⟩ := mem_g hy
  have := h.at_ j hj
  rw [hyk, hk] at this
  obtain rfl := Option.some.inj this
  exact ⟨hj, hyk⟩
theorem Tells.none {f : Int → Option Nat} {H : List It} (h : Tells f H) {k : Int} (hk : f k = none) : ∀ y ∈ H, y.1 ≠ k := by
  intro y hy e
  obtain ⟨j, hj, rfl⟩ := mem_g hy
  have := h.at_ j hj
  rw [e, hk] at this
  cases this
/-- A thing is set anew: its place is the hole. -/
theorem Tells.told {f : Int → Option Nat} {H : List It} (h : Tells f H) {i : Nat} (hi : i < H.length) {x : It} (hx : x.1 = (g H i).1) : Told f H i x := by
  have e : (H.set i x).map Prod.fst = H.map Prod.fst := by
    rw [List.map_set, hx]
    apply List.ext_getElem?
    intro j
    rw [List.getElem?_set]
    by_cases hij : i = j
    · subst hij
      simp [hi, g_get hi]
    · rw [if_neg hij]
  exact ⟨hi, by rw [e]; exact h.nodup, fun j hj _ => h.at_ j hj, fun k p hk => by rw [e]; exact h.only k p hk⟩
/-- One more, behind. -/
theorem Tells.more {f : Int → Option Nat} {H : List It} (h : Tells f H) {x : It} (hx : f x.1 = Option.none) : Told f (H ++ [x]) H.length x := by
  have e : (H ++ [x]).set H.length x = H ++ [x] := by
    rw [List.set_append_right _ _ (Nat.le_refl _)]
    simp
  have hnone := h.none hx
  refine ⟨by simp, ?_, fun j hj hji => ?_, fun k p hk => ?_⟩
  · rw [e, List.map_append, List.nodup_append]
    refine ⟨h.nodup, by simp, ?_⟩
    intro a ha b hb
    simp at hb
    subst hb
    obtain ⟨y, hy, rfl⟩ := List.mem_map.1 ha
    exact hnone y hy
  · have hj' : j < H.length := by simp at hj; omega
    have e2 : g (H ++ [x]) j = g H j := by
      unfold g
      rw [List.getD_eq_getElem?_getD, List.getD_eq_getElem?_getD, List.getElem?_append_left hj']
    rw [e2]
    exact h.at_ j hj'
  · rw [e, List.map_append]
    exact List.mem_append_left _ (h.only k p hk)
end Go.Proofs.YtdjieapobodakaaGreatDoor.Tim
end

section
namespace Go.Proofs.YtdjieapobodakaaGreatDoor.Tim
open Go Go.RowKit Go.Maps
set_option maxRecDepth 100000

/-- A thing's two cells; those of a list, one behind the other. -/
def cells2 (x : It) : List Value := [.int .i64 x.1, .int .i64 x.2]
def flat (H : List It) : List Value := H.flatMap cells2
theorem flat_append (H T : List It) : flat (H ++ T) = flat H ++ flat T := by simp [flat]
theorem flat_one (x : It) : flat [x] = [.int .i64 x.1, .int .i64 x.2] := by simp [flat, cells2]
theorem flat_len (H : List It) : (flat H).length = H.length * 2 := by
  induction H with
  | nil => rfl
  | cons x r ih =>
    show (cells2 x ++ flat r).length = _
    rw [List.length_append, ih]
    show 2 + r.length * 2 = _
    simp; omega
theorem flat_at : ∀ {H : List It} {j : Nat}, j < H.length → (flat H)[j * 2]? = some (.int .i64 (g H j).1) ∧ (flat H)[j * 2 + 1]? = some (.int .i64 (g H j).2)
  | x :: r, 0, _ => ⟨rfl, rfl⟩
  | x :: r, j + 1, h => by
    obtain ⟨h1, h2⟩ := flat_at (H := r) (j := j) (by simpa using h)
    have e : flat (x :: r) = cells2 x ++ flat r := rfl
    have e2 : (cells2 x).length = 2 := rfl
    rw [e, List.getElem?_append_right (by omega), List.getElem?_append_right (by omega), e2, show (j + 1) * 2 - 2 = j * 2 by omega, show (j + 1) * 2 + 1 - 2 = j * 2 + 1 by omega]
    exact ⟨h1, h2⟩
theorem flat_set : ∀ (H : List It) (j : Nat) (y : It), flat (H.set j y) = ((flat H).set (j * 2) (.int .i64 y.1)).set (j * 2 + 1) (.int .i64 y.2)
  | [], _, _ => rfl
  | x :: r, 0, y => rfl
  | x :: r, j + 1, y => by
    have e : flat ((x :: r).set (j + 1) y) = cells2 x ++ flat (r.set j y) := rfl
    have e1 : flat (x :: r) = cells2 x ++ flat r := rfl
    have e2 : (cells2 x).length = 2 := rfl
    rw [e, e1, flat_set r j y, List.set_append_right _ _ (by omega), List.set_append_right _ _ (by omega), e2, show (j + 1) * 2 - 2 = j * 2 by omega, show (j + 1) * 2 + 1 - 2 = j * 2 + 1 by omega]

theorem keyed_int : Keyed Tryz.prog 3 := int_keyed Tryz.underlying3
theorem zero_int (w : World) : (zeroValue 3).run Tryz.prog w = .ok (.int .i64 0) w := by kernel_rfl
def wfk (k : Int) : Prop := -9223372036854775808 ≤ k ∧ k ≤ 9223372036854775807
theorem wfk_wf {k : Int} (h : wfk k) : (Lit.int .i64 k).wf = true := by
  unfold wfk at h
  exact WalkArith.wf_i64 (by omega)
/-- Memory holds where things stand. -/
def Places (w : World) (m : Nat) (f : Int → Option Nat) (N : Nat) : Prop :=
  ∃ D : DataW Unit, w.ownsMap Tryz.prog 3 (plainElem Tryz.prog 3) m N D ∧ Maps.size D = N ∧
    ∀ k, Maps.has D (.int .i64 k) = (f k).isSome ∧ ∀ p, f k = some p → D.atKey (.int .i64 k) (.lit (.int .i64 0)) = .lit (.int .i64 p)
/-- The number that a look-up gives. -/
def plc (f : Int → Option Nat) (k : Int) : Nat := (f k).getD 0
section
variable {w w' : World} {m N : Nat} {f : Int → Option Nat}
theorem Places.lt (h : Places w m f N) : m < w.heap.size := by
  obtain ⟨D, h1, _⟩ := h
  exact h1.lt
theorem Places.blk (h : Places w m f N) : ∃ es c, w.heap[m]? = some (.map es c) := by
  obtain ⟨D, ⟨es, c, hb, _⟩, _⟩ := h
  exact ⟨es, c, hb⟩
theorem Places.keep {Φ : Nat → Prop} (h : Places w m f N) (hc : Chg Φ w w') (hn : ¬ Φ m) : Places w' m f N := by
  obtain ⟨D, ⟨es, clock, hb, r⟩, h2⟩ := h
  exact ⟨D, ⟨es, clock, hc.heap hb hn, r⟩, h2⟩
theorem Places.made (w : World) : Places (w.alloc (.map #[] 0)) w.heap.size (fun _ => none) 0 :=
  ⟨.map [], World.ownsMap_made w _ _ _, rfl, fun k => ⟨rfl, fun p h => by cases h⟩⟩
theorem Places.look (h : Places w m f N) {k : Int} (hk : wfk k) :
    (Instr.lookup 68 (.map (some m)) (.int .i64 k) true).run Tryz.prog w = .ok (.tuple #[.int .i64 (plc f k), .bool (f k).isSome]) w := by
  obtain ⟨D, h1, _, h2⟩ := h
  obtain ⟨v, ps, hrun, hv⟩ := World.ownsMap.look_ok h1 keyed_int Tryz.underlying68 (zero_int w) (zd := .lit (.int .i64 0)) (zp := []) (plainElem_int Tryz.underlying3 rfl) (keyOf_int_mk Tryz.underlying3 (wfk_wf hk))
  obtain ⟨c, rfl, hc, _⟩ := plainElem_int_inv Tryz.underlying3 hv
  rw [hrun, (h2 k).1]
  congr 3
  have hc' : D.atKey (.int .i64 k) (.lit (.int .i64 0)) = .lit (.int .i64 c) := congrArg Prod.fst hc
  unfold plc
  cases hf : f k with
  | none =>
    have hh : Maps.has D (.int .i64 k) = false := by rw [(h2 k).1, hf]; rfl
    rw [atKey_of_not_has hh] at hc'
    simp at hc'
    rw [← hc']
    rfl
  | some p =>
    rw [(h2 k).2 p hf] at hc'
    simp at hc'
    rw [← hc']
    rfl
theorem Places.put (h : Places w m f N) (hN : N < 4000000) {k : Int} (hk : wfk k) {p : Nat} (hp : p < 4000000) :
    ∃ w', (Instr.mapUpdate 68 (.map (some m)) (.int .i64 k) (.int .i64 p)).run Tryz.prog w = .ok () w' ∧ Places w' m (upd f k p) (if (f k).isSome then N else N + 1) ∧ Chg (fun i => i = m) w w' := by
  obtain ⟨D, h1, h3, h2⟩ := h
  have hT := h1.tidy keyed_int
  have hkey := keyOf_int_mk Tryz.underlying3 (wfk_wf hk)
  obtain ⟨w', hrun, r1, r2⟩ := World.ownsMap.store h1 keyed_int Tryz.underlying68 (by unfold maxLen; omega) hkey (plainElem_int Tryz.underlying3 (WalkArith.wf_i64 (by omega : -9223372036854775808 ≤ (p : Int) ∧ (p : Int) ≤ 9223372036854775807)))
  refine ⟨w', hrun, ⟨D.put (.int .i64 k) (.lit (.int .i64 p)), ?_, ?_, fun k' => ?_⟩, Chg.of_turned r2⟩
  · have := ownsMap_tight r1
    rw [size_put hT, (h2 k).1, h3] at this
    exact this
  · rw [size_put hT, (h2 k).1, h3]
  · by_cases hkk : k' = k
    · subst hkk
      refine ⟨?_, fun q hq => ?_⟩
      · rw [has_put_same hT.isMap (keyed_int.key hkey), upd_same]
        rfl
      · rw [upd_same] at hq
        obtain rfl := Option.some.inj hq
        exact atKey_put_same hT.isMap (keyed_int.key hkey) _ _
    · have hne : Lit.int .i64 k' ≠ Lit.int .i64 k := fun e => hkk (by simpa using e)
      rw [has_put_other hne, atKey_put_other hne, upd_other _ _ hkk]
      exact h2 k'
theorem Places.drop (h : Places w m f N) {k : Int} (hk : wfk k) (hf : (f k).isSome = true) (ty : TypeId) :
    ∃ w', (Builtin.delete_ #[68, 3] ty #[.map (some m), .int .i64 k]).run Tryz.prog w = .ok (.tuple #[]) w' ∧ Places w' m (del f k) (N - 1) ∧ 0 < N ∧ Chg (fun i => i = m) w w' := by
  obtain ⟨D, h1, h3, h2⟩ := h
  have hT := h1.tidy keyed_int
  have hkey := keyOf_int_mk Tryz.underlying3 (wfk_wf hk)
  obtain ⟨w', hrun, r1, r2⟩ := World.ownsMap.drop h1 keyed_int Tryz.underlying68 hkey ty
  have hs := size_del (k := Lit.int .i64 k) hT
  rw [(h2 k).1, hf, if_pos rfl, h3] at hs
  refine ⟨w', hrun, ⟨D.del (.int .i64 k), ?_, by omega, fun k' => ?_⟩, by omega, Chg.of_turned r2⟩
  · have := ownsMap_tight r1
    rwa [show Maps.size (D.del (.int .i64 k)) = N - 1 by omega] at this
  · by_cases hkk : k' = k
    · subst hkk
      refine ⟨?_, fun q hq => ?_⟩
      · rw [has_del_same]
        simp [del]
      · simp [del] at hq
    · have hne : Lit.int .i64 k' ≠ Lit.int .i64 k := fun e => hkk (by simpa using e)
      rw [has_del_other hne, atKey_del_other hne]
      have : del f k k' = f k' := by simp [del, hkk]
      rw [this]
      exact h2 k'
end

/-- Memory holds a timer that has things: its block, its row's, its map's. -/
structure Held (w : World) (t m rb cap : Nat) (H : List It) (f : Int → Option Nat) (N : Nat) : Prop where
  blk : w.heap[t]? = some (.cells #[.slice (some ⟨rb, 0, none⟩) H.length cap, .map (some m)] 132 (0, 0))
  row : w.ownsRow 0 130 2 (.slice (some ⟨rb, 0, none⟩) H.length cap) H.length (flat H)
  map : Places w m f N
def foot (m rb : Nat) (k : Nat) : Prop := k = m ∨ k = rb
section
variable {w w' : World} {t m rb cap N : Nat} {H : List It} {f : Int → Option Nat}
theorem Held.rowb (h : Held w t m rb cap H f N) : ∃ cur, w.heap[rb]? = some (.cells cur 130 (0, 0)) ∧ H.length ≤ cap ∧ cap ≤ maxLen := by
  rcases h.row.2 with ⟨e1, _⟩ | ⟨g, cap, cur, e1, _, hg, h1, h2, _⟩
  · cases e1
  · cases e1
    exact ⟨cur, hg, h1, h2⟩
theorem Held.t_m (h : Held w t m rb cap H f N) : t ≠ m := fun e => by
  obtain ⟨es, c, hb⟩ := h.map.blk
  rw [← e, h.blk] at hb
  cases hb
theorem Held.t_rb (h : Held w t m rb cap H f N) : t ≠ rb := fun e => by
  obtain ⟨cur, hb, _⟩ := h.rowb
  rw [← e, h.blk] at hb
  simp at hb
theorem Held.rb_m (h : Held w t m rb cap H f N) : rb ≠ m := fun e => by
  obtain ⟨es, c, hb⟩ := h.map.blk
  obtain ⟨cur, hb2, _⟩ := h.rowb
  rw [← e, hb2] at hb
  cases hb
theorem Held.cell (h : Held w t m rb cap H f N) {j : Nat} (hj : j < H.length) : w.cell? ⟨rb, j * 2, none⟩ = some (.int .i64 (g H j).1) ∧ w.cell? ⟨rb, j * 2 + 1, none⟩ = some (.int .i64 (g H j).2) := by
  obtain ⟨h1, h2⟩ := flat_at hj
  exact ⟨(h.row.cellAt (j * 2) (by omega)).trans h1, (h.row.cellAt (j * 2 + 1) (by omega)).trans h2⟩
theorem Held.keep {Φ : Nat → Prop} (h : Held w t m rb cap H f N) (hc : Chg Φ w w') (ht : ¬ Φ t) (hm : ¬ Φ m) (hr : ¬ Φ rb) : Held w' t m rb cap H f N :=
  ⟨hc.heap h.blk ht, hc.own h.row fun g hg => by simp [Value.ownBlock] at hg; rw [← hg]; exact hr, h.map.keep hc hm⟩
theorem Held.below (h : Held w t m rb cap H f N) (hc : Below w.heap.size w w') : Held w' t m rb cap H f N :=
  h.keep (Φ := fun _ => False) (Chg.of_below hc) id id id
theorem Held.stored (h : Held w t m rb cap H f N) (j : Nat) (y : It) :
    Held ((w.setCell ⟨rb, j * 2, none⟩ (.int .i64 y.1)).setCell ⟨rb, j * 2 + 1, none⟩ (.int .i64 y.2)) t m rb cap (H.set j y) f N ∧
      Chg (fun k => k = rb) w ((w.setCell ⟨rb, j * 2, none⟩ (.int .i64 y.1)).setCell ⟨rb, j * 2 + 1, none⟩ (.int .i64 y.2)) := by
  have h1 := h.row.stored (j * 2) (.int .i64 y.1)
  have h2 := h1.1.stored (j * 2 + 1) (.int .i64 y.2)
  rw [← flat_set] at h2
  have hc : Chg (fun k => k = rb) w ((w.setCell ⟨rb, j * 2, none⟩ (.int .i64 y.1)).setCell ⟨rb, j * 2 + 1, none⟩ (.int .i64 y.2)) := (Chg.set w rb _ _).trans (Chg.set _ rb _ _) fun _ _ e => e
  refine ⟨⟨?_, ?_, h.map.keep hc fun e => h.rb_m e.symm⟩, hc⟩
  · rw [List.length_set]
    exact hc.heap h.blk h.t_rb
  · rw [List.length_set]
    exact h2.1
end
end Go.Proofs.YtdjieapobodakaaGreatDoor.Tim
end

section
namespace Go.Proofs.YtdjieapobodakaaGreatDoor.Tim
open Go Go.RowKit Go.Maps
set_option maxRecDepth 100000

theorem two_cells' {w : World} {b : Nat} {x y : Value} {t : TypeId} (h : w.heap[b]? = some (.cells #[x, y] t (0, 0))) :
    w.cell? ⟨b, 0, none⟩ = some x ∧ w.cell? ⟨b, 1, none⟩ = some y := ⟨(two_cells h).1, (two_cells h).2.1⟩
theorem lt_of_block {w : World} {b : Nat} {o : Obj} (h : w.heap[b]? = some o) : b < w.heap.size := (Array.getElem?_eq_some_iff.1 h).1

def PutSaid (t m rb cap : Nat) (H : List It) (f : Int → Option Nat) (N : Nat) (w : World) (e : Ending) (w' : World) : Prop :=
  e = .returned (.tuple #[]) ∧ Held w' t m rb cap H f N ∧ Chg (foot m rb) w w'

set_option maxHeartbeats 800000 in
set_option maxRecDepth 100000 in
theorem put_any {w : World} {t m rb cap N : Nat} {H : List It} {f : Int → Option Nat} (h : Held w t m rb cap H f N) {j : Nat} (hj : j < H.length) (hl : H.length < 1000000) (hN : N < 1000000) (y : It) (hy : wfk y.1) {N' : Nat} (hN' : N' = if (f y.1).isSome then N else N + 1) :
    Calls Tryz.prog 106 #[.pointer (some ⟨t, 0, none⟩), .int .i64 j, .agg #[.int .i64 y.1, .int .i64 y.2]] w
      (PutSaid t m rb cap (H.set j y) (upd f y.1 j) N' w) := by
  obtain ⟨W, hW⟩ : ∃ W, W = w.alloc (.cells #[.int .i64 y.1, .int .i64 y.2] 130) := ⟨_, rfl⟩
  have hb : Below w.heap.size w W := by rw [hW]; exact (Below.refl _ _).alloc (Nat.le_refl _) _
  have hH := h.below hb
  have q0 : W.cell? ⟨w.heap.size, 0, none⟩ = some (.int .i64 y.1) := by rw [hW]; simp
  have q1 : W.cell? ⟨w.heap.size, 1, none⟩ = some (.int .i64 y.2) := by rw [hW]; simp
  obtain ⟨c0, c1⟩ := two_cells' hH.blk
  obtain ⟨r0, r1⟩ := hH.cell hj
  have f0 := hH.row.frozenAt (j * 2)
  have f1 := hH.row.frozenAt (j * 2 + 1)
  have hcap := hH.rowb
  obtain ⟨cur, _, hc1, hc2⟩ := hcap
  unfold maxLen at hc2
  have HW := Lib.hid hW
  obtain ⟨W2, hW2⟩ : ∃ W2, W2 = ((W.setCell ⟨rb, j * 2, none⟩ (.int .i64 y.1)).setCell ⟨rb, j * 2 + 1, none⟩ (.int .i64 y.2)).drew := ⟨_, rfl⟩
  have hst : Held W2 t m rb cap (H.set j y) f N ∧ Chg (fun k => k = rb) W W2 := by
    have h1 := hH.stored j y
    rw [hW2]
    exact ⟨h1.1.keep (Φ := fun _ => False) (Chg.drew _) id id id, h1.2.trans (Chg.drew (Φ := fun _ => False) _) fun _ _ e => e.elim⟩
  have hrb : rb < w.heap.size := by
    rcases Nat.lt_or_ge rb w.heap.size with e | e
    · exact e
    · have := h.row.lt rb rfl
      omega
  have p0 : W2.cell? ⟨w.heap.size, 0, none⟩ = some (.int .i64 y.1) := (hst.2.cell (p := ⟨w.heap.size, 0, none⟩) (by rw [hW]; simp) (fun e => by have e2 : w.heap.size = rb := e; omega)).trans q0
  obtain ⟨d0, d1⟩ := two_cells' hst.1.blk
  have HE : Hid (∃ w3, (Instr.mapUpdate 68 (.map (some m)) (.int .i64 y.1) (.int .i64 j)).run Tryz.prog (W2.drew) = .ok () w3 ∧
      PutSaid t m rb cap (H.set j y) (upd f y.1 j) N' w (.returned (.tuple #[])) w3) := Lib.hid (by
    have h2 := hst.1.keep (Φ := fun _ => False) (Chg.drew _) id id id
    obtain ⟨w3, hr, h3, h4⟩ := h2.map.put (by omega) hy (p := j) (by omega)
    refine ⟨w3, hr, rfl, ⟨h4.heap h2.blk h2.t_m, h4.own h2.row (fun g hg => by simp [Value.ownBlock] at hg; rw [← hg]; exact h2.rb_m), by rw [hN']; exact h3⟩, ?_⟩
    have e1 : Chg (foot m rb) w W := Chg.of_below hb
    have e3 := e1.trans hst.2 fun _ _ e => .inr e
    have e4 := e3.trans (Chg.drew (Φ := fun _ => False) _) fun _ _ e => e.elim
    exact e4.trans h4 fun _ _ e => .inl e)
  obtain ⟨w3, hr, hE⟩ := HE.out
  have HX := Lib.hid hE
  have HW := Lib.hid hW
  have HW2 := Lib.hid hW2
  clear h hW hst hW2 hE HE
  go_enter Tryz.func106, Tryz.ntmps106
  go_wp2_with fail
  rw [← HW.out]
  go_still_tail 7, (by kernel_rfl)
  change wpList _ _ _ _ _ W.drew
  go_wp2_with fail
  rw [← HW2.out]
  go_still_tail 7, (by kernel_rfl)
  change wpList _ _ _ _ _ W2.drew
  go_wp2_with fail
  go_end0
  exact HX.out
end Go.Proofs.YtdjieapobodakaaGreatDoor.Tim
end
