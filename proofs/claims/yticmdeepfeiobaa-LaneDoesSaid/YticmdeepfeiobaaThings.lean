/- What is proved here: plain facts on things in groups. -/
import Derived.Test.YticmdeepfeiobaaBase
namespace Go.Proofs.Yticmdeepfeiobaa
open Go

/-- A thing: its group, its number, its turn. -/
structure Th where
  g : ByteArray
  id : Int
  tn : Nat
def ids (L : List Th) : List Int := L.map Th.id
def at_ (L : List Th) (k : Int) : Option Th := L.find? fun x => decide (x.id = k)
def ofG (L : List Th) (s : ByteArray) : List Int := (L.filter fun x => decide (x.g = s)).map Th.id
def dropT (L : List Th) (k : Int) : List Th := L.filter fun x => decide (x.id ≠ k)

theorem at_none {L : List Th} {k : Int} : at_ L k = none ↔ ∀ x ∈ L, x.id ≠ k := by simp [at_, List.find?_eq_none]
theorem at_some {L : List Th} {k : Int} {x : Th} (h : at_ L k = some x) : x ∈ L ∧ x.id = k := by
  have h1 := List.mem_of_find?_eq_some h
  have h2 := List.find?_some h
  exact ⟨h1, by simpa using h2⟩
theorem at_add_other (L : List Th) (x : Th) {k : Int} (h : k ≠ x.id) : at_ (L ++ [x]) k = at_ L k := by
  unfold at_
  rw [List.find?_append]
  have : [x].find? (fun x => decide (x.id = k)) = none := by simpa using fun e => h e.symm
  rw [this, Option.or_none]
theorem at_add_same {L : List Th} {x : Th} (h : at_ L x.id = none) : at_ (L ++ [x]) x.id = some x := by
  unfold at_ at h ⊢
  rw [List.find?_append, h]
  simp
theorem at_drop_same (L : List Th) (k : Int) : at_ (dropT L k) k = none := by
  rw [at_none]
  intro x hx
  simpa using (List.mem_filter.1 hx).2
theorem at_drop_other (L : List Th) {k j : Int} (h : j ≠ k) : at_ (dropT L k) j = at_ L j := by
  unfold at_ dropT
  induction L with
  | nil => rfl
  | cons x r ih =>
    by_cases hx : x.id = k
    · rw [List.filter_cons_of_neg (by simpa using hx), ih, List.find?_cons_of_neg (by simpa using fun e => h (e.symm.trans hx))]
    · rw [List.filter_cons_of_pos (by simpa using hx)]
      by_cases hj : x.id = j
      · rw [List.find?_cons_of_pos (by simpa using hj), List.find?_cons_of_pos (by simpa using hj)]
      · rw [List.find?_cons_of_neg (by simpa using hj), List.find?_cons_of_neg (by simpa using hj), ih]
theorem ofG_append (L M : List Th) (s : ByteArray) : ofG (L ++ M) s = ofG L s ++ ofG M s := by simp [ofG]
theorem ofG_add_same (L : List Th) (x : Th) : ofG (L ++ [x]) x.g = ofG L x.g ++ [x.id] := by simp [ofG]
theorem ofG_add_other (L : List Th) (x : Th) {s : ByteArray} (h : s ≠ x.g) : ofG (L ++ [x]) s = ofG L s := by
  have : ofG [x] s = [] := by simpa [ofG] using fun e => h e.symm
  rw [ofG_append, this, List.append_nil]
theorem ofG_drop (L : List Th) (k : Int) (s : ByteArray) : ofG (dropT L k) s = (ofG L s).filter fun i => decide (i ≠ k) := by
  unfold ofG dropT
  rw [List.filter_map, List.filter_filter, List.filter_filter]
  congr 1
  apply List.filter_congr
  intro x _
  simp [Bool.and_comm, Function.comp]
theorem mem_ofG {L : List Th} {s : ByteArray} {k : Int} (h : k ∈ ofG L s) : ∃ x ∈ L, x.g = s ∧ x.id = k := by
  obtain ⟨x, hx, rfl⟩ := List.mem_map.1 h
  have := List.mem_filter.1 hx
  exact ⟨x, this.1, by simpa using this.2, rfl⟩
theorem ofG_mem {L : List Th} {x : Th} (h : x ∈ L) : x.id ∈ ofG L x.g := List.mem_map_of_mem (List.mem_filter.2 ⟨h, by simp⟩)
theorem nodup_id {L : List Th} (h : (ids L).Nodup) {x y : Th} (hx : x ∈ L) (hy : y ∈ L) (e : x.id = y.id) : x = y := by
  unfold ids at h
  induction L with
  | nil => cases hx
  | cons z r ih =>
    rw [List.map_cons, List.nodup_cons] at h
    rcases List.mem_cons.1 hx with hx | hx <;> rcases List.mem_cons.1 hy with hy | hy
    · rw [hx, hy]
    · rw [hx] at e
      exact absurd (e ▸ List.mem_map_of_mem hy : z.id ∈ r.map Th.id) h.1
    · rw [hy] at e
      exact absurd (e ▸ List.mem_map_of_mem hx : z.id ∈ r.map Th.id) h.1
    · exact ih h.2 hx hy
/-- What goes is of one group: the others stay. -/
theorem ofG_drop_other {L : List Th} (h : (ids L).Nodup) {x : Th} (hx : x ∈ L) {s : ByteArray} (hs : s ≠ x.g) : ofG (dropT L x.id) s = ofG L s := by
  rw [ofG_drop]
  apply List.filter_eq_self.2
  intro k hk
  obtain ⟨y, hy, hg, rfl⟩ := mem_ofG hk
  simp only [decide_eq_true_eq]
  intro e
  obtain rfl := nodup_id h hy hx e
  exact hs hg.symm
theorem length_dropT {L : List Th} (h : (ids L).Nodup) {x : Th} (hx : x ∈ L) : (dropT L x.id).length + 1 = L.length := by
  unfold ids at h
  unfold dropT
  induction L with
  | nil => cases hx
  | cons z r ih =>
    rw [List.map_cons, List.nodup_cons] at h
    rcases List.mem_cons.1 hx with rfl | hx'
    · rw [List.filter_cons_of_neg (by simp)]
      have : r.filter (fun y => decide (y.id ≠ x.id)) = r := by
        apply List.filter_eq_self.2
        intro y hy
        simp only [decide_eq_true_eq]
        exact fun e => h.1 (e ▸ List.mem_map_of_mem hy)
      rw [this]
      rfl
    · have hne : z.id ≠ x.id := fun e => h.1 (e ▸ List.mem_map_of_mem hx')
      rw [List.filter_cons_of_pos (by simpa using hne), List.length_cons, List.length_cons, ih h.2 hx']
theorem dropT_none {L : List Th} {k : Int} (h : at_ L k = none) : dropT L k = L := by
  apply List.filter_eq_self.2
  intro y hy
  simpa using at_none.1 h y hy
theorem ofG_length (L : List Th) (s : ByteArray) : (ofG L s).length ≤ L.length := by
  unfold ofG
  rw [List.length_map]
  exact List.length_filter_le _ _

/-- The key of a text. -/
def strK (s : ByteArray) : Lit := .string s.data.toList
theorem strK_inj {s t : ByteArray} (h : strK s = strK t) : s = t := by
  unfold strK at h
  have h1 := Lit.string.inj h
  have h2 : s.data = t.data := by
    have := congrArg List.toArray h1
    simpa using this
  cases s; cases t; simp at h2; simp [h2]
theorem str_eq (a b : ByteArray) : (a.toList == b.toList) = decide (a = b) := by
  have e : ∀ x y : ByteArray, x.toList = y.toList ↔ x = y := fun x y => by
    rw [ByteArray.toList_eq, ByteArray.toList_eq]
    exact ⟨fun h => strK_inj (congrArg Lit.string h), fun h => by rw [h]⟩
  by_cases h : a = b
  · subst h; simp
  · rw [decide_eq_false h]
    exact beq_eq_false_iff_ne.2 fun h2 => h ((e a b).1 h2)
end Go.Proofs.Yticmdeepfeiobaa
