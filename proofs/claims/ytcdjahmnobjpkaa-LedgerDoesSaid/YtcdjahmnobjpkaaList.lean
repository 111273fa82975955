/- What is proved here: plain facts on lists that rise by a name: one more, one less, one in another one's place, and when two of them are the same. -/
import Derived.WideAt
import Derived.WideShapes
import Derived.Sort.KeysCollected
namespace Go.Proofs.Ytcdjahmnobjpkaa
open Go

section
variable {α β : Type} (nm : α → List UInt8)

/-- One more, in its place by its name. -/
def insN (x : α) : List α → List α
  | [] => [x]
  | y :: r => if bytesBefore (nm x) (nm y) then x :: y :: r else y :: insN x r
/-- All but those of a name. -/
def delN (k : List UInt8) (l : List α) : List α := l.filter fun y => !(nm y == k)
/-- One in the place of those of its name. -/
def putN (x : α) (l : List α) : List α := insN nm x (delN nm (nm x) l)
def Rising (l : List α) : Prop := l.Pairwise fun x y => bytesBefore (nm x) (nm y) = true

variable {nm}
theorem mem_insN {x y : α} : ∀ {l : List α}, y ∈ insN nm x l ↔ y = x ∨ y ∈ l
  | [] => by simp [insN]
  | z :: r => by
    unfold insN
    split
    · simp
    · simp only [List.mem_cons, mem_insN (l := r)]
      constructor
      · rintro (h | h | h)
        · exact .inr (.inl h)
        · exact .inl h
        · exact .inr (.inr h)
      · rintro (h | h | h)
        · exact .inr (.inl h)
        · exact .inl h
        · exact .inr (.inr h)
theorem mem_delN {k : List UInt8} {y : α} {l : List α} : y ∈ delN nm k l ↔ y ∈ l ∧ nm y ≠ k := by
  unfold delN
  simp [List.mem_filter]
theorem mem_putN {x y : α} {l : List α} : y ∈ putN nm x l ↔ y = x ∨ (y ∈ l ∧ nm y ≠ nm x) := by
  unfold putN
  rw [mem_insN, mem_delN]
theorem length_insN (x : α) : ∀ l : List α, (insN nm x l).length = l.length + 1
  | [] => rfl
  | z :: r => by
    unfold insN
    split
    · rfl
    · simp [length_insN x r]
theorem length_delN (k : List UInt8) (l : List α) : (delN nm k l).length ≤ l.length := List.length_filter_le _ _
theorem length_putN (x : α) (l : List α) : (putN nm x l).length ≤ l.length + 1 := by
  unfold putN
  rw [length_insN]
  have := length_delN (nm := nm) (nm x) l
  omega
theorem perm_insN (x : α) : ∀ l : List α, (insN nm x l).Perm (x :: l)
  | [] => List.Perm.refl _
  | z :: r => by
    unfold insN
    split
    · exact List.Perm.refl _
    · exact ((perm_insN x r).cons z).trans (List.Perm.swap x z r)
theorem map_insN {g : α → β} {nm' : β → List UInt8} (hg : ∀ x, nm' (g x) = nm x) (x : α) : ∀ l : List α, (insN nm x l).map g = insN nm' (g x) (l.map g)
  | [] => rfl
  | z :: r => by
    unfold insN
    simp only [List.map_cons, hg]
    split
    · simp
    · simp [map_insN hg x r]
theorem map_delN {g : α → β} {nm' : β → List UInt8} (hg : ∀ x, nm' (g x) = nm x) (k : List UInt8) (l : List α) : (delN nm k l).map g = delN nm' k (l.map g) := by
  unfold delN
  rw [List.filter_map]
  congr 1
  apply List.filter_congr
  intro x _
  simp [hg]
theorem map_putN {g : α → β} {nm' : β → List UInt8} (hg : ∀ x, nm' (g x) = nm x) (x : α) (l : List α) : (putN nm x l).map g = putN nm' (g x) (l.map g) := by
  unfold putN
  rw [map_insN hg, map_delN hg, hg]

theorem Rising.irrefl {l : List α} (h : Rising nm l) {i j : Nat} {x y : α} (hi : l[i]? = some x) (hj : l[j]? = some y) (hn : nm x = nm y) : i = j := by
  have hlt : ∀ a b, a < b → ∀ u v, l[a]? = some u → l[b]? = some v → bytesBefore (nm u) (nm v) = true := fun a b hab u v hu hv => by
    have ha := (List.getElem?_eq_some_iff.1 hu)
    have hb := (List.getElem?_eq_some_iff.1 hv)
    obtain ⟨ha1, rfl⟩ := ha
    obtain ⟨hb1, rfl⟩ := hb
    exact List.pairwise_iff_getElem.1 h a b ha1 hb1 hab
  rcases Nat.lt_trichotomy i j with h1 | h1 | h1
  · have := hlt i j h1 x y hi hj
    rw [hn, WideAt.bytes_irrefl] at this
    cases this
  · exact h1
  · have := hlt j i h1 y x hj hi
    rw [hn, WideAt.bytes_irrefl] at this
    cases this
theorem Rising.one {l : List α} (h : Rising nm l) {x y : α} (hx : x ∈ l) (hy : y ∈ l) (hn : nm x = nm y) : x = y := by
  obtain ⟨i, hi⟩ := List.getElem?_of_mem hx
  obtain ⟨j, hj⟩ := List.getElem?_of_mem hy
  have := h.irrefl hi hj hn
  subst this
  rw [hi] at hj
  exact Option.some.inj hj
theorem Rising.insN {x : α} : ∀ {l : List α}, Rising nm l → (∀ y ∈ l, nm y ≠ nm x) → Rising nm (insN nm x l)
  | [], _, _ => by unfold Rising; simp [Go.Proofs.Ytcdjahmnobjpkaa.insN]
  | z :: r, h, hx => by
    obtain ⟨h1, h2⟩ := List.pairwise_cons.1 h
    unfold Go.Proofs.Ytcdjahmnobjpkaa.insN
    split
    · rename_i hb
      refine List.pairwise_cons.2 ⟨fun y hy => ?_, h⟩
      rcases List.mem_cons.1 hy with rfl | hy
      · exact hb
      · exact WideShapes.bytes_trans _ _ _ hb (h1 y hy)
    · rename_i hb
      refine List.pairwise_cons.2 ⟨fun y hy => ?_, Rising.insN h2 fun y hy => hx y (by simp [hy])⟩
      rcases mem_insN.1 hy with rfl | hy
      · rcases WideAt.bytes_total (nm y) (nm z) (fun e => hx z (by simp) e.symm) with h3 | h3
        · exact absurd h3 hb
        · exact h3
      · exact h1 y hy
theorem Rising.delN {l : List α} (h : Rising nm l) (k : List UInt8) : Rising nm (delN nm k l) := List.Pairwise.filter _ h
theorem Rising.filter {l : List α} (h : Rising nm l) (p : α → Bool) : Rising nm (l.filter p) := List.Pairwise.filter _ h
theorem Rising.putN {l : List α} (h : Rising nm l) (x : α) : Rising nm (putN nm x l) :=
  (h.delN (nm x)).insN fun _ hy => (mem_delN.1 hy).2
theorem Rising.map {g : α → β} {nm' : β → List UInt8} (hg : ∀ x, nm' (g x) = nm x) {l : List α} (h : Rising nm l) : Rising nm' (l.map g) :=
  List.pairwise_map.2 (h.imp fun {a b} hab => by rw [hg, hg]; exact hab)
theorem Rising.of_map {g : α → β} {nm' : β → List UInt8} (hg : ∀ x, nm' (g x) = nm x) {l : List α} (h : Rising nm' (l.map g)) : Rising nm l :=
  (List.pairwise_map.1 h).imp fun {a b} hab => by rw [hg, hg] at hab; exact hab

/-- Two rising lists with the same members are one. -/
theorem Rising.ext : ∀ {l m : List α}, Rising nm l → Rising nm m → (∀ x, x ∈ l ↔ x ∈ m) → l = m
  | [], [], _, _, _ => rfl
  | [], b :: s, _, _, h => by have := (h b).2 (by simp); simp at this
  | a :: r, [], _, _, h => by have := (h a).1 (by simp); simp at this
  | a :: r, b :: s, h1, h2, h => by
    obtain ⟨a1, a2⟩ := List.pairwise_cons.1 h1
    obtain ⟨b1, b2⟩ := List.pairwise_cons.1 h2
    have irr : ∀ {x y : α}, bytesBefore (nm x) (nm y) = true → x ≠ y := fun {x y} hb e => by
      rw [e, WideAt.bytes_irrefl] at hb
      cases hb
    have hab : a = b := by
      rcases List.mem_cons.1 ((h a).1 (by simp)) with e | ha
      · exact e
      · rcases List.mem_cons.1 ((h b).2 (by simp)) with e | hb
        · exact e.symm
        · exact absurd rfl (irr (WideShapes.bytes_trans _ _ _ (b1 a ha) (a1 b hb)))
    subst hab
    rw [Rising.ext a2 b2 fun p => ⟨fun hp => by
      rcases List.mem_cons.1 ((h p).1 (by simp [hp])) with e | hp'
      · exact absurd e.symm (irr (a1 p hp))
      · exact hp', fun hp => by
      rcases List.mem_cons.1 ((h p).2 (by simp [hp])) with e | hp'
      · exact absurd e.symm (irr (b1 p hp))
      · exact hp'⟩]
/-- One in the place of the one of its name: all others stay where they are. -/
theorem putN_replace {l : List α} (h : Rising nm l) {x y : α} (hy : y ∈ l) (hn : nm y = nm x) : putN nm x l = l.map fun z => if nm z == nm x then x else z := by
  refine Rising.ext (h.putN x) ?_ fun z => ?_
  · refine List.pairwise_map.2 (h.imp fun {a b} hab => ?_)
    have e : ∀ c : α, nm (if nm c == nm x then x else c) = nm c := fun c => by
      split
      · rename_i hc; exact (beq_iff_eq.1 hc).symm
      · rfl
    rw [e, e]
    exact hab
  · rw [mem_putN, List.mem_map]
    constructor
    · rintro (rfl | ⟨hz, hne⟩)
      · exact ⟨y, hy, by rw [if_pos (by simp [hn])]⟩
      · exact ⟨z, hz, by rw [if_neg (by simp [hne])]⟩
    · rintro ⟨c, hc, rfl⟩
      by_cases hcx : nm c = nm x
      · rw [if_pos (by simp [hcx])]
        exact .inl rfl
      · rw [if_neg (by simp [hcx])]
        exact .inr ⟨hc, hcx⟩
theorem delN_none {l : List α} {k : List UInt8} (h : ∀ y ∈ l, nm y ≠ k) : delN nm k l = l := by
  unfold delN
  rw [List.filter_eq_self]
  intro y hy
  simp [h y hy]
end

/-- The order in which the library sorts texts. -/
theorem before_le : ∀ {a b : List UInt8}, bytesBefore a b = true → a ≤ b
  | [], [], h => by simp [bytesBefore] at h
  | [], _ :: _, _ => List.nil_le _
  | _ :: _, [], h => by simp [bytesBefore] at h
  | x :: r, y :: s, h => by
    simp only [bytesBefore, Bool.or_eq_true, Bool.and_eq_true, decide_eq_true_eq, beq_iff_eq] at h
    rcases h with h | ⟨rfl, h⟩
    · exact List.le_of_lt (List.Lex.rel h)
    · have := before_le h
      rw [← List.not_lt] at this ⊢
      intro hc
      cases hc with
      | rel h1 => simp at h1
      | cons h1 => exact this h1
theorem sorted_names {ss l : List (List UInt8)} (hp : ss.Perm l) (h : Rising id l) : ss.mergeSort (fun x y => decide (x ≤ y)) = l := by
  have e := mergeSort_of_perm hp
  have e2 : l.mergeSort leB = l := List.mergeSort_of_pairwise (h.imp fun {a b} hab => by simpa [leB] using before_le hab)
  exact (show ss.mergeSort leB = l by rw [e, e2])

end Go.Proofs.Ytcdjahmnobjpkaa
