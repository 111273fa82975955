/- What is proved here: what it is that a slice of structs reads as a list, in blocks of which Ψ speaks; rows that are being made; rows that may begin anywhere in their block, and append to these. No program's function is named. -/
import Derived.Test.YtmmddkddjiodbaaChg
import Derived.ArgAppend
import Derived.Maps.AppendAt
import Derived.Lib.Hide
namespace Go.Proofs.Ytmmddkddjiodbaa
open Go Go.RowKit Go.Maps Go.WideMaps

/-! ### cells, s for each thing -/
section
variable {α : Type} {f : α → List Value} {s : Nat}
theorem fm_len (hs : ∀ x, (f x).length = s) : ∀ L : List α, (L.flatMap f).length = L.length * s
  | [] => by simp
  | x :: r => by
    rw [List.flatMap_cons, List.length_append, hs, fm_len hs r, List.length_cons, Nat.add_mul]
    omega
theorem fm_at (hs : ∀ x, (f x).length = s) : ∀ {L : List α} {j : Nat} {x : α}, L[j]? = some x → ∀ i u, (f x)[i]? = some u → (L.flatMap f)[j * s + i]? = some u
  | y :: r, 0, x, h, i, u, hu => by
    obtain rfl : y = x := by simpa using h
    have hi : i < (f y).length := (List.getElem?_eq_some_iff.1 hu).1
    rw [List.flatMap_cons, Nat.zero_mul, Nat.zero_add, List.getElem?_append_left hi]
    exact hu
  | y :: r, j + 1, x, h, i, u, hu => by
    have h2 := fm_at hs (L := r) (j := j) (x := x) (by simpa using h) i u hu
    rw [List.flatMap_cons, List.getElem?_append_right (by rw [hs, Nat.add_mul]; omega), hs, show (j + 1) * s + i - s = j * s + i by rw [Nat.add_mul]; omega]
    exact h2
theorem fm_take (hs : ∀ x, (f x).length = s) (L : List α) (n : Nat) : (L.take n).flatMap f = (L.flatMap f).take (n * s) := by
  induction L generalizing n with
  | nil => simp
  | cons y r ih =>
    cases n with
    | zero => simp
    | succ n =>
      rw [List.take_succ_cons, List.flatMap_cons, List.flatMap_cons, ih, show (n + 1) * s = (f y).length + n * s by rw [hs, Nat.add_mul]; omega, List.take_length_add_append]
theorem fm_drop (hs : ∀ x, (f x).length = s) (L : List α) (n : Nat) : (L.drop n).flatMap f = (L.flatMap f).drop (n * s) := by
  induction L generalizing n with
  | nil => simp
  | cons y r ih =>
    cases n with
    | zero => simp
    | succ n =>
      rw [List.drop_succ_cons, List.flatMap_cons, ih, show (n + 1) * s = (f y).length + n * s by rw [hs, Nat.add_mul]; omega, List.drop_length_add_append]

/-- A slice value that reads as a list of things. -/
structure SRd (f : α → List Value) (w : World) (Ψ : Nat → Prop) (A : Option Addr) (n c : Nat) (L : List α) : Prop where
  len : L.length = n
  cap : n ≤ c
  max : c ≤ maxLen
  nil : A = none → n = 0 ∧ c = 0
  news : ∀ ad, A = some ad → ∀ j u, (L.flatMap f)[j]? = some u → w.cell? (ad.add j) = some u
  place : ∀ ad, A = some ad → ∃ b o, ad = ⟨b, o, none⟩ ∧ b < w.heap.size ∧ Ψ b
variable {w w' : World} {Ψ Ψ' Φ : Nat → Prop} {A : Option Addr} {n c : Nat} {L : List α}
theorem SRd.caps (h : SRd f w Ψ A n c L) : n ≤ c ∧ c ≤ 9223372036854775807 := ⟨h.cap, by have := h.max; unfold maxLen at this; omega⟩
theorem SRd.keep (h : SRd f w Ψ A n c L) (hc : Chg Φ w w') (hs : ∀ k, Ψ k → ¬ Φ k) (hm : ∀ k, k < w.heap.size → Ψ k → Ψ' k) : SRd f w' Ψ' A n c L :=
  ⟨h.len, h.cap, h.max, h.nil, fun ad had j u hu => by
    obtain ⟨b, o, rfl, hb, hp⟩ := h.place ad had
    have h1 := h.news _ had j u hu
    rw [Addr.add_lit] at h1 ⊢
    exact (hc.cell (p := ⟨b, o + j, none⟩) hb (hs b hp)).trans h1, fun ad had => by
    obtain ⟨b, o, e, hb, hp⟩ := h.place ad had
    exact ⟨b, o, e, Nat.lt_of_lt_of_le hb hc.size, hm b hb hp⟩⟩
theorem SRd.below (h : SRd f w Ψ A n c L) (hb : Below w.heap.size w w') : SRd f w' Ψ A n c L := h.keep (Φ := fun _ => False) (Chg.of_below hb) (fun _ _ => id) fun _ _ hp => hp
theorem SRd.below' {B : Nat} (h : SRd f w (fun b => b < B) A n c L) (hb : Below B w w') : SRd f w' (fun b => b < B) A n c L :=
  h.keep (Φ := fun b => B ≤ b) ⟨hb.os, hb.tape, hb.output, hb.size, fun k _ hn => hb.block k (Nat.lt_of_not_le hn)⟩ (fun _ hp => Nat.not_le.2 hp) fun _ _ hp => hp
theorem SRd.mono (h : SRd f w Ψ A n c L) (hm : ∀ k, k < w.heap.size → Ψ k → Ψ' k) : SRd f w Ψ' A n c L := h.keep (Chg.refl (fun _ => False) w) (fun _ _ => id) hm
theorem SRd.none_ (f : α → List Value) (w : World) (Ψ : Nat → Prop) : SRd f w Ψ none 0 0 [] := ⟨rfl, Nat.le_refl _, Nat.zero_le _, fun _ => ⟨rfl, rfl⟩, (fun ad h => by cases h), fun ad h => by cases h⟩
theorem SRd.own {base e : Nat} (h : w.ownsRow base e s (.slice A n c) n (L.flatMap f)) (hl : L.length = n) (hΨ : ∀ k, base ≤ k → k < w.heap.size → Ψ k) : SRd f w Ψ A n c L := by
  rcases h.2 with ⟨e, h0⟩ | ⟨g, cap, cur, e, hb, hg, hnc, hcm, _⟩
  · cases e
    obtain rfl : L = [] := List.eq_nil_of_length_eq_zero hl
    exact SRd.none_ _ _ _
  · cases e
    refine ⟨hl, hnc, hcm, (fun e => by cases e), fun ad had j u hu => ?_, fun ad had => ?_⟩
    · obtain rfl := Option.some.inj had
      exact h.cells (g := g) rfl j u hu
    · obtain rfl := Option.some.inj had
      have := (Array.getElem?_eq_some_iff.1 hg).1
      exact ⟨g, 0, rfl, this, hΨ g hb this⟩
theorem SRd.cell (hs : ∀ x, (f x).length = s) (h : SRd f w Ψ A n c L) {j : Nat} {x : α} (hx : L[j]? = some x) : ∃ b o, A = some ⟨b, o, none⟩ ∧ b < w.heap.size ∧ Ψ b ∧ ∀ i u, (f x)[i]? = some u → w.cell? ⟨b, o + (j * s + i), none⟩ = some u := by
  have hj := (List.getElem?_eq_some_iff.1 hx).1
  have hl := h.len
  cases hA : A with
  | none => have := (h.nil hA).1; omega
  | some ad =>
    obtain ⟨b, o, rfl, hb, hp⟩ := h.place ad hA
    refine ⟨b, o, rfl, hb, hp, fun i u hu => ?_⟩
    have := h.news _ hA _ u (fm_at hs hx i u hu)
    rwa [Addr.add_lit] at this
theorem SRd.len_news (hs : ∀ x, (f x).length = s) (h : SRd f w Ψ A n c L) : (L.flatMap f).length = n * s := by rw [fm_len hs, h.len]
theorem SRd.take (hs : ∀ x, (f x).length = s) (h : SRd f w Ψ A n c L) {m : Nat} (hm : m ≤ n) : SRd f w Ψ A m c (L.take m) :=
  ⟨by rw [List.length_take, h.len]; omega, Nat.le_trans hm h.cap, h.max, fun e => by have := h.nil e; omega, fun ad had j u hu => h.news ad had j u (by
    rw [fm_take hs, List.getElem?_take] at hu
    split at hu
    · exact hu
    · cases hu), h.place⟩
/-- s[m:] -/
theorem SRd.drop (hs : ∀ x, (f x).length = s) {b o : Nat} (h : SRd f w Ψ (some ⟨b, o, none⟩) n c L) {m : Nat} (hm : m ≤ n) : SRd f w Ψ (if c = m then some ⟨b, o, none⟩ else some ⟨b, o + m * s, none⟩) (n - m) (c - m) (L.drop m) := by
  have he : (if c = m then some (⟨b, o, none⟩ : Addr) else some ⟨b, o + m * s, none⟩) = some (if c = m then ⟨b, o, none⟩ else ⟨b, o + m * s, none⟩) := by split <;> rfl
  rw [he]
  have h1 := h.cap
  have h2 := h.max
  obtain ⟨b', o', e, hb, hp⟩ := h.place _ rfl
  obtain ⟨rfl, rfl⟩ : b = b' ∧ o = o' := by simpa using e
  refine ⟨by rw [List.length_drop, h.len], by omega, by omega, (fun e => by cases e), fun ad had j u hu => ?_, fun ad had => ?_⟩
  · obtain rfl := Option.some.inj had
    by_cases hc : c = m
    · have : L.drop m = [] := List.drop_eq_nil_of_le (by rw [h.len]; omega)
      rw [this] at hu
      simp at hu
    · rw [if_neg hc]
      rw [fm_drop hs, List.getElem?_drop] at hu
      have := h.news _ rfl _ u hu
      rw [Addr.add_lit] at this ⊢
      rw [show o + m * s + j = o + (m * s + j) by omega]
      exact this
  · obtain rfl := Option.some.inj had
    by_cases hc : c = m
    · rw [if_pos hc]; exact ⟨b, o, rfl, hb, hp⟩
    · rw [if_neg hc]; exact ⟨b, _, rfl, hb, hp⟩

/-! ### a row that is being made -/
structure Mk (f : α → List Value) (s e : Nat) (w0 : World) (L : List α) (A : Option Addr) (n c : Nat) (w : World) : Prop where
  row : w.ownsRow w0.heap.size e s (.slice A n c) n (L.flatMap f)
  len : L.length = n
  bel : Below w0.heap.size w0 w
variable {e : Nat} {w0 : World}
theorem Mk.start (f : α → List Value) (s e : Nat) {w0 w : World} (hb : Below w0.heap.size w0 w) : Mk f s e w0 [] none 0 0 w := ⟨World.ownsRow_nil _ _ _ _, rfl, hb⟩
theorem Mk.size (h : Mk f s e w0 L A n c w) : w0.heap.size ≤ w.heap.size := h.bel.size
theorem Mk.later (h : Mk f s e w0 L A n c w) (hb : Below w.heap.size w w') : Mk f s e w0 L A n c w' := ⟨own_below h.row hb, h.len, h.bel.trans (hb.mono h.bel.size)⟩
theorem slice_of {base e size n : Nat} {v : Value} {xs : List Value} (h : w.ownsRow base e size v n xs) : ∃ A c, v = .slice A n c := by
  rcases h.2 with ⟨rfl, h0⟩ | ⟨g, cap, _, rfl, _⟩
  · exact ⟨none, 0, by rw [h0]⟩
  · exact ⟨_, _, rfl⟩
/-- What is appended, laid at a block of its own first. -/
theorem Mk.app (h : Mk f s e w0 L A n c w) (x : α) {o : Obj} {v2 : Value} {w2 : World} {m : Nat} (hm : m = n + 1) (ho : w2.ownsRow w0.heap.size e s v2 m (L.flatMap f ++ f x)) (hg : (w.alloc o).grownBy w2 (Value.slice A n c).ownBlock) :
    ∃ A2 c2, v2 = .slice A2 (n + 1) c2 ∧ Hid (Mk f s e w0 (L ++ [x]) A2 (n + 1) c2 w2) := by
  subst hm
  obtain ⟨A2, c2, rfl⟩ := slice_of ho
  refine ⟨A2, c2, rfl, Lib.hid ⟨?_, by rw [List.length_append, h.len]; rfl, (h.bel.alloc h.bel.size _).grown hg (by simp; have := h.bel.size; omega) fun j hj => (h.row.lt j hj).1⟩⟩
  rw [List.flatMap_append, List.flatMap_singleton]
  exact ho
/-- .. or many at once, that lie somewhere. -/
theorem Mk.apps (h : Mk f s e w0 L A n c w) {M : List α} {v2 : Value} {w2 : World} {m : Nat} (hm : M.length = m) (ho : w2.ownsRow w0.heap.size e s v2 (n + m) (L.flatMap f ++ M.flatMap f)) (hg : w.grownBy w2 (Value.slice A n c).ownBlock) :
    ∃ A2 c2, v2 = .slice A2 (n + m) c2 ∧ Hid (Mk f s e w0 (L ++ M) A2 (n + m) c2 w2) := by
  obtain ⟨A2, c2, rfl⟩ := slice_of ho
  refine ⟨A2, c2, rfl, Lib.hid ⟨?_, by rw [List.length_append, h.len, hm], h.bel.grown hg h.bel.size fun j hj => (h.row.lt j hj).1⟩⟩
  rw [List.flatMap_append]
  exact ho
theorem Mk.appsTo (h : Mk f s e w0 L A n c w) {M L' : List α} {v2 : Value} {w2 : World} {m k : Nat} (hk : n + m = k) (hL : L ++ M = L') (hm : M.length = m) (ho : w2.ownsRow w0.heap.size e s v2 (n + m) (L.flatMap f ++ M.flatMap f)) (hg : w.grownBy w2 (Value.slice A n c).ownBlock) :
    ∃ A2 c2, v2 = .slice A2 k c2 ∧ Hid (Mk f s e w0 L' A2 k c2 w2) := by
  subst hk hL
  exact h.apps hm ho hg
/-- An empty row that is not nil. -/
theorem Mk.empty (f : α → List Value) (s e : Nat) {w0 w : World} (hb : Below w0.heap.size w0 w) : Mk f s e w0 [] (some ⟨w.heap.size, 0, none⟩) 0 0 (w.alloc (.cells #[] e)) :=
  ⟨⟨by simp, .inr ⟨w.heap.size, 0, #[], rfl, hb.size, heap_alloc_new w _, Nat.le_refl _, Nat.zero_le _, by simp, by simp⟩⟩, rfl, hb.alloc hb.size _⟩
theorem Mk.rd (h : Mk f s e w0 L A n c w) (hΨ : ∀ k, w0.heap.size ≤ k → Ψ k) : SRd f w Ψ A n c L := SRd.own h.row h.len fun k hk _ => hΨ k hk
theorem ones (h1 : ∀ x, ∀ u ∈ f x, u.oneCell' = true) (L : List α) : ∀ u ∈ L.flatMap f, u.oneCell' = true := fun u hu => by
  obtain ⟨y, _, hy⟩ := List.mem_flatMap.1 hu
  exact h1 y u hy
theorem take_more {L : List α} {j : Nat} {x : α} (hx : L[j]? = some x) : L.take (j + 1) = L.take j ++ [x] := by
  obtain ⟨h1, h2⟩ := List.getElem?_eq_some_iff.1 hx
  rw [List.take_succ_eq_append_getElem h1, h2]
theorem filter_more {L : List α} {j : Nat} {x : α} (p : α → Bool) (hx : L[j]? = some x) : (L.take (j + 1)).filter p = if p x then (L.take j).filter p ++ [x] else (L.take j).filter p := by
  rw [take_more hx, List.filter_append]
  cases h : p x <;> simp [h]
end
/-- The cells of a new block. -/
theorem news_row (w : World) (cs : List Value) (t : TypeId) : ∀ ad, some (⟨w.heap.size, 0, none⟩ : Addr) = some ad → ∀ j u, cs[j]? = some u → (w.alloc (.cells cs.toArray t)).cell? (ad.add j) = some u := by
  intro ad had j u hu
  obtain rfl := Option.some.inj had
  rw [Addr.add_lit, cell_of_row _ _ _ _ _ _ (heap_alloc_new w _)]
  simpa using hu

/-! ### a row that came in: an empty one may lie nowhere -/
structure WRd {α : Type} (f : α → List Value) (w : World) (Ψ : Nat → Prop) (A : Option Addr) (n c : Nat) (L : List α) : Prop where
  len : L.length = n
  cap : n ≤ c
  max : c ≤ maxLen
  nil : A = none → n = 0 ∧ c = 0
  news : ∀ ad, A = some ad → ∀ j u, (L.flatMap f)[j]? = some u → w.cell? (ad.add j) = some u
  place : 0 < n → ∀ ad, A = some ad → ∃ b o, ad = ⟨b, o, none⟩ ∧ b < w.heap.size ∧ Ψ b
section
variable {α : Type} {f : α → List Value} {s : Nat} {w w' : World} {Ψ Ψ' Φ : Nat → Prop} {A : Option Addr} {n c : Nat} {L : List α}
theorem SRd.weak (h : SRd f w Ψ A n c L) : WRd f w Ψ A n c L := ⟨h.len, h.cap, h.max, h.nil, h.news, fun _ => h.place⟩
theorem WRd.strong (h : WRd f w Ψ A n c L) (hn : 0 < n) : SRd f w Ψ A n c L := ⟨h.len, h.cap, h.max, h.nil, h.news, h.place hn⟩
theorem WRd.caps (h : WRd f w Ψ A n c L) : n ≤ c ∧ c ≤ 9223372036854775807 := ⟨h.cap, by have := h.max; unfold maxLen at this; omega⟩
theorem WRd.keep (h : WRd f w Ψ A n c L) (hc : Chg Φ w w') (hs : ∀ k, Ψ k → ¬ Φ k) (hm : ∀ k, k < w.heap.size → Ψ k → Ψ' k) : WRd f w' Ψ' A n c L := by
  rcases Nat.eq_zero_or_pos n with h0 | h0
  · subst h0
    have hl : L = [] := List.eq_nil_of_length_eq_zero h.len
    subst hl
    exact ⟨rfl, h.cap, h.max, h.nil, fun ad _ j u hu => by simp at hu, fun h => absurd h (by omega)⟩
  · exact ((h.strong h0).keep hc hs hm).weak
theorem WRd.below (h : WRd f w Ψ A n c L) (hb : Below w.heap.size w w') : WRd f w' Ψ A n c L := h.keep (Φ := fun _ => False) (Chg.of_below hb) (fun _ _ => id) fun _ _ hp => hp
theorem WRd.below' {B : Nat} (h : WRd f w (fun b => b < B) A n c L) (hb : Below B w w') : WRd f w' (fun b => b < B) A n c L :=
  h.keep (Φ := fun b => B ≤ b) ⟨hb.os, hb.tape, hb.output, hb.size, fun k _ hn => hb.block k (Nat.lt_of_not_le hn)⟩ (fun _ hp => Nat.not_le.2 hp) fun _ _ hp => hp
theorem WRd.mono (h : WRd f w Ψ A n c L) (hm : ∀ k, k < w.heap.size → Ψ k → Ψ' k) : WRd f w Ψ' A n c L := h.keep (Chg.refl (fun _ => False) w) (fun _ _ => id) hm
theorem WRd.none_ (f : α → List Value) (w : World) (Ψ : Nat → Prop) : WRd f w Ψ none 0 0 [] := (SRd.none_ f w Ψ).weak
theorem WRd.cell (hs : ∀ x, (f x).length = s) (h : WRd f w Ψ A n c L) {j : Nat} {x : α} (hx : L[j]? = some x) : ∃ b o, A = some ⟨b, o, none⟩ ∧ b < w.heap.size ∧ Ψ b ∧ ∀ i u, (f x)[i]? = some u → w.cell? ⟨b, o + (j * s + i), none⟩ = some u := by
  have hj := (List.getElem?_eq_some_iff.1 hx).1
  have hl := h.len
  exact (h.strong (by omega)).cell hs hx
end
/-! ### writing many cells -/
theorem heap_setCells {b : Nat} {t : TypeId} {fr : Nat × Nat} : ∀ (vs : List Value) (o : Nat) (w : World) (cs : Array Value), w.heap[b]? = some (.cells cs t fr) → o + vs.length ≤ cs.size →
    ∃ cs' : Array Value, (w.setCells b o vs).heap[b]? = some (.cells cs' t fr) ∧ cs'.size = cs.size ∧ ∀ k, k < cs.size → cs'[k]? = if o ≤ k ∧ k < o + vs.length then vs[k - o]? else cs[k]?
  | [], _, _, cs, h, _ => ⟨cs, h, rfl, fun k _ => by rw [if_neg (by simp)]⟩
  | v :: r, o, w, cs, h, hl => by
    simp at hl
    obtain ⟨cs', h1, h2, h3⟩ := heap_setCells r (o + 1) (w.setCell ⟨b, o, none⟩ v) _ (heap_setCell_same h o v) (by rw [Array.size_setIfInBounds]; omega)
    rw [Array.size_setIfInBounds] at h2 h3
    refine ⟨cs', h1, h2, fun k hk => ?_⟩
    rw [h3 k hk]
    by_cases e1 : k = o
    · subst e1
      rw [if_neg (by omega), if_pos (by simp), Array.getElem?_setIfInBounds_self_of_lt hk]
      simp
    · rw [Array.getElem?_setIfInBounds_ne (by omega)]
      by_cases e2 : o + 1 ≤ k ∧ k < o + 1 + r.length
      · rw [if_pos e2, if_pos (by simp; omega), show k - o = (k - (o + 1)) + 1 by omega]
        simp
      · rw [if_neg e2, if_neg (by simp; omega)]
theorem chg_setCells {b : Nat} : ∀ (vs : List Value) (o : Nat) (w : World), Chg (fun i => i = b) w (w.setCells b o vs)
  | [], _, _ => Chg.of_below (Below.refl _ _)
  | _ :: r, o, w => (Chg.set w _ _ _).trans (chg_setCells r (o + 1) _) fun _ _ h => h

/-! ### a row of one's own that may begin anywhere in its block -/
structure OffRow (w : World) (e size : Nat) (A : Option Addr) (n c : Nat) (xs : List Value) : Prop where
  len : xs.length = n * size
  cap : n ≤ c
  max : c ≤ maxLen
  nil : A = none → n = 0 ∧ c = 0
  blk : ∀ ad, A = some ad → ∃ g o cur, ad = ⟨g, o, none⟩ ∧ w.heap[g]? = some (.cells cur e (0, 0)) ∧ o + c * size ≤ cur.size ∧ ∀ j u, xs[j]? = some u → cur[o + j]? = some u
section
variable {w w' : World} {e size n c : Nat} {A : Option Addr} {xs : List Value} {Φ : Nat → Prop}
theorem OffRow.none_ (w : World) (e size : Nat) : OffRow w e size none 0 0 [] := ⟨by simp, Nat.le_refl _, Nat.zero_le _, fun _ => ⟨rfl, rfl⟩, fun ad h => by cases h⟩
theorem OffRow.caps (h : OffRow w e size A n c xs) : n ≤ c ∧ c ≤ 9223372036854775807 := ⟨h.cap, by have := h.max; unfold maxLen at this; omega⟩
theorem OffRow.keep (h : OffRow w e size A n c xs) (hc : Chg Φ w w') (hn : ∀ ad, A = some ad → ¬ Φ ad.block) : OffRow w' e size A n c xs :=
  ⟨h.len, h.cap, h.max, h.nil, fun ad had => by
    obtain ⟨g, o, cur, rfl, h1, h2⟩ := h.blk ad had
    exact ⟨g, o, cur, rfl, hc.heap h1 (hn _ had), h2⟩⟩
theorem OffRow.lt (h : OffRow w e size A n c xs) : ∀ ad, A = some ad → ad.block < w.heap.size := fun ad had => by
  obtain ⟨g, o, cur, rfl, h1, _⟩ := h.blk ad had
  exact (Array.getElem?_eq_some_iff.1 h1).1
theorem OffRow.of_own {base : Nat} (h : w.ownsRow base e size (.slice A n c) n xs) : OffRow w e size A n c xs := by
  rcases h.2 with ⟨e1, h0⟩ | ⟨g, cap, cur, e1, hb, hg, hnc, hcm, hcs, ht⟩
  · cases e1
    have h1 := h.1
    rw [Nat.zero_mul] at h1
    obtain rfl : xs = [] := List.eq_nil_of_length_eq_zero h1
    exact OffRow.none_ _ _ _
  · cases e1
    refine ⟨h.1, hnc, hcm, (fun e => by cases e), fun ad had => ?_⟩
    obtain rfl := Option.some.inj had
    refine ⟨g, 0, cur, rfl, hg, by omega, fun j u hu => ?_⟩
    rw [Nat.zero_add, ← Array.getElem?_toList]
    rw [← ht, List.getElem?_take] at hu
    split at hu
    · exact hu
    · cases hu
theorem OffRow.cells (h : OffRow w e size A n c xs) : ∀ ad, A = some ad → ∀ j u, xs[j]? = some u → w.cell? (ad.add j) = some u := fun ad had j u hu => by
  obtain ⟨g, o, cur, rfl, h1, _, h3⟩ := h.blk ad had
  rw [Addr.add_lit]
  have := h3 j u hu
  rw [cell_of_row _ _ _ _ _ _ h1]
  exact this
theorem OffRow.free (h : OffRow w e size A n c xs) : ∀ ad, A = some ad → ∀ j : Nat, w.frozen? ⟨ad.block, j, none⟩ = false := fun ad had j => by
  obtain ⟨g, o, cur, rfl, h1, _⟩ := h.blk ad had
  simp [World.frozen?, h1]
theorem OffRow.take (h : OffRow w e size A n c xs) {m c' : Nat} (hm : m ≤ n) (hc : m ≤ c') (hcc : c' ≤ c) : OffRow w e size A m c' (xs.take (m * size)) :=
  ⟨by rw [List.length_take, h.len]; exact Nat.min_eq_left (Nat.mul_le_mul_right _ hm), hc, Nat.le_trans hcc h.max, fun e => by have := h.nil e; omega, fun ad had => by
    obtain ⟨g, o, cur, rfl, h1, h2, h3⟩ := h.blk ad had
    refine ⟨g, o, cur, rfl, h1, by have := Nat.mul_le_mul_right size hcc; omega, fun j u hu => h3 j u ?_⟩
    rw [List.getElem?_take] at hu
    split at hu
    · exact hu
    · cases hu⟩
/-- s[m:] -/
theorem OffRow.drop {b o : Nat} (h : OffRow w e size (some ⟨b, o, none⟩) n c xs) {m : Nat} (hm : m ≤ n) : OffRow w e size (if c = m then some ⟨b, o, none⟩ else some ⟨b, o + m * size, none⟩) (n - m) (c - m) (xs.drop (m * size)) := by
  have he : (if c = m then (some ⟨b, o, none⟩ : Option Addr) else some ⟨b, o + m * size, none⟩) = some (if c = m then ⟨b, o, none⟩ else ⟨b, o + m * size, none⟩) := by split <;> rfl
  rw [he]
  have h1 := h.cap
  have h2 := h.max
  obtain ⟨g, o', cur, e1, hg, hs, hx⟩ := h.blk _ rfl
  obtain ⟨rfl, rfl⟩ : b = g ∧ o = o' := by simpa using e1
  have hmul : m * size + (c - m) * size = c * size := by rw [← Nat.add_mul]; congr 1; omega
  refine ⟨by rw [List.length_drop, h.len, Nat.sub_mul], by omega, by omega, (fun e => by cases e), fun ad had => ?_⟩
  obtain rfl := Option.some.inj had
  by_cases hcm : c = m
  · rw [if_pos hcm]
    refine ⟨b, o, cur, rfl, hg, by rw [hcm, Nat.sub_self]; omega, fun j u hu => ?_⟩
    have : xs.drop (m * size) = [] := List.drop_eq_nil_of_le (by rw [h.len]; exact Nat.mul_le_mul_right _ (by omega))
    rw [this] at hu
    simp at hu
  · rw [if_neg hcm]
    refine ⟨b, o + m * size, cur, rfl, hg, by omega, fun j u hu => ?_⟩
    rw [List.getElem?_drop] at hu
    have := hx _ u hu
    rw [show o + m * size + j = o + (m * size + j) by omega]
    exact this
theorem OffRow.srd {α : Type} {f : α → List Value} {L : List α} {Ψ : Nat → Prop} (h : OffRow w e size A n c (L.flatMap f)) (hl : L.length = n) (hΨ : ∀ ad, A = some ad → Ψ ad.block) : SRd f w Ψ A n c L :=
  ⟨hl, h.cap, h.max, h.nil, h.cells, fun ad had => by
    obtain ⟨g, o, cur, rfl, h1, _⟩ := h.blk ad had
    exact ⟨g, o, rfl, (Array.getElem?_eq_some_iff.1 h1).1, hΨ _ had⟩⟩
end
section
variable {P : Program} (w : World)
/-- 'append' of one thing to such a row. -/
theorem run_append_off (t ty e : TypeId) (i : TypeInfo) (z : Value) (size bytes : Nat) (ht : P.underlying t = some (.slice e)) (hi : P.info? e = some i) (hz : i.zero = some z)
    (hsize : i.size = size) (hby : i.bytes = bytes) (hzs : z.cells.size = size) (hsz : 0 < size)
    (A : Option Addr) (n c : Nat) (xs : List Value) (hrow : OffRow w e size A n c xs)
    (a : Addr) (m : Nat) (news : List Value) (hl : news.length = 1 * size) (hnews : ∀ j u, news[j]? = some u → w.cell? (a.add j) = some u) (h1 : ∀ u ∈ news, u.oneCell' = true)
    (h63 : n + 1 ≤ maxLen) (hbytes : (n + 1) * bytes ≤ 140737488355328) :
    ∃ A' c' w', (Builtin.append_ #[t, t] ty #[.slice A n c, .slice (some a) 1 m]).run P w = .ok (.slice A' (n + 1) c') w' ∧ OffRow w' e size A' (n + 1) c' (xs ++ news) ∧ Chg (fun k => ∃ ad, A = some ad ∧ k = ad.block) w w' ∧
      ∃ ad, A' = some ad ∧ ((∃ ad0, A = some ad0 ∧ ad.block = ad0.block) ∨ w.heap.size ≤ ad.block) := by
  have key : ∀ v' w', w'.ownsRow w.heap.size e size v' (n + 1) (xs ++ news) → w.grownBy w' none → (v'.ownBlock = some w.heap.size) →
      ∃ A' c', v' = .slice A' (n + 1) c' ∧ OffRow w' e size A' (n + 1) c' (xs ++ news) ∧ Chg (fun k => ∃ ad, A = some ad ∧ k = ad.block) w w' ∧ ∃ ad, A' = some ad ∧ ((∃ ad0, A = some ad0 ∧ ad.block = ad0.block) ∨ w.heap.size ≤ ad.block) := fun v' w' ho hg hb => by
    obtain ⟨A', c', rfl⟩ := slice_of ho
    refine ⟨A', c', rfl, OffRow.of_own ho, (Chg.of_grown hg).mono (fun i _ hh => by cases hh), ?_⟩
    cases A' with
    | none => cases hb
    | some ad => exact ⟨ad, rfl, .inr (Nat.le_of_eq (by simpa [Value.ownBlock] using hb.symm))⟩
  rcases hA : A with _ | ad
  · subst hA
    obtain ⟨rfl, rfl⟩ := hrow.nil rfl
    have hxl := hrow.len
    rw [Nat.zero_mul] at hxl
    obtain rfl : xs = [] := List.eq_nil_of_length_eq_zero hxl
    obtain ⟨v', w', hr, ho, hg, hn, hat⟩ := run_append_own_at (P := P) w w.heap.size t ty e i z size bytes ht hi hz hsize hby hzs hsz (.slice none 0 0) 0 [] (World.ownsRow_nil _ _ _ _) a 1 m news hl hnews h1 h63 hbytes (Nat.le_refl _)
    have hb : v'.ownBlock = some w.heap.size := by
      rcases hat with h | h
      · exfalso
        rcases ho.2 with ⟨_, h0⟩ | ⟨g, cap, cur, rfl, hb, _⟩
        · omega
        · simp [Value.ownBlock] at h
      · exact h
    obtain ⟨A', c', rfl, h2, h3, h4⟩ := key v' w' ho hg hb
    exact ⟨A', c', w', hr, h2, h3, h4⟩
  · subst hA
    obtain ⟨g, o, cur, rfl, hg, hs, hx⟩ := hrow.blk ad rfl
    have hxl := hrow.len
    by_cases hroom : n + 1 ≤ c
    · have hmul : (n + 1) * size ≤ c * size := Nat.mul_le_mul_right _ hroom
      rw [Nat.add_mul, Nat.one_mul] at hmul
      rw [Nat.one_mul] at hl
      have hcell : ∀ j, j < news.length → (w.cell? ⟨g, o + n * i.size + j, none⟩).isSome = true := fun j hj => by
        rw [hsize, cell_of_row _ _ _ _ _ _ hg, Array.getElem?_eq_getElem (by omega)]
        rfl
      have hr := run_append_room_cells (P := P) (w := w) t ty e i ht hi g o n c a 1 m news (by rw [hl, hsize, Nat.one_mul]) hnews h1 hroom hcell (fun j hj => by simp [World.frozen?, hg])
      rw [hsize] at hr
      obtain ⟨cur', e1, s1, f1⟩ := heap_setCells news (o + n * size) w cur hg (by omega)
      refine ⟨some ⟨g, o, none⟩, c, _, hr, ⟨by rw [List.length_append, hxl, hl, Nat.add_mul, Nat.one_mul], hroom, hrow.max, (fun e => by cases e), fun ad had => ?_⟩, (chg_setCells news _ w).mono fun k _ hk => ⟨_, rfl, hk⟩, _, rfl, .inl ⟨_, rfl, rfl⟩⟩
      obtain rfl := Option.some.inj had
      refine ⟨g, o, cur', rfl, e1, by omega, fun j u hu => ?_⟩
      have hj : j < (xs ++ news).length := (List.getElem?_eq_some_iff.1 hu).1
      rw [List.length_append, hxl, hl] at hj
      rw [f1 _ (by omega)]
      by_cases hjx : j < xs.length
      · rw [List.getElem?_append_left hjx] at hu
        rw [if_neg (by omega)]
        exact hx j u hu
      · rw [List.getElem?_append_right (by omega)] at hu
        rw [if_pos (by omega), show o + j - (o + n * size) = j - xs.length by omega]
        exact hu
    · obtain ⟨v', w', hr, ho, hg2⟩ := run_append_arg_grows (P := P) (w := w) t ty e i z size bytes ht hi hz hsize hby hzs hsz ⟨g, o, none⟩ n c xs hxl (hrow.cells _ rfl) a 1 m news hl hnews (by omega) h63 hbytes
      have hb : ∃ A' c', v' = .slice A' (n + 1) c' ∧ ∃ ad, A' = some ad ∧ w.heap.size ≤ ad.block := by
        rcases ho.2 with ⟨_, h0⟩ | ⟨g', cap, cur', rfl, hb, _⟩
        · omega
        · exact ⟨_, _, rfl, _, rfl, hb⟩
      obtain ⟨A', c', rfl, ad, rfl, hb⟩ := hb
      refine ⟨some ad, c', w', hr, OffRow.of_own ho, (Chg.of_grown hg2).mono (fun i _ hh => by cases hh), ad, rfl, .inr hb⟩
end
end Go.Proofs.Ytmmddkddjiodbaa
