/- What is proved here: plain facts on rows of things in their order: one set, one dropped, those that are due. No program is named. -/
import Derived.Test.YtednibjemboclaaHeap
namespace Go.Proofs.Ytednibjemboclaa
open Go

def Ord (R : List It) : Prop := R.Pairwise bef ∧ (R.map Prod.fst).Nodup
def dropR (R : List It) (id : Int) : List It := R.filter fun y => decide (y.1 ≠ id)
def insR (x : It) : List It → List It
  | [] => [x]
  | y :: r => if bef x y then x :: y :: r else y :: insR x r
def setR (R : List It) (x : It) : List It := insR x (dropR R x.1)
def dueN (R : List It) (now : Int) : Nat := (R.takeWhile fun y => decide (y.2 ≤ now)).length

theorem ord_nil : Ord [] := ⟨List.Pairwise.nil, List.Pairwise.nil⟩
theorem perm_insR (x : It) : ∀ l : List It, (insR x l).Perm (x :: l)
  | [] => List.Perm.refl _
  | y :: r => by
    unfold insR
    split
    · exact List.Perm.refl _
    · exact ((perm_insR x r).cons y).trans (List.Perm.swap x y r)
theorem length_insR (x : It) (l : List It) : (insR x l).length = l.length + 1 := (perm_insR x l).length_eq
theorem mem_dropR {R : List It} {id : Int} {y : It} : y ∈ dropR R id ↔ y ∈ R ∧ y.1 ≠ id := by
  unfold dropR
  simp [List.mem_filter]
theorem Ord.drop {R : List It} (h : Ord R) (id : Int) : Ord (dropR R id) := ⟨h.1.filter _, (List.Pairwise.sublist (List.Sublist.map _ List.filter_sublist) h.2)⟩
theorem insR_pairwise {x : It} : ∀ {l : List It}, l.Pairwise bef → (∀ y ∈ l, y.1 ≠ x.1) → (insR x l).Pairwise bef
  | [], _, _ => by simp [insR]
  | y :: r, h, hn => by
    obtain ⟨h1, h2⟩ := List.pairwise_cons.1 h
    unfold insR
    split
    · rename_i hb
      exact List.pairwise_cons.2 ⟨fun z hz => by
        rcases List.mem_cons.1 hz with rfl | hz
        · exact hb
        · exact bef_trans hb (h1 z hz), h⟩
    · rename_i hb
      refine List.pairwise_cons.2 ⟨fun z hz => ?_, insR_pairwise h2 fun z hz => hn z (List.mem_cons_of_mem _ hz)⟩
      rcases List.mem_cons.1 ((perm_insR x r).mem_iff.1 hz) with rfl | hz
      · exact bef_of_le hb (hn y (List.mem_cons_self ..))
      · exact h1 z hz
theorem Ord.ins {R : List It} (h : Ord R) {x : It} (hn : ∀ y ∈ R, y.1 ≠ x.1) : Ord (insR x R) := by
  refine ⟨insR_pairwise h.1 hn, (((perm_insR x R).map Prod.fst).nodup_iff).2 ?_⟩
  rw [List.map_cons, List.nodup_cons]
  refine ⟨fun hm => ?_, h.2⟩
  obtain ⟨y, hy, e⟩ := List.mem_map.1 hm
  exact hn y hy e
theorem Ord.set {R : List It} (h : Ord R) (x : It) : Ord (setR R x) := (h.drop x.1).ins fun _ hy => (mem_dropR.1 hy).2
theorem setR_perm (R : List It) (x : It) : (setR R x).Perm (x :: dropR R x.1) := perm_insR _ _
theorem mem_setR {R : List It} {x y : It} : y ∈ setR R x ↔ y = x ∨ (y ∈ R ∧ y.1 ≠ x.1) := by
  rw [(setR_perm R x).mem_iff, List.mem_cons, mem_dropR]
/-- A row in order is one: whatever has the same things, none ahead of an earlier one, is it. -/
theorem ord_eq {D R : List It} (hp : D.Perm R) (hD : D.Pairwise le) (hR : Ord R) : D = R :=
  hp.eq_of_pairwise (le := le) (fun _ _ _ _ h1 h2 => le_antisymm h1 h2) hD (hR.1.imp fun hb => le_of_bef hb)
theorem ord_one {D R : List It} (hp : D.Perm R) (hD : Ord D) (hR : Ord R) : D = R := ord_eq hp (hD.1.imp fun hb => le_of_bef hb) hR
/-- The first of a heap is the first of the row. -/
theorem head_ord {H R : List It} (hH : Heap H) (hp : H.Perm R) (hR : Ord R) (hl : 0 < H.length) : ∃ r, R = g H 0 :: r := by
  have hlR : 0 < R.length := by rw [← hp.length_eq]; exact hl
  cases R with
  | nil => simp at hlR
  | cons x r =>
    refine ⟨r, ?_⟩
    obtain ⟨j, hj, hx⟩ := mem_g ((hp.mem_iff).2 (List.mem_cons_self (a := x) (l := r)))
    have h1 := hH.head j hj
    rw [hx] at h1
    have h2 : g H 0 ∈ x :: r := (hp.mem_iff).1 (g_mem hl)
    rcases List.mem_cons.1 h2 with e | h2
    · rw [e]
    · exact absurd ((List.pairwise_cons.1 hR.1).1 _ h2) h1
theorem nodup_split {H : List It} (h : (H.map Prod.fst).Nodup) {p : Nat} (hp : p < H.length) : dropR H (g H p).1 = H.take p ++ H.drop (p + 1) := by
  have e : H = H.take p ++ g H p :: H.drop (p + 1) := by
    rw [← g_get hp, List.getElem_cons_drop hp, List.take_append_drop]
  have hn := h
  rw [e, List.map_append, List.nodup_append, List.map_cons, List.nodup_cons] at hn
  obtain ⟨_, ⟨h1, _⟩, h2⟩ := hn
  have k1 : (H.take p).filter (fun y => decide (y.1 ≠ (g H p).1)) = H.take p := List.filter_eq_self.2 fun y hy => by
    have := h2 y.1 (List.mem_map_of_mem (f := Prod.fst) hy) (g H p).1 (List.mem_cons_self ..)
    simpa using this
  have k2 : (H.drop (p + 1)).filter (fun y => decide (y.1 ≠ (g H p).1)) = H.drop (p + 1) := List.filter_eq_self.2 fun y hy => by
    have : y.1 ≠ (g H p).1 := fun e => h1 (by rw [← e]; exact List.mem_map_of_mem (f := Prod.fst) hy)
    simpa using this
  have k3 : dropR H (g H p).1 = dropR (H.take p ++ g H p :: H.drop (p + 1)) (g H p).1 := by rw [← e]
  rw [k3]
  unfold dropR
  rw [List.filter_append, List.filter_cons, if_neg (by simp), k1, k2]
theorem set_perm {H : List It} (h : (H.map Prod.fst).Nodup) {p : Nat} (hp : p < H.length) (x : It) : (H.set p x).Perm (x :: dropR H (g H p).1) := by
  rw [nodup_split h hp, List.set_eq_take_append_cons_drop, if_pos hp]
  exact List.perm_middle
theorem self_perm {H : List It} (h : (H.map Prod.fst).Nodup) {p : Nat} (hp : p < H.length) : H.Perm (g H p :: dropR H (g H p).1) := by
  have := set_perm h hp (g H p)
  have e : H.set p (g H p) = H := by
    rw [← g_get hp]
    exact List.set_getElem_self hp
  rwa [e] at this
theorem dropR_none {R : List It} {id : Int} (h : ∀ y ∈ R, y.1 ≠ id) : dropR R id = R := by
  unfold dropR
  rw [List.filter_eq_self]
  intro y hy
  simpa using h y hy
theorem dropR_perm {H R : List It} (hp : H.Perm R) (id : Int) : (dropR H id).Perm (dropR R id) := hp.filter _
/-- The first is dropped. -/
theorem dropR_head {x : It} {r : List It} (h : Ord (x :: r)) : dropR (x :: r) x.1 = r := by
  unfold dropR
  rw [List.filter_cons, if_neg (by simp)]
  have h2 := h.2
  rw [List.map_cons, List.nodup_cons] at h2
  exact List.filter_eq_self.2 fun y hy => by
    have : y.1 ≠ x.1 := fun e => h2.1 (by rw [← e]; exact List.mem_map_of_mem (f := Prod.fst) hy)
    simpa using this
theorem Ord.tail {x : It} {r : List It} (h : Ord (x :: r)) : Ord r := by
  have := h.drop x.1
  rwa [dropR_head h] at this
theorem dropR_length {R : List It} (h : (R.map Prod.fst).Nodup) {x : It} (hx : x ∈ R) : (dropR R x.1).length + 1 = R.length := by
  obtain ⟨p, hp, rfl⟩ := mem_g hx
  have := (self_perm h hp).length_eq
  simp at this
  omega
theorem dueN_le (R : List It) (now : Int) : dueN R now ≤ R.length := by
  unfold dueN
  exact (List.takeWhile_prefix _).length_le
theorem dueN_cons (x : It) (r : List It) (now : Int) : dueN (x :: r) now = if x.2 ≤ now then dueN r now + 1 else 0 := by
  unfold dueN
  rw [List.takeWhile_cons]
  by_cases h : x.2 ≤ now <;> simp [h]
theorem dueN_nil (now : Int) : dueN [] now = 0 := rfl
/-- How it is with the first ones, and with the next one. -/
theorem dueN_lt {R : List It} {now : Int} {j : Nat} (h : j < dueN R now) : (g R j).2 ≤ now := by
  induction R generalizing j with
  | nil => rw [dueN_nil] at h; omega
  | cons x r ih =>
    rw [dueN_cons] at h
    split at h
    · cases j with
      | zero => assumption
      | succ j => exact ih (j := j) (by omega)
    · omega
theorem dueN_at {R : List It} {now : Int} (h : dueN R now < R.length) : ¬ (g R (dueN R now)).2 ≤ now := by
  induction R with
  | nil => simp at h
  | cons x r ih =>
    rw [dueN_cons] at h ⊢
    split
    · rename_i hx
      rw [if_pos hx] at h
      exact ih (by simpa using h)
    · assumption
theorem dueN_eq {R : List It} {now : Int} {k : Nat} (hk : k ≤ R.length) (h1 : ∀ j, j < k → (g R j).2 ≤ now) (h2 : k < R.length → ¬ (g R k).2 ≤ now) : dueN R now = k := by
  rcases Nat.lt_trichotomy (dueN R now) k with h | h | h
  · exact absurd (h1 _ h) (dueN_at (by omega))
  · exact h
  · exact absurd (dueN_lt h) (h2 (by have := dueN_le R now; omega))
/-! how a thing finds its place, one by one -/
theorem insR_after {x : It} : ∀ {l : List It}, (∀ y ∈ l, ¬ bef x y) → insR x l = l ++ [x]
  | [], _ => rfl
  | y :: r, h => by
    unfold insR
    rw [if_neg (h y (List.mem_cons_self ..)), insR_after fun z hz => h z (List.mem_cons_of_mem _ hz)]
    rfl
theorem insR_here {x z : It} : ∀ {l : List It}, (∀ y ∈ l, ¬ bef x y) → bef x z → insR x (l ++ [z]) = l ++ [x] ++ [z]
  | [], _, hz => by simp [insR, hz]
  | y :: r, h, hz => by
    show insR x (y :: (r ++ [z])) = _
    unfold insR
    rw [if_neg (h y (List.mem_cons_self ..)), insR_here (fun w hw => h w (List.mem_cons_of_mem _ hw)) hz]
    rfl
theorem insR_done {x z : It} : ∀ {l : List It}, (∃ y ∈ l, bef x y) → insR x (l ++ [z]) = insR x l ++ [z]
  | [], h => by obtain ⟨y, hy, _⟩ := h; cases hy
  | y :: r, h => by
    show insR x (y :: (r ++ [z])) = _
    unfold insR
    by_cases hb : bef x y
    · rw [if_pos hb, if_pos hb]
      rfl
    · rw [if_neg hb, if_neg hb, insR_done]
      · rfl
      · obtain ⟨w, hw, hwb⟩ := h
        rcases List.mem_cons.1 hw with rfl | hw
        · exact absurd hwb hb
        · exact ⟨w, hw, hwb⟩
end Go.Proofs.Ytednibjemboclaa
