/- What is proved here: what a Merge that tells true leaves of the entries that were there, and of those that came. -/
import Derived.Test.YtmmddkddjiodbaaEFromL
namespace Go.Proofs.Ytmmddkddjiodbaa
open Go Go.RowKit Go.Maps Go.WideMaps

theorem takeF_at (L : List En) (p : Nat) (x : En) (hp : p ≤ L.length) :
    (∀ i, i < p → (takeF L p x)[i]? = L[i]?) ∧ (∃ z, (takeF L p x)[p]? = some z ∧ z.t = x.t ∧ (z = x ∨ L[p]? = some z)) ∧ (∀ i z, p < i → (takeF L p x)[i]? = some z → L[i]? = some z) := by
  have h0 : (L.take p).length = p := by rw [List.length_take]; omega
  have h1 : (∀ i, i < p → (L.take p ++ [x])[i]? = L[i]?) ∧ (L.take p ++ [x])[p]? = some x ∧ (∀ i z, p < i → (L.take p ++ [x])[i]? = some z → L[i]? = some z) := by
    refine ⟨fun i hi => ?_, ?_, fun i z hi h => ?_⟩
    · rw [List.getElem?_append_left (by omega), List.getElem?_take_of_lt hi]
    · rw [List.getElem?_append_right (by omega), h0, Nat.sub_self]; rfl
    · rw [List.getElem?_eq_none (by rw [List.length_append, h0]; simp; omega)] at h
      cases h
  unfold takeF
  cases h : L[p]? with
  | none => exact ⟨h1.1, ⟨x, h1.2.1, rfl, .inl rfl⟩, h1.2.2⟩
  | some y =>
    dsimp only
    by_cases e : y.t = x.t
    · rw [if_pos e]
      exact ⟨fun _ _ => rfl, ⟨y, h, e, .inr rfl⟩, fun _ _ _ hz => hz⟩
    · rw [if_neg e]
      exact ⟨h1.1, ⟨x, h1.2.1, rfl, .inl rfl⟩, h1.2.2⟩
theorem mergeL_at (M : List En) : ∀ (L : List En) (p : Nat), p ≤ L.length →
    (∀ i, i < p → (mergeL L p M)[i]? = L[i]?) ∧ ∀ (j : Nat) (x : En), M[j]? = some x → ∃ z, (mergeL L p M)[p + j]? = some z ∧ z.t = x.t ∧ (z = x ∨ L[p + j]? = some z) := by
  induction M with
  | nil => intro L p _; exact ⟨fun _ _ => rfl, fun j x h => by simp at h⟩
  | cons y r ih =>
    intro L p hp
    obtain ⟨a1, a2, a3⟩ := takeF_at L p y hp
    have hl := (takeF_len L p y hp).1
    obtain ⟨b1, b2⟩ := ih (takeF L p y) (p + 1) (by omega)
    rw [mergeL]
    refine ⟨fun i hi => (b1 i (by omega)).trans (a1 i hi), fun j x h => ?_⟩
    cases j with
    | zero =>
      obtain rfl : y = x := by simpa using h
      obtain ⟨z, z1, z2, z3⟩ := a2
      exact ⟨z, (b1 p (by omega)).trans z1, z2, z3⟩
    | succ j =>
      obtain ⟨z, z1, z2, z3⟩ := b2 j x (by simpa using h)
      have e : p + 1 + j = p + (j + 1) := by omega
      rw [e] at z1 z3
      refine ⟨z, z1, z2, ?_⟩
      rcases z3 with z3 | z3
      · exact .inl z3
      · exact .inr (a3 _ _ (by omega) z3)
theorem match_old (B : Int) (L M : List En) (p : Nat) (hp : p ≤ L.length) (k : Int) (h1 : B ≤ k) (h2 : k ≤ B + p) : entAt B (mergeL L p M) k = entAt B L k := by
  rcases Int.lt_or_eq_of_le h1 with h | h
  · obtain ⟨i, hi⟩ : ∃ i : Nat, k = B + 1 + i := ⟨(k - B - 1).toNat, by omega⟩
    have hx : L[i]? = some (L[i]'(by omega)) := List.getElem?_eq_getElem _
    rw [(entAt_of hi hx).2, (entAt_of hi (((mergeL_at M L p hp).1 i (by omega)).trans hx)).2]
  · have z : ∀ Q : List En, entAt B Q k = zeroE := fun Q => by
      have : isAt B Q k = false := by unfold isAt; rw [decide_eq_false_iff_not]; omega
      exact (isAt_none this).2
    rw [z, z]
theorem match_new (B : Int) (L M : List En) (p : Nat) (hp : p ≤ L.length) {j : Nat} {x : En} (hx : M[j]? = some x) :
    isAt B (mergeL L p M) (B + p + 1 + j) = true ∧ (entAt B (mergeL L p M) (B + p + 1 + j)).t = x.t ∧
      (entAt B (mergeL L p M) (B + p + 1 + j) = x ∨ (isAt B L (B + p + 1 + j) = true ∧ entAt B L (B + p + 1 + j) = entAt B (mergeL L p M) (B + p + 1 + j))) := by
  obtain ⟨z, z1, z2, z3⟩ := (mergeL_at M L p hp).2 j x hx
  have e : B + p + 1 + j = B + 1 + ((p + j : Nat) : Int) := by omega
  obtain ⟨q1, q2⟩ := entAt_of e z1
  rw [q2]
  refine ⟨q1, z2, ?_⟩
  rcases z3 with z3 | z3
  · exact .inl z3
  · exact .inr (entAt_of e z3)

section
variable {w V : World} {b : Nat} {B T : Int} {L : List En}
/-- A log, and the copy of it that was taken ahead of the Merge. -/
structure Mt (w wr : World) (b b' : Nat) (B T : Int) (L' L : List En) : Prop where
  one : LN w wr b B T L'
  two : LN w wr b' B T L
theorem Mt.later {wr V : World} {b' : Nat} {L' : List En} (h : Mt w wr b b' B T L' L) (hb : Below wr.heap.size wr V) : Mt w V b b' B T L' L := ⟨h.one.later hb, h.two.later hb⟩
set_option maxHeartbeats 1600000 in
theorem match_calls (h : LN w V b B T L) (h0 : 0 ≤ B) (h1 : B ≤ 4398046511104) (hL : L.length < 100000) {A : Option Addr} {n c : Nat} {M : List En} (hM : WRd enC w (fun k => k < w.heap.size) A n c M) (hn : n < 100000) {y : Int} (hy : I64 y) (term : Int) :
    Calls Try.prog 13 #[.pointer (some ⟨b, 0, none⟩)] V fun e w2 => ∃ b', e = .returned (.pointer (some ⟨b', 0, none⟩)) ∧
      Hid (Calls Try.prog 25 #[.slice A n c] w2 fun e w3 => ∃ A3 c3, e = .returned (.slice A3 n c3) ∧
        Hid (Calls Try.prog 24 #[.pointer (some ⟨b, 0, none⟩), .int .i64 y, .int .i64 term, .slice A3 n c3] w3 fun e w4 => e = .returned (.tuple #[.int .i64 (mergeF B T L y term M).2.1, .bool (mergeF B T L y term M).2.2]) ∧
          Hid (Mt w w4 b b' B T (mergeF B T L y term M).1 L))) := by
  obtain ⟨Φ, k1, k2, k3⟩ := h
  refine (Copy_any k1 (by omega)).mono ?_
  rintro e w2 ⟨b', rfl, hl', hbC⟩
  refine ⟨b', rfl, Lib.hid ?_⟩
  have hb2 : Below w.heap.size w w2 := k3.trans (hbC.mono k3.size)
  refine (Of_any (hM.below' hb2) (by omega)).mono ?_
  rintro e w3 ⟨A3, c3, rfl, hmk⟩
  have hlen := hM.len
  rw [hlen]
  refine ⟨A3, c3, rfl, Lib.hid ?_⟩
  rw [hlen] at hmk
  have hb3 := hmk.bel
  have hsz := hb3.size
  refine (Merge_any ((k1.later hbC).later hb3) h0 (by omega) (by omega) (hmk.rd (Ψ := fun k => ¬ Φ k) fun k hk e => ?_) hn hy term).mono ?_
  · have := k1.bnd k e
    have := hbC.size
    omega
  · rintro e w4 ⟨rfl, Φ4, c1, c2⟩
    have hb : Below w.heap.size w w3 := hb2.trans (hb3.mono hb2.size)
    have hb4 : Below w.heap.size w w4 := c2.below hb k2
    refine ⟨rfl, Lib.hid ⟨⟨Φ4, c1, c2.new hb.size k2, hb4⟩, ⟨_, (hl'.later hb3).keep c2.chg fun k hk e => ?_, fun k hk => Nat.le_trans k3.size hk.1, hb4⟩⟩⟩
    have := k1.bnd k e
    omega
end
end Go.Proofs.Ytmmddkddjiodbaa
