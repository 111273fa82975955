/- What is proved here: what the document's own functions answer: a row of things in memory; At, Add, Drop, Of. -/
import Derived.Test.YticmdeepfeiobaaArgs
namespace Go.Proofs.Yticmdeepfeiobaa
open Go Go.RowKit Go.Maps Go.WideMaps

def cellsT (x : Th) : List Value := [.string x.g, .int .i64 x.id]
def flatT (L : List Th) : List Value := L.flatMap cellsT
theorem flatT_append (H T : List Th) : flatT (H ++ T) = flatT H ++ flatT T := by simp [flatT]
theorem flatT_one (x : Th) : flatT [x] = [.string x.g, .int .i64 x.id] := by simp [flatT, cellsT]
theorem flatT_len (H : List Th) : (flatT H).length = H.length * 2 := by
  induction H with
  | nil => rfl
  | cons x r ih =>
    show (cellsT x ++ flatT r).length = _
    rw [List.length_append, ih]
    show 2 + r.length * 2 = _
    simp; omega
theorem flatT_at : ∀ {H : List Th} {j : Nat} {x : Th}, H[j]? = some x → (flatT H)[j * 2]? = some (.string x.g) ∧ (flatT H)[j * 2 + 1]? = some (.int .i64 x.id)
  | y :: r, 0, x, h => by
    obtain rfl : y = x := by simpa using h
    exact ⟨rfl, rfl⟩
  | y :: r, j + 1, x, h => by
    obtain ⟨h1, h2⟩ := flatT_at (H := r) (j := j) (x := x) (by simpa using h)
    have e : flatT (y :: r) = cellsT y ++ flatT r := rfl
    have e2 : (cellsT y).length = 2 := rfl
    rw [e, List.getElem?_append_right (by omega), List.getElem?_append_right (by omega), e2, show (j + 1) * 2 - 2 = j * 2 by omega, show (j + 1) * 2 + 1 - 2 = j * 2 + 1 by omega]
    exact ⟨h1, h2⟩
/-- A row of the document's: a slice that owns things. -/
def TRow (w : World) (base : Nat) (A : Option Addr) (n c : Nat) (L : List Th) : Prop := w.ownsRow base 36 2 (.slice A n c) n (flatT L)
section
variable {w w' : World} {base n c : Nat} {A : Option Addr} {L : List Th}
theorem TRow.len (h : TRow w base A n c L) : L.length = n := by
  have := h.1
  rw [flatT_len] at this
  omega
theorem TRow.below (h : TRow w base A n c L) (hb : Below w.heap.size w w') : TRow w' base A n c L := (Chg.of_below (Φ := fun _ => False) hb).own h fun _ _ => id
theorem TRow.caps (h : TRow w base A n c L) : n ≤ c ∧ c ≤ 9223372036854775807 := by
  rcases h.2 with ⟨e, h0⟩ | ⟨g, cap, cur, e, _, _, h1, h2, _⟩
  · cases e
    exact ⟨by omega, by omega⟩
  · cases e
    unfold maxLen at h2
    exact ⟨h1, by omega⟩
theorem TRow.cell (h : TRow w base A n c L) {j : Nat} {x : Th} (hx : L[j]? = some x) : ∃ b, A = some ⟨b, 0, none⟩ ∧ b < w.heap.size ∧ w.cell? ⟨b, j * 2, none⟩ = some (.string x.g) ∧ w.cell? ⟨b, j * 2 + 1, none⟩ = some (.int .i64 x.id) := by
  have hj := (List.getElem?_eq_some_iff.1 hx).1
  have hl := h.len
  obtain ⟨b, cap, e, _, hb⟩ := h.form (by omega)
  obtain ⟨rfl, rfl⟩ : A = some ⟨b, 0, none⟩ ∧ c = cap := by simpa using e
  obtain ⟨h1, h2⟩ := flatT_at hx
  have h' : w.ownsRow base 36 2 (.slice (some ⟨b, 0, none⟩) n c) n (flatT L) := h
  exact ⟨b, rfl, hb, (h'.cellAt (j * 2) (by omega)).trans h1, (h'.cellAt (j * 2 + 1) (by omega)).trans h2⟩
theorem TRow.nil_ (w : World) (base : Nat) : TRow w base none 0 0 [] := World.ownsRow_nil _ _ _ _
end
theorem info_thing : (Try.prog.info? 36).map (fun i => (i.zero, i.size, i.bytes)) = some (some (.agg #[.string ⟨#[]⟩, .int .i64 0]), 2, 24) := by kernel_rfl

/-- What At answers. -/
def AtSaid (L : List Th) (k : Int) (e : Ending) : Prop := (e = .returned (.int .i64 (-1)) ∧ at_ L k = none) ∨ ∃ (j : Nat) (x : Th), e = .returned (.int .i64 j) ∧ L[j]? = some x ∧ at_ L k = some x
theorem at_first : ∀ {L : List Th} {k : Int} {j : Nat} {x : Th}, (∀ i y, i < j → L[i]? = some y → y.id ≠ k) → L[j]? = some x → x.id = k → at_ L k = some x
  | y :: r, k, 0, x, _, hx, he => by
    obtain rfl : y = x := by simpa using hx
    unfold at_
    rw [List.find?_cons_of_pos (by simpa using he)]
  | y :: r, k, j + 1, x, hb, hx, he => by
    have hy : y.id ≠ k := hb 0 y (Nat.succ_pos _) rfl
    unfold at_
    rw [List.find?_cons_of_neg (by simpa using hy)]
    exact at_first (L := r) (j := j) (fun i z hi hz => hb (i + 1) z (by omega) (by simpa using hz)) (by simpa using hx) he

set_option maxHeartbeats 800000 in
theorem refAt_any {w : World} {base n c : Nat} {A : Option Addr} {L : List Th} (h : TRow w base A n c L) (k : Int) :
    Calls Try.prog 23 #[.slice A n c, .int .i64 k] w fun e w' => AtSaid L k e ∧ w = w' := by
  have HR := Lib.hid h
  have HL := Lib.hid h.len
  obtain ⟨hnc, hcm⟩ := h.caps
  clear h
  go_enter Try.func23, Try.ntmps23
  go_wp2
  go_loop [5] (fun i => ∃ j : Nat, i = .int .i64 j ∧ j ≤ n ∧ Hid (∀ i y, i < j → L[i]? = some y → y.id ≠ k)) (fun i => n - (intOf i).toNat)
  case atStart => exact ⟨0, rfl, Nat.zero_le _, Lib.hid fun j y hj => absurd hj (Nat.not_lt_zero _)⟩
  case round =>
    obtain ⟨j, rfl, hj, HA⟩ := hrel
    by_cases hjn : j < n
    · obtain ⟨x, hx⟩ : ∃ x, L[j]? = some x := ⟨_, List.getElem?_eq_getElem (by rw [HL.out]; exact hjn)⟩
      obtain ⟨b, hA, hbl, r0, r1⟩ := HR.out.cell hx
      subst hA
      have hjn' : (j : Int) < n := by omega
      by_cases hk : x.id = k
      · have HE : Hid (AtSaid L k (.returned (.int .i64 j))) := Lib.hid (.inr ⟨j, x, rfl, hx, at_first HA.out hx hk⟩)
        have hb : (x.id == k) = true := by simpa using hk
        clear HA hk hx
        go_wp2
        go_ret
        exact ⟨HE.out, rfl⟩
      · have HA2 : Hid (∀ i y, i < j + 1 → L[i]? = some y → y.id ≠ k) := Lib.hid fun i y hi hy => by
          rcases Nat.lt_or_ge i j with h1 | h1
          · exact HA.out i y h1 hy
          · obtain rfl : i = j := by omega
            rw [hx] at hy
            obtain rfl := Option.some.inj hy
            exact hk
        have hb : (x.id == k) = false := beq_eq_false_iff_ne.2 hk
        clear HA hk hx
        go_wp2
        go_round
        case rel => exact ⟨j + 1, by go_num, by omega, HA2⟩
        case measure => simp [intOf]; omega
    · obtain rfl : j = n := by omega
      have HE : Hid (AtSaid L k (.returned (.int .i64 (-1)))) := Lib.hid (.inl ⟨rfl, at_none.2 fun y hy => by
        obtain ⟨i, hi, e⟩ := List.getElem_of_mem hy
        exact HA.out i y (by rw [← HL.out]; exact hi) (by rw [List.getElem?_eq_getElem hi, e])⟩)
      have hd0 : decide ((j : Int) < (j : Int)) = false := decide_eq_false (by omega)
      clear HA
      go_wp2
      go_ret
      exact ⟨HE.out, rfl⟩
end Go.Proofs.Yticmdeepfeiobaa
