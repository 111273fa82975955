/- What is proved here: lanes beside a row of the document's, and what each call makes of the two. -/
import Derived.Test.YticmdeepfeiobaaRef3
namespace Go.Proofs.Yticmdeepfeiobaa
open Go Go.RowKit Go.Maps Go.WideMaps

/-- Lanes, and a row of the document's, both new since w0, and apart. -/
def LT (w0 w : World) (l : Nat) (L : List Th) (N : Nat) (A : Option Addr) (n c : Nat) (R : List Th) : Prop :=
  ∃ Φ : Nat → Prop, LaneAt w l L N Φ ∧ (∀ k, Φ k → w0.heap.size ≤ k ∧ k < w.heap.size) ∧ TRow w w0.heap.size A n c R ∧ (∀ g, (Value.slice A n c).ownBlock = some g → ¬ Φ g) ∧ Below w0.heap.size w0 w
section
variable {w0 w w' V : World} {l N n c : Nat} {A : Option Addr} {L R : List Th}
theorem LT.later (h : LT w0 w l L N A n c R) (hb : Below w.heap.size w w') : LT w0 w' l L N A n c R := by
  obtain ⟨Φ, h1, h2, h3, h4, h5⟩ := h
  have hs := hb.size
  exact ⟨Φ, h1.below hb, fun k hk => ⟨(h2 k hk).1, by have := (h2 k hk).2; omega⟩, h3.below hb, h4, h5.trans (hb.mono h5.size)⟩
theorem LT.start (h : LN w0 w l L N) : LT w0 w l L N none 0 0 [] :=
  ⟨fun k => w0.heap.size ≤ k ∧ k < w.heap.size, h.1.mono fun k hk hp => ⟨hp, hk⟩, fun k hk => hk, TRow.nil_ _ _, (fun g hg => by simp [Value.ownBlock] at hg), h.2⟩
theorem LT.row (h : LT w0 w l L N A n c R) : TRow w w0.heap.size A n c R := by
  obtain ⟨Φ, h1, h2, h3, h4, h5⟩ := h
  exact h3
theorem LT.ln (h : LT w0 w l L N A n c R) : LN w0 w l L N := by
  obtain ⟨Φ, h1, h2, h3, h4, h5⟩ := h
  exact ⟨h1.mono fun k _ hk => (h2 k hk).1, h5⟩
theorem LT.low (h : LT w0 w l L N A n c R) : Below w0.heap.size w0 w := h.ln.2
/-- What a call on the lanes leaves, where a box was laid ahead of it. -/
theorem LT.step {L' : List Th} {N' : Nat} (h : LT w0 w l L N A n c R) (hb : Below w.heap.size w V) : ∃ Φ, LaneAt V l L N Φ ∧ ∀ w' Ψ, LaneAt w' l L' N' Ψ → (∀ k, Ψ k → Φ k ∨ V.heap.size ≤ k) → Chg Φ V w' → (∀ p : Addr, w.heap.size ≤ p.block → p.block < V.heap.size → w'.cell? p = V.cell? p) ∧ LT w0 w' l L' N' A n c R := by
  obtain ⟨Φ, h1, h2, h3, h4, h5⟩ := h
  have hs := hb.size
  refine ⟨Φ, h1.below hb, fun w' Ψ ha hΨ hc => ⟨fun p hp hp2 => hc.cell hp2 fun e => by have := (h2 _ e).2; omega, ?_⟩⟩
  have h3V := h3.below hb
  have hsz := hc.size
  refine ⟨fun k => Ψ k ∧ k < w'.heap.size, ha.mono fun k hk hp => ⟨hp, hk⟩, fun k hk => ⟨?_, hk.2⟩, hc.own h3V h4, fun g hg hp => ?_, (h5.trans (hb.mono h5.size)).trans (hc.below (Nat.le_trans h5.size hs) fun i hi => (h2 i hi).1)⟩
  · rcases hΨ k hk.1 with h9 | h9
    · exact (h2 k h9).1
    · have := h5.size; omega
  · rcases hΨ g hp.1 with h9 | h9
    · exact h4 g hg h9
    · have h10 : w.ownsRow w0.heap.size 36 2 (.slice A n c) n (flatT R) := h3
      have := (h10.lt g hg).2
      omega
theorem LT.add (h : LT w0 w l L N A n c R) (hb : Below w.heap.size w V) (hN : N < 900000) (hL : L.length < 900000) {s : ByteArray} (hs : s.size ≤ maxLen) {k : Int} (hk : wfk k) :
    Calls Try.prog 11 #[.pointer (some ⟨l, 0, none⟩), .string s, .int .i64 k] V fun e w' => e = .returned (.bool (at_ L k).isNone) ∧ (∀ p : Addr, w.heap.size ≤ p.block → p.block < V.heap.size → w'.cell? p = V.cell? p) ∧ Hid (LT w0 w' l (addT L s k N) (addN L k N) A n c R) := by
  obtain ⟨Φ, h1, h2⟩ := h.step (L' := addT L s k N) (N' := addN L k N) hb
  cases hx : at_ L k with
  | some x =>
    refine (Add_old h1 s hk hx).mono ?_
    rintro e w' ⟨rfl, hb2⟩
    have e1 : addT L s k N = L := by unfold addT; rw [hx]; rfl
    have e2 : addN L k N = N := by unfold addN; rw [hx]; rfl
    obtain ⟨h3, h4⟩ := h2 w' Φ (by rw [e1, e2]; exact h1.below hb2) (fun k hk => .inl hk) (Chg.of_below hb2)
    exact ⟨rfl, h3, Lib.hid h4⟩
  | none =>
    refine (Add_new h1 hN hs hk hx hL).mono ?_
    rintro e w' ⟨rfl, h5, h6⟩
    have e1 : addT L s k N = L ++ [⟨s, k, N + 1⟩] := by unfold addT; rw [hx]; rfl
    have e2 : addN L k N = N + 1 := by unfold addN; rw [hx]; rfl
    obtain ⟨h3, h4⟩ := h2 w' (more Φ V) (by rw [e1, e2]; exact h5) (fun k hk => hk) h6
    exact ⟨rfl, h3, Lib.hid h4⟩
theorem LT.drop (h : LT w0 w l L N A n c R) (hb : Below w.heap.size w V) (hN : N < 900000) {k : Int} (hk : wfk k) :
    Calls Try.prog 13 #[.pointer (some ⟨l, 0, none⟩), .int .i64 k] V fun e w' => e = .returned (.bool (at_ L k).isSome) ∧ (∀ p : Addr, w.heap.size ≤ p.block → p.block < V.heap.size → w'.cell? p = V.cell? p) ∧ Hid (LT w0 w' l (dropT L k) N A n c R) := by
  obtain ⟨Φ, h1, h2⟩ := h.step (L' := dropT L k) (N' := N) hb
  refine (Drop_any h1 hN hk).mono ?_
  rintro e w' ⟨rfl, h5, h6⟩
  obtain ⟨h3, h4⟩ := h2 w' Φ h5 (fun k hk => .inl hk) h6
  exact ⟨rfl, h3, Lib.hid h4⟩
theorem LT.rows {b : Bool} {R' : List Th} (h : LT w0 w l L N A n c R) {e : Ending} (hr : RowsSaid (Value.slice A n c).ownBlock b w0.heap.size R' w e w') : ∃ A' n' c', e = .returned (.tuple #[.slice A' n' c', .bool b]) ∧ n' = R'.length ∧ Below w.heap.size w w' ∧ LT w0 w' l L N A' n' c' R' := by
  obtain ⟨A', n', c', rfl, h1, h2, h3⟩ := hr
  obtain ⟨Φ, g1, g2, g3, g4, g5⟩ := h
  have hs := h2.size
  refine ⟨A', n', c', rfl, h1.len.symm, h2, Φ, g1.below h2, fun k hk => ⟨(g2 k hk).1, by have := (g2 k hk).2; omega⟩, h1, fun g hg hp => ?_, g5.trans (h2.mono g5.size)⟩
  rcases h3 g hg with h9 | h9
  · exact g4 g h9 hp
  · have := (g2 g hp).2
    omega
theorem LT.radd (h : LT w0 w l L N A n c R) (hn : n < 900000) (s : ByteArray) (k : Int) (M : Nat) :
    Calls Try.prog 10 #[.slice A n c, .string s, .int .i64 k] w fun e w' => ∃ A' n' c', e = .returned (.tuple #[.slice A' n' c', .bool (at_ R k).isNone]) ∧ n' = (addT R s k M).length ∧ Below w.heap.size w w' ∧ Hid (LT w0 w' l L N A' n' c' (addT R s k M)) :=
  (refAdd_any (N := M) h.row h.low.size hn s k).mono fun _ _ hr => by
    obtain ⟨A', n', c', h1, h2, h3, h4⟩ := h.rows hr
    exact ⟨A', n', c', h1, h2, h3, Lib.hid h4⟩
theorem LT.rdrop (h : LT w0 w l L N A n c R) (hn : n < 900000) (k : Int) :
    Calls Try.prog 12 #[.slice A n c, .int .i64 k] w fun e w' => ∃ A' n' c', e = .returned (.tuple #[.slice A' n' c', .bool (at_ R k).isSome]) ∧ n' = (dropT R k).length ∧ Below w.heap.size w w' ∧ Hid (LT w0 w' l L N A' n' c' (dropT R k)) :=
  (refDrop_any h.row h.low.size hn k).mono fun _ _ hr => by
    obtain ⟨A', n', c', h1, h2, h3, h4⟩ := h.rows hr
    exact ⟨A', n', c', h1, h2, h3, Lib.hid h4⟩
theorem length_addT (L : List Th) (s : ByteArray) (k : Int) (N : Nat) : (addT L s k N).length ≤ L.length + 1 := by
  unfold addT
  split
  · omega
  · simp
theorem length_dropT_le (L : List Th) (k : Int) : (dropT L k).length ≤ L.length := List.length_filter_le _ _
theorem addN_le (L : List Th) (k : Int) (N : Nat) : addN L k N ≤ N + 1 := by
  unfold addN
  split <;> omega
end
/-- A call that has come in, off the row of calls. -/
theorem OpsRd.op {w w' : World} {A : Option Addr} {n c : Nat} {l : List OpM} (h : OpsRd w w.heap.size A n c l) (hb : Below w.heap.size w w') {j : Nat} (hj : j < n) :
    ∃ p b o, OpOk p ∧ p ∈ l ∧ A = some ⟨b, o, none⟩ ∧ w'.cell? ⟨b, o + j * 3, none⟩ = some (.int .i64 p.kind) ∧ w'.cell? ⟨b, o + j * 3 + 1, none⟩ = some (.int .i64 p.id) ∧ w'.cell? ⟨b, o + j * 3 + 2, none⟩ = some (.string p.g) := by
  have hl : j < l.length := by rw [h.len]; exact hj
  obtain ⟨b, o, e, hB, hc⟩ := h.place j l[j] (List.getElem?_eq_getElem hl)
  refine ⟨l[j], b, o, h.ok _ (List.getElem_mem hl), List.getElem_mem hl, e, ?_, ?_, ?_⟩
  · rw [hb.cell (p := ⟨b, o + j * 3, none⟩) hB]; exact hc 0 _ rfl
  · rw [hb.cell (p := ⟨b, o + j * 3 + 1, none⟩) hB, Nat.add_assoc]; exact hc 1 _ rfl
  · rw [hb.cell (p := ⟨b, o + j * 3 + 2, none⟩) hB, Nat.add_assoc]; exact hc 2 _ rfl
end Go.Proofs.Yticmdeepfeiobaa
