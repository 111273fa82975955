/- What is proved here: entries and a log, as plain lists and in memory; what the log's small calls answer. -/
import Derived.Test.YtmmddkddjiodbaaERow
import Derived.BigQuiet
import Derived.Deep.QuietTactic
import Derived.StillTailTactics
import Derived.Deep.RegionHeld3
namespace Go.Proofs.Ytmmddkddjiodbaa
open Go Go.RowKit Go.Maps Go.WideMaps

/-- An entry: a term, and data. -/
structure En where
  t : Int
  d : ByteArray
def enC (e : En) : List Value := [.int .i64 e.t, .string e.d]
def enV (e : En) : Value := .agg #[.int .i64 e.t, .string e.d]
def zeroE : En := ⟨0, ⟨#[]⟩⟩
theorem en_len (e : En) : (enC e).length = 2 := rfl
theorem one_en (e : En) : ∀ u ∈ enC e, u.oneCell' = true := by intro u hu; simp [enC] at hu; rcases hu with rfl | rfl <;> rfl
/-- Is entry k there? -/
def isAt (B : Int) (L : List En) (k : Int) : Bool := decide (B < k ∧ k ≤ B + L.length)
def entAt (B : Int) (L : List En) (k : Int) : En := if isAt B L k then L.getD (k - B - 1).toNat zeroE else zeroE
def hasAt (B : Int) (L : List En) (k : Int) : Bool := decide (B ≤ k ∧ k ≤ B + L.length)
def termAt (B T : Int) (L : List En) (k : Int) : Int := if k = B then T else (entAt B L k).t
theorem isAt_some {B : Int} {L : List En} {k : Int} (h : isAt B L k = true) : ∃ j : Nat, k = B + 1 + j ∧ L[j]? = some (entAt B L k) ∧ j < L.length := by
  unfold isAt at h
  rw [decide_eq_true_eq] at h
  refine ⟨(k - B - 1).toNat, by omega, ?_, by omega⟩
  unfold entAt isAt
  rw [if_pos (decide_eq_true h), List.getD, List.getElem?_eq_getElem (by omega)]
  rfl
theorem isAt_none {B : Int} {L : List En} {k : Int} (h : isAt B L k = false) : (k ≤ B ∨ B + L.length < k) ∧ entAt B L k = zeroE := by
  refine ⟨?_, by unfold entAt; rw [if_neg (by rw [h]; simp)]⟩
  unfold isAt at h
  rw [decide_eq_false_iff_not] at h
  omega
theorem entAt_of {B : Int} {L : List En} {k : Int} {j : Nat} {x : En} (hk : k = B + 1 + j) (hx : L[j]? = some x) : isAt B L k = true ∧ entAt B L k = x := by
  have hj := (List.getElem?_eq_some_iff.1 hx).1
  have h1 : isAt B L k = true := by unfold isAt; rw [decide_eq_true_eq]; omega
  refine ⟨h1, ?_⟩
  unfold entAt
  rw [if_pos h1, List.getD, show (k - B - 1).toNat = j by omega, hx]
  rfl

/-- A log in memory: its block, and its row, of which Φ speaks. -/
structure LogV (w : World) (b : Nat) (B T : Int) (A : Option Addr) (n c : Nat) (L : List En) (Φ : Nat → Prop) : Prop where
  blk : w.heap[b]? = some (.cells #[.int .i64 B, .int .i64 T, .slice A n c] 62 (0, 0))
  row : OffRow w 36 2 A n c (L.flatMap enC)
  len : L.length = n
  apart : ∀ ad, A = some ad → ad.block ≠ b ∧ Φ ad.block
  own : Φ b
  bnd : ∀ k, Φ k → k < w.heap.size
def LogAt (w : World) (b : Nat) (B T : Int) (L : List En) (Φ : Nat → Prop) : Prop := ∃ A n c, LogV w b B T A n c L Φ
/-- What has happened to a log's blocks. -/
structure Nxt (w w' : World) (Φ Φ' : Nat → Prop) : Prop where
  chg : Chg Φ w w'
  old : ∀ k, k < w.heap.size → Φ' k → Φ k
section
variable {w w' w0 : World} {b n c : Nat} {B T : Int} {A : Option Addr} {L : List En} {Φ Φ' Φ2 Ψ : Nat → Prop}
theorem LogV.keep (h : LogV w b B T A n c L Φ) (hc : Chg Ψ w w') (hn : ∀ k, Φ k → ¬ Ψ k) : LogV w' b B T A n c L Φ :=
  ⟨hc.heap h.blk (hn _ h.own), h.row.keep hc fun ad had => hn _ (h.apart ad had).2, h.len, h.apart, h.own, fun k hk => Nat.lt_of_lt_of_le (h.bnd k hk) hc.size⟩
theorem LogAt.keep (h : LogAt w b B T L Φ) (hc : Chg Ψ w w') (hn : ∀ k, Φ k → ¬ Ψ k) : LogAt w' b B T L Φ := by
  obtain ⟨A, n, c, h⟩ := h
  exact ⟨A, n, c, h.keep hc hn⟩
theorem LogAt.later (h : LogAt w b B T L Φ) (hb : Below w.heap.size w w') : LogAt w' b B T L Φ := h.keep (Ψ := fun _ => False) (Chg.of_below hb) fun _ _ => id
theorem LogAt.bnd (h : LogAt w b B T L Φ) : ∀ k, Φ k → k < w.heap.size := by
  obtain ⟨A, n, c, h⟩ := h
  exact h.bnd
theorem Nxt.refl (w : World) (Φ : Nat → Prop) : Nxt w w Φ Φ := ⟨Chg.refl _ _, fun _ _ h => h⟩
theorem Nxt.of_below (hb : Below w.heap.size w w') : Nxt w w' Φ Φ := ⟨Chg.of_below hb, fun _ _ h => h⟩
theorem Nxt.trans {w2 : World} (h : Nxt w w' Φ Φ') (k : Nxt w' w2 Φ' Φ2) : Nxt w w2 Φ Φ2 :=
  ⟨h.chg.trans k.chg h.old, fun i hi hp => h.old i hi (k.old i (Nat.lt_of_lt_of_le hi h.chg.size) hp)⟩
theorem Nxt.below (h : Nxt w w' Φ Φ') (hb : Below w0.heap.size w0 w) (hn : ∀ k, Φ k → w0.heap.size ≤ k) : Below w0.heap.size w0 w' := hb.trans (h.chg.below hb.size hn)
theorem Nxt.new (h : Nxt w w' Φ Φ') (hb : w0.heap.size ≤ w.heap.size) (hn : ∀ k, Φ k → w0.heap.size ≤ k) : ∀ k, Φ' k → w0.heap.size ≤ k := fun k hk => by
  by_cases hw : k < w.heap.size
  · exact hn k (h.old k hw hk)
  · omega
/-- What lies apart from a log stays there, and apart. -/
theorem Nxt.srd {α : Type} {f : α → List Value} {M : List α} (h : Nxt w w' Φ Φ') (hr : SRd f w (fun k => ¬ Φ k) A n c M) : SRd f w' (fun k => ¬ Φ' k) A n c M :=
  hr.keep h.chg (fun _ hk => hk) fun k hk hn hp => hn (h.old k hk hp)
theorem Nxt.wrd {α : Type} {f : α → List Value} {M : List α} (h : Nxt w w' Φ Φ') (hr : WRd f w (fun k => ¬ Φ k) A n c M) : WRd f w' (fun k => ¬ Φ' k) A n c M :=
  hr.keep h.chg (fun _ hk => hk) fun k hk hn hp => hn (h.old k hk hp)
theorem Nxt.log {b2 : Nat} {B2 T2 : Int} {L2 : List En} (h : Nxt w w' Φ Φ') (hl : LogAt w b2 B2 T2 L2 Ψ) (hd : ∀ k, Ψ k → ¬ Φ k) : LogAt w' b2 B2 T2 L2 Ψ ∧ ∀ k, Ψ k → ¬ Φ' k :=
  ⟨hl.keep h.chg hd, fun k hk hp => hd k hk (h.old k (hl.bnd k hk) hp)⟩
theorem LogV.cells (h : LogV w b B T A n c L Φ) : w.cell? ⟨b, 0, none⟩ = some (.int .i64 B) ∧ w.cell? ⟨b, 1, none⟩ = some (.int .i64 T) ∧ w.cell? ⟨b, 2, none⟩ = some (.slice A n c) := by
  obtain ⟨h0, h1, h2, _⟩ := three_cells h.blk
  exact ⟨h0, h1, h2⟩
theorem LogV.srd (h : LogV w b B T A n c L Φ) : SRd enC w Φ A n c L := h.row.srd h.len fun ad had => (h.apart ad had).2
end
theorem SRd.en {w : World} {Ψ : Nat → Prop} {A : Option Addr} {n c : Nat} {L : List En} (h : SRd enC w Ψ A n c L) {j : Nat} {x : En} (hx : L[j]? = some x) : ∃ b o, A = some ⟨b, o, none⟩ ∧ b < w.heap.size ∧ Ψ b ∧ w.cell? ⟨b, o + j * 2, none⟩ = some (.int .i64 x.t) ∧ w.cell? ⟨b, o + j * 2 + 1, none⟩ = some (.string x.d) := by
  obtain ⟨b, o, e, hb, hp, hc⟩ := h.cell en_len hx
  exact ⟨b, o, e, hb, hp, hc 0 _ rfl, hc 1 _ rfl⟩

theorem WRd.en {w : World} {Ψ : Nat → Prop} {A : Option Addr} {n c : Nat} {L : List En} (h : WRd enC w Ψ A n c L) {j : Nat} {x : En} (hx : L[j]? = some x) : ∃ b o, A = some ⟨b, o, none⟩ ∧ b < w.heap.size ∧ Ψ b ∧ w.cell? ⟨b, o + j * 2, none⟩ = some (.int .i64 x.t) ∧ w.cell? ⟨b, o + j * 2 + 1, none⟩ = some (.string x.d) := by
  obtain ⟨b, o, e, hb, hp, hc⟩ := h.cell en_len hx
  exact ⟨b, o, e, hb, hp, hc 0 _ rfl, hc 1 _ rfl⟩

/-! ### the small calls -/
section
variable {w : World} {b : Nat} {B T : Int} {L : List En} {Φ : Nat → Prop}
set_option maxHeartbeats 800000 in
theorem New_any (w : World) (x y : Int) : Calls Try.prog 11 #[.int .i64 x, .int .i64 y] w fun e w' => e = .returned (.pointer (some ⟨w.heap.size, 0, none⟩)) ∧ LogAt w' w.heap.size (max x 0) (max y 0) [] (fun k => k = w.heap.size) ∧ Below w.heap.size w w' := by
  have HE : Hid (∀ B T : Int, B = max x 0 → T = max y 0 → LogAt (w.alloc (.cells #[.int .i64 B, .int .i64 T, .slice none 0 0] 62)) w.heap.size (max x 0) (max y 0) [] (fun k => k = w.heap.size)) := Lib.hid fun B T h1 h2 => by
    rw [← h1, ← h2]
    exact ⟨none, 0, 0, heap_alloc_new _ _, OffRow.none_ _ _ _, rfl, (fun ad had => by cases had), rfl, fun k hk => by subst hk; simp⟩
  rcases Int.lt_or_le x 0 with h1 | h1 <;> rcases Int.lt_or_le y 0 with h2 | h2
  all_goals
    go_enter Try.func11, Try.ntmps11
    go_wp2
    go_ret
    exact ⟨rfl, HE.out _ _ (by omega) (by omega), (Below.refl _ _).alloc (Nat.le_refl _) _⟩
theorem Base_any (h : LogAt w b B T L Φ) : Calls Try.prog 26 #[.pointer (some ⟨b, 0, none⟩)] w fun e w' => e = .returned (.int .i64 B) ∧ w = w' := by
  obtain ⟨A, n, c, h⟩ := h
  obtain ⟨c0, c1, c2⟩ := h.cells
  clear h
  go_enter Try.func26, Try.ntmps26
  go_wp2
  go_ret
  exact ⟨rfl, rfl⟩
set_option maxHeartbeats 800000 in
theorem Last_any (h : LogAt w b B T L Φ) (h0 : 0 ≤ B) (h1 : B ≤ 4611686018427387904) (hL : L.length < 1000000) : Calls Try.prog 16 #[.pointer (some ⟨b, 0, none⟩)] w fun e w' => e = .returned (.int .i64 (B + L.length)) ∧ ∃ q, w' = w.drewN q := by
  obtain ⟨A, n, c, h⟩ := h
  obtain ⟨c0, c1, c2⟩ := h.cells
  obtain rfl := h.len
  clear h
  generalize L.length = n at *
  have hw : IntKind.i64.wrap (B + (n : Int)) = B + n := IntWalk.i64_in _ (by omega)
  go_enter Try.func16, Try.ntmps16
  go_wp2_with fail
  go_quiet (fail)
  go_wp2_with fail
  go_ret
  exact ⟨rfl, _, rfl⟩
end
end Go.Proofs.Ytmmddkddjiodbaa
