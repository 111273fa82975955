/- What is proved here: lanes that are new since a world, and what each call makes of them; that the law's 'awake' says yes. -/
import Derived.Test.YticmdeepfeiobaaHeads
import Derived.Deep.RegionHeld3
import Derived.Deep.DeepCutAuto
namespace Go.Proofs.Yticmdeepfeiobaa
open Go Go.RowKit Go.Maps Go.WideMaps

/-- Lanes in memory that are new since w0. -/
def LN (w0 w : World) (l : Nat) (L : List Th) (N : Nat) : Prop := LaneAt w l L N (fun k => w0.heap.size ≤ k) ∧ Below w0.heap.size w0 w
def addN (L : List Th) (k : Int) (N : Nat) : Nat := if (at_ L k).isSome then N else N + 1
section
variable {w0 w w' : World} {l N : Nat} {L : List Th}
theorem LN.later (h : LN w0 w l L N) (hb : Below w.heap.size w w') : LN w0 w' l L N := ⟨h.1.below hb, h.2.trans (hb.mono h.2.size)⟩
theorem LN.new {w0 w w' : World} {l : Nat} (hb : Below w0.heap.size w0 w) (h : Below w.heap.size w w') (ht : LaneAt w' l [] 0 (fun k => w.heap.size ≤ k)) : LN w0 w' l [] 0 :=
  ⟨ht.mono fun k _ hk => by have := hb.size; omega, hb.trans (h.mono hb.size)⟩
theorem LN.add (h : LN w0 w l L N) (hN : N < 900000) (hL : L.length < 900000) {s : ByteArray} (hs : s.size ≤ maxLen) {k : Int} (hk : wfk k) :
    Calls Try.prog 11 #[.pointer (some ⟨l, 0, none⟩), .string s, .int .i64 k] w fun e w' => e = .returned (.bool (at_ L k).isNone) ∧ Hid (LN w0 w' l (addT L s k N) (addN L k N)) := by
  cases hx : at_ L k with
  | some x =>
    refine (Add_old h.1 s hk hx).mono ?_
    rintro e w' ⟨rfl, hb⟩
    refine ⟨rfl, Lib.hid ?_⟩
    unfold addT addN
    rw [hx]
    exact h.later hb
  | none =>
    refine (Add_new h.1 hN hs hk hx hL).mono ?_
    rintro e w' ⟨rfl, h1, h2⟩
    refine ⟨rfl, Lib.hid ?_⟩
    unfold addT addN
    rw [hx]
    have hsz := h.2.size
    refine ⟨h1.mono fun k _ hk => ?_, h.2.trans (h2.below hsz fun i hi => hi)⟩
    rcases hk with hk | hk
    · exact hk
    · omega
theorem LN.drop (h : LN w0 w l L N) (hN : N < 900000) {k : Int} (hk : wfk k) :
    Calls Try.prog 13 #[.pointer (some ⟨l, 0, none⟩), .int .i64 k] w fun e w' => e = .returned (.bool (at_ L k).isSome) ∧ Hid (LN w0 w' l (dropT L k) N) := by
  refine (Drop_any h.1 hN hk).mono ?_
  rintro e w' ⟨rfl, h1, h2⟩
  exact ⟨rfl, Lib.hid ⟨h1, h.2.trans (h2.below h.2.size fun i hi => hi)⟩⟩
theorem LN.heads (h : LN w0 w l L N) (hL : L.length < 900000) (hS : headsT L = [] ∨ SortOK (headsT L).length) :
    Calls Try.prog 18 #[.pointer (some ⟨l, 0, none⟩)] w fun e w' => ∃ A c, e = .returned (.slice A ((headsT L).map Th.id).length c) ∧ Hid (w'.ownsRow w.heap.size 3 1 (.slice A ((headsT L).map Th.id).length c) ((headsT L).map Th.id).length (((headsT L).map Th.id).map (Value.int .i64)) ∧ LN w0 w' l L N) := by
  refine (Heads_any h.1 hL hS).mono ?_
  rintro e w' ⟨A, c, rfl, h1, h2⟩
  exact ⟨A, c, rfl, Lib.hid ⟨h1, h.later h2⟩⟩
theorem LN.len (h : LN w0 w l L N) : Calls Try.prog 15 #[.pointer (some ⟨l, 0, none⟩)] w fun e w' => e = .returned (.int .i64 L.length) ∧ w = w' := Len_any h.1
theorem LN.group (h : LN w0 w l L N) {k : Int} (hk : wfk k) : Calls Try.prog 22 #[.pointer (some ⟨l, 0, none⟩), .int .i64 k] w fun e w' => e = groupE (at_ L k) ∧ Hid (LN w0 w' l L N) :=
  (Group_any h.1 hk).mono fun _ _ ⟨he, hb⟩ => ⟨he, Lib.hid (h.later hb)⟩
theorem LN.head (h : LN w0 w l L N) {s : ByteArray} (hs : s.size ≤ maxLen) : Calls Try.prog 24 #[.pointer (some ⟨l, 0, none⟩), .string s] w fun e w' => e = headE (ofG L s) ∧ w = w' := Head_any h.1 hs
end

abbrev strA : ByteArray := ⟨#[97]⟩
abbrev strB : ByteArray := ⟨#[98]⟩
abbrev strC : ByteArray := ⟨#[99]⟩
def LA : List Th := [⟨strA, 1, 1⟩, ⟨strB, 2, 2⟩, ⟨strA, 3, 3⟩]
def LB : List Th := [⟨strB, 2, 2⟩, ⟨strA, 3, 3⟩]
theorem awake_add : addT (addT (addT [] strA 1 0) strB 2 1) strA 3 2 = LA := by kernel_rfl
theorem awake_drop : dropT LA 1 = LB := by kernel_rfl
theorem awake_heads : (headsT LB).map Th.id = [2, 3] := by kernel_rfl
theorem awake_hl : (headsT LB).length = 2 := by kernel_rfl

set_option maxHeartbeats 1600000 in
set_option maxRecDepth 100000 in
theorem awake_any (w : World) : Calls Try.prog 8 #[] w fun e w' => e = .returned (.bool true) ∧ Below w.heap.size w w' := by
  have HN := Lib.hid (New_any w)
  go_enter Try.func8, Try.ntmps8
  go_upto_region 4 with (go_at_call 9; refine HN.out.mono ?_; rintro e w1 ⟨rfl, hb, ht⟩; have HT := Lib.hid (LN.new (Below.refl _ _) hb ht); clear hb ht)
  generalize w.heap.size + 2 = l at *
  have C1 := Lib.hid (HT.out.add (by omega) (by simp) (s := strA) (by unfold maxLen; decide) (k := 1) (by unfold wfk; decide))
  have e1 : (at_ [] 1).isNone = true := rfl
  rw [e1] at C1
  have C2 : Hid (∀ w2, LN w w2 l (addT [] strA 1 0) (addN [] 1 0) → Calls Try.prog 11 #[.pointer (some ⟨l, 0, none⟩), .string strB, .int .i64 2] w2 fun e w' => e = .returned (.bool true) ∧ Hid (LN w w' l [⟨strA, 1, 1⟩, ⟨strB, 2, 2⟩] 2)) := Lib.hid fun w2 h => h.add (by decide) (by decide) (s := strB) (by unfold maxLen; decide) (k := 2) (by unfold wfk; decide)
  have C3 : Hid (∀ w2, LN w w2 l [⟨strA, 1, 1⟩, ⟨strB, 2, 2⟩] 2 → Calls Try.prog 11 #[.pointer (some ⟨l, 0, none⟩), .string strA, .int .i64 3] w2 fun e w' => e = .returned (.bool true) ∧ Hid (LN w w' l LA 3)) := Lib.hid fun w2 h => h.add (by decide) (by decide) (s := strA) (by unfold maxLen; decide) (k := 3) (by unfold wfk; decide)
  have C4 : Hid (∀ w2, LN w w2 l LA 3 → Calls Try.prog 13 #[.pointer (some ⟨l, 0, none⟩), .int .i64 1] w2 fun e w' => e = .returned (.bool true) ∧ Hid (LN w w' l LB 3)) := Lib.hid fun w2 h => by
    have := h.drop (by decide) (k := 1) (by unfold wfk; decide)
    rwa [awake_drop] at this
  have C5 : Hid (∀ w2, LN w w2 l LB 3 → Calls Try.prog 11 #[.pointer (some ⟨l, 0, none⟩), .string strC, .int .i64 2] w2 fun e w' => e = .returned (.bool false) ∧ Hid (LN w w' l LB 3)) := Lib.hid fun w2 h => h.add (by decide) (by decide) (s := strC) (by unfold maxLen; decide) (k := 2) (by unfold wfk; decide)
  have C6 : Hid (∀ w2, LN w w2 l LB 3 → Calls Try.prog 18 #[.pointer (some ⟨l, 0, none⟩)] w2 fun e w' => ∃ b cap, e = .returned (.slice (some ⟨b, 0, none⟩) 2 cap) ∧ 2 ≤ cap ∧ cap ≤ 9223372036854775807 ∧ w'.cell? ⟨b, 0, none⟩ = some (.int .i64 2) ∧ w'.cell? ⟨b, 1, none⟩ = some (.int .i64 3) ∧ Hid (LN w w' l LB 3)) := Lib.hid fun w2 h => by
    have := h.heads (by decide) (.inr (by rw [awake_hl]; exact sort2))
    rw [awake_heads] at this
    refine this.mono ?_
    rintro e w' ⟨A, c, rfl, HX⟩
    obtain ⟨b, cap, e2, _⟩ := HX.out.1.form (by decide)
    obtain ⟨rfl, rfl⟩ : A = some ⟨b, 0, none⟩ ∧ c = cap := by simpa using e2
    obtain ⟨_, _, q1, q2⟩ := own_cells HX.out.1
    unfold maxLen at q2
    refine ⟨b, c, rfl, q1, by omega, ?_, ?_, Lib.hid HX.out.2⟩
    · have := HX.out.1.cellAt 0 (by decide)
      simpa using this
    · have := HX.out.1.cellAt 1 (by decide)
      simpa using this
  have C7 : Hid (∀ w2, LN w w2 l LB 3 → Calls Try.prog 15 #[.pointer (some ⟨l, 0, none⟩)] w2 fun e w' => e = .returned (.int .i64 2) ∧ w2 = w') := Lib.hid fun w2 h => h.len
  clear HN HT e1
  go_upto_region 7 with (first
    | (go_at_call 11; refine C1.out.mono ?_; rintro e w2 ⟨rfl, HT2⟩; have D2 := Lib.hid (C2.out _ HT2.out); clear C1)
    | (go_at_call 11; refine D2.out.mono ?_; rintro e w3 ⟨rfl, HT3⟩; have D3 := Lib.hid (C3.out _ HT3.out); clear D2)
    | (go_at_call 11; refine D3.out.mono ?_; rintro e w4 ⟨rfl, HT4⟩; have D4 := Lib.hid (C4.out _ HT4.out); clear D3)
    | (go_at_call 13; refine D4.out.mono ?_; rintro e w5 ⟨rfl, HT5⟩; have D5 := Lib.hid (C5.out _ HT5.out); clear D4)
    | (go_at_call 11; refine D5.out.mono ?_; rintro e w6 ⟨rfl, HT6⟩; have D6 := Lib.hid (C6.out _ HT6.out); clear D5)
    | (go_at_call 18; refine D6.out.mono ?_; rintro e w7 ⟨b, cap, rfl, q0, q1, q2, q3, HT7⟩; have D7 := Lib.hid (C7.out _ HT7.out); clear D6))
  go_wp2_with (go_at_call 15; refine D7.out.mono ?_; rintro e w8 ⟨rfl, rfl⟩)
  go_ret
  exact ⟨rfl, HT7.out.2⟩
end Go.Proofs.Yticmdeepfeiobaa
