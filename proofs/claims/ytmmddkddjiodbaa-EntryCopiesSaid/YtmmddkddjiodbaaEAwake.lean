/- What is proved here: logs that are new since a world; that the laws' awake says yes. -/
import Derived.Test.YtmmddkddjiodbaaESame
namespace Go.Proofs.Ytmmddkddjiodbaa
open Go Go.RowKit Go.Maps Go.WideMaps

/-- A log that is new since w. -/
def LN (w wr : World) (b : Nat) (B T : Int) (L : List En) : Prop := ∃ Φ, LogAt wr b B T L Φ ∧ (∀ k, Φ k → w.heap.size ≤ k) ∧ Below w.heap.size w wr
section
variable {w wr w' : World} {b : Nat} {B T B' T' : Int} {L L' : List En} {Φ : Nat → Prop}
theorem LN.bel (h : LN w wr b B T L) : Below w.heap.size w wr := by
  obtain ⟨_, _, _, h⟩ := h
  exact h
theorem LN.later (h : LN w wr b B T L) (hb : Below wr.heap.size wr w') : LN w w' b B T L := by
  obtain ⟨Φ, h1, h2, h3⟩ := h
  exact ⟨Φ, h1.later hb, h2, h3.trans (hb.mono h3.size)⟩
theorem LN.of_left (hn : ∀ k, Φ k → w.heap.size ≤ k) (hb : Below w.heap.size w wr) (h : Left wr b B' T' L' Φ w') : LN w w' b B' T' L' := by
  obtain ⟨Φ', h1, h2⟩ := h
  exact ⟨Φ', h1, h2.new hb.size hn, h2.below hb hn⟩
theorem New_ln (hb : Below w.heap.size w wr) (x y : Int) : Calls Try.prog 11 #[.int .i64 x, .int .i64 y] wr fun e w' => e = .returned (.pointer (some ⟨wr.heap.size, 0, none⟩)) ∧ Hid (LN w w' wr.heap.size (max x 0) (max y 0) []) :=
  (New_any wr x y).mono (by
    rintro e w' ⟨rfl, h1, h2⟩
    exact ⟨rfl, Lib.hid ⟨_, h1, fun k hk => by rw [hk]; exact hb.size, hb.trans (h2.mono hb.size)⟩⟩)
theorem LN.add (h : LN w wr b B T L) (h0 : 0 ≤ B) (h1 : B ≤ 4398046511104) (hL : L.length < 500000) (x : En) : Calls Try.prog 14 #[.pointer (some ⟨b, 0, none⟩), .agg #[.int .i64 x.t, .string x.d]] wr fun e w' => e = .returned (.int .i64 (B + (L ++ [x]).length)) ∧ Hid (LN w w' b B T (L ++ [x])) := by
  obtain ⟨Φ, k1, k2, k3⟩ := h
  refine (Add_any k1 h0 (by omega) (by omega) x).mono ?_
  rintro e w' ⟨rfl, hl⟩
  exact ⟨rfl, Lib.hid (LN.of_left k2 k3 hl)⟩
theorem LN.last (h : LN w wr b B T L) (h0 : 0 ≤ B) (h1 : B ≤ 4398046511104) (hL : L.length < 500000) : Calls Try.prog 16 #[.pointer (some ⟨b, 0, none⟩)] wr fun e w' => e = .returned (.int .i64 (B + L.length)) ∧ Hid (LN w w' b B T L ∧ Below wr.heap.size wr w') := by
  have h' := h
  obtain ⟨Φ, k1, k2, k3⟩ := h
  refine (Last_any k1 h0 (by omega) (by omega)).mono ?_
  rintro e w' ⟨rfl, q, rfl⟩
  have hb := (Chg.drewN (Φ := fun _ => False) wr q).below (Nat.le_refl _) fun _ h => h.elim
  exact ⟨rfl, Lib.hid ⟨h'.later hb, hb⟩⟩
theorem LN.base (h : LN w wr b B T L) : Calls Try.prog 26 #[.pointer (some ⟨b, 0, none⟩)] wr fun e w' => e = .returned (.int .i64 B) ∧ wr = w' := by
  obtain ⟨Φ, k1, k2, k3⟩ := h
  exact Base_any k1
theorem LN.get (h : LN w wr b B T L) (h0 : 0 ≤ B) (h1 : B ≤ 4398046511104) (hL : L.length < 500000) {k : Int} (hk : I64 k) : Calls Try.prog 27 #[.pointer (some ⟨b, 0, none⟩), .int .i64 k] wr fun e w' => e = .returned (.tuple #[.agg #[.int .i64 (entAt B L k).t, .string (entAt B L k).d], .bool (isAt B L k)]) ∧ Hid (LN w w' b B T L ∧ Below wr.heap.size wr w') := by
  have h' := h
  obtain ⟨Φ, k1, k2, k3⟩ := h
  refine (Get_any k1 h0 (by omega) (by omega) hk).mono ?_
  rintro e w' ⟨rfl, hb⟩
  exact ⟨rfl, Lib.hid ⟨h'.later hb, hb⟩⟩
theorem LN.term (h : LN w wr b B T L) (h0 : 0 ≤ B) (h1 : B ≤ 4398046511104) (hL : L.length < 500000) {k : Int} (hk : I64 k) : Calls Try.prog 21 #[.pointer (some ⟨b, 0, none⟩), .int .i64 k] wr fun e w' => e = .returned (.tuple #[.int .i64 (termAt B T L k), .bool (hasAt B L k)]) ∧ Hid (LN w w' b B T L ∧ Below wr.heap.size wr w') := by
  have h' := h
  obtain ⟨Φ, k1, k2, k3⟩ := h
  refine (Term_any k1 h0 (by omega) (by omega) hk).mono ?_
  rintro e w' ⟨rfl, hb⟩
  exact ⟨rfl, Lib.hid ⟨h'.later hb, hb⟩⟩
theorem LN.newer (h : LN w wr b B T L) (h0 : 0 ≤ B) (h1 : B ≤ 4398046511104) (hL : L.length < 500000) (last term : Int) : Calls Try.prog 22 #[.pointer (some ⟨b, 0, none⟩), .int .i64 last, .int .i64 term] wr fun e w' => e = .returned (.bool (newerF B T L last term)) ∧ Hid (LN w w' b B T L ∧ Below wr.heap.size wr w') := by
  have h' := h
  obtain ⟨Φ, k1, k2, k3⟩ := h
  refine (Newer_any k1 h0 (by omega) (by omega) last term).mono ?_
  rintro e w' ⟨rfl, hb⟩
  exact ⟨rfl, Lib.hid ⟨h'.later hb, hb⟩⟩
theorem LN.pass (h : LN w wr b B T L) (h0 : 0 ≤ B) (h1 : B ≤ 4398046511104) (hL : L.length < 500000) {k : Int} (hk : I64 k) : Calls Try.prog 15 #[.pointer (some ⟨b, 0, none⟩), .int .i64 k] wr fun e w' => e = .returned (.int .i64 (passR B T L k).2.2.2) ∧ Hid (LN w w' b (passR B T L k).1 (passR B T L k).2.1 (passR B T L k).2.2.1) := by
  obtain ⟨Φ, k1, k2, k3⟩ := h
  unfold passR
  cases hh : hasAt B L k with
  | true =>
    rw [if_pos rfl]
    refine (Pass_ok k1 h0 (by omega) (by omega) hh).mono ?_
    rintro e w' ⟨rfl, hl⟩
    exact ⟨rfl, Lib.hid (LN.of_left k2 k3 hl)⟩
  | false =>
    rw [if_neg (by simp)]
    refine (Pass_bad k1 h0 (by omega) (by omega) hk hh).mono ?_
    rintro e w' ⟨rfl, hl⟩
    exact ⟨rfl, Lib.hid (LN.of_left k2 k3 hl)⟩
/-- Merge of a row of one's own, that was made just now. -/
theorem LN.merge (h : LN w wr b B T L) (h0 : 0 ≤ B) (h1 : B ≤ 4398046511104) (hL : L.length < 500000) {V : World} (hV : Below wr.heap.size wr V) {A : Option Addr} {n c : Nat} {M : List En} (hM : SRd enC V (fun k => k < w.heap.size ∨ wr.heap.size ≤ k) A n c M) (hn : n < 100000) {y : Int} (hy : I64 y) (term : Int) :
    Calls Try.prog 24 #[.pointer (some ⟨b, 0, none⟩), .int .i64 y, .int .i64 term, .slice A n c] V fun e w' => e = .returned (.tuple #[.int .i64 (mergeF B T L y term M).2.1, .bool (mergeF B T L y term M).2.2]) ∧ Hid (LN w w' b B T (mergeF B T L y term M).1) := by
  obtain ⟨Φ, k1, k2, k3⟩ := h
  refine (Merge_any (k1.later hV) h0 (by omega) (by omega) (hM.mono fun k hk hp e => ?_) hn hy term).mono ?_
  · have := k1.bnd k e
    have := k2 k e
    omega
  · rintro e w' ⟨rfl, hl⟩
    exact ⟨rfl, Lib.hid (LN.of_left k2 (k3.trans (hV.mono k3.size)) hl)⟩
end
abbrev strX : ByteArray := ⟨#[120]⟩
def AW1 : List En := [⟨1, ⟨#[]⟩⟩]
def AW2 : List En := [⟨1, ⟨#[]⟩⟩, ⟨1, ⟨#[]⟩⟩]
def AW3 : List En := [⟨1, ⟨#[]⟩⟩, ⟨1, ⟨#[]⟩⟩, ⟨2, ⟨#[]⟩⟩]
def AW4 : List En := [⟨1, ⟨#[]⟩⟩, ⟨3, strX⟩]
theorem aw_merge1 : mergeF 0 0 AW3 1 1 [⟨3, strX⟩] = (AW4, 2, true) := by kernel_rfl
theorem aw_merge2 : mergeF 0 0 AW4 2 1 [] = (AW4, 0, false) := by kernel_rfl
theorem aw_get : entAt 0 AW4 2 = ⟨3, strX⟩ ∧ isAt 0 AW4 2 = true := by constructor <;> kernel_rfl
theorem aw_new1 : newerF 0 0 AW4 2 3 = true := by kernel_rfl
theorem aw_new2 : newerF 0 0 AW4 9 2 = false := by kernel_rfl
set_option maxHeartbeats 3200000 in
set_option maxRecDepth 100000 in
theorem awake_any (w : World) : Calls Try.prog 10 #[] w fun e w' => e = .returned (.bool true) ∧ Below w.heap.size w w' := by
  have HN : Hid (Calls Try.prog 11 #[.int .i64 0, .int .i64 0] w fun e w' => e = .returned (.pointer (some ⟨w.heap.size, 0, none⟩)) ∧ Hid (LN w w' w.heap.size 0 0 [])) := Lib.hid (New_ln (Below.refl _ _) 0 0)
  have C1 : Hid (∀ wr, LN w wr w.heap.size 0 0 [] → Calls Try.prog 14 #[.pointer (some ⟨w.heap.size, 0, none⟩), .agg #[.int .i64 1, .string ⟨#[]⟩]] wr fun e w' => e = .returned (.int .i64 1) ∧ Hid (LN w w' w.heap.size 0 0 AW1)) := Lib.hid fun wr h => h.add (by omega) (by omega) (by simp) ⟨1, ⟨#[]⟩⟩
  have C2 : Hid (∀ wr, LN w wr w.heap.size 0 0 AW1 → Calls Try.prog 14 #[.pointer (some ⟨w.heap.size, 0, none⟩), .agg #[.int .i64 1, .string ⟨#[]⟩]] wr fun e w' => e = .returned (.int .i64 2) ∧ Hid (LN w w' w.heap.size 0 0 AW2)) := Lib.hid fun wr h => h.add (by omega) (by omega) (by decide) ⟨1, ⟨#[]⟩⟩
  have C3 : Hid (∀ wr, LN w wr w.heap.size 0 0 AW2 → Calls Try.prog 14 #[.pointer (some ⟨w.heap.size, 0, none⟩), .agg #[.int .i64 2, .string ⟨#[]⟩]] wr fun e w' => e = .returned (.int .i64 3) ∧ Hid (LN w w' w.heap.size 0 0 AW3)) := Lib.hid fun wr h => h.add (by omega) (by omega) (by decide) ⟨2, ⟨#[]⟩⟩
  have C4 : Hid (∀ wr, LN w wr w.heap.size 0 0 AW3 → Calls Try.prog 24 #[.pointer (some ⟨w.heap.size, 0, none⟩), .int .i64 1, .int .i64 1, .slice (some ⟨wr.heap.size, 0, none⟩) 1 1] (wr.alloc (.cells #[.int .i64 3, .string strX] 36)) fun e w' => e = .returned (.tuple #[.int .i64 2, .bool true]) ∧ Hid (LN w w' w.heap.size 0 0 AW4)) := Lib.hid fun wr h => by
    have hrow : SRd enC (wr.alloc (.cells #[.int .i64 3, .string strX] 36)) (fun k => k < w.heap.size ∨ wr.heap.size ≤ k) (some ⟨wr.heap.size, 0, none⟩) 1 1 [⟨3, strX⟩] := ⟨rfl, Nat.le_refl _, by unfold maxLen; omega, (fun e => by cases e), news_row wr [.int .i64 3, .string strX] _, fun ad had => by
      obtain rfl := Option.some.inj had
      exact ⟨_, _, rfl, by simp, .inr (Nat.le_refl _)⟩⟩
    have := h.merge (by omega) (by omega) (by decide) ((Below.refl _ _).alloc (Nat.le_refl _) _) hrow (by omega) (y := 1) (by unfold I64; omega) 1
    rw [aw_merge1] at this
    exact this
  have C5 : Hid (∀ wr, LN w wr w.heap.size 0 0 AW4 → Calls Try.prog 24 #[.pointer (some ⟨w.heap.size, 0, none⟩), .int .i64 2, .int .i64 1, .slice none 0 0] wr fun e w' => e = .returned (.tuple #[.int .i64 0, .bool false]) ∧ Hid (LN w w' w.heap.size 0 0 AW4)) := Lib.hid fun wr h => by
    have := h.merge (by omega) (by omega) (by decide) (Below.refl _ _) (SRd.none_ enC wr _) (by omega) (y := 2) (by unfold I64; omega) 1
    rw [aw_merge2] at this
    exact this
  have C6 : Hid (∀ wr, LN w wr w.heap.size 0 0 AW4 → Calls Try.prog 27 #[.pointer (some ⟨w.heap.size, 0, none⟩), .int .i64 2] wr fun e w' => e = .returned (.tuple #[.agg #[.int .i64 3, .string strX], .bool true]) ∧ Hid (LN w w' w.heap.size 0 0 AW4)) := Lib.hid fun wr h => by
    have := h.get (by omega) (by omega) (by decide) (k := 2) (by unfold I64; omega)
    rw [aw_get.1, aw_get.2] at this
    refine this.mono ?_
    rintro e w' ⟨rfl, hh⟩
    exact ⟨rfl, Lib.hid hh.out.1⟩
  have C7 : Hid (∀ r wr, (LN w wr w.heap.size 0 0 AW4 ∧ wr.heap[r]? = some (.cells #[.int .i64 3, .string strX] 36 (0, 0))) → Calls Try.prog 16 #[.pointer (some ⟨w.heap.size, 0, none⟩)] wr fun e w' => e = .returned (.int .i64 2) ∧ w'.cell? ⟨r, 0, none⟩ = some (.int .i64 3) ∧ w'.cell? ⟨r, 1, none⟩ = some (.string strX) ∧ Hid (LN w w' w.heap.size 0 0 AW4 ∧ w'.heap[r]? = some (.cells #[.int .i64 3, .string strX] 36 (0, 0)))) := Lib.hid fun r wr ⟨h, hr⟩ => by
    have := h.last (by omega) (by omega) (by decide)
    refine this.mono ?_
    rintro e w' ⟨rfl, hh⟩
    have hr2 := (hh.out.2.block _ (Array.getElem?_eq_some_iff.1 hr).1).trans hr
    have h2 := two_cells hr2
    exact ⟨rfl, h2.1, h2.2.1, Lib.hid ⟨hh.out.1, hr2⟩⟩
  have C8 : Hid (∀ r wr, (LN w wr w.heap.size 0 0 AW4 ∧ wr.heap[r]? = some (.cells #[.int .i64 3, .string strX] 36 (0, 0))) → Calls Try.prog 22 #[.pointer (some ⟨w.heap.size, 0, none⟩), .int .i64 2, .int .i64 3] wr fun e w' => e = .returned (.bool true) ∧ w'.cell? ⟨r, 0, none⟩ = some (.int .i64 3) ∧ w'.cell? ⟨r, 1, none⟩ = some (.string strX) ∧ Hid (LN w w' w.heap.size 0 0 AW4 ∧ w'.heap[r]? = some (.cells #[.int .i64 3, .string strX] 36 (0, 0)))) := Lib.hid fun r wr ⟨h, hr⟩ => by
    have := h.newer (by omega) (by omega) (by decide) 2 3
    rw [aw_new1] at this
    refine this.mono ?_
    rintro e w' ⟨rfl, hh⟩
    have hr2 := (hh.out.2.block _ (Array.getElem?_eq_some_iff.1 hr).1).trans hr
    have h2 := two_cells hr2
    exact ⟨rfl, h2.1, h2.2.1, Lib.hid ⟨hh.out.1, hr2⟩⟩
  have C9 : Hid (∀ r wr, (LN w wr w.heap.size 0 0 AW4 ∧ wr.heap[r]? = some (.cells #[.int .i64 3, .string strX] 36 (0, 0))) → Calls Try.prog 22 #[.pointer (some ⟨w.heap.size, 0, none⟩), .int .i64 9, .int .i64 2] wr fun e w' => e = .returned (.bool false) ∧ w'.cell? ⟨r, 0, none⟩ = some (.int .i64 3) ∧ w'.cell? ⟨r, 1, none⟩ = some (.string strX) ∧ Hid (LN w w' w.heap.size 0 0 AW4 ∧ w'.heap[r]? = some (.cells #[.int .i64 3, .string strX] 36 (0, 0)))) := Lib.hid fun r wr ⟨h, hr⟩ => by
    have := h.newer (by omega) (by omega) (by decide) 9 2
    rw [aw_new2] at this
    refine this.mono ?_
    rintro e w' ⟨rfl, hh⟩
    have hr2 := (hh.out.2.block _ (Array.getElem?_eq_some_iff.1 hr).1).trans hr
    have h2 := two_cells hr2
    exact ⟨rfl, h2.1, h2.2.1, Lib.hid ⟨hh.out.1, hr2⟩⟩
  have HEND : Hid (∀ wr, LN w wr w.heap.size 0 0 AW4 → Below w.heap.size w wr) := Lib.hid fun wr h => h.bel
  have HAL : Hid (∀ wr, LN w wr w.heap.size 0 0 AW4 → LN w (wr.alloc (.cells #[.int .i64 3, .string strX] 36)) w.heap.size 0 0 AW4 ∧ (wr.alloc (.cells #[.int .i64 3, .string strX] 36)).heap[wr.heap.size]? = some (.cells #[.int .i64 3, .string strX] 36 (0, 0))) := Lib.hid fun wr h => ⟨h.later ((Below.refl _ _).alloc (Nat.le_refl _) _), heap_alloc_new _ _⟩
  generalize w.heap.size = b at *
  go_enter Try.func10, Try.ntmps10
  go_upto_region 9 with (first
    | (go_at_call 11; refine HN.out.mono ?_; rintro e w1 ⟨rfl, H1⟩; have D1 := Lib.hid (C1.out _ H1.out))
    | (go_at_call 14; refine D1.out.mono ?_; rintro e w2 ⟨rfl, H2⟩; have D2 := Lib.hid (C2.out _ H2.out); clear D1)
    | (go_at_call 14; refine D2.out.mono ?_; rintro e w3 ⟨rfl, H3⟩; have D3 := Lib.hid (C3.out _ H3.out); clear D2)
    | (go_at_call 14; refine D3.out.mono ?_; rintro e w4 ⟨rfl, H4⟩; have D4 := Lib.hid (C4.out _ H4.out); clear D3)
    | (go_at_call 24; refine D4.out.mono ?_; rintro e w5 ⟨rfl, H5⟩; have D5 := Lib.hid (C5.out _ H5.out); clear D4)
    | (go_at_call 24; refine D5.out.mono ?_; rintro e w6 ⟨rfl, H6⟩; have D6 := Lib.hid (C6.out _ H6.out); clear D5))
  go_wp2_with (first
    | (go_at_call 27; refine D6.out.mono ?_; rintro e w7 ⟨rfl, H7⟩; have D7 := Lib.hid (C7.out _ _ (HAL.out _ H7.out)))
    | (go_at_call 16; refine D7.out.mono ?_; rintro e w8 ⟨rfl, z0, z1, H8⟩; have D8 := Lib.hid (C8.out _ _ H8.out))
    | (go_at_call 22; refine D8.out.mono ?_; rintro e w9 ⟨rfl, y0, y1, H9⟩; have D9 := Lib.hid (C9.out _ _ H9.out); clear D8)
    | (go_at_call 22; refine D9.out.mono ?_; rintro e w10 ⟨rfl, x0, x1, H10⟩))
  go_ret
  exact ⟨rfl, HEND.out _ H10.out.1⟩
end Go.Proofs.Ytmmddkddjiodbaa
