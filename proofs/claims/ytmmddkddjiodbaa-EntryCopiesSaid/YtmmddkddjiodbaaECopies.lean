/- What is proved here: a row of one's own whose Terms are written over, beside what was there; what is done to a copy. -/
import Derived.Test.YtmmddkddjiodbaaEMatchL
namespace Go.Proofs.Ytmmddkddjiodbaa
open Go Go.RowKit Go.Maps Go.WideMaps

/-- A row made since V, of which each Term can be written. -/
structure Gv (V wr : World) (A : Option Addr) (n c : Nat) : Prop where
  bel : Below V.heap.size V wr
  cap : n ≤ c ∧ c ≤ 9223372036854775807
  blk : 0 < n → ∃ g cur, A = some ⟨g, 0, none⟩ ∧ V.heap.size ≤ g ∧ wr.heap[g]? = some (.cells cur 36 (0, 0)) ∧ ∀ k, k < n → ∃ i, cur[k * 2]? = some (.int .i64 i)
section
variable {V wr wr' : World} {A : Option Addr} {n c : Nat}
theorem Gv.of_own {base : Nat} {L : List En} (h : wr.ownsRow base 36 2 (.slice A n c) n (L.flatMap enC)) (hL : L.length = n) (hb : Below V.heap.size V wr) (hV : V.heap.size ≤ base) : Gv V wr A n c := by
  have hcap := (OffRow.of_own h).caps
  refine ⟨hb, hcap, fun hn => ?_⟩
  rcases h.2 with ⟨e1, h0⟩ | ⟨g, cap, cur, e1, hb2, hg, hnc, hcm, hcs, ht⟩
  · cases e1
    omega
  · cases e1
    refine ⟨g, cur, rfl, by omega, hg, fun k hk => ?_⟩
    obtain ⟨x, hx⟩ : ∃ x, L[k]? = some x := ⟨_, List.getElem?_eq_getElem (by omega)⟩
    have h1 := fm_at en_len hx 0 (.int .i64 x.t) rfl
    rw [← ht, List.getElem?_take] at h1
    split at h1
    · rw [Array.getElem?_toList] at h1
      exact ⟨x.t, h1⟩
    · cases h1
theorem Gv.chg (h : Gv V wr A n c) {Φ : Nat → Prop} (hc : Chg Φ wr wr') (hn : ∀ ad, A = some ad → ¬ Φ ad.block) (hΦ : ∀ k, Φ k → V.heap.size ≤ k) : Gv V wr' A n c := by
  refine ⟨h.bel.trans (hc.below h.bel.size hΦ), h.cap, fun h0 => ?_⟩
  obtain ⟨g, cur, e, h1, h2, h3⟩ := h.blk h0
  exact ⟨g, cur, e, h1, hc.heap h2 (hn _ e), h3⟩
theorem Gv.later (h : Gv V wr A n c) (hb : Below wr.heap.size wr wr') : Gv V wr' A n c :=
  h.chg (Φ := fun _ => False) (Chg.of_below hb) (fun _ _ h => h) fun _ h => h.elim
theorem Gv.round (h : Gv V wr A n c) {k : Nat} (hk : k < n) : ∃ g i, A = some ⟨g, 0, none⟩ ∧ wr.cell? ⟨g, k * 2, none⟩ = some (.int .i64 i) ∧ wr.frozen? ⟨g, k * 2, none⟩ = false ∧ Hid (∀ v, Gv V (wr.setCell ⟨g, k * 2, none⟩ (.int .i64 v)) A n c) ∧ Hid (∀ v, Chg (fun i => i = g) wr (wr.setCell ⟨g, k * 2, none⟩ (.int .i64 v))) := by
  obtain ⟨g, cur, e, h1, h2, h3⟩ := h.blk (by omega)
  obtain ⟨i, hi⟩ := h3 k hk
  have hlt := (Array.getElem?_eq_some_iff.1 hi).1
  refine ⟨g, i, e, ?_, ?_, Lib.hid fun v => ⟨?_, h.cap, fun _ => ⟨g, _, e, h1, heap_setCell_same h2 (k * 2) (.int .i64 v), fun j hj => ?_⟩⟩, Lib.hid fun v => Chg.set wr _ _ _⟩
  · simp [World.cell?, h2, hi]
  · simp [World.frozen?, h2]
  · exact h.bel.trans ((Chg.set wr _ _ _ : Chg (fun i => i = g) wr _).below h.bel.size fun x hx => by rw [hx]; exact h1)
  · by_cases e2 : j = k
    · subst e2
      exact ⟨v, by rw [Array.getElem?_setIfInBounds_self_of_lt hlt]⟩
    · rw [Array.getElem?_setIfInBounds_ne (by omega)]
      exact h3 j hj
end
theorem mergeF_len {B T : Int} {L M : List En} {term : Int} (h0 : 0 ≤ B) : (mergeF B T L B term M).1.length ≤ L.length + M.length := by
  unfold mergeF
  rw [if_neg (by omega), if_neg (by omega)]
  split
  · exact (mergeL_len M L (B - B).toNat (by omega)).2
  · dsimp only; omega
abbrev e77 : En := ⟨77, ⟨#[]⟩⟩
set_option maxHeartbeats 3200000 in
theorem copies_calls {w V : World} {b : Nat} {B T : Int} {L : List En} {Φ : Nat → Prop} (h : LogAt V b B T L Φ) (hbw : Below w.heap.size w V) (h0 : 0 ≤ B) (h1 : B ≤ 4398046511104) (hL : L.length < 100000) {A : Option Addr} {n c : Nat} {M : List En} (hM : WRd enC w (fun k => k < w.heap.size) A n c M) (hn : n < 100000) :
    Calls Try.prog 13 #[.pointer (some ⟨b, 0, none⟩)] V fun e w2 => ∃ b', e = .returned (.pointer (some ⟨b', 0, none⟩)) ∧
      Hid (Calls Try.prog 25 #[.slice A n c] w2 fun e w3 => ∃ A3 c3, e = .returned (.slice A3 n c3) ∧
        Hid (Calls Try.prog 26 #[.pointer (some ⟨b', 0, none⟩)] w3 fun e w' => e = .returned (.int .i64 B) ∧ w3 = w') ∧
        Hid (Calls Try.prog 24 #[.pointer (some ⟨b', 0, none⟩), .int .i64 B, .int .i64 0, .slice A3 n c3] w3 fun e w4 => ∃ v1 q, e = .returned (.tuple #[.int .i64 v1, .bool q]) ∧
          Hid (Calls Try.prog 14 #[.pointer (some ⟨b', 0, none⟩), .agg #[.int .i64 77, .string ⟨#[]⟩]] w4 fun e w5 => ∃ la, e = .returned (.int .i64 la) ∧
            Hid (Calls Try.prog 16 #[.pointer (some ⟨b', 0, none⟩)] w5 fun e w6 => e = .returned (.int .i64 la) ∧
              Hid (Calls Try.prog 15 #[.pointer (some ⟨b', 0, none⟩), .int .i64 la] w6 fun e w7 => e = .returned (.int .i64 0) ∧
                Hid (Gv V w7 A3 n c3 ∧ SRd enC w7 (fun k => V.heap.size ≤ k) A3 n c3 M)))))) := by
  have hlen := hM.len
  refine (Copy_any h (by omega)).mono ?_
  rintro e w2 ⟨b', rfl, hl', hbC⟩
  refine ⟨b', rfl, Lib.hid ?_⟩
  have hb2 : Below w.heap.size w w2 := hbw.trans (hbC.mono hbw.size)
  refine (Of_any (hM.below' hb2) (by omega)).mono ?_
  rintro e w3 ⟨A3, c3, rfl, hmk⟩
  rw [hlen]
  rw [hlen] at hmk
  have hb3 := hmk.bel
  have hc3 := hl'.later hb3
  have hsz := hbC.size
  have hbV3 : Below V.heap.size V w3 := hbC.trans (hb3.mono hsz)
  have hgv : Gv V w3 A3 n c3 := Gv.of_own hmk.row hlen hbV3 hsz
  have hrd : SRd enC w3 (fun k => w2.heap.size ≤ k) A3 n c3 M := hmk.rd fun k hk => hk
  refine ⟨A3, c3, rfl, Lib.hid (Base_any hc3), Lib.hid ?_⟩
  refine (Merge_any hc3 h0 (by omega) (by omega) (hrd.mono fun k _ h2 h3 => by omega) hn (y := B) (by unfold I64; omega) 0).mono ?_
  rintro e w4 ⟨rfl, Φ4, a1, a2⟩
  refine ⟨_, _, rfl, Lib.hid ?_⟩
  have hl4 := mergeF_len (B := B) (T := T) (L := L) (M := M) (term := 0) h0
  generalize (mergeF B T L B 0 M).1 = L4 at *
  have hl5 : (L4 ++ [e77]).length = L4.length + 1 := by simp
  refine (Add_any a1 h0 (by omega) (by omega) e77).mono ?_
  rintro e w5 ⟨rfl, Φ5, b1, b2⟩
  refine ⟨_, rfl, Lib.hid ?_⟩
  refine (Last_any b1 h0 (by omega) (by omega)).mono ?_
  rintro e w6 ⟨rfl, q, rfl⟩
  refine ⟨rfl, Lib.hid ?_⟩
  have hb6 : Below w5.heap.size w5 (w5.drewN q) := (Chg.drewN (Φ := fun _ => False) w5 q).below (Nat.le_refl _) fun _ h => h.elim
  refine (Pass_ok (b1.later hb6) h0 (by omega) (by omega) (last_has B _)).mono ?_
  rintro e w7 ⟨rfl, Φ7, c1, c2⟩
  have hx : Nxt w3 w7 _ Φ7 := ((a2.trans b2).trans (Nxt.of_below hb6)).trans c2
  refine ⟨rfl, Lib.hid ⟨hgv.chg hx.chg (fun ad had hk => ?_) fun k hk => hk.1, (hrd.keep hx.chg (fun k h2 h3 => by omega) fun k _ h2 => h2).mono fun k _ h2 => by omega⟩⟩
  obtain ⟨g, o, e1, h2⟩ := hrd.place ad had
  subst e1
  have := h2.2
  dsimp only at *
  omega
theorem told_from {V : World} {b : Nat} {B T : Int} {L : List En} {Φ : Nat → Prop} (h : LogAt V b B T L Φ) (h0 : 0 ≤ B) (h1 : B ≤ 4398046511104) (hL : L.length < 100000) :
    Calls Try.prog 19 #[.pointer (some ⟨b, 0, none⟩), .int .i64 (B + 1), .int .i64 400] V fun e w' => ∃ A n c, e = .returned (.slice A n c) ∧ Hid (Gv V w' A n c) := by
  refine (From_any h h0 (by omega) (by omega) (by unfold I64; omega) (by unfold I64; omega)).mono ?_
  rintro e w' ⟨A, c, rfl, hown, hb⟩
  exact ⟨A, _, c, rfl, Lib.hid (Gv.of_own hown rfl hb (Nat.le_refl _))⟩
/-- A log made since W of what was given, beside what was given. -/
structure Yv (V W wr : World) (b2 : Nat) (L2 : List En) (A : Option Addr) (n c : Nat) : Prop where
  gv : Gv V wr A n c
  sz : V.heap.size ≤ W.heap.size
  lt : ∀ ad, A = some ad → ad.block < W.heap.size
  log : ∃ Φ, LogAt wr b2 0 0 L2 Φ ∧ ∀ k, Φ k → W.heap.size ≤ k
section
variable {V W wr wr' : World} {b2 : Nat} {L2 M : List En} {A : Option Addr} {n c : Nat}
theorem Yv.later (h : Yv V W wr b2 L2 A n c) (hb : Below wr.heap.size wr wr') : Yv V W wr' b2 L2 A n c := by
  obtain ⟨Φ, h1, h2⟩ := h.log
  exact ⟨h.gv.later hb, h.sz, h.lt, Φ, h1.later hb, h2⟩
theorem Yv.round (h : Yv V W wr b2 L2 A n c) {k : Nat} (hk : k < n) : ∃ g i, A = some ⟨g, 0, none⟩ ∧ wr.cell? ⟨g, k * 2, none⟩ = some (.int .i64 i) ∧ wr.frozen? ⟨g, k * 2, none⟩ = false ∧ Hid (∀ v, Yv V W (wr.setCell ⟨g, k * 2, none⟩ (.int .i64 v)) b2 L2 A n c) := by
  obtain ⟨g, i, e, q0, q1, h1, h2⟩ := h.gv.round hk
  obtain ⟨Φ, k1, k2⟩ := h.log
  have hlt := h.lt _ e
  exact ⟨g, i, e, q0, q1, Lib.hid fun v => ⟨h1.out v, h.sz, h.lt, Φ, k1.keep (h2.out v) fun k hk e => by have := k2 k hk; dsimp only at hlt; omega, k2⟩⟩
theorem Yv.get (h : Yv V W wr b2 L2 A n c) (hL : L2.length < 500000) {k : Int} (hk : I64 k) : Calls Try.prog 27 #[.pointer (some ⟨b2, 0, none⟩), .int .i64 k] wr fun e w' => e = .returned (.tuple #[.agg #[.int .i64 (entAt 0 L2 k).t, .string (entAt 0 L2 k).d], .bool (isAt 0 L2 k)]) ∧ Below wr.heap.size wr w' := by
  obtain ⟨Φ, k1, k2⟩ := h.log
  have hln : LN V wr b2 0 0 L2 := ⟨Φ, k1, fun k hk => Nat.le_trans h.sz (k2 k hk), h.gv.bel⟩
  refine (hln.get (by omega) (by omega) hL hk).mono ?_
  rintro e w' ⟨rfl, hh⟩
  exact ⟨rfl, hh.out.2⟩
theorem y_calls (hg : Gv V W A n c) (hr : SRd enC W (fun k => V.heap.size ≤ k) A n c M) (hn : n < 100000) :
    Calls Try.prog 11 #[.int .i64 0, .int .i64 0] W fun e w9 => e = .returned (.pointer (some ⟨W.heap.size, 0, none⟩)) ∧
      Hid (Calls Try.prog 24 #[.pointer (some ⟨W.heap.size, 0, none⟩), .int .i64 0, .int .i64 0, .slice A n c] w9 fun e w10 => ∃ v q, e = .returned (.tuple #[.int .i64 v, .bool q]) ∧ Hid (Yv V W w10 W.heap.size (mergeL [] 0 M) A n c)) := by
  refine (New_any W 0 0).mono ?_
  rintro e w9 ⟨rfl, h1, h2⟩
  refine ⟨rfl, Lib.hid ?_⟩
  have hmf : mergeF 0 0 [] 0 0 M = (mergeL [] 0 M, (M.length : Int), true) := by
    have := mergeF_in (B := 0) (T := 0) (L := []) (M := M) (by omega) (p := 0) (by simp)
    simpa [termAt] using this
  have hr1 : SRd enC W (fun k => ¬ k = W.heap.size) A n c M := hr.mono fun k hk _ => by omega
  have hr2 : SRd enC W (fun k => k < W.heap.size) A n c M := hr.mono fun k hk _ => hk
  refine (Merge_any (B := 0) (T := 0) h1 (by omega) (by omega) (by simp) (hr1.below h2) hn (y := 0) (by unfold I64; omega) 0).mono ?_
  rintro e w10 ⟨rfl, Φ, a1, a2⟩
  rw [hmf] at a1 ⊢
  have hb : Below W.heap.size W w10 := a2.below h2 fun k hk => by rw [hk]; exact Nat.le_refl _
  refine ⟨_, _, rfl, Lib.hid ⟨hg.later hb, hg.bel.size, fun ad had => ?_, Φ, a1, a2.new h2.size fun k hk => by rw [hk]; exact Nat.le_refl _⟩⟩
  obtain ⟨g, o, e1, h3⟩ := hr2.place ad had
  subst e1
  have := h3
  dsimp only at *
  omega
theorem y_entry {j : Nat} {x : En} (hx : M[j]? = some x) : isAt 0 (mergeL [] 0 M) (j + 1) = true ∧ entAt 0 (mergeL [] 0 M) (j + 1) = x := by
  obtain ⟨z, z1, z2, z3⟩ := (mergeL_at M [] 0 (by simp)).2 j x hx
  rw [Nat.zero_add] at z1
  rcases z3 with rfl | z3
  · exact entAt_of (by omega) z1
  · simp at z3
end
end Go.Proofs.Ytmmddkddjiodbaa
