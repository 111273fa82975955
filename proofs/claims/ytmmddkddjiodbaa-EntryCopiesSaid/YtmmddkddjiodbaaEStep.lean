/- What is proved here: a step of two logs alike, and what it leaves alone. -/
import Derived.Test.YtmmddkddjiodbaaEDoesL
namespace Go.Proofs.Ytmmddkddjiodbaa
open Go Go.RowKit Go.Maps Go.WideMaps

/-- Since w1 of what was there the log's block and the document's alone have changed. -/
structure PairX (w1 wr : World) (b rb : Nat) (Φ : Nat → Prop) : Prop where
  chg : Chg (fun k => k = b ∨ k = rb) w1 wr
  old : ∀ k, k < w1.heap.size → Φ k → k = b
/-- Two logs alike, behind calls of s entries, since w1. -/
structure Two (w w1 wr : World) (b rb s : Nat) (B T : Int) (L : List En) (A : Option Addr) (n c : Nat) : Prop where
  pair : ∃ Φ, PairV w wr b rb s Φ B T L A n c ∧ PairX w1 wr b rb Φ
section
variable {w w1 wr V : World} {b rb s : Nat} {Φ : Nat → Prop} {B T : Int} {L : List En} {A : Option Addr} {n c : Nat}
theorem Two.later (h : Two w w1 wr b rb s B T L A n c) (hb : Below wr.heap.size wr V) : Two w w1 V b rb s B T L A n c := by
  obtain ⟨Φ, h1, h2⟩ := h
  exact ⟨Φ, h1.later hb, h2.chg.trans (Chg.of_below hb (Φ := fun _ => False)) fun _ _ h => h.elim, h2.old⟩
theorem Two.bel (h : Two w w1 wr b rb s B T L A n c) : Below w.heap.size w wr := by
  obtain ⟨Φ, h1, _⟩ := h
  exact h1.bel
theorem Two.blk (h : Two w w1 wr b rb s B T L A n c) : wr.heap[rb]? = some (.cells #[.int .i64 B, .int .i64 T, .slice A n c] 29 (0, 0)) := by
  obtain ⟨Φ, h1, _⟩ := h
  exact h1.blk
theorem Two.len (h : Two w w1 wr b rb s B T L A n c) : L.length = n ∧ Bnd B L s := by
  obtain ⟨Φ, h1, _⟩ := h
  exact ⟨h1.row.len, h1.bnd⟩
theorem pair_step (h : Two w w1 wr b rb s B T L A n c) (hV : Below wr.heap.size wr V) (hs : s ≤ 400) {p : OpM} (hok : OpOk w w.heap.size p) (hm : p.n ≤ 400) :
    Calls Try.prog 17 #[.pointer (some ⟨b, 0, none⟩), .agg #[.int .i64 B, .int .i64 T, .slice A n c], .agg #[.int .i64 p.kind, .int .i64 p.at_, .int .i64 p.term, .slice p.A p.n p.c]] V fun e w2 => ∃ (B2 T2 : Int) (A2 : Option Addr) (n2 c2 : Nat), e = .returned (.tuple #[.agg #[.int .i64 B2, .int .i64 T2, .slice A2 n2 c2], .bool true]) ∧
      w2.cell? ⟨rb, 0, none⟩ = some (.int .i64 B) ∧ w2.cell? ⟨rb, 1, none⟩ = some (.int .i64 T) ∧ w2.cell? ⟨rb, 2, none⟩ = some (.slice A n c) ∧ w2.frozen? ⟨rb, 0, none⟩ = false ∧ w2.frozen? ⟨rb, 1, none⟩ = false ∧ w2.frozen? ⟨rb, 2, none⟩ = false ∧
      Hid (∃ L2, Two w w1 (st3 w2 rb B2 T2 A2 n2 c2) b rb (s + p.n) B2 T2 L2 A2 n2 c2) := by
  obtain ⟨Φ, h1, h2⟩ := h.later hV
  have hM : WRd enC V (fun k => ¬ Φ k) p.A p.n p.c p.M := (hok.rd.below' h1.bel).mono fun k _ hk e => by have := h1.new k e; omega
  refine (does_any (T := T) h1.log h1.row h1.bnd (by omega) hok.ia hM hm).mono ?_
  rintro e w2 ⟨Φ2, A2, n2, c2, rfl, g1, g2, g3⟩
  have hold := g2.chg.heap h1.blk h1.nrb
  have x0 := three_cells hold
  have hrb : ¬ Φ2 rb := fun e => h1.nrb (g2.old _ (Array.getElem?_eq_some_iff.1 h1.blk).1 e)
  have hd : Done w w2 b rb (s + p.n) B T A n c (doesF B T L p).1 (doesF B T L p).2.1 (doesF B T L p).2.2 A2 n2 c2 := ⟨⟨Φ2, g1, g2.new h1.bel.size h1.new, g2.below h1.bel h1.new, hrb, h1.wrb, g3, doesF_bnd h1.bnd p hok.rd.len⟩, hold⟩
  have hc := chg_three w2 rb (.int .i64 (doesF B T L p).1) (.int .i64 (doesF B T L p).2.1) (.slice A2 n2 c2)
  refine ⟨_, _, A2, n2, c2, rfl, x0.1, x0.2.1, x0.2.2.1, x0.2.2.2.1, x0.2.2.2.2.1, x0.2.2.2.2.2, Lib.hid ⟨(doesF B T L p).2.2, ⟨Φ2, ?_, ?_, ?_⟩⟩⟩
  · exact ⟨g1.keep hc (fun k hk e => by subst e; exact hrb hk), g2.new h1.bel.size h1.new, (g2.below h1.bel h1.new).trans (hc.below (g2.below h1.bel h1.new).size fun k hk => by rw [hk]; exact h1.wrb), three_sets hold _ _ _, hrb, h1.wrb,
      g3.past hc (fun h0 => row_not_log g3 hold (fun s e => by cases e) h0) fun _ _ hk => hk, doesF_bnd h1.bnd p hok.rd.len⟩
  · refine (h2.chg.trans g2.chg fun k hk hp => .inl (h2.old k hk hp)).trans hc fun k _ hk => .inr hk
  · exact fun k hk hp => h2.old k hk (g2.old k (Nat.lt_of_lt_of_le hk h2.chg.size) hp)
/-- Two logs begin. -/
theorem two_begin {w2 w3 : World} {x y : Int} (hw : w.heap.size ≤ b) (h : LogAt w2 b (max x 0) (max y 0) [] (fun k => k = b)) (hb : Below w.heap.size w w2) (h3 : Below w2.heap.size w2 w3) (hx : x ≤ 1099511627776) {V : World} (hV : V = w3.alloc (.cells #[.int .i64 (max x 0), .int .i64 (max y 0), .slice none 0 0] 29)) :
    Two w V V b w3.heap.size 0 (max x 0) (max y 0) [] none 0 0 := by
  subst hV
  exact ⟨_, pair_begin hw h hb h3 hx, Chg.refl _ _, fun k _ hk => hk⟩
end
end Go.Proofs.Ytmmddkddjiodbaa
