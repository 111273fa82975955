/- What is proved here: a log and the document's beside it, between two calls of a law's. -/
import Derived.Test.YtmmddkddjiodbaaEArgs
namespace Go.Proofs.Ytmmddkddjiodbaa
open Go Go.RowKit Go.Maps Go.WideMaps

theorem SRd.past {α : Type} {f : α → List Value} {w w' : World} {Ψ Ψ' Φ : Nat → Prop} {A : Option Addr} {n c : Nat} {L : List α} (h : SRd f w Ψ A n c L) (hc : Chg Φ w w') (hne : 0 < n → ∀ ad, A = some ad → ¬ Φ ad.block) (hm : ∀ k, k < w.heap.size → Ψ k → Ψ' k) : SRd f w' Ψ' A n c L :=
  ⟨h.len, h.cap, h.max, h.nil, fun ad had j u hu => by
    obtain ⟨b, o, rfl, hb, hp⟩ := h.place ad had
    have h0 : 0 < n := by
      rcases Nat.eq_zero_or_pos n with h0 | h0
      · have hl : L = [] := List.eq_nil_of_length_eq_zero (by rw [h.len]; exact h0)
        rw [hl] at hu
        simp at hu
      · exact h0
    have h1 := h.news _ had j u hu
    rw [Addr.add_lit] at h1 ⊢
    exact (hc.cell (p := ⟨b, o + j, none⟩) hb (hne h0 ⟨b, o, none⟩ had)).trans h1, fun ad had => by
    obtain ⟨b, o, e, hb, hp⟩ := h.place ad had
    exact ⟨b, o, e, Nat.lt_of_lt_of_le hb hc.size, hm b hb hp⟩⟩
/-- A row of entries lies in no log's block. -/
theorem row_not_log {w : World} {Ψ : Nat → Prop} {A : Option Addr} {n c : Nat} {L : List En} (h : SRd enC w Ψ A n c L) {rb : Nat} {x y : Int} {v : Value} {t : TypeId} (hb : w.heap[rb]? = some (.cells #[.int .i64 x, .int .i64 y, v] t (0, 0))) (hv : ∀ s, v ≠ .string s) (h0 : 0 < n) : ∀ ad, A = some ad → ¬ ad.block = rb := fun ad had e => by
  obtain ⟨x, hx⟩ : ∃ x, L[0]? = some x := ⟨_, List.getElem?_eq_getElem (by rw [h.len]; exact h0)⟩
  obtain ⟨g, o, e1, _, _, _, q1⟩ := h.en hx
  rw [had] at e1
  obtain rfl := Option.some.inj e1
  obtain rfl : g = rb := e
  rw [cell_of_row _ _ _ _ _ _ hb] at q1
  have h3 : o + 0 * 2 + 1 = 1 ∨ o + 0 * 2 + 1 = 2 ∨ 3 ≤ o + 0 * 2 + 1 := by omega
  rcases h3 with h3 | h3 | h3
  · rw [h3] at q1
    simp at q1
  · rw [h3] at q1
    simp at q1
    exact hv _ q1
  · rw [Array.getElem?_eq_none (by simpa using h3)] at q1
    cases q1
/-- A log, and the document's, whose block is rb. -/
structure PairV (w wr : World) (b rb : Nat) (s : Nat) (Φ : Nat → Prop) (B T : Int) (L : List En) (A : Option Addr) (n c : Nat) : Prop where
  log : LogAt wr b B T L Φ
  new : ∀ k, Φ k → w.heap.size ≤ k
  bel : Below w.heap.size w wr
  blk : wr.heap[rb]? = some (.cells #[.int .i64 B, .int .i64 T, .slice A n c] 29 (0, 0))
  nrb : ¬ Φ rb
  wrb : w.heap.size ≤ rb
  row : SRd enC wr (fun k => ¬ Φ k) A n c L
  bnd : Bnd B L s
section
variable {w wr V : World} {b rb s : Nat} {Φ : Nat → Prop} {B T : Int} {L : List En} {A : Option Addr} {n c : Nat}
theorem PairV.later (h : PairV w wr b rb s Φ B T L A n c) (hb : Below wr.heap.size wr V) : PairV w V b rb s Φ B T L A n c :=
  ⟨h.log.later hb, h.new, h.bel.trans (hb.mono h.bel.size), (hb.block _ (Array.getElem?_eq_some_iff.1 h.blk).1).trans h.blk, h.nrb, h.wrb, h.row.below hb, h.bnd⟩
/-- Both begin. -/
theorem pair_new (hb : Below w.heap.size w wr) (x y : Int) : Calls Try.prog 11 #[.int .i64 x, .int .i64 y] wr fun e w2 => e = .returned (.pointer (some ⟨wr.heap.size, 0, none⟩)) ∧ Hid (LogAt w2 wr.heap.size (max x 0) (max y 0) [] (fun k => k = wr.heap.size) ∧ Below w.heap.size w w2 ∧ wr.heap.size < w2.heap.size) :=
  (New_any wr x y).mono (by
    rintro e w' ⟨rfl, h1, h2⟩
    exact ⟨rfl, Lib.hid ⟨h1, hb.trans (h2.mono hb.size), h1.bnd _ rfl⟩⟩)
theorem pair_begin {w2 w3 : World} {x y : Int} (hw : w.heap.size ≤ b) (h : LogAt w2 b (max x 0) (max y 0) [] (fun k => k = b)) (hb : Below w.heap.size w w2) (h3 : Below w2.heap.size w2 w3) (hx : x ≤ 1099511627776) :
    PairV w (w3.alloc (.cells #[.int .i64 (max x 0), .int .i64 (max y 0), .slice none 0 0] 29)) b w3.heap.size 0 (fun k => k = b) (max x 0) (max y 0) [] none 0 0 := by
  have hbV : Below w2.heap.size w2 (w3.alloc (.cells #[.int .i64 (max x 0), .int .i64 (max y 0), .slice none 0 0] 29)) := h3.alloc h3.size _
  have hs := h3.size
  have hb2 := h.bnd b rfl
  have hb1 := hb.size
  exact ⟨h.later hbV, fun k hk => by rw [hk]; exact hw, hb.trans (hbV.mono hb.size), heap_alloc_new _ _, fun e => by omega, by omega, SRd.none_ _ _ _, ⟨by omega, by simp; omega, by simp⟩⟩
/-- What a call of does leaves beside the document's old log. -/
structure Done (w w2 : World) (b rb s : Nat) (B0 T0 : Int) (A0 : Option Addr) (n0 c0 : Nat) (B T : Int) (L : List En) (A : Option Addr) (n c : Nat) : Prop where
  made : ∃ Φ, LogAt w2 b B T L Φ ∧ (∀ k, Φ k → w.heap.size ≤ k) ∧ Below w.heap.size w w2 ∧ ¬ Φ rb ∧ w.heap.size ≤ rb ∧ SRd enC w2 (fun k => ¬ Φ k) A n c L ∧ Bnd B L s
  old : w2.heap[rb]? = some (.cells #[.int .i64 B0, .int .i64 T0, .slice A0 n0 c0] 29 (0, 0))
theorem pair_does (h : PairV w wr b rb s Φ B T L A n c) (hV : Below wr.heap.size wr V) (hs : s ≤ 1000) {p : OpM} (hok : OpOk w w.heap.size p) (hm : p.n ≤ 400) :
    Calls Try.prog 17 #[.pointer (some ⟨b, 0, none⟩), .agg #[.int .i64 B, .int .i64 T, .slice A n c], .agg #[.int .i64 p.kind, .int .i64 p.at_, .int .i64 p.term, .slice p.A p.n p.c]] V fun e w2 => ∃ A2 n2 c2, e = .returned (.tuple #[.agg #[.int .i64 (doesF B T L p).1, .int .i64 (doesF B T L p).2.1, .slice A2 n2 c2], .bool true]) ∧
      w2.cell? ⟨rb, 0, none⟩ = some (.int .i64 B) ∧ w2.cell? ⟨rb, 1, none⟩ = some (.int .i64 T) ∧ w2.cell? ⟨rb, 2, none⟩ = some (.slice A n c) ∧ w2.frozen? ⟨rb, 0, none⟩ = false ∧ w2.frozen? ⟨rb, 1, none⟩ = false ∧ w2.frozen? ⟨rb, 2, none⟩ = false ∧
      Hid (Done w w2 b rb (s + p.n) B T A n c (doesF B T L p).1 (doesF B T L p).2.1 (doesF B T L p).2.2 A2 n2 c2) := by
  have hp := h.later hV
  have hM : WRd enC V (fun k => ¬ Φ k) p.A p.n p.c p.M := (hok.rd.below' hp.bel).mono fun k _ hk e => by have := h.new k e; omega
  refine (does_any (T := T) hp.log hp.row hp.bnd hs hok.ia hM hm).mono ?_
  rintro e w2 ⟨Φ2, A2, n2, c2, rfl, h1, h2, h3⟩
  have hold := h2.chg.heap hp.blk hp.nrb
  have x0 := three_cells hold
  have hrb : ¬ Φ2 rb := fun e => hp.nrb (h2.old _ (Array.getElem?_eq_some_iff.1 hp.blk).1 e)
  exact ⟨A2, n2, c2, rfl, x0.1, x0.2.1, x0.2.2.1, x0.2.2.2.1, x0.2.2.2.2.1, x0.2.2.2.2.2, Lib.hid ⟨⟨Φ2, h1, h2.new hp.bel.size hp.new, h2.below hp.bel hp.new, hrb, hp.wrb, h3, doesF_bnd hp.bnd p hok.rd.len⟩, hold⟩⟩
/-- .. and the document's new log is laid over it. -/
theorem Done.store {w2 V2 : World} {B0 T0 : Int} {A0 : Option Addr} {n0 c0 : Nat} (h : Done w w2 b rb s B0 T0 A0 n0 c0 B T L A n c) (hV : Below w2.heap.size w2 V2) :
    ∃ Φ, PairV w (((V2.setCell ⟨rb, 0, none⟩ (.int .i64 B)).setCell ⟨rb, 1, none⟩ (.int .i64 T)).setCell ⟨rb, 2, none⟩ (.slice A n c)) b rb s Φ B T L A n c := by
  obtain ⟨⟨Φ, h1, h2, h3, h4, h5, h6, h7⟩, hold⟩ := h
  have hoV := (hV.block _ (Array.getElem?_eq_some_iff.1 hold).1).trans hold
  have hc := chg_three V2 rb (.int .i64 B) (.int .i64 T) (.slice A n c)
  have hrow := h6.below hV
  exact ⟨Φ, (h1.later hV).keep hc (fun k hk e => by subst e; exact h4 hk), h2, (h3.trans (hV.mono h3.size)).trans (hc.below (h3.trans (hV.mono h3.size)).size fun k hk => by rw [hk]; exact h5), three_sets hoV _ _ _, h4, h5,
    hrow.past hc (fun h0 => row_not_log hrow hoV (fun s e => by cases e) h0) fun _ _ hk => hk, h7⟩
end
end Go.Proofs.Ytmmddkddjiodbaa
