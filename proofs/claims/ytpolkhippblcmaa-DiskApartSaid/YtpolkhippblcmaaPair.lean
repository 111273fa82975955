/- What is proved here: a disk and the document's own disk, side by side in memory: what calls do to both. -/
import Derived.Test.YtpolkhippblcmaaSame
import Derived.Test.YtpolkhippblcmaaKeeps
namespace Go.Proofs.Ytpolkhippblcmaa
open Go Go.RowKit Go.Maps

/-- A disk with the files S1, and the document's own disk with the files S2, since w; neither lies in the blocks of which Kp speaks. -/
structure Pair (w : World) (Kp : Nat → Prop) (d : Nat) (room : Int) (S1 S2 : List RF) (A : Option Addr) (n c : Nat) (wr : World) : Prop where
  below : Below w.heap.size w wr
  srt : Rising RF.nm S2
  ex : ∃ L Φ Ψ, L.map RV.f = S2 ∧ RRd wr Ψ A n c L ∧ DiskAt wr d room S1 Φ ∧ (∀ k, Φ k → ¬ Ψ k) ∧ ∀ k, Φ k ∨ Ψ k → w.heap.size ≤ k ∧ ¬ Kp k ∧ k < wr.heap.size

section
variable {w wr w' : World} {Kp Kp' : Nat → Prop} {d n c : Nat} {room : Int} {S1 S2 S : List RF} {A : Option Addr}
theorem Pair.len (h : Pair w Kp d room S1 S2 A n c wr) : S2.length = n := by
  obtain ⟨L, Φ, Ψ, rfl, hr, _⟩ := h.ex
  rw [List.length_map, hr.len]
theorem Pair.later (h : Pair w Kp d room S1 S2 A n c wr) (hb : Below wr.heap.size wr w') : Pair w Kp d room S1 S2 A n c w' := by
  obtain ⟨L, Φ, Ψ, e, hr, hd, ha, hK⟩ := h.ex
  exact ⟨h.below.trans (hb.mono h.below.size), h.srt, L, Φ, Ψ, e, hr.later hb, hd.later hb, ha, fun k hk => ⟨(hK k hk).1, (hK k hk).2.1, Nat.lt_of_lt_of_le (hK k hk).2.2 hb.size⟩⟩
theorem Pair.alloc (h : Pair w Kp d room S1 S2 A n c wr) (o : Obj) : Pair w Kp d room S1 S2 A n c (wr.alloc o) := h.later ((Below.refl _ _).alloc (Nat.le_refl _) o)
theorem Pair.drewN (h : Pair w Kp d room S1 S2 A n c wr) (q : Nat) : Pair w Kp d room S1 S2 A n c (wr.drewN q) := h.later (bdrewN (Below.refl _ _) q)
theorem Pair.keepK (h : Pair w Kp d room S1 S2 A n c wr) (hK : ∀ k, k < wr.heap.size → Kp' k → Kp k) : Pair w Kp' d room S1 S2 A n c wr := by
  obtain ⟨L, Φ, Ψ, e, hr, hd, ha, hK2⟩ := h.ex
  exact ⟨h.below, h.srt, L, Φ, Ψ, e, hr, hd, ha, fun k hk => ⟨(hK2 k hk).1, fun hk' => (hK2 k hk).2.1 (hK k (hK2 k hk).2.2 hk'), (hK2 k hk).2.2⟩⟩
theorem Pair.turn (h : Pair w Kp d room S1 S2 A n c wr) (hc : Chg Kp wr w') (hw : ∀ k, Kp k → w.heap.size ≤ k) : Pair w Kp d room S1 S2 A n c w' := by
  obtain ⟨L, Φ, Ψ, e, hr, hd, ha, hK⟩ := h.ex
  exact ⟨h.below.trans (hc.below h.below.size hw), h.srt, L, Φ, Ψ, e, hr.keep hc fun k hk => (hK k (.inr hk)).2.1, hd.keep hc fun k hk => (hK k (.inl hk)).2.1, ha, fun k hk => ⟨(hK k hk).1, (hK k hk).2.1, Nat.lt_of_lt_of_le (hK k hk).2.2 hc.size⟩⟩
/-- The document's own Do. -/
theorem Pair.refDo (h : Pair w Kp d room S1 S2 A n c wr) (hKp : ∀ k, Kp k → k < wr.heap.size) (hn : n ≤ 1000000) (hrm : room ≤ 1048576) (p : OpM) (hp : OpOk w w.heap.size p) :
    Calls Try.prog 10 #[.agg #[.int .i64 room, .slice A n c], .agg #[.int .i64 p.kind, .string p.nm, .string p.tn, .slice p.bA p.bn p.bc, .int .i64 p.n, .slice p.kA p.kn p.kc]] wr fun e w' =>
      ∃ A' c', e = .returned (.tuple #[.agg #[.int .i64 room, .slice A' (doF room S2 p).1.length c'], .int .i64 (doF room S2 p).2]) ∧ Pair w Kp d room S1 (doF room S2 p).1 A' (doF room S2 p).1.length c' w' ∧ Below wr.heap.size wr w' := by
  obtain ⟨L, Φ, Ψ, rfl, hr, hd, ha, hK⟩ := h.ex
  refine (refDo_any hr hn h.srt hrm p (hp.below h.below) h.below.size).mono ?_
  rintro e w' ⟨A', c', L', rfl, hr', hS, hb⟩
  have hl : L'.length = (doF room (L.map RV.f) p).1.length := by rw [← hS, List.length_map]
  rw [hl] at hr' ⊢
  have hs := h.below.size
  refine ⟨A', c', rfl, ⟨h.below.trans (hb.mono hs), do_rising h.srt room p, L', Φ, (fun k => (Ψ k ∨ wr.heap.size ≤ k) ∧ k < w'.heap.size), hS, hr'.mono fun k hk h1 => ⟨h1, hk⟩, hd.later hb, fun k hk h1 => ?_, fun k hk => ?_⟩, hb⟩
  · rcases h1.1 with h2 | h2
    · exact ha k hk h2
    · have := (hK k (.inl hk)).2.2
      omega
  · rcases hk with hk | ⟨hk | hk, hk2⟩
    · exact ⟨(hK k (.inl hk)).1, (hK k (.inl hk)).2.1, Nat.lt_of_lt_of_le (hK k (.inl hk)).2.2 hb.size⟩
    · exact ⟨(hK k (.inr hk)).1, (hK k (.inr hk)).2.1, hk2⟩
    · exact ⟨by omega, fun hk3 => by have := hKp k hk3; omega, hk2⟩
/-- The laws' own Do. -/
theorem Pair.lawDo (h : Pair w Kp d room S1 S2 A n c wr) (hKp : ∀ k, Kp k → k < wr.heap.size) (hn : S1.length ≤ 1000000) (p : OpM) (hp : OpOk w w.heap.size p) :
    Calls Try.prog 11 #[.pointer (some ⟨d, 0, none⟩), .agg #[.int .i64 p.kind, .string p.nm, .string p.tn, .slice p.bA p.bn p.bc, .int .i64 p.n, .slice p.kA p.kn p.kc]] wr fun e w' =>
      e = .returned (.int .i64 (doF room S1 p).2) ∧ Pair w Kp d room (doF room S1 p).1 S2 A n c w' ∧ (∀ k, Kp k → w'.heap[k]? = wr.heap[k]?) ∧ wr.heap.size ≤ w'.heap.size := by
  obtain ⟨L, Φ, Ψ, e, hr, hd, ha, hK⟩ := h.ex
  refine (Do_any hd p (hp.below h.below) h.below.size (fun b hb hc => by have := (hK b (.inl hc)).1; omega) hn).mono ?_
  rintro e w' ⟨rfl, hc, hd'⟩
  have hs := h.below.size
  refine ⟨rfl, ⟨h.below.trans (hc.below hs fun i hi => (hK i (.inl hi)).1), h.srt, L, (fun k => grow Φ wr w' k ∧ k < w'.heap.size), Ψ, ‹_›, hr.keep hc fun k hk h1 => ha k h1 hk, hd'.mono fun k hk h1 => ⟨h1, hk⟩, fun k hk h1 => ?_, fun k hk => ?_⟩, fun k hk => hc.block k (hKp k hk) fun h1 => (hK k (.inl h1)).2.1 hk, hc.size⟩
  · rcases hk.1 with h2 | h2
    · exact ha k h2 h1
    · have := (hK k (.inr h1)).2.2
      omega
  · rcases hk with ⟨hk | hk, hk2⟩ | hk
    · exact ⟨(hK k (.inl hk)).1, (hK k (.inl hk)).2.1, hk2⟩
    · exact ⟨by omega, fun hk3 => by have := hKp k hk3; omega, hk2⟩
    · exact ⟨(hK k (.inr hk)).1, (hK k (.inr hk)).2.1, Nat.lt_of_lt_of_le (hK k (.inr hk)).2.2 hc.size⟩
theorem Pair.same (h : Pair w Kp d room S S A n c wr) (hn : n ≤ 1000000) (R : Int) :
    Calls Try.prog 12 #[.pointer (some ⟨d, 0, none⟩), .agg #[.int .i64 R, .slice A n c]] wr fun e w' => e = .returned (.bool true) ∧ Below wr.heap.size wr w' := by
  obtain ⟨L, Φ, Ψ, e, hr, hd, _⟩ := h.ex
  exact Same_any hd hr e hn
/-- The beginning: New of both. -/
theorem Pair.begin {w V V2 : World} {d : Nat} {room : Int} {Φ : Nat → Prop} (hV : Below w.heap.size w V) (hd : DiskAt V d room [] Φ) (hΦ : ∀ k, Φ k → w.heap.size ≤ k ∧ k < V.heap.size) (hb : Below V.heap.size V V2) (o : Obj) :
    Pair w (fun k => k = V2.heap.size) d room [] [] none 0 0 (V2.alloc o) := by
  refine ⟨hV.trans ((hb.alloc hb.size o).mono hV.size), List.Pairwise.nil, [], Φ, (fun _ => False), rfl, RRd.none_ _ _, hd.later (hb.alloc hb.size o), fun _ _ => id, fun k hk => ?_⟩
  rcases hk with hk | hk
  · have h1 := hΦ k hk
    have h2 := hb.size
    exact ⟨h1.1, by omega, by simp; omega⟩
  · cases hk
end
end Go.Proofs.Ytpolkhippblcmaa
