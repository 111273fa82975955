/- What is proved here: calls that are done to a disk and to the document's own, one behind the other; where one begins. -/
import Derived.Test.YtpolkhippblcmaaDoes
namespace Go.Proofs.Ytpolkhippblcmaa
open Go Go.RowKit Go.Maps

theorem OpOk.more {w : World} {B B' : Nat} {p : OpM} (h : OpOk w B p) (hB : B ≤ B') : OpOk w B' p :=
  ⟨h.rb.more hB, h.byt, h.rk.more hB, h.ki, h.ik, h.i_n, h.sn, h.st, h.sb, fun b o e hk => Nat.lt_of_lt_of_le (h.lowK b o e hk) hB⟩
theorem OpsRd.more {w : World} {B B' : Nat} {A : Option Addr} {n c : Nat} {l : List OpM} (h : OpsRd w B A n c l) (hB : B ≤ B') : OpsRd w B' A n c l :=
  ⟨h.len, h.cap, h.max, fun j p hj => by
    obtain ⟨b, o, e, hb, hc⟩ := h.place j p hj
    exact ⟨b, o, e, Nat.lt_of_lt_of_le hb hB, hc⟩, fun p hp => (h.ok p hp).more hB⟩
theorem new_both (a0 : Int) (W : World) (l : List OpM) (q : Nat) : Calls Try.prog 8 #[.int .i64 a0] (W.drewN q) fun e w1 => e = .returned (.pointer (some ⟨W.heap.size + 1, 0, none⟩)) ∧
      Hid (Calls Try.prog 9 #[.int .i64 a0] w1 fun e w2 => e = .returned (.agg #[.int .i64 (clampR a0), .slice none 0 0]) ∧
        Hid (DoesSt W (W.heap.size + 1) w2.heap.size (clampR a0) l 0 (w2.alloc (.cells #[.int .i64 (clampR a0), .slice none 0 0] 29)))) := (New_any a0 (W.drewN q)).mono (by
  rintro e w1 ⟨rfl, h1, h2, h3⟩
  have hb1 : Below W.heap.size W w1 := ⟨h1.os, h1.tape, h1.output, h1.size, h1.block⟩
  refine ⟨rfl, Lib.hid ((refNew_any a0 w1).mono ?_)⟩
  rintro e w2 ⟨rfl, hb2⟩
  have h2' : w1.heap.size = W.heap.size + 2 := h2
  exact ⟨rfl, Lib.hid ⟨none, 0, Pair.begin hb1 h3 (fun k hk => by have hk' : W.heap.size ≤ k ∧ k < W.heap.size + 2 := hk; omega) hb2 _, heap_alloc_new w2 _, by have := hb2.size; omega⟩⟩)

theorem run_step {w wr : World} {d rb : Nat} {R : Int} {l : List OpM} {k n c0 : Nat} {A0 : Option Addr} (h : DoesSt w d rb R l k wr) (hl : OpsRd w w.heap.size A0 n c0 l) (hn : n ≤ 60) (hR : R ≤ 1048576) {p : OpM} (hp : l[k]? = some p) :
    ∃ A m c, rb < wr.heap.size ∧ wr.cell? ⟨rb, 0, none⟩ = some (.int .i64 R) ∧ wr.cell? ⟨rb, 1, none⟩ = some (.slice A m c) ∧
      Hid (Calls Try.prog 10 #[.agg #[.int .i64 R, .slice A m c], .agg #[.int .i64 p.kind, .string p.nm, .string p.tn, .slice p.bA p.bn p.bc, .int .i64 p.n, .slice p.kA p.kn p.kc]] (wr.alloc (.cells #[.int .i64 p.kind, .string p.nm, .string p.tn, .slice p.bA p.bn p.bc, .int .i64 p.n, .slice p.kA p.kn p.kc] 34)) fun e w3 =>
        ∃ A' m' c' r, e = .returned (.tuple #[.agg #[.int .i64 R, .slice A' m' c'], .int .i64 r]) ∧ rb < w3.heap.size ∧ wr.heap.size < w3.heap.size ∧
          w3.cell? ⟨wr.heap.size, 0, none⟩ = some (.int .i64 p.kind) ∧ w3.cell? ⟨wr.heap.size, 1, none⟩ = some (.string p.nm) ∧ w3.cell? ⟨wr.heap.size, 2, none⟩ = some (.string p.tn) ∧ w3.cell? ⟨wr.heap.size, 3, none⟩ = some (.slice p.bA p.bn p.bc) ∧ w3.cell? ⟨wr.heap.size, 4, none⟩ = some (.int .i64 p.n) ∧ w3.cell? ⟨wr.heap.size, 5, none⟩ = some (.slice p.kA p.kn p.kc) ∧
          w3.cell? ⟨rb, 0, none⟩ = some (.int .i64 R) ∧ w3.cell? ⟨rb, 1, none⟩ = some (.slice A m c) ∧ w3.frozen? ⟨rb, 0, none⟩ = false ∧ w3.frozen? ⟨rb, 1, none⟩ = false ∧
          Hid (Calls Try.prog 11 #[.pointer (some ⟨d, 0, none⟩), .agg #[.int .i64 p.kind, .string p.nm, .string p.tn, .slice p.bA p.bn p.bc, .int .i64 p.n, .slice p.kA p.kn p.kc]] ((w3.setCell ⟨rb, 0, none⟩ (.int .i64 R)).setCell ⟨rb, 1, none⟩ (.slice A' m' c')) fun e w5 =>
            (∃ r, e = .returned (.int .i64 r)) ∧ Hid (DoesSt w d rb R l (k + 1) w5))) := by
  obtain ⟨A, c, hP, hB, hwr⟩ := h
  have hlen := hl.len
  have hpo := hl.ok p (List.mem_of_getElem? hp)
  have hk : k < l.length := (List.getElem?_eq_some_iff.1 hp).1
  have hm1 := runF_len R (l.take k)
  have hm2 : (l.take k).length ≤ k := List.length_take_le _ _
  have hnext : runF R (l.take (k + 1)) = (doF R (runF R (l.take k)) p).1 := by
    rw [List.take_add_one, hp]
    exact runF_snoc R (l.take k) p
  generalize hS : runF R (l.take k) = S at *
  obtain ⟨b0, b1, _⟩ := two_cells hB
  have hlt := lt_of_block hB
  refine ⟨A, _, c, hlt, b0, b1, Lib.hid ?_⟩
  refine ((hP.alloc _).refDo (fun i hi => by rw [hi]; simp; omega) (by omega) hR p hpo).mono ?_
  rintro e w3 ⟨A', c', rfl, hP3, hb3⟩
  generalize hS' : (doF R S p).1 = S' at *
  have ho : w3.heap[wr.heap.size]? = _ := (hb3.block wr.heap.size (by simp)).trans (heap_alloc_new wr _)
  have hB3 : w3.heap[rb]? = _ := (hb3.block rb (by simp; omega)).trans ((Below.heap_alloc wr _ rb hlt).trans hB)
  have cc : ∀ i u, p.vals[i]? = some u → w3.cell? ⟨wr.heap.size, i, none⟩ = some u := fun i u hu => by
    rw [cell_of_row _ _ _ _ _ _ ho]
    simpa [OpM.vals] using hu
  obtain ⟨r0, r1, f0, f1⟩ := two_cells hB3
  refine ⟨A', _, c', _, rfl, lt_of_block hB3, lt_of_block ho, cc 0 _ rfl, cc 1 _ rfl, cc 2 _ rfl, cc 3 _ rfl, cc 4 _ rfl, cc 5 _ rfl, r0, r1, f0, f1, Lib.hid ?_⟩
  have hch : Chg (fun i => i = rb) w3 ((w3.setCell ⟨rb, 0, none⟩ (.int .i64 R)).setCell ⟨rb, 1, none⟩ (.slice A' S'.length c')) := (Chg.set _ _ _ _).trans (Chg.set _ _ _ _) fun _ _ e => e
  have hP4 := hP3.turn hch fun i hi => by rw [hi]; exact hwr
  have hB4 := two_set1 (two_set0 hB3 (.int .i64 R)) (.slice A' S'.length c')
  refine (hP4.lawDo (fun i hi => by rw [hi]; exact lt_of_block hB4) (by omega) p hpo).mono ?_
  rintro e w5 ⟨rfl, hP5, hKp, hs5⟩
  rw [hS'] at hP5
  refine ⟨⟨_, rfl⟩, Lib.hid ⟨A', c', ?_, ?_, hwr⟩⟩
  · rw [hnext]
    exact hP5
  · rw [hnext]
    exact (hKp rb rfl).trans hB4

/-- A row of numbers of the call's own. -/
def NumbS (w : World) (B : Nat) (A : Option Addr) (n : Nat) : Prop := 0 < n → ∃ g cur, A = some ⟨g, 0, none⟩ ∧ B ≤ g ∧ w.heap[g]? = some (.cells cur 5 (0, 0)) ∧ ∀ j, j < n → ∃ x : Int, cur[j]? = some (.int .u8 x)
theorem NumbS.of_own {w : World} {B n c : Nat} {A : Option Addr} {xs : List Int} (h : w.ownsRow B 5 1 (.slice A n c) n (xs.map (Value.int .u8))) : NumbS w B A n := by
  intro h0
  have hl : xs.length = n := by have := h.1; simpa using this
  rcases h.2 with ⟨_, e⟩ | ⟨g, cap, cur, e, hb, hg, hnc, _, _, ht⟩
  · have : n = 0 := by simpa using e
    omega
  · cases e
    refine ⟨g, cur, rfl, hb, hg, fun j hj => ⟨xs[j]'(by omega), ?_⟩⟩
    have h1 : (xs.map (Value.int .u8))[j]? = some (.int .u8 (xs[j]'(by omega))) := by rw [List.getElem?_map, List.getElem?_eq_getElem (by omega)]; rfl
    rw [← ht, List.getElem?_take] at h1
    split at h1
    · simpa using h1
    · cases h1
theorem NumbS.set {w : World} {B n k g : Nat} (h : NumbS w B (some ⟨g, 0, none⟩) n) (y : Int) : NumbS (w.setCell ⟨g, k, none⟩ (.int .u8 y)) B (some ⟨g, 0, none⟩) n := by
  intro h0
  obtain ⟨g', cur, e, hB, hblk, hc⟩ := h h0
  cases e
  refine ⟨g, _, rfl, hB, heap_setCell_same hblk k _, fun j hj => ?_⟩
  obtain ⟨x, hx⟩ := hc j hj
  rw [Array.getElem?_setIfInBounds]
  split
  · split
    · exact ⟨y, rfl⟩
    · rename_i h1 h2
      subst h1
      exact absurd (Array.getElem?_eq_some_iff.1 hx).1 h2
  · exact ⟨x, hx⟩
theorem NumbS.cell {w : World} {B n k : Nat} {A : Option Addr} (h : NumbS w B A n) (hk : k < n) : ∃ g x, A = some ⟨g, 0, none⟩ ∧ B ≤ g ∧ w.cell? ⟨g, k, none⟩ = some (.int .u8 x) ∧ w.frozen? ⟨g, k, none⟩ = false := by
  obtain ⟨g, cur, e, hB, hblk, hc⟩ := h (by omega)
  obtain ⟨x, hx⟩ := hc k hk
  refine ⟨g, x, e, hB, ?_, ?_⟩
  · rw [cell_of_row _ _ _ _ _ _ hblk]
    exact hx
  · simp [World.frozen?, hblk]
end Go.Proofs.Ytpolkhippblcmaa
