/- What is proved here: what the document's own Do answers where there is no such file. -/
import Derived.Test.YtpolkhippblcmaaDo5
namespace Go.Proofs.Ytpolkhippblcmaa
open Go Go.RowKit Go.Maps

theorem Doing.cells {w W w1 : World} {room : Int} {A : Option Addr} {n c : Nat} {p : OpM} (h : Doing w W room A n c p) (hb : Below (w.heap.size + 3) W w1) :
    w.heap.size + 1 + 1 < w1.heap.size ∧ w1.cell? ⟨w.heap.size, 0, none⟩ = some (.int .i64 room) ∧ w1.cell? ⟨w.heap.size, 1, none⟩ = some (.slice A n c) ∧ w1.frozen? ⟨w.heap.size, 0, none⟩ = false ∧ w1.frozen? ⟨w.heap.size, 1, none⟩ = false ∧
      w1.cell? ⟨w.heap.size + 1, 0, none⟩ = some (.int .i64 p.kind) ∧ w1.cell? ⟨w.heap.size + 1, 1, none⟩ = some (.string p.nm) ∧ w1.cell? ⟨w.heap.size + 1, 2, none⟩ = some (.string p.tn) ∧ w1.cell? ⟨w.heap.size + 1, 3, none⟩ = some (.slice p.bA p.bn p.bc) ∧
      w1.cell? ⟨w.heap.size + 1, 4, none⟩ = some (.int .i64 p.n) ∧ w1.cell? ⟨w.heap.size + 1, 5, none⟩ = some (.slice p.kA p.kn p.kc) := by
  have h0 : w1.heap[w.heap.size]? = _ := (hb.block w.heap.size (by omega)).trans h.d
  have h1 : w1.heap[w.heap.size + 1]? = _ := (hb.block (w.heap.size + 1) (by omega)).trans h.o
  obtain ⟨a, b, d, e⟩ := two_cells h0
  refine ⟨by have := hb.size; have := h.size; omega, a, b, d, e, ?_, ?_, ?_, ?_, ?_, ?_⟩ <;> simp [World.cell?, h1]
theorem DoSaid.alloc {room r : Int} {Ψ : Nat → Prop} {w w' : World} {S : List RF} {e : Ending} (h : DoSaid room Ψ w S r e w') (hw : w.heap.size ≤ w'.heap.size) (o : Obj) : DoSaid room Ψ w S r e (w'.alloc o) := by
  obtain ⟨A, c, L, he, hr, hS, hb⟩ := h
  exact ⟨A, c, L, he, hr.later ((Below.refl _ _).alloc (Nat.le_refl _) o), hS, hb.alloc hw o⟩
theorem do_miss {L : List RV} {p : OpM} (h : ∀ x ∈ L, x.nm ≠ p.nm.data.toList) (room : Int) (h0 : p.kind ≠ 0) (h5 : p.kind ≠ 5) : doF room (L.map RV.f) p = (L.map RV.f, 6) := by
  unfold doF
  rw [if_neg h0]
  split
  · unfold syncF; rw [at_none h]
  · split
    · unfold cutF; rw [at_none h]
    · split
      · unfold removeF; rw [at_none h]
      · unfold renameF; rw [at_none h]

set_option maxHeartbeats 1600000 in
set_option maxRecDepth 100000 in
theorem refDo_miss {w : World} {Ψ : Nat → Prop} {A : Option Addr} {n c : Nat} {L : List RV} {room : Int} (h : RRd w Ψ A n c L) (p : OpM) (hno : ∀ x ∈ L, x.nm ≠ p.nm.data.toList) (h0 : p.kind ≠ 0) (h5 : p.kind ≠ 5) :
    Calls Try.prog 10 #[.agg #[.int .i64 room, .slice A n c], .agg #[.int .i64 p.kind, .string p.nm, .string p.tn, .slice p.bA p.bn p.bc, .int .i64 p.n, .slice p.kA p.kn p.kc]] w (DoSaid room Ψ w (doF room (L.map RV.f) p).1 (doF room (L.map RV.f) p).2) := by
  rw [do_miss hno room h0 h5]
  have hW0 := Doing.begin w room A n c p
  obtain ⟨W, hW⟩ : ∃ W, W = (((w.alloc (.cells #[.int .i64 room, .slice A n c] 29)).alloc (.cells #[.int .i64 p.kind, .string p.nm, .string p.tn, .slice p.bA p.bn p.bc, .int .i64 p.n, .slice p.kA p.kn p.kc] 34)).alloc (.cells #[.int .i64 0, .slice none 0 0] 29)) := ⟨_, rfl⟩
  rw [← hW] at hW0
  have hRV : RRd W (fun i => Ψ i ∧ i < w.heap.size) A n c L := (h.mono (Ψ' := fun i => Ψ i ∧ i < w.heap.size) fun i hi hp => ⟨hp, hi⟩).later hW0.below
  have HAT := Lib.hid (refAt_any (room := room) hRV p.nm)
  have HD := Lib.hid hW0
  have hLn : L.length = n := h.len
  have HAFT : Hid (∀ (e : Ending) (w1 : World), AtSaid L p.nm.data.toList e ∧ Below W.heap.size W w1 → e = .returned (.int .i64 (-1)) ∧ w.heap.size + 1 + 1 < w1.heap.size ∧
      w1.cell? ⟨w.heap.size, 0, none⟩ = some (.int .i64 room) ∧ w1.cell? ⟨w.heap.size, 1, none⟩ = some (.slice A n c) ∧ w1.cell? ⟨w.heap.size + 1, 0, none⟩ = some (.int .i64 p.kind) ∧ w1.cell? ⟨w.heap.size + 1, 1, none⟩ = some (.string p.nm) ∧
      w1.cell? ⟨w.heap.size + 1 + 1, 0, none⟩ = some (.int .i64 0) ∧ w1.cell? ⟨w.heap.size + 1 + 1, 1, none⟩ = some (.slice none 0 0) ∧ w1.frozen? ⟨w.heap.size + 1 + 1, 0, none⟩ = false ∧ w1.frozen? ⟨w.heap.size + 1 + 1, 1, none⟩ = false ∧
      Hid (∀ o, (((w1.setCell ⟨w.heap.size + 1 + 1, 0, none⟩ (.int .i64 room)).setCell ⟨w.heap.size + 1 + 1, 1, none⟩ (.slice A n c)).alloc o).cell? ⟨w.heap.size + 1 + 1, 0, none⟩ = some (.int .i64 room) ∧
        (((w1.setCell ⟨w.heap.size + 1 + 1, 0, none⟩ (.int .i64 room)).setCell ⟨w.heap.size + 1 + 1, 1, none⟩ (.slice A n c)).alloc o).cell? ⟨w.heap.size + 1 + 1, 1, none⟩ = some (.slice A n c) ∧
        DoSaid room Ψ w (L.map RV.f) 6 (.returned (.tuple #[.agg #[.int .i64 room, .slice A n c], .int .i64 6])) (((w1.setCell ⟨w.heap.size + 1 + 1, 0, none⟩ (.int .i64 room)).setCell ⟨w.heap.size + 1 + 1, 1, none⟩ (.slice A n c)).alloc o))) := Lib.hid (by
    rintro e w1 ⟨hat, hb⟩
    have hs := HD.out.size
    have hb3 : Below (w.heap.size + 3) W w1 := by rw [← hs]; exact hb
    have hr1 := hRV.later hb
    obtain ⟨l0, a0, a1, _, _, b0, b1, _⟩ := HD.out.cells hb3
    have hrr : RRd w1 (fun i => Ψ i ∧ i < w.heap.size) A L.length c L := by rw [hLn]; exact hr1
    obtain ⟨r0, r1, r2, r3, f0, f1, hS⟩ := HD.out.told (Ψ := Ψ) hrr (fun i hi => .inl hi) hb3 6
    rw [hLn] at f0 f1 hS
    refine ⟨?_, l0, a0, a1, b0, b1, r0, r1, r2, r3, Lib.hid fun o => ⟨?_, ?_, hS.alloc (by simp; omega) o⟩⟩
    · rcases hat with ⟨he, _⟩ | ⟨j, x, hj, hx, _⟩
      · exact he
      · exact absurd hx (hno x (List.mem_of_getElem? hj))
    · rw [(Chg.alloc (Φ := fun _ => False) _ o).cell (p := ⟨w.heap.size + 1 + 1, 0, none⟩) (by simpa using l0) id]
      exact f0
    · rw [(Chg.alloc (Φ := fun _ => False) _ o).cell (p := ⟨w.heap.size + 1 + 1, 1, none⟩) (by simpa using l0) id]
      exact f1)
  have HW := Lib.hid hW
  clear h hno hW0 hRV hLn hW
  obtain ⟨kind, nm, tn, bA, bn, bc, b, m, kA, kn, kc, ks⟩ := p
  simp only at *
  have k0 : (kind == 0) = false := by simpa using h0
  have k5 : (kind == 5) = false := by simpa using h5
  go_enter Try.func10, Try.ntmps10
  go_wp2_with (rw [← HW.out]; go_at_call 23; refine (HAT.out).mono ?_; intro e w1 hh; obtain ⟨rfl, l0, a0, a1, b0, b1, r0, r1, r2, r3, HS⟩ := HAFT.out e w1 hh; have l1 : w.heap.size + 1 < w1.heap.size := Nat.lt_of_succ_lt l0; have l2 : w.heap.size < w1.heap.size := Nat.lt_of_succ_lt l1; clear hh)
  obtain ⟨f0, f1, hS⟩ := HS.out (.cells #[.string nm, .slice none 0 0, .int .i64 0] 48)
  exact bodyPost_ret (v := .tuple #[.agg #[.int .i64 room, .slice A n c], .int .i64 6]) (by simp [results, Try.results10, go_sem, f0, f1]) rfl hS
end Go.Proofs.Ytpolkhippblcmaa
