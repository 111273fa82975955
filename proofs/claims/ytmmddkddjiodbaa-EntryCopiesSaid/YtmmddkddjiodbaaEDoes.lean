/- What is proved here: the laws' does: a call of no kind, and Pass. -/
import Derived.Test.YtmmddkddjiodbaaELaw1
namespace Go.Proofs.Ytmmddkddjiodbaa
open Go Go.RowKit Go.Maps Go.WideMaps

section
variable {w : World} {b : Nat} {B T : Int} {A : Option Addr} {n c : Nat} {L : List En} {Φ : Nat → Prop}
/-- What does leaves: both logs alike. -/
def DoesSaid (w : World) (b : Nat) (Φ : Nat → Prop) (B T : Int) (L : List En) (e : Ending) (w' : World) : Prop :=
  ∃ Φ' A n c, e = .returned (.tuple #[rlV B T A n c, .bool true]) ∧ LogAt w' b B T L Φ' ∧ Nxt w w' Φ Φ' ∧ SRd enC w' (fun k => ¬ Φ' k) A n c L
theorem four_cells {w : World} {b : Nat} {x y z u : Value} {t : TypeId} (h : w.heap[b]? = some (.cells #[x, y, z, u] t (0, 0))) :
    w.cell? ⟨b, 0, none⟩ = some x ∧ w.cell? ⟨b, 1, none⟩ = some y ∧ w.cell? ⟨b, 2, none⟩ = some z ∧ w.cell? ⟨b, 3, none⟩ = some u := by
  simp [World.cell?, h]
/-- The three blocks with which the call begins. -/
structure DBox (w V : World) (B T : Int) (A : Option Addr) (n c : Nat) (p : OpM) : Prop where
  b0 : V.cell? ⟨w.heap.size, 0, none⟩ = some (.int .i64 B)
  b1 : V.cell? ⟨w.heap.size, 1, none⟩ = some (.int .i64 T)
  b2 : V.cell? ⟨w.heap.size, 2, none⟩ = some (.slice A n c)
  o0 : V.cell? ⟨w.heap.size + 1, 0, none⟩ = some (.int .i64 p.kind)
  o1 : V.cell? ⟨w.heap.size + 1, 1, none⟩ = some (.int .i64 p.at_)
  o2 : V.cell? ⟨w.heap.size + 1, 2, none⟩ = some (.int .i64 p.term)
  o3 : V.cell? ⟨w.heap.size + 1, 3, none⟩ = some (.slice p.A p.n p.c)
  r0 : V.cell? ⟨w.heap.size + 2, 0, none⟩ = some (.int .i64 0)
  r1 : V.cell? ⟨w.heap.size + 2, 1, none⟩ = some (.int .i64 0)
  r2 : V.cell? ⟨w.heap.size + 2, 2, none⟩ = some (.slice none 0 0)
  f0 : V.frozen? ⟨w.heap.size, 2, none⟩ = false
  g0 : V.frozen? ⟨w.heap.size + 2, 0, none⟩ = false
  g1 : V.frozen? ⟨w.heap.size + 2, 1, none⟩ = false
  g2 : V.frozen? ⟨w.heap.size + 2, 2, none⟩ = false
def dbox (w : World) (B T : Int) (A : Option Addr) (n c : Nat) (p : OpM) : World := ((w.alloc (.cells #[.int .i64 B, .int .i64 T, .slice A n c] 29)).alloc (.cells #[.int .i64 p.kind, .int .i64 p.at_, .int .i64 p.term, .slice p.A p.n p.c] 32)).alloc (.cells #[.int .i64 0, .int .i64 0, .slice none 0 0] 29)
structure DBlk (w V : World) (B T : Int) (A : Option Addr) (n c : Nat) (p : OpM) : Prop where
  k0 : V.heap[w.heap.size]? = some (.cells #[.int .i64 B, .int .i64 T, .slice A n c] 29 (0, 0))
  k1 : V.heap[w.heap.size + 1]? = some (.cells #[.int .i64 p.kind, .int .i64 p.at_, .int .i64 p.term, .slice p.A p.n p.c] 32 (0, 0))
  k2 : V.heap[w.heap.size + 2]? = some (.cells #[.int .i64 0, .int .i64 0, .slice none 0 0] 29 (0, 0))
theorem DBlk.box {V : World} {p : OpM} (h : DBlk w V B T A n c p) : DBox w V B T A n c p := by
  have x0 := three_cells h.k0
  have x1 := four_cells h.k1
  have x2 := three_cells h.k2
  exact ⟨x0.1, x0.2.1, x0.2.2.1, x1.1, x1.2.1, x1.2.2.1, x1.2.2.2, x2.1, x2.2.1, x2.2.2.1, x0.2.2.2.2.2, x2.2.2.2.1, x2.2.2.2.2.1, x2.2.2.2.2.2⟩
theorem DBlk.keep {V V' : World} {p : OpM} (h : DBlk w V B T A n c p) {Ψ : Nat → Prop} (hc : Chg Ψ V V') (hn : ∀ k, Ψ k → k < w.heap.size ∨ w.heap.size + 2 < k) : DBlk w V' B T A n c p :=
  ⟨hc.heap h.k0 fun h => by have := hn _ h; omega, hc.heap h.k1 fun h => by have := hn _ h; omega, hc.heap h.k2 fun h => by have := hn _ h; omega⟩
theorem dbox_is (w : World) (B T : Int) (A : Option Addr) (n c : Nat) (p : OpM) : Below w.heap.size w (dbox w B T A n c p) ∧ (dbox w B T A n c p).heap.size = w.heap.size + 3 ∧ DBlk w (dbox w B T A n c p) B T A n c p := by
  have hs1 : (w.alloc (.cells #[.int .i64 B, .int .i64 T, .slice A n c] 29)).heap.size = w.heap.size + 1 := by simp
  have hs2 : ((w.alloc (.cells #[.int .i64 B, .int .i64 T, .slice A n c] 29)).alloc (.cells #[.int .i64 p.kind, .int .i64 p.at_, .int .i64 p.term, .slice p.A p.n p.c] 32)).heap.size = w.heap.size + 2 := by simp
  have h1 := heap_alloc_new w (.cells #[.int .i64 B, .int .i64 T, .slice A n c] 29)
  have h2 := heap_alloc_new (w.alloc (.cells #[.int .i64 B, .int .i64 T, .slice A n c] 29)) (.cells #[.int .i64 p.kind, .int .i64 p.at_, .int .i64 p.term, .slice p.A p.n p.c] 32)
  have h3 := heap_alloc_new ((w.alloc (.cells #[.int .i64 B, .int .i64 T, .slice A n c] 29)).alloc (.cells #[.int .i64 p.kind, .int .i64 p.at_, .int .i64 p.term, .slice p.A p.n p.c] 32)) (.cells #[.int .i64 0, .int .i64 0, .slice none 0 0] 29)
  rw [hs1] at h2
  rw [hs2] at h3
  unfold dbox
  refine ⟨(((Below.refl _ _).alloc (Nat.le_refl _) _).alloc (by simp) _).alloc (by simp; omega) _, by simp, ⟨?_, ?_, h3⟩⟩
  · exact ((((Below.refl (w.heap.size + 1) _).alloc (Nat.le_of_eq hs1.symm) _).alloc (by simp) _).block _ (Nat.lt_succ_self _)).trans h1
  · exact (((Below.refl (w.heap.size + 2) _).alloc (Nat.le_of_eq hs2.symm) _).block _ (Nat.lt_succ_self _)).trans h2
theorem dbox_ex (w : World) (B T : Int) (A : Option Addr) (n c : Nat) (p : OpM) : ∃ W, W = dbox w B T A n c p ∧ Below w.heap.size w W ∧ W.heap.size = w.heap.size + 3 ∧ DBlk w W B T A n c p := ⟨_, rfl, dbox_is w B T A n c p⟩
/-- The end: the result's block, written. -/
structure DFin (w V : World) (b : Nat) (Φ : Nat → Prop) (B T : Int) (A : Option Addr) (n c : Nat) (L : List En) : Prop where
  k0 : V.cell? ⟨w.heap.size + 2, 0, none⟩ = some (.int .i64 B)
  k1 : V.cell? ⟨w.heap.size + 2, 1, none⟩ = some (.int .i64 T)
  k2 : V.cell? ⟨w.heap.size + 2, 2, none⟩ = some (.slice A n c)
  said : DoesSaid w b Φ B T L (.returned (.tuple #[rlV B T A n c, .bool true])) V
def dfin (w V : World) (B T : Int) (A : Option Addr) (n c : Nat) : World := ((V.setCell ⟨w.heap.size + 2, 0, none⟩ (.int .i64 B)).setCell ⟨w.heap.size + 2, 1, none⟩ (.int .i64 T)).setCell ⟨w.heap.size + 2, 2, none⟩ (.slice A n c)
/-- Blocks of the log, and those of the call. -/
def Off (w : World) (Φ : Nat → Prop) : Prop := ∀ k, Φ k → k < w.heap.size ∨ w.heap.size + 2 < k
theorem dfin_of {V : World} {Φ' : Nat → Prop} {B' T' : Int} {L' : List En} {A' : Option Addr} {n' c' : Nat} (hl : LogAt V b B' T' L' Φ') (hx : Nxt w V Φ Φ') (ho : Off w Φ') (hres : V.heap[w.heap.size + 2]? = some (.cells #[.int .i64 0, .int .i64 0, .slice none 0 0] 29 (0, 0)))
    (hr : SRd enC V (fun k => ¬ Φ' k ∧ k ≠ w.heap.size + 2) A' n' c' L') : DFin w (dfin w V B' T' A' n' c') b Φ B' T' A' n' c' L' := by
  obtain ⟨k0, k1, k2⟩ := res_three hres (.int .i64 B') (.int .i64 T') (.slice A' n' c')
  have hc := chg_three V (w.heap.size + 2) (.int .i64 B') (.int .i64 T') (.slice A' n' c')
  have hno : ∀ k, Φ' k → ¬ k = w.heap.size + 2 := fun k hk e => by have := ho k hk; omega
  refine ⟨k0, k1, k2, Φ', A', n', c', rfl, hl.keep hc hno, ⟨(hx.chg.trans hc fun k hk e => by omega), hx.old⟩, hr.keep hc (fun k hk e => hk.2 e) fun k _ hk => hk.1⟩
theorem Left.off {V V' : World} {B' T' : Int} {L' : List En} (hs : w.heap.size + 3 ≤ V.heap.size) (ho : Off w Φ) (h : Left V b B' T' L' Φ V') : ∃ Φ', LogAt V' b B' T' L' Φ' ∧ Nxt V V' Φ Φ' ∧ Off w Φ' := by
  obtain ⟨Φ', h1, h2⟩ := h
  refine ⟨Φ', h1, h2, fun k hk => ?_⟩
  by_cases hv : k < V.heap.size
  · exact ho k (h2.old k hv hk)
  · omega
set_option maxHeartbeats 3200000 in
set_option maxRecDepth 100000 in
theorem does_none (h : LogAt w b B T L Φ) (hr : SRd enC w (fun k => ¬ Φ k) A n c L) {p : OpM} (k0 : ¬ p.kind = 0) (k1 : ¬ p.kind = 1) (k2 : ¬ p.kind = 2) :
    Calls Try.prog 17 #[.pointer (some ⟨b, 0, none⟩), rlV B T A n c, .agg #[.int .i64 p.kind, .int .i64 p.at_, .int .i64 p.term, .slice p.A p.n p.c]] w (DoesSaid w b Φ B T L) := by
  obtain ⟨W, hW, hbW, hWs, hblk⟩ := dbox_ex w B T A n c p
  have hoff : Off w Φ := fun k hk => .inl (h.bnd k hk)
  have hfin := dfin_of (h.later hbW) (Nxt.of_below hbW) hoff hblk.k2 ((hr.mono (Ψ' := fun k => ¬ Φ k ∧ k ≠ w.heap.size + 2) fun k hk hp => ⟨hp, by omega⟩).below hbW)
  obtain ⟨b0, b1, b2, o0, o1, o2, o3, r0, r1, r2, f0, g0, g1, g2⟩ := hblk.box
  obtain ⟨q0, q1, q2, HX⟩ := hfin
  unfold dfin at q0 q1 q2 HX
  have HX2 := Lib.hid HX
  have HW := Lib.hid hW
  have d0 : (p.kind == 0) = false := beq_eq_false_iff_ne.2 k0
  have d1 : (p.kind == 1) = false := beq_eq_false_iff_ne.2 k1
  have d2 : (p.kind == 2) = false := beq_eq_false_iff_ne.2 k2
  clear h hr hbW hWs hblk HX hW k0 k1 k2 hoff
  unfold dbox at HW
  unfold rlV
  obtain ⟨kd, y, tm, Ap, np, cp, M⟩ := p
  dsimp only at *
  go_enter Try.func17, Try.ntmps17
  go_upto_region 1 with fail
  rw [← HW.out]
  go_wp2_with fail
  exact bodyPost_ret (v := .tuple #[.agg #[.int .i64 B, .int .i64 T, .slice A n c], .bool true]) (by simp [results, Try.results17, go_sem, q0, q1, q2]) rfl HX2.out
end
end Go.Proofs.Ytmmddkddjiodbaa
