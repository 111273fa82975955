/- What is proved here: what the document's own Do answers at a crash. -/
import Derived.Test.YtpolkhippblcmaaDoMath
namespace Go.Proofs.Ytpolkhippblcmaa
open Go Go.RowKit Go.Maps

/-- What Do answers. -/
def DoSaid (room : Int) (Ψ : Nat → Prop) (w : World) (S : List RF) (r : Int) (e : Ending) (w' : World) : Prop :=
  ∃ A c L, e = .returned (.tuple #[.agg #[.int .i64 room, .slice A L.length c], .int .i64 r]) ∧ RRd w' (fun k => Ψ k ∨ w.heap.size ≤ k) A L.length c L ∧ L.map RV.f = S ∧ Below w.heap.size w w'
/-- The three blocks that Do begins with. -/
structure Doing (w W : World) (room : Int) (A : Option Addr) (n c : Nat) (p : OpM) : Prop where
  below : Below w.heap.size w W
  size : W.heap.size = w.heap.size + 3
  d : W.heap[w.heap.size]? = some (.cells #[.int .i64 room, .slice A n c] 29 (0, 0))
  o : W.heap[w.heap.size + 1]? = some (.cells #[.int .i64 p.kind, .string p.nm, .string p.tn, .slice p.bA p.bn p.bc, .int .i64 p.n, .slice p.kA p.kn p.kc] 34 (0, 0))
  r : W.heap[w.heap.size + 2]? = some (.cells #[.int .i64 0, .slice none 0 0] 29 (0, 0))
theorem Doing.begin (w : World) (room : Int) (A : Option Addr) (n c : Nat) (p : OpM) :
    Doing w (((w.alloc (.cells #[.int .i64 room, .slice A n c] 29)).alloc (.cells #[.int .i64 p.kind, .string p.nm, .string p.tn, .slice p.bA p.bn p.bc, .int .i64 p.n, .slice p.kA p.kn p.kc] 34)).alloc (.cells #[.int .i64 0, .slice none 0 0] 29)) room A n c p := by
  refine ⟨(((Below.refl _ _).alloc (Nat.le_refl _) _).alloc (by simp) _).alloc (by simp; omega) _, by simp, ?_, ?_, ?_⟩
  · rw [Below.heap_alloc _ _ _ (by simp; omega), Below.heap_alloc _ _ _ (by simp)]
    exact heap_alloc_new w _
  · rw [Below.heap_alloc _ _ _ (by simp)]
    have := heap_alloc_new (w.alloc (.cells #[.int .i64 room, .slice A n c] 29)) (.cells #[.int .i64 p.kind, .string p.nm, .string p.tn, .slice p.bA p.bn p.bc, .int .i64 p.n, .slice p.kA p.kn p.kc] 34)
    simpa using this
  · have := heap_alloc_new ((w.alloc (.cells #[.int .i64 room, .slice A n c] 29)).alloc (.cells #[.int .i64 p.kind, .string p.nm, .string p.tn, .slice p.bA p.bn p.bc, .int .i64 p.n, .slice p.kA p.kn p.kc] 34)) (.cells #[.int .i64 0, .slice none 0 0] 29)
    simpa using this
/-- .. and ends with: what a disk that was made behind them becomes, told. -/
theorem Doing.told {w W w1 : World} {room : Int} {A : Option Addr} {n c : Nat} {p : OpM} (h : Doing w W room A n c p) {Ψ Ψ1 : Nat → Prop} {A' : Option Addr} {c' : Nat} {L' : List RV} (hr : RRd w1 Ψ1 A' L'.length c' L') (hΨ : ∀ i, Ψ1 i → (Ψ i ∧ i < w.heap.size) ∨ w.heap.size + 3 ≤ i) (hb : Below (w.heap.size + 3) W w1) (r : Int) :
    w1.cell? ⟨w.heap.size + 1 + 1, 0, none⟩ = some (.int .i64 0) ∧ w1.cell? ⟨w.heap.size + 1 + 1, 1, none⟩ = some (.slice none 0 0) ∧ w1.frozen? ⟨w.heap.size + 1 + 1, 0, none⟩ = false ∧ w1.frozen? ⟨w.heap.size + 1 + 1, 1, none⟩ = false ∧
      ((w1.setCell ⟨w.heap.size + 1 + 1, 0, none⟩ (.int .i64 room)).setCell ⟨w.heap.size + 1 + 1, 1, none⟩ (.slice A' L'.length c')).cell? ⟨w.heap.size + 1 + 1, 0, none⟩ = some (.int .i64 room) ∧
      ((w1.setCell ⟨w.heap.size + 1 + 1, 0, none⟩ (.int .i64 room)).setCell ⟨w.heap.size + 1 + 1, 1, none⟩ (.slice A' L'.length c')).cell? ⟨w.heap.size + 1 + 1, 1, none⟩ = some (.slice A' L'.length c') ∧
      DoSaid room Ψ w (L'.map RV.f) r (.returned (.tuple #[.agg #[.int .i64 room, .slice A' L'.length c'], .int .i64 r])) ((w1.setCell ⟨w.heap.size + 1 + 1, 0, none⟩ (.int .i64 room)).setCell ⟨w.heap.size + 1 + 1, 1, none⟩ (.slice A' L'.length c')) := by
  have h2 : w1.heap[w.heap.size + 1 + 1]? = _ := (hb.block (w.heap.size + 2) (by omega)).trans h.r
  obtain ⟨r0, r1, r2, r3⟩ := two_cells h2
  obtain ⟨f0, f1⟩ := two_set h2 (.int .i64 room) (.slice A' L'.length c')
  have hch : Chg (fun i => i = w.heap.size + 1 + 1) w1 ((w1.setCell ⟨w.heap.size + 1 + 1, 0, none⟩ (.int .i64 room)).setCell ⟨w.heap.size + 1 + 1, 1, none⟩ (.slice A' L'.length c')) := (Chg.set _ _ _ _).trans (Chg.set _ _ _ _) fun _ _ e => e
  refine ⟨r0, r1, r2, r3, f0, f1, A', c', L', rfl, (hr.keep hch fun i hi e => ?_).mono fun i _ hi => ?_, rfl, h.below.trans ((hb.mono (by omega)).trans (hch.below (by have := hb.size; have := h.size; omega) fun i hi => by omega))⟩
  · have := hΨ i hi
    omega
  · rcases hΨ i hi with hi | hi
    · exact .inl hi.1
    · exact .inr (by omega)

set_option maxHeartbeats 1600000 in
set_option maxRecDepth 100000 in
theorem refDo_5 {w : World} {Ψ : Nat → Prop} {A : Option Addr} {n c B : Nat} {L : List RV} {room : Int} (h : RRd w Ψ A n c L) (hn : n ≤ 1000000) (p : OpM) (hp : OpOk w B p) (hB : B ≤ w.heap.size) (hk : p.kind = 5) :
    Calls Try.prog 10 #[.agg #[.int .i64 room, .slice A n c], .agg #[.int .i64 p.kind, .string p.nm, .string p.tn, .slice p.bA p.bn p.bc, .int .i64 p.n, .slice p.kA p.kn p.kc]] w (DoSaid room Ψ w (doF room (L.map RV.f) p).1 (doF room (L.map RV.f) p).2) := by
  have hdo : doF room (L.map RV.f) p = (crashF p.ks (L.map RV.f), 0) := by
    unfold doF
    rw [hk]
    rfl
  rw [hdo]
  have hW0 := Doing.begin w room A n c p
  obtain ⟨W, hW⟩ : ∃ W, W = (((w.alloc (.cells #[.int .i64 room, .slice A n c] 29)).alloc (.cells #[.int .i64 p.kind, .string p.nm, .string p.tn, .slice p.bA p.bn p.bc, .int .i64 p.n, .slice p.kA p.kn p.kc] 34)).alloc (.cells #[.int .i64 0, .slice none 0 0] 29)) := ⟨_, rfl⟩
  rw [← hW] at hW0
  have hRV : RRd W (fun i => Ψ i ∧ i < w.heap.size) A n c L := (h.mono (Ψ' := fun i => Ψ i ∧ i < w.heap.size) fun i hi hp => ⟨hp, hi⟩).later hW0.below
  have hKW : Rd W W.heap.size .i64 p.kA p.kn p.kc p.ks := (hp.rk.below (hW0.below.mono hB)).more (by have := hW0.size; omega)
  have HT := Lib.hid (tear_any (room := room) hRV hn hKW hp.ki)
  have HD := Lib.hid hW0
  have HAFT : Hid (∀ (e : Ending) (w1 : World), RefSaid room (fun i => Ψ i ∧ i < w.heap.size) W (fun L' => L'.map RV.f = crashF p.ks (L.map RV.f)) e w1 → ∃ A' n' c', e = .returned (.agg #[.int .i64 room, .slice A' n' c']) ∧
      w1.cell? ⟨w.heap.size + 1 + 1, 0, none⟩ = some (.int .i64 0) ∧ w1.cell? ⟨w.heap.size + 1 + 1, 1, none⟩ = some (.slice none 0 0) ∧ w1.frozen? ⟨w.heap.size + 1 + 1, 0, none⟩ = false ∧ w1.frozen? ⟨w.heap.size + 1 + 1, 1, none⟩ = false ∧
      ((w1.setCell ⟨w.heap.size + 1 + 1, 0, none⟩ (.int .i64 room)).setCell ⟨w.heap.size + 1 + 1, 1, none⟩ (.slice A' n' c')).cell? ⟨w.heap.size + 1 + 1, 0, none⟩ = some (.int .i64 room) ∧
      ((w1.setCell ⟨w.heap.size + 1 + 1, 0, none⟩ (.int .i64 room)).setCell ⟨w.heap.size + 1 + 1, 1, none⟩ (.slice A' n' c')).cell? ⟨w.heap.size + 1 + 1, 1, none⟩ = some (.slice A' n' c') ∧
      Hid (DoSaid room Ψ w (crashF p.ks (L.map RV.f)) 0 (.returned (.tuple #[.agg #[.int .i64 room, .slice A' n' c'], .int .i64 0])) ((w1.setCell ⟨w.heap.size + 1 + 1, 0, none⟩ (.int .i64 room)).setCell ⟨w.heap.size + 1 + 1, 1, none⟩ (.slice A' n' c')))) := Lib.hid (by
    rintro e w1 ⟨A', c', L', rfl, hr, hE, hb⟩
    have hs := HD.out.size
    obtain ⟨r0, r1, r2, r3, f0, f1, hS⟩ := HD.out.told (Ψ := Ψ) hr (fun i hi => by rw [hs] at hi; exact hi) (by rw [hs] at hb; exact hb) 0
    rw [hE] at hS
    exact ⟨A', _, c', rfl, r0, r1, r2, r3, f0, f1, Lib.hid hS⟩)
  have HW := Lib.hid hW
  clear h hn hp hdo hW0 hRV hKW hW
  rw [hk] at HW ⊢
  obtain ⟨kind, nm, tn, bA, bn, bc, b, m, kA, kn, kc, ks⟩ := p
  go_enter Try.func10, Try.ntmps10
  go_wp2_with (rw [← HW.out]; go_at_call 22; refine (HT.out).mono ?_; intro e w1 hh; obtain ⟨A', n', c', rfl, r0, r1, r2, r3, f0, f1, HS⟩ := HAFT.out e w1 hh; clear hh)
  exact bodyPost_ret (v := .tuple #[.agg #[.int .i64 room, .slice A' n' c'], .int .i64 0]) (by simp [results, Try.results10, go_sem, f0, f1]) rfl HS.out
end Go.Proofs.Ytpolkhippblcmaa
