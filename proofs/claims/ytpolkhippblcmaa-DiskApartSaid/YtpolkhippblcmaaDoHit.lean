/- What is proved here: what the document's own Do answers at a file that is there: what all kinds share; Remove. -/
import Derived.Test.YtpolkhippblcmaaDoMiss
import Derived.Outline
namespace Go.Proofs.Ytpolkhippblcmaa
open Go Go.RowKit Go.Maps

theorem refAt_hit {w : World} {Ψ : Nat → Prop} {A : Option Addr} {n c : Nat} {L : List RV} {room : Int} (h : RRd w Ψ A n c L) (hr : Rising RF.nm (L.map RV.f)) (s : ByteArray) {j : Nat} {x : RV} (hj : L[j]? = some x) (hk : x.nm = s.data.toList) :
    Calls Try.prog 23 #[.agg #[.int .i64 room, .slice A n c], .string s] w fun e w' => e = .returned (.int .i64 j) ∧ Below w.heap.size w w' := by
  refine (refAt_any h s).mono ?_
  rintro e w' ⟨hat, hb⟩
  refine ⟨?_, hb⟩
  rcases hat with ⟨_, hno⟩ | ⟨j', x', hj', hk', rfl⟩
  · exact absurd hk (hno x (List.mem_of_getElem? hj))
  · have hr' : Rising RV.nm L := Rising.of_map (g := RV.f) (nm' := RF.nm) (fun _ => rfl) hr
    have := hr'.irrefl hj' hj (hk'.trans hk.symm)
    rw [this]
/-- What a call's files may lie in: what was the list's, and what is new. -/
def Far (Ψ : Nat → Prop) (N i : Nat) : Prop := (Ψ i ∧ i < N) ∨ N + 3 ≤ i
/-- Behind a call that makes a disk, which is told. -/
def Ends (w : World) (room : Int) (Ψ : Nat → Prop) (S : List RF) (r : Int) (e : Ending) (w3 : World) : Prop :=
  ∃ A' n' c', e = .returned (.agg #[.int .i64 room, .slice A' n' c']) ∧
      w3.cell? ⟨w.heap.size + 1 + 1, 0, none⟩ = some (.int .i64 0) ∧ w3.cell? ⟨w.heap.size + 1 + 1, 1, none⟩ = some (.slice none 0 0) ∧ w3.frozen? ⟨w.heap.size + 1 + 1, 0, none⟩ = false ∧ w3.frozen? ⟨w.heap.size + 1 + 1, 1, none⟩ = false ∧
      ((w3.setCell ⟨w.heap.size + 1 + 1, 0, none⟩ (.int .i64 room)).setCell ⟨w.heap.size + 1 + 1, 1, none⟩ (.slice A' n' c')).cell? ⟨w.heap.size + 1 + 1, 0, none⟩ = some (.int .i64 room) ∧
      ((w3.setCell ⟨w.heap.size + 1 + 1, 0, none⟩ (.int .i64 room)).setCell ⟨w.heap.size + 1 + 1, 1, none⟩ (.slice A' n' c')).cell? ⟨w.heap.size + 1 + 1, 1, none⟩ = some (.slice A' n' c') ∧
      Hid (DoSaid room Ψ w S r (.returned (.tuple #[.agg #[.int .i64 room, .slice A' n' c'], .int .i64 r])) ((w3.setCell ⟨w.heap.size + 1 + 1, 0, none⟩ (.int .i64 room)).setCell ⟨w.heap.size + 1 + 1, 1, none⟩ (.slice A' n' c')))
theorem Doing.after {w W V w3 : World} {room : Int} {A : Option Addr} {n c : Nat} {p : OpM} (h : Doing w W room A n c p) {Ψ Ψ1 : Nat → Prop} {K : List RV → Prop} {e : Ending} (hV : Below W.heap.size W V)
    (hΨ : ∀ i, Ψ1 i → Far Ψ w.heap.size i) (hr : RefSaid room Ψ1 V K e w3) {S : List RF} (hK : ∀ L', K L' → L'.map RV.f = S) (r : Int) : Ends w room Ψ S r e w3 := by
  obtain ⟨A', c', L', rfl, hr', hKL, hb⟩ := hr
  have hs := h.size
  have hvs := hV.size
  rw [hs] at hV
  have hb3 : Below (w.heap.size + 3) W w3 := hV.trans (hb.mono (by omega))
  have hΨ2 : ∀ i, Ψ1 i ∨ V.heap.size ≤ i → (Ψ i ∧ i < w.heap.size) ∨ w.heap.size + 3 ≤ i := fun i hi => by
    rcases hi with hi | hi
    · exact hΨ i hi
    · exact .inr (by omega)
  obtain ⟨r0, r1, r2, r3, f0, f1, hS⟩ := h.told (Ψ := Ψ) hr' hΨ2 hb3 r
  rw [hK L' hKL] at hS
  exact ⟨A', _, c', rfl, r0, r1, r2, r3, f0, f1, Lib.hid hS⟩
theorem Doing.with_ {w W V : World} {room : Int} {A A2 : Option Addr} {n c n2 c2 N : Nat} {p : OpM} (h : Doing w W room A n c p) {Ψ Ψ1 : Nat → Prop} {K : List RV} (hV : Below W.heap.size W V) (hΨ : ∀ i, Ψ1 i → Far Ψ w.heap.size i)
    (hr : RRd V Ψ1 A2 n2 c2 K) (hn : n2 ≤ 1000000) (y : RV) (hy : RVOk V Ψ1 y) (hN : y.b.length = N) :
    Calls Try.prog 26 #[.agg #[.int .i64 room, .slice A2 n2 c2], .agg #[.string y.sv, .slice y.A N y.c, .int .i64 y.s]] V (Ends w room Ψ (putN RF.nm y.f (K.map RV.f)) 0) := by
  subst hN
  exact (with_any hr hn y hy).mono fun e w3 ho => h.after hV hΨ ho (fun L' e' => by rw [e', put_map]) 0
theorem Doing.without_ {w W V : World} {room : Int} {A : Option Addr} {n c : Nat} {p : OpM} (h : Doing w W room A n c p) {Ψ Ψ1 : Nat → Prop} {L : List RV} (hV : Below W.heap.size W V) (hΨ : ∀ i, Ψ1 i → Far Ψ w.heap.size i)
    (hr : RRd W Ψ1 A n c L) (hn : n ≤ 1000000) (s : ByteArray) :
    Calls Try.prog 27 #[.agg #[.int .i64 room, .slice A n c], .string s] V (Ends w room Ψ (delN RF.nm s.data.toList (L.map RV.f)) 0) :=
  (without_any (hr.later hV) hn s).mono fun e w3 ho => h.after hV hΨ ho (fun L' e' => by rw [e', keepN_map]) 0
/-- .. where the first box may have turned. -/
theorem ends_any {w V w3 : World} {room : Int} (hres : V.heap[w.heap.size + 2]? = some (.cells #[.int .i64 0, .slice none 0 0] 29 (0, 0))) (hbw : Below w.heap.size w V) (hsz : w.heap.size + 3 ≤ V.heap.size) {Ψ Ψ1 : Nat → Prop} {K : List RV → Prop} {e : Ending}
    (hΨ : ∀ i, Ψ1 i → Far Ψ w.heap.size i) (hr : RefSaid room Ψ1 V K e w3) {S : List RF} (hK : ∀ L', K L' → L'.map RV.f = S) (r : Int) : Ends w room Ψ S r e w3 := by
  obtain ⟨A', c', L', rfl, hr', hKL, hb⟩ := hr
  have h2 : w3.heap[w.heap.size + 1 + 1]? = _ := (hb.block (w.heap.size + 2) (by omega)).trans hres
  obtain ⟨r0, r1, r2, r3⟩ := two_cells h2
  obtain ⟨f0, f1⟩ := two_set h2 (.int .i64 room) (.slice A' L'.length c')
  have hch : Chg (fun i => i = w.heap.size + 1 + 1) w3 ((w3.setCell ⟨w.heap.size + 1 + 1, 0, none⟩ (.int .i64 room)).setCell ⟨w.heap.size + 1 + 1, 1, none⟩ (.slice A' L'.length c')) := (Chg.set _ _ _ _).trans (Chg.set _ _ _ _) fun _ _ e => e
  have hΨ2 : ∀ i, Ψ1 i ∨ V.heap.size ≤ i → (Ψ i ∧ i < w.heap.size) ∨ w.heap.size + 3 ≤ i := fun i hi => by
    rcases hi with hi | hi
    · exact hΨ i hi
    · exact .inr (by omega)
  have hs3 := hb.size
  refine ⟨A', _, c', rfl, r0, r1, r2, r3, f0, f1, Lib.hid ⟨A', c', L', rfl, (hr'.keep hch fun i hi e => ?_).mono fun i _ hi => ?_, hK L' hKL, (hbw.trans (hb.mono hbw.size)).trans (hch.below (by omega) fun i hi => by omega)⟩⟩
  · have := hΨ2 i hi
    omega
  · rcases hΨ2 i hi with hi | hi
    · exact .inl hi.1
    · exact .inr (by omega)
/-- The list as it came, told. -/
theorem Doing.same {w W w1 : World} {room : Int} {A : Option Addr} {n c : Nat} {p : OpM} (h : Doing w W room A n c p) {Ψ : Nat → Prop} {L : List RV} (hr : RRd w Ψ A n c L) (hb : Below W.heap.size W w1) (r : Int) :
    (((w1.setCell ⟨w.heap.size + 1 + 1, 0, none⟩ (.int .i64 room)).setCell ⟨w.heap.size + 1 + 1, 1, none⟩ (.slice A n c))).cell? ⟨w.heap.size + 1 + 1, 0, none⟩ = some (.int .i64 room) ∧
      (((w1.setCell ⟨w.heap.size + 1 + 1, 0, none⟩ (.int .i64 room)).setCell ⟨w.heap.size + 1 + 1, 1, none⟩ (.slice A n c))).cell? ⟨w.heap.size + 1 + 1, 1, none⟩ = some (.slice A n c) ∧
      DoSaid room Ψ w (L.map RV.f) r (.returned (.tuple #[.agg #[.int .i64 room, .slice A n c], .int .i64 r])) (((w1.setCell ⟨w.heap.size + 1 + 1, 0, none⟩ (.int .i64 room)).setCell ⟨w.heap.size + 1 + 1, 1, none⟩ (.slice A n c))) := by
  have hs := h.size
  have hLn := hr.len
  have hb3 : Below (w.heap.size + 3) W w1 := by rw [← hs]; exact hb
  have hrr : RRd w1 (fun i => Ψ i ∧ i < w.heap.size) A L.length c L := by
    rw [hLn]
    exact (((hr.mono (Ψ' := fun i => Ψ i ∧ i < w.heap.size) fun i hi hp => ⟨hp, hi⟩).later h.below).later hb)
  obtain ⟨r0, r1, r2, r3, f0, f1, hS⟩ := h.told (Ψ := Ψ) hrr (fun i hi => .inl hi) hb3 r
  rw [hLn] at f0 f1 hS
  exact ⟨f0, f1, hS⟩
/-- .. also where a block comes behind it. -/
theorem Doing.same' {w W w1 : World} {room : Int} {A : Option Addr} {n c : Nat} {p : OpM} (h : Doing w W room A n c p) {Ψ : Nat → Prop} {L : List RV} (hr : RRd w Ψ A n c L) (hb : Below W.heap.size W w1) (r : Int) (o : Obj) :
    (((w1.setCell ⟨w.heap.size + 1 + 1, 0, none⟩ (.int .i64 room)).setCell ⟨w.heap.size + 1 + 1, 1, none⟩ (.slice A n c)).alloc o).cell? ⟨w.heap.size + 1 + 1, 0, none⟩ = some (.int .i64 room) ∧
      (((w1.setCell ⟨w.heap.size + 1 + 1, 0, none⟩ (.int .i64 room)).setCell ⟨w.heap.size + 1 + 1, 1, none⟩ (.slice A n c)).alloc o).cell? ⟨w.heap.size + 1 + 1, 1, none⟩ = some (.slice A n c) ∧
      DoSaid room Ψ w (L.map RV.f) r (.returned (.tuple #[.agg #[.int .i64 room, .slice A n c], .int .i64 r])) (((w1.setCell ⟨w.heap.size + 1 + 1, 0, none⟩ (.int .i64 room)).setCell ⟨w.heap.size + 1 + 1, 1, none⟩ (.slice A n c)).alloc o) := by
  obtain ⟨f0, f1, hS⟩ := h.same hr hb r
  have hs := h.size
  have hs2 := hb.size
  have l0 : w.heap.size + 1 + 1 < w1.heap.size := by omega
  refine ⟨?_, ?_, hS.alloc (by simp; omega) o⟩
  · rw [(Chg.alloc (Φ := fun _ => False) _ o).cell (p := ⟨w.heap.size + 1 + 1, 0, none⟩) (by simpa using l0) id]
    exact f0
  · rw [(Chg.alloc (Φ := fun _ => False) _ o).cell (p := ⟨w.heap.size + 1 + 1, 1, none⟩) (by simpa using l0) id]
    exact f1
/-- A file whose bytes are a new row. -/
theorem file_new {w60 : World} {fb B s n : Nat} {v60 : Value} {b : List Int} (sv : ByteArray) {Ψ1 : Nat → Prop} (ho : w60.ownsRow B 5 1 v60 n (b.map (Value.int .u8))) (hn : b.length = n) (hfb : fb < B) (hΨ : ∀ i, B ≤ i → Ψ1 i)
    (hby : ∀ y ∈ b, 0 ≤ y ∧ y < 256) (hl : n ≤ 1048576) (hsn : sv.size ≤ 1000000) (hs : s ≤ n) :
    ∃ A c, v60 = .slice A n c ∧ n ≤ c ∧ ∀ w', Chg (fun i => i = fb) w60 w' → RVOk w' Ψ1 ⟨sv, b, s, A, c⟩ := by
  subst hn
  obtain ⟨A, c, rfl, hr⟩ := Rd.of_own ho
  refine ⟨A, c, rfl, hr.cap, fun w' hc => ?_⟩
  have ho' := hc.own ho fun g hg e2 => by have := (ho.lt g hg).1; omega
  obtain ⟨A', c', e, hr'⟩ := Rd.of_own ho'
  cases e
  refine ⟨hr', fun b' o' hA h0 => hΨ b' ?_, hby, hl, hsn, hs⟩
  have hA' : A = some ⟨b', o', none⟩ := hA
  subst hA'
  exact (ho.lt b' rfl).1
/-- Where a file lies in the list. -/
theorem RRd.here {w : World} {Ψ : Nat → Prop} {A : Option Addr} {n c : Nat} {L : List RV} (h : RRd w Ψ A n c L) {j : Nat} {x : RV} (hj : L[j]? = some x) : j < n ∧ x ∈ L ∧ ∃ b o, A = some ⟨b, o, none⟩ ∧ b < w.heap.size ∧ w.cell? ⟨b, o + j * 3, none⟩ = some (.string x.sv) ∧ w.cell? ⟨b, o + j * 3 + 1, none⟩ = some (.slice x.A x.b.length x.c) ∧ w.cell? ⟨b, o + j * 3 + 2, none⟩ = some (.int .i64 x.s) := by
  obtain ⟨b, o, e, hb, _, hc⟩ := h.place j x hj
  exact ⟨by rw [← h.len]; exact (List.getElem?_eq_some_iff.1 hj).1, List.mem_of_getElem? hj, b, o, e, hb, hc 0 _ rfl, hc 1 _ rfl, hc 2 _ rfl⟩
/-- What stands where, behind the three blocks. -/
structure Bas (w w1 : World) (room : Int) (A : Option Addr) (n c : Nat) (p : OpM) : Prop where
  l0 : w.heap.size + 1 + 1 < w1.heap.size
  l1 : w.heap.size + 1 < w1.heap.size
  l2 : w.heap.size < w1.heap.size
  a0 : w1.cell? ⟨w.heap.size, 0, none⟩ = some (.int .i64 room)
  a1 : w1.cell? ⟨w.heap.size, 1, none⟩ = some (.slice A n c)
  fa0 : w1.frozen? ⟨w.heap.size, 0, none⟩ = false
  fa1 : w1.frozen? ⟨w.heap.size, 1, none⟩ = false
  b0 : w1.cell? ⟨w.heap.size + 1, 0, none⟩ = some (.int .i64 p.kind)
  b1 : w1.cell? ⟨w.heap.size + 1, 1, none⟩ = some (.string p.nm)
  b2 : w1.cell? ⟨w.heap.size + 1, 2, none⟩ = some (.string p.tn)
  b3 : w1.cell? ⟨w.heap.size + 1, 3, none⟩ = some (.slice p.bA p.bn p.bc)
  b4 : w1.cell? ⟨w.heap.size + 1, 4, none⟩ = some (.int .i64 p.n)
  r0 : w1.cell? ⟨w.heap.size + 1 + 1, 0, none⟩ = some (.int .i64 0)
  r1 : w1.cell? ⟨w.heap.size + 1 + 1, 1, none⟩ = some (.slice none 0 0)
  fr0 : w1.frozen? ⟨w.heap.size + 1 + 1, 0, none⟩ = false
  fr1 : w1.frozen? ⟨w.heap.size + 1 + 1, 1, none⟩ = false
theorem Doing.bas {w W w1 : World} {room : Int} {A : Option Addr} {n c : Nat} {p : OpM} (h : Doing w W room A n c p) (hb : Below W.heap.size W w1) : Bas w w1 room A n c p := by
  have hs := h.size
  rw [hs] at hb
  obtain ⟨l0, a0, a1, fa0, fa1, b0, b1, b2, b3, b4, _⟩ := h.cells hb
  obtain ⟨r0, r1, r2, r3⟩ := two_cells (show w1.heap[w.heap.size + 1 + 1]? = _ from (hb.block (w.heap.size + 2) (by omega)).trans h.r)
  exact ⟨l0, by omega, by omega, a0, a1, fa0, fa1, b0, b1, b2, b3, b4, r0, r1, r2, r3⟩
/-- .. and of the file. -/
structure Hit (w1 : World) (ba oa j : Nat) (x : RV) : Prop where
  hba : ba < w1.heap.size
  e0 : w1.cell? ⟨ba, oa + j * 3, none⟩ = some (.string x.sv)
  e1 : w1.cell? ⟨ba, oa + j * 3 + 1, none⟩ = some (.slice x.A x.b.length x.c)
  e2 : w1.cell? ⟨ba, oa + j * 3 + 2, none⟩ = some (.int .i64 x.s)
theorem Doing.hit {w W w1 : World} {room : Int} {ba oa n c j : Nat} {x : RV} {p : OpM} (h : Doing w W room (some ⟨ba, oa, none⟩) n c p) {Ψ : Nat → Prop} {L : List RV} (hr : RRd w Ψ (some ⟨ba, oa, none⟩) n c L) (hj : L[j]? = some x) (hb : Below W.heap.size W w1) : Hit w1 ba oa j x := by
  obtain ⟨_, _, b, o, e, hB, e0, e1, e2⟩ := ((hr.later h.below).later hb).here hj
  cases e
  exact ⟨hB, e0, e1, e2⟩
/-- The box of a file, behind At; and what is made then. -/
theorem box_later {W w1 V V2 : World} {N fb : Nat} {a b c : Value} {t : TypeId} (hV : V = w1.alloc (.cells #[a, b, c] t)) (hfb : w1.heap.size = fb) (hb1 : Below W.heap.size W w1) (hb : Below V.heap.size V V2) (hN : N = W.heap.size) :
    Below N W V2 ∧ fb < V2.heap.size ∧ V2.cell? ⟨fb, 0, none⟩ = some a ∧ V2.cell? ⟨fb, 1, none⟩ = some b ∧ V2.cell? ⟨fb, 2, none⟩ = some c ∧ V2.frozen? ⟨fb, 0, none⟩ = false ∧ V2.frozen? ⟨fb, 1, none⟩ = false ∧ V2.frozen? ⟨fb, 2, none⟩ = false := by
  subst hV hN hfb
  have h0 : V2.heap[w1.heap.size]? = _ := (hb.block w1.heap.size (by simp)).trans (heap_alloc_new w1 _)
  obtain ⟨c0, c1, c2, f0, f1, f2⟩ := three_cells h0
  exact ⟨(hb1.alloc hb1.size _).trans (hb.mono (by have := hb1.size; simp; omega)), lt_of_block h0, c0, c1, c2, f0, f1, f2⟩
end Go.Proofs.Ytpolkhippblcmaa
