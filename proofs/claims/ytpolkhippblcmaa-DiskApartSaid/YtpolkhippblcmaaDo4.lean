/- What is proved here: what the document's own Do answers at Rename, where the file is there. -/
import Derived.Test.YtpolkhippblcmaaDoHit
namespace Go.Proofs.Ytpolkhippblcmaa
open Go Go.RowKit Go.Maps

set_option maxHeartbeats 1600000 in
set_option maxRecDepth 100000 in
theorem refDo_4a {w : World} {Ψ : Nat → Prop} {A : Option Addr} {n c : Nat} {L : List RV} {room : Int} (h : RRd w Ψ A n c L) (_hn : n ≤ 1000000) (hr : Rising RF.nm (L.map RV.f)) (p : OpM) {j : Nat} {x : RV} (hj : L[j]? = some x) (hk : x.nm = p.nm.data.toList) (k1 : p.kind ≠ 1) (k2 : p.kind ≠ 2) (k3 : p.kind ≠ 3) (k0 : p.kind ≠ 0) (k5 : p.kind ≠ 5) (hsn : p.tn.size ≤ maxLen) (hnm : nameOk p.tn.data.toList = false) :
    Calls Try.prog 10 #[.agg #[.int .i64 room, .slice A n c], .agg #[.int .i64 p.kind, .string p.nm, .string p.tn, .slice p.bA p.bn p.bc, .int .i64 p.n, .slice p.kA p.kn p.kc]] w (DoSaid room Ψ w (doF room (L.map RV.f) p).1 (doF room (L.map RV.f) p).2) := by
  have hdo : doF room (L.map RV.f) p = (L.map RV.f, 1) := by
    unfold doF renameF
    rw [if_neg k0, if_neg k1, if_neg k2, if_neg k3, if_neg k5, at_some hr hj hk]
    show (if _ then _ else _) = _
    rw [if_pos hnm]
  rw [hdo]
  obtain ⟨hjn, _, ba, oa, rfl, _⟩ := h.here hj
  have hW0 := Doing.begin w room (some ⟨ba, oa, none⟩) n c p
  obtain ⟨W, hW⟩ : ∃ W, W = (((w.alloc (.cells #[.int .i64 room, .slice (some ⟨ba, oa, none⟩) n c] 29)).alloc (.cells #[.int .i64 p.kind, .string p.nm, .string p.tn, .slice p.bA p.bn p.bc, .int .i64 p.n, .slice p.kA p.kn p.kc] 34)).alloc (.cells #[.int .i64 0, .slice none 0 0] 29)) := ⟨_, rfl⟩
  rw [← hW] at hW0
  have hs := hW0.size
  have hRV : RRd W (fun i => Ψ i ∧ i < w.heap.size) (some ⟨ba, oa, none⟩) n c L := (h.mono (Ψ' := fun i => Ψ i ∧ i < w.heap.size) fun i hi hp => ⟨hp, hi⟩).later hW0.below
  have HBAS := Lib.hid fun w1 (hb : Below W.heap.size W w1) => hW0.bas hb
  have HAT := Lib.hid (refAt_hit (room := room) hRV hr p.nm hj hk)
  have HHIT := Lib.hid fun w1 (hb : Below W.heap.size W w1) => hW0.hit h hj hb
  have HSAME := Lib.hid fun w1 (hb : Below W.heap.size W w1) o => hW0.same' h hb (1) o
  have HNM : Hid (∀ V, Calls Try.prog 24 #[.string p.tn] V fun e w' => e = .returned (.bool false) ∧ V = w') := Lib.hid fun V => by
    have := named_any p.tn V hsn
    rwa [hnm] at this
  have HW := Lib.hid hW
  have HS := Lib.hid hs
  have hcap := h.cap
  have hmax := h.max
  unfold maxLen at hmax
  clear h _hn hdo hW0 hRV hW hs hj hk hr hnm
  obtain ⟨kind, nm, tn, bA, bn, bc, b, m, kA, kn, kc, ks⟩ := p
  simp only at *
  have hjn' : (j : Int) < n := by omega
  have z1 : (kind == 1) = false := by simpa using k1
  have z2 : (kind == 2) = false := by simpa using k2
  have z3 : (kind == 3) = false := by simpa using k3
  have z0 : (kind == 0) = false := by simpa using k0
  have z5 : (kind == 5) = false := by simpa using k5
  clear k0 k1 k2 k3 k5
  go_enter Try.func10, Try.ntmps10
  go_wp2_with (first
    | (rw [← HW.out]; go_at_call 23; refine (HAT.out).mono ?_; rintro e w1 ⟨rfl, hb1⟩; have HB1 := Lib.hid hb1; obtain ⟨hba, e0, e1, e2⟩ := HHIT.out w1 hb1; obtain ⟨l0, l1, l2, a0, a1, fa0, fa1, b0, b1, b2, b3, b4, r0, r1, fr0, fr1⟩ := HBAS.out w1 hb1; clear hb1)
    | (go_at_call 24; refine (HNM.out _).mono ?_; rintro e w2 ⟨rfl, rfl⟩))
  obtain ⟨f0, f1, hS⟩ := HSAME.out w1 HB1.out (.cells #[.string x.sv, .slice x.A x.b.length x.c, .int .i64 x.s] 48)
  exact bodyPost_ret (v := .tuple #[.agg #[.int .i64 room, .slice (some ⟨ba, oa, none⟩) n c], .int .i64 1]) (by simp [results, Try.results10, go_sem, f0, f1]) rfl hS

set_option maxHeartbeats 1600000 in
set_option maxRecDepth 100000 in
theorem refDo_4b {w : World} {Ψ : Nat → Prop} {A : Option Addr} {n c : Nat} {L : List RV} {room : Int} (h : RRd w Ψ A n c L) (_hn : n ≤ 1000000) (hr : Rising RF.nm (L.map RV.f)) (p : OpM) {j : Nat} {x : RV} (hj : L[j]? = some x) (hk : x.nm = p.nm.data.toList) (k1 : p.kind ≠ 1) (k2 : p.kind ≠ 2) (k3 : p.kind ≠ 3) (k0 : p.kind ≠ 0) (k5 : p.kind ≠ 5) (hsn : p.tn.size ≤ maxLen) (hnm : nameOk p.tn.data.toList = true) (he : p.tn = p.nm) :
    Calls Try.prog 10 #[.agg #[.int .i64 room, .slice A n c], .agg #[.int .i64 p.kind, .string p.nm, .string p.tn, .slice p.bA p.bn p.bc, .int .i64 p.n, .slice p.kA p.kn p.kc]] w (DoSaid room Ψ w (doF room (L.map RV.f) p).1 (doF room (L.map RV.f) p).2) := by
  have hdo : doF room (L.map RV.f) p = (L.map RV.f, 0) := by
    unfold doF renameF
    rw [if_neg k0, if_neg k1, if_neg k2, if_neg k3, if_neg k5, at_some hr hj hk]
    show (if _ then _ else if _ then _ else _) = _
    rw [if_neg (by rw [hnm]; simp), if_pos (by rw [he])]
  rw [hdo]
  obtain ⟨hjn, _, ba, oa, rfl, _⟩ := h.here hj
  have hW0 := Doing.begin w room (some ⟨ba, oa, none⟩) n c p
  obtain ⟨W, hW⟩ : ∃ W, W = (((w.alloc (.cells #[.int .i64 room, .slice (some ⟨ba, oa, none⟩) n c] 29)).alloc (.cells #[.int .i64 p.kind, .string p.nm, .string p.tn, .slice p.bA p.bn p.bc, .int .i64 p.n, .slice p.kA p.kn p.kc] 34)).alloc (.cells #[.int .i64 0, .slice none 0 0] 29)) := ⟨_, rfl⟩
  rw [← hW] at hW0
  have hs := hW0.size
  have hRV : RRd W (fun i => Ψ i ∧ i < w.heap.size) (some ⟨ba, oa, none⟩) n c L := (h.mono (Ψ' := fun i => Ψ i ∧ i < w.heap.size) fun i hi hp => ⟨hp, hi⟩).later hW0.below
  have HBAS := Lib.hid fun w1 (hb : Below W.heap.size W w1) => hW0.bas hb
  have HAT := Lib.hid (refAt_hit (room := room) hRV hr p.nm hj hk)
  have HHIT := Lib.hid fun w1 (hb : Below W.heap.size W w1) => hW0.hit h hj hb
  have HSAME := Lib.hid fun w1 (hb : Below W.heap.size W w1) o => hW0.same' h hb (0) o
  have HNM : Hid (∀ V, Calls Try.prog 24 #[.string p.tn] V fun e w' => e = .returned (.bool true) ∧ V = w') := Lib.hid fun V => by
    have := named_any p.tn V hsn
    rwa [hnm] at this
  have HW := Lib.hid hW
  have HS := Lib.hid hs
  have hcap := h.cap
  have hmax := h.max
  unfold maxLen at hmax
  clear h _hn hdo hW0 hRV hW hs hj hk hr hnm
  obtain ⟨kind, nm, tn, bA, bn, bc, b, m, kA, kn, kc, ks⟩ := p
  simp only at *
  have hjn' : (j : Int) < n := by omega
  have z1 : (kind == 1) = false := by simpa using k1
  have z2 : (kind == 2) = false := by simpa using k2
  have z3 : (kind == 3) = false := by simpa using k3
  have z0 : (kind == 0) = false := by simpa using k0
  have z5 : (kind == 5) = false := by simpa using k5
  clear k0 k1 k2 k3 k5
  subst he
  have heq : (tn.toList == tn.toList) = true := by simp
  go_enter Try.func10, Try.ntmps10
  go_wp2_with (first
    | (rw [← HW.out]; go_at_call 23; refine (HAT.out).mono ?_; rintro e w1 ⟨rfl, hb1⟩; have HB1 := Lib.hid hb1; obtain ⟨hba, e0, e1, e2⟩ := HHIT.out w1 hb1; obtain ⟨l0, l1, l2, a0, a1, fa0, fa1, b0, b1, b2, b3, b4, r0, r1, fr0, fr1⟩ := HBAS.out w1 hb1; clear hb1)
    | (go_at_call 24; refine (HNM.out _).mono ?_; rintro e w2 ⟨rfl, rfl⟩))
  obtain ⟨f0, f1, hS⟩ := HSAME.out w1 HB1.out (.cells #[.string x.sv, .slice x.A x.b.length x.c, .int .i64 x.s] 48)
  exact bodyPost_ret (v := .tuple #[.agg #[.int .i64 room, .slice (some ⟨ba, oa, none⟩) n c], .int .i64 0]) (by simp [results, Try.results10, go_sem, f0, f1]) rfl hS
end Go.Proofs.Ytpolkhippblcmaa
