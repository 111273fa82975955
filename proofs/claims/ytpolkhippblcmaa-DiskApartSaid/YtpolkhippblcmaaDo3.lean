/- What is proved here: what the document's own Do answers at Remove, where the file is there. -/
import Derived.Test.YtpolkhippblcmaaDoHit
namespace Go.Proofs.Ytpolkhippblcmaa
open Go Go.RowKit Go.Maps

set_option maxHeartbeats 1600000 in
set_option maxRecDepth 100000 in
theorem refDo_3 {w : World} {Ψ : Nat → Prop} {A : Option Addr} {n c : Nat} {L : List RV} {room : Int} (h : RRd w Ψ A n c L) (hn : n ≤ 1000000) (hr : Rising RF.nm (L.map RV.f)) (p : OpM) {j : Nat} {x : RV} (hj : L[j]? = some x) (hk : x.nm = p.nm.data.toList) (h3 : p.kind = 3) :
    Calls Try.prog 10 #[.agg #[.int .i64 room, .slice A n c], .agg #[.int .i64 p.kind, .string p.nm, .string p.tn, .slice p.bA p.bn p.bc, .int .i64 p.n, .slice p.kA p.kn p.kc]] w (DoSaid room Ψ w (doF room (L.map RV.f) p).1 (doF room (L.map RV.f) p).2) := by
  have hdo : doF room (L.map RV.f) p = (delN RF.nm p.nm.data.toList (L.map RV.f), 0) := by
    unfold doF removeF
    rw [h3, at_some hr hj hk]
    rfl
  rw [hdo]
  obtain ⟨hjn, _, ba, oa, rfl, _⟩ := h.here hj
  have hW0 := Doing.begin w room (some ⟨ba, oa, none⟩) n c p
  obtain ⟨W, hW⟩ : ∃ W, W = (((w.alloc (.cells #[.int .i64 room, .slice (some ⟨ba, oa, none⟩) n c] 29)).alloc (.cells #[.int .i64 p.kind, .string p.nm, .string p.tn, .slice p.bA p.bn p.bc, .int .i64 p.n, .slice p.kA p.kn p.kc] 34)).alloc (.cells #[.int .i64 0, .slice none 0 0] 29)) := ⟨_, rfl⟩
  rw [← hW] at hW0
  have hs := hW0.size
  have hRV : RRd W (fun i => Ψ i ∧ i < w.heap.size) (some ⟨ba, oa, none⟩) n c L := (h.mono (Ψ' := fun i => Ψ i ∧ i < w.heap.size) fun i hi hp => ⟨hp, hi⟩).later hW0.below
  have HBAS := Lib.hid fun w1 (hb : Below W.heap.size W w1) => hW0.bas hb
  have HAT := Lib.hid (refAt_hit (room := room) hRV hr p.nm hj hk)
  have HHIT := Lib.hid fun w1 (hb : Below W.heap.size W w1) => hW0.hit h hj hb
  have HWO := Lib.hid fun V (hV : Below W.heap.size W V) => hW0.without_ (Ψ := Ψ) hV (fun i hi => .inl hi) hRV hn p.nm
  have HW := Lib.hid hW
  have HS := Lib.hid hs
  have hcap := h.cap
  have hmax := h.max
  unfold maxLen at hmax
  clear h hn hdo hW0 hRV hW hs hj hk hr
  obtain ⟨kind, nm, tn, bA, bn, bc, b, m, kA, kn, kc, ks⟩ := p
  simp only at *
  have hjn' : (j : Int) < n := by omega
  subst h3
  go_enter Try.func10, Try.ntmps10
  go_wp2_with (first
    | (rw [← HW.out]; go_at_call 23; refine (HAT.out).mono ?_; rintro e w1 ⟨rfl, hb1⟩; have HB1 := Lib.hid hb1; obtain ⟨hba, e0, e1, e2⟩ := HHIT.out w1 hb1; obtain ⟨l0, l1, l2, a0, a1, fa0, fa1, b0, b1, b2, b3, b4, r0, r1, fr0, fr1⟩ := HBAS.out w1 hb1; clear hb1)
    | (go_at_call 27; refine (HWO.out _ (HB1.out.alloc HB1.out.size _)).mono ?_; intro e w3 hh; obtain ⟨A', n', c', rfl, q0, q1, q2, q3, f0, f1, HSAID⟩ := hh))
  exact bodyPost_ret (v := .tuple #[.agg #[.int .i64 room, .slice A' n' c'], .int .i64 0]) (by simp [results, Try.results10, go_sem, f0, f1]) rfl HSAID.out
end Go.Proofs.Ytpolkhippblcmaa
