/- What is proved here: what the document's own Do answers at Rename, where the file is there and gets another name. -/
import Derived.Test.YtpolkhippblcmaaDoHit
namespace Go.Proofs.Ytpolkhippblcmaa
open Go Go.RowKit Go.Maps

set_option maxHeartbeats 1600000 in
set_option maxRecDepth 100000 in
theorem refDo_4c {w : World} {Ψ : Nat → Prop} {A : Option Addr} {n c : Nat} {L : List RV} {room : Int} (h : RRd w Ψ A n c L) (hn : n ≤ 1000000) (hr : Rising RF.nm (L.map RV.f)) (p : OpM) {j : Nat} {x : RV} (hj : L[j]? = some x) (hk : x.nm = p.nm.data.toList) (k1 : p.kind ≠ 1) (k2 : p.kind ≠ 2) (k3 : p.kind ≠ 3) (k0 : p.kind ≠ 0) (k5 : p.kind ≠ 5) (hsn : p.tn.size ≤ maxLen) (hnm : nameOk p.tn.data.toList = true) (hne : p.nm.data.toList ≠ p.tn.data.toList) :
    Calls Try.prog 10 #[.agg #[.int .i64 room, .slice A n c], .agg #[.int .i64 p.kind, .string p.nm, .string p.tn, .slice p.bA p.bn p.bc, .int .i64 p.n, .slice p.kA p.kn p.kc]] w (DoSaid room Ψ w (doF room (L.map RV.f) p).1 (doF room (L.map RV.f) p).2) := by
  have hdo : doF room (L.map RV.f) p = (putN RF.nm ⟨p.tn.data.toList, x.b, x.b.length⟩ (delN RF.nm p.nm.data.toList (L.map RV.f)), 0) := by
    unfold doF renameF
    rw [if_neg k0, if_neg k1, if_neg k2, if_neg k3, if_neg k5, at_some hr hj hk]
    show (if _ then _ else if _ then _ else _) = _
    rw [if_neg (by rw [hnm]; simp), if_neg hne]
    rfl
  rw [hdo]
  obtain ⟨hjn, _, ba, oa, rfl, _⟩ := h.here hj
  have hW0 := Doing.begin w room (some ⟨ba, oa, none⟩) n c p
  obtain ⟨W, hW⟩ : ∃ W, W = (((w.alloc (.cells #[.int .i64 room, .slice (some ⟨ba, oa, none⟩) n c] 29)).alloc (.cells #[.int .i64 p.kind, .string p.nm, .string p.tn, .slice p.bA p.bn p.bc, .int .i64 p.n, .slice p.kA p.kn p.kc] 34)).alloc (.cells #[.int .i64 0, .slice none 0 0] 29)) := ⟨_, rfl⟩
  rw [← hW] at hW0
  have hs := hW0.size
  have hRV : RRd W (fun i => Ψ i ∧ i < w.heap.size) (some ⟨ba, oa, none⟩) n c L := (h.mono (Ψ' := fun i => Ψ i ∧ i < w.heap.size) fun i hi hp => ⟨hp, hi⟩).later hW0.below
  have HBAS := Lib.hid fun w1 (hb : Below W.heap.size W w1) => hW0.bas hb
  have HAT := Lib.hid (refAt_hit (room := room) hRV hr p.nm hj hk)
  have HHIT := Lib.hid fun w1 (hb : Below W.heap.size W w1) => hW0.hit h hj hb
  have HNM : Hid (∀ V, Calls Try.prog 24 #[.string p.tn] V fun e w' => e = .returned (.bool true) ∧ V = w') := Lib.hid fun V => by
    have := named_any p.tn V hsn
    rwa [hnm] at this
  have hok := hRV.ok x (List.mem_of_getElem? hj)
  have hxl : x.b.length ≤ 1048576 := hok.len
  have heq : (p.tn.toList == p.nm.toList) = false := by rw [ByteArray.toList_eq, ByteArray.toList_eq]; exact beq_eq_false_iff_ne.2 (fun e => hne e.symm)
  have hts : p.tn.size ≤ 1000000 := by have := nameOk_len hnm; rw [Array.length_toList] at this; exact Nat.le_trans this (by omega)
  have HWO : Hid (∀ V fb, Below W.heap.size W V → fb + 1 = V.heap.size → W.heap.size ≤ fb → Calls Try.prog 27 #[.agg #[.int .i64 room, .slice (some ⟨ba, oa, none⟩) n c], .string p.nm] V fun e w3 => ∃ A' n' c', e = .returned (.agg #[.int .i64 room, .slice A' n' c']) ∧ Below V.heap.size V w3 ∧
      Hid (Calls Try.prog 26 #[.agg #[.int .i64 room, .slice A' n' c'], .agg #[.string p.tn, .slice x.A x.b.length x.c, .int .i64 x.b.length]] ((((w3.setCell ⟨w.heap.size, 0, none⟩ (.int .i64 room)).setCell ⟨w.heap.size, 1, none⟩ (.slice A' n' c')).setCell ⟨fb, 0, none⟩ (.string p.tn)).setCell ⟨fb, 2, none⟩ (.int .i64 x.b.length))
        (Ends w room Ψ (putN RF.nm ⟨p.tn.data.toList, x.b, x.b.length⟩ (delN RF.nm p.nm.data.toList (L.map RV.f))) 0))) := Lib.hid (by
    intro V fb hV hfb hWf
    refine (without_any (hRV.later hV) hn p.nm).mono ?_
    rintro e w3 ⟨A', c', L', rfl, hr', rfl, hb⟩
    refine ⟨A', _, c', rfl, hb, Lib.hid ?_⟩
    generalize hW5 : ((((w3.setCell ⟨w.heap.size, 0, none⟩ (.int .i64 room)).setCell ⟨w.heap.size, 1, none⟩ (.slice A' (keepN p.nm.data.toList L).length c')).setCell ⟨fb, 0, none⟩ (.string p.tn)).setCell ⟨fb, 2, none⟩ (.int .i64 x.b.length)) = W5
    have hch : Chg (fun i => i = w.heap.size ∨ i = fb) w3 W5 := by
      rw [← hW5]
      exact (((((Chg.set w3 w.heap.size 0 _).mono fun _ _ e => .inl e).trans ((Chg.set _ w.heap.size 1 _).mono fun _ _ e => .inl e) fun _ _ e => e).trans ((Chg.set _ fb 0 _).mono fun _ _ e => .inr e) fun _ _ e => e).trans ((Chg.set _ fb 2 _).mono fun _ _ e => .inr e) fun _ _ e => e)
    have hsV := hV.size
    have hs3 := hb.size
    have hs5 := hch.size
    have hkl := keepN_len p.nm.data.toList L
    have hlen := hRV.len
    have hres : W5.heap[w.heap.size + 2]? = _ := (hch.block (w.heap.size + 2) (by omega) (by omega)).trans ((hb.block (w.heap.size + 2) (by omega)).trans ((hV.block (w.heap.size + 2) (by omega)).trans hW0.r))
    have hbw : Below w.heap.size w W5 := hW0.below.trans ((hV.mono (by omega)).trans ((hb.mono (by omega)).trans (hch.below (by omega) fun i hi => by omega)))
    have hr5 := hr'.keep hch fun i hi e => by omega
    have hy5 : RVOk W5 (fun i => (Ψ i ∧ i < w.heap.size) ∨ V.heap.size ≤ i) ⟨p.tn, x.b, x.b.length, x.A, x.c⟩ := by
      have := ((((hok.later hV).later hb).mono (Ψ' := fun i => (Ψ i ∧ i < w.heap.size) ∨ V.heap.size ≤ i) fun i _ hi => .inl hi).keep hch fun i hi e => by omega)
      exact ⟨this.rd, this.inn, this.byt, this.len, hts, Nat.le_refl _⟩
    exact (with_any hr5 (by omega) ⟨p.tn, x.b, x.b.length, x.A, x.c⟩ hy5).mono fun e w4 ho => ends_any hres hbw (by omega) (fun i hi => by
      rcases hi with hi | hi
      · exact .inl hi
      · exact .inr (by omega)) ho (fun L' e' => by rw [e', put_map, keepN_map]; rfl) 0)
  have HW := Lib.hid hW
  have HS := Lib.hid hs
  have hcap := h.cap
  have hmax := h.max
  unfold maxLen at hmax
  clear h hn hdo hW0 hRV hW hs hj hk hr hnm hne hts hok
  obtain ⟨kind, nm, tn, bA, bn, bc, b, m, kA, kn, kc, ks⟩ := p
  simp only at *
  have hjn' : (j : Int) < n := by omega
  have z1 : (kind == 1) = false := by simpa using k1
  have z2 : (kind == 2) = false := by simpa using k2
  have z3 : (kind == 3) = false := by simpa using k3
  have z0 : (kind == 0) = false := by simpa using k0
  have z5 : (kind == 5) = false := by simpa using k5
  clear k0 k1 k2 k3 k5
  go_enter Try.func10, Try.ntmps10
  go_upto_region 21 with (first
    | (rw [← HW.out]; go_at_call 23; refine (HAT.out).mono ?_; rintro e w1 ⟨rfl, hb1⟩; have HB1 := Lib.hid hb1; obtain ⟨hba, e0, e1, e2⟩ := HHIT.out w1 hb1; obtain ⟨l0, l1, l2, a0, a1, fa0, fa1, b0, b1, b2, b3, b4, r0, r1, fr0, fr1⟩ := HBAS.out w1 hb1; clear hb1)
    | (go_at_call 24; refine (HNM.out _).mono ?_; rintro e w2 ⟨rfl, rfl⟩))
  obtain ⟨V, hV⟩ : ∃ V, V = w1.alloc (.cells #[.string x.sv, .slice x.A x.b.length x.c, .int .i64 x.s] 48) := ⟨_, rfl⟩
  obtain ⟨fb, hfb⟩ : ∃ fb, fb = w1.heap.size := ⟨_, rfl⟩
  have HBOX := Lib.hid fun V2 (hb : Below V.heap.size V V2) => box_later hV hfb.symm HB1.out hb (N := W.heap.size) rfl
  have hVs : fb + 1 = V.heap.size := by rw [hV, hfb]; simp
  have hWf : W.heap.size ≤ fb := by rw [hfb]; exact HB1.out.size
  obtain ⟨hbV, hfV, d0, d1, d2, g0, g1, g2⟩ := HBOX.out V (Below.refl _ _)
  have HBV := Lib.hid hbV
  have hwf : w.heap.size < fb := by rw [hfb]; exact l2
  have hwf2 : w.heap.size + 1 < fb := by rw [hfb]; exact l1
  rw [← hV]
  rw [← hfb]
  clear hba e0 e1 e2 l0 l1 l2 a0 a1 fa0 fa1 b0 b1 b2 b3 b4 r0 r1 fr0 fr1 hV hfb
  obtain ⟨l0, l1, l2, a0, a1, fa0, fa1, b0, b1, b2, b3, b4, r0, r1, fr0, fr1⟩ := HBAS.out V HBV.out
  have HVS := Lib.hid hVs
  clear hbV hVs
  go_wp2_with (first
    | (go_at_call 27; refine (HWO.out V fb HBV.out HVS.out hWf).mono ?_; rintro e w3 ⟨A', n', c', rfl, hb3, HCALL⟩; clear l0 l1 l2 a0 a1 fa0 fa1 b0 b1 b2 b3 b4 r0 r1 fr0 fr1 d0 d1 d2 g0 g1 g2 hfV; obtain ⟨hbV2, hfV, d0, d1, d2, g0, g1, g2⟩ := HBOX.out w3 hb3; obtain ⟨l0, l1, l2, a0, a1, fa0, fa1, b0, b1, b2, b3, b4, r0, r1, fr0, fr1⟩ := HBAS.out w3 hbV2; clear hb3 hbV2)
    | (go_at_call 26; refine (HCALL.out).mono ?_; intro e w3 hh; obtain ⟨A', n', c', rfl, q0, q1, q2, q3, f0, f1, HSAID⟩ := hh))
  exact bodyPost_ret (v := .tuple #[.agg #[.int .i64 room, .slice A' n' c'], .int .i64 0]) (by simp [results, Try.results10, go_sem, f0, f1]) rfl HSAID.out
end Go.Proofs.Ytpolkhippblcmaa
