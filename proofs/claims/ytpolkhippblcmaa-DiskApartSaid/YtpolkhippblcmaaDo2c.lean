/- What is proved here: what the document's own Do answers at Cut, where the file is there and has so many bytes. -/
import Derived.Test.YtpolkhippblcmaaDoHit
namespace Go.Proofs.Ytpolkhippblcmaa
open Go Go.RowKit Go.Maps

set_option maxHeartbeats 1600000 in
set_option maxRecDepth 100000 in
theorem refDo_2c {w : World} {Ψ : Nat → Prop} {A : Option Addr} {n c : Nat} {L : List RV} {room : Int} (h : RRd w Ψ A n c L) (hn : n ≤ 1000000) (hr : Rising RF.nm (L.map RV.f)) (p : OpM) {j : Nat} {x : RV} (hj : L[j]? = some x) (hk : x.nm = p.nm.data.toList) (h2 : p.kind = 2) {k : Nat} (hm : p.n = k) (hkl : k ≤ x.b.length) :
    Calls Try.prog 10 #[.agg #[.int .i64 room, .slice A n c], .agg #[.int .i64 p.kind, .string p.nm, .string p.tn, .slice p.bA p.bn p.bc, .int .i64 p.n, .slice p.kA p.kn p.kc]] w (DoSaid room Ψ w (doF room (L.map RV.f) p).1 (doF room (L.map RV.f) p).2) := by
  have hdo : doF room (L.map RV.f) p = (putN RF.nm (cutRF x.f k) (L.map RV.f), 0) := by
    unfold doF cutF
    rw [h2, at_some hr hj hk]
    show (if p.n < 0 ∨ (x.b.length : Int) < p.n then _ else _) = _
    rw [if_neg (by omega), hm]
    rfl
  rw [hdo]
  obtain ⟨hjn, _, ba, oa, rfl, _⟩ := h.here hj
  have hW0 := Doing.begin w room (some ⟨ba, oa, none⟩) n c p
  obtain ⟨W, hW⟩ : ∃ W, W = (((w.alloc (.cells #[.int .i64 room, .slice (some ⟨ba, oa, none⟩) n c] 29)).alloc (.cells #[.int .i64 p.kind, .string p.nm, .string p.tn, .slice p.bA p.bn p.bc, .int .i64 p.n, .slice p.kA p.kn p.kc] 34)).alloc (.cells #[.int .i64 0, .slice none 0 0] 29)) := ⟨_, rfl⟩
  rw [← hW] at hW0
  have hs := hW0.size
  have hRV : RRd W (fun i => Ψ i ∧ i < w.heap.size) (some ⟨ba, oa, none⟩) n c L := (h.mono (Ψ' := fun i => Ψ i ∧ i < w.heap.size) fun i hi hp => ⟨hp, hi⟩).later hW0.below
  have HBAS := Lib.hid fun w1 (hb : Below W.heap.size W w1) => hW0.bas hb
  have HAT := Lib.hid (refAt_hit (room := room) hRV hr p.nm hj hk)
  have HHIT := Lib.hid fun w1 (hb : Below W.heap.size W w1) => hW0.hit h hj hb
  have hok := hRV.ok x (List.mem_of_getElem? hj)
  have hxl : x.b.length ≤ 1048576 := hok.len
  obtain ⟨j0, hj0, jz0, jz1, jz2⟩ := info_parts info_u8
  have HLIT := Lib.hid (fun (W : World) => World.ownsRow_lit (e := 5) (size := 1) W #[] 0 (Nat.le_refl _) (by decide) rfl)
  have HRX : Hid (∀ V, Below W.heap.size W V → Rd V V.heap.size .u8 x.A k x.c (x.b.take k)) := Lib.hid fun V hV => (hok.later hV).rd.take hkl
  have HLN : Hid (((x.b.take k).map (Value.int .u8)).length = k * 1) := Lib.hid (by rw [List.length_map, List.length_take]; omega)
  have hxc : x.b.length ≤ x.c := hok.rd.cap
  have hxm : x.c ≤ 9223372036854775807 := hok.rd.max
  -- with, of the file with its new bytes
  have HWO : Hid (∀ V w60 w5 v60 fb, Below W.heap.size W V → fb + 1 = V.heap.size → Below V.heap.size V w60 → W.heap.size ≤ fb → w60.ownsRow V.heap.size 5 1 v60 k ((x.b.take k).map (Value.int .u8)) → Chg (fun i => i = fb) w60 w5 →
      ∃ A6 c6, v60 = .slice A6 k c6 ∧ Calls Try.prog 26 #[.agg #[.int .i64 room, .slice (some ⟨ba, oa, none⟩) n c], .agg #[.string x.sv, .slice A6 k c6, .int .i64 k]] w5 (Ends w room Ψ (putN RF.nm (cutRF x.f k) (L.map RV.f)) 0)) := Lib.hid (by
    intro V w60 w5 v60 fb hV hfb hb60 hWf ho hc
    have hs5 := hc.size
    have hs6 := hb60.size
    have hlt : (x.b.take k).length = k := by rw [List.length_take]; omega
    obtain ⟨A6, c6, hv, -, hY⟩ := file_new (fb := fb) (s := k) x.sv (Ψ1 := Far Ψ w.heap.size) ho hlt (by omega) (fun i hi => .inr (by omega)) (fun y hy => hok.byt y (List.mem_of_mem_take hy)) (by omega) hok.sn (Nat.le_refl _)
    have hb5 : Below W.heap.size W w5 := hV.trans ((hb60.mono hV.size).trans (hc.below (by omega) fun i hi => by omega))
    exact ⟨A6, c6, hv, hW0.with_ hb5 (fun i hi => hi) ((hRV.later hb5).mono fun i _ hi => .inl hi) hn ⟨x.sv, x.b.take k, k, A6, c6⟩ (hY w5 hc) hlt⟩)
  have HW := Lib.hid hW
  have HS := Lib.hid hs
  have hcap := h.cap
  have hmax := h.max
  unfold maxLen at hmax
  clear h hn hdo hW0 hRV hW hs hj hk hr hok
  obtain ⟨kind, nm, tn, bA, bn, bc, b, m, kA, kn, kc, ks⟩ := p
  simp only at *
  have hjn' : (j : Int) < n := by omega
  subst h2 hm
  have hk0 : (0 : Int) ≤ k := by omega
  have hkl' : (k : Int) ≤ x.b.length := by omega
  have hkc' : (k : Int) ≤ x.c := by omega
  go_enter Try.func10, Try.ntmps10
  go_upto_region 29 with (rw [← HW.out]; go_at_call 23; refine (HAT.out).mono ?_; rintro e w1 ⟨rfl, hb1⟩; have HB1 := Lib.hid hb1; obtain ⟨hba, e0, e1, e2⟩ := HHIT.out w1 hb1; obtain ⟨l0, l1, l2, a0, a1, fa0, fa1, b0, b1, b2, b3, b4, r0, r1, fr0, fr1⟩ := HBAS.out w1 hb1; clear hb1)
  obtain ⟨V, hV⟩ : ∃ V, V = w1.alloc (.cells #[.string x.sv, .slice x.A x.b.length x.c, .int .i64 x.s] 48) := ⟨_, rfl⟩
  obtain ⟨fb, hfb⟩ : ∃ fb, fb = w1.heap.size := ⟨_, rfl⟩
  have HBOX := Lib.hid fun V2 (hb : Below V.heap.size V V2) => box_later hV hfb.symm HB1.out hb (N := W.heap.size) rfl
  have hVs : fb + 1 = V.heap.size := by rw [hV, hfb]; simp
  have hWf : W.heap.size ≤ fb := by rw [hfb]; exact HB1.out.size
  obtain ⟨hbV, hfV, d0, d1, d2, g0, g1, g2⟩ := HBOX.out V (Below.refl _ _)
  have HBV := Lib.hid hbV
  have hwf : w.heap.size < fb := by rw [hfb]; exact l2
  have hwf2 : w.heap.size + 1 < fb := by rw [hfb]; exact l1
  rw [← hV]
  rw [← hfb]
  clear hba e0 e1 e2 l0 l1 l2 a0 a1 fa0 fa1 b0 b1 b2 b3 b4 r0 r1 fr0 fr1 hV hfb
  obtain ⟨l0, l1, l2, a0, a1, fa0, fa1, b0, b1, b2, b3, b4, r0, r1, fr0, fr1⟩ := HBAS.out V HBV.out
  have HVS := Lib.hid hVs
  clear hbV hVs
  go_wp2_with (first
    | (at_builtin; refine wpList_append_src (o := ⟨some 111, _, _, _, _, _⟩) rfl (.tmp 105) (.tmp 110) 31 rfl V.heap.size 5 j0 _ 1 1 Try.underlying31 hj0 jz0 jz1 jz2 rfl (by omega) _ 0 [] rfl (HLIT.out V) x.A k x.c ((x.b.take k).map (Value.int .u8)) rfl HLN.out (HRX.out V HBV.out).nil (((HRX.out V HBV.out).below ((Below.refl _ V).alloc (Nat.le_refl _) _)).news) (ints_oneCell _ _) (by unfold maxLen; omega) (by omega) (by simp) ?_; intro v60 w60 ho60 hg60; have hb60 : Below V.heap.size V w60 := ((Below.refl _ V).alloc (Nat.le_refl _) _).grown hg60 (by simp) (fun i hi => by cases hi; exact Nat.le_refl _); obtain ⟨A6, c6, rfl, hcall⟩ := HWO.out V w60 ((w60.setCell ⟨fb, 1, none⟩ v60).setCell ⟨fb, 2, none⟩ (.int .i64 k)) v60 fb HBV.out HVS.out hb60 hWf (by simpa using ho60) ((Chg.set _ _ _ _).trans (Chg.set _ _ _ _) fun _ _ e => e); have HCALL := Lib.hid hcall; clear l0 l1 l2 a0 a1 fa0 fa1 b0 b1 b2 b3 b4 r0 r1 fr0 fr1 d0 d1 d2 g0 g1 g2 hfV; obtain ⟨hbV2, hfV, d0, d1, d2, g0, g1, g2⟩ := HBOX.out w60 hb60; obtain ⟨l0, l1, l2, a0, a1, fa0, fa1, b0, b1, b2, b3, b4, r0, r1, fr0, fr1⟩ := HBAS.out w60 hbV2; clear hcall ho60 hg60 hb60 hbV2)
    | (go_at_call 26; refine (HCALL.out).mono ?_; intro e w3 hh; obtain ⟨A', n', c', rfl, q0, q1, q2, q3, f0, f1, HSAID⟩ := hh))
  exact bodyPost_ret (v := .tuple #[.agg #[.int .i64 room, .slice A' n' c'], .int .i64 0]) (by simp [results, Try.results10, go_sem, f0, f1]) rfl HSAID.out
end Go.Proofs.Ytpolkhippblcmaa
