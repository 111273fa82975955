/- What is proved here: what the document's own Do answers at Append, where there is no such a file. -/
import Derived.Test.YtpolkhippblcmaaDo0h
import Derived.Deep.RegionHeld3
namespace Go.Proofs.Ytpolkhippblcmaa
open Go Go.RowKit Go.Maps

set_option maxHeartbeats 1600000 in
set_option maxRecDepth 100000 in
theorem refDo_0an {w : World} {Ψ : Nat → Prop} {A : Option Addr} {n c : Nat} {L : List RV} {room : Int} (h : RRd w Ψ A n c L) (_hn : n ≤ 1000000) (p : OpM) (hno : ∀ x ∈ L, x.nm ≠ p.nm.data.toList) (k0 : p.kind = 0) (hsn : p.nm.size ≤ maxLen) (hnm : nameOk p.nm.data.toList = false) :
    Calls Try.prog 10 #[.agg #[.int .i64 room, .slice A n c], .agg #[.int .i64 p.kind, .string p.nm, .string p.tn, .slice p.bA p.bn p.bc, .int .i64 p.n, .slice p.kA p.kn p.kc]] w (DoSaid room Ψ w (doF room (L.map RV.f) p).1 (doF room (L.map RV.f) p).2) := by
  have hdo : doF room (L.map RV.f) p = (L.map RV.f, 1) := by
    unfold doF
    rw [if_pos k0]
    unfold appendF
    rw [if_pos hnm]
  rw [hdo]
  have hW0 := Doing.begin w room A n c p
  obtain ⟨W, hW⟩ : ∃ W, W = (((w.alloc (.cells #[.int .i64 room, .slice A n c] 29)).alloc (.cells #[.int .i64 p.kind, .string p.nm, .string p.tn, .slice p.bA p.bn p.bc, .int .i64 p.n, .slice p.kA p.kn p.kc] 34)).alloc (.cells #[.int .i64 0, .slice none 0 0] 29)) := ⟨_, rfl⟩
  rw [← hW] at hW0
  have hs := hW0.size
  have hRV : RRd W (fun i => Ψ i ∧ i < w.heap.size) A n c L := (h.mono (Ψ' := fun i => Ψ i ∧ i < w.heap.size) fun i hi hp => ⟨hp, hi⟩).later hW0.below
  have HBAS := Lib.hid fun w1 (hb : Below W.heap.size W w1) => hW0.bas hb
  have HAT : Hid (Calls Try.prog 23 #[.agg #[.int .i64 room, .slice A n c], .string p.nm] W fun e w' => e = .returned (.int .i64 (-1)) ∧ Below W.heap.size W w') := Lib.hid ((refAt_any (room := room) hRV p.nm).mono (by
    rintro e w' ⟨hat, hb⟩
    refine ⟨?_, hb⟩
    rcases hat with ⟨he, _⟩ | ⟨j, x, hj, hx, _⟩
    · exact he
    · exact absurd hx (hno x (List.mem_of_getElem? hj))))
  have HSAME := Lib.hid fun w1 (hb : Below W.heap.size W w1) o => hW0.same' h hb (1) o
  have HNM : Hid (∀ V, Calls Try.prog 24 #[.string p.nm] V fun e w' => e = .returned (.bool false) ∧ V = w') := Lib.hid fun V => by
    have := named_any p.nm V hsn
    rwa [hnm] at this
  have HW := Lib.hid hW
  have HS := Lib.hid hs
  have hcap := h.cap
  have hmax := h.max
  unfold maxLen at hmax
  clear h _hn hdo hW0 hRV hW hs hno hnm
  obtain ⟨kind, nm, tn, bA, bn, bc, b, m, kA, kn, kc, ks⟩ := p
  simp only at *
  subst k0
  go_enter Try.func10, Try.ntmps10
  go_wp2_with (first
    | (rw [← HW.out]; go_at_call 23; refine (HAT.out).mono ?_; rintro e w1 ⟨rfl, hb1⟩; have HB1 := Lib.hid hb1; obtain ⟨l0, l1, l2, a0, a1, fa0, fa1, b0, b1, b2, b3, b4, r0, r1, fr0, fr1⟩ := HBAS.out w1 hb1; clear hb1)
    | (go_at_call 24; refine (HNM.out _).mono ?_; rintro e w2 ⟨rfl, rfl⟩))
  obtain ⟨f0, f1, hS⟩ := HSAME.out w1 HB1.out (.cells #[.string nm, .slice none 0 0, .int .i64 0] 48)
  exact bodyPost_ret (v := .tuple #[.agg #[.int .i64 room, .slice A n c], .int .i64 1]) (by simp [results, Try.results10, go_sem, f0, f1]) rfl hS

set_option maxHeartbeats 1600000 in
set_option maxRecDepth 100000 in
theorem refDo_0bn {w : World} {Ψ : Nat → Prop} {A : Option Addr} {n c : Nat} {L : List RV} {room : Int} (h : RRd w Ψ A n c L) (hn : n ≤ 1000000) (p : OpM) (hno : ∀ x ∈ L, x.nm ≠ p.nm.data.toList) (k0 : p.kind = 0) (hsn : p.nm.size ≤ maxLen) (hnm : nameOk p.nm.data.toList = true) {B : Nat} (hp : OpOk w B p) (hU : room < ((usedN (L.map RV.f) + p.b.length : Nat) : Int)) :
    Calls Try.prog 10 #[.agg #[.int .i64 room, .slice A n c], .agg #[.int .i64 p.kind, .string p.nm, .string p.tn, .slice p.bA p.bn p.bc, .int .i64 p.n, .slice p.kA p.kn p.kc]] w (DoSaid room Ψ w (doF room (L.map RV.f) p).1 (doF room (L.map RV.f) p).2) := by
  have hdo : doF room (L.map RV.f) p = (L.map RV.f, 5) := by
    unfold doF
    rw [if_pos k0]
    unfold appendF
    rw [if_neg (by rw [hnm]; simp), if_pos hU]
  rw [hdo]
  have hW0 := Doing.begin w room A n c p
  obtain ⟨W, hW⟩ : ∃ W, W = (((w.alloc (.cells #[.int .i64 room, .slice A n c] 29)).alloc (.cells #[.int .i64 p.kind, .string p.nm, .string p.tn, .slice p.bA p.bn p.bc, .int .i64 p.n, .slice p.kA p.kn p.kc] 34)).alloc (.cells #[.int .i64 0, .slice none 0 0] 29)) := ⟨_, rfl⟩
  rw [← hW] at hW0
  have hs := hW0.size
  have hRV : RRd W (fun i => Ψ i ∧ i < w.heap.size) A n c L := (h.mono (Ψ' := fun i => Ψ i ∧ i < w.heap.size) fun i hi hp => ⟨hp, hi⟩).later hW0.below
  have HBAS := Lib.hid fun w1 (hb : Below W.heap.size W w1) => hW0.bas hb
  have HAT : Hid (Calls Try.prog 23 #[.agg #[.int .i64 room, .slice A n c], .string p.nm] W fun e w' => e = .returned (.int .i64 (-1)) ∧ Below W.heap.size W w') := Lib.hid ((refAt_any (room := room) hRV p.nm).mono (by
    rintro e w' ⟨hat, hb⟩
    refine ⟨?_, hb⟩
    rcases hat with ⟨he, _⟩ | ⟨j, x, hj, hx, _⟩
    · exact he
    · exact absurd hx (hno x (List.mem_of_getElem? hj))))
  have HSAME := Lib.hid fun w1 (hb : Below W.heap.size W w1) => hW0.same h hb 5
  have HNM : Hid (∀ V, Calls Try.prog 24 #[.string p.nm] V fun e w' => e = .returned (.bool true) ∧ V = w') := Lib.hid fun V => by
    have := named_any p.nm V hsn
    rwa [hnm] at this
  have hpl := hp.rb.len
  have hps := hp.sb
  have hpc := hp.rb.cap
  have hpm := hp.rb.max
  unfold maxLen at hpm
  have hlen := h.len
  obtain ⟨U, hUU⟩ : ∃ U, U = usedN (L.map RV.f) := ⟨_, rfl⟩
  have hUl := used_le (L := L) fun y hy => (h.ok y hy).len
  rw [← hUU, hlen] at hUl
  have hUb : U ≤ 1048576000000 := by omega
  clear hUl
  have HU := Lib.hid fun V (hV : Below W.heap.size W V) => by
    have := refUsed_any (room := room) (hRV.later hV) hn
    rwa [← hUU] at this
  have hcmp : room < (U : Int) + (p.bn : Int) := by rw [← hUU, hpl] at hU; omega
  have HW := Lib.hid hW
  have HS := Lib.hid hs
  have hcap := h.cap
  have hmax := h.max
  unfold maxLen at hmax
  clear h hn hdo hW0 hRV hW hs hno hnm hp hpl hUU hlen hU
  obtain ⟨kind, nm, tn, bA, bn, bc, b, m, kA, kn, kc, ks⟩ := p
  simp only at *
  subst k0
  go_enter Try.func10, Try.ntmps10
  go_upto_region 10 with (first
    | (rw [← HW.out]; go_at_call 23; refine (HAT.out).mono ?_; rintro e w1 ⟨rfl, hb1⟩; have HB1 := Lib.hid hb1; obtain ⟨l0, l1, l2, a0, a1, fa0, fa1, b0, b1, b2, b3, b4, r0, r1, fr0, fr1⟩ := HBAS.out w1 hb1; clear hb1)
    | (go_at_call 24; refine (HNM.out _).mono ?_; rintro e w2 ⟨rfl, rfl⟩))
  obtain ⟨V, hV⟩ : ∃ V, V = w1.alloc (.cells #[.string nm, .slice none 0 0, .int .i64 0] 48) := ⟨_, rfl⟩
  obtain ⟨fb, hfb⟩ : ∃ fb, fb = w1.heap.size := ⟨_, rfl⟩
  have HBOX := Lib.hid fun V2 (hb : Below V.heap.size V V2) => box_later hV hfb.symm HB1.out hb (N := W.heap.size) rfl
  have hVs : fb + 1 = V.heap.size := by rw [hV, hfb]; simp
  have hWf : W.heap.size ≤ fb := by rw [hfb]; exact HB1.out.size
  obtain ⟨hbV, hfV, d0, d1, d2, g0, g1, g2⟩ := HBOX.out V (Below.refl _ _)
  have HBV := Lib.hid hbV
  have hwf : w.heap.size < fb := by rw [hfb]; exact l2
  have hwf2 : w.heap.size + 1 < fb := by rw [hfb]; exact l1
  rw [← hV]
  rw [← hfb]
  clear l0 l1 l2 a0 a1 fa0 fa1 b0 b1 b2 b3 b4 r0 r1 fr0 fr1 hV hfb
  obtain ⟨l0, l1, l2, a0, a1, fa0, fa1, b0, b1, b2, b3, b4, r0, r1, fr0, fr1⟩ := HBAS.out V HBV.out
  have HVS := Lib.hid hVs
  clear hbV hVs
  have HUC : Hid (Calls Try.prog 25 #[.agg #[.int .i64 room, .slice A n c]] V.drew fun e w' => e = .returned (.int .i64 U) ∧ w'.cell? ⟨w.heap.size, 0, none⟩ = some (.int .i64 room) ∧ w'.cell? ⟨w.heap.size, 1, none⟩ = some (.slice A n c) ∧ w'.cell? ⟨w.heap.size + 1, 3, none⟩ = some (.slice bA bn bc) ∧ Hid (Below V.heap.size V w')) := Lib.hid ((HU.out V.drew HBV.out.drew).mono (by
    rintro e w' ⟨rfl, hb⟩
    have hb' : Below V.heap.size V w' := (Below.refl V.heap.size V).drew.trans hb
    have hbas := HBAS.out w' (HBV.out.trans (hb'.mono HBV.out.size))
    exact ⟨rfl, hbas.a0, hbas.a1, hbas.b3, Lib.hid hb'⟩))
  have hwr : IntKind.i64.wrap ((U : Int) + (bn : Int)) = (U : Int) + (bn : Int) := IntWalk.i64_in _ (by omega)
  go_region_held3 (fun w' => w'.cell? ⟨w.heap.size, 0, none⟩ = some (.int .i64 room) ∧ w'.cell? ⟨w.heap.size, 1, none⟩ = some (.slice A n c) ∧ w'.cell? ⟨w.heap.size + 1, 3, none⟩ = some (.slice bA bn bc))
    (first | exact ⟨by assumption, by assumption, by assumption⟩ | exact ⟨a0, a1, b3⟩)
    ((go_at_call 25; refine (HUC.out).mono ?_; rintro e w3 ⟨rfl, t0, t1, t3, HB3⟩))
  all_goals
    clear l0 l1 l2 a0 a1 fa0 fa1 b0 b1 b2 b3 b4 r0 r1 fr0 fr1 d0 d1 d2 g0 g1 g2 hfV hwr t0 t1 t3
    obtain ⟨hbW3, hfV, d0, d1, d2, g0, g1, g2⟩ := HBOX.out w3 HB3.out
    obtain ⟨l0, l1, l2, a0, a1, fa0, fa1, b0, b1, b2, b3, b4, r0, r1, fr0, fr1⟩ := HBAS.out w3 hbW3
    have HBW3 := Lib.hid hbW3
    clear hbW3
    go_wp2_with fail
    obtain ⟨f0, f1, hS⟩ := HSAME.out w3 HBW3.out
    exact bodyPost_ret (v := .tuple #[.agg #[.int .i64 room, .slice A n c], .int .i64 5]) (by simp [results, Try.results10, go_sem, f0, f1]) rfl hS

set_option maxHeartbeats 1600000 in
set_option maxRecDepth 100000 in
theorem refDo_0cn {w : World} {Ψ : Nat → Prop} {A : Option Addr} {n c : Nat} {L : List RV} {room : Int} (h : RRd w Ψ A n c L) (hn : n ≤ 1000000) (p : OpM) (hno : ∀ x ∈ L, x.nm ≠ p.nm.data.toList) (k0 : p.kind = 0) (hsn : p.nm.size ≤ maxLen) (hnm : nameOk p.nm.data.toList = true) {B : Nat} (hp : OpOk w B p) (hB : B ≤ w.heap.size) (hrm : room ≤ 1048576) (hU : ((usedN (L.map RV.f) + p.b.length : Nat) : Int) ≤ room) :
    Calls Try.prog 10 #[.agg #[.int .i64 room, .slice A n c], .agg #[.int .i64 p.kind, .string p.nm, .string p.tn, .slice p.bA p.bn p.bc, .int .i64 p.n, .slice p.kA p.kn p.kc]] w (DoSaid room Ψ w (doF room (L.map RV.f) p).1 (doF room (L.map RV.f) p).2) := by
  have hdo : doF room (L.map RV.f) p = (putN RF.nm ⟨p.nm.data.toList, p.b, 0⟩ (L.map RV.f), 0) := by
    unfold doF
    rw [if_pos k0]
    unfold appendF
    rw [if_neg (by rw [hnm]; simp), if_neg (by omega), old_none hno]
    rfl
  rw [hdo]
  have hW0 := Doing.begin w room A n c p
  obtain ⟨W, hW⟩ : ∃ W, W = (((w.alloc (.cells #[.int .i64 room, .slice A n c] 29)).alloc (.cells #[.int .i64 p.kind, .string p.nm, .string p.tn, .slice p.bA p.bn p.bc, .int .i64 p.n, .slice p.kA p.kn p.kc] 34)).alloc (.cells #[.int .i64 0, .slice none 0 0] 29)) := ⟨_, rfl⟩
  rw [← hW] at hW0
  have hs := hW0.size
  have hRV : RRd W (fun i => Ψ i ∧ i < w.heap.size) A n c L := (h.mono (Ψ' := fun i => Ψ i ∧ i < w.heap.size) fun i hi hp => ⟨hp, hi⟩).later hW0.below
  have HBAS := Lib.hid fun w1 (hb : Below W.heap.size W w1) => hW0.bas hb
  have HAT : Hid (Calls Try.prog 23 #[.agg #[.int .i64 room, .slice A n c], .string p.nm] W fun e w' => e = .returned (.int .i64 (-1)) ∧ Below W.heap.size W w') := Lib.hid ((refAt_any (room := room) hRV p.nm).mono (by
    rintro e w' ⟨hat, hb⟩
    refine ⟨?_, hb⟩
    rcases hat with ⟨he, _⟩ | ⟨j, x, hj, hx, _⟩
    · exact he
    · exact absurd hx (hno x (List.mem_of_getElem? hj))))
  have HNM : Hid (∀ V, Calls Try.prog 24 #[.string p.nm] V fun e w' => e = .returned (.bool true) ∧ V = w') := Lib.hid fun V => by
    have := named_any p.nm V hsn
    rwa [hnm] at this
  have hpl := hp.rb.len
  have hps := hp.sb
  have hpc := hp.rb.cap
  have hpm := hp.rb.max
  unfold maxLen at hpm
  have hlen := h.len
  obtain ⟨U, hUU⟩ : ∃ U, U = usedN (L.map RV.f) := ⟨_, rfl⟩
  have hUl := used_le (L := L) fun y hy => (h.ok y hy).len
  rw [← hUU, hlen] at hUl
  have hUb : U ≤ 1048576000000 := by omega
  clear hUl
  have HU := Lib.hid fun V (hV : Below W.heap.size W V) => by
    have := refUsed_any (room := room) (hRV.later hV) hn
    rwa [← hUU] at this
  have hcmp : (U : Int) + (p.bn : Int) ≤ room := by rw [← hUU, hpl] at hU; omega
  have hts : (p.nm).size ≤ 1000000 := by have := nameOk_len hnm; rw [Array.length_toList] at this; exact Nat.le_trans this (by omega)
  have hNb : p.bn ≤ 1048576 := by omega
  obtain ⟨j0, hj0, jz0, jz1, jz2⟩ := info_parts info_u8
  have HLIT := Lib.hid (fun (W : World) => World.ownsRow_lit (e := 5) (size := 1) W #[] 0 (Nat.le_refl _) (by decide) rfl)
  have HRX : Hid (∀ V, Below W.heap.size W V → Rd V V.heap.size .u8 none 0 0 []) := Lib.hid fun V hV => Rd.none_ _ _ _
  have HRP : Hid (∀ V, Below W.heap.size W V → Rd V V.heap.size .u8 p.bA p.bn p.bc p.b) := Lib.hid fun V hV => ((hp.rb.below (hW0.below.mono hB)).below (hV.mono (by omega))).more (by have := hV.size; omega)
  have HLN : Hid ((([] : List Int).map (Value.int .u8)).length = 0 * 1) := Lib.hid (by simp)
  have HLP : Hid ((p.b.map (Value.int .u8)).length = p.bn * 1) := Lib.hid (by rw [List.length_map]; omega)
  have HWO : Hid (∀ V w60 v60 fb, Below W.heap.size W V → fb < V.heap.size → W.heap.size ≤ fb → Below V.heap.size V w60 → w60.ownsRow V.heap.size 5 1 v60 (p.bn) ((p.b).map (Value.int .u8)) →
      ∃ A6 c6, v60 = .slice A6 (p.bn) c6 ∧ Calls Try.prog 26 #[.agg #[.int .i64 room, .slice A n c], .agg #[.string p.nm, .slice A6 (p.bn) c6, .int .i64 0]] (w60.setCell ⟨fb, 1, none⟩ v60) (Ends w room Ψ (putN RF.nm ⟨p.nm.data.toList, p.b, 0⟩ (L.map RV.f)) 0)) := Lib.hid (by
    intro V w60 v60 fb hV hfb hWf hb60 ho
    have hs6 := hb60.size
    have hlt : (p.b).length = p.bn := by exact hpl
    obtain ⟨A6, c6, hv, -, hY⟩ := file_new (fb := fb) (s := 0) p.nm (Ψ1 := Far Ψ w.heap.size) ho hlt hfb (fun i hi => .inr (by omega)) hp.byt hNb hts (Nat.zero_le _)
    have hb5 : Below W.heap.size W (w60.setCell ⟨fb, 1, none⟩ v60) := hV.trans ((hb60.mono hV.size).trans ((Chg.set w60 fb 1 v60).below (by omega) fun i hi => by omega))
    have hwith := hW0.with_ (Ψ := Ψ) hb5 (fun i hi => hi) ((hRV.later hb5).mono fun i _ hi => .inl hi) hn ⟨p.nm, p.b, 0, A6, c6⟩ (hY _ (Chg.set _ _ _ _)) hlt
    have hnm2 : RV.f ⟨p.nm, p.b, 0, A6, c6⟩ = ⟨p.nm.data.toList, p.b, 0⟩ := by rfl
    rw [hnm2] at hwith
    exact ⟨A6, c6, hv, hwith⟩)
  have HW := Lib.hid hW
  have HS := Lib.hid hs
  have hcap := h.cap
  have hmax := h.max
  unfold maxLen at hmax
  clear h hn hdo hW0 hRV hW hs hno hnm hp hpl hUU hlen hB hU hts
  obtain ⟨kind, nm, tn, bA, bn, bc, b, m, kA, kn, kc, ks⟩ := p
  simp only at *
  subst k0
  go_enter Try.func10, Try.ntmps10
  go_upto_region 10 with (first
    | (rw [← HW.out]; go_at_call 23; refine (HAT.out).mono ?_; rintro e w1 ⟨rfl, hb1⟩; have HB1 := Lib.hid hb1; obtain ⟨l0, l1, l2, a0, a1, fa0, fa1, b0, b1, b2, b3, b4, r0, r1, fr0, fr1⟩ := HBAS.out w1 hb1; clear hb1)
    | (go_at_call 24; refine (HNM.out _).mono ?_; rintro e w2 ⟨rfl, rfl⟩))
  obtain ⟨V, hV⟩ : ∃ V, V = w1.alloc (.cells #[.string nm, .slice none 0 0, .int .i64 0] 48) := ⟨_, rfl⟩
  obtain ⟨fb, hfb⟩ : ∃ fb, fb = w1.heap.size := ⟨_, rfl⟩
  have HBOX := Lib.hid fun V2 (hb : Below V.heap.size V V2) => box_later hV hfb.symm HB1.out hb (N := W.heap.size) rfl
  have hVs : fb + 1 = V.heap.size := by rw [hV, hfb]; simp
  have hWf : W.heap.size ≤ fb := by rw [hfb]; exact HB1.out.size
  obtain ⟨hbV, hfV, d0, d1, d2, g0, g1, g2⟩ := HBOX.out V (Below.refl _ _)
  have HBV := Lib.hid hbV
  have hwf : w.heap.size < fb := by rw [hfb]; exact l2
  have hwf2 : w.heap.size + 1 < fb := by rw [hfb]; exact l1
  rw [← hV]
  rw [← hfb]
  clear l0 l1 l2 a0 a1 fa0 fa1 b0 b1 b2 b3 b4 r0 r1 fr0 fr1 hV hfb
  obtain ⟨l0, l1, l2, a0, a1, fa0, fa1, b0, b1, b2, b3, b4, r0, r1, fr0, fr1⟩ := HBAS.out V HBV.out
  have HVS := Lib.hid hVs
  clear hbV hVs
  have HUC : Hid (Calls Try.prog 25 #[.agg #[.int .i64 room, .slice A n c]] V.drew fun e w' => e = .returned (.int .i64 U) ∧ w'.cell? ⟨w.heap.size, 0, none⟩ = some (.int .i64 room) ∧ w'.cell? ⟨w.heap.size, 1, none⟩ = some (.slice A n c) ∧ w'.cell? ⟨w.heap.size + 1, 3, none⟩ = some (.slice bA bn bc) ∧ Hid (Below V.heap.size V w')) := Lib.hid ((HU.out V.drew HBV.out.drew).mono (by
    rintro e w' ⟨rfl, hb⟩
    have hb' : Below V.heap.size V w' := (Below.refl V.heap.size V).drew.trans hb
    have hbas := HBAS.out w' (HBV.out.trans (hb'.mono HBV.out.size))
    exact ⟨rfl, hbas.a0, hbas.a1, hbas.b3, Lib.hid hb'⟩))
  have hwr : IntKind.i64.wrap ((U : Int) + (bn : Int)) = (U : Int) + (bn : Int) := IntWalk.i64_in _ (by omega)
  go_region_held3 (fun w' => w'.cell? ⟨w.heap.size, 0, none⟩ = some (.int .i64 room) ∧ w'.cell? ⟨w.heap.size, 1, none⟩ = some (.slice A n c) ∧ w'.cell? ⟨w.heap.size + 1, 3, none⟩ = some (.slice bA bn bc))
    (first | exact ⟨by assumption, by assumption, by assumption⟩ | exact ⟨a0, a1, b3⟩)
    ((go_at_call 25; refine (HUC.out).mono ?_; rintro e w3 ⟨rfl, t0, t1, t3, HB3⟩))
  all_goals
    clear l0 l1 l2 a0 a1 fa0 fa1 b0 b1 b2 b3 b4 r0 r1 fr0 fr1 d0 d1 d2 g0 g1 g2 hfV hwr t0 t1 t3
    obtain ⟨hbW3, hfV, d0, d1, d2, g0, g1, g2⟩ := HBOX.out w3 HB3.out
    obtain ⟨l0, l1, l2, a0, a1, fa0, fa1, b0, b1, b2, b3, b4, r0, r1, fr0, fr1⟩ := HBAS.out w3 hbW3
    have HBW3 := Lib.hid hbW3
    clear hbW3
    go_upto_region 12 with fail
    refine wp_region_G (fun w' => w'.cell? ⟨fb, 1, none⟩ = some (.slice none 0 0) ∧ w'.cell? ⟨w.heap.size + 1, 3, none⟩ = some (.slice bA bn bc)) 7 (by kernel_rfl) ?_
    have hS0 : w3.drew.cell? ⟨fb, 1, none⟩ = some (.slice none 0 0) ∧ w3.drew.cell? ⟨w.heap.size + 1, 3, none⟩ = some (.slice bA bn bc) := ⟨d1, b3⟩
    refine wpAnyG_take (i := 1) (oi := _) (v := ?_) rfl (by kernel_rfl) (by kernel_rfl) (by kernel_rfl) (by kernel_rfl) (fun _ _ _ h => h) (Or.inl ⟨by rfl, ?_⟩) hS0 ?_
    rotate_left
    · (intro wS hSw; obtain ⟨y1, y2⟩ := hSw; go_simp; try with_reducible rfl)
    try simp only [Act.put]
    refine wpAnyG_take (i := 2) (oi := _) (v := ?_) rfl (by kernel_rfl) (by kernel_rfl) (by kernel_rfl) (by kernel_rfl) (fun _ _ _ h => h) (Or.inl ⟨by rfl, ?_⟩) hS0 ?_
    rotate_left
    · (intro wS hSw; obtain ⟨y1, y2⟩ := hSw; go_simp; try with_reducible rfl)
    try simp only [Act.put]
    refine wpAnyG_take (i := 4) (oi := _) (v := ?_) rfl (by kernel_rfl) (by kernel_rfl) (by kernel_rfl) (by kernel_rfl) (fun _ _ _ h => h) (Or.inl ⟨by rfl, ?_⟩) hS0 ?_
    rotate_left
    · (intro wS hSw; obtain ⟨y1, y2⟩ := hSw; go_simp; try with_reducible rfl)
    try simp only [Act.put]
    refine wpAnyG_take (i := 5) (oi := _) (v := ?_) rfl (by kernel_rfl) (by kernel_rfl) (by kernel_rfl) (by kernel_rfl) (fun _ _ _ h => h) (Or.inl ⟨by rfl, ?_⟩) hS0 ?_
    rotate_left
    · (intro wS hSw; obtain ⟨y1, y2⟩ := hSw; go_simp; try with_reducible rfl)
    try simp only [Act.put]
    refine wpAnyG_one (i := 0) (o := ⟨some 47, _, _, _, _, _⟩) (by kernel_rfl) rfl (fun K hK => ?_)
    go_simp
    refine hK.out _ _ (fun _ => by (refine ⟨?_, ?_⟩ <;> go_keep)) ?_
    clear hK K
    try simp only [Act.put]
    refine wpAnyG_one (i := 3) (o := ⟨some 50, _, _, _, _, _⟩) (by kernel_rfl) rfl (fun K hK => ?_)
    refine step_append_where (o := ⟨some 50, _, _, _, _, _⟩) rfl (.tmp 47) (.tmp 49) 31 rfl w3.heap.size 5 j0 _ 1 1 Try.underlying31 hj0 jz0 jz1 jz2 rfl (by omega) _ 0 [] rfl (HLIT.out w3.drew) none 0 0 (([] : List Int).map (Value.int .u8)) rfl HLN.out (HRX.out w3 HBW3.out).nil (((HRX.out w3 HBW3.out).below (((Below.refl _ w3).drew).alloc (Nat.le_refl _) _)).news) (ints_oneCell _ _) (by unfold maxLen; omega) (by omega) (by simp) ?_
    intro v50 w50 ho50 hg50 _
    have hb50 : Below w3.heap.size w3 w50 := ((((Below.refl _ w3).drew).alloc (by simp) _).grown hg50 (by simp) fun i hi => by cases hi; simp)
    have ho50' : w50.ownsRow w3.heap.size 5 1 v50 (0) (([] : List Int).map (Value.int .u8)) := by simpa using ho50
    have HO50 := Lib.hid ho50'
    have HB50 := Lib.hid hb50
    clear l0 l1 l2 a0 a1 fa0 fa1 b0 b1 b2 b3 b4 r0 r1 fr0 fr1 d0 d1 d2 g0 g1 g2 hfV hS0 ho50 hg50 ho50' hb50
    obtain ⟨hbW5, hfV, d0, d1, d2, g0, g1, g2⟩ := HBOX.out w50 (HB3.out.trans (HB50.out.mono HB3.out.size))
    obtain ⟨l0, l1, l2, a0, a1, fa0, fa1, b0, b1, b2, b3, b4, r0, r1, fr0, fr1⟩ := HBAS.out w50 hbW5
    have HBW5 := Lib.hid hbW5
    clear hbW5
    refine hK.out _ _ (fun _ => ⟨d1, b3⟩) ?_
    clear hK K
    try simp only [Act.put]
    refine wpAnyG_one (i := 6) (o := ⟨some 53, _, _, _, _, _⟩) (by kernel_rfl) rfl (fun K hK => ?_)
    refine step_append_where (o := ⟨some 53, _, _, _, _, _⟩) rfl (.tmp 50) (.tmp 52) 31 rfl w3.heap.size 5 j0 _ 1 1 Try.underlying31 hj0 jz0 jz1 jz2 rfl (by omega) _ (0) _ rfl HO50.out bA bn bc (b.map (Value.int .u8)) rfl HLP.out (HRP.out w50 HBW5.out).nil ((HRP.out w50 HBW5.out).news) (ints_oneCell _ _) (by unfold maxLen; omega) (by omega) HB50.out.size ?_
    intro v53 w53 ho53 hg53 _
    have hb53 : Below w3.heap.size w3 w53 := HB50.out.grown hg53 HB50.out.size fun i hi => (HO50.out.lt i hi).1
    obtain ⟨A6, c6, rfl, hcall⟩ := HWO.out w3 w53 v53 fb HBW3.out (Nat.lt_of_lt_of_le (Nat.lt_of_succ_le (Nat.le_of_eq HVS.out)) HB3.out.size) hWf hb53 (by simpa using ho53)
    have HCALL := Lib.hid hcall
    clear l0 l1 l2 a0 a1 fa0 fa1 b0 b1 b2 b3 b4 r0 r1 fr0 fr1 d0 d1 d2 g0 g1 g2 hfV ho53 hg53 hcall
    obtain ⟨hbW7, hfV, d0, d1, d2, g0, g1, g2⟩ := HBOX.out w53 (HB3.out.trans (hb53.mono HB3.out.size))
    obtain ⟨l0, l1, l2, a0, a1, fa0, fa1, b0, b1, b2, b3, b4, r0, r1, fr0, fr1⟩ := HBAS.out w53 hbW7
    clear hbW7 hb53
    refine hK.out _ _ (fun _ => ⟨d1, b3⟩) ?_
    clear hK K
    try simp only [Act.put]
    refine wpAnyG_one (i := 7) (o := ⟨some 54, _, _, _, _, _⟩) (by kernel_rfl) rfl (fun K hK => ?_)
    go_simp
    refine hK.out _ _ (fun h => absurd h (by decide)) ?_
    clear hK K
    try simp only [Act.put]
    refine wpAnyG_one (i := 8) (o := ⟨none, _, _, _, _, _⟩) (by kernel_rfl) rfl (fun K hK => ?_)
    go_simp
    refine hK.out _ _ (fun h => absurd h (by decide)) ?_
    clear hK K
    try simp only [Act.put]
    refine wpAnyG_done (by kernel_rfl) ?_ _
    go_wp2_with (go_at_call 26; refine (HCALL.out).mono ?_; intro e w3 hh; obtain ⟨A', n', c', rfl, q0, q1, q2, q3, f0, f1, HSAID⟩ := hh)
    exact bodyPost_ret (v := .tuple #[.agg #[.int .i64 room, .slice A' n' c'], .int .i64 0]) (by simp [results, Try.results10, go_sem, f0, f1]) rfl HSAID.out
end Go.Proofs.Ytpolkhippblcmaa
