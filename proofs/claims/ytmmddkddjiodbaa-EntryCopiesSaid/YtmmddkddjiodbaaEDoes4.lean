/- What is proved here: the laws' does: Add, one by one. -/
import Derived.Test.YtmmddkddjiodbaaEDoes3
namespace Go.Proofs.Ytmmddkddjiodbaa
open Go Go.RowKit Go.Maps Go.WideMaps

/-- Two operations that make memory may come up. -/
theorem wpAnyG_two {P : Program} {ops : Array Oper} {Q : Exit → Act → World → Prop} {md : Region.Mode} {S : World → Prop} {n i j : Nat} {oi oj : Oper} {fuel : Nat} {listed : Array Bool} {a : Act} {w : World} (hr : Region.ready md ops listed = [i, j]) (hi : ops[i]? = some oi) (hj : ops[j]? = some oj)
    (h1 : ∀ K' : Act → World → Prop, Shut (∀ a w, (i < n → S w) → wpAnyG P md ops Q S n fuel (listed.setIfInBounds i true) a w → K' a w) → if Region.wanted oi (yielded ops a.tmps) = true then Oper.wp P oi a w K' Q else K' (a.put oi.dst undef) w)
    (h2 : ∀ K' : Act → World → Prop, Shut (∀ a w, (j < n → S w) → wpAnyG P md ops Q S n fuel (listed.setIfInBounds j true) a w → K' a w) → if Region.wanted oj (yielded ops a.tmps) = true then Oper.wp P oj a w K' Q else K' (a.put oj.dst undef) w) :
    wpAnyG P md ops Q S n (fuel + 1) listed a w := by
  refine ⟨fun h0 => (by rw [hr] at h0; cases h0), fun k hk => ?_⟩
  rw [hr] at hk
  rcases List.mem_cons.1 hk with rfl | hk
  · exact wpOp_step hi (fun K' hK => h1 K' (fun a w hS hW => hK a w ⟨hS, hW⟩))
  · obtain rfl := List.mem_singleton.1 hk
    exact wpOp_step hj (fun K' hK => h2 K' (fun a w hS hW => hK a w ⟨hS, hW⟩))
/-- Cells at the head of a block. -/
def NewsAt (w : World) (eb : Nat) (cs : List Value) : Prop := ∀ ad, some (⟨eb, 0, none⟩ : Addr) = some ad → ∀ (j : Nat) (u : Value), cs[j]? = some u → w.cell? (ad.add j) = some u
theorem NewsAt.keep {w w' : World} {eb : Nat} {cs : List Value} {Φ : Nat → Prop} (h : NewsAt w eb cs) (hc : Chg Φ w w') (hl : eb < w.heap.size) (hn : ¬ Φ eb) : NewsAt w' eb cs := fun ad had j u hu => by
  have h1 := h ad had j u hu
  obtain rfl := Option.some.inj had
  rw [Addr.add_lit] at h1 ⊢
  exact (hc.cell (p := ⟨eb, 0 + j, none⟩) hl hn).trans h1
theorem Mk.app' {α : Type} {f : α → List Value} {s e : Nat} {w0 w : World} {L : List α} {A : Option Addr} {n c : Nat} (h : Mk f s e w0 L A n c w) (x : α) {v2 : Value} {w2 : World} (ho : w2.ownsRow w0.heap.size e s v2 (n + 1) (L.flatMap f ++ f x)) (hg : w.grownBy w2 (Value.slice A n c).ownBlock) :
    ∃ A2 c2, v2 = .slice A2 (n + 1) c2 ∧ Hid (Mk f s e w0 (L ++ [x]) A2 (n + 1) c2 w2) :=
  h.appsTo (M := [x]) rfl rfl rfl (by rw [List.flatMap_singleton]; exact ho) hg
/-- What the region leaves. -/
def RowAdd (w V : World) (L : List En) (x : En) (nr : Nat) (wx : World) : Prop := ∃ A2 c2 w5, wx = w5.setCell ⟨w.heap.size, 2, none⟩ (.slice A2 (nr + 1) c2) ∧ Hid (Mk enC 2 47 V (L ++ [x]) A2 (nr + 1) c2 w5)
section
variable {w : World} {b : Nat} {B T : Int} {A : Option Addr} {n c : Nat} {L : List En} {Φ : Nat → Prop}
/-- Between two rounds. -/
structure DLoopV (w wr : World) (b : Nat) (Φ Φ' : Nat → Prop) (B T : Int) (p : OpM) (L' : List En) (Ar : Option Addr) (nr cr : Nat) : Prop where
  log : LogAt wr b B T L' Φ'
  nxt : Nxt w wr Φ Φ'
  off : Off w Φ'
  blk : DBlk w wr B T Ar nr cr p
  row : SRd enC wr (fun k => ¬ Φ' k ∧ k ≠ w.heap.size ∧ k ≠ w.heap.size + 2) Ar nr cr L'
theorem DLoopV.size {wr : World} {Φ' : Nat → Prop} {p : OpM} {L' : List En} {Ar : Option Addr} {nr cr : Nat} (h : DLoopV w wr b Φ Φ' B T p L' Ar nr cr) : w.heap.size + 3 ≤ wr.heap.size := by
  have := (Array.getElem?_eq_some_iff.1 h.blk.k2).1
  omega
theorem add_round {wr : World} {Φ' : Nat → Prop} {p : OpM} {L' : List En} {Ar : Option Addr} {nr cr : Nat} (h : DLoopV w wr b Φ Φ' B T p L' Ar nr cr) (x : En) {V : World} (hV : V = wr.alloc (.cells #[.int .i64 x.t, .string x.d] 47)) {wx : World} (hx : RowAdd w V L' x nr wx) (h0 : 0 ≤ B) (h1 : B ≤ 4611686018427387904) (hL : L'.length < 800000) :
    ∃ A2 c2, wx.cell? ⟨w.heap.size, 0, none⟩ = some (.int .i64 B) ∧ wx.cell? ⟨w.heap.size, 1, none⟩ = some (.int .i64 T) ∧ wx.cell? ⟨w.heap.size, 2, none⟩ = some (.slice A2 (nr + 1) c2) ∧ wx.cell? ⟨wr.heap.size, 0, none⟩ = some (.int .i64 x.t) ∧ wx.cell? ⟨wr.heap.size, 1, none⟩ = some (.string x.d) ∧
      Hid (Calls Try.prog 14 #[.pointer (some ⟨b, 0, none⟩), .agg #[.int .i64 x.t, .string x.d]] wx.drew fun e w7 => e = .returned (.int .i64 (B + (nr + 1 : Nat))) ∧ w7.cell? ⟨w.heap.size, 0, none⟩ = some (.int .i64 B) ∧ w7.cell? ⟨w.heap.size, 1, none⟩ = some (.int .i64 T) ∧ w7.cell? ⟨w.heap.size, 2, none⟩ = some (.slice A2 (nr + 1) c2) ∧ w7.cell? ⟨wr.heap.size, 0, none⟩ = some (.int .i64 x.t) ∧ w7.cell? ⟨wr.heap.size, 1, none⟩ = some (.string x.d) ∧
        Hid (Calls Try.prog 30 #[.agg #[.int .i64 B, .int .i64 T, .slice A2 (nr + 1) c2]] w7 fun e w8 => e = .returned (.int .i64 (B + (nr + 1 : Nat))) ∧ w8.cell? ⟨w.heap.size, 0, none⟩ = some (.int .i64 B) ∧ w8.cell? ⟨w.heap.size, 1, none⟩ = some (.int .i64 T) ∧ w8.cell? ⟨w.heap.size, 2, none⟩ = some (.slice A2 (nr + 1) c2) ∧ w8.cell? ⟨wr.heap.size, 0, none⟩ = some (.int .i64 x.t) ∧ w8.cell? ⟨wr.heap.size, 1, none⟩ = some (.string x.d) ∧ Hid (∃ Φ2, DLoopV w w8 b Φ Φ2 B T p (L' ++ [x]) A2 (nr + 1) c2))) := by
  obtain ⟨A2, c2, w5, rfl, HM⟩ := hx
  have hwz := h.size
  have hrl := h.row.len
  have hVs : V.heap.size = wr.heap.size + 1 := by rw [hV]; simp
  have hbV : Below wr.heap.size wr V := by rw [hV]; exact (Below.refl _ _).alloc (Nat.le_refl _) _
  have hb5 : Below wr.heap.size wr w5 := hbV.trans (HM.out.bel.mono hbV.size)
  have hc5 : Chg (fun k => k = w.heap.size) w5 (w5.setCell ⟨w.heap.size, 2, none⟩ (.slice A2 (nr + 1) c2)) := Chg.set _ _ _ _
  have hk5 := h.blk.keep (Ψ := fun _ => False) (Chg.of_below hb5) fun _ h => h.elim
  have hkx : DBlk w (w5.setCell ⟨w.heap.size, 2, none⟩ (.slice A2 (nr + 1) c2)) B T A2 (nr + 1) c2 p := ⟨three_set2 hk5.k0 _, heap_setCell_but hk5.k1 (by omega) _ _, heap_setCell_but hk5.k2 (by omega) _ _⟩
  have hnl := HM.out.len
  have he3 : V.heap[wr.heap.size]? = some (.cells #[.int .i64 x.t, .string x.d] 47 (0, 0)) := by rw [hV]; exact heap_alloc_new _ _
  have he5 := (HM.out.bel.block _ (by omega)).trans he3
  have hex := hc5.heap he5 (show ¬ wr.heap.size = w.heap.size by omega)
  have hox : ∀ k, Φ' k → ¬ k = w.heap.size := fun k hk e => by
    subst e
    obtain ⟨Al, nl, cl, hl⟩ := h.log
    have := h.off _ hk
    omega
  have hbx : Chg (fun k => k = w.heap.size) wr (w5.setCell ⟨w.heap.size, 2, none⟩ (.slice A2 (nr + 1) c2)) := (Chg.of_below hb5 (Φ := fun k => k = w.heap.size)).trans hc5 fun _ _ h => h
  have hlx := h.log.keep hbx hox
  have hwx : Below wr.heap.size w5 (w5.setCell ⟨w.heap.size, 2, none⟩ (.slice A2 (nr + 1) c2)) ∨ True := .inr trivial
  have y0 := hkx.box
  have ye := two_cells hex
  have hrow5 : SRd enC w5 (fun k => V.heap.size ≤ k) A2 (nr + 1) c2 (L' ++ [x]) := HM.out.rd fun k hk => hk
  have hrowx : SRd enC (w5.setCell ⟨w.heap.size, 2, none⟩ (.slice A2 (nr + 1) c2)) (fun k => V.heap.size ≤ k) A2 (nr + 1) c2 (L' ++ [x]) := hrow5.keep hc5 (fun k hk e => by omega) fun _ _ hk => hk
  refine ⟨A2, c2, y0.b0, y0.b1, y0.b2, ye.1, ye.2.1, Lib.hid ?_⟩
  generalize w5.setCell ⟨w.heap.size, 2, none⟩ (.slice A2 (nr + 1) c2) = wx at *
  have hbd : Below wx.heap.size wx wx.drew := (Below.refl _ _).drew
  refine (Add_any (hlx.later hbd) h0 h1 (by omega) x).mono ?_
  rintro e w7 ⟨rfl, hl⟩
  have hl' : Left wx b B T (L' ++ [x]) Φ' w7 := by
    obtain ⟨Φ2, g1, g2⟩ := hl
    exact ⟨Φ2, g1, (Nxt.of_below hbd).trans g2⟩
  have hxs : w.heap.size + 3 ≤ wx.heap.size := by
    have := (Array.getElem?_eq_some_iff.1 hkx.k2).1
    omega
  obtain ⟨Φ2, g1, g2, g3⟩ := Left.off (w := w) hxs h.off hl'
  have hk7 := hkx.keep g2.chg fun k hk => h.off k hk
  have hnx : Nxt w wx Φ Φ' := ⟨h.nxt.chg.trans hbx fun k hk e => by omega, h.nxt.old⟩
  have hwr3 : ¬ Φ' wr.heap.size := fun e => by have := h.log.bnd _ e; omega
  have he7 := two_cells (g2.chg.heap hex hwr3)
  have z7 := hk7.box
  rw [hnl]
  refine ⟨rfl, z7.b0, z7.b1, z7.b2, he7.1, he7.2.1, Lib.hid ?_⟩
  refine (RLast_below (T := T) (A := A2) (c := c2) h0 h1 (by omega) w7).mono ?_
  rintro e w8 ⟨rfl, hb8⟩
  have hk8 := hk7.keep (Ψ := fun _ => False) (Chg.of_below hb8) fun _ h => h.elim
  have he8 := two_cells ((hb8.block _ (by have := (Array.getElem?_eq_some_iff.1 (g2.chg.heap hex hwr3)).1; exact this)).trans (g2.chg.heap hex hwr3))
  have z8 := hk8.box
  refine ⟨rfl, z8.b0, z8.b1, z8.b2, he8.1, he8.2.1, Lib.hid ⟨Φ2, g1.later hb8, (hnx.trans g2).trans (Nxt.of_below hb8), g3, hk8, ?_⟩⟩
  have hr7 : SRd enC w7 (fun k => ¬ Φ2 k ∧ k ≠ w.heap.size ∧ k ≠ w.heap.size + 2) A2 (nr + 1) c2 (L' ++ [x]) := hrowx.keep g2.chg (fun k hk e => by have := h.log.bnd _ e; omega) fun k hkx' hk => ⟨fun e => by have := g2.old k hkx' e; have := h.log.bnd _ this; omega, by omega, by omega⟩
  exact hr7.below hb8
set_option maxHeartbeats 12800000 in
set_option maxRecDepth 100000 in
theorem does_add (h : LogAt w b B T L Φ) (hr : SRd enC w (fun k => ¬ Φ k) A n c L) (h0 : 0 ≤ B) (h1 : B ≤ 4611686018427387904) (hn : n < 700000) {p : OpM} (hM : WRd enC w (fun k => ¬ Φ k) p.A p.n p.c p.M) (hm : p.n < 100000) (k0 : p.kind = 0) :
    Calls Try.prog 17 #[.pointer (some ⟨b, 0, none⟩), rlV B T A n c, .agg #[.int .i64 p.kind, .int .i64 p.at_, .int .i64 p.term, .slice p.A p.n p.c]] w (DoesSaid w b Φ B T (L ++ p.M)) := by
  obtain ⟨i0, hi0, hz0, hz1, hz2⟩ := info_partsR info_ren
  obtain ⟨W, hW, hbW, hWs, hblk⟩ := dbox_ex w B T A n c p
  have hlen := hr.len
  have HL0 : Hid (∃ Φ' Ar nr cr, DLoopV w W b Φ Φ' B T p (L ++ p.M.take 0) Ar nr cr) := Lib.hid ⟨Φ, A, n, c, by rw [List.take_zero, List.append_nil]; exact h.later hbW, Nxt.of_below hbW, fun k hk => .inl (h.bnd k hk), hblk, by
    rw [List.take_zero, List.append_nil]
    exact (hr.mono fun k hk hp => ⟨hp, by omega, by omega⟩).below hbW⟩
  have HSM : Hid (∀ wr Φ', Nxt w wr Φ Φ' → WRd enC wr (fun k => ¬ Φ' k) p.A p.n p.c p.M) := Lib.hid fun wr Φ' hx => hx.wrd hM
  have HMN := Lib.hid hM.len
  have HLN := Lib.hid hlen
  have HEND : Hid (∀ wr Φ' Ar nr cr, DLoopV w wr b Φ Φ' B T p (L ++ p.M.take p.n) Ar nr cr → DBox w wr B T Ar nr cr p ∧ DFin w (dfin w wr B T Ar nr cr) b Φ B T Ar nr cr (L ++ p.M)) := Lib.hid fun wr Φ' Ar nr cr hd => by
    have e1 : p.M.take p.n = p.M := List.take_of_length_le (by rw [hM.len]; exact Nat.le_refl _)
    rw [e1] at hd
    exact ⟨hd.blk.box, dfin_of hd.log hd.nxt hd.off hd.blk.k2 (hd.row.mono fun k _ hp => ⟨hp.1, hp.2.2⟩)⟩
  obtain ⟨b0, b1, b2, o0, o1, o2, o3, r0, r1, r2, f0, g0, g1, g2⟩ := hblk.box
  have HW := Lib.hid hW
  have d0 : (p.kind == 0) = true := by rw [k0]; rfl
  clear h hr hbW hWs hblk hW k0 hM hlen
  unfold dbox at HW
  unfold rlV
  obtain ⟨kd, y, tm, Ap, np, cp, M⟩ := p
  dsimp only at *
  go_enter Try.func17, Try.ntmps17
  go_upto_region 1 with fail
  rw [← HW.out]
  go_wp2_with fail
  clear b0 b1 b2 o0 o1 o2 o3 r0 r1 r2 f0 g0 g1 g2
  go_loopw [27] (fun i wr => ∃ k : Nat, i = .int .i64 k ∧ k ≤ np ∧ Hid (∃ Φ' Ar nr cr, DLoopV w wr b Φ Φ' B T ⟨kd, y, tm, Ap, np, cp, M⟩ (L ++ M.take k) Ar nr cr)) (fun i _ => np - (intOf i).toNat)
  case atStart => exact ⟨0, rfl, Nat.zero_le _, HL0⟩
  case round =>
    clear HL0
    obtain ⟨k, rfl, hkn, HD⟩ := hrel
    obtain ⟨Φ', Ar, nr, cr, hd⟩ := HD.out
    obtain ⟨b0, b1, c2, o0, o1, o2, o3, r0, r1, r2, f0, g0, g1, g2⟩ := hd.blk.box
    by_cases hlt : k < np
    · have hlt' : (k : Int) < np := by omega
      obtain ⟨x, hx⟩ : ∃ x, M[k]? = some x := ⟨_, List.getElem?_eq_getElem (by rw [HMN.out]; exact hlt)⟩
      obtain ⟨g, o, rfl, hg, _, q0, q1⟩ := (HSM.out wr Φ' hd.nxt).en hx
      have HTK : Hid (L ++ M.take (k + 1) = (L ++ M.take k) ++ [x]) := Lib.hid (by rw [take_more hx, List.append_assoc])
      have hll : (L ++ M.take k).length < 800000 := by rw [List.length_append, List.length_take]; have := HLN.out; omega
      have hnl := hd.row.len
      have hnr : nr < 800000 := by omega
      have hwz := hd.size
      obtain ⟨V, hV⟩ : ∃ V, V = wr.alloc (.cells #[.int .i64 x.t, .string x.d] 47) := ⟨_, rfl⟩
      have hbV : Below wr.heap.size wr V := by rw [hV]; exact (Below.refl _ _).alloc (Nat.le_refl _) _
      have he3 : V.heap[wr.heap.size]? = some (.cells #[.int .i64 x.t, .string x.d] 47 (0, 0)) := by rw [hV]; exact heap_alloc_new _ _
      have hVs : V.heap.size = wr.heap.size + 1 := by rw [hV]; simp
      have hkV := hd.blk.keep (Ψ := fun _ => False) (Chg.of_below hbV) fun _ h => h.elim
      have HSK : Hid (∀ V2, Below V.heap.size V V2 → V2.cell? ⟨w.heap.size, 2, none⟩ = some (.slice Ar nr cr) ∧ V2.cell? ⟨wr.heap.size, 0, none⟩ = some (.int .i64 x.t) ∧ V2.cell? ⟨wr.heap.size, 1, none⟩ = some (.string x.d)) := Lib.hid fun V2 hb => by
        have z1 := (hkV.keep (Ψ := fun _ => False) (Chg.of_below hb) fun _ h => h.elim).box
        have z2 := two_cells ((hb.block _ (by omega)).trans he3)
        exact ⟨z1.b2, z2.1, z2.2.1⟩
      have HFZ : Hid (∀ V2, Below V.heap.size V V2 → V2.frozen? ⟨w.heap.size, 2, none⟩ = false) := Lib.hid fun V2 hb => (hkV.keep (Ψ := fun _ => False) (Chg.of_below hb) fun _ h => h.elim).box.f0
      have HR : Hid (SRd enC V (fun k => ¬ Φ' k ∧ k ≠ w.heap.size ∧ k ≠ w.heap.size + 2) Ar nr cr (L ++ M.take k)) := Lib.hid (hd.row.below hbV)
      have HRND : Hid (∀ wx, RowAdd w V (L ++ M.take k) x nr wx → _) := Lib.hid fun wx hh => add_round hd x hV hh h0 h1 hll
      have HONE := Lib.hid (one_en x)
      have HV := Lib.hid hV
      obtain ⟨c2', e0, e1⟩ := HSK.out V (Below.refl _ _)
      clear c2
      have c2 := c2'
      clear c2' HD hd hx hg hbV he3 hVs hkV hV o0 o1 o2 o3 r0 r1 r2 f0 g0 g1 g2 hll hnl HSM HEND b0 b1
      obtain ⟨xt, xd⟩ := x
      unfold enC at HONE
      dsimp only at *
      generalize L ++ M.take k = LP at *
      go_upto_region 6 with fail
      rw [← HV.out]
      clear q0 q1
      go_cut [38] (fun _ wx => RowAdd w V LP ⟨xt, xd⟩ nr wx)
      case first =>
        refine wp_region_G (fun w' => w'.cell? ⟨w.heap.size, 2, none⟩ = some (.slice Ar nr cr) ∧ w'.cell? ⟨wr.heap.size, 0, none⟩ = some (.int .i64 xt) ∧ w'.cell? ⟨wr.heap.size, 1, none⟩ = some (.string xd)) 8 (by kernel_rfl) ?_
        have hS0 : V.drew.cell? ⟨w.heap.size, 2, none⟩ = some (.slice Ar nr cr) ∧ V.drew.cell? ⟨wr.heap.size, 0, none⟩ = some (.int .i64 xt) ∧ V.drew.cell? ⟨wr.heap.size, 1, none⟩ = some (.string xd) := ⟨c2, e0, e1⟩
        refine wpAnyG_take (i := 1) (oi := _) (v := ?_) rfl (by kernel_rfl) (by kernel_rfl) (by kernel_rfl) (by kernel_rfl) (fun _ _ _ h => h) (Or.inl ⟨by rfl, ?_⟩) hS0 ?_
        rotate_left
        · (intro wS hSw; obtain ⟨y1, y2, y3⟩ := hSw; go_simp; try with_reducible rfl)
        try simp only [Act.put]
        refine wpAnyG_take (i := 2) (oi := _) (v := ?_) rfl (by kernel_rfl) (by kernel_rfl) (by kernel_rfl) (by kernel_rfl) (fun _ _ _ h => h) (Or.inl ⟨by rfl, ?_⟩) hS0 ?_
        rotate_left
        · (intro wS hSw; obtain ⟨y1, y2, y3⟩ := hSw; go_simp; try with_reducible rfl)
        try simp only [Act.put]
        refine wpAnyG_take (i := 4) (oi := _) (v := ?_) rfl (by kernel_rfl) (by kernel_rfl) (by kernel_rfl) (by kernel_rfl) (fun _ _ _ h => h) (Or.inl ⟨by rfl, ?_⟩) hS0 ?_
        rotate_left
        · (intro wS hSw; obtain ⟨y1, y2, y3⟩ := hSw; go_simp; try with_reducible rfl)
        try simp only [Act.put]
        refine wpAnyG_two (i := 0) (j := 5) (oi := ⟨some 31, _, _, _, _, _⟩) (oj := ⟨some 36, _, _, _, _, _⟩) (by kernel_rfl) rfl rfl (fun K hK => ?_) (fun K hK => ?_)
        · go_simp
          refine hK.out _ _ (fun _ => HSK.out _ ((Below.refl _ V).drew.alloc (Nat.le_refl _) _)) ?_
          clear hK K
          try simp only [Act.put]
          have HL1 : Hid (Mk enC 2 47 V [] (some ⟨V.heap.size, 0, none⟩) 0 0 (V.drew.alloc (.cells #[] 47))) := Lib.hid (Mk.empty enC 2 _ (Below.refl _ V).drew)
          refine wpAnyG_two (i := 3) (j := 5) (oi := ⟨some 34, _, _, _, _, _⟩) (oj := ⟨some 36, _, _, _, _, _⟩) (by kernel_rfl) rfl rfl (fun K hK => ?_) (fun K hK => ?_)
          · refine step_append_where (o := ⟨some 34, _, _, _, _, _⟩) rfl (.tmp 31) (.tmp 33) 27 rfl V.heap.size 47 i0 _ 2 24 Try.underlying27 hi0 hz0 hz1 hz2 rfl (by omega) _ 0 ([]) rfl HL1.out.row Ar nr cr (LP.flatMap enC) rfl (HR.out.len_news en_len) HR.out.nil ((HR.out.below ((Below.refl _ V).drew.alloc (Nat.le_refl _) _)).news) (ones one_en _) (by unfold maxLen; omega) (by omega) (by simp <;> omega) ?_
            intro v1 w1 ho1 hg1 _
            obtain ⟨A1, c1', rfl, HM1⟩ := HL1.out.appsTo (M := LP) (Nat.zero_add _) (List.nil_append _) HR.out.len ho1 hg1
            clear ho1 hg1
            refine hK.out _ _ (fun _ => HSK.out w1 HM1.out.bel) ?_
            clear hK K
            try simp only [Act.put]
            refine wpAnyG_one (i := 5) (o := ⟨some 36, _, _, _, _, _⟩) (by kernel_rfl) rfl (fun K hK => ?_)
            obtain ⟨y1, y2, y3⟩ := HSK.out w1 HM1.out.bel
            go_simp
            refine hK.out _ _ (fun _ => HSK.out _ (HM1.out.bel.alloc HM1.out.size _)) ?_
            clear hK K
            try simp only [Act.put]
            refine wpAnyG_one (i := 6) (o := ⟨some 37, _, _, _, _, _⟩) (by kernel_rfl) rfl (fun K hK => ?_)
            refine step_append_where (o := ⟨some 37, _, _, _, _, _⟩) rfl (.tmp 34) (.tmp 36) 27 rfl V.heap.size 47 i0 _ 2 24 Try.underlying27 hi0 hz0 hz1 hz2 rfl (by omega) _ nr (LP.flatMap enC) rfl (HM1.out.row.alloc _) (some ⟨w1.heap.size, 0, none⟩) 1 1 [.int .i64 xt, .string xd] rfl rfl (fun e => by cases e) (news_row w1 [.int .i64 xt, .string xd] _) HONE.out (by unfold maxLen; omega) (by omega) (by have := HM1.out.size; simp; omega) ?_
            intro v2 w2 ho2 hg2 _
            obtain ⟨A2, c2', rfl, HM2⟩ := HM1.out.app ⟨xt, xd⟩ rfl ho2 hg2
            clear ho2 hg2
            refine hK.out _ _ (fun _ => HSK.out w2 HM2.out.bel) ?_
            clear hK K
            try simp only [Act.put]
            have f9 := HFZ.out w2 HM2.out.bel
            obtain ⟨y1, y2, y3⟩ := HSK.out w2 HM2.out.bel
            refine wpAnyG_one (i := 7) (o := ⟨some 38, _, _, _, _, _⟩) (by kernel_rfl) rfl (fun K hK => ?_)
            go_simp
            refine hK.out _ _ (fun _ => HSK.out w2 HM2.out.bel) ?_
            clear hK K
            try simp only [Act.put]
            refine wpAnyG_one (i := 8) (o := ⟨none, _, _, _, _, _⟩) (by kernel_rfl) rfl (fun K hK => ?_)
            go_simp
            refine hK.out _ _ (fun h => absurd h (by decide)) ?_
            clear hK K
            try simp only [Act.put]
            refine wpAnyG_done (by kernel_rfl) ?_ _
            go_wp2_with fail
            go_meet
            case rel => exact ⟨A2, c2', w2, rfl, HM2⟩
          · go_simp
            refine hK.out _ _ (fun _ => HSK.out _ (((Below.refl _ V).drew.alloc (Nat.le_refl _) _).alloc (by simp) _)) ?_
            clear hK K
            try simp only [Act.put]
            have HNE : Hid (NewsAt ((V.drew.alloc (.cells #[] 47)).alloc (.cells [.int .i64 xt, .string xd].toArray 47)) (V.heap.size + 1) [.int .i64 xt, .string xd]) := Lib.hid (by have h := news_row (V.drew.alloc (.cells #[] 47)) [.int .i64 xt, .string xd] 47; rw [show (V.drew.alloc (.cells #[] 47)).heap.size = V.heap.size + 1 by simp] at h; exact h)
            refine wpAnyG_one (i := 3) (o := ⟨some 34, _, _, _, _, _⟩) (by kernel_rfl) rfl (fun K hK => ?_)
            have HL2 := Lib.hid (HL1.out.later ((Below.refl _ _).alloc (Nat.le_refl _) (.cells [.int .i64 xt, .string xd].toArray 47)))
            refine step_append_where (o := ⟨some 34, _, _, _, _, _⟩) rfl (.tmp 31) (.tmp 33) 27 rfl V.heap.size 47 i0 _ 2 24 Try.underlying27 hi0 hz0 hz1 hz2 rfl (by omega) _ 0 ([]) rfl HL2.out.row Ar nr cr (LP.flatMap enC) rfl (HR.out.len_news en_len) HR.out.nil ((HR.out.below (((Below.refl _ V).drew.alloc (Nat.le_refl _) _).alloc (by simp) _)).news) (ones one_en _) (by unfold maxLen; omega) (by omega) (by simp <;> omega) ?_
            intro v1 w1 ho1 hg1 _
            obtain ⟨A1, c1', rfl, HM1⟩ := HL2.out.appsTo (M := LP) (Nat.zero_add _) (List.nil_append _) HR.out.len ho1 hg1
            have hg1' : World.grownBy _ w1 (Value.slice (some ⟨V.heap.size, 0, none⟩) 0 0).ownBlock := hg1
            have HN1 : Hid (NewsAt w1 (V.heap.size + 1) [.int .i64 xt, .string xd]) := Lib.hid (HNE.out.keep (Chg.of_grown hg1') (by simp) (by simp [Value.ownBlock]))
            clear ho1 hg1 HNE
            refine hK.out _ _ (fun _ => HSK.out w1 HM1.out.bel) ?_
            clear hK K
            try simp only [Act.put]
            refine wpAnyG_one (i := 6) (o := ⟨some 37, _, _, _, _, _⟩) (by kernel_rfl) rfl (fun K hK => ?_)
            refine step_append_where (o := ⟨some 37, _, _, _, _, _⟩) rfl (.tmp 34) (.tmp 36) 27 rfl V.heap.size 47 i0 _ 2 24 Try.underlying27 hi0 hz0 hz1 hz2 rfl (by omega) _ nr (LP.flatMap enC) rfl HM1.out.row (some ⟨V.heap.size + 1, 0, none⟩) 1 1 [.int .i64 xt, .string xd] rfl rfl (fun e => by cases e) (HN1.out) HONE.out (by unfold maxLen; omega) (by omega) (by have := HM1.out.size; simp; omega) ?_
            intro v2 w2 ho2 hg2 _
            obtain ⟨A2, c2', rfl, HM2⟩ := HM1.out.app' ⟨xt, xd⟩ ho2 hg2
            clear ho2 hg2
            refine hK.out _ _ (fun _ => HSK.out w2 HM2.out.bel) ?_
            clear hK K
            try simp only [Act.put]
            have f9 := HFZ.out w2 HM2.out.bel
            obtain ⟨y1, y2, y3⟩ := HSK.out w2 HM2.out.bel
            refine wpAnyG_one (i := 7) (o := ⟨some 38, _, _, _, _, _⟩) (by kernel_rfl) rfl (fun K hK => ?_)
            go_simp
            refine hK.out _ _ (fun _ => HSK.out w2 HM2.out.bel) ?_
            clear hK K
            try simp only [Act.put]
            refine wpAnyG_one (i := 8) (o := ⟨none, _, _, _, _, _⟩) (by kernel_rfl) rfl (fun K hK => ?_)
            go_simp
            refine hK.out _ _ (fun h => absurd h (by decide)) ?_
            clear hK K
            try simp only [Act.put]
            refine wpAnyG_done (by kernel_rfl) ?_ _
            go_wp2_with fail
            go_meet
            case rel => exact ⟨A2, c2', w2, rfl, HM2⟩
        · go_simp
          refine hK.out _ _ (fun _ => HSK.out _ ((Below.refl _ V).drew.alloc (Nat.le_refl _) _)) ?_
          clear hK K
          try simp only [Act.put]
          have HNE : Hid (NewsAt (V.drew.alloc (.cells [.int .i64 xt, .string xd].toArray 47)) V.heap.size [.int .i64 xt, .string xd]) := Lib.hid (news_row V.drew [.int .i64 xt, .string xd] _)
          refine wpAnyG_one (i := 0) (o := ⟨some 31, _, _, _, _, _⟩) (by kernel_rfl) rfl (fun K hK => ?_)
          go_simp
          refine hK.out _ _ (fun _ => HSK.out _ (((Below.refl _ V).drew.alloc (Nat.le_refl _) _).alloc (by simp) _)) ?_
          clear hK K
          try simp only [Act.put]
          have HL1 : Hid (Mk enC 2 47 V [] (some ⟨V.heap.size + 1, 0, none⟩) 0 0 ((V.drew.alloc (.cells [.int .i64 xt, .string xd].toArray 47)).alloc (.cells #[] 47))) := Lib.hid (by have h := Mk.empty enC 2 47 (w0 := V) (w := (V.drew.alloc (.cells [.int .i64 xt, .string xd].toArray 47))) ((Below.refl _ V).drew.alloc (Nat.le_refl _) _); rw [show (V.drew.alloc (.cells [.int .i64 xt, .string xd].toArray 47)).heap.size = V.heap.size + 1 by simp] at h; exact h)
          refine wpAnyG_one (i := 3) (o := ⟨some 34, _, _, _, _, _⟩) (by kernel_rfl) rfl (fun K hK => ?_)
          refine step_append_where (o := ⟨some 34, _, _, _, _, _⟩) rfl (.tmp 31) (.tmp 33) 27 rfl V.heap.size 47 i0 _ 2 24 Try.underlying27 hi0 hz0 hz1 hz2 rfl (by omega) _ 0 ([]) rfl HL1.out.row Ar nr cr (LP.flatMap enC) rfl (HR.out.len_news en_len) HR.out.nil ((HR.out.below (((Below.refl _ V).drew.alloc (Nat.le_refl _) _).alloc (by simp) _)).news) (ones one_en _) (by unfold maxLen; omega) (by omega) (by simp <;> omega) ?_
          intro v1 w1 ho1 hg1 _
          obtain ⟨A1, c1', rfl, HM1⟩ := HL1.out.appsTo (M := LP) (Nat.zero_add _) (List.nil_append _) HR.out.len ho1 hg1
          have hg1' : World.grownBy _ w1 (Value.slice (some ⟨V.heap.size + 1, 0, none⟩) 0 0).ownBlock := hg1
          have HN1 : Hid (NewsAt w1 V.heap.size [.int .i64 xt, .string xd]) := Lib.hid ((HNE.out.keep (Chg.alloc (Φ := fun _ => False) _ _) (by simp) id).keep (Chg.of_grown hg1') (by simp <;> omega) (by simp [Value.ownBlock]))
          clear ho1 hg1 HNE
          refine hK.out _ _ (fun _ => HSK.out w1 HM1.out.bel) ?_
          clear hK K
          try simp only [Act.put]
          refine wpAnyG_one (i := 6) (o := ⟨some 37, _, _, _, _, _⟩) (by kernel_rfl) rfl (fun K hK => ?_)
          refine step_append_where (o := ⟨some 37, _, _, _, _, _⟩) rfl (.tmp 34) (.tmp 36) 27 rfl V.heap.size 47 i0 _ 2 24 Try.underlying27 hi0 hz0 hz1 hz2 rfl (by omega) _ nr (LP.flatMap enC) rfl HM1.out.row (some ⟨V.heap.size, 0, none⟩) 1 1 [.int .i64 xt, .string xd] rfl rfl (fun e => by cases e) (HN1.out) HONE.out (by unfold maxLen; omega) (by omega) (by have := HM1.out.size; simp; omega) ?_
          intro v2 w2 ho2 hg2 _
          obtain ⟨A2, c2', rfl, HM2⟩ := HM1.out.app' ⟨xt, xd⟩ ho2 hg2
          clear ho2 hg2
          refine hK.out _ _ (fun _ => HSK.out w2 HM2.out.bel) ?_
          clear hK K
          try simp only [Act.put]
          have f9 := HFZ.out w2 HM2.out.bel
          obtain ⟨y1, y2, y3⟩ := HSK.out w2 HM2.out.bel
          refine wpAnyG_one (i := 7) (o := ⟨some 38, _, _, _, _, _⟩) (by kernel_rfl) rfl (fun K hK => ?_)
          go_simp
          refine hK.out _ _ (fun _ => HSK.out w2 HM2.out.bel) ?_
          clear hK K
          try simp only [Act.put]
          refine wpAnyG_one (i := 8) (o := ⟨none, _, _, _, _, _⟩) (by kernel_rfl) rfl (fun K hK => ?_)
          go_simp
          refine hK.out _ _ (fun h => absurd h (by decide)) ?_
          clear hK K
          try simp only [Act.put]
          refine wpAnyG_done (by kernel_rfl) ?_ _
          go_wp2_with fail
          go_meet
          case rel => exact ⟨A2, c2', w2, rfl, HM2⟩
      case rest =>
        obtain ⟨A2, c2', x0, x1, x2, x3, x4, HAD⟩ := HRND.out _ hcut
        clear HRND hcut HSK HFZ HR HONE c2 e0 e1
        have hcast : B + ((nr + 1 : Nat) : Int) = B + ((nr + 1 : Nat) : Int) := rfl
        generalize hN1 : nr + 1 = n1 at *
        have HN1 := Lib.hid hN1
        clear hN1 hcast
        generalize B + (n1 : Int) = la at *
        have e9 : (la == la) = true := beq_self_eq_true _
        go_wp2_with fail
        go_region_held3 (fun w' => w'.cell? ⟨w.heap.size, 0, none⟩ = some (.int .i64 B) ∧ w'.cell? ⟨w.heap.size, 1, none⟩ = some (.int .i64 T) ∧ w'.cell? ⟨w.heap.size, 2, none⟩ = some (.slice A2 n1 c2') ∧ w'.cell? ⟨wr.heap.size, 0, none⟩ = some (.int .i64 xt) ∧ w'.cell? ⟨wr.heap.size, 1, none⟩ = some (.string xd))
          (first | exact ⟨by assumption, by assumption, by assumption, by assumption, by assumption⟩ | exact ⟨x0, x1, x2, x3, x4⟩)
          (first
            | (go_at_call 14; refine HAD.out.mono ?_; rintro e w7 ⟨rfl, s0, s1, s2, s3, s4, HLA⟩)
            | (go_at_call 30; refine HLA.out.mono ?_; rintro e w8 ⟨rfl, u0, u1, u2, u3, u4, HDD⟩))
        all_goals
          go_wp2_with fail
          go_roundw
          case rel => exact ⟨k + 1, by go_num, by omega, Lib.hid (by rw [HTK.out]; obtain ⟨Φ2, hd2⟩ := HDD.out; exact ⟨Φ2, A2, n1, c2', hd2⟩)⟩
          case measure => simp [intOf]; omega
    · obtain rfl : k = np := by omega
      have hd0 : decide ((k : Int) < (k : Int)) = false := decide_eq_false (by omega)
      obtain ⟨_, hfin⟩ := HEND.out wr Φ' Ar nr cr hd
      obtain ⟨q0, q1, q2, HX2⟩ := hfin
      unfold dfin at q0 q1 q2 HX2
      have HX3 := Lib.hid HX2
      clear HX2 HEND HD hd HSM
      go_wp2_with fail
      exact bodyPost_ret (v := .tuple #[.agg #[.int .i64 B, .int .i64 T, .slice Ar nr cr], .bool true]) (by simp [results, Try.results17, go_sem, q0, q1, q2]) rfl HX3.out
end
end Go.Proofs.Ytmmddkddjiodbaa
