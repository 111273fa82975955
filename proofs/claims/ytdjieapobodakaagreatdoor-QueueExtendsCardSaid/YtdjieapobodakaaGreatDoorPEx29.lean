/- What is proved here: what New, Purge, Attr, Now, Leased and Set make of a queue's parts. -/
/- What is proved here: what New makes. -/
/- What is proved here: what takes answers; what Send makes of a queue's parts. -/
import Derived.Test.YtdjieapobodakaaGreatDoorPEx28
import Derived.Laws.Cover1
section
namespace Go.Proofs.YtdjieapobodakaaGreatDoor
open Go Go.RowKit Go.Maps Go.WideMaps

def emptyV (A : Att) (now last : Int) (K : List Led.En) : QV := ⟨A, now, last, [], [], 0, [], [], K⟩
section
variable {w w' : World} {q : Nat} {V : QV} {S : QS}
set_option maxRecDepth 100000 in
theorem Purge_ql (h : QL w q V S) : Calls Tryz.prog 22 #[.pointer (some ⟨q, 0, none⟩)] w fun e w' => e = .returned (.int .i64 V.M.length) ∧ Hid (QGot w q (emptyV V.A V.now V.last V.K) S w') := by
  obtain ⟨c0, c1, c2, c3, c4, c5, c6, c7, c8, c9, c10, c11, c12, c13⟩ := h.cells
  have hlen := fun ty => h.len ty
  have HE : Hid (Calls Tryz.prog 32 #[.pointer (some ⟨q, 0, none⟩)] w fun e w' => e = .returned (.tuple #[]) ∧ Hid (QGot w q (emptyV V.A V.now V.last V.K) S w')) := Lib.hid (by
    refine (empty_any (A := V.A) (now := V.now) (last := V.last) (k := S.k) h.blk).mono ?_
    rintro e w1 ⟨rfl, hx⟩
    obtain ⟨m, l, t1, t2, c, hE⟩ := hx.out
    exact ⟨rfl, Lib.hid (hE.purged h)⟩)
  clear h
  go_enter Tryz.func22, Tryz.ntmps22
  go_wp2_with (go_at_call 32; refine HE.out.mono ?_; rintro e w1 ⟨rfl, HQ⟩)
  go_ret
  exact ⟨rfl, HQ⟩
set_option maxHeartbeats 1600000 in
set_option maxRecDepth 100000 in
theorem Attr_ql (h : QL w q V S) : Calls Tryz.prog 30 #[.pointer (some ⟨q, 0, none⟩)] w fun e w' => e = .returned (attV V.A) ∧ Below w.heap.size w w' := by
  obtain ⟨c0, c1, c2, c3, c4, c5, c6, c7, c8, c9, c10, c11, c12, c13⟩ := h.cells
  have hql := h.lt
  clear h
  unfold attV
  go_enter Tryz.func30, Tryz.ntmps30
  go_wp2
  exact bodyPost_ret (v := .agg #[.int .i64 V.A.vis, .int .i64 V.A.ret, .int .i64 V.A.del, .int .i64 V.A.win, .int .i64 V.A.max, .string V.A.dead, .bool V.A.fifo]) (by simp [results, Tryz.results30, go_sem]) rfl ⟨rfl, (Below.refl _ _).alloc (Nat.le_refl _) _⟩
theorem Now_ql (h : QL w q V S) : Calls Tryz.prog 21 #[.pointer (some ⟨q, 0, none⟩)] w fun e w' => e = .returned (.int .i64 V.now) ∧ w = w' := by
  obtain ⟨c0, c1, c2, c3, c4, c5, c6, c7, c8, c9, c10, c11, c12, c13⟩ := h.cells
  clear h
  go_enter Tryz.func21, Tryz.ntmps21
  go_wp2
  go_ret
  exact ⟨rfl, rfl⟩
set_option maxRecDepth 100000 in
theorem Leased_ql (h : QL w q V S) {k : Int} (hk : Tim.wfk k) : Calls Tryz.prog 27 #[.pointer (some ⟨q, 0, none⟩), .int .i64 k] w fun e w' => Tim.atE V.R1 k e ∧ w = w' := by
  obtain ⟨c0, c1, c2, c3, c4, c5, c6, c7, c8, c9, c10, c11, c12, c13⟩ := h.cells
  have HA : Hid (Calls Tryz.prog 56 #[.pointer (some ⟨S.t1, 0, none⟩), .int .i64 k] w fun e w' => ∃ n b, e = .returned (.tuple #[.int .i64 n, .bool b]) ∧ w = w' ∧ Hid (Tim.atE V.R1 k (.returned (.tuple #[.int .i64 n, .bool b])))) := Lib.hid (by
    refine (h.eAt k hk).mono ?_
    rintro e w1 ⟨he, rfl⟩
    rcases he with ⟨rfl, h2⟩ | ⟨x, hx, h2, rfl⟩
    · exact ⟨_, _, rfl, rfl, Lib.hid (.inl ⟨rfl, h2⟩)⟩
    · exact ⟨_, _, rfl, rfl, Lib.hid (.inr ⟨x, hx, h2, rfl⟩)⟩)
  clear h
  go_enter Tryz.func27, Tryz.ntmps27
  go_wp2_with (go_at_call 56; refine HA.out.mono ?_; rintro e w1 ⟨n, b, rfl, rfl, HX⟩)
  go_ret2
  exact ⟨HX.out, rfl⟩
/-- Other attributes, cell by cell. -/
theorem QL.setAttr (h : QL w q V S) (a : Att) : ∀ W : World, W = ((((((w.setCell ⟨q, 0, none⟩ (.int .i64 a.vis)).setCell ⟨q, 1, none⟩ (.int .i64 a.ret)).setCell ⟨q, 2, none⟩ (.int .i64 a.del)).setCell ⟨q, 3, none⟩ (.int .i64 a.win)).setCell ⟨q, 4, none⟩ (.int .i64 a.max)).setCell ⟨q, 5, none⟩ (.string a.dead)).setCell ⟨q, 6, none⟩ (.bool a.fifo) →
    QL W q { V with A := a } S ∧ QNext w W S S := by
  rintro W rfl
  obtain ⟨h0, n0⟩ := h.store (i := 0) (u := .int .i64 a.vis) (A := { V.A with vis := a.vis }) (now := V.now) (last := V.last) rfl
  obtain ⟨h1, n1⟩ := h0.store (i := 1) (u := .int .i64 a.ret) (A := { V.A with vis := a.vis, ret := a.ret }) (now := V.now) (last := V.last) rfl
  obtain ⟨h2, n2⟩ := h1.store (i := 2) (u := .int .i64 a.del) (A := { V.A with vis := a.vis, ret := a.ret, del := a.del }) (now := V.now) (last := V.last) rfl
  obtain ⟨h3, n3⟩ := h2.store (i := 3) (u := .int .i64 a.win) (A := { V.A with vis := a.vis, ret := a.ret, del := a.del, win := a.win }) (now := V.now) (last := V.last) rfl
  obtain ⟨h4, n4⟩ := h3.store (i := 4) (u := .int .i64 a.max) (A := { V.A with vis := a.vis, ret := a.ret, del := a.del, win := a.win, max := a.max }) (now := V.now) (last := V.last) rfl
  obtain ⟨h5, n5⟩ := h4.store (i := 5) (u := .string a.dead) (A := { V.A with vis := a.vis, ret := a.ret, del := a.del, win := a.win, max := a.max, dead := a.dead }) (now := V.now) (last := V.last) rfl
  obtain ⟨h6, n6⟩ := h5.store (i := 6) (u := .bool a.fifo) (A := a) (now := V.now) (last := V.last) rfl
  exact ⟨h6, n0.trans (n1.trans (n2.trans (n3.trans (n4.trans (n5.trans n6)))))⟩
def setOkV (V : QV) (a : Att) : Bool := a.right && (a.fifo == V.A.fifo)
set_option maxHeartbeats 3200000 in
set_option maxRecDepth 100000 in
theorem Set_ql (h : QL w q V S) (a : Att) : Calls Tryz.prog 29 #[.pointer (some ⟨q, 0, none⟩), attV a] w fun e w' => e = .returned (.int .i64 (if setOkV V a then 0 else 1)) ∧ Hid (QGot w q (if setOkV V a then { V with A := a } else V) S w') := by
  have hql := h.lt
  obtain ⟨W, hW⟩ : ∃ W, W = w.alloc (.cells #[.int .i64 a.vis, .int .i64 a.ret, .int .i64 a.del, .int .i64 a.win, .int .i64 a.max, .string a.dead, .bool a.fifo] 23) := ⟨_, rfl⟩
  have hbW : Below w.heap.size w W := by rw [hW]; exact (Below.refl _ _).alloc (Nat.le_refl _) _
  have hWs : W.heap.size = w.heap.size + 1 := by rw [hW]; simp
  have hbx := heap_alloc_new w (.cells #[.int .i64 a.vis, .int .i64 a.ret, .int .i64 a.del, .int .i64 a.win, .int .i64 a.max, .string a.dead, .bool a.fifo] 23)
  rw [← hW] at hbx
  have hK : ∀ n os, ∀ p : Addr, p.block < W.heap.size → (Go.Sort.grow (W.drewN n) os).cell? p = W.cell? p := fun n os p hp => (grown_below2 W n os).cell hp
  have g0 : ∀ n os, (Go.Sort.grow (W.drewN n) os).cell? ⟨w.heap.size, 0, none⟩ = some (.int .i64 a.vis) := fun n os => (hK n os ⟨w.heap.size, 0, none⟩ (by show w.heap.size < _; omega)).trans (by simp [World.cell?, hbx])
  have g1 : ∀ n os, (Go.Sort.grow (W.drewN n) os).cell? ⟨w.heap.size, 1, none⟩ = some (.int .i64 a.ret) := fun n os => (hK n os ⟨w.heap.size, 1, none⟩ (by show w.heap.size < _; omega)).trans (by simp [World.cell?, hbx])
  have g2 : ∀ n os, (Go.Sort.grow (W.drewN n) os).cell? ⟨w.heap.size, 2, none⟩ = some (.int .i64 a.del) := fun n os => (hK n os ⟨w.heap.size, 2, none⟩ (by show w.heap.size < _; omega)).trans (by simp [World.cell?, hbx])
  have g3 : ∀ n os, (Go.Sort.grow (W.drewN n) os).cell? ⟨w.heap.size, 3, none⟩ = some (.int .i64 a.win) := fun n os => (hK n os ⟨w.heap.size, 3, none⟩ (by show w.heap.size < _; omega)).trans (by simp [World.cell?, hbx])
  have g4 : ∀ n os, (Go.Sort.grow (W.drewN n) os).cell? ⟨w.heap.size, 4, none⟩ = some (.int .i64 a.max) := fun n os => (hK n os ⟨w.heap.size, 4, none⟩ (by show w.heap.size < _; omega)).trans (by simp [World.cell?, hbx])
  have g5 : ∀ n os, (Go.Sort.grow (W.drewN n) os).cell? ⟨w.heap.size, 5, none⟩ = some (.string a.dead) := fun n os => (hK n os ⟨w.heap.size, 5, none⟩ (by show w.heap.size < _; omega)).trans (by simp [World.cell?, hbx])
  have g6 : ∀ n os, (Go.Sort.grow (W.drewN n) os).cell? ⟨w.heap.size, 6, none⟩ = some (.bool a.fifo) := fun n os => (hK n os ⟨w.heap.size, 6, none⟩ (by show w.heap.size < _; omega)).trans (by simp [World.cell?, hbx])
  have g7 : ∀ n os, (Go.Sort.grow (W.drewN n) os).cell? ⟨q, 6, none⟩ = some (.bool V.A.fifo) := fun n os => (hK n os ⟨q, 6, none⟩ (by show q < _; omega)).trans (h.below hbW).1.cells.2.2.2.2.2.2.1
  have HR : Hid (∀ n os, Calls Tryz.prog 15 #[.agg #[.int .i64 a.vis, .int .i64 a.ret, .int .i64 a.del, .int .i64 a.win, .int .i64 a.max, .string a.dead, .bool a.fifo]] (Go.Sort.grow (W.drewN n) os) fun e w' => e = .returned (.bool a.right) ∧ ∃ q os', w' = Go.Sort.grow ((Go.Sort.grow (W.drewN n) os).drewN q) os') := Lib.hid fun n os => Right_grown a _
  have HQ : Hid (∀ n os, QGot w q V S (Go.Sort.grow (W.drewN n) os)) := Lib.hid fun n os => ⟨S, h.below (hbW.trans ((grown_below2 W n os).mono hbW.size))⟩
  have HP : Hid (∀ n os, ∃ X, X = Go.Sort.grow (W.drewN n) os ∧ ∃ x0 x1 x2 x3 x4 x5 x6, X.cell? ⟨q, 0, none⟩ = some x0 ∧ X.cell? ⟨q, 1, none⟩ = some x1 ∧ X.cell? ⟨q, 2, none⟩ = some x2 ∧ X.cell? ⟨q, 3, none⟩ = some x3 ∧ X.cell? ⟨q, 4, none⟩ = some x4 ∧ X.cell? ⟨q, 5, none⟩ = some x5 ∧ X.cell? ⟨q, 6, none⟩ = some x6 ∧
      X.frozen? ⟨q, 0, none⟩ = false ∧ X.frozen? ⟨q, 1, none⟩ = false ∧ X.frozen? ⟨q, 2, none⟩ = false ∧ X.frozen? ⟨q, 3, none⟩ = false ∧ X.frozen? ⟨q, 4, none⟩ = false ∧ X.frozen? ⟨q, 5, none⟩ = false ∧ X.frozen? ⟨q, 6, none⟩ = false ∧
      X.cell? ⟨w.heap.size, 0, none⟩ = some (.int .i64 a.vis) ∧ X.cell? ⟨w.heap.size, 1, none⟩ = some (.int .i64 a.ret) ∧ X.cell? ⟨w.heap.size, 2, none⟩ = some (.int .i64 a.del) ∧ X.cell? ⟨w.heap.size, 3, none⟩ = some (.int .i64 a.win) ∧ X.cell? ⟨w.heap.size, 4, none⟩ = some (.int .i64 a.max) ∧ X.cell? ⟨w.heap.size, 5, none⟩ = some (.string a.dead) ∧ X.cell? ⟨w.heap.size, 6, none⟩ = some (.bool a.fifo) ∧
      Hid (∀ Y, Y = ((((((X.setCell ⟨q, 0, none⟩ (.int .i64 a.vis)).setCell ⟨q, 1, none⟩ (.int .i64 a.ret)).setCell ⟨q, 2, none⟩ (.int .i64 a.del)).setCell ⟨q, 3, none⟩ (.int .i64 a.win)).setCell ⟨q, 4, none⟩ (.int .i64 a.max)).setCell ⟨q, 5, none⟩ (.string a.dead)).setCell ⟨q, 6, none⟩ (.bool a.fifo) → QGot w q { V with A := a } S Y)) := Lib.hid fun n os => by
    obtain ⟨h2, n2⟩ := h.below (hbW.trans ((grown_below2 W n os).mono hbW.size))
    obtain ⟨c0, c1, c2, c3, c4, c5, c6, _⟩ := h2.cells
    have hf := h2.froz
    exact ⟨_, rfl, _, _, _, _, _, _, _, c0, c1, c2, c3, c4, c5, c6, hf 0 (by decide), hf 1 (by decide), hf 2 (by decide), hf 3 (by decide), hf 4 (by decide), hf 5 (by decide), hf 6 (by decide), g0 n os, g1 n os, g2 n os, g3 n os, g4 n os, g5 n os, g6 n os, Lib.hid fun Y hY => ⟨S, (h2.setAttr a Y hY).1, n2.trans (h2.setAttr a Y hY).2⟩⟩
  have hqW : q < W.heap.size := by omega
  have hbW2 : w.heap.size < W.heap.size := by omega
  have hqw : w.heap.size ≠ q := by omega
  have HW := Lib.hid hW
  unfold attV
  have HE : Hid (setOkV V a = (a.right && (a.fifo == V.A.fifo))) := Lib.hid rfl
  clear hK h hW hbW hWs hbx
  have hmix : Tryz.prog.follows .mixedOrders = true := by kernel_rfl
  cases hr : a.right with
  | false =>
    rw [hr] at HR HE
    have e1 : setOkV V a = false := HE.out
    simp only [e1]
    clear e1 HP hr HE
    go_enter Tryz.func29, Tryz.ntmps29
    go_wp2_with fail
    rw [← HW.out]
    go_quiet_grown ((go_at_call 15; exact Calls.grown_of (HR.out _ _)))
    have HQ2 := Lib.hid (HQ.out nq osq)
    generalize Go.Sort.grow (W.drewN nq) osq = X at *
    go_wp2
    go_ret
    exact ⟨rfl, HQ2⟩
  | true =>
    rw [hr] at HR HE
    cases hc : a.fifo == V.A.fifo with
    | false =>
      have e1 : setOkV V a = false := by rw [HE.out, hc]; rfl
      have hne : (a.fifo == V.A.fifo) = false := hc
      simp only [e1]
      clear e1 HP hr HE
      go_enter Tryz.func29, Tryz.ntmps29
      go_wp2_with fail
      rw [← HW.out]
      go_quiet_grown ((go_at_call 15; exact Calls.grown_of (HR.out _ _)))
      have HQ2 := Lib.hid (HQ.out nq osq)
      generalize Go.Sort.grow (W.drewN nq) osq = X at *
      go_wp2
      go_ret
      exact ⟨rfl, HQ2⟩
    | true =>
      have e1 : setOkV V a = true := by rw [HE.out, hc]; rfl
      simp only [e1, if_true]
      clear e1 hr HE
      go_enter Tryz.func29, Tryz.ntmps29
      go_wp2_with fail
      rw [← HW.out]
      go_quiet_grown ((go_at_call 15; exact Calls.grown_of (HR.out _ _)))
      obtain ⟨X, hX, x0, x1, x2, x3, x4, x5, x6, c0, c1, c2, c3, c4, c5, c6, f0, f1, f2, f3, f4, f5, f6, b0, b1, b2, b3, b4, b5, b6, HY⟩ := HP.out nq osq
      rw [← hX]
      clear hX HP HQ g0 g1 g2 g3 g4 g5 g6 g7
      go_wp2
      go_ret
      exact ⟨rfl, Lib.hid (HY.out _ rfl)⟩
end
end Go.Proofs.YtdjieapobodakaaGreatDoor
end

section
namespace Go.Proofs.YtdjieapobodakaaGreatDoor
open Go Go.RowKit Go.Maps Go.WideMaps

/-- A queue's parts that are new since w. -/
def QMade (w w' : World) (q : Nat) (V : QV) : Prop := Below w.heap.size w w' ∧ ∃ S, QL w' q V S ∧ ∀ b, b < w.heap.size → S.c b = 0
set_option maxHeartbeats 1600000 in
set_option maxRecDepth 100000 in
theorem New_ql (a : Att) (w : World) : Calls Tryz.prog 12 #[attV a] w fun e w' => (a.right = false ∧ e = .returned (.pointer none) ∧ Below w.heap.size w w') ∨ (a.right = true ∧ ∃ q, e = .returned (.pointer (some ⟨q, 0, none⟩)) ∧ Hid (QMade w w' q (emptyV a 0 0 []))) := by
  obtain ⟨W, hW⟩ : ∃ W, W = w.alloc (.cells #[.int .i64 a.vis, .int .i64 a.ret, .int .i64 a.del, .int .i64 a.win, .int .i64 a.max, .string a.dead, .bool a.fifo] 23) := ⟨_, rfl⟩
  have hbW : Below w.heap.size w W := by rw [hW]; exact (Below.refl _ _).alloc (Nat.le_refl _) _
  have hWs : W.heap.size = w.heap.size + 1 := by rw [hW]; simp
  have hbx := heap_alloc_new w (.cells #[.int .i64 a.vis, .int .i64 a.ret, .int .i64 a.del, .int .i64 a.win, .int .i64 a.max, .string a.dead, .bool a.fifo] 23)
  rw [← hW] at hbx
  have HBX : Hid (∀ V, Below W.heap.size W V → V.cell? ⟨w.heap.size, 0, none⟩ = some (.int .i64 a.vis) ∧ V.cell? ⟨w.heap.size, 1, none⟩ = some (.int .i64 a.ret) ∧ V.cell? ⟨w.heap.size, 2, none⟩ = some (.int .i64 a.del) ∧ V.cell? ⟨w.heap.size, 3, none⟩ = some (.int .i64 a.win) ∧ V.cell? ⟨w.heap.size, 4, none⟩ = some (.int .i64 a.max) ∧ V.cell? ⟨w.heap.size, 5, none⟩ = some (.string a.dead) ∧ V.cell? ⟨w.heap.size, 6, none⟩ = some (.bool a.fifo) ∧ Below W.heap.size W V) := Lib.hid fun V hb => by
    have hb2 := (Chg.of_below (Φ := fun _ => False) hb).heap hbx id
    refine ⟨?_, ?_, ?_, ?_, ?_, ?_, ?_, hb⟩ <;> simp [World.cell?, hb2]
  have HR : Hid (Calls Tryz.prog 15 #[.agg #[.int .i64 a.vis, .int .i64 a.ret, .int .i64 a.del, .int .i64 a.win, .int .i64 a.max, .string a.dead, .bool a.fifo]] W fun e w' => e = .returned (.bool a.right) ∧ Below W.heap.size W w') := Lib.hid (Right_any a W)
  have HN : Hid (∀ V, Below W.heap.size W V → Calls Tryz.prog 31 #[.int .i64 4096] V fun e w' => ∃ k, e = .returned (.pointer (some ⟨k, 0, none⟩)) ∧ Below W.heap.size W w' ∧ Hid (Led.LedAt w' k 4096 [] (fun b => W.heap.size ≤ b))) := Lib.hid fun V hV =>
    (Led.New_any V (room := 4096) (by decide)).mono fun e w' ⟨he, hb, hl⟩ => ⟨_, he, hV.trans (hb.mono hV.size), Lib.hid (hl.mono fun b _ h1 => Nat.le_trans hV.size h1)⟩
  have HE : Hid (a.right = true → ∀ V k, Below W.heap.size W V → Led.LedAt V k 4096 [] (fun b => W.heap.size ≤ b) → Calls Tryz.prog 32 #[.pointer (some ⟨V.heap.size, 0, none⟩)] (V.alloc (.cells #[.int .i64 a.vis, .int .i64 a.ret, .int .i64 a.del, .int .i64 a.win, .int .i64 a.max, .string a.dead, .bool a.fifo, .int .i64 0, .int .i64 0, .map none, .pointer none, .pointer none, .pointer none, .pointer (some ⟨k, 0, none⟩)] 80)) fun e w' => e = .returned (.tuple #[]) ∧ Hid (QMade w w' V.heap.size (emptyV a 0 0 []))) := Lib.hid fun hr V k hV hk => by
    obtain ⟨X, hX⟩ : ∃ X, X = V.alloc (.cells #[.int .i64 a.vis, .int .i64 a.ret, .int .i64 a.del, .int .i64 a.win, .int .i64 a.max, .string a.dead, .bool a.fifo, .int .i64 0, .int .i64 0, .map none, .pointer none, .pointer none, .pointer none, .pointer (some ⟨k, 0, none⟩)] 80) := ⟨_, rfl⟩
    have hq : QBlk X V.heap.size a 0 0 (.map none) (.pointer none) (.pointer none) (.pointer none) k := by rw [hX]; exact heap_alloc_new V _
    have hbX : Below V.heap.size V X := by rw [hX]; exact (Below.refl _ _).alloc (Nat.le_refl _) _
    have hXs : X.heap.size = V.heap.size + 1 := by rw [hX]; simp
    rw [← hX]
    clear hX
    have hVs := hV.size
    refine (empty_any hq).mono ?_
    rintro e w1 ⟨rfl, hx⟩
    obtain ⟨m, l, t1, t2, c, hE⟩ := hx.out
    have hk2 : Led.LedAt X k 4096 [] (fun b => (if b = V.heap.size then 1 else if W.heap.size ≤ b ∧ b < V.heap.size then 7 else 0) = 7) := (hk.mono (Ψ := fun b => W.heap.size ≤ b ∧ b < V.heap.size) fun b h1 h2 => ⟨h2, h1⟩).below hbX |>.mono fun b _ h1 => by
      show (if b = V.heap.size then 1 else if W.heap.size ≤ b ∧ b < V.heap.size then 7 else 0) = 7
      rw [if_neg (by omega), if_pos h1]
    have hbw : Below w.heap.size w X := hbW.trans ((hV.trans (hbX.mono hVs)).mono (by omega))
    refine ⟨rfl, Lib.hid ⟨hbw.trans ((hE.chg.below (B := w.heap.size) (by omega) fun b e => by have e' : b = V.heap.size := e; omega)), _, hE.ql (c0 := fun b => if b = V.heap.size then 1 else if W.heap.size ≤ b ∧ b < V.heap.size then 7 else 0) (if_pos rfl) (by omega) hk2, fun b hb => ?_⟩⟩
    show (if b < X.heap.size then (if b = V.heap.size then 1 else if W.heap.size ≤ b ∧ b < V.heap.size then 7 else 0) else c b) = 0
    rw [if_pos (by omega), if_neg (by omega), if_neg (by omega)]
  have HB0 : Hid (∀ V, Below W.heap.size W V → Below W.heap.size W V.drew) := Lib.hid fun V hb => hb.drew
  have HBW : Hid (∀ V, Below W.heap.size W V → Below w.heap.size w V) := Lib.hid fun V hb => hbW.trans (hb.mono hbW.size)
  have HW := Lib.hid hW
  unfold attV
  clear hbW hbx hWs hW
  cases hr : a.right with
  | false =>
    rw [hr] at HR
    clear HE HN hr
    go_enter Tryz.func12, Tryz.ntmps12
    go_wp2_with (go_at_call 15; rw [← HW.out]; refine HR.out.mono ?_; rintro e w1 ⟨rfl, hb1⟩)
    go_ret
    exact .inl ⟨trivial, rfl, HBW.out _ hb1⟩
  | true =>
    rw [hr] at HR
    have HE2 := Lib.hid (HE.out hr)
    clear HE hr
    go_enter Tryz.func12, Tryz.ntmps12
    go_wp2_with (go_at_call 15; rw [← HW.out]; refine HR.out.mono ?_; rintro e w1 ⟨rfl, hb1⟩)
    obtain ⟨b0, b1, b2, b3, b4, b5, b6, _⟩ := HBX.out w1 hb1
    have HX0 := Lib.hid (HBX.out w1.drew (HB0.out _ hb1))
    go_region_held3 (fun w' => w'.cell? ⟨w.heap.size, 0, none⟩ = some (.int .i64 a.vis) ∧ w'.cell? ⟨w.heap.size, 1, none⟩ = some (.int .i64 a.ret) ∧ w'.cell? ⟨w.heap.size, 2, none⟩ = some (.int .i64 a.del) ∧ w'.cell? ⟨w.heap.size, 3, none⟩ = some (.int .i64 a.win) ∧ w'.cell? ⟨w.heap.size, 4, none⟩ = some (.int .i64 a.max) ∧ w'.cell? ⟨w.heap.size, 5, none⟩ = some (.string a.dead) ∧ w'.cell? ⟨w.heap.size, 6, none⟩ = some (.bool a.fifo) ∧ Below W.heap.size W w')
      (first | exact HX0.out | exact HBX.out _ (by assumption) | exact HBX.out _ (hbN.alloc hbN.size _))
      (first | (go_at_call 31; refine (HN.out _ (by first | assumption | exact HB0.out _ (by assumption))).mono ?_; rintro e wN ⟨k, rfl, hbN, HK⟩))
    go_wp2_with (go_at_call 32; refine (HE2.out _ _ hbN HK.out).mono ?_; rintro e w3 ⟨rfl, HQ⟩)
    go_ret
    exact .inr ⟨trivial, _, rfl, HQ⟩
end Go.Proofs.YtdjieapobodakaaGreatDoor
end

section
namespace Go.Proofs.YtdjieapobodakaaGreatDoor
open Go Go.RowKit Go.Maps Go.WideMaps

section
variable {w w' : World} {q : Nat} {V : QV} {S : QS}
set_option maxHeartbeats 1600000 in
set_option maxRecDepth 100000 in
theorem takes_any (h : QL w q V S) (body group key : ByteArray) (delay : Int) : Calls Tryz.prog 37 #[.pointer (some ⟨q, 0, none⟩), .string body, .string group, .string key, .int .i64 delay] w fun e w' => e = .returned (.bool (takes V.A body group key delay)) ∧ Below w.heap.size w w' := by
  obtain ⟨c0, c1, c2, c3, c4, c5, c6, c7, c8, c9, c10, c11, c12, c13⟩ := h.cells
  have HW := Lib.hid fun n x y w => within_any n x y w
  have HE : Hid (takes V.A body group key delay = (decide (body.size ≤ 256) && decide (group.size ≤ 256) && decide (key.size ≤ 256) && ((!decide (group = ⟨#[]⟩)) == V.A.fifo) && within delay (-1) (if V.A.fifo then -1 else 1048576))) := Lib.hid rfl
  have he := empty_is group
  clear h
  go_enter Tryz.func37, Tryz.ntmps37
  go_wp2_with (go_at_call 33; refine (HW.out _ _ _ _).mono ?_; rintro e w1 ⟨rfl, rfl⟩)
  all_goals
    go_ret
    refine ⟨?_, Below.refl _ _⟩
    rw [HE.out]
    first
      | (simp [*]; done)
      | (have h1 : body.size ≤ 256 := by omega
         have h2 : group.size ≤ 256 := by omega
         have h3 : key.size ≤ 256 := by omega
         rw [decide_eq_true h1, decide_eq_true h2, decide_eq_true h3]
         simp [*]
         done)
      | (have h1 : (decide (body.size ≤ 256) && decide (group.size ≤ 256) && decide (key.size ≤ 256)) = false := by
           simp only [Bool.and_eq_false_iff, decide_eq_false_iff_not]
           omega
         rw [h1]
         simp
         done)
/-- What Send answers, and leaves, part by part. -/
def sendVA (V : QV) (body group key : ByteArray) (delay : Int) : Int × Int :=
  if !takes V.A body group key delay then (0, 1) else
  match Led.findE V.K key with
  | some x => (idOf x, 0)
  | none => if 1024 ≤ V.M.length then (0, 5) else if keyed V.A key && decide (4096 ≤ V.K.length) then (0, 5) else (V.last + 1, 0)
def keyV2 (V : QV) (key : ByteArray) : QV := if keyed V.A key then { V with K := Led.putE V.K ⟨key, .int .i64 (V.last + 1), V.now + V.A.win⟩ } else V
def sendV (V : QV) (body group key : ByteArray) (delay : Int) : QV :=
  if !takes V.A body group key delay then V else
  match Led.findE V.K key with
  | some _ => V
  | none => if 1024 ≤ V.M.length then V else if keyed V.A key && decide (4096 ≤ V.K.length) then V else addV (keyV2 V key) body group delay
theorem led_is {l room : Nat} {L : List Led.En} {Φ : Nat → Prop} (h : Led.LedAt w l room L Φ) {x : Led.En} (hx : x ∈ L) : x.v = .int .i64 (idOf x) := by
  obtain ⟨m, f, h⟩ := h
  obtain ⟨n, hn⟩ := h.vs x hx
  unfold idOf
  rw [hn]
/-- What Send asks of the parts. -/
structure CanAdd (V : QV) : Prop where
  few : Few V
  del : 0 ≤ V.A.del ∧ V.A.del ≤ 1048576
  win : 0 ≤ V.A.win ∧ V.A.win ≤ 1048576
  now : 0 ≤ V.now ∧ V.now ≤ 1099511627776
  last : 0 ≤ V.last ∧ V.last ≤ 900000
  hM : findM V.M (V.last + 1) = none
  hL : Lan.at_ V.Lt (V.last + 1) = none
def twoE (p : Int × Int) : Ending := .returned (.tuple #[.int .i64 p.1, .int .i64 p.2])
def SendSaid (V : QV) (body group key : ByteArray) (delay : Int) (q : Nat) (S : QS) (w : World) (e : Ending) (w' : World) : Prop := e = twoE (sendVA V body group key delay) ∧ Hid (QGot w q (sendV V body group key delay) S w')
theorem QL.takes (h : QL w q V S) (body group key : ByteArray) (delay : Int) : Calls Tryz.prog 37 #[.pointer (some ⟨q, 0, none⟩), .string body, .string group, .string key, .int .i64 delay] w fun e w' => e = .returned (.bool (Go.Proofs.YtdjieapobodakaaGreatDoor.takes V.A body group key delay)) ∧ Hid (QL w' q V S ∧ QNext w w' S S) :=
  (takes_any h body group key delay).mono fun _ _ ⟨he, hb⟩ => ⟨he, Lib.hid (h.below hb)⟩
set_option maxHeartbeats 800000 in
set_option maxRecDepth 100000 in
theorem Send_not (h : QL w q V S) {body group key : ByteArray} {delay : Int} (ht : takes V.A body group key delay = false) :
    Calls Tryz.prog 18 #[.pointer (some ⟨q, 0, none⟩), .string body, .string group, .string key, .int .i64 delay] w (SendSaid V body group key delay q S w) := by
  have HT := Lib.hid (h.takes body group key delay)
  rw [ht] at HT
  have HE : Hid (∀ e w', e = twoE (0, 1) ∧ Hid (QGot w q V S w') → SendSaid V body group key delay q S w e w') := Lib.hid fun e w' hx => by
    unfold SendSaid sendVA sendV
    rw [ht]
    exact hx
  clear h ht
  go_enter Tryz.func18, Tryz.ntmps18
  go_wp2_with (go_at_call 37; refine HT.out.mono ?_; rintro e w1 ⟨rfl, H1⟩)
  go_ret2
  exact HE.out _ _ ⟨rfl, Lib.hid ⟨S, H1.out⟩⟩
set_option maxHeartbeats 800000 in
set_option maxRecDepth 100000 in
theorem Send_known (h : QL w q V S) {body group key : ByteArray} {delay : Int} (ht : takes V.A body group key delay = true) {x : Led.En} (hx : Led.findE V.K key = some x) :
    Calls Tryz.prog 18 #[.pointer (some ⟨q, 0, none⟩), .string body, .string group, .string key, .int .i64 delay] w (SendSaid V body group key delay q S w) := by
  have hk : key.size ≤ maxLen := Nat.le_trans (takes_parts ht).2.2.1 (by unfold maxLen; decide)
  have HT := Lib.hid (h.takes body group key delay)
  rw [ht] at HT
  have hv := led_is h.key (Led.findE_some hx).1
  have HG : Hid (∀ w1, QL w1 q V S ∧ QNext w w1 S S → Calls Tryz.prog 38 #[.pointer (some ⟨S.k, 0, none⟩), .string key] w1 fun e w' => e = .returned (.tuple #[.int .i64 (idOf x), .bool true]) ∧ Hid (QGot w q V S w')) := Lib.hid fun w1 h1 => by
    refine (h1.1.kGet hk).mono ?_
    rintro e w2 ⟨rfl, H2⟩
    refine ⟨?_, Lib.hid ⟨S, H2.out.1, h1.2.trans H2.out.2.1⟩⟩
    rw [hx]
    unfold Led.getE
    simp [hv]
  have HE : Hid (∀ e w', e = twoE (idOf x, 0) ∧ Hid (QGot w q V S w') → SendSaid V body group key delay q S w e w') := Lib.hid fun e w' hy => by
    unfold SendSaid sendVA sendV
    rw [ht, hx]
    exact hy
  clear h ht hk hv
  go_enter Tryz.func18, Tryz.ntmps18
  go_wp2_with (first
    | (go_at_call 37; refine HT.out.mono ?_; rintro e w1 ⟨rfl, H1⟩; obtain ⟨c0, c1, c2, c3, c4, c5, c6, c7, c8, c9, c10, c11, c12, c13⟩ := H1.out.1.cells; clear HT)
    | (go_at_call 38; refine (HG.out _ H1.out).mono ?_; rintro e w2 ⟨rfl, H2⟩))
  go_ret2
  exact HE.out _ _ ⟨rfl, H2⟩
set_option maxHeartbeats 800000 in
set_option maxRecDepth 100000 in
theorem Send_full (h : QL w q V S) {body group key : ByteArray} {delay : Int} (ht : takes V.A body group key delay = true) (hx : Led.findE V.K key = none) (hl : 1024 ≤ V.M.length) :
    Calls Tryz.prog 18 #[.pointer (some ⟨q, 0, none⟩), .string body, .string group, .string key, .int .i64 delay] w (SendSaid V body group key delay q S w) := by
  have hk : key.size ≤ maxLen := Nat.le_trans (takes_parts ht).2.2.1 (by unfold maxLen; decide)
  have HT := Lib.hid (h.takes body group key delay)
  rw [ht] at HT
  have HG : Hid (∀ w1, QL w1 q V S ∧ QNext w w1 S S → Calls Tryz.prog 38 #[.pointer (some ⟨S.k, 0, none⟩), .string key] w1 fun e w' => e = .returned (.tuple #[.int .i64 0, .bool false]) ∧ Hid (QL w' q V S ∧ QNext w w' S S)) := Lib.hid fun w1 h1 => by
    refine (h1.1.kGet hk).mono ?_
    rintro e w2 ⟨rfl, H2⟩
    refine ⟨?_, Lib.hid ⟨H2.out.1, h1.2.trans H2.out.2.1⟩⟩
    rw [hx]
    rfl
  have HE : Hid (∀ e w', e = twoE (0, 5) ∧ Hid (QGot w q V S w') → SendSaid V body group key delay q S w e w') := Lib.hid fun e w' hy => by
    unfold SendSaid sendVA sendV
    rw [ht, hx]
    simp only [Bool.not_true, Bool.false_eq_true, if_false, if_pos hl]
    exact hy
  have hl2 : decide (1024 ≤ (V.M.length : Int)) = true := decide_eq_true (by omega)
  clear h ht hk hx hl
  go_enter Tryz.func18, Tryz.ntmps18
  go_wp2_with (first
    | (go_at_call 37; refine HT.out.mono ?_; rintro e w1 ⟨rfl, H1⟩; obtain ⟨c0, c1, c2, c3, c4, c5, c6, c7, c8, c9, c10, c11, c12, c13⟩ := H1.out.1.cells; clear HT)
    | (go_at_call 38; refine (HG.out _ H1.out).mono ?_; rintro e w2 ⟨rfl, H2⟩; obtain ⟨c0, c1, c2, c3, c4, c5, c6, c7, c8, c9, c10, c11, c12, c13⟩ := H2.out.1.cells; have hlen := fun ty => H2.out.1.len ty))
  go_ret2
  exact HE.out _ _ ⟨rfl, Lib.hid ⟨S, H2.out⟩⟩
end
end Go.Proofs.YtdjieapobodakaaGreatDoor
end
