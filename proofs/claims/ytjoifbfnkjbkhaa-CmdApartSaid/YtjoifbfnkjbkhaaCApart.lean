/- What is proved here: 'CmdApart' returns true for any two commands, whatever the memory in which it is called, and nothing that was there has changed. -/
import Derived.Test.YtjoifbfnkjbkhaaCFewN
import Derived.Test.YtjoifbfnkjbkhaaCSame
import Derived.Great.BuildSlice
namespace Go.Proofs.Ytjoifbfnkjbkhaa
open Go Go.RowKit Go.Maps

/-- Two commands that may be written have the same bytes just if they are the same. -/
theorem bytes_same {a b : CM} {La Lb : List ByteArray} (ha : a.right La = true) (hb : b.right Lb = true) (la : La.length = a.bn) (lb : Lb.length = b.bn) (na : I64 a.n) (nb : I64 b.n) :
    decide (a.bytes La = b.bytes Lb) = decide (La = Lb ∧ a.cl = b.cl ∧ a.rq = b.rq ∧ a.kd = b.kd ∧ a.n = b.n ∧ a.m = b.m ∧ (a.vi = b.vi ∧ a.re = b.re ∧ a.de = b.de ∧ a.wi = b.wi ∧ a.mx = b.mx ∧ a.dd = b.dd ∧ a.ff = b.ff) ∧ a.qn = b.qn ∧ a.bo = b.bo ∧ a.gr = b.gr ∧ a.ky = b.ky ∧ a.rc = b.rc) := by
  have key : (a.bytes La = b.bytes Lb) ↔ (La = Lb ∧ a.cl = b.cl ∧ a.rq = b.rq ∧ a.kd = b.kd ∧ a.n = b.n ∧ a.m = b.m ∧ (a.vi = b.vi ∧ a.re = b.re ∧ a.de = b.de ∧ a.wi = b.wi ∧ a.mx = b.mx ∧ a.dd = b.dd ∧ a.ff = b.ff) ∧ a.qn = b.qn ∧ a.bo = b.bo ∧ a.gr = b.gr ∧ a.ky = b.ky ∧ a.rc = b.rc) := by
    constructor
    · intro h
      obtain ⟨_, g1, g2, _⟩ := read_back ha la na
      obtain ⟨_, k1, k2, _⟩ := read_back hb lb nb
      rw [h] at g1 g2
      have e : a.at_ none 0 = b.at_ none 0 := (g1 none 0).symm.trans (k1 none 0)
      have e2 : La = Lb := g2.symm.trans k2
      have E : ∀ {α : Type} (f : CM → α), f (a.at_ none 0) = f (b.at_ none 0) := fun f => congrArg f e
      exact ⟨e2, E CM.cl, E CM.rq, E CM.kd, E CM.n, E CM.m, ⟨E CM.vi, E CM.re, E CM.de, E CM.wi, E CM.mx, E CM.dd, E CM.ff⟩, E CM.qn, E CM.bo, E CM.gr, E CM.ky, E CM.rc⟩
    · obtain ⟨x1, x2, x3, x4, x5, x6, x7, x8, x9, x10, x11, x12, x13, x14, x15, x16, x17, x18, x19, x20⟩ := a
      obtain ⟨y1, y2, y3, y4, y5, y6, y7, y8, y9, y10, y11, y12, y13, y14, y15, y16, y17, y18, y19, y20⟩ := b
      rintro ⟨h0, h1, h2, h3, h4, h5, ⟨h6, h7, h8, h9, h10, h11, h12⟩, h13, h14, h15, h16, h17⟩
      dsimp only at *
      subst h0 h1 h2 h3 h4 h5 h6 h7 h8 h9 h10 h11 h12 h13 h14 h15 h16 h17
      rfl
  by_cases h : a.bytes La = b.bytes Lb
  · rw [decide_eq_true h, decide_eq_true (key.1 h)]
  · rw [decide_eq_false h, decide_eq_false (fun h2 => h (key.2 h2))]
theorem info_cmd2 : (Try.prog.info? 26).map (fun i => (i.size, i.zero)) = some (18, some (.agg CM.zero.cells)) := by kernel_rfl
set_option maxRecDepth 100000 in
theorem fill_two (a b : CM) : Instr.fill (fun i => some (i * 18, 18)) ((Array.range (2 * 18)).map (fun x => (Value.agg CM.zero.cells).cells[x % (Value.agg CM.zero.cells).cells.size]!)) [(0, .agg a.cells), (1, .agg b.cells)] = some (a.cells ++ b.cells) := by kernel_rfl
theorem build_two {ops : Array Oper} {rest : List Oper} {o : Oper} {f : Act} {w : World} {Q : Exit → Act → World → Prop} (hg : o.guard = none) (x y : Operand) (ho : o.op = .buildSlice 28 2 #[(0, x), (1, y)]) (a b : CM) (hx : f.eval x = .agg a.cells) (hy : f.eval y = .agg b.cells)
    (h : wpList Try.prog ops Q rest (f.put o.dst (.slice (some ⟨w.heap.size, 0, none⟩) 2 2)) (w.alloc (.cells (a.cells ++ b.cells) 26))) : wpList Try.prog ops Q (o :: rest) f w := by
  obtain ⟨ie, hie, hi⟩ := Option.map_eq_some_iff.1 info_cmd2
  simp only [Prod.mk.injEq] at hi
  refine wpList_buildSlice hg _ 26 2 #[(0, x), (1, y)] ho (a.cells ++ b.cells) ie (.agg CM.zero.cells) Try.underlying28 hie hi.2 (by rw [hi.1]; decide) (by rw [hi.1]; decide) ?_ h
  rw [hi.1]
  have e : (#[(0, x), (1, y)].map fun (i, x) => (i, f.eval x) : Array (Nat × Value)).toList = [(0, .agg a.cells), (1, .agg b.cells)] := by simp [hx, hy]
  rw [e]
  exact fill_two a b
/-- The one and the other. -/
def two {α : Type} (a b : α) (k : Nat) : α := if k = 0 then a else b
theorem two_cells {w : World} {s : Nat} {t : TypeId} {a b : CM} (h : Blk w s t (a.cells ++ b.cells)) : ∀ k, k < 2 → ∀ i v, (two a b k).cells[i]? = some v → w.cell? ⟨s, k * 18 + i, none⟩ = some v := by
  intro k hk i v hv
  rw [h.cell]
  have hi : i < 18 := by
    have := (Array.getElem?_eq_some_iff.1 hv).1
    rwa [CM.size] at this
  rcases (show k = 0 ∨ k = 1 by omega) with rfl | rfl
  · rw [Nat.zero_mul, Nat.zero_add, Array.getElem?_append_left (by rw [CM.size]; exact hi)]
    exact hv
  · rw [Array.getElem?_append_right (by rw [CM.size]; omega), CM.size, show 1 * 18 + i - 18 = i by omega]
    exact hv
theorem yields_row {P : Program} {o : Oper} {a : Act} {w : World} (ty : TypeId) (x : Operand) (ho : o.op = .load ty x)
    (g : Nat) (hx : a.eval x = .pointer (some ⟨g, 0, none⟩)) (t : TypeId) (cs : Array Value) (fr : Nat × Nat) (d : TypeDesc) (hg : w.heap[g]? = some (.cells cs t fr))
    (hu : P.underlying ty = some d) (hd : (match d with | .struct _ | .array _ _ => true | _ => false) = true) (hi : (P.info? ty).map (·.size) = some cs.size) :
    (execOp a.eval o).run P w = .ok (.value (.agg cs)) w := by
  unfold execOp
  simp only [ho, hx, Instr.loadAt, Instr.sureAddr, Sem.run_bind, Sem.run_pure, Result.andThen_ok, run_loadVar_row w g t ty cs fr d hg hu hd hi]
/-- What Write answers, in short. -/
def Wrote (W : World) (c : CM) (L : List ByteArray) (e : Ending) (w' : World) : Prop :=
  (c.right L = true ∧ ∃ (A : Option Addr) (n d : Nat), e = .returned (.tuple #[.slice A n d, .nilIface]) ∧ Rd w' w'.heap.size .u8 A n d (c.bytes L) ∧ Below W.heap.size W w') ∨
  (c.right L = false ∧ ∃ (f : Nat), e = .returned (.tuple #[.slice none 0 0, .iface 50 (.pointer (some ⟨f, 0, none⟩))]) ∧ Below W.heap.size W w')
theorem Write_any (c : CM) (L : List ByteArray) (w : World) (hL : TRd w w.heap.size c.bA c.bn c.bc L) (hn : c.bn ≤ 1000000) : Calls Try.prog 6 #[.agg c.cells] w (Wrote w c L) := by
  by_cases h : c.right L = true
  · exact (Write_ok c L w hL h).mono fun e w' h' => .inl ⟨h, h'⟩
  · have hf := Bool.eq_false_iff.2 h
    exact (Write_no c L w hL hn hf).mono fun e w' ⟨f, _, he, _, hb⟩ => .inr ⟨hf, f, he, hb⟩

set_option maxHeartbeats 12800000 in
set_option maxRecDepth 100000 in
theorem apart_any (a b : CM) (La Lb : List ByteArray) (w : World) (hLa : TRd w w.heap.size a.bA a.bn a.bc La) (hLb : TRd w w.heap.size b.bA b.bn b.bc Lb) (fa : a.Fits La) (fb : b.Fits Lb) (na : I64 a.n) (nb : I64 b.n) :
    Calls Try.prog 3 #[.agg a.cells, .agg b.cells] w fun e w' => e = .returned (.bool true) ∧ Below w.heap.size w w' := by
  obtain ⟨ca, hca⟩ : ∃ ca, ca = a.cells := ⟨_, rfl⟩
  obtain ⟨cb, hcb⟩ : ∃ cb, cb = b.cells := ⟨_, rfl⟩
  rw [← hca, ← hcb]
  have HCA := Lib.hid hca; have HCB := Lib.hid hcb
  have IA : Hid ((Try.prog.info? 26).map (·.size) = some ca.size) := Lib.hid (by rw [hca]; exact a.info)
  have IB : Hid ((Try.prog.info? 26).map (·.size) = some cb.size) := Lib.hid (by rw [hcb]; exact b.info)
  have HLA := Lib.hid hLa; have HLB := Lib.hid hLb; have FA := Lib.hid fa; have FB := Lib.hid fb; have NA := Lib.hid na; have NB := Lib.hid nb
  clear hca hcb hLa hLb fa fb na nb
  go_enter Try.func3, Try.ntmps3
  go_upto_region 1 with fail
  have b1 : Blk ((w.alloc (.cells ca 26)).alloc (.cells cb 26)) w.heap.size 26 ca := (Blk.fresh w _ ca).alloc _
  have b2 : Blk ((w.alloc (.cells ca 26)).alloc (.cells cb 26)) (w.heap.size + 1) 26 cb := by simpa using Blk.fresh (w.alloc (.cells ca 26)) 26 cb
  have hbel : Below w.heap.size w ((w.alloc (.cells ca 26)).alloc (.cells cb 26)) := ((Below.refl _ _).alloc (Nat.le_refl _) _).alloc (by simp) _
  generalize (w.alloc (.cells ca 26)).alloc (.cells cb 26) = W at *
  have HB1 := Lib.hid b1; have HB2 := Lib.hid b2; have HBEL := Lib.hid hbel
  clear b1 b2 hbel
  go_wp2_with (first
    | (refine build_two (o := ⟨some 11, .buildSlice 28 2 #[(0, .tmp 9), (1, .tmp 10)], _, _, _, _⟩) rfl (.tmp 9) (.tmp 10) rfl a b (by rw [← HCA.out]; rfl) (by rw [← HCB.out]; rfl) ?_)
    | (refine wpList_load_row (o := ⟨some 9, .load 26 (.tmp 2), _, _, _, _⟩) rfl 26 (.tmp 2) rfl w.heap.size rfl 26 ca (0, 0) _ HB1.out Try.underlying26 rfl IA.out ?_)
    | (refine wpList_load_row (o := ⟨some 10, .load 26 (.tmp 3), _, _, _, _⟩) rfl 26 (.tmp 3) rfl (w.heap.size + 1) rfl 26 cb (0, 0) _ HB2.out Try.underlying26 rfl IB.out ?_))
  have hbk : Blk (W.alloc (.cells (a.cells ++ b.cells) 26)) W.heap.size 26 (a.cells ++ b.cells) := Blk.fresh _ _ _
  have hb1 : Below W.heap.size W (W.alloc (.cells (a.cells ++ b.cells) 26)) := (Below.refl _ _).alloc (Nat.le_refl _) _
  generalize W.alloc (.cells (a.cells ++ b.cells) 26) = W1 at *
  have HBEL1 := Lib.hid (HBEL.out.trans (hb1.mono HBEL.out.size))
  have HB11 := Lib.hid (HB1.out.below hb1 HB1.out.lt); have HB21 := Lib.hid (HB2.out.below hb1 HB2.out.lt)
  have HLA1 := Lib.hid ((HLA.out.below HBEL1.out).more HBEL1.out.size); have HLB1 := Lib.hid ((HLB.out.below HBEL1.out).more HBEL1.out.size)
  clear hb1
  refine (Few_many W.heap.size 2 (two a b) (two La Lb) W1 (by omega) hbk.lt (two_cells hbk) (fun k hk => by rcases (show k = 0 ∨ k = 1 by omega) with rfl | rfl; exact HLA1.out; exact HLB1.out) (fun k hk => by rcases (show k = 0 ∨ k = 1 by omega) with rfl | rfl; exact FA.out; exact FB.out)).mono ?_
  rintro e w1 ⟨bb, rfl, hfew, hb1⟩
  have HBEL2 := Lib.hid (HBEL1.out.trans (hb1.mono HBEL1.out.size))
  have HB12 := Lib.hid (HB11.out.below hb1 HB11.out.lt); have HB22 := Lib.hid (HB21.out.below hb1 HB21.out.lt)
  clear hbk hb1 HB11 HB21 HLA1 HLB1
  rcases bb with _ | _
  · go_wp2_with (go_at_call 5; refine (awake_any _).mono ?_; rintro e w2 ⟨rfl, hb2⟩; have HB := Lib.hid (HBEL2.out.trans (hb2.mono HBEL2.out.size)); clear hb2)
    go_ret
    exact ⟨rfl, HB.out⟩
  · have f0 : a.bn ≤ 750 := hfew rfl 0 (by omega)
    have f1 : b.bn ≤ 750 := hfew rfl 1 (by omega)
    clear hfew
    have HWA : Hid (Calls Try.prog 6 #[.agg ca] w1 (Wrote w1 a La)) := Lib.hid (by rw [HCA.out]; exact Write_any a La w1 ((HLA.out.below HBEL2.out).more HBEL2.out.size) (by omega))
    go_wp2_with (refine wpList_load_row (o := ⟨some 16, .load 26 (.tmp 2), _, _, _, _⟩) rfl 26 (.tmp 2) rfl w.heap.size rfl 26 ca (0, 0) _ HB12.out Try.underlying26 rfl IA.out ?_)
    refine HWA.out.mono ?_
    intro e w2 hwa
    have hb2 : Below w1.heap.size w1 w2 := by rcases hwa with ⟨_, _, _, _, _, _, h⟩ | ⟨_, _, _, h⟩ <;> exact h
    have HBEL3 := Lib.hid (HBEL2.out.trans (hb2.mono HBEL2.out.size))
    have HB13 := Lib.hid (HB12.out.below hb2 HB12.out.lt); have HB23 := Lib.hid (HB22.out.below hb2 HB22.out.lt)
    have HWB : Hid (Calls Try.prog 6 #[.agg cb] w2 (Wrote w2 b Lb)) := Lib.hid (by rw [HCB.out]; exact Write_any b Lb w2 ((HLB.out.below HBEL3.out).more HBEL3.out.size) (by omega))
    clear hb2 HWA
    rcases hwa with ⟨ra, A1, n1, d1, rfl, hr1, _⟩ | ⟨_, f, rfl, _⟩
    · have HRA := Lib.hid ra; have HR1 := Lib.hid hr1
      clear ra hr1
      go_wp2_with (refine wpList_load_row (o := ⟨some 21, .load 26 (.tmp 3), _, _, _, _⟩) rfl 26 (.tmp 3) rfl (w.heap.size + 1) rfl 26 cb (0, 0) _ HB23.out Try.underlying26 rfl IB.out ?_)
      refine HWB.out.mono ?_
      intro e w3 hwb
      have hb3 : Below w2.heap.size w2 w3 := by rcases hwb with ⟨_, _, _, _, _, _, h⟩ | ⟨_, _, _, h⟩ <;> exact h
      have HBEL4 := Lib.hid (HBEL3.out.trans (hb3.mono HBEL3.out.size))
      have HB14 := Lib.hid (HB13.out.below hb3 HB13.out.lt); have HB24 := Lib.hid (HB23.out.below hb3 HB23.out.lt)
      have HR14 := Lib.hid ((HR1.out.below hb3).more hb3.size)
      clear hb3 HWB
      rcases hwb with ⟨rb, A2, n2, d2, rfl, hr2, _⟩ | ⟨_, f, rfl, _⟩
      · have hsm := bytes_same HRA.out rb HLA.out.len HLB.out.len NA.out NB.out
        have HR2 := Lib.hid hr2
        clear hr2 rb
        obtain ⟨q, hq⟩ : ∃ q, q = decide (a.bytes La = b.bytes Lb) := ⟨_, rfl⟩
        have HQ := Lib.hid hq
        have HSM : Hid (decide (La = Lb ∧ a.cl = b.cl ∧ a.rq = b.rq ∧ a.kd = b.kd ∧ a.n = b.n ∧ a.m = b.m ∧ (a.vi = b.vi ∧ a.re = b.re ∧ a.de = b.de ∧ a.wi = b.wi ∧ a.mx = b.mx ∧ a.dd = b.dd ∧ a.ff = b.ff) ∧ a.qn = b.qn ∧ a.bo = b.bo ∧ a.gr = b.gr ∧ a.ky = b.ky ∧ a.rc = b.rc) = q) := Lib.hid (by rw [hq]; exact hsm.symm)
        clear hsm hq
        have HS : Hid (∀ W, Below w.heap.size w W → Calls Try.prog 8 #[.agg ca, .agg cb] W fun e w' => e = .returned (.bool q) ∧ Below W.heap.size W w') := Lib.hid fun W hW => by
          rw [HCA.out, HCB.out, ← HSM.out]
          exact Same_any a.cl a.rq a.kd a.vi a.re a.de a.wi a.mx a.n a.m b.cl b.rq b.kd b.vi b.re b.de b.wi b.mx b.n b.m a.qn a.dd a.bo a.gr a.ky a.rc b.qn b.dd b.bo b.gr b.ky b.rc a.ff b.ff a.bA b.bA a.bn a.bc b.bn b.bc La Lb W ((HLA.out.below hW).more hW.size) ((HLB.out.below hW).more hW.size) (by omega)
        go_upto_region 7 with fail
        have hS0 : Blk w3.drew w.heap.size 26 ca ∧ Blk w3.drew (w.heap.size + 1) 26 cb := ⟨HB14.out, HB24.out⟩
        have HRA2 : Hid (∀ W, Calls Try.prog 9 #[.agg ca] W fun e w' => e = .returned (.agg ca) ∧ Below W.heap.size W w') := Lib.hid fun W => by rw [HCA.out]; exact RefCmd_any a W
        have HRB2 : Hid (∀ W, Calls Try.prog 9 #[.agg cb] W fun e w' => e = .returned (.agg cb) ∧ Below W.heap.size W w') := Lib.hid fun W => by rw [HCB.out]; exact RefCmd_any b W
        clear HB14 HB24 HCA HCB HSM HRA HR1 HB13 HB23 HB12 HB22 HLA HLB FA FB NA NB f0 f1
        have HR1d : Hid (Rd w3.drew w3.heap.size .u8 A1 n1 d1 (a.bytes La)) := Lib.hid (HR14.out.below ((Below.refl _ _).drew))
        have HR2d : Hid (Rd w3.drew w3.heap.size .u8 A2 n2 d2 (b.bytes Lb)) := Lib.hid (HR2.out.below ((Below.refl _ _).drew))
        have HBd := Lib.hid HBEL4.out.drew
        clear HR14 HR2 HBEL4
        rcases q with _ | _
        all_goals
          refine wp_region_G (fun w' => Blk w' w.heap.size 26 ca ∧ Blk w' (w.heap.size + 1) 26 cb) 12 (by kernel_rfl) ?_
          generalize w3.drew = wd at *
          refine wpAnyG_take (i := 0) (oi := ⟨some 32, _, _, _, _, _⟩) (v := .slice A1 n1 d1) rfl (by kernel_rfl) (by kernel_rfl) (by kernel_rfl) (by kernel_rfl) (fun _ _ _ h => h) (Or.inl ⟨by rfl, ?_⟩) hS0 ?_

          · intro wS hSw
            clear hSw
            go_simp
            try rfl
          try simp only [Act.put]
          refine wpAnyG_take (i := 1) (oi := ⟨some 33, _, _, _, _, _⟩) (v := .slice A2 n2 d2) rfl (by kernel_rfl) (by kernel_rfl) (by kernel_rfl) (by kernel_rfl) (fun _ _ _ h => h) (Or.inl ⟨by rfl, ?_⟩) hS0 ?_

          · intro wS hSw
            clear hSw
            go_simp
            try rfl
          try simp only [Act.put]
          refine wpAnyG_take (i := 3) (oi := ⟨some 35, _, _, _, _, _⟩) (v := .agg ca) rfl (by kernel_rfl) (by kernel_rfl) (by kernel_rfl) (by kernel_rfl) (fun _ _ _ h => h) (Or.inl ⟨by rfl, ?_⟩) hS0 ?_

          · intro wS hSw
            exact yields_row 26 (.tmp 2) rfl w.heap.size rfl 26 ca (0, 0) _ hSw.1 Try.underlying26 rfl IA.out
          try simp only [Act.put]
          refine wpAnyG_take (i := 5) (oi := ⟨some 37, _, _, _, _, _⟩) (v := .agg cb) rfl (by kernel_rfl) (by kernel_rfl) (by kernel_rfl) (by kernel_rfl) (fun _ _ _ h => h) (Or.inl ⟨by rfl, ?_⟩) hS0 ?_

          · intro wS hSw
            exact yields_row 26 (.tmp 3) rfl (w.heap.size + 1) rfl 26 cb (0, 0) _ hSw.2 Try.underlying26 rfl IB.out
          try simp only [Act.put]
          refine wpAnyG_one (i := 2) (o := ⟨some 34, _, _, _, _, _⟩) (by kernel_rfl) rfl (fun K hK => ?_)
          go_simp
          refine (Equal_any A1 A2 n1 d1 n2 d2 _ _ (a.bytes La) (b.bytes Lb) wd HR1d.out HR2d.out (a.bytes_ok La) (b.bytes_ok Lb)).mono ?_
          rw [← HQ.out]
          rintro e w5 ⟨rfl, rfl⟩
          dsimp only
          refine hK.out _ _ (fun _ => hS0) ?_
          clear hK K
          try simp only [Act.put]
          refine wpAnyG_one (i := 4) (o := ⟨some 36, _, _, _, _, _⟩) (by kernel_rfl) rfl (fun K hK => ?_)
          go_simp
          refine (HRA2.out _).mono ?_
          rintro e w6 ⟨rfl, hb⟩
          have HB6 := Lib.hid (HBd.out.trans (hb.mono HBd.out.size))
          have hS1 : Blk w6 w.heap.size 26 ca ∧ Blk w6 (w.heap.size + 1) 26 cb := ⟨hS0.1.below hb hS0.1.lt, hS0.2.below hb hS0.2.lt⟩
          clear hb hS0
          have hS0 := hS1
          clear hS1
          dsimp only
          refine hK.out _ _ (fun _ => hS0) ?_
          clear hK K
          try simp only [Act.put]
          refine wpAnyG_one (i := 6) (o := ⟨some 38, _, _, _, _, _⟩) (by kernel_rfl) rfl (fun K hK => ?_)
          go_simp
          refine (HRB2.out _).mono ?_
          rintro e w7 ⟨rfl, hb⟩
          have HB7 := Lib.hid (HB6.out.trans (hb.mono HB6.out.size))
          have hS1 : Blk w7 w.heap.size 26 ca ∧ Blk w7 (w.heap.size + 1) 26 cb := ⟨hS0.1.below hb hS0.1.lt, hS0.2.below hb hS0.2.lt⟩
          clear hb hS0
          have hS0 := hS1
          clear hS1
          dsimp only
          refine hK.out _ _ (fun _ => hS0) ?_
          clear hK K
          try simp only [Act.put]
          refine wpAnyG_one (i := 7) (o := ⟨some 39, _, _, _, _, _⟩) (by kernel_rfl) rfl (fun K hK => ?_)
          go_simp
          refine (HS.out w7 HB7.out).mono ?_
          rintro e w8 ⟨rfl, hb⟩
          have HB8 := Lib.hid (HB7.out.trans (hb.mono HB7.out.size))
          have hS1 : Blk w8 w.heap.size 26 ca ∧ Blk w8 (w.heap.size + 1) 26 cb := ⟨hS0.1.below hb hS0.1.lt, hS0.2.below hb hS0.2.lt⟩
          clear hb hS0
          have hS0 := hS1
          clear hS1
          dsimp only
          refine hK.out _ _ (fun _ => hS0) ?_
          clear hK K
          try simp only [Act.put]
          refine wpAnyG_take (i := 8) (oi := ⟨some 40, _, _, _, _, _⟩) (v := .bool true) rfl (by kernel_rfl) (by kernel_rfl) (by kernel_rfl) (by kernel_rfl) (fun _ _ _ h => h) (Or.inl ⟨by rfl, ?_⟩) hS0 ?_

          · intro wS hSw
            clear hSw
            go_simp
            try rfl
          try simp only [Act.put]
          refine wpAnyG_take (i := 9) (oi := ⟨some 41, _, _, _, _, _⟩) (v := .bool true) rfl (by kernel_rfl) (by kernel_rfl) (by kernel_rfl) (by kernel_rfl) (fun _ _ _ h => h) (Or.inl ⟨by rfl, ?_⟩) hS0 ?_

          · intro wS hSw
            clear hSw
            go_simp
            try rfl
          try simp only [Act.put]
          refine wpAnyG_one (i := 10) (o := ⟨some 42, _, _, _, _, _⟩) (by kernel_rfl) rfl (fun K hK => ?_)
          rw [if_pos (by rfl)]
          go_simp
          refine (awake_any _).mono ?_
          rintro e w9 ⟨rfl, hb⟩
          have HB9 := Lib.hid (HB8.out.trans (hb.mono HB8.out.size))
          have hS1 : Blk w9 w.heap.size 26 ca ∧ Blk w9 (w.heap.size + 1) 26 cb := ⟨hS0.1.below hb hS0.1.lt, hS0.2.below hb hS0.2.lt⟩
          clear hb hS0
          have hS0 := hS1
          clear hS1
          dsimp only
          refine hK.out _ _ (fun _ => hS0) ?_
          clear hK K
          try simp only [Act.put]
          refine wpAnyG_take (i := 11) (oi := ⟨some 43, _, _, _, _, _⟩) (v := .bool true) rfl (by kernel_rfl) (by kernel_rfl) (by kernel_rfl) (by kernel_rfl) (fun _ _ _ h => h) (Or.inl ⟨by rfl, ?_⟩) hS0 ?_

          · intro wS hSw
            clear hSw
            go_simp
            try rfl
          try simp only [Act.put]
          refine wpAnyG_one (i := 12) (o := ⟨some 4, _, _, _, _, _⟩) (by kernel_rfl) rfl (fun K hK => ?_)
          go_simp
          refine hK.out _ _ (fun h => absurd h (by decide)) ?_
          clear hK K
          try simp only [Act.put]
          refine wpAnyG_done (by kernel_rfl) ?_ _
          go_wp2_with fail
          go_ret
          exact ⟨rfl, HB9.out⟩
      · go_wp2_with (go_at_call 5; refine (awake_any _).mono ?_; rintro e w4 ⟨rfl, hb4⟩; have HB := Lib.hid (HBEL4.out.trans (hb4.mono HBEL4.out.size)); clear hb4)
        go_ret
        exact ⟨rfl, HB.out⟩
    · go_wp2_with (refine wpList_load_row (o := ⟨some 21, .load 26 (.tmp 3), _, _, _, _⟩) rfl 26 (.tmp 3) rfl (w.heap.size + 1) rfl 26 cb (0, 0) _ HB23.out Try.underlying26 rfl IB.out ?_)
      refine HWB.out.mono ?_
      intro e w3 hwb
      have hb3 : Below w2.heap.size w2 w3 := by rcases hwb with ⟨_, _, _, _, _, _, h⟩ | ⟨_, _, _, h⟩ <;> exact h
      have HBEL4 := Lib.hid (HBEL3.out.trans (hb3.mono HBEL3.out.size))
      clear hb3 HWB
      rcases hwb with ⟨_, A2, n2, d2, rfl, _, _⟩ | ⟨_, f2, rfl, _⟩
      all_goals
        go_wp2_with (go_at_call 5; refine (awake_any _).mono ?_; rintro e w4 ⟨rfl, hb4⟩; have HB := Lib.hid (HBEL4.out.trans (hb4.mono HBEL4.out.size)); clear hb4)
        go_ret
        exact ⟨rfl, HB.out⟩
end Go.Proofs.Ytjoifbfnkjbkhaa
