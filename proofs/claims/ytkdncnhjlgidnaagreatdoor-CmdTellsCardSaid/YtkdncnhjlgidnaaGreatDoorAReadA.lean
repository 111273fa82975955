/- What is proved here: what cmd.ReadAnswer answers: the answer whose encoding the bytes are, or none and an error. -/
import Derived.Test.YtkdncnhjlgidnaaGreatDoorAPlain
import Derived.Test.YtkdncnhjlgidnaaGreatDoorCOut
import Derived.Test.YtkdncnhjlgidnaaGreatDoorCOne
namespace Go.Proofs.YtkdncnhjlgidnaaGreatDoor
open Go Go.RowKit Go.Maps

theorem info_tkz : (Tryz.prog.info? 59).map (fun i => (i.zero, i.size, i.bytes)) = some (some (.agg TK.zero.cells), 5, 64) := by kernel_rfl
theorem info_parts5 : ∃ i, Tryz.prog.info? 59 = some i ∧ i.zero = some (.agg TK.zero.cells) ∧ i.size = 5 ∧ i.bytes = 64 := by
  obtain ⟨i, h1, h2⟩ := Option.map_eq_some_iff.1 info_tkz
  simp only [Prod.mk.injEq] at h2
  exact ⟨i, h1, h2.1, h2.2.1, h2.2.2⟩
theorem WrapsC.ans {w : World} {q i : Nat} {v : Value} {cs : Array Value} {er : Value} {n : Int} (h : WrapsC w er n) (hq : Blk w q 27 cs) : WrapsC (w.setCell ⟨q, i, none⟩ v) er n := by
  rcases h with ⟨f, a, h, hf⟩ | ⟨f, s, h, hf⟩
  · refine .inl ⟨f, a, h, hf.other (p := ⟨q, i, none⟩) ?_ v⟩
    rintro rfl
    have := hf.symm.trans hq
    simp at this
  · refine .inr ⟨f, s, h, hf.other (p := ⟨q, i, none⟩) ?_ v⟩
    rintro rfl
    have := hf.symm.trans hq
    simp at this
/-- What ReadAnswer answers. -/
def APost (R : ARaw) (xs : List Int) (a : AM) (er : Value) (w : World) : Prop :=
  (whyA xs R.p R.why R.cd R.ids R.tks ≠ 0 ∧ a = AM.zero ∧ WrapsC w er (whyA xs R.p R.why R.cd R.ids R.tks)) ∨
  (whyA xs R.p R.why R.cd R.ids R.tks = 0 ∧ er = .nilIface ∧ a.cd = R.cd ∧ Rd w w.heap.size .i64 a.iA a.iN a.iC R.ids ∧ KRd w w.heap.size a.tA a.tN a.tC R.tks)

set_option maxHeartbeats 12800000 in
set_option maxRecDepth 100000 in
theorem ReadAnswer_any (A : Option Addr) (n d : Nat) (xs : List Int) (w : World) (h : Rd w w.heap.size .u8 A n d xs) (hx : ∀ x ∈ xs, 0 ≤ x ∧ x < 256) (hn : n ≤ 1000000) (R : ARaw) (hR : araw xs = R) :
    Calls Tryz.prog 5 #[.slice A n d] w fun e w' => ∃ (a : AM) (er : Value), e = .returned (.tuple #[.agg a.cells, er]) ∧ Below w.heap.size w w' ∧ APost R xs a er w' := by
  have hlen := h.len
  subst hlen
  have HX := Lib.hid hx
  have HRD := Lib.hid h
  have HR := Lib.hid hR
  clear hx h hR
  obtain ⟨i0, hi, hz0, hz1, hz2⟩ := info_parts5
  go_enter Tryz.func5, Tryz.ntmps5
  go_upto_region 2 with fail
  have hb2 : Blk ((w.alloc (.cells AM.zero.cells 27)).alloc (.cells AM.zero.cells 27)) w.heap.size 27 AM.zero.cells := (Blk.fresh w _ _).alloc _
  have hb4 : Blk ((w.alloc (.cells AM.zero.cells 27)).alloc (.cells AM.zero.cells 27)) (w.heap.size + 1) 27 AM.zero.cells := by simpa using Blk.fresh (w.alloc (.cells AM.zero.cells 27)) 27 AM.zero.cells
  have hbel : Below w.heap.size w ((w.alloc (.cells AM.zero.cells 27)).alloc (.cells AM.zero.cells 27)) := ((Below.refl _ _).alloc (Nat.le_refl _) _).alloc (by simp) _
  have hsW : ((w.alloc (.cells AM.zero.cells 27)).alloc (.cells AM.zero.cells 27)).heap.size = w.heap.size + 2 := by simp
  change Code.wp _ _ _ _ ((w.alloc (.cells AM.zero.cells 27)).alloc (.cells AM.zero.cells 27))
  generalize (w.alloc (.cells AM.zero.cells 27)).alloc (.cells AM.zero.cells 27) = W at *
  have HB2 := Lib.hid hb2; have HB4 := Lib.hid hb4; have HBEL := Lib.hid hbel; have HSW := Lib.hid hsW
  clear hb2 hb4 hbel hsW
  generalize hga : w.heap.size + 1 = ga at *
  have HGA := Lib.hid hga
  clear hga
  go_upto_region 3 with (go_at_call 15; refine (Of_far A _ d xs W ((HRD.out.below HBEL.out).more HBEL.out.size) hn).mono ?_; rintro e w1 ⟨g, A2, d2, rfl, hg, hrd, hb1⟩
                         have HR1 := Lib.hid hrd; have HL1 := Lib.hid hb1; have HG1 : Hid (w.heap.size + 2 ≤ g ∧ g < w1.heap.size) := Lib.hid ⟨by rw [← HSW.out]; exact hg, hrd.1.1.lt⟩
                         clear hg hrd hb1)
  have HLT : Hid (w.heap.size < ga ∧ ga < g ∧ ga < W.heap.size) := Lib.hid (by have := HGA.out; have := HG1.out; have := HSW.out; omega)
  have HA1 := Lib.hid (HB4.out.below HL1.out HB4.out.lt)
  -- the code
  have HN1 := Lib.hid (ReaderNum_any g A2 xs.length d2 xs 0 0 w1 HR1.out.1 (.inl rfl) HX.out hn (Nat.zero_le _))
  have hok1 : (goNum xs 0 0).2.1 ≤ xs.length ∧ Ok3 (goNum xs 0 0).2.2 := ⟨goNum_le (Nat.zero_le _), goNum_ok3 (.inl rfl)⟩
  obtain ⟨T1, hT1⟩ : ∃ T1, goNum xs 0 0 = T1 := ⟨_, rfl⟩
  rw [hT1] at HN1 hok1
  have HT1 := Lib.hid hT1
  clear hT1
  obtain ⟨cd, p1, y1⟩ := T1
  dsimp only at HN1 hok1
  go_upto_region 4 with (go_at_call 16; refine HN1.out.mono ?_; rintro e w2 ⟨rfl, hr, hg⟩
                         have HR2 := Lib.hid (HR1.out.num hr); have HG2 := Lib.hid (Chg.of_grown hg)
                         have hA2 : Blk w2 ga 27 AM.zero.cells := HA1.out.grown hg (by have := HLT.out; intro e; injection e with e; omega)
                         have z0 := hA2.cell 0
                         have f0 := hA2.free 0
                         have HA2 := Lib.hid hA2
                         clear hr hg hA2)
  have hA3 : Blk (w2.setCell ⟨ga, 0, none⟩ (.int .i64 cd)) ga 27 #[.int .i64 cd, .slice none 0 0, .slice none 0 0] := HA2.out.set 0 (.int .i64 cd)
  have hR3 := HR2.out.set (b := ga) (q := 0) (v := .int .i64 cd) HLT.out.2.2 (by have := HLT.out; omega)
  have hC3 : Chg (fun k => k = ga ∨ k = g) w1 (w2.setCell ⟨ga, 0, none⟩ (.int .i64 cd)) := chg_step (Chg.refl _ _) HG2.out
  generalize w2.setCell ⟨ga, 0, none⟩ (.int .i64 cd) = w3 at *
  have HA3 := Lib.hid hA3; have HR3 := Lib.hid hR3; have HC3 := Lib.hid hC3
  clear hA3 hR3 hC3 z0 f0 HA1 HA2 HN1 HR1 HR2 HG2
  -- the numbers
  have HN2 := Lib.hid (ReaderNums_any g A2 xs.length d2 xs p1 y1 w3 HR3.out.1 hok1.2 HX.out hn hok1.1 10)
  have hok2 := goNums_ok (most := 10) hok1.1 hok1.2
  obtain ⟨T2, hT2⟩ : ∃ T2, goNums xs p1 y1 10 = T2 := ⟨_, rfl⟩
  rw [hT2] at HN2 hok2
  have HT2 := Lib.hid hT2
  clear hT2
  obtain ⟨ids, p2, y2⟩ := T2
  dsimp only at HN2 hok2
  go_upto_region 5 with (go_at_call 17; refine HN2.out.mono ?_; rintro e w5 ⟨ri, rfl, hown, hr, hg⟩
                         obtain ⟨iA, iC, rfl, _⟩ := Rd.of_own hown
                         have HI5 := Lib.hid hown
                         have HR5 := Lib.hid (HR3.out.num hr); have HG5 := Lib.hid (Chg.of_grown hg)
                         have hA5 : Blk w5 ga 27 #[.int .i64 cd, .slice none 0 0, .slice none 0 0] := HA3.out.grown hg (by have := HLT.out; intro e; injection e with e; omega)
                         have z1 := hA5.cell 1
                         have f1 := hA5.free 1
                         have HA5 := Lib.hid hA5
                         clear hr hg hA5 hown)
  have hA6 : Blk (w5.setCell ⟨ga, 1, none⟩ (.slice iA ids.length iC)) ga 27 #[.int .i64 cd, .slice iA ids.length iC, .slice none 0 0] := HA5.out.set 1 (.slice iA ids.length iC)
  have hR6 := HR5.out.set (b := ga) (q := 1) (v := .slice iA ids.length iC) HLT.out.2.2 (by have := HLT.out; omega)
  have hI6 := own_chg HI5.out (Chg.set w5 ga 1 (.slice iA ids.length iC)) (fun q hq e => by have := HLT.out; omega)
  have hC6 : Chg (fun k => k = ga ∨ k = g) w1 (w5.setCell ⟨ga, 1, none⟩ (.slice iA ids.length iC)) := chg_step HC3.out HG5.out
  generalize w5.setCell ⟨ga, 1, none⟩ (.slice iA ids.length iC) = w6 at *
  have HA6 := Lib.hid hA6; have HR6 := Lib.hid hR6; have HC6 := Lib.hid hC6; have HI6 := Lib.hid hI6
  clear hA6 hR6 hC6 hI6 z1 f1 HA3 HA5 HN2 HR3 HR5 HG5 HI5 HC3
  -- how many
  have HN3 := Lib.hid (ReaderNum_any g A2 xs.length d2 xs p2 y2 w6 HR6.out.1 hok2.2 HX.out hn hok2.1)
  have hok3 : (goNum xs p2 y2).2.1 ≤ xs.length ∧ Ok3 (goNum xs p2 y2).2.2 := ⟨goNum_le hok2.1, goNum_ok3 hok2.2⟩
  have hlt3 := goNum_lt xs p2 y2
  obtain ⟨T3, hT3⟩ : ∃ T3, goNum xs p2 y2 = T3 := ⟨_, rfl⟩
  rw [hT3] at HN3 hok3 hlt3
  have HT3 := Lib.hid hT3
  clear hT3
  obtain ⟨mv, p3, y3⟩ := T3
  dsimp only at HN3 hok3 hlt3
  obtain ⟨K, hK⟩ : ∃ K, K = min mv 10 := ⟨_, rfl⟩
  have hmin : min (mv : Int) 10 = (K : Int) := by omega
  have hK10 : K ≤ 10 := by omega
  have HKK := Lib.hid hK
  clear hK
  go_wp2_with (go_at_call 16; refine HN3.out.mono ?_; rintro e w4 ⟨rfl, hr, hg⟩
               have HR4 := Lib.hid (HR6.out.num hr); have HG4 := Lib.hid (Chg.of_grown hg)
               have HA4 : Hid (Blk w4 ga 27 #[.int .i64 cd, .slice iA ids.length iC, .slice none 0 0]) := Lib.hid (HA6.out.grown hg (by have := HLT.out; intro e; injection e with e; omega))
               have HI4 := Lib.hid (own_chg HI6.out HG4.out (fun q hq e => by injection e with e; omega))
               have HC4 := Lib.hid (HC6.out.trans HG4.out (fun _ _ e => .inr (Option.some.inj e).symm))
               clear hr hg)
  clear hmin HN3 HR6 HA6 HI6 HC6 HG4
  go_loopw [17] (fun v17 wr => ∃ (k : Nat) (tA : Option Addr) (tC : Nat), k ≤ K ∧ v17 = .int .i64 k ∧ Hid (Blk wr ga 27 #[.int .i64 cd, .slice iA ids.length iC, .slice tA k tC]) ∧ Hid (wr.ownsRow w4.heap.size 59 5 (.slice tA k tC) k ((rdK xs p3 y3 k).1.flatMap TK.l)) ∧ Hid (RdrF wr W.heap.size g A2 xs.length d2 xs (rdK xs p3 y3 k).2.1 (rdK xs p3 y3 k).2.2) ∧ Hid (Chg (fun k => k = ga ∨ k = g) w4 wr) ∧ Hid (w4.heap.size ≤ wr.heap.size)) (fun i _ => K - (intOf i).toNat)
  case atStart => exact ⟨0, none, 0, Nat.zero_le _, rfl, HA4, Lib.hid (World.ownsRow_nil _ _ _ _), HR4, Lib.hid (Chg.refl _ _), Lib.hid (Nat.le_refl _)⟩
  case round =>
    obtain ⟨k, tA, tC, hk, rfl, hc4, hrow, hrr, hch, hz4⟩ := hrel
    have HLT4 : Hid (g < w4.heap.size) := Lib.hid HR4.out.1.1.lt
    have HLT : Hid ((w.heap.size < ga ∧ ga < g ∧ ga < W.heap.size) ∧ g < w4.heap.size) := Lib.hid ⟨HLT.out, HLT4.out⟩
    by_cases hlt : k < K
    · have hkz : (k : Int) < K := by omega
      have hok := rdK_ok (xs := xs) (p := p3) (why := y3) hok3.1 hok3.2 k
      have HCALL := Lib.hid (took_any g A2 d2 xs (rdK xs p3 y3 k).2.1 (rdK xs p3 y3 k).2.2 wr.drew (hrr.out.chg (Chg.drew (Φ := fun _ => False) wr) id fun _ h => h.elim).1 hok.2 HX.out hn hok.1)
      have HNX : Hid (rdK xs p3 y3 (k + 1) = ((rdK xs p3 y3 k).1 ++ [(tkR xs (rdK xs p3 y3 k).2.1 (rdK xs p3 y3 k).2.2).1], (tkR xs (rdK xs p3 y3 k).2.1 (rdK xs p3 y3 k).2.2).2)) := Lib.hid rfl
      generalize hT : tkR xs (rdK xs p3 y3 k).2.1 (rdK xs p3 y3 k).2.2 = T at *
      clear hT
      have hS0 : wr.drew.cell? ⟨ga, 2, none⟩ = some (.slice tA k tC) := hc4.out.cell 2
      go_upto_region 7 with fail
      refine wp_region_G (fun w' => w'.cell? ⟨ga, 2, none⟩ = some (.slice tA k tC)) 7 (by kernel_rfl) ?_
      refine wpAnyG_take (i := 0) (oi := ⟨some 19, _, _, _, _, _⟩) (v := .pointer (some ⟨ga, 2, none⟩)) rfl (by kernel_rfl) (by kernel_rfl) (by kernel_rfl) (by kernel_rfl) (fun _ _ _ h => h) (Or.inl ⟨by kernel_rfl, ?_⟩) hS0 ?_
      · intro wS hSw
        go_simp
        try rfl
      try simp only [Act.put]
      refine wpAnyG_take (i := 1) (oi := ⟨some 20, _, _, _, _, _⟩) (v := .slice tA k tC) rfl (by kernel_rfl) (by kernel_rfl) (by kernel_rfl) (by kernel_rfl) (fun _ _ _ h => h) (Or.inl ⟨by kernel_rfl, ?_⟩) hS0 ?_
      · intro wS hSw
        go_simp
        try rfl
      try simp only [Act.put]
      refine wpAnyG_take (i := 2) (oi := ⟨some 21, _, _, _, _, _⟩) (v := .pointer (some ⟨g, 0, none⟩)) rfl (by kernel_rfl) (by kernel_rfl) (by kernel_rfl) (by kernel_rfl) (fun _ _ _ h => h) (Or.inl ⟨by kernel_rfl, ?_⟩) hS0 ?_
      · intro wS hSw
        go_simp
        try rfl
      try simp only [Act.put]
      refine wpAnyG_one (i := 3) (o := ⟨some 22, _, _, _, _, _⟩) (by kernel_rfl) rfl (fun K hK => ?_)
      go_simp
      refine HCALL.out.mono ?_
      rintro e w5 ⟨rfl, hr5, hg5⟩
      have HG5 := Lib.hid ((Chg.drew (Φ := fun k => some g = some k) wr).trans (Chg.of_grown hg5) (fun _ _ e => e))
      have HR5 := Lib.hid (hrr.out.num hr5)
      have HC5 := Lib.hid (hc4.out.chg HG5.out (by have := HLT.out; intro e; injection e with e; omega))
      have HO5 := Lib.hid (own_chg hrow.out HG5.out (fun k hk e => by have := HLT.out; injection e with e; omega))
      have hs5 := HG5.out.size
      have hs4 := hch.out.size
      have hS5 : w5.cell? ⟨ga, 2, none⟩ = some (.slice tA k tC) := HC5.out.cell 2
      clear hr5 hg5 hS0 HCALL
      dsimp only
      refine hK.out _ _ (fun _ => hS5) ?_
      clear hK K
      try simp only [Act.put]
      refine wpAnyG_one (i := 4) (o := ⟨some 23, _, _, _, _, _⟩) (by kernel_rfl) rfl (fun K hK => ?_)
      go_simp
      have HC6' := Lib.hid (HC5.out.alloc (.cells T.1.cells 59))
      have HO6 := Lib.hid (HO5.out.alloc (.cells T.1.cells 59))
      have hS6 : (w5.alloc (.cells T.1.cells 59)).cell? ⟨ga, 2, none⟩ = some (.slice tA k tC) := HC6'.out.cell 2
      have HNW : Hid (∀ ad, some (⟨w5.heap.size, 0, none⟩ : Addr) = some ad → ∀ j u, T.1.l[j]? = some u → (w5.alloc (.cells T.1.cells 59)).cell? (ad.add j) = some u) := Lib.hid fun ad e j u hu => by
        rw [← Option.some.inj e, Addr.add_lit, Nat.zero_add, (Blk.fresh w5 59 T.1.cells).cell]
        have : T.1.cells = T.1.l.toArray := rfl
        rw [this, List.getElem?_toArray]
        exact hu
      refine hK.out _ _ (fun _ => hS6) ?_
      clear hK K
      try simp only [Act.put]
      refine wpAnyG_one (i := 5) (o := ⟨some 24, _, _, _, _, _⟩) (by kernel_rfl) rfl (fun K hK => ?_)
      refine step_append_where (o := ⟨some 24, _, _, _, _, _⟩) rfl (.tmp 20) (.tmp 23) 25 rfl w4.heap.size 59 i0 _ 5 64 Tryz.underlying25 hi hz0 hz1 hz2 rfl (by omega) _ k _ rfl HO6.out (some ⟨w5.heap.size, 0, none⟩) 1 1 T.1.l rfl rfl (fun h => by cases h) HNW.out (by intro u hu; unfold TK.l at hu; simp only [List.mem_cons, List.mem_nil_iff, or_false] at hu; rcases hu with rfl | rfl | rfl | rfl | rfl <;> rfl) (by unfold maxLen; omega) (by omega) (by have := hz4.out; simp; omega) ?_
      intro v7 w7 ho7 hg7 hx
      clear hx
      obtain ⟨gb, c7, rfl, hgb, _⟩ := ho7.form (by omega)
      have HO7 := Lib.hid ho7
      have HG7 := Lib.hid (Chg.of_grown hg7)
      have HQ : Hid (∀ q, (Value.slice tA k tC).ownBlock = some q → w4.heap.size ≤ q) := Lib.hid fun q hq => (HO6.out.lt q hq).1
      have HC7 := Lib.hid (HC6'.out.chg HG7.out (fun e => by have := HQ.out _ e; have := HLT.out; omega))
      have HCH7 := Lib.hid (((hch.out.trans HG5.out (fun _ _ e => .inr (Option.some.inj e).symm)).trans (Chg.alloc (Φ := fun _ => False) w5 (.cells T.1.cells 59)) (fun _ _ h => h.elim)).trans HG7.out (fun q hq e => by have := HQ.out _ e; omega))
      have HR7 := Lib.hid ((HR5.out.chg (Chg.alloc (Φ := fun _ => False) w5 (.cells T.1.cells 59)) id fun _ h => h.elim).chg (HG7.out.mono (Ψ := fun k => w4.heap.size ≤ k) fun q _ e => HQ.out q e) (by have := HLT.out; omega) (fun q hq => .inr (by have := HLT.out; omega)))
      have hS7 : w7.cell? ⟨ga, 2, none⟩ = some (.slice tA k tC) := HC7.out.cell 2
      have f7 := HC7.out.free 2
      clear ho7 hg7 HC5 HO5 HO6 HC6' HNW hS5 hS6 HG5 HG7 HR5
      refine hK.out _ _ (fun _ => hS7) ?_
      clear hK K
      try simp only [Act.put]
      refine wpAnyG_one (i := 6) (o := ⟨some 25, _, _, _, _, _⟩) (by kernel_rfl) rfl (fun K hK => ?_)
      go_simp
      refine hK.out _ _ (fun _ => hS7) ?_
      clear hK K
      try simp only [Act.put]
      refine wpAnyG_one (i := 7) (o := ⟨none, _, _, _, _, _⟩) (by kernel_rfl) rfl (fun K hK => ?_)
      go_simp
      refine hK.out _ _ (fun h => absurd h (by decide)) ?_
      clear hK K
      try simp only [Act.put]
      refine wpAnyG_done (by kernel_rfl) ?_ _
      have hc8 : Blk (w7.setCell ⟨ga, 2, none⟩ (.slice (some ⟨gb, 0, none⟩) (k + 1) c7)) ga 27 #[.int .i64 cd, .slice iA ids.length iC, .slice (some ⟨gb, 0, none⟩) (k + 1) c7] := HC7.out.set 2 (.slice (some ⟨gb, 0, none⟩) (k + 1) c7)
      have HC8 := Lib.hid hc8
      have HO8 := Lib.hid (own_chg HO7.out (Chg.set w7 ga 2 (.slice (some ⟨gb, 0, none⟩) (k + 1) c7)) (fun q hq e => by have := HLT.out; omega))
      have HR8 := Lib.hid (HR7.out.set (b := ga) (q := 2) (v := .slice (some ⟨gb, 0, none⟩) (k + 1) c7) HLT.out.1.2.2 (by have := HLT.out; omega))
      have HCH8 := Lib.hid (HCH7.out.trans (Chg.set w7 ga 2 (.slice (some ⟨gb, 0, none⟩) (k + 1) c7)) (fun _ _ e => .inl e))
      clear hc8 hS7 f7 HC7 HO7 HR7 HCH7
      go_wp2_with fail
      go_roundw
      case rel =>
        refine ⟨k + 1, some ⟨gb, 0, none⟩, c7, by omega, by go_num, HC8, ?_, ?_, HCH8, Lib.hid HCH8.out.size⟩
        · rw [HNX.out]
          dsimp only
          rw [List.flatMap_append]
          simpa using HO8
        · rw [HNX.out]
          exact HR8
      case measure => simp [intOf]; omega
    · obtain rfl : k = K := by omega
      have hok := rdK_ok (xs := xs) (p := p3) (why := y3) hok3.1 hok3.2 k
      have hkl := rdK_len xs p3 y3 k
      have HRAW : Hid (R = ⟨cd, ids, mv, (rdK xs p3 y3 k).1, (rdK xs p3 y3 k).2.1, (rdK xs p3 y3 k).2.2⟩) := Lib.hid (HR.out.symm.trans (araw_is HT1.out HT2.out HT3.out HKK.out))
      have hchain : Chg (fun k => k = ga ∨ k = g) w1 wr := HC4.out.trans hch.out (fun _ _ e => e)
      have hbw1 : Below w.heap.size w w1 := HBEL.out.trans (HL1.out.mono HBEL.out.size)
      have hbw : Below w.heap.size w wr := hbw1.trans (hchain.below hbw1.size (fun q e => by have := HLT.out; omega))
      have hI := own_chg HI4.out hch.out (fun q hq e => by have := HLT.out; omega)
      have hz2 : Blk wr w.heap.size 27 AM.zero.cells := (HB2.out.below HL1.out HB2.out.lt).chg hchain (by have := HLT.out; omega)
      obtain ⟨iA', iC', e1, hrdI⟩ := Rd.of_own hI
      obtain ⟨tA', tC', e2, hrdT, _⟩ := KRd.of_own hrow.out hkl
      obtain ⟨rfl, _, rfl⟩ := Value.slice.inj e1
      obtain ⟨rfl, _, rfl⟩ := Value.slice.inj e2
      have HEX := Lib.hid (aexact_any A xs.length d xs g A2 d2 (rdK xs p3 y3 k).2.1 (rdK xs p3 y3 k).2.2 ids (rdK xs p3 y3 k).1 ⟨cd, iA, ids.length, iC, tA, k, tC⟩ wr (HRD.out.later hbw) hrr.out.1 hn hok.1 hok.2 hrdI hrdT HX.out)
      have HOI := Lib.hid hI; have HOT := hrow; have HZ2 := Lib.hid hz2; have HBW := Lib.hid hbw
      have c0 := hc4.out.cell 0
      have c1 := hc4.out.cell 1
      have c2 := hc4.out.cell 2
      simp at c0 c1 c2
      have HKL := Lib.hid hkl
      clear hkl hchain hbw1 hbw hI hz2 e1 e2 hrdI hrdT hok hrow hch hrr hc4 HI4 HC4 HA4 HR4
      generalize (rdK xs p3 y3 k).2.1 = p at *
      generalize (rdK xs p3 y3 k).2.2 = why at *
      generalize (rdK xs p3 y3 k).1 = tks at *
      unfold AM.cells at HEX
      go_wp2_with (go_at_call 19; refine HEX.out.mono ?_; rintro e w8 ⟨a8, er, rfl, hb8, hpost⟩
                   have HPOST := Lib.hid hpost
                   have HOI8 := Lib.hid (own_below HOI.out hb8); have HOT8 := Lib.hid (own_below HOT.out hb8)
                   have hz8 := HZ2.out.below hb8 HZ2.out.lt
                   have HB8 := Lib.hid (HBW.out.trans (hb8.mono HBW.out.size))
                   have g0 := hz8.cell 0
                   have g1 := hz8.cell 1
                   have g2 := hz8.cell 2
                   have f0 := hz8.free 0
                   have f1 := hz8.free 1
                   have f2 := hz8.free 2
                   have HZ8 := Lib.hid hz8
                   unfold AM.zero AM.cells at g0 g1 g2
                   simp at g0 g1 g2
                   clear hb8 hpost hz8)
      have k1 := HZ8.out.set 0 (.int .i64 a8.cd)
      have k2 := k1.set 1 (.slice a8.iA a8.iN a8.iC)
      have k3 : Blk (((w8.setCell ⟨w.heap.size, 0, none⟩ (.int .i64 a8.cd)).setCell ⟨w.heap.size, 1, none⟩ (.slice a8.iA a8.iN a8.iC)).setCell ⟨w.heap.size, 2, none⟩ (.slice a8.tA a8.tN a8.tC)) w.heap.size 27 a8.cells := k2.set 2 (.slice a8.tA a8.tN a8.tC)
      refine bodyPost_ret (v := .tuple #[.agg a8.cells, er]) ?_ rfl ?_
      · refine Eq.trans (results_cell_row_tmp (p := 2) (u := 3) Tryz.results5 _ _ w.heap.size 27 a8.cells (0, 0) _ ?_ k3 Tryz.underlying27 rfl (AM.info a8)) ?_
        · rfl
        · rfl
      · refine ⟨a8, er, rfl, ((HB8.out.setCell (Nat.le_refl _) _).setCell (Nat.le_refl _) _).setCell (Nat.le_refl _) _, ?_⟩
        have hoi := own_chg (own_chg (own_chg HOI8.out (Chg.set w8 w.heap.size 0 (.int .i64 a8.cd)) (fun q hq e => by have := HLT.out; omega)) (Chg.set _ w.heap.size 1 (.slice a8.iA a8.iN a8.iC)) (fun q hq e => by have := HLT.out; omega)) (Chg.set _ w.heap.size 2 (.slice a8.tA a8.tN a8.tC)) (fun q hq e => by have := HLT.out; omega)
        have hot := own_chg (own_chg (own_chg HOT8.out (Chg.set w8 w.heap.size 0 (.int .i64 a8.cd)) (fun q hq e => by have := HLT.out; omega)) (Chg.set _ w.heap.size 1 (.slice a8.iA a8.iN a8.iC)) (fun q hq e => by have := HLT.out; omega)) (Chg.set _ w.heap.size 2 (.slice a8.tA a8.tN a8.tC)) (fun q hq e => by have := HLT.out; omega)
        unfold APost
        rw [HRAW.out]
        dsimp only
        rcases HPOST.out with ⟨n1, n2, n3⟩ | ⟨n1, rfl, rfl⟩
        · exact .inl ⟨n1, n2, ((n3.ans HZ8.out).ans k1).ans k2⟩
        · refine .inr ⟨n1, rfl, rfl, ?_, ?_⟩
          · obtain ⟨iA', iC', e1, hrdI⟩ := Rd.of_own hoi
            obtain ⟨rfl, _, rfl⟩ := Value.slice.inj e1
            exact hrdI
          · obtain ⟨tA', tC', e2, hrdT, _⟩ := KRd.of_own hot HKL.out
            obtain ⟨rfl, _, rfl⟩ := Value.slice.inj e2
            exact hrdT
end Go.Proofs.YtkdncnhjlgidnaaGreatDoor
