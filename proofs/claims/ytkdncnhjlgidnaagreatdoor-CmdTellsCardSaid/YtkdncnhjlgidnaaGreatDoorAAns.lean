/- What is proved here: an answer as the document has it: the same code, numbers and messages. -/
import Derived.Test.YtkdncnhjlgidnaaGreatDoorASame
namespace Go.Proofs.YtkdncnhjlgidnaaGreatDoor
open Go Go.RowKit Go.Maps

theorem info_rtk : (Tryz.prog.info? 68).map (fun i => (i.zero, i.size, i.bytes)) = some (some (.agg TK.zero.cells), 5, 64) := by kernel_rfl
theorem info_ref_ans : (Tryz.prog.info? 34).map (·.size) = some 3 := by kernel_rfl
theorem news_k (w : World) (x : TK) (t : TypeId) : ∀ ad, some (⟨w.heap.size, 0, none⟩ : Addr) = some ad → ∀ j u, x.l[j]? = some u → (w.alloc (.cells x.cells t)).cell? (ad.add j) = some u := fun ad e j u hu => by
  rw [← Option.some.inj e, Addr.add_lit, Nat.zero_add, (Blk.fresh w t x.cells).cell]
  have : x.cells = x.l.toArray := rfl
  rw [this, List.getElem?_toArray]
  exact hu
theorem ones_k (x : TK) : ∀ u ∈ x.l, u.oneCell' = true := by
  intro u hu
  unfold TK.l at hu
  simp only [List.mem_cons, List.mem_nil_iff, or_false] at hu
  rcases hu with rfl | rfl | rfl | rfl | rfl <;> rfl

set_option maxHeartbeats 6400000 in
set_option maxRecDepth 100000 in
theorem RefAns_any (a : AM) (T : List TK) (w : World) (hT : KRd w w.heap.size a.tA a.tN a.tC T) (ht : a.tN ≤ 1000) :
    Calls Tryz.prog 9 #[.agg a.cells] w fun e w' => ∃ (tA : Option Addr) (tC : Nat), e = .returned (.agg (AM.mk a.cd a.iA a.iN a.iC tA a.tN tC).cells) ∧ Below w.heap.size w w' ∧ KRd w' w'.heap.size tA a.tN tC T := by
  obtain ⟨i0, hi, hz⟩ := Option.map_eq_some_iff.1 info_rtk
  simp only [Prod.mk.injEq] at hz
  obtain ⟨hz0, hz1, hz2⟩ := hz
  have hlen := hT.len
  have HT := Lib.hid hT; have HLEN := Lib.hid hlen
  clear hT hlen
  unfold AM.cells
  dsimp only
  generalize a.cd = cd at *
  generalize a.iA = iA at *
  generalize a.iN = iN at *
  generalize a.iC = iC at *
  generalize a.tA = tA at *
  generalize a.tN = tN at *
  generalize a.tC = tC at *
  go_enter Tryz.func9, Tryz.ntmps9
  go_upto_region 2 with fail
  obtain ⟨k0, k1, k2, kb⟩ := three_blocks w #[.int .i64 cd, .slice iA iN iC, .slice tA tN tC] #[.int .i64 0, .slice none 0 0, .slice none 0 0] #[.int .i64 cd, .slice iA iN iC, .slice none 0 0] 27 34 34
  change Code.wp _ _ _ _ (((w.alloc (.cells #[.int .i64 cd, .slice iA iN iC, .slice tA tN tC] 27)).alloc (.cells #[.int .i64 0, .slice none 0 0, .slice none 0 0] 34)).alloc (.cells #[.int .i64 cd, .slice iA iN iC, .slice none 0 0] 34))
  generalize ((w.alloc (.cells #[.int .i64 cd, .slice iA iN iC, .slice tA tN tC] 27)).alloc (.cells #[.int .i64 0, .slice none 0 0, .slice none 0 0] 34)).alloc (.cells #[.int .i64 cd, .slice iA iN iC, .slice none 0 0] 34) = W at *
  generalize hga : w.heap.size + 1 = ga at *
  generalize hgc : ga + 1 = gc at *
  have y2 := k0.cell 2
  simp at y2
  have HK0 := Lib.hid k0; have HK1 := Lib.hid k1; have HK2 := Lib.hid k2; have HB := Lib.hid kb; have HG := Lib.hid (And.intro hga hgc)
  clear k0 k1 k2 kb hga hgc
  go_wp2_with fail
  go_loopw [14] (fun v14 wr => ∃ (j : Nat) (uA : Option Addr) (uC : Nat), j ≤ tN ∧ v14 = .int .i64 j ∧ Hid (Blk wr gc 34 #[.int .i64 cd, .slice iA iN iC, .slice uA j uC]) ∧ Hid (wr.ownsRow W.heap.size 68 5 (.slice uA j uC) j ((T.take j).flatMap TK.l)) ∧ Hid (Chg (fun k => k = gc) W wr)) (fun i _ => tN - (intOf i).toNat)
  case atStart => exact ⟨0, none, 0, by omega, rfl, HK2, Lib.hid (World.ownsRow_nil _ _ _ _), Lib.hid (Chg.refl _ _)⟩
  case round =>
    obtain ⟨j, uA, uC, hj, rfl, hk, hown, hch⟩ := hrel
    have HLT : Hid (gc < W.heap.size ∧ w.heap.size < ga ∧ ga < gc) := Lib.hid ⟨HK2.out.lt, by have := HG.out; omega, by have := HG.out; omega⟩
    have hbw : Below w.heap.size w wr := HB.out.trans (hch.out.below HB.out.size (fun q e => by have := HLT.out; omega))
    by_cases hlt : j < tN
    · have hjz : (j : Int) < tN := by omega
      have hjl : j < T.length := by rw [HLEN.out]; exact hlt
      obtain ⟨b, o, hbo, _, c0, c1, c2, c3, c4⟩ := (HT.out.below hbw).cell hlt
      have HNX : Hid ((T.take (j + 1)).flatMap TK.l = (T.take j).flatMap TK.l ++ (T.getD j TK.zero).l) := Lib.hid (by
        rw [List.take_succ_eq_append_getElem hjl, List.flatMap_append, List.getD_eq_getElem?_getD, List.getElem?_eq_getElem hjl, Option.getD_some]
        simp)
      have w3 : IntKind.i64.wrap ((j : Int) + 1) = j + 1 := IntWalk.i64_in _ (by omega)
      generalize hX : T.getD j TK.zero = x at *
      obtain ⟨x0, x1, x2, x3, x4⟩ := x
      dsimp only at c0 c1 c2 c3 c4
      clear hX hjl
      subst hbo
      go_upto_region 5 with fail
      have hx0 : Blk (wr.alloc (.cells (TK.mk x0 x1 x2 x3 x4).cells 59)) wr.heap.size 59 #[.int .i64 x0, .int .i64 x1, .string x2, .string x3, .string x4] := Blk.fresh _ _ _
      have hk2 := hk.out.alloc (.cells (TK.mk x0 x1 x2 x3 x4).cells 59)
      have ho2 := hown.out.alloc (.cells (TK.mk x0 x1 x2 x3 x4).cells 59)
      have hc2 : Chg (fun k => k = gc) W (wr.alloc (.cells (TK.mk x0 x1 x2 x3 x4).cells 59)) := hch.out.trans (Chg.alloc (Φ := fun _ => False) wr _) (fun _ _ h => h.elim)
      change Code.wp _ _ _ _ (wr.alloc (.cells (TK.mk x0 x1 x2 x3 x4).cells 59))
      generalize wr.alloc (.cells (TK.mk x0 x1 x2 x3 x4).cells 59) = w2 at *
      generalize wr.heap.size = gx at *
      have z0 := hx0.cell 0
      have z1 := hx0.cell 1
      have z2 := hx0.cell 2
      have z3 := hx0.cell 3
      have z4 := hx0.cell 4
      have q2 := hk2.cell 2
      simp at z0 z1 z2 z3 z4 q2
      have HK := Lib.hid hk2; have HO := Lib.hid ho2; have HC := Lib.hid hc2
      clear hx0 hk2 ho2 hc2 hk hown hch hbw c0 c1 c2 c3 c4
      go_wp2_with (at_builtin
                   refine wpList_append_src rfl (.tmp 19) (.tmp 31) 32 rfl W.heap.size 68 i0 _ 5 64 Tryz.underlying32 hi hz0 hz1 hz2 rfl (by omega) (.slice uA j uC) j _ rfl (HO.out.alloc _) (some ⟨w2.heap.size, 0, none⟩) 1 1 (TK.mk x0 x1 x2 x3 x4).l rfl rfl (fun h => by cases h) (news_k w2 ⟨x0, x1, x2, x3, x4⟩ _) (ones_k _) (by unfold maxLen; omega) (by omega) (by have := HC.out.size; simp; omega) ?_
                   intro v7 w7 ho7 hg7
                   have HQ : Hid (∀ q, (Value.slice uA j uC).ownBlock = some q → W.heap.size ≤ q) := Lib.hid fun q hq => (HO.out.lt q hq).1
                   have hk7 := (HK.out.alloc (.cells (TK.mk x0 x1 x2 x3 x4).cells 68)).chg (Chg.of_grown hg7) (fun e => by have := HQ.out _ e; have := HLT.out; omega)
                   have HC7 := Lib.hid ((HC.out.trans (Chg.alloc (Φ := fun _ => False) w2 (.cells (TK.mk x0 x1 x2 x3 x4).cells 68)) (fun _ _ h => h.elim)).trans (Chg.of_grown hg7) (fun q hq e => by have := HQ.out _ e; omega))
                   obtain ⟨g7, c7, rfl, hgb, _⟩ := ho7.form (by omega)
                   have HO7 := Lib.hid ho7; have HK7 := Lib.hid hk7
                   have q7 := hk7.cell 2
                   have f7 := hk7.free 2
                   simp at q7
                   clear ho7 hg7 hk7 hgb)
      go_roundw
      case rel =>
        refine ⟨j + 1, some ⟨g7, 0, none⟩, c7, by omega, by go_num, Lib.hid (HK7.out.set 2 (.slice (some ⟨g7, 0, none⟩) (j + 1) c7)), ?_, Lib.hid (HC7.out.trans (Chg.set w7 gc 2 (.slice (some ⟨g7, 0, none⟩) (j + 1) c7)) (fun _ _ e => e))⟩
        rw [HNX.out]
        exact Lib.hid (own_chg HO7.out (Chg.set w7 gc 2 (.slice (some ⟨g7, 0, none⟩) (j + 1) c7)) (fun q hq e => by have := HLT.out; omega))
      case measure => simp [intOf]; omega
    · have hje : j = tN := by omega
      have hd0 : ¬ (j : Int) < tN := by omega
      have hown2 : wr.ownsRow W.heap.size 68 5 (.slice uA tN uC) tN (T.flatMap TK.l) := by
        have h := hown.out
        rw [hje, ← HLEN.out, List.take_length] at h
        rw [← HLEN.out]
        exact h
      have hk3 : Blk wr gc 34 #[.int .i64 cd, .slice iA iN iC, .slice uA tN uC] := by rw [← hje]; exact hk.out
      have hz3 : Blk wr ga 34 #[.int .i64 0, .slice none 0 0, .slice none 0 0] := HK1.out.chg hch.out (by have := HLT.out; omega)
      have q0 := hk3.cell 0
      have q1 := hk3.cell 1
      have q2 := hk3.cell 2
      have r0 := hz3.cell 0
      have r1 := hz3.cell 1
      have r2 := hz3.cell 2
      have f0 := hz3.free 0
      have f1 := hz3.free 1
      have f2 := hz3.free 2
      simp at q0 q1 q2 r0 r1 r2
      have HZ3 := Lib.hid hz3; have HO3 := Lib.hid hown2; have HBW := Lib.hid hbw
      clear hz3 hk3 hown2 hk hown hch hbw hje
      go_wp2_with fail
      have k1 := HZ3.out.set 0 (.int .i64 cd)
      have k2 := k1.set 1 (.slice iA iN iC)
      have k3 : Blk (((wr.setCell ⟨ga, 0, none⟩ (.int .i64 cd)).setCell ⟨ga, 1, none⟩ (.slice iA iN iC)).setCell ⟨ga, 2, none⟩ (.slice uA tN uC)) ga 34 #[.int .i64 cd, .slice iA iN iC, .slice uA tN uC] := k2.set 2 (.slice uA tN uC)
      refine bodyPost_ret (v := .agg #[.int .i64 cd, .slice iA iN iC, .slice uA tN uC]) ?_ rfl ?_
      · exact results_cell_row (p := 2) Tryz.results9 _ _ ga 34 #[.int .i64 cd, .slice iA iN iC, .slice uA tN uC] (0, 0) _ rfl k3 Tryz.underlying34 rfl info_ref_ans
      · have hl : ∀ q, W.heap.size ≤ q → ¬ q = ga := fun q hq e => by have := HLT.out; omega
        have hot := own_chg (own_chg (own_chg HO3.out (Chg.set wr ga 0 (.int .i64 cd)) hl) (Chg.set _ ga 1 (.slice iA iN iC)) hl) (Chg.set _ ga 2 (.slice uA tN uC)) hl
        obtain ⟨tA', tC', e2, hrdT, _⟩ := KRd.of_own hot HLEN.out
        obtain ⟨rfl, _, rfl⟩ := Value.slice.inj e2
        exact ⟨uA, uC, rfl, ((HBW.out.setCell (by have := HLT.out; show _ ≤ ga; omega) _).setCell (by have := HLT.out; show _ ≤ ga; omega) _).setCell (by have := HLT.out; show _ ≤ ga; omega) _, hrdT⟩
end Go.Proofs.YtkdncnhjlgidnaaGreatDoor
