/- What is proved here: what Add does with a thing that is not there. -/
/- What is proved here: what the closure in Drop answers; what slices.DeleteFunc does with a group's row; what 'leave' does. -/
/- What is proved here: what Drop does. -/
import Derived.Test.YtdjieapobodakaaGreatDoorPEx8
import Derived.Outline
import Derived.Test.YtdjieapobodakaaGreatDoorLib
import Derived.Sort.OwnSortedInts
import Derived.BigRegion
section
namespace Go.Proofs.YtdjieapobodakaaGreatDoor.Lan
open Go Go.RowKit Go.Maps Go.WideMaps
set_option maxRecDepth 100000

theorem three_set2 {w : World} {b : Nat} {x y z : Value} {t : TypeId} (h : w.heap[b]? = some (.cells #[x, y, z] t (0, 0))) (u : Value) : (w.setCell ⟨b, 2, none⟩ u).heap[b]? = some (.cells #[x, y, u] t (0, 0)) := heap_setCell_same h 2 u

set_option maxHeartbeats 1600000 in
set_option maxRecDepth 100000 in
theorem Add_new {w : World} {l N : Nat} {L : List Th} {Φ : Nat → Prop} (h : LaneAt w l L N Φ) (hN : N < 900000) {s : ByteArray} (hs : s.size ≤ maxLen) {k : Int} (hk : wfk k) (hx : at_ L k = none) (hLn : L.length < 900000) :
    Calls Tryz.prog 66 #[.pointer (some ⟨l, 0, none⟩), .string s, .int .i64 k] w fun e w' => e = .returned (.bool true) ∧ LaneAt w' l (L ++ [⟨s, k, N + 1⟩]) (N + 1) (more Φ w) ∧ Chg Φ w w' := by
  obtain ⟨gm, pm, Ng, fg, fp, h⟩ := h
  obtain ⟨c0, c1, c2, f0, f1, f2⟩ := three_cells h.blk
  have hlk := h.place hk
  have hll := lt_of_block h.blk
  rw [hx] at hlk
  have hlk' : (Instr.lookup 120 (.map (some pm)) (.int .i64 k) true).run Tryz.prog w = .ok (.tuple #[.agg #[.string ⟨#[]⟩, .int .i64 0], .bool false]) w := hlk
  have hN' : (N : Int) < 900000 := by omega
  obtain ⟨W2, hW2⟩ : ∃ W2, W2 = (w.setCell ⟨l, 2, none⟩ (.int .i64 ((N : Int) + 1))).alloc (.cells #[.string ⟨#[]⟩, .int .i64 0] 126) := ⟨_, rfl⟩
  have cg2 : Chg (fun i => i = l) w W2 := by rw [hW2]; exact (Chg.set w l 2 _).trans (Chg.alloc (Φ := fun _ => False) _ _) fun _ _ e => e.elim
  have b2 : W2.heap[l]? = some (.cells #[.map (some gm), .map (some pm), .int .i64 ((N : Int) + 1)] 122 (0, 0)) := by
    rw [hW2]
    exact (Chg.alloc (Φ := fun _ => False) _ _).heap (three_set2 h.blk _) id
  have hpv : placeV ⟨s, k, N + 1⟩ = .agg #[.string s, .int .i64 ((N : Int) + 1)] := by simp [placeV]
  -- the place
  have hp2 : MapV Tryz.prog 3 W2.drew pm L.length fp := (h.plc.keep cg2 fun e => h.l_pm e.symm).keep (Chg.drew (Φ := fun _ => False) _) id
  have hfp : fp (.int .i64 k) = none := by rw [h.pl, hx]; rfl
  obtain ⟨w3, hr3, m3, cg3⟩ := hp2.put keyed_int Tryz.underlying120 (by unfold maxLen; omega) (key_int hk) (placeV ⟨s, k, N + 1⟩)
  rw [hfp] at m3
  rw [hpv] at hr3
  have cg3' : Chg (fun i => i = pm) W2 w3 := (Chg.drew (Φ := fun i => i = pm) W2).trans cg3 fun _ _ e => e
  have b3 := cg3'.heap b2 fun e => h.l_pm e
  -- the group
  obtain ⟨hown, hrow, _, A, c, hv, hc1, hc2, hA⟩ := h.row hs
  have cg23 : Chg (fun i => i = l ∨ i = pm) w w3 := (cg2.mono fun i _ e => .inl e).trans cg3' fun i _ e => .inr e
  have hown3 : w3.ownsRow 0 3 1 (rowOf fg s) (ofG L s).length ((ofG L s).map (Value.int .i64)) := cg23.own hown fun g hg e => by
    rcases e with e | e
    · exact (hrow g hg).2.1 e
    · exact (hrow g hg).2.2.2 e
  have hg3 : MapV Tryz.prog 9 w3 gm Ng fg := h.grp.keep cg23 fun e => by
    rcases e with e | e
    · exact h.l_gm e.symm
    · exact h.ne e
  have hlg : (Instr.lookup 119 (.map (some gm)) (.string s) false).run Tryz.prog w3.drew = .ok (rowOf fg s) w3.drew := (hg3.keep (Chg.drew (Φ := fun _ => False) _) id).look keyed_str Tryz.underlying119 (zero_row _) (key_str hs)
  have hlg2 : (Instr.lookup 119 (.map (some gm)) (.string s) false).run Tryz.prog (w3.alloc (.cells #[.int .i64 k] 3)).drew = .ok (rowOf fg s) (w3.alloc (.cells #[.int .i64 k] 3)).drew := ((hg3.keep (Chg.drew (Φ := fun _ => False) _) id).keep (Chg.alloc (Φ := fun _ => False) _ _) id).look keyed_str Tryz.underlying119 (zero_row _) (key_str hs)
  have hgl : (ofG L s).length ≤ L.length := ofG_length L s
  have hz3 : w.heap.size ≤ w3.heap.size := cg23.size
  have HAP : Hid (∀ v2 w4, w4.ownsRow 0 3 1 v2 ((ofG L s).length + 1) ((ofG L s).map (Value.int .i64) ++ [.int .i64 k]) → (w3.drew.alloc (.cells #[.int .i64 k] 3)).grownBy w4 (rowOf fg s).ownBlock → (v2.ownBlock = (rowOf fg s).ownBlock ∨ v2.ownBlock = some (w3.drew.alloc (.cells #[.int .i64 k] 3)).heap.size) →
      ∃ rb cap w5, v2 = .slice (some ⟨rb, 0, none⟩) ((ofG L s).length + 1) cap ∧ w4.cell? ⟨l, 0, none⟩ = some (.map (some gm)) ∧ (Instr.mapUpdate 119 (.map (some gm)) (.string s) (.slice (some ⟨rb, 0, none⟩) ((ofG L s).length + 1) cap)).run Tryz.prog w4 = .ok () w5 ∧
        Hid (LaneAt w5 l (L ++ [⟨s, k, N + 1⟩]) (N + 1) (more Φ w) ∧ Chg Φ w w5)) := Lib.hid (by
    intro v2 w4 ho4 hg4 hv4
    obtain ⟨rb, cap, rfl, _, hrl⟩ := ho4.form (by omega)
    have cg4 : Chg (fun i => (rowOf fg s).ownBlock = some i) w3 w4 := ((Chg.drew (Φ := fun i => (rowOf fg s).ownBlock = some i) w3).trans (Chg.alloc (Φ := fun _ => False) _ _) fun _ _ e => e.elim).trans (Chg.of_grown hg4) fun _ _ e => e
    have hg4 : MapV Tryz.prog 9 w4 gm Ng fg := hg3.keep cg4 fun e => (hrow gm e).2.2.1 rfl
    have hNg := h.ng
    obtain ⟨w5, hr5, m5, cg5⟩ := hg4.put keyed_str Tryz.underlying119 (by unfold maxLen; omega) (key_str hs) (.slice (some ⟨rb, 0, none⟩) ((ofG L s).length + 1) cap)
    obtain ⟨r1, r2⟩ := add_fin h hs hk hx cg2 b2 cg3' (by simpa using m3) cg4 ho4 (hv4.imp id fun e => ⟨_, e, by simp; omega⟩) cg5 m5
    exact ⟨rb, cap, w5, rfl, (three_cells (cg4.heap b3 fun e => (hrow l e).2.1 rfl)).1, hr5, Lib.hid ⟨⟨_, _, _, _, _, r1⟩, r2⟩⟩)
  rw [hv] at hlg hlg2 hown3 HAP
  obtain ⟨i0, hi, hz0, hz1, hz2⟩ := info_parts info_int
  have HOWN := Lib.hid hown3
  have HW2 := Lib.hid hW2
  obtain ⟨e0, e1, e2, _⟩ := three_cells b2
  obtain ⟨g0, g1, g2, _⟩ := three_cells b3
  have hl3 := lt_of_block b3
  unfold maxLen at hc1
  clear h hlk hp2 hfp m3 cg2 cg3 cg3' b2 b3 hown hrow hown3 hg3 cg23 hW2 hpv hv hA
  generalize (ofG L s).length = n at *
  generalize (ofG L s).map (Value.int .i64) = xs at *
  go_enter Tryz.func66, Tryz.ntmps66
  go_wp2_with fail
  rw [← HW2.out]
  go_still_tail 11, (by kernel_rfl)
  change wpList _ _ _ _ _ W2.drew
  go_wp2_with fail
  clear hr3 e0 e1 e2 c0 c1 c2 f0 f1 f2 hlk'
  go_region_law (refine step_append_where (o := ⟨some 50, _, _, _, _, _⟩) rfl (.tmp 47) (.tmp 49) 48 rfl 0 3 i0 _ 1 8 Tryz.underlying48 hi hz0 hz1 hz2 rfl (by omega) _ n _ rfl ((HOWN.out.drew).alloc _) (some ⟨w3.heap.size, 0, none⟩) 1 1 [.int .i64 k] rfl rfl (fun e => by cases e) (news_new w3.drew _ _) (one_cell _ _) (by unfold maxLen; omega) (by omega) (Nat.zero_le _) ?_; intro v2 w4 ho4 hg4 hv4; obtain ⟨rb, cap, w5, rfl, k0, hm5, HX⟩ := HAP.out v2 w4 ho4 hg4 hv4; clear ho4 hg4 hv4)
  all_goals
    go_wp2_with fail
    go_ret
    exact ⟨rfl, HX.out⟩
end Go.Proofs.YtdjieapobodakaaGreatDoor.Lan
end

section
namespace Go.Proofs.YtdjieapobodakaaGreatDoor.Lan
open Go Go.RowKit Go.Maps Go.WideMaps Go.Shelf Go.Lib Go.Sort
set_option maxRecDepth 100000

/-- The closure in Drop, in whatever world holds the number in its box. -/
theorem closure_gives (k x : Int) (B : Nat) (W : World) (hc : W.cell? ⟨B, 0, none⟩ = some (.int .i64 k)) :
    FnGives Tryz.prog 105 #[.pointer (some ⟨B, 0, none⟩)] #[.int .i64 x] (.bool (x == k)) W := by
  show Calls Tryz.prog 105 #[.int .i64 x, .pointer (some ⟨B, 0, none⟩)] W _
  go_enter Tryz.func105, Tryz.ntmps105
  go_wp2
  go_ret
  exact ⟨rfl, 0, rfl⟩
theorem zero_int (w : World) : (zeroValue 3).run Tryz.prog w = .ok (.int .i64 0) w := by kernel_rfl

/-- What goes out of a row. -/
def outI (xs : List Int) (k : Int) : List Int := xs.filter fun x => !(x == k)
theorem delFunc_any {w : World} {rb cap B : Nat} {xs : List Int} {k : Int} (ho : w.ownsRow 0 3 1 (.slice (some ⟨rb, 0, none⟩) xs.length cap) xs.length (xs.map (Value.int .i64))) (hB : B < w.heap.size) (hBr : B ≠ rb) (hc : w.cell? ⟨B, 0, none⟩ = some (.int .i64 k)) :
    Calls Tryz.prog 147 #[.slice (some ⟨rb, 0, none⟩) xs.length cap, .func (.func 105) #[] #[.pointer (some ⟨B, 0, none⟩)]] w fun e w' =>
      e = .returned (.slice (some ⟨rb, 0, none⟩) (outI xs k).length cap) ∧ w'.ownsRow 0 3 1 (.slice (some ⟨rb, 0, none⟩) (outI xs k).length cap) (outI xs k).length ((outI xs k).map (Value.int .i64)) ∧ Chg (fun i => i = rb) w w' := by
  obtain ⟨cur, hb, hle, hm⟩ := own_cells ho
  unfold maxLen at hm
  have hct : cur.size = cap * 1 ∧ cur.toList.take xs.length = xs.map (Value.int .i64) := by
    rcases ho.2 with ⟨e1, _⟩ | ⟨g, cap', cur', e1, _, hg, _, _, h3, h4⟩
    · cases e1
    · cases e1
      rw [hb] at hg
      cases hg
      exact ⟨h3, by simpa using h4⟩
  have hH : Holds (Value.int .i64) w rb 0 xs.toArray := holds_of_blockI hb hct.2
  have eg : ∀ args w, (callFunc 105 args).run Tryz.prog w = .ok (.enter 105 args) w := enters_of Tryz.func105 (by kernel_rfl) rfl
  have hcon := AnyE.slices_DeleteFunc Tryz.delFunc (Value.int .i64) (fun _ => rfl) (fun x => x == k) 105 #[.pointer (some ⟨B, 0, none⟩)] eg 0 zero_int rb 0 cap xs.toArray w
    (fun W x hb => closure_gives k x B W ((hb.cell (p := ⟨B, 0, none⟩) hB).trans hc))
    (fun n os dk x _ => closure_gives k x B _ (by
      unfold sortWorld
      rw [cell?_grow _ _ _ (by show B < (putRow _ _ _ _ _).heap.size; rw [size_putRow]; exact hB), cell?_putRow_other _ _ rb 0 _ _ (Or.inl hBr)]
      exact hc)) hH (by simp; omega) (by simpa using hle)
  rw [List.size_toArray] at hcon
  change Calls Tryz.prog 147 _ _ _ at hcon
  refine hcon.mono ?_
  rintro e w' ⟨rfl, q, hw⟩
  have hfl : (outI xs k).length ≤ xs.length := List.length_filter_le _ _
  have hl : ((outI xs k) ++ List.replicate (xs.length - (outI xs k).length) (0 : Int)).length = xs.length := by simp; omega
  have hw2 : w' = grow (putRow (Value.int .i64) (Sort.ahead w q) rb 0 ((outI xs k) ++ List.replicate (xs.length - (outI xs k).length) (0 : Int)).toArray) #[] := by
    rw [grow_empty]
    exact hw
  refine ⟨rfl, ?_, ?_⟩
  · have h1 := ownsRow_sortedI (n := q) (os := #[]) (base := 0) (ts := (outI xs k) ++ List.replicate (xs.length - (outI xs k).length) (0 : Int)) hl (Nat.zero_le _) hb hle (by unfold maxLen; omega) hct.1
    rw [← hw2, List.map_append] at h1
    have h2 : xs.length = (outI xs k).length + (xs.length - (outI xs k).length) := by omega
    rw [h2] at h1
    exact own_less h1 (by simp)
  · rw [hw2]
    exact (Chg.of_grown (grownBy_sortedI _)).mono fun i _ e => (Option.some.inj e).symm

/-- 'delete(m, k)', by what its run gives. -/
theorem wpList_delete_run {P : Program} {w : World} {ops : Array Oper} {rest : List Oper} {o : Oper} {a : Act} {Q : Exit → Act → World → Prop} (hgd : o.guard = none) (m x : Operand) (t k : TypeId) (hop : o.op = .call { callee := .builtin .delete, args := #[m, x], argTypes := #[t, k] })
    (vm vx : Value) (hm : a.eval m = vm) (hx : a.eval x = vx) {v : Value} {w' : World} (hrun : (Builtin.delete_ #[t, k] o.type #[vm, vx]).run P w = .ok v w') (h : wpList P ops Q rest (a.put o.dst v) w') : wpList P ops Q (o :: rest) a w := by
  refine wpList_plain hgd fun K' hK' => ?_
  unfold Oper.wp
  simp [execOp, hop, resolve, invoke, builtin, hm, hx, hrun, Result.andThen]
  exact hK' _ _ h

/-- What 'leave' leaves. -/
def LeaveSaid (gm rb cap Ng : Nat) (fg : Lit → Option Value) (s : ByteArray) (xs : List Int) (k : Int) (w : World) (e : Ending) (w' : World) : Prop :=
  e = .returned (.tuple #[]) ∧ Chg (fun i => i = rb ∨ i = gm) w w' ∧ ((outI xs k = [] ∧ MapV Tryz.prog 9 w' gm (Ng - 1) (delV fg (strK s))) ∨
    (outI xs k ≠ [] ∧ MapV Tryz.prog 9 w' gm Ng (putV fg (strK s) (.slice (some ⟨rb, 0, none⟩) (outI xs k).length cap)) ∧ w'.ownsRow 0 3 1 (.slice (some ⟨rb, 0, none⟩) (outI xs k).length cap) (outI xs k).length ((outI xs k).map (Value.int .i64))))
set_option maxHeartbeats 800000 in
theorem leave_any {w : World} {l gm pm Ng rb cap B : Nat} {z : Value} {fg : Lit → Option Value} {s : ByteArray} {xs : List Int} {k : Int} (hb : w.heap[l]? = some (.cells #[.map (some gm), .map (some pm), z] 122 (0, 0)))
    (hg : MapV Tryz.prog 9 w gm Ng fg) (hNg : Ng < 1000000) (hs : s.size ≤ maxLen) (hv : fg (strK s) = some (.slice (some ⟨rb, 0, none⟩) xs.length cap)) (ho : w.ownsRow 0 3 1 (.slice (some ⟨rb, 0, none⟩) xs.length cap) xs.length (xs.map (Value.int .i64)))
    (hB : B < w.heap.size) (hBr : B ≠ rb) (hlr : l ≠ rb) (hc : w.cell? ⟨B, 0, none⟩ = some (.int .i64 k)) :
    Calls Tryz.prog 104 #[.pointer (some ⟨l, 0, none⟩), .string s, .func (.func 105) #[] #[.pointer (some ⟨B, 0, none⟩)]] w (LeaveSaid gm rb cap Ng fg s xs k w) := by
  obtain ⟨c0, c1, c2, _⟩ := three_cells hb
  have hlk := hg.look keyed_str Tryz.underlying119 (zero_row w) (key_str hs)
  rw [hv] at hlk
  have hlk' : (Instr.lookup 119 (.map (some gm)) (.string s) false).run Tryz.prog w = .ok (.slice (some ⟨rb, 0, none⟩) xs.length cap) w := hlk
  have hgr : gm ≠ rb := fun e => by
    obtain ⟨es, c, hb2⟩ := hg.blk
    obtain ⟨cur, hb3, _⟩ := own_cells ho
    rw [e, hb3] at hb2
    cases hb2
  have HD := Lib.hid (delFunc_any (k := k) ho hB hBr hc)
  have hsome : (fg (strK s)).isSome = true := by rw [hv]; rfl
  obtain ⟨ys, hys⟩ : ∃ ys, ys = outI xs k := ⟨_, rfl⟩
  have HYS := Lib.hid hys
  rw [← hys] at HD
  clear hlk hys
  by_cases hy : ys = []
  · subst hy
    have HN : Hid (∀ w1, Chg (fun i => i = rb) w w1 → ∃ w2, w1.cell? ⟨l, 0, none⟩ = some (.map (some gm)) ∧ (Builtin.delete_ #[119, 9] 0 #[.map (some gm), .string s]).run Tryz.prog w1 = .ok (.tuple #[]) w2 ∧
        Hid (LeaveSaid gm rb cap Ng fg s xs k w (.returned (.tuple #[])) w2)) := Lib.hid fun w1 h1 => by
      obtain ⟨w2, hr, m2, _, c2⟩ := (hg.keep h1 hgr).drop keyed_str Tryz.underlying119 (key_str hs) hsome 0
      exact ⟨w2, (three_cells (h1.heap hb hlr)).1, hr, Lib.hid ⟨rfl, (h1.mono fun i _ e => .inl e).trans c2 fun i _ e => .inr e, .inl ⟨HYS.out.symm, m2⟩⟩⟩
    clear hb hg hv ho hB hBr hlr hc hsome hgr
    go_enter Tryz.func104, Tryz.ntmps104
    go_wp2_with (first
      | (go_at_call 147; refine HD.out.mono ?_; rintro e w1 ⟨rfl, _, hc1⟩; obtain ⟨w2, k0, hdel, HE⟩ := HN.out w1 hc1; have HDL := Lib.hid hdel; clear hc1 hdel)
      | (at_delete; refine wpList_delete_run rfl _ _ 119 9 rfl _ _ rfl rfl HDL.out ?_))
    refine bodyPost_ret (results_none rfl _ _ _) rfl ?_
    exact HE.out
  · have hpos : 0 < ys.length := List.length_pos_iff.2 hy
    have hne : ((ys.length : Int) == 0) = false := beq_eq_false_iff_ne.2 (by omega)
    have HN : Hid (∀ w1, w1.ownsRow 0 3 1 (.slice (some ⟨rb, 0, none⟩) ys.length cap) ys.length (ys.map (Value.int .i64)) → Chg (fun i => i = rb) w w1 → ∃ w2, w1.cell? ⟨l, 0, none⟩ = some (.map (some gm)) ∧ (Instr.mapUpdate 119 (.map (some gm)) (.string s) (.slice (some ⟨rb, 0, none⟩) ys.length cap)).run Tryz.prog w1 = .ok () w2 ∧
        Hid (LeaveSaid gm rb cap Ng fg s xs k w (.returned (.tuple #[])) w2)) := Lib.hid fun w1 h0 h1 => by
      obtain ⟨w2, hr, m2, c2⟩ := (hg.keep h1 hgr).put keyed_str Tryz.underlying119 (by unfold maxLen; omega) (key_str hs) (.slice (some ⟨rb, 0, none⟩) ys.length cap)
      rw [if_pos hsome] at m2
      refine ⟨w2, (three_cells (h1.heap hb hlr)).1, hr, Lib.hid ⟨rfl, (h1.mono fun i _ e => .inl e).trans c2 fun i _ e => .inr e, .inr ?_⟩⟩
      rw [← HYS.out]
      exact ⟨hy, m2, c2.own h0 fun g hg2 e => by simp [Value.ownBlock] at hg2; exact hgr (by rw [hg2, e])⟩
    clear hb hg hv ho hB hBr hlr hc hsome hgr
    obtain ⟨n, hn⟩ : ∃ n, n = ys.length := ⟨_, rfl⟩
    rw [← hn] at HD HN hne hpos
    clear hn
    go_enter Tryz.func104, Tryz.ntmps104
    go_wp2_with (go_at_call 147; refine HD.out.mono ?_; rintro e w1 ⟨rfl, ho1, hc1⟩; obtain ⟨w2, k0, hput, HE⟩ := HN.out w1 ho1 hc1; clear hc1 ho1)
    go_end0
    exact HE.out
end Go.Proofs.YtdjieapobodakaaGreatDoor.Lan
end

section
namespace Go.Proofs.YtdjieapobodakaaGreatDoor.Lan
open Go Go.RowKit Go.Maps Go.WideMaps
set_option maxRecDepth 100000

section
variable {w w3 w' : World} {l gm pm N Ng rb cap : Nat} {L : List Th} {fg fp : Lit → Option Value} {Φ : Nat → Prop} {x : Th}
theorem outI_ofG (L : List Th) (k : Int) (s : ByteArray) : outI (ofG L s) k = ofG (dropT L k) s := by
  rw [ofG_drop]
  unfold outI
  congr 1
  funext i
  by_cases h : i = k <;> simp [h]
/-- The lanes behind a Drop. -/
theorem drop_fin (h : LaneL w l gm pm L N Ng fg fp Φ) (hx : x ∈ L) (hv : fg (strK x.g) = some (.slice (some ⟨rb, 0, none⟩) (ofG L x.g).length cap)) (hΦ : Φ rb) (hrow : w.ownsRow 0 3 1 (.slice (some ⟨rb, 0, none⟩) (ofG L x.g).length cap) (ofG L x.g).length ((ofG L x.g).map (Value.int .i64)))
    (c3 : Chg (fun i => i = pm) w w3) (m3 : MapV Tryz.prog 3 w3 pm (L.length - 1) (delV fp (.int .i64 x.id))) {e : Ending} (hl : LeaveSaid gm rb cap Ng fg x.g (ofG L x.g) x.id w3 e w') :
    LaneAt w' l (dropT L x.id) N Φ ∧ Chg Φ w w' := by
  obtain ⟨_, c5, hcase⟩ := hl
  rw [outI_ofG] at hcase
  have hall : Chg (fun i => i = pm ∨ i = rb ∨ i = gm) w w' := (c3.mono fun i _ e => .inl e).trans c5 fun i _ e => .inr e
  have hne := h.row_ne hrow
  have hlen := length_dropT h.nodup hx
  have hsub : ∀ y ∈ dropT L x.id, y ∈ L := fun y hy => (List.mem_filter.1 hy).1
  have hob : (Value.slice (some ⟨rb, 0, none⟩) (ofG L x.g).length cap).ownBlock = some rb := rfl
  have hblk : w'.heap[l]? = some (.cells #[.map (some gm), .map (some pm), .int .i64 N] 122 (0, 0)) := hall.heap h.blk fun e => by
    rcases e with e | e | e
    · exact h.l_pm e
    · exact hne.1 e.symm
    · exact h.l_gm e
  have hplc : MapV Tryz.prog 3 w' pm (dropT L x.id).length (delV fp (.int .i64 x.id)) := by
    have := m3.keep c5 fun e => by
      rcases e with e | e
      · exact hne.2.2 e.symm
      · exact h.ne e.symm
    rwa [show (dropT L x.id).length = L.length - 1 by omega]
  have hpl : ∀ j, delV fp (.int .i64 x.id) (.int .i64 j) = (at_ (dropT L x.id) j).map placeV := fun j => by
    by_cases hj : j = x.id
    · subst hj
      rw [delV_same, at_drop_same]
      rfl
    · have hne2 : Lit.int .i64 j ≠ Lit.int .i64 x.id := fun e => hj (by simpa using e)
      rw [delV_other _ hne2, at_drop_other L hj]
      exact h.pl j
  have hother : ∀ t, t ≠ x.g → ofG (dropT L x.id) t = ofG L t := fun t ht => ofG_drop_other h.nodup hx ht
  have hrows : ∀ t, t ≠ x.g → ofG L t ≠ [] → ∃ v, fg (strK t) = some v ∧ RowV w' v (ofG L t) Φ := fun t ht hn => by
    obtain ⟨v, h1, rb2, cap2, e2, ho2, hp2⟩ := h.gr t hn
    refine ⟨v, h1, rb2, cap2, e2, hall.own ho2 fun g hg => ?_, hp2⟩
    rw [e2] at hg ho2
    simp [Value.ownBlock] at hg
    subst hg
    have hn2 := h.row_ne ho2
    rintro (e | e | e)
    · exact hn2.2.2 e
    · refine h.apart t x.g v _ ht h1 hv ?_
      rw [e2, hob, e]
      rfl
    · exact hn2.2.1 e
  have hrise : ((dropT L x.id).map Th.tn).Pairwise (· < ·) := h.rise.sublist (List.Sublist.map _ List.filter_sublist)
  have hnd : (ids (dropT L x.id)).Nodup := h.nodup.sublist (List.Sublist.map _ List.filter_sublist)
  refine ⟨?_, hall.mono fun i _ e => by
    rcases e with rfl | rfl | rfl
    · exact h.inn.2.2
    · exact hΦ
    · exact h.inn.2.1⟩
  rcases hcase with ⟨hemp, hm⟩ | ⟨hnon, hm, ho⟩
  · refine ⟨gm, pm, Ng - 1, delV fg (strK x.g), _, ⟨hblk, hm, hplc, by have := h.ng; omega, h.ne, fun y hy => h.wf y (hsub y hy), hnd, hrise, fun y hy => h.top y (hsub y hy), hpl, fun t ht => ?_, fun t ht => ?_, fun t t' v v2 htt hv1 hv2 => ?_, h.inn⟩⟩
    · by_cases hts : t = x.g
      · subst hts
        exact delV_same _ _
      · rw [delV_other _ fun e => hts (strK_inj e)]
        rw [hother t hts] at ht
        exact h.gn t ht
    · have hts : t ≠ x.g := fun e => ht (by rw [e]; exact hemp)
      rw [hother t hts] at ht ⊢
      rw [delV_other _ fun e => hts (strK_inj e)]
      exact hrows t hts ht
    · have hts : ∀ u y, delV fg (strK x.g) (strK u) = some y → u ≠ x.g := fun u y hu e => by
        rw [e, delV_same] at hu
        cases hu
      have h1 := hts t v hv1
      have h2 := hts t' v2 hv2
      rw [delV_other _ fun e => h1 (strK_inj e)] at hv1
      rw [delV_other _ fun e => h2 (strK_inj e)] at hv2
      exact h.apart t t' v v2 htt hv1 hv2
  · refine ⟨gm, pm, Ng, putV fg (strK x.g) (.slice (some ⟨rb, 0, none⟩) (ofG (dropT L x.id) x.g).length cap), _, ⟨hblk, hm, hplc, h.ng, h.ne, fun y hy => h.wf y (hsub y hy), hnd, hrise, fun y hy => h.top y (hsub y hy), hpl, fun t ht => ?_, fun t ht => ?_, fun t t' v v2 htt hv1 hv2 => ?_, h.inn⟩⟩
    · have hts : t ≠ x.g := fun e => hnon (by rw [← e]; exact ht)
      rw [hother t hts] at ht
      rw [putV_other _ _ fun e => hts (strK_inj e)]
      exact h.gn t ht
    · by_cases hts : t = x.g
      · subst hts
        rw [putV_same]
        exact ⟨_, rfl, rb, cap, rfl, ho, hΦ⟩
      · rw [hother t hts] at ht ⊢
        rw [putV_other _ _ fun e => hts (strK_inj e)]
        exact hrows t hts ht
    · by_cases hts : t = x.g
      · subst hts
        rw [putV_same] at hv1
        obtain rfl := Option.some.inj hv1
        rw [putV_other _ _ fun e => htt (strK_inj e).symm] at hv2
        have h9 := h.apart x.g t' _ v2 htt hv hv2
        exact h9
      · rw [putV_other _ _ fun e => hts (strK_inj e)] at hv1
        by_cases hts' : t' = x.g
        · subst hts'
          rw [putV_same] at hv2
          obtain rfl := Option.some.inj hv2
          have h9 := h.apart t x.g v _ hts hv1 hv
          exact h9
        · rw [putV_other _ _ fun e => hts' (strK_inj e)] at hv2
          exact h.apart t t' v v2 htt hv1 hv2
end

/-- What Drop leaves. -/
def DropSaid (l : Nat) (L : List Th) (N : Nat) (k : Int) (Φ : Nat → Prop) (w : World) (e : Ending) (w' : World) : Prop :=
  e = .returned (.bool (at_ L k).isSome) ∧ LaneAt w' l (dropT L k) N Φ ∧ Chg Φ w w'

set_option maxHeartbeats 800000 in
set_option maxRecDepth 100000 in
theorem Drop_none {w : World} {l N : Nat} {L : List Th} {Φ : Nat → Prop} (h : LaneAt w l L N Φ) {k : Int} (hk : wfk k) (hx : at_ L k = none) :
    Calls Tryz.prog 85 #[.pointer (some ⟨l, 0, none⟩), .int .i64 k] w (DropSaid l L N k Φ w) := by
  have HE : Hid (∀ w', Below w.heap.size w w' → DropSaid l L N k Φ w (.returned (.bool false)) w') := Lib.hid fun w' hb => ⟨by rw [hx]; rfl, by rw [dropT_none hx]; exact h.below hb, Chg.of_below hb⟩
  obtain ⟨gm, pm, Ng, fg, fp, h⟩ := h
  obtain ⟨W, hW⟩ : ∃ W, W = w.alloc (.cells #[.int .i64 k] 3) := ⟨_, rfl⟩
  have hb : Below w.heap.size w W := by rw [hW]; exact (Below.refl _ _).alloc (Nat.le_refl _) _
  have h2 := h.below hb
  obtain ⟨c0, c1, c2, _⟩ := three_cells h2.blk
  have hlk := (h2.keep (Ψ := fun _ => False) (Chg.drew _) fun _ _ => id).place hk
  rw [hx] at hlk
  have hlk' : (Instr.lookup 120 (.map (some pm)) (.int .i64 k) true).run Tryz.prog W.drew = .ok (.tuple #[.agg #[.string ⟨#[]⟩, .int .i64 0], .bool false]) W.drew := hlk
  have hlk2 : (Instr.lookup 120 (.map (some pm)) (.int .i64 k) true).run Tryz.prog (W.alloc (.cells #[.string ⟨#[]⟩, .int .i64 0] 126)).drew = .ok (.tuple #[.agg #[.string ⟨#[]⟩, .int .i64 0], .bool false]) (W.alloc (.cells #[.string ⟨#[]⟩, .int .i64 0] 126)).drew := by
    have := ((h2.keep (Ψ := fun _ => False) (Chg.alloc _ (.cells #[.string ⟨#[]⟩, .int .i64 0] 126)) fun _ _ => id).keep (Ψ := fun _ => False) (Chg.drew _) fun _ _ => id).place hk
    rw [hx] at this
    exact this
  have q0 : W.cell? ⟨w.heap.size, 0, none⟩ = some (.int .i64 k) := by rw [hW]; simp
  have hll := lt_of_block h2.blk
  have hws : w.heap.size < W.heap.size := by rw [hW]; simp
  have HW := Lib.hid hW
  clear h h2 hlk hW hx
  go_enter Tryz.func85, Tryz.ntmps85
  go_wp2_with fail
  rw [← HW.out]
  go_region
  all_goals
    go_wp2
    go_ret
    refine HE.out _ ?_
    rw [HW.out]
    first
      | exact (((Below.refl _ _).alloc (Nat.le_refl _) _).alloc (by simp) _).drew
      | exact (((((Below.refl _ _).alloc (Nat.le_refl _) _).alloc (by simp) _).setCell (by simp) _).setCell (by simp) _).drew

set_option maxHeartbeats 1600000 in
set_option maxRecDepth 100000 in
theorem Drop_some {w : World} {l N : Nat} {L : List Th} {Φ : Nat → Prop} (h : LaneAt w l L N Φ) (hN : N < 900000) {k : Int} (hk : wfk k) {x : Th} (hx : at_ L k = some x) :
    Calls Tryz.prog 85 #[.pointer (some ⟨l, 0, none⟩), .int .i64 k] w (DropSaid l L N k Φ w) := by
  obtain ⟨hxL, rfl⟩ := at_some hx
  have HES : Hid (∀ w', LaneAt w' l (dropT L x.id) N Φ ∧ Chg Φ w w' → DropSaid l L N x.id Φ w (.returned (.bool true)) w') := Lib.hid fun w' hb => ⟨by rw [hx]; rfl, hb.1, hb.2⟩
  obtain ⟨gm, pm, Ng, fg, fp, h⟩ := h
  obtain ⟨W, hW⟩ : ∃ W, W = w.alloc (.cells #[.int .i64 x.id] 3) := ⟨_, rfl⟩
  have hb : Below w.heap.size w W := by rw [hW]; exact (Below.refl _ _).alloc (Nat.le_refl _) _
  have h2 := h.below hb
  obtain ⟨c0, c1, c2, _⟩ := three_cells h2.blk
  have hlk := (h2.keep (Ψ := fun _ => False) (Chg.drew _) fun _ _ => id).place hk
  rw [hx] at hlk
  have hlk' : (Instr.lookup 120 (.map (some pm)) (.int .i64 x.id) true).run Tryz.prog W.drew = .ok (.tuple #[.agg #[.string x.g, .int .i64 x.tn], .bool true]) W.drew := hlk
  have hlk2 : (Instr.lookup 120 (.map (some pm)) (.int .i64 x.id) true).run Tryz.prog (W.alloc (.cells #[.string ⟨#[]⟩, .int .i64 0] 126)).drew = .ok (.tuple #[.agg #[.string x.g, .int .i64 x.tn], .bool true]) (W.alloc (.cells #[.string ⟨#[]⟩, .int .i64 0] 126)).drew := by
    have := ((h2.keep (Ψ := fun _ => False) (Chg.alloc _ (.cells #[.string ⟨#[]⟩, .int .i64 0] 126)) fun _ _ => id).keep (Ψ := fun _ => False) (Chg.drew _) fun _ _ => id).place hk
    rw [hx] at this
    exact this
  have q0 : W.cell? ⟨w.heap.size, 0, none⟩ = some (.int .i64 x.id) := by rw [hW]; simp
  have hll := lt_of_block h2.blk
  have hws : W.heap.size = w.heap.size + 1 := by rw [hW]; simp
  -- behind the first statement: nothing that was there has turned, and the place lies in its box
  have HFW : Hid (∀ V, Below W.heap.size W V → V.heap[W.heap.size]? = some (.cells #[.string x.g, .int .i64 x.tn] 126 (0, 0)) → ∃ w3, V.cell? ⟨l, 1, none⟩ = some (.map (some pm)) ∧ V.cell? ⟨w.heap.size, 0, none⟩ = some (.int .i64 x.id) ∧
      (Builtin.delete_ #[120, 3] 0 #[.map (some pm), .int .i64 x.id]).run Tryz.prog V.drew = .ok (.tuple #[]) w3 ∧ w3.cell? ⟨W.heap.size, 0, none⟩ = some (.string x.g) ∧
      Hid (Calls Tryz.prog 104 #[.pointer (some ⟨l, 0, none⟩), .string x.g, .func (.func 105) #[] #[.pointer (some ⟨w.heap.size, 0, none⟩)]] w3 fun e w' => e = .returned (.tuple #[]) ∧ Hid (DropSaid l L N x.id Φ w (.returned (.bool true)) w'))) := Lib.hid (by
    intro V hV hbx
    have hbV : Below w.heap.size w V := hb.trans (hV.mono (by omega))
    have h3 := h.below hbV
    have h4 : LaneL V.drew l gm pm L N Ng fg fp Φ := h3.keep (Ψ := fun _ => False) (Chg.drew _) fun _ _ => id
    have hfp : (fp (.int .i64 x.id)).isSome = true := by rw [h.pl, hx]; rfl
    obtain ⟨w3, hr, m3, _, c3⟩ := h4.plc.drop keyed_int Tryz.underlying120 (key_int hk) hfp 0
    have hnz : ofG L x.g ≠ [] := fun e => by have := ofG_mem hxL; rw [e] at this; cases this
    obtain ⟨v, hv, rb, cap, rfl, ho, hΦ⟩ := h.gr x.g hnz
    have hcw : Chg (fun i => i = pm) w w3 := ((Chg.of_below (Φ := fun i => i = pm) hbV).trans (Chg.drew (Φ := fun _ => False) _) fun _ _ e => e.elim).trans c3 fun _ _ e => e
    have hne := h.row_ne ho
    have hpml := h.plc.lt
    have hcV : Chg (fun i => i = pm) V w3 := (Chg.drew (Φ := fun i => i = pm) _).trans c3 fun _ _ e => e
    have hbx3 := hcV.heap hbx fun e => by omega
    have hq3 : V.cell? ⟨w.heap.size, 0, none⟩ = some (.int .i64 x.id) := (hV.cell (p := ⟨w.heap.size, 0, none⟩) (by show w.heap.size < W.heap.size; omega)).trans q0
    have hVs := hV.size
    have hq4 : w3.cell? ⟨w.heap.size, 0, none⟩ = some (.int .i64 x.id) := (hcV.cell (p := ⟨w.heap.size, 0, none⟩) (by show w.heap.size < V.heap.size; omega) (fun e => by have e2 : w.heap.size = pm := e; omega)).trans hq3
    have hrbl := (ho.lt rb rfl).2
    have hcs := hcV.size
    refine ⟨w3, (three_cells h3.blk).2.1, hq3, hr, (two_cells' hbx3).1, Lib.hid ((leave_any (hcw.heap h.blk fun e => h.l_pm e) (h.grp.keep hcw fun e => h.ne e) (by have := h.ng; omega) (h.wf x hxL).2 hv (hcw.own ho fun g hg e => by simp [Value.ownBlock] at hg; exact hne.2.2 (by rw [hg, e])) (by omega) (by omega) hne.1.symm hq4).mono ?_)⟩
    intro e w' hl
    exact ⟨hl.1, Lib.hid (HES.out w' (drop_fin h hxL hv hΦ ho hcw m3 hl))⟩)
  have HW := Lib.hid hW
  have hws2 : w.heap.size < W.heap.size := by omega
  clear h h2 hlk hW hx hxL hb HES hws
  go_enter Tryz.func85, Tryz.ntmps85
  go_wp2_with fail
  rw [← HW.out]
  go_region
  all_goals
    go_wp2_with fail
    obtain ⟨V, hV⟩ : ∃ V, V = (W.alloc (.cells #[.string x.g, .int .i64 x.tn] 126)).drew := ⟨_, rfl⟩
    obtain ⟨w3, k1, k2, hdel, k3, HL⟩ := HFW.out V (by rw [hV]; exact ((Below.refl _ _).alloc (Nat.le_refl _) _).drew) (by rw [hV]; exact heap_alloc_new W _)
    have HDL := Lib.hid hdel
    rw [← hV]
    clear hV hdel HFW hlk' hlk2 c0 c1 c2 q0 hll hws2
    generalize W.heap.size = bp at *
    generalize w.heap.size = bx at *
    go_still_tail 5, (by kernel_rfl)
    change wpList _ _ _ _ _ V.drew
    go_wp2_with (first
      | (at_delete; refine wpList_delete_run rfl _ _ 120 3 rfl _ _ rfl rfl HDL.out ?_)
      | (go_at_call 104; refine HL.out.mono ?_; rintro e w4 ⟨rfl, HE⟩))
    go_ret
    exact HE.out

theorem Drop_any {w : World} {l N : Nat} {L : List Th} {Φ : Nat → Prop} (h : LaneAt w l L N Φ) (hN : N < 900000) {k : Int} (hk : wfk k) :
    Calls Tryz.prog 85 #[.pointer (some ⟨l, 0, none⟩), .int .i64 k] w (DropSaid l L N k Φ w) := by
  cases hx : at_ L k with
  | none => exact Drop_none h hk hx
  | some x => exact Drop_some h hN hk hx
end Go.Proofs.YtdjieapobodakaaGreatDoor.Lan
end
