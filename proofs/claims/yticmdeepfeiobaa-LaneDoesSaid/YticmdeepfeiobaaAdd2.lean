/- What is proved here: what Add does with a thing that is not there. -/
import Derived.Test.YticmdeepfeiobaaAdd
import Derived.Outline
namespace Go.Proofs.Yticmdeepfeiobaa
open Go Go.RowKit Go.Maps Go.WideMaps

theorem three_set2 {w : World} {b : Nat} {x y z : Value} {t : TypeId} (h : w.heap[b]? = some (.cells #[x, y, z] t (0, 0))) (u : Value) : (w.setCell ⟨b, 2, none⟩ u).heap[b]? = some (.cells #[x, y, u] t (0, 0)) := heap_setCell_same h 2 u

set_option maxHeartbeats 1600000 in
set_option maxRecDepth 100000 in
theorem Add_new {w : World} {l N : Nat} {L : List Th} {Φ : Nat → Prop} (h : LaneAt w l L N Φ) (hN : N < 900000) {s : ByteArray} (hs : s.size ≤ maxLen) {k : Int} (hk : wfk k) (hx : at_ L k = none) (hLn : L.length < 900000) :
    Calls Try.prog 11 #[.pointer (some ⟨l, 0, none⟩), .string s, .int .i64 k] w fun e w' => e = .returned (.bool true) ∧ LaneAt w' l (L ++ [⟨s, k, N + 1⟩]) (N + 1) (more Φ w) ∧ Chg Φ w w' := by
  obtain ⟨gm, pm, Ng, fg, fp, h⟩ := h
  obtain ⟨c0, c1, c2, f0, f1, f2⟩ := three_cells h.blk
  have hlk := h.place hk
  have hll := lt_of_block h.blk
  rw [hx] at hlk
  have hlk' : (Instr.lookup 52 (.map (some pm)) (.int .i64 k) true).run Try.prog w = .ok (.tuple #[.agg #[.string ⟨#[]⟩, .int .i64 0], .bool false]) w := hlk
  have hN' : (N : Int) < 900000 := by omega
  obtain ⟨W2, hW2⟩ : ∃ W2, W2 = (w.setCell ⟨l, 2, none⟩ (.int .i64 ((N : Int) + 1))).alloc (.cells #[.string ⟨#[]⟩, .int .i64 0] 56) := ⟨_, rfl⟩
  have cg2 : Chg (fun i => i = l) w W2 := by rw [hW2]; exact (Chg.set w l 2 _).trans (Chg.alloc (Φ := fun _ => False) _ _) fun _ _ e => e.elim
  have b2 : W2.heap[l]? = some (.cells #[.map (some gm), .map (some pm), .int .i64 ((N : Int) + 1)] 54 (0, 0)) := by
    rw [hW2]
    exact (Chg.alloc (Φ := fun _ => False) _ _).heap (three_set2 h.blk _) id
  have hpv : placeV ⟨s, k, N + 1⟩ = .agg #[.string s, .int .i64 ((N : Int) + 1)] := by simp [placeV]
  -- the place
  have hp2 : MapV Try.prog 3 W2.drew pm L.length fp := (h.plc.keep cg2 fun e => h.l_pm e.symm).keep (Chg.drew (Φ := fun _ => False) _) id
  have hfp : fp (.int .i64 k) = none := by rw [h.pl, hx]; rfl
  obtain ⟨w3, hr3, m3, cg3⟩ := hp2.put keyed_int Try.underlying52 (by unfold maxLen; omega) (key_int hk) (placeV ⟨s, k, N + 1⟩)
  rw [hfp] at m3
  rw [hpv] at hr3
  have cg3' : Chg (fun i => i = pm) W2 w3 := (Chg.drew (Φ := fun i => i = pm) W2).trans cg3 fun _ _ e => e
  have b3 := cg3'.heap b2 fun e => h.l_pm e
  -- the group
  obtain ⟨hown, hrow, _, A, c, hv, hc1, hc2, hA⟩ := h.row hs
  have cg23 : Chg (fun i => i = l ∨ i = pm) w w3 := (cg2.mono fun i _ e => .inl e).trans cg3' fun i _ e => .inr e
  have hown3 : w3.ownsRow 0 3 1 (rowOf fg s) (ofG L s).length ((ofG L s).map (Value.int .i64)) := cg23.own hown fun g hg e => by
    rcases e with e | e
    · exact (hrow g hg).2.1 e
    · exact (hrow g hg).2.2.2 e
  have hg3 : MapV Try.prog 9 w3 gm Ng fg := h.grp.keep cg23 fun e => by
    rcases e with e | e
    · exact h.l_gm e.symm
    · exact h.ne e
  have hlg : (Instr.lookup 51 (.map (some gm)) (.string s) false).run Try.prog w3.drew = .ok (rowOf fg s) w3.drew := (hg3.keep (Chg.drew (Φ := fun _ => False) _) id).look keyed_str Try.underlying51 (zero_row _) (key_str hs)
  have hlg2 : (Instr.lookup 51 (.map (some gm)) (.string s) false).run Try.prog (w3.alloc (.cells #[.int .i64 k] 3)).drew = .ok (rowOf fg s) (w3.alloc (.cells #[.int .i64 k] 3)).drew := ((hg3.keep (Chg.drew (Φ := fun _ => False) _) id).keep (Chg.alloc (Φ := fun _ => False) _ _) id).look keyed_str Try.underlying51 (zero_row _) (key_str hs)
  have hgl : (ofG L s).length ≤ L.length := ofG_length L s
  have hz3 : w.heap.size ≤ w3.heap.size := cg23.size
  have HAP : Hid (∀ v2 w4, w4.ownsRow 0 3 1 v2 ((ofG L s).length + 1) ((ofG L s).map (Value.int .i64) ++ [.int .i64 k]) → (w3.drew.alloc (.cells #[.int .i64 k] 3)).grownBy w4 (rowOf fg s).ownBlock → (v2.ownBlock = (rowOf fg s).ownBlock ∨ v2.ownBlock = some (w3.drew.alloc (.cells #[.int .i64 k] 3)).heap.size) →
      ∃ rb cap w5, v2 = .slice (some ⟨rb, 0, none⟩) ((ofG L s).length + 1) cap ∧ w4.cell? ⟨l, 0, none⟩ = some (.map (some gm)) ∧ (Instr.mapUpdate 51 (.map (some gm)) (.string s) (.slice (some ⟨rb, 0, none⟩) ((ofG L s).length + 1) cap)).run Try.prog w4 = .ok () w5 ∧
        Hid (LaneAt w5 l (L ++ [⟨s, k, N + 1⟩]) (N + 1) (more Φ w) ∧ Chg Φ w w5)) := Lib.hid (by
    intro v2 w4 ho4 hg4 hv4
    obtain ⟨rb, cap, rfl, _, hrl⟩ := ho4.form (by omega)
    have cg4 : Chg (fun i => (rowOf fg s).ownBlock = some i) w3 w4 := ((Chg.drew (Φ := fun i => (rowOf fg s).ownBlock = some i) w3).trans (Chg.alloc (Φ := fun _ => False) _ _) fun _ _ e => e.elim).trans (Chg.of_grown hg4) fun _ _ e => e
    have hg4 : MapV Try.prog 9 w4 gm Ng fg := hg3.keep cg4 fun e => (hrow gm e).2.2.1 rfl
    have hNg := h.ng
    obtain ⟨w5, hr5, m5, cg5⟩ := hg4.put keyed_str Try.underlying51 (by unfold maxLen; omega) (key_str hs) (.slice (some ⟨rb, 0, none⟩) ((ofG L s).length + 1) cap)
    obtain ⟨r1, r2⟩ := add_fin h hs hk hx cg2 b2 cg3' (by simpa using m3) cg4 ho4 (hv4.imp id fun e => ⟨_, e, by simp; omega⟩) cg5 m5
    exact ⟨rb, cap, w5, rfl, (three_cells (cg4.heap b3 fun e => (hrow l e).2.1 rfl)).1, hr5, Lib.hid ⟨⟨_, _, _, _, _, r1⟩, r2⟩⟩)
  rw [hv] at hlg hlg2 hown3 HAP
  obtain ⟨i0, hi, hz0, hz1, hz2⟩ := info_parts info_int
  have HOWN := Lib.hid hown3
  have HW2 := Lib.hid hW2
  obtain ⟨e0, e1, e2, _⟩ := three_cells b2
  obtain ⟨g0, g1, g2, _⟩ := three_cells b3
  have hl3 := lt_of_block b3
  unfold maxLen at hc1
  clear h hlk hp2 hfp m3 cg2 cg3 cg3' b2 b3 hown hrow hown3 hg3 cg23 hW2 hpv hv hA
  generalize (ofG L s).length = n at *
  generalize (ofG L s).map (Value.int .i64) = xs at *
  go_enter Try.func11, Try.ntmps11
  go_wp2_with fail
  rw [← HW2.out]
  go_still_tail 11, (by kernel_rfl)
  change wpList _ _ _ _ _ W2.drew
  go_wp2_with fail
  clear hr3 e0 e1 e2 c0 c1 c2 f0 f1 f2 hlk'
  go_region_law (refine step_append_where (o := ⟨some 50, _, _, _, _, _⟩) rfl (.tmp 47) (.tmp 49) 34 rfl 0 3 i0 _ 1 8 Try.underlying34 hi hz0 hz1 hz2 rfl (by omega) _ n _ rfl ((HOWN.out.drew).alloc _) (some ⟨w3.heap.size, 0, none⟩) 1 1 [.int .i64 k] rfl rfl (fun e => by cases e) (news_new w3.drew _ _) (one_cell _ _) (by unfold maxLen; omega) (by omega) (Nat.zero_le _) ?_; intro v2 w4 ho4 hg4 hv4; obtain ⟨rb, cap, w5, rfl, k0, hm5, HX⟩ := HAP.out v2 w4 ho4 hg4 hv4; clear ho4 hg4 hv4)
  all_goals
    go_wp2_with fail
    go_ret
    exact ⟨rfl, HX.out⟩
end Go.Proofs.Yticmdeepfeiobaa
