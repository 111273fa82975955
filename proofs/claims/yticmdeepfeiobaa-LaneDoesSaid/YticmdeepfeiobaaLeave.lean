/- What is proved here: what the closure in Drop answers; what slices.DeleteFunc does with a group's row; what 'leave' does. -/
import Derived.Test.YticmdeepfeiobaaAdd2
import Derived.Test.YticmdeepfeiobaaLib
import Derived.Sort.OwnSortedInts
namespace Go.Proofs.Yticmdeepfeiobaa
open Go Go.RowKit Go.Maps Go.WideMaps Go.Shelf Go.Lib Go.Sort

/-- The closure in Drop, in whatever world holds the number in its box. -/
theorem closure_gives (k x : Int) (B : Nat) (W : World) (hc : W.cell? ⟨B, 0, none⟩ = some (.int .i64 k)) :
    FnGives Try.prog 26 #[.pointer (some ⟨B, 0, none⟩)] #[.int .i64 x] (.bool (x == k)) W := by
  show Calls Try.prog 26 #[.int .i64 x, .pointer (some ⟨B, 0, none⟩)] W _
  go_enter Try.func26, Try.ntmps26
  go_wp2
  go_ret
  exact ⟨rfl, 0, rfl⟩
theorem zero_int (w : World) : (zeroValue 3).run Try.prog w = .ok (.int .i64 0) w := by kernel_rfl

/-- What goes out of a row. -/
def outI (xs : List Int) (k : Int) : List Int := xs.filter fun x => !(x == k)
theorem delFunc_any {w : World} {rb cap B : Nat} {xs : List Int} {k : Int} (ho : w.ownsRow 0 3 1 (.slice (some ⟨rb, 0, none⟩) xs.length cap) xs.length (xs.map (Value.int .i64))) (hB : B < w.heap.size) (hBr : B ≠ rb) (hc : w.cell? ⟨B, 0, none⟩ = some (.int .i64 k)) :
    Calls Try.prog 33 #[.slice (some ⟨rb, 0, none⟩) xs.length cap, .func (.func 26) #[] #[.pointer (some ⟨B, 0, none⟩)]] w fun e w' =>
      e = .returned (.slice (some ⟨rb, 0, none⟩) (outI xs k).length cap) ∧ w'.ownsRow 0 3 1 (.slice (some ⟨rb, 0, none⟩) (outI xs k).length cap) (outI xs k).length ((outI xs k).map (Value.int .i64)) ∧ Chg (fun i => i = rb) w w' := by
  obtain ⟨cur, hb, hle, hm⟩ := own_cells ho
  unfold maxLen at hm
  have hct : cur.size = cap * 1 ∧ cur.toList.take xs.length = xs.map (Value.int .i64) := by
    rcases ho.2 with ⟨e1, _⟩ | ⟨g, cap', cur', e1, _, hg, _, _, h3, h4⟩
    · cases e1
    · cases e1
      rw [hb] at hg
      cases hg
      exact ⟨h3, by simpa using h4⟩
  have hH : Holds (Value.int .i64) w rb 0 xs.toArray := holds_of_blockI hb hct.2
  have eg : ∀ args w, (callFunc 26 args).run Try.prog w = .ok (.enter 26 args) w := enters_of Try.func26 (by kernel_rfl) rfl
  have hcon := AnyE.slices_DeleteFunc Try.delFunc (Value.int .i64) (fun _ => rfl) (fun x => x == k) 26 #[.pointer (some ⟨B, 0, none⟩)] eg 0 zero_int rb 0 cap xs.toArray w
    (fun W x hb => closure_gives k x B W ((hb.cell (p := ⟨B, 0, none⟩) hB).trans hc))
    (fun n os dk x _ => closure_gives k x B _ (by
      unfold sortWorld
      rw [cell?_grow _ _ _ (by show B < (putRow _ _ _ _ _).heap.size; rw [size_putRow]; exact hB), cell?_putRow_other _ _ rb 0 _ _ (Or.inl hBr)]
      exact hc)) hH (by simp; omega) (by simpa using hle)
  rw [List.size_toArray] at hcon
  change Calls Try.prog 33 _ _ _ at hcon
  refine hcon.mono ?_
  rintro e w' ⟨rfl, q, hw⟩
  have hfl : (outI xs k).length ≤ xs.length := List.length_filter_le _ _
  have hl : ((outI xs k) ++ List.replicate (xs.length - (outI xs k).length) (0 : Int)).length = xs.length := by simp; omega
  have hw2 : w' = grow (putRow (Value.int .i64) (Sort.ahead w q) rb 0 ((outI xs k) ++ List.replicate (xs.length - (outI xs k).length) (0 : Int)).toArray) #[] := by
    rw [grow_empty]
    exact hw
  refine ⟨rfl, ?_, ?_⟩
  · have h1 := ownsRow_sortedI (n := q) (os := #[]) (base := 0) (ts := (outI xs k) ++ List.replicate (xs.length - (outI xs k).length) (0 : Int)) hl (Nat.zero_le _) hb hle (by unfold maxLen; omega) hct.1
    rw [← hw2, List.map_append] at h1
    have h2 : xs.length = (outI xs k).length + (xs.length - (outI xs k).length) := by omega
    rw [h2] at h1
    exact own_less h1 (by simp)
  · rw [hw2]
    exact (Chg.of_grown (grownBy_sortedI _)).mono fun i _ e => (Option.some.inj e).symm

/-- 'delete(m, k)', by what its run gives. -/
theorem wpList_delete_run {P : Program} {w : World} {ops : Array Oper} {rest : List Oper} {o : Oper} {a : Act} {Q : Exit → Act → World → Prop} (hgd : o.guard = none) (m x : Operand) (t k : TypeId) (hop : o.op = .call { callee := .builtin .delete, args := #[m, x], argTypes := #[t, k] })
    (vm vx : Value) (hm : a.eval m = vm) (hx : a.eval x = vx) {v : Value} {w' : World} (hrun : (Builtin.delete_ #[t, k] o.type #[vm, vx]).run P w = .ok v w') (h : wpList P ops Q rest (a.put o.dst v) w') : wpList P ops Q (o :: rest) a w := by
  refine wpList_plain hgd fun K' hK' => ?_
  unfold Oper.wp
  simp [execOp, hop, resolve, invoke, builtin, hm, hx, hrun, Result.andThen]
  exact hK' _ _ h

/-- What 'leave' leaves. -/
def LeaveSaid (gm rb cap Ng : Nat) (fg : Lit → Option Value) (s : ByteArray) (xs : List Int) (k : Int) (w : World) (e : Ending) (w' : World) : Prop :=
  e = .returned (.tuple #[]) ∧ Chg (fun i => i = rb ∨ i = gm) w w' ∧ ((outI xs k = [] ∧ MapV Try.prog 9 w' gm (Ng - 1) (delV fg (strK s))) ∨
    (outI xs k ≠ [] ∧ MapV Try.prog 9 w' gm Ng (putV fg (strK s) (.slice (some ⟨rb, 0, none⟩) (outI xs k).length cap)) ∧ w'.ownsRow 0 3 1 (.slice (some ⟨rb, 0, none⟩) (outI xs k).length cap) (outI xs k).length ((outI xs k).map (Value.int .i64))))
set_option maxHeartbeats 800000 in
theorem leave_any {w : World} {l gm pm Ng rb cap B : Nat} {z : Value} {fg : Lit → Option Value} {s : ByteArray} {xs : List Int} {k : Int} (hb : w.heap[l]? = some (.cells #[.map (some gm), .map (some pm), z] 54 (0, 0)))
    (hg : MapV Try.prog 9 w gm Ng fg) (hNg : Ng < 1000000) (hs : s.size ≤ maxLen) (hv : fg (strK s) = some (.slice (some ⟨rb, 0, none⟩) xs.length cap)) (ho : w.ownsRow 0 3 1 (.slice (some ⟨rb, 0, none⟩) xs.length cap) xs.length (xs.map (Value.int .i64)))
    (hB : B < w.heap.size) (hBr : B ≠ rb) (hlr : l ≠ rb) (hc : w.cell? ⟨B, 0, none⟩ = some (.int .i64 k)) :
    Calls Try.prog 25 #[.pointer (some ⟨l, 0, none⟩), .string s, .func (.func 26) #[] #[.pointer (some ⟨B, 0, none⟩)]] w (LeaveSaid gm rb cap Ng fg s xs k w) := by
  obtain ⟨c0, c1, c2, _⟩ := three_cells hb
  have hlk := hg.look keyed_str Try.underlying51 (zero_row w) (key_str hs)
  rw [hv] at hlk
  have hlk' : (Instr.lookup 51 (.map (some gm)) (.string s) false).run Try.prog w = .ok (.slice (some ⟨rb, 0, none⟩) xs.length cap) w := hlk
  have hgr : gm ≠ rb := fun e => by
    obtain ⟨es, c, hb2⟩ := hg.blk
    obtain ⟨cur, hb3, _⟩ := own_cells ho
    rw [e, hb3] at hb2
    cases hb2
  have HD := Lib.hid (delFunc_any (k := k) ho hB hBr hc)
  have hsome : (fg (strK s)).isSome = true := by rw [hv]; rfl
  obtain ⟨ys, hys⟩ : ∃ ys, ys = outI xs k := ⟨_, rfl⟩
  have HYS := Lib.hid hys
  rw [← hys] at HD
  clear hlk hys
  by_cases hy : ys = []
  · subst hy
    have HN : Hid (∀ w1, Chg (fun i => i = rb) w w1 → ∃ w2, w1.cell? ⟨l, 0, none⟩ = some (.map (some gm)) ∧ (Builtin.delete_ #[51, 9] 0 #[.map (some gm), .string s]).run Try.prog w1 = .ok (.tuple #[]) w2 ∧
        Hid (LeaveSaid gm rb cap Ng fg s xs k w (.returned (.tuple #[])) w2)) := Lib.hid fun w1 h1 => by
      obtain ⟨w2, hr, m2, _, c2⟩ := (hg.keep h1 hgr).drop keyed_str Try.underlying51 (key_str hs) hsome 0
      exact ⟨w2, (three_cells (h1.heap hb hlr)).1, hr, Lib.hid ⟨rfl, (h1.mono fun i _ e => .inl e).trans c2 fun i _ e => .inr e, .inl ⟨HYS.out.symm, m2⟩⟩⟩
    clear hb hg hv ho hB hBr hlr hc hsome hgr
    go_enter Try.func25, Try.ntmps25
    go_wp2_with (first
      | (go_at_call 33; refine HD.out.mono ?_; rintro e w1 ⟨rfl, _, hc1⟩; obtain ⟨w2, k0, hdel, HE⟩ := HN.out w1 hc1; have HDL := Lib.hid hdel; clear hc1 hdel)
      | (at_delete; refine wpList_delete_run rfl _ _ 51 9 rfl _ _ rfl rfl HDL.out ?_))
    refine bodyPost_ret (results_none rfl _ _ _) rfl ?_
    exact HE.out
  · have hpos : 0 < ys.length := List.length_pos_iff.2 hy
    have hne : ((ys.length : Int) == 0) = false := beq_eq_false_iff_ne.2 (by omega)
    have HN : Hid (∀ w1, w1.ownsRow 0 3 1 (.slice (some ⟨rb, 0, none⟩) ys.length cap) ys.length (ys.map (Value.int .i64)) → Chg (fun i => i = rb) w w1 → ∃ w2, w1.cell? ⟨l, 0, none⟩ = some (.map (some gm)) ∧ (Instr.mapUpdate 51 (.map (some gm)) (.string s) (.slice (some ⟨rb, 0, none⟩) ys.length cap)).run Try.prog w1 = .ok () w2 ∧
        Hid (LeaveSaid gm rb cap Ng fg s xs k w (.returned (.tuple #[])) w2)) := Lib.hid fun w1 h0 h1 => by
      obtain ⟨w2, hr, m2, c2⟩ := (hg.keep h1 hgr).put keyed_str Try.underlying51 (by unfold maxLen; omega) (key_str hs) (.slice (some ⟨rb, 0, none⟩) ys.length cap)
      rw [if_pos hsome] at m2
      refine ⟨w2, (three_cells (h1.heap hb hlr)).1, hr, Lib.hid ⟨rfl, (h1.mono fun i _ e => .inl e).trans c2 fun i _ e => .inr e, .inr ?_⟩⟩
      rw [← HYS.out]
      exact ⟨hy, m2, c2.own h0 fun g hg2 e => by simp [Value.ownBlock] at hg2; exact hgr (by rw [hg2, e])⟩
    clear hb hg hv ho hB hBr hlr hc hsome hgr
    obtain ⟨n, hn⟩ : ∃ n, n = ys.length := ⟨_, rfl⟩
    rw [← hn] at HD HN hne hpos
    clear hn
    go_enter Try.func25, Try.ntmps25
    go_wp2_with (go_at_call 33; refine HD.out.mono ?_; rintro e w1 ⟨rfl, ho1, hc1⟩; obtain ⟨w2, k0, hput, HE⟩ := HN.out w1 ho1 hc1; clear hc1 ho1)
    go_end0
    exact HE.out
end Go.Proofs.Yticmdeepfeiobaa
