/- What is proved here: what Drop and Due do to a timer. -/
import Derived.Test.YtednibjemboclaaTake2
import Derived.Test.YtednibjemboclaaSet
namespace Go.Proofs.Ytednibjemboclaa
open Go Go.RowKit Go.Maps

theorem take_any {w : World} {t m rb cap N : Nat} {H : List It} {f : Int → Option Nat} (h : Held w t m rb cap H f N) (hH : Heap H) (hT : Tells f H) (hwf : ∀ y ∈ H, wfk y.1) {i : Nat} (hi : i < H.length) (hl : H.length < 1000000) (hN : N < 1000000) :
    Calls Try.prog 25 #[.pointer (some ⟨t, 0, none⟩), .int .i64 i] w (TakeSaid t m rb cap N H (g H i) w) := by
  by_cases h1 : i + 1 = H.length
  · have := take_last h hH hT hwf (k := i) h1.symm hl
    exact this
  · exact take_other h hH hT hwf (k := H.length - 1) (by omega) (by omega) hl hN

/-- What Drop tells, and leaves. -/
def DropSaid (t : Nat) (R : List It) (id : Int) (Φ : Nat → Prop) (w : World) (e : Ending) (w' : World) : Prop :=
  e = .returned (.bool (decide ((dropR R id).length < R.length))) ∧ TOp t (dropR R id) Φ w w'
theorem more_old {Φ : Nat → Prop} {w : World} (k : Nat) (h : Φ k) : more Φ w k := .inl h
set_option maxHeartbeats 800000 in
theorem Drop_any {w : World} {t : Nat} {R : List It} {Φ : Nat → Prop} (h : TimerAt w t R Φ) (hn : R.length < 900000) (id : Int) (hid : wfk id) :
    Calls Try.prog 14 #[.pointer (some ⟨t, 0, none⟩), .int .i64 id] w (DropSaid t R id Φ w) := by
  have h0 := h
  obtain ⟨ho, m, v, H, f, hp, hl⟩ := h
  obtain ⟨c0, c1⟩ := two_cells' hl.blk
  have hlk := hl.map.look hid
  cases hf : f id with
  | none =>
    have hd : dropR R id = R := dropR_none fun y hy => hl.tells.none hf y ((hp.mem_iff).2 hy)
    have HE : Hid (DropSaid t R id Φ w (.returned (.bool false)) w) := Lib.hid (by
      unfold DropSaid
      rw [hd, decide_eq_false (Nat.lt_irrefl _)]
      exact ⟨rfl, h0.mono fun k _ hk => .inl hk, Chg.refl _ _⟩)
    have hlk' : (Instr.lookup 53 (.map (some m)) (.int .i64 id) true).run Try.prog w = .ok (.tuple #[.int .i64 (plc f id), .bool false]) w := by
      rw [hlk, hf]
      rfl
    clear hl hp ho hf hlk h0 hd
    go_enter Try.func14, Try.ntmps14
    go_wp2
    go_ret
    exact HE.out
  | some p =>
    obtain ⟨hpl, hpi⟩ := hl.tells.place hf
    obtain ⟨rb, cap, rfl, hh⟩ := hl.held (by omega)
    have hlen := hp.length_eq
    have hlk' : (Instr.lookup 53 (.map (some m)) (.int .i64 id) true).run Try.prog w = .ok (.tuple #[.int .i64 (p : Int), .bool true]) w := by
      rw [hlk]
      unfold plc
      rw [hf]
      rfl
    have HT := Lib.hid (take_any hh hl.heap hl.tells hl.wf hpl (by omega) (by omega))
    have HE : Hid (∀ e w', TakeSaid t m rb cap H.length H (g H p) w e w' → DropSaid t R id Φ w (.returned (.bool true)) w') := Lib.hid fun e w' ⟨he, H', f', h1, h2, h3, h4, h5⟩ => by
      rw [hpi] at h4
      have hlt : (dropR R id).length + 1 = R.length := by
        have h6 : g H p ∈ R := (hp.mem_iff).1 (g_mem hpl)
        have h7 := dropR_length ho.2 h6
        rwa [hpi] at h7
      have hP : H'.Perm (dropR R id) := h4.trans (dropR_perm hp id)
      unfold DropSaid
      rw [decide_eq_true (by omega)]
      refine ⟨rfl, ⟨ho.drop id, m, _, H', f', hP, TimerL.of_held h1 ?_ h2 h3 (fun y hy => hl.wf y (mem_dropR.1 ((h4.mem_iff).1 hy)).1) ⟨.inl hl.inn.1, .inl hl.inn.2.1, .inl (hl.inn.2.2 rb rfl)⟩⟩, ?_⟩
      · have := hP.length_eq
        omega
      · exact h5.mono fun i _ e => by
          rcases e with rfl | rfl | rfl
          · exact hl.inn.1
          · exact hl.inn.2.1
          · exact hl.inn.2.2 _ rfl
    clear hl hp ho hf hlk h0 hh hlen
    go_enter Try.func14, Try.ntmps14
    go_wp2_with (go_at_call 25; refine HT.out.mono ?_; rintro e w1 hs; have hs2 := hs; obtain ⟨rfl, _⟩ := hs2; have HX := Lib.hid (HE.out _ w1 hs); clear hs)
    go_ret
    exact HX.out

/-- What Due tells, and leaves. -/
def DueSaid (t : Nat) (R : List It) (now : Int) (Φ : Nat → Prop) (w : World) (e : Ending) (w' : World) : Prop :=
  ∃ v, e = .returned v ∧ w'.ownsRow w.heap.size 41 2 v (dueN R now) (flat (R.take (dueN R now))) ∧ TimerAt w' t (R.drop (dueN R now)) Φ ∧ Chg Φ w w'
/-- In each round of Due. -/
structure DueAt (w : World) (t m rb cap : Nat) (R : List It) (now : Int) (k : Nat) (v : Value) (wr : World) (H : List It) (f : Int → Option Nat) : Prop where
  held : Held wr t m rb cap H f H.length
  heap : Heap H
  tells : Tells f H
  wf : ∀ y ∈ H, wfk y.1
  perm : H.Perm (R.drop k)
  row : wr.ownsRow w.heap.size 41 2 v k (flat (R.take k))
  chg : Chg (fun i => i = t ∨ foot m rb i) w wr
  le : k ≤ dueN R now
set_option maxHeartbeats 3200000 in
set_option maxRecDepth 100000 in
theorem Due_any {w : World} {t : Nat} {R : List It} {Φ : Nat → Prop} (h : TimerAt w t R Φ) (hn : R.length < 900000) (now : Int) :
    Calls Try.prog 17 #[.pointer (some ⟨t, 0, none⟩), .int .i64 now] w (DueSaid t R now Φ w) := by
  have h0 := h
  obtain ⟨ho, m, v, H, f, hp, hl⟩ := h
  by_cases hz : H.length = 0
  · obtain rfl : R = [] := List.eq_nil_of_length_eq_zero (by rw [← hp.length_eq]; exact hz)
    obtain ⟨A, c, rfl, _⟩ := own_isSlice hl.row
    obtain ⟨c0, c1⟩ := two_cells' hl.blk
    rw [hz] at c0
    have HE : Hid (DueSaid t [] now Φ w (.returned (.slice none 0 0)) w) := Lib.hid ⟨_, rfl, World.ownsRow_nil _ _ _ _, h0, Chg.refl _ _⟩
    clear hl hp hz h0
    go_enter Try.func17, Try.ntmps17
    go_wp2
    refine wp_loop_rounds 1 ?_
    simp only [rounds_succ]
    go_wp2
    go_ret
    exact HE.out
  · obtain ⟨rb, cap, rfl, hh⟩ := hl.held (by omega)
    have hΦ := hl.inn
    have hrb : rb < w.heap.size := (hh.row.lt rb rfl).2
    have hm : m < w.heap.size := hh.map.lt
    have ht : t < w.heap.size := lt_of_block hh.blk
    have HO := Lib.hid ho
    have HS : Hid (DueAt w t m rb cap R now 0 (.slice none 0 0) w H f) := Lib.hid ⟨hh, hl.heap, hl.tells, hl.wf, hp, World.ownsRow_nil _ _ _ _, Chg.refl _ _, Nat.zero_le _⟩
    have HEND : Hid (∀ k v wr H f, DueAt w t m rb cap R now k v wr H f → (k < R.length → ¬ (g R k).2 ≤ now) → DueSaid t R now Φ w (.returned v) wr) := Lib.hid fun k v wr H f hd hnot => by
      have hk : dueN R now = k := dueN_eq (Nat.le_trans hd.le (dueN_le R now)) (fun j hj => dueN_lt (Nat.lt_of_lt_of_le hj hd.le)) hnot
      unfold DueSaid
      rw [hk]
      refine ⟨v, rfl, hd.row, ⟨?_, m, _, H, f, hd.perm, TimerL.of_held hd.held rfl hd.heap hd.tells hd.wf ⟨hΦ.1, hΦ.2.1, hΦ.2.2 rb rfl⟩⟩, hd.chg.mono fun i _ e => ?_⟩
      · exact ⟨ho.1.sublist (List.drop_sublist _ _), ho.2.sublist (List.Sublist.map _ (List.drop_sublist _ _))⟩
      · rcases e with rfl | rfl | rfl
        · exact hΦ.1
        · exact hΦ.2.1
        · exact hΦ.2.2 _ rfl
    obtain ⟨i0, hi, hz0, hz1, hz2⟩ := info_parts info_item
    clear hl hp hz h0 hh ho hΦ
    go_enter Try.func17, Try.ntmps17
    go_wp2
    go_loopw [5] (fun u wr => ∃ (k : Nat) (H : List It) (f : Int → Option Nat), k ≤ R.length ∧ Hid (u = u) ∧ Hid (DueAt w t m rb cap R now k u wr H f)) (fun u _ => R.length - (match u with | .slice _ n _ => n | _ => 0))
    case atStart => exact ⟨0, H, f, Nat.zero_le _, Lib.hid rfl, HS⟩
    case round =>
      clear HS
      obtain ⟨k, H, f, hk, _, HD⟩ := hrel
      obtain ⟨A, c, rfl, hcm, hcn, _⟩ := own_isSlice HD.out.row
      unfold maxLen at hcm
      obtain ⟨c0, c1⟩ := two_cells' HD.out.held.blk
      by_cases hz : H.length = 0
      · have HE := Lib.hid (HEND.out k _ wr H f HD.out fun hlt => by
          have := HD.out.perm.length_eq
          rw [List.length_drop] at this
          omega)
        rw [hz] at c0
        have hd0 : decide ((0 : Int) < 0) = false := rfl
        clear hz HEND
        go_wp2
        go_ret
        exact HE.out
      · have hpos : 0 < H.length := by omega
        have hpos' : (0 : Int) < (H.length : Int) := by omega
        have hdp : decide ((0 : Int) < (H.length : Int)) = true := decide_eq_true hpos'
        have hdp2 : decide (0 < H.length) = true := decide_eq_true hpos
        have hlen := HD.out.perm.length_eq
        rw [List.length_drop] at hlen
        have hkl : k < R.length := by omega
        have hHn : H.length < 900000 := by omega
        have hOk : Ord (R.drop k) := ⟨HO.out.1.sublist (List.drop_sublist _ _), HO.out.2.sublist (List.Sublist.map _ (List.drop_sublist _ _))⟩
        obtain ⟨r, hr⟩ := head_ord HD.out.heap HD.out.perm hOk hpos
        have hgk : g R k = g H 0 := by
          have h1 := List.drop_eq_getElem_cons hkl
          rw [hr, g_get hkl] at h1
          exact (List.cons.inj h1).1.symm
        have hrd : r = R.drop (k + 1) := by
          have h1 := List.drop_eq_getElem_cons hkl
          rw [hr] at h1
          exact (List.cons.inj h1).2
        obtain ⟨r0, r1⟩ := HD.out.held.cell hpos
        rw [Nat.zero_mul] at r0 r1
        rw [Nat.zero_add] at r1
        obtain ⟨_, _, hc1, hc2⟩ := HD.out.held.rowb
        unfold maxLen at hc2
        by_cases hle : (g H 0).2 ≤ now
        · have hdl : decide ((g H 0).2 ≤ now) = true := decide_eq_true hle
          have HT := Lib.hid (take_any HD.out.held HD.out.heap HD.out.tells HD.out.wf (i := 0) hpos (by omega) (by omega))
          have HN : Hid (∀ w1, TakeSaid t m rb cap H.length H (g H 0) wr (.returned (.agg #[.int .i64 (g H 0).1, .int .i64 (g H 0).2])) w1 → ∀ v2 w2, w2.ownsRow w.heap.size 41 2 v2 (k + 1) (flat (R.take k) ++ [.int .i64 (g H 0).1, .int .i64 (g H 0).2]) →
              (w1.alloc (.cells #[.int .i64 (g H 0).1, .int .i64 (g H 0).2] 41)).grownBy w2 (Value.slice A k c).ownBlock → ∃ A' c' H' f', v2 = .slice A' (k + 1) c' ∧ Hid (DueAt w t m rb cap R now (k + 1) v2 w2 H' f')) := Lib.hid fun w1 ⟨_, H', f', h1, h2, h3, h4, h5⟩ v2 w2 ho2 hg2 => by
            obtain ⟨A', c', rfl, _⟩ := own_isSlice ho2
            have hb : ∀ g, (Value.slice A k c).ownBlock = some g → w.heap.size ≤ g := fun g hg => (HD.out.row.lt g hg).1
            have cg : Chg (fun i => (Value.slice A k c).ownBlock = some i) w1 w2 := (Chg.alloc (Φ := fun i => (Value.slice A k c).ownBlock = some i) w1 _).trans (Chg.of_grown hg2) fun _ _ e => e
            have hP : H'.Perm (R.drop (k + 1)) := by
              have h6 : dropR (R.drop k) (g H 0).1 = r := by rw [hr] at hOk ⊢; exact dropR_head hOk
              rw [← hrd, ← h6]
              exact h4.trans (dropR_perm HD.out.perm _)
            have hl' : H'.length = H.length - 1 := by
              have := hP.length_eq
              rw [List.length_drop] at this
              omega
            refine ⟨A', c', H', f', rfl, Lib.hid ⟨?_, h2, h3, fun y hy => HD.out.wf y (mem_dropR.1 ((h4.mem_iff).1 hy)).1, hP, ?_, ?_, ?_⟩⟩
            · rw [hl']
              exact h1.keep cg (fun e => by have := hb t e; omega) (fun e => by have := hb m e; omega) (fun e => by have := hb rb e; omega)
            · have e : R.take (k + 1) = R.take k ++ [g H 0] := by
                rw [List.take_succ_eq_append_getElem hkl, g_get hkl, hgk]
              rw [e, flat_append, flat_one]
              exact ho2
            · exact (HD.out.chg.trans h5 fun i _ e => e).trans cg fun i hi e => absurd hi (by have := hb i e; omega)
            · rcases Nat.lt_or_ge k (dueN R now) with h7 | h7
              · exact h7
              · have h8 : dueN R now = k := by have := HD.out.le; omega
                have h9 := dueN_at (R := R) (now := now) (by omega)
                rw [h8, hgk] at h9
                exact absurd hle h9
          have HROW : Hid (∀ w1, TakeSaid t m rb cap H.length H (g H 0) wr (.returned (.agg #[.int .i64 (g H 0).1, .int .i64 (g H 0).2])) w1 → w1.ownsRow w.heap.size 41 2 (.slice A k c) k (flat (R.take k)) ∧ w.heap.size ≤ w1.heap.size) := Lib.hid fun w1 ⟨_, H', f', h1, h2, h3, h4, h5⟩ => by
            refine ⟨h5.own HD.out.row fun g hg e => ?_, Nat.le_trans HD.out.chg.size h5.size⟩
            have := (HD.out.row.lt g hg).1
            rcases e with e | e | e <;> omega
          clear hr hgk hrd hlen HEND HD hOk
          generalize g H 0 = y at *
          go_wp2_with (first
            | (go_at_call 25; refine HT.out.mono ?_; rintro e w1 hs; have hs2 := hs; obtain ⟨rfl, _⟩ := hs2; have HNX := Lib.hid (HN.out w1 hs); have HRX := Lib.hid (HROW.out w1 hs); clear hs)
            | (at_builtin; refine wpList_append_src (o := ⟨some 27, _, _, _, _, _⟩) rfl (.tmp 23) (.tmp 26) 35 rfl w.heap.size 41 i0 _ 2 16 Try.underlying35 hi hz0 hz1 hz2 rfl (by omega) _ k _ rfl (HRX.out.1.alloc _) (some ⟨w1.heap.size, 0, none⟩) 1 1 [.int .i64 y.1, .int .i64 y.2] rfl rfl (fun e => by cases e) (news_item w1 _ _ _) (one_cell2 _ _) (by unfold maxLen; omega) (by omega) (by have := HRX.out.2; simp; omega) ?_; intro v2 w2 ho2 hg2; obtain ⟨A', c', H', f', rfl, HDX⟩ := HNX.out v2 w2 ho2 hg2; clear ho2 hg2))
          go_roundw
          case rel => exact ⟨k + 1, H', f', by omega, by first | exact Lib.hid rfl | exact Lib.hid trivial, HDX⟩
          case measure => simp; omega
        · have hdl : decide ((g H 0).2 ≤ now) = false := decide_eq_false hle
          have HE := Lib.hid (HEND.out k _ wr H f HD.out fun _ => by rw [hgk]; omega)
          clear hr hgk hrd hlen HEND HD hOk
          generalize g H 0 = y at *
          go_wp2
          go_ret
          exact HE.out
end Go.Proofs.Ytednibjemboclaa
