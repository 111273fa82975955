/- What is proved here: what Drop and Due do to a timer. -/
/- What is proved here: what slices.Clone returns at things; what the timer's Copy and All do. -/
import Derived.Test.YtdjieapobodakaaGreatDoorPEx6
import Derived.Test.YtdjieapobodakaaGreatDoorLib
import Derived.Deep.RegionHeld3
import Derived.Test.YtdjieapobodakaaGreatDoorLibS
section
namespace Go.Proofs.YtdjieapobodakaaGreatDoor.Tim
open Go Go.RowKit Go.Maps
set_option maxRecDepth 100000

theorem take_any {w : World} {t m rb cap N : Nat} {H : List It} {f : Int → Option Nat} (h : Held w t m rb cap H f N) (hH : Heap H) (hT : Tells f H) (hwf : ∀ y ∈ H, wfk y.1) {i : Nat} (hi : i < H.length) (hl : H.length < 1000000) (hN : N < 1000000) :
    Calls Tryz.prog 87 #[.pointer (some ⟨t, 0, none⟩), .int .i64 i] w (TakeSaid t m rb cap N H (g H i) w) := by
  by_cases h1 : i + 1 = H.length
  · have := take_last h hH hT hwf (k := i) h1.symm hl
    exact this
  · exact take_other h hH hT hwf (k := H.length - 1) (by omega) (by omega) hl hN

/-- What Drop tells, and leaves. -/
def DropSaid (t : Nat) (R : List It) (id : Int) (Φ : Nat → Prop) (w : World) (e : Ending) (w' : World) : Prop :=
  e = .returned (.bool (decide ((dropR R id).length < R.length))) ∧ TOp t (dropR R id) Φ w w'
theorem more_old {Φ : Nat → Prop} {w : World} (k : Nat) (h : Φ k) : more Φ w k := .inl h
set_option maxHeartbeats 800000 in
theorem Drop_any {w : World} {t : Nat} {R : List It} {Φ : Nat → Prop} (h : TimerAt w t R Φ) (hn : R.length < 900000) (id : Int) (hid : wfk id) :
    Calls Tryz.prog 58 #[.pointer (some ⟨t, 0, none⟩), .int .i64 id] w (DropSaid t R id Φ w) := by
  have h0 := h
  obtain ⟨ho, m, v, H, f, hp, hl⟩ := h
  obtain ⟨c0, c1⟩ := two_cells' hl.blk
  have hlk := hl.map.look hid
  cases hf : f id with
  | none =>
    have hd : dropR R id = R := dropR_none fun y hy => hl.tells.none hf y ((hp.mem_iff).2 hy)
    have HE : Hid (DropSaid t R id Φ w (.returned (.bool false)) w) := Lib.hid (by
      unfold DropSaid
      rw [hd, decide_eq_false (Nat.lt_irrefl _)]
      exact ⟨rfl, h0.mono fun k _ hk => .inl hk, Chg.refl _ _⟩)
    have hlk' : (Instr.lookup 68 (.map (some m)) (.int .i64 id) true).run Tryz.prog w = .ok (.tuple #[.int .i64 (plc f id), .bool false]) w := by
      rw [hlk, hf]
      rfl
    clear hl hp ho hf hlk h0 hd
    go_enter Tryz.func58, Tryz.ntmps58
    go_wp2
    go_ret
    exact HE.out
  | some p =>
    obtain ⟨hpl, hpi⟩ := hl.tells.place hf
    obtain ⟨rb, cap, rfl, hh⟩ := hl.held (by omega)
    have hlen := hp.length_eq
    have hlk' : (Instr.lookup 68 (.map (some m)) (.int .i64 id) true).run Tryz.prog w = .ok (.tuple #[.int .i64 (p : Int), .bool true]) w := by
      rw [hlk]
      unfold plc
      rw [hf]
      rfl
    have HT := Lib.hid (take_any hh hl.heap hl.tells hl.wf hpl (by omega) (by omega))
    have HE : Hid (∀ e w', TakeSaid t m rb cap H.length H (g H p) w e w' → DropSaid t R id Φ w (.returned (.bool true)) w') := Lib.hid fun e w' ⟨he, H', f', h1, h2, h3, h4, h5⟩ => by
      rw [hpi] at h4
      have hlt : (dropR R id).length + 1 = R.length := by
        have h6 : g H p ∈ R := (hp.mem_iff).1 (g_mem hpl)
        have h7 := dropR_length ho.2 h6
        rwa [hpi] at h7
      have hP : H'.Perm (dropR R id) := h4.trans (dropR_perm hp id)
      unfold DropSaid
      rw [decide_eq_true (by omega)]
      refine ⟨rfl, ⟨ho.drop id, m, _, H', f', hP, TimerL.of_held h1 ?_ h2 h3 (fun y hy => hl.wf y (mem_dropR.1 ((h4.mem_iff).1 hy)).1) ⟨.inl hl.inn.1, .inl hl.inn.2.1, .inl (hl.inn.2.2 rb rfl)⟩⟩, ?_⟩
      · have := hP.length_eq
        omega
      · exact h5.mono fun i _ e => by
          rcases e with rfl | rfl | rfl
          · exact hl.inn.1
          · exact hl.inn.2.1
          · exact hl.inn.2.2 _ rfl
    clear hl hp ho hf hlk h0 hh hlen
    go_enter Tryz.func58, Tryz.ntmps58
    go_wp2_with (go_at_call 87; refine HT.out.mono ?_; rintro e w1 hs; have hs2 := hs; obtain ⟨rfl, _⟩ := hs2; have HX := Lib.hid (HE.out _ w1 hs); clear hs)
    go_ret
    exact HX.out

/-- What Due tells, and leaves. -/
def DueSaid (t : Nat) (R : List It) (now : Int) (Φ : Nat → Prop) (w : World) (e : Ending) (w' : World) : Prop :=
  ∃ v, e = .returned v ∧ w'.ownsRow w.heap.size 130 2 v (dueN R now) (flat (R.take (dueN R now))) ∧ TimerAt w' t (R.drop (dueN R now)) Φ ∧ Chg Φ w w'
/-- In each round of Due. -/
structure DueAt (w : World) (t m rb cap : Nat) (R : List It) (now : Int) (k : Nat) (v : Value) (wr : World) (H : List It) (f : Int → Option Nat) : Prop where
  held : Held wr t m rb cap H f H.length
  heap : Heap H
  tells : Tells f H
  wf : ∀ y ∈ H, wfk y.1
  perm : H.Perm (R.drop k)
  row : wr.ownsRow w.heap.size 130 2 v k (flat (R.take k))
  chg : Chg (fun i => i = t ∨ foot m rb i) w wr
  le : k ≤ dueN R now
set_option maxHeartbeats 3200000 in
set_option maxRecDepth 100000 in
theorem Due_any {w : World} {t : Nat} {R : List It} {Φ : Nat → Prop} (h : TimerAt w t R Φ) (hn : R.length < 900000) (now : Int) :
    Calls Tryz.prog 71 #[.pointer (some ⟨t, 0, none⟩), .int .i64 now] w (DueSaid t R now Φ w) := by
  have h0 := h
  obtain ⟨ho, m, v, H, f, hp, hl⟩ := h
  by_cases hz : H.length = 0
  · obtain rfl : R = [] := List.eq_nil_of_length_eq_zero (by rw [← hp.length_eq]; exact hz)
    obtain ⟨A, c, rfl, _⟩ := own_isSlice hl.row
    obtain ⟨c0, c1⟩ := two_cells' hl.blk
    rw [hz] at c0
    have HE : Hid (DueSaid t [] now Φ w (.returned (.slice none 0 0)) w) := Lib.hid ⟨_, rfl, World.ownsRow_nil _ _ _ _, h0, Chg.refl _ _⟩
    clear hl hp hz h0
    go_enter Tryz.func71, Tryz.ntmps71
    go_wp2
    refine wp_loop_rounds 1 ?_
    simp only [rounds_succ]
    go_wp2
    go_ret
    exact HE.out
  · obtain ⟨rb, cap, rfl, hh⟩ := hl.held (by omega)
    have hΦ := hl.inn
    have hrb : rb < w.heap.size := (hh.row.lt rb rfl).2
    have hm : m < w.heap.size := hh.map.lt
    have ht : t < w.heap.size := lt_of_block hh.blk
    have HO := Lib.hid ho
    have HS : Hid (DueAt w t m rb cap R now 0 (.slice none 0 0) w H f) := Lib.hid ⟨hh, hl.heap, hl.tells, hl.wf, hp, World.ownsRow_nil _ _ _ _, Chg.refl _ _, Nat.zero_le _⟩
    have HEND : Hid (∀ k v wr H f, DueAt w t m rb cap R now k v wr H f → (k < R.length → ¬ (g R k).2 ≤ now) → DueSaid t R now Φ w (.returned v) wr) := Lib.hid fun k v wr H f hd hnot => by
      have hk : dueN R now = k := dueN_eq (Nat.le_trans hd.le (dueN_le R now)) (fun j hj => dueN_lt (Nat.lt_of_lt_of_le hj hd.le)) hnot
      unfold DueSaid
      rw [hk]
      refine ⟨v, rfl, hd.row, ⟨?_, m, _, H, f, hd.perm, TimerL.of_held hd.held rfl hd.heap hd.tells hd.wf ⟨hΦ.1, hΦ.2.1, hΦ.2.2 rb rfl⟩⟩, hd.chg.mono fun i _ e => ?_⟩
      · exact ⟨ho.1.sublist (List.drop_sublist _ _), ho.2.sublist (List.Sublist.map _ (List.drop_sublist _ _))⟩
      · rcases e with rfl | rfl | rfl
        · exact hΦ.1
        · exact hΦ.2.1
        · exact hΦ.2.2 _ rfl
    obtain ⟨i0, hi, hz0, hz1, hz2⟩ := info_parts info_item
    clear hl hp hz h0 hh ho hΦ
    go_enter Tryz.func71, Tryz.ntmps71
    go_wp2
    go_loopw [5] (fun u wr => ∃ (k : Nat) (H : List It) (f : Int → Option Nat), k ≤ R.length ∧ Hid (u = u) ∧ Hid (DueAt w t m rb cap R now k u wr H f)) (fun u _ => R.length - (match u with | .slice _ n _ => n | _ => 0))
    case atStart => exact ⟨0, H, f, Nat.zero_le _, Lib.hid rfl, HS⟩
    case round =>
      clear HS
      obtain ⟨k, H, f, hk, _, HD⟩ := hrel
      obtain ⟨A, c, rfl, hcm, hcn, _⟩ := own_isSlice HD.out.row
      unfold maxLen at hcm
      obtain ⟨c0, c1⟩ := two_cells' HD.out.held.blk
      by_cases hz : H.length = 0
      · have HE := Lib.hid (HEND.out k _ wr H f HD.out fun hlt => by
          have := HD.out.perm.length_eq
          rw [List.length_drop] at this
          omega)
        rw [hz] at c0
        have hd0 : decide ((0 : Int) < 0) = false := rfl
        clear hz HEND
        go_wp2
        go_ret
        exact HE.out
      · have hpos : 0 < H.length := by omega
        have hpos' : (0 : Int) < (H.length : Int) := by omega
        have hdp : decide ((0 : Int) < (H.length : Int)) = true := decide_eq_true hpos'
        have hdp2 : decide (0 < H.length) = true := decide_eq_true hpos
        have hlen := HD.out.perm.length_eq
        rw [List.length_drop] at hlen
        have hkl : k < R.length := by omega
        have hHn : H.length < 900000 := by omega
        have hOk : Ord (R.drop k) := ⟨HO.out.1.sublist (List.drop_sublist _ _), HO.out.2.sublist (List.Sublist.map _ (List.drop_sublist _ _))⟩
        obtain ⟨r, hr⟩ := head_ord HD.out.heap HD.out.perm hOk hpos
        have hgk : g R k = g H 0 := by
          have h1 := List.drop_eq_getElem_cons hkl
          rw [hr, g_get hkl] at h1
          exact (List.cons.inj h1).1.symm
        have hrd : r = R.drop (k + 1) := by
          have h1 := List.drop_eq_getElem_cons hkl
          rw [hr] at h1
          exact (List.cons.inj h1).2
        obtain ⟨r0, r1⟩ := HD.out.held.cell hpos
        rw [Nat.zero_mul] at r0 r1
        rw [Nat.zero_add] at r1
        obtain ⟨_, _, hc1, hc2⟩ := HD.out.held.rowb
        unfold maxLen at hc2
        by_cases hle : (g H 0).2 ≤ now
        · have hdl : decide ((g H 0).2 ≤ now) = true := decide_eq_true hle
          have HT := Lib.hid (take_any HD.out.held HD.out.heap HD.out.tells HD.out.wf (i := 0) hpos (by omega) (by omega))
          have HN : Hid (∀ w1, TakeSaid t m rb cap H.length H (g H 0) wr (.returned (.agg #[.int .i64 (g H 0).1, .int .i64 (g H 0).2])) w1 → ∀ v2 w2, w2.ownsRow w.heap.size 130 2 v2 (k + 1) (flat (R.take k) ++ [.int .i64 (g H 0).1, .int .i64 (g H 0).2]) →
              (w1.alloc (.cells #[.int .i64 (g H 0).1, .int .i64 (g H 0).2] 130)).grownBy w2 (Value.slice A k c).ownBlock → ∃ A' c' H' f', v2 = .slice A' (k + 1) c' ∧ Hid (DueAt w t m rb cap R now (k + 1) v2 w2 H' f')) := Lib.hid fun w1 ⟨_, H', f', h1, h2, h3, h4, h5⟩ v2 w2 ho2 hg2 => by
            obtain ⟨A', c', rfl, _⟩ := own_isSlice ho2
            have hb : ∀ g, (Value.slice A k c).ownBlock = some g → w.heap.size ≤ g := fun g hg => (HD.out.row.lt g hg).1
            have cg : Chg (fun i => (Value.slice A k c).ownBlock = some i) w1 w2 := (Chg.alloc (Φ := fun i => (Value.slice A k c).ownBlock = some i) w1 _).trans (Chg.of_grown hg2) fun _ _ e => e
            have hP : H'.Perm (R.drop (k + 1)) := by
              have h6 : dropR (R.drop k) (g H 0).1 = r := by rw [hr] at hOk ⊢; exact dropR_head hOk
              rw [← hrd, ← h6]
              exact h4.trans (dropR_perm HD.out.perm _)
            have hl' : H'.length = H.length - 1 := by
              have := hP.length_eq
              rw [List.length_drop] at this
              omega
            refine ⟨A', c', H', f', rfl, Lib.hid ⟨?_, h2, h3, fun y hy => HD.out.wf y (mem_dropR.1 ((h4.mem_iff).1 hy)).1, hP, ?_, ?_, ?_⟩⟩
            · rw [hl']
              exact h1.keep cg (fun e => by have := hb t e; omega) (fun e => by have := hb m e; omega) (fun e => by have := hb rb e; omega)
            · have e : R.take (k + 1) = R.take k ++ [g H 0] := by
                rw [List.take_succ_eq_append_getElem hkl, g_get hkl, hgk]
              rw [e, flat_append, flat_one]
              exact ho2
            · exact (HD.out.chg.trans h5 fun i _ e => e).trans cg fun i hi e => absurd hi (by have := hb i e; omega)
            · rcases Nat.lt_or_ge k (dueN R now) with h7 | h7
              · exact h7
              · have h8 : dueN R now = k := by have := HD.out.le; omega
                have h9 := dueN_at (R := R) (now := now) (by omega)
                rw [h8, hgk] at h9
                exact absurd hle h9
          have HROW : Hid (∀ w1, TakeSaid t m rb cap H.length H (g H 0) wr (.returned (.agg #[.int .i64 (g H 0).1, .int .i64 (g H 0).2])) w1 → w1.ownsRow w.heap.size 130 2 (.slice A k c) k (flat (R.take k)) ∧ w.heap.size ≤ w1.heap.size) := Lib.hid fun w1 ⟨_, H', f', h1, h2, h3, h4, h5⟩ => by
            refine ⟨h5.own HD.out.row fun g hg e => ?_, Nat.le_trans HD.out.chg.size h5.size⟩
            have := (HD.out.row.lt g hg).1
            rcases e with e | e | e <;> omega
          clear hr hgk hrd hlen HEND HD hOk
          generalize g H 0 = y at *
          go_wp2_with (first
            | (go_at_call 87; refine HT.out.mono ?_; rintro e w1 hs; have hs2 := hs; obtain ⟨rfl, _⟩ := hs2; have HNX := Lib.hid (HN.out w1 hs); have HRX := Lib.hid (HROW.out w1 hs); clear hs)
            | (at_builtin; refine wpList_append_src (o := ⟨some 27, _, _, _, _, _⟩) rfl (.tmp 23) (.tmp 26) 127 rfl w.heap.size 130 i0 _ 2 16 Tryz.underlying127 hi hz0 hz1 hz2 rfl (by omega) _ k _ rfl (HRX.out.1.alloc _) (some ⟨w1.heap.size, 0, none⟩) 1 1 [.int .i64 y.1, .int .i64 y.2] rfl rfl (fun e => by cases e) (news_item w1 _ _ _) (one_cell2 _ _) (by unfold maxLen; omega) (by omega) (by have := HRX.out.2; simp; omega) ?_; intro v2 w2 ho2 hg2; obtain ⟨A', c', H', f', rfl, HDX⟩ := HNX.out v2 w2 ho2 hg2; clear ho2 hg2))
          go_roundw
          case rel => exact ⟨k + 1, H', f', by omega, by first | exact Lib.hid rfl | exact Lib.hid trivial, HDX⟩
          case measure => simp; omega
        · have hdl : decide ((g H 0).2 ≤ now) = false := decide_eq_false hle
          have HE := Lib.hid (HEND.out k _ wr H f HD.out fun _ => by rw [hgk]; omega)
          clear hr hgk hrd hlen HEND HD hOk
          generalize g H 0 = y at *
          go_wp2
          go_ret
          exact HE.out
end Go.Proofs.YtdjieapobodakaaGreatDoor.Tim
end

section
namespace Go.Proofs.YtdjieapobodakaaGreatDoor.Tim
open Go Go.RowKit Go.Maps Go.Sort
set_option maxRecDepth 100000

theorem own_empty (w : World) : (w.alloc (.cells #[] 130)).ownsRow w.heap.size 130 2 (.slice (some ⟨w.heap.size, 0, none⟩) 0 0) 0 [] :=
  ⟨rfl, .inr ⟨w.heap.size, 0, #[], rfl, Nat.le_refl _, heap_alloc_new w _, Nat.le_refl _, Nat.zero_le _, rfl, rfl⟩⟩
/-- What Clone returns: the same things, in new memory. -/
def CloneSaid (H : List It) (w : World) (e : Ending) (w' : World) : Prop :=
  ∃ A c, e = .returned (.slice A H.length c) ∧ w'.ownsRow w.heap.size 130 2 (.slice A H.length c) H.length (flat H) ∧ Below w.heap.size w w'
set_option maxHeartbeats 800000 in
theorem Clone_any {w : World} {v : Value} {H : List It} (h : w.ownsRow 0 130 2 v H.length (flat H)) (hn : H.length < 900000) :
    Calls Tryz.prog 63 #[v] w (CloneSaid H w) := by
  have h0 := h
  obtain ⟨A, c, rfl, hcm, hcn, hA⟩ := own_isSlice h
  unfold maxLen at hcm
  rcases hA with rfl | ⟨gb, rfl, hgl, _⟩
  · have hz : H.length = 0 ∧ c = 0 := by
      rcases h.2 with ⟨e1, e⟩ | ⟨_, _, _, e, _⟩
      · exact ⟨e, (Value.slice.inj e1).2.2⟩
      · cases e
    obtain ⟨hz, rfl⟩ := hz
    obtain rfl : H = [] := List.eq_nil_of_length_eq_zero hz
    have HE : Hid (CloneSaid [] w (.returned (.slice none 0 0)) w) := Lib.hid ⟨none, 0, rfl, World.ownsRow_nil _ _ _ _, Below.refl _ _⟩
    have hq : (binOp .eql 127 (.slice none 0 0) (.slice none 0 0)).run Tryz.prog w = .ok (.bool true) w := by rw [Lib.run_eql_slice_nil (P := Tryz.prog) w 127 130 none 0 0 0 0 Tryz.underlying127]; rfl
    clear h h0 hz
    go_enter Tryz.func63, Tryz.ntmps63
    go_wp2
    go_ret
    exact HE.out
  · have HE := Lib.hid (own_empty w)
    have hnews : ∀ ad, some (⟨gb, 0, none⟩ : Addr) = some ad → ∀ j u, (flat H)[j]? = some u → (w.alloc (.cells #[] 130)).cell? (ad.add j) = some u := fun ad had j u hu => by
      obtain rfl := Option.some.inj had
      have h1 := (h.alloc (.cells #[] 130)).cells (g := gb) rfl j u hu
      exact h1
    have HN := Lib.hid hnews
    have HF : Hid ((flat H).length = H.length * 2) := Lib.hid (flat_len H)
    have H1 : Hid (∀ u ∈ flat H, u.oneCell' = true) := Lib.hid fun u hu => by
      unfold flat at hu
      obtain ⟨y, _, hy⟩ := List.mem_flatMap.1 hu
      exact one_cell2 _ _ u hy
    have HX : Hid (∀ v2 w2, w2.ownsRow w.heap.size 130 2 v2 (0 + H.length) ([] ++ flat H) → (w.alloc (.cells #[] 130)).grownBy w2 (Value.slice (some ⟨w.heap.size, 0, none⟩) 0 0).ownBlock → CloneSaid H w (.returned v2) w2) := Lib.hid fun v2 w2 ho hg => by
      rw [Nat.zero_add, List.nil_append] at ho
      obtain ⟨A2, c2, rfl, _⟩ := own_isSlice ho
      exact ⟨A2, c2, rfl, ho, ((Below.refl w.heap.size w).alloc (Nat.le_refl _) _).grown hg (by simp) (fun k hk => by simp [Value.ownBlock] at hk; omega)⟩
    obtain ⟨i0, hi, hz0, hz1, hz2⟩ := info_parts info_item
    have hq := Lib.run_eql_slice_nil (P := Tryz.prog) w 127 130 (some ⟨gb, 0, none⟩) H.length c 0 0 Tryz.underlying127
    have hq2 : (binOp .eql 127 (.slice (some ⟨gb, 0, none⟩) H.length c) (.slice none 0 0)).run Tryz.prog w = .ok (.bool false) w := by rw [hq]; rfl
    clear h h0 hnews hq
    generalize flat H = F at *
    generalize hL : H.length = n at *
    have HL := Lib.hid hL
    clear hL
    go_enter Tryz.func63, Tryz.ntmps63
    go_wp2_with (at_builtin; refine wpList_append_src (o := ⟨some 7, _, _, _, _, _⟩) rfl (.tmp 5) (.tmp 6) 127 rfl w.heap.size 130 i0 _ 2 16 Tryz.underlying127 hi hz0 hz1 hz2 rfl (by omega) _ 0 [] rfl HE.out (some ⟨gb, 0, none⟩) n c F rfl HF.out (fun e => by cases e) HN.out H1.out (by unfold maxLen; omega) (by omega) (by simp) ?_; intro v2 w2 ho2 hg2; have HR := Lib.hid (HX.out v2 w2 ho2 hg2); clear ho2 hg2)
    go_ret
    exact HR.out

/-- What Copy returns. -/
def CopySaid (R : List It) (w : World) (e : Ending) (w' : World) : Prop :=
  ∃ t', e = .returned (.pointer (some ⟨t', 0, none⟩)) ∧ w.heap.size ≤ t' ∧ TimerAt w' t' R (fun k => w.heap.size ≤ k) ∧ Below w.heap.size w w'
set_option maxHeartbeats 1600000 in
set_option maxRecDepth 100000 in
theorem Copy_any {w : World} {t : Nat} {R : List It} {Φ : Nat → Prop} (h : TimerAt w t R Φ) (hn : R.length < 900000) :
    Calls Tryz.prog 35 #[.pointer (some ⟨t, 0, none⟩)] w (CopySaid R w) := by
  obtain ⟨ho, m, v, H, f, hp, hl⟩ := h
  have hlen : H.length < 900000 := by have := hp.length_eq; omega
  obtain ⟨c0, c1⟩ := two_cells' hl.blk
  have htl := lt_of_block hl.blk
  have HC1 : Hid (∀ V, Below w.heap.size w V → Calls Tryz.prog 63 #[v] V fun e w' => ∃ A c, e = .returned (.slice A H.length c) ∧ w'.cell? ⟨t, 0, none⟩ = some v ∧ w'.cell? ⟨t, 1, none⟩ = some (.map (some m)) ∧ Below w.heap.size w w' ∧
      Hid (w'.ownsRow w.heap.size 130 2 (.slice A H.length c) H.length (flat H) ∧ Below V.heap.size V w')) := Lib.hid fun V hV => (Clone_any (own_below hl.row hV) hlen).mono (by
    rintro e w' ⟨A, c, rfl, ho1, hb1⟩
    have hb2 := hV.trans (hb1.mono hV.size)
    exact ⟨A, c, rfl, (hb2.cell (p := ⟨t, 0, none⟩) htl).trans c0, (hb2.cell (p := ⟨t, 1, none⟩) htl).trans c1, hb2, Lib.hid ⟨own_base ho1 hV.size, hb1⟩⟩)
  have HC2 : Hid (∀ V, Below w.heap.size w V → Calls Tryz.prog 64 #[.map (some m)] V fun e w' => ∃ mb, e = .returned (.map (some mb)) ∧ w'.cell? ⟨t, 0, none⟩ = some v ∧ w'.cell? ⟨t, 1, none⟩ = some (.map (some m)) ∧ Below w.heap.size w w' ∧
      Hid (w.heap.size ≤ mb ∧ Places w' mb f H.length ∧ Below V.heap.size V w')) := Lib.hid fun V hV => by
    obtain ⟨D, hD, h2, h3⟩ := hl.map.keep (Φ := fun _ => False) (Chg.of_below hV) id
    have hcon := AnyW.maps_Clone_owns Tryz.cloneTim 3 _ m H.length D V hD
    change Calls Tryz.prog 64 _ _ _ at hcon
    refine hcon.mono ?_
    rintro e w' ⟨rfl, hD2, _, hb1⟩
    have hb2 := hV.trans (hb1.mono hV.size)
    exact ⟨_, rfl, (hb2.cell (p := ⟨t, 0, none⟩) htl).trans c0, (hb2.cell (p := ⟨t, 1, none⟩) htl).trans c1, hb2, Lib.hid ⟨hV.size, ⟨D, hD2, h2, h3⟩, hb1⟩⟩
  have HEND : Hid (∀ V2 A c mb, Below w.heap.size w V2 → V2.ownsRow w.heap.size 130 2 (.slice A H.length c) H.length (flat H) → Places V2 mb f H.length → w.heap.size ≤ mb →
      CopySaid R w (.returned (.pointer (some ⟨V2.heap.size, 0, none⟩))) (V2.alloc (.cells #[.slice A H.length c, .map (some mb)] 132))) := Lib.hid fun V2 A c mb hb ho2 hpl hmb => by
    refine ⟨_, rfl, hb.size, ⟨ho, mb, _, H, f, hp, heap_alloc_new _ _, ?_, hpl.keep (Chg.alloc (Φ := fun _ => False) _ _) id, hl.heap, hl.tells, hl.wf, hb.size, hmb, fun g hg => (ho2.lt g hg).1⟩, hb.alloc hb.size _⟩
    exact own_base (ho2.alloc _) (Nat.zero_le _)
  have HB0 : Hid (Below w.heap.size w w.drew) := Lib.hid (Below.refl _ _).drew
  have HK : Hid (∀ V, Below w.heap.size w V → V.cell? ⟨t, 0, none⟩ = some v ∧ V.cell? ⟨t, 1, none⟩ = some (.map (some m)) ∧ Below w.heap.size w V) := Lib.hid fun V hb => ⟨(hb.cell (p := ⟨t, 0, none⟩) htl).trans c0, (hb.cell (p := ⟨t, 1, none⟩) htl).trans c1, hb⟩
  obtain ⟨A0, cc, rfl, _⟩ := own_isSlice hl.row
  clear hl hp ho
  go_enter Tryz.func35, Tryz.ntmps35
  go_wp2_with fail
  go_region_held3 (fun w' => w'.cell? ⟨t, 0, none⟩ = some (.slice A0 H.length cc) ∧ w'.cell? ⟨t, 1, none⟩ = some (.map (some m)) ∧ Below w.heap.size w w')
    (first | exact ⟨by assumption, by assumption, by assumption⟩ | exact HK.out _ (hbB.alloc hbB.size _) | exact HK.out _ (hbA.alloc hbA.size _) | exact ⟨c0, c1, HB0.out⟩)
    (first
      | (go_at_call 63; refine (HC1.out _ (by first | assumption | exact HB0.out)).mono ?_; rintro e wA ⟨A', c', rfl, p0, p1, hbA, HA⟩)
      | (go_at_call 64; refine (HC2.out _ (by first | assumption | exact HB0.out)).mono ?_; rintro e wB ⟨mb, rfl, p2, p3, hbB, HB⟩))
  go_wp2_with fail
  go_ret
  exact HEND.out wB A' c' mb hbB (own_below HA.out.1 HB.out.2.2) HB.out.2.1 HB.out.1

theorem SWO_item : SWO (ltOf cmpf) where
  irrefl x := by
    unfold ltOf
    exact decide_eq_false fun h => bef_irrefl x ((cmpf_neg _ _).1 h)
  trans x y z h1 h2 := by
    unfold ltOf at *
    exact decide_eq_true ((cmpf_neg _ _).2 (bef_trans ((cmpf_neg _ _).1 (of_decide_eq_true h1)) ((cmpf_neg _ _).1 (of_decide_eq_true h2))))
  ntrans x y z h1 h2 := by
    unfold ltOf at *
    refine decide_eq_false fun h => ?_
    have k1 : le y x := fun e => of_decide_eq_false h1 ((cmpf_neg _ _).2 e)
    have k2 : le z y := fun e => of_decide_eq_false h2 ((cmpf_neg _ _).2 e)
    exact le_trans k2 k1 ((cmpf_neg _ _).1 h)
theorem cmpLays (blk off size : Nat) (w : World) : CmpLays Tryz.prog 148 #[] cells2 2 cmpf blk off size w := fun _ _ _ _ x y => compare_any x y _
theorem flatK_flat (H : List It) (t : Nat) (ht : t < H.length * 2) : (flatK cells2 2 H.toArray)[t]? = (flat H)[t]? := by
  have e1 : t / 2 < H.length := by omega
  have e2 : H.toArray[t / 2]! = g H (t / 2) := by
    rw [getElem!_pos H.toArray (t / 2) (by simpa using e1)]
    simp [← g_get e1]
  obtain ⟨h1, h2⟩ := flat_at e1
  have e3 : (flatK cells2 2 H.toArray)[t]? = some ((cells2 H.toArray[t / 2]!)[t % 2]!) := by
    rw [← get_flatK cells2 2 H.toArray t (by simpa using ht)]
    rw [getElem!_pos (flatK cells2 2 H.toArray) t (by simpa using ht)]
    exact Array.getElem?_eq_getElem _
  rw [e3, e2]
  have hm : t % 2 = 0 ∨ t % 2 = 1 := by omega
  rcases hm with hm | hm
  · rw [hm]
    have : t / 2 * 2 = t := by omega
    rw [this] at h1
    rw [h1]
    rfl
  · rw [hm]
    have : t / 2 * 2 + 1 = t := by omega
    rw [this] at h2
    rw [h2]
    rfl
theorem own_of_cells {w : World} {base gb cap n : Nat} {cur : Array Value} {L : List It} (hb : w.heap[gb]? = some (.cells cur 130 (0, 0))) (hg : base ≤ gb) (hs : cur.size = cap * 2) (hn : n ≤ cap) (hm : cap ≤ maxLen) (hL : L.length = n)
    (hc : ∀ j, j < n * 2 → w.cell? ⟨gb, j, none⟩ = (flat L)[j]?) : w.ownsRow base 130 2 (.slice (some ⟨gb, 0, none⟩) n cap) n (flat L) := by
  refine ⟨by rw [flat_len, hL], .inr ⟨gb, cap, cur, rfl, hg, hb, hn, hm, hs, ?_⟩⟩
  apply List.ext_getElem?
  intro j
  by_cases hj : j < n * 2
  · have h1 := hc j hj
    rw [cell_of_row _ _ _ _ _ _ hb] at h1
    rw [List.getElem?_take, if_pos hj, ← h1]
    simp
  · rw [List.getElem?_eq_none (by rw [List.length_take]; omega), List.getElem?_eq_none (by rw [flat_len, hL]; omega)]
theorem heap_sorted {w : World} {gb n : Nat} {d' : Array It} {os : Array Obj} (hg : gb < w.heap.size) {cur : Array Value} {e : TypeId} {fr : Nat × Nat} (hb : w.heap[gb]? = some (.cells cur e fr)) :
    (∃ cur', (sortWorldK cells2 2 w gb 0 n d' os).heap[gb]? = some (.cells cur' e fr) ∧ cur'.size = cur.size) ∧ Chg (fun k => k = gb) w (sortWorldK cells2 2 w gb 0 n d' os) := by
  unfold sortWorldK putRowK putRow mapBlock
  refine ⟨⟨putCells id 0 (flatK cells2 2 d') cur, ?_, by simp [putCells]⟩, rfl, rfl, rfl, ?_, fun k hk hne => ?_⟩
  · rw [heap_grow_old _ _ (by simpa [ahead] using hg)]
    show (w.heap.modify gb (onCells (putCells id 0 (flatK cells2 2 d'))))[gb]? = _
    rw [Array.getElem?_modify, if_pos rfl, hb]
    rfl
  · simp
  · rw [heap_grow_old _ _ (by simpa [ahead] using hk)]
    show (w.heap.modify gb (onCells (putCells id 0 (flatK cells2 2 d'))))[k]? = _
    rw [Array.getElem?_modify, if_neg (fun e => hne e.symm)]

/-- What All returns. -/
def AllSaid (R : List It) (w : World) (e : Ending) (w' : World) : Prop :=
  ∃ A c, e = .returned (.slice A R.length c) ∧ w'.ownsRow w.heap.size 130 2 (.slice A R.length c) R.length (flat R) ∧ Below w.heap.size w w'
/-- The sort, behind the copy. -/
theorem Sort_any {w w1 : World} {A : Option Addr} {c : Nat} {H R : List It} (ho : Ord R) (hp : H.Perm R) (hn : R.length < 900000) (h1 : w1.ownsRow w.heap.size 130 2 (.slice A H.length c) H.length (flat H)) (hb : Below w.heap.size w w1) :
    Calls Tryz.prog 72 #[.slice A H.length c, .func (.func 148) #[] #[]] w1 fun e w' => e = .returned (.tuple #[]) ∧ Hid (AllSaid R w (.returned (.slice A H.length c)) w') := by
  have hlen := hp.length_eq
  by_cases hz : H.length = 0
  · have hcon := AnyF.slices_SortFunc_none Tryz.sortItem A c (.func (.func 148) #[] #[]) w1
    change Calls Tryz.prog 72 _ _ _ at hcon
    obtain rfl : H = [] := List.eq_nil_of_length_eq_zero hz
    obtain rfl : R = [] := List.eq_nil_of_length_eq_zero (by rw [← hlen]; rfl)
    exact hcon.mono fun e w' ⟨he, hw⟩ => ⟨he, Lib.hid ⟨A, c, rfl, by rw [hw]; exact h1, by rw [hw]; exact hb⟩⟩
  · rcases h1.2 with ⟨_, e⟩ | ⟨gb, cap, cur, e, hbase, hblk, hnc, hcm, hcs, htake⟩
    · omega
    · obtain ⟨rfl, _, rfl⟩ := Value.slice.inj e
      have hglt := lt_of_block hblk
      have hH : HoldsK cells2 2 w1 gb 0 H.toArray := fun j hj => by
        rw [size_flatK] at hj
        have hj' : j < H.length * 2 := by simpa using hj
        refine ⟨?_, ?_⟩
        · rw [Nat.zero_add, h1.cellAt j hj', ← flatK_flat H j hj', getElem!_pos _ j (by rw [size_flatK]; exact hj)]
          exact Array.getElem?_eq_getElem _
        · rw [Nat.zero_add]
          exact h1.frozenAt j
      have eg : ∀ args w, (callFunc 148 args).run Tryz.prog w = .ok (.enter 148 args) w := enters_of Tryz.func148 (by kernel_rfl) rfl
      have hcon := AnyQ.slices_SortFunc Tryz.sortItem 2 Tryz.isAgg130 Tryz.sizeOf130 cells2 (fun _ => rfl) (fun x v hv => one_cell2 _ _ v hv) cmpf SWO_item 148 #[] gb 0 c H.toArray w1 eg (cmpLays gb 0 H.toArray.size w1) hH hglt (by simp; omega)
      change Calls Tryz.prog 72 _ _ _ at hcon
      rw [List.size_toArray] at hcon
      refine hcon.mono ?_
      rintro e w' ⟨he, d', n, os, ⟨hsz0, _, hperm⟩, hsort, rfl⟩
      have hsz : d'.size = H.length := by rw [hsz0]; simp
      have hD : d'.toList.Perm H := by
        have h2 : (d'.extract 0 H.length) = d' := by rw [← hsz]; simp
        have h3 : (H.toArray.extract 0 H.length) = H.toArray := by simp
        rw [h2, h3] at hperm
        simpa using hperm
      have hDl : d'.toList.length = H.length := hD.length_eq
      have hget : ∀ i, i < H.length → d'[i]! = g d'.toList i := fun i hi => by
        rw [getElem!_pos d' i (by omega), ← g_get (by omega : i < d'.toList.length)]
        simp
      have hpw : d'.toList.Pairwise le := List.pairwise_iff_getElem.2 fun i j hi hj hij => by
        rw [g_get, g_get, ← hget i (by omega), ← hget j (by omega)]
        have h4 := hsort i j (Nat.zero_le _) hij (by omega)
        unfold ltOf at h4
        exact fun hb => of_decide_eq_false h4 ((cmpf_neg _ _).2 hb)
      have hDR : d'.toList = R := ord_eq (hD.trans hp) hpw ho
      obtain ⟨⟨cur', hb', hs'⟩, hc⟩ := heap_sorted (n := n) (d' := d') (os := os) hglt hblk
      have hholds : HoldsK cells2 2 (sortWorldK cells2 2 w1 gb 0 n d' os) gb 0 d' := SWK.holds (d0 := H.toArray) ⟨n, os, rfl⟩ hglt hH hsz0
      refine ⟨he, Lib.hid ⟨some ⟨gb, 0, none⟩, c, by rw [hlen], ?_, ?_⟩⟩
      · rw [← hlen]
        refine own_of_cells hb' hbase (by rw [hs', hcs]) hnc hcm hlen.symm fun j hj => ?_
        have h5 := (hholds j (by rw [size_flatK, hsz]; exact hj)).1
        rw [Nat.zero_add] at h5
        have h6 := flatK_flat d'.toList j (by omega)
        rw [hDR] at h6
        have h7 : d'.toList.toArray = d' := by simp
        rw [← hDR, h7] at h6
        rw [h5, ← hDR, ← h6, getElem!_pos _ j (by rw [size_flatK, hsz]; exact hj)]
        exact (Array.getElem?_eq_getElem _).symm
      · exact hb.trans (hc.below hb.size fun i hi => by rw [hi]; exact hbase)

end Go.Proofs.YtdjieapobodakaaGreatDoor.Tim
end
