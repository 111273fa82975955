/- What is proved here: an append as a step of a region that draws its order; what Set does. -/
import Derived.Test.YtednibjemboclaaTimer
import Derived.Deep.RegionLaw
import Derived.Deep.Cut
import Derived.Maps.AppendAt
namespace Go.Proofs.Ytednibjemboclaa
open Go Go.RowKit Go.Maps

section
variable {P : Program} {w : World}
/-- 'append' to a row of the call's own, as one step of a region that draws its order; and where the new row lies. -/
theorem step_append_where {ops : Array Oper} {o : Oper} {a : Act} {K : Act → World → Prop} {Q : Exit → Act → World → Prop} {E : Prop} (hgd : o.guard = none) (s x : Operand) (t : TypeId)
    (ho : o.op = .call { callee := .builtin .append, args := #[s, x], argTypes := #[t, t] })
    (base : Nat) (e : TypeId) (i : TypeInfo) (z : Value) (size bytes : Nat) (ht : P.underlying t = some (.slice e)) (hi : P.info? e = some i) (hz : i.zero = some z)
    (hsize : i.size = size) (hby : i.bytes = bytes) (hzs : z.cells.size = size) (hsz : 0 < size)
    (v : Value) (n : Nat) (xs : List Value) (hs : a.eval s = v) (hown : w.ownsRow base e size v n xs)
    (A : Option Addr) (m c : Nat) (news : List Value) (hx : a.eval x = .slice A m c) (hl : news.length = m * size) (hnil : A = none → m = 0 ∧ c = 0)
    (hnews : ∀ ad, A = some ad → ∀ j u, news[j]? = some u → w.cell? (ad.add j) = some u) (h1 : ∀ u ∈ news, u.oneCell' = true)
    (h63 : n + m ≤ maxLen) (hbytes : (n + m) * bytes ≤ 140737488355328) (hbase : base ≤ w.heap.size)
    (h : ∀ v' w', w'.ownsRow base e size v' (n + m) (xs ++ news) → w.grownBy w' v.ownBlock → (v'.ownBlock = v.ownBlock ∨ v'.ownBlock = some w.heap.size) → K (a.put o.dst v') w') :
    if Region.wanted o (yielded ops a.tmps) = true then Oper.wp P o a w K Q else E := by
  have hw : Region.wanted o (yielded ops a.tmps) = true := by simp [Region.wanted, hgd]
  rw [if_pos hw]
  rcases A with _ | ad
  · obtain ⟨rfl, rfl⟩ := hnil rfl
    have hn : news = [] := List.eq_nil_of_length_eq_zero (by simpa using hl)
    subst hn
    have hrun := run_append_owned_none (P := P) w base t o.type e i size ht hi v n xs hown
    unfold Oper.wp
    simp [execOp, ho, resolve, invoke, builtin, hs, hx, hrun, Result.andThen]
    exact h v w (by simpa using hown) (World.grownBy.refl _ _) (.inl rfl)
  · obtain ⟨v', w', hrun, h2, h3, _, h5⟩ := run_append_own_at (P := P) w base t o.type e i z size bytes ht hi hz hsize hby hzs hsz v n xs hown ad m c news hl (hnews ad rfl) h1 h63 hbytes hbase
    unfold Oper.wp
    simp [execOp, ho, resolve, invoke, builtin, hs, hx, hrun, Result.andThen]
    exact h v' w' h2 h3 h5
end


theorem two_allS {w : World} {b : Nat} {x y : Value} {t : TypeId} (h : w.heap[b]? = some (.cells #[x, y] t (0, 0))) :
    w.cell? ⟨b, 0, none⟩ = some x ∧ w.cell? ⟨b, 1, none⟩ = some y ∧ w.frozen? ⟨b, 0, none⟩ = false ∧ w.frozen? ⟨b, 1, none⟩ = false ∧ b < w.heap.size := by
  obtain ⟨h1, h2, h3, h4⟩ := two_cells h
  exact ⟨h1, h2, h3, h4, lt_of_block h⟩
theorem info_item : (Try.prog.info? 41).map (fun i => (i.zero, i.size, i.bytes)) = some (some (.agg #[.int .i64 0, .int .i64 0]), 2, 16) := by kernel_rfl
theorem news_item (w : World) (x y : Value) (t : TypeId) : ∀ ad, some (⟨w.heap.size, 0, none⟩ : Addr) = some ad → ∀ j u, [x, y][j]? = some u → (w.alloc (.cells #[x, y] t)).cell? (ad.add j) = some u := by
  intro ad had j u hu
  obtain rfl := Option.some.inj had
  rcases j with _ | _ | j
  · rw [Addr.add_lit, cell_of_row _ _ _ _ _ _ (heap_alloc_new w _)]
    simpa using hu
  · rw [Addr.add_lit, cell_of_row _ _ _ _ _ _ (heap_alloc_new w _)]
    simpa using hu
  · simp at hu
theorem one_cell2 (x y : Int) : ∀ u ∈ [Value.int .i64 x, .int .i64 y], u.oneCell' = true := by
  intro u hu
  simp at hu
  rcases hu with rfl | rfl <;> rfl

/-- What a call that may change a timer leaves. -/
def TOp (t : Nat) (R : List It) (Φ : Nat → Prop) (w w' : World) : Prop := TimerAt w' t R (more Φ w) ∧ Chg Φ w w'
section
variable {w w' : World} {t m rb cap N : Nat} {H R : List It} {f : Int → Option Nat} {Φ : Nat → Prop}
theorem TimerL.of_held (h : Held w t m rb cap H f N) (hN : N = H.length) (hH : Heap H) (hT : Tells f H) (hwf : ∀ y ∈ H, wfk y.1) (hΦ : Φ t ∧ Φ m ∧ Φ rb) : TimerL w t m (.slice (some ⟨rb, 0, none⟩) H.length cap) H f Φ :=
  ⟨h.blk, h.row, by rw [← hN]; exact h.map, hH, hT, hwf, hΦ.1, hΦ.2.1, fun g hg => by simp [Value.ownBlock] at hg; rw [← hg]; exact hΦ.2.2⟩
end

def SetSaid (t : Nat) (R : List It) (Φ : Nat → Prop) (w : World) (e : Ending) (w' : World) : Prop := e = .returned (.tuple #[]) ∧ TOp t R Φ w w'

set_option maxHeartbeats 1600000 in
set_option maxRecDepth 100000 in
theorem Set_old {w : World} {t m : Nat} {v : Value} {H R : List It} {f : Int → Option Nat} {Φ : Nat → Prop} (ho : Ord R) (hp : H.Perm R) (hl : TimerL w t m v H f Φ) (hn : R.length < 900000) (x : It) (hx : wfk x.1) {p : Nat} (hf : f x.1 = some p) :
    Calls Try.prog 11 #[.pointer (some ⟨t, 0, none⟩), .int .i64 x.1, .int .i64 x.2] w (SetSaid t (setR R x) Φ w) := by
  obtain ⟨W, hW⟩ : ∃ W, W = w.alloc (.cells #[.int .i64 x.1, .int .i64 x.2] 41) := ⟨_, rfl⟩
  have hb : Below w.heap.size w W := by rw [hW]; exact (Below.refl _ _).alloc (Nat.le_refl _) _
  have hlW : TimerL W t m v H f Φ := hl.keep (Ψ := fun _ => False) (Chg.of_below hb) fun _ _ => id
  obtain ⟨hpl, hpi⟩ := hl.tells.place hf
  obtain ⟨rb, cap, rfl, hh⟩ := hlW.held (by omega)
  have hlen := hp.length_eq
  have hΦ := hl.inn
  have hlk := hlW.map.look hx
  have hlk' : (Instr.lookup 53 (.map (some m)) (.int .i64 x.1) true).run Try.prog W = .ok (.tuple #[.int .i64 (p : Int), .bool true]) W := by
    rw [hlk]
    unfold plc
    rw [hf]
    rfl
  obtain ⟨c0, c1⟩ := two_cells' hlW.blk
  have q0 : W.cell? ⟨w.heap.size, 0, none⟩ = some (.int .i64 x.1) := by rw [hW]; simp
  have q1 : W.cell? ⟨w.heap.size, 1, none⟩ = some (.int .i64 x.2) := by rw [hW]; simp
  have hperm : (H.set p x).Perm (setR R x) := by
    have h1 := set_perm hl.tells.nodup hpl x
    rw [hpi] at h1
    exact h1.trans (((dropR_perm hp x.1).cons x).trans (setR_perm R x).symm)
  have HSET := Lib.hid (settle_any (N := H.length) (N' := H.length) (fx := some p) ⟨hh, hl.heap.near p, hl.tells.told hpl hpi.symm, List.Perm.refl _, fun y hy => by
    rcases List.mem_or_eq_of_mem_set hy with hy | rfl
    · exact hl.wf y hy
    · exact hx, hf⟩ (by rw [List.length_set]; omega) (by omega) rfl)
  have HEND : Hid (∀ w', SettleSaid t m rb cap H.length (H.set p x) W (.returned (.tuple #[])) w' → SetSaid t (setR R x) Φ w (.returned (.tuple #[])) w') := Lib.hid fun w' ⟨_, H', f', h1, h2, h3, h4, h5⟩ => by
    have hrΦ : Φ rb := hΦ.2.2 rb rfl
    refine ⟨rfl, ⟨ho.set x, m, _, H', f', h4.trans hperm, TimerL.of_held h1 ?_ h2 h3 ?_ ⟨.inl hΦ.1, .inl hΦ.2.1, .inl hrΦ⟩⟩, ?_⟩
    · have := h4.length_eq
      rw [List.length_set] at this
      exact this.symm
    · intro y hy
      rcases List.mem_or_eq_of_mem_set ((h4.mem_iff).1 hy) with hy | rfl
      · exact hl.wf y hy
      · exact hx
    · exact (Chg.of_below (Φ := Φ) hb).trans h5 fun i _ e => by
        rcases e with rfl | rfl
        · exact hΦ.2.1
        · exact hrΦ
  have hW' := Lib.hid hW
  clear hlk hW hb hlW hh hl hp ho hperm hf hpi
  go_enter Try.func11, Try.ntmps11
  go_upto_region 1 with fail
  rw [← hW'.out]
  go_wp2_with (go_at_call 23; refine HSET.out.mono ?_; rintro e w1 hs; have hs2 := hs; obtain ⟨rfl, _⟩ := hs2; have HX := Lib.hid (HEND.out w1 hs); clear hs)
  go_end0
  exact HX.out

set_option maxHeartbeats 1600000 in
set_option maxRecDepth 100000 in
theorem Set_new {w : World} {t m : Nat} {v : Value} {H R : List It} {f : Int → Option Nat} {Φ : Nat → Prop} (ho : Ord R) (hp : H.Perm R) (hl : TimerL w t m v H f Φ) (hn : R.length < 900000) (x : It) (hx : wfk x.1) (hf : f x.1 = none) :
    Calls Try.prog 11 #[.pointer (some ⟨t, 0, none⟩), .int .i64 x.1, .int .i64 x.2] w (SetSaid t (setR R x) Φ w) := by
  obtain ⟨W, hW⟩ : ∃ W, W = w.alloc (.cells #[.int .i64 x.1, .int .i64 x.2] 41) := ⟨_, rfl⟩
  have hb : Below w.heap.size w W := by rw [hW]; exact (Below.refl _ _).alloc (Nat.le_refl _) _
  have hlW : TimerL W t m v H f Φ := hl.keep (Ψ := fun _ => False) (Chg.of_below hb) fun _ _ => id
  have hlen := hp.length_eq
  have hΦ := hl.inn
  have hlk := hlW.map.look hx
  have hlk' : (Instr.lookup 53 (.map (some m)) (.int .i64 x.1) true).run Try.prog W = .ok (.tuple #[.int .i64 (plc f x.1), .bool false]) W := by
    rw [hlk, hf]
    rfl
  obtain ⟨c0, c1, z0, z1, hcl⟩ := two_allS hlW.blk
  have hbox : W.heap[w.heap.size]? = some (.cells #[.int .i64 x.1, .int .i64 x.2] 41 (0, 0)) := by rw [hW]; exact heap_alloc_new _ _
  obtain ⟨q0, q1, _, _, hql⟩ := two_allS hbox
  have hperm : (H ++ [x]).Perm (setR R x) := by
    have h1 : dropR R x.1 = R := dropR_none fun y hy => hl.tells.none hf y ((hp.mem_iff).2 hy)
    have h2 := setR_perm R x
    rw [h1] at h2
    exact (List.perm_append_singleton x H).trans ((hp.cons x).trans h2.symm)
  have htm : t ≠ m := fun e => by
    obtain ⟨es, c, hbm⟩ := hlW.map.blk
    rw [← e, hlW.blk] at hbm
    cases hbm
  have hvt : v.ownBlock ≠ some t := fun e => by
    rcases hlW.row.2 with ⟨e1, _⟩ | ⟨g', _, cur, e1, _, hg', _⟩
    · rw [e1] at e; cases e
    · rw [e1] at e
      obtain rfl : g' = t := by simpa [Value.ownBlock] using e
      rw [hlW.blk] at hg'
      simp at hg'
  have hvm : v.ownBlock ≠ some m := fun e => by
    rcases hlW.row.2 with ⟨e1, _⟩ | ⟨g', _, cur, e1, _, hg', _⟩
    · rw [e1] at e; cases e
    · rw [e1] at e
      obtain rfl : g' = m := by simpa [Value.ownBlock] using e
      obtain ⟨es, c, hbm⟩ := hlW.map.blk
      rw [hbm] at hg'
      cases hg'
  have hvb : v.ownBlock ≠ some w.heap.size := fun e => by
    have := (hl.row.lt _ e).2
    omega
  -- behind the append
  have HAP : Hid (∀ v2 w2, w2.ownsRow 0 41 2 v2 (H.length + 1) (flat H ++ [.int .i64 x.1, .int .i64 x.2]) → (W.drew.alloc (.cells #[.int .i64 x.1, .int .i64 x.2] 41)).grownBy w2 v.ownBlock → (v2.ownBlock = v.ownBlock ∨ v2.ownBlock = some (W.drew.alloc (.cells #[.int .i64 x.1, .int .i64 x.2] 41)).heap.size) →
      ∃ rb cap, v2 = .slice (some ⟨rb, 0, none⟩) (H.length + 1) cap ∧ w2.cell? ⟨t, 0, none⟩ = some v ∧ w2.frozen? ⟨t, 0, none⟩ = false ∧
        Hid (∀ w3, w3 = w2.setCell ⟨t, 0, none⟩ (.slice (some ⟨rb, 0, none⟩) (H.length + 1) cap) → w3.cell? ⟨w.heap.size, 0, none⟩ = some (.int .i64 x.1) ∧ w3.cell? ⟨w.heap.size, 1, none⟩ = some (.int .i64 x.2) ∧
          Calls Try.prog 23 #[.pointer (some ⟨t, 0, none⟩), .int .i64 (H.length : Nat), .agg #[.int .i64 x.1, .int .i64 x.2]] w3 (fun e w' => e = .returned (.tuple #[]) ∧ Hid (SetSaid t (setR R x) Φ w (.returned (.tuple #[])) w')))) := Lib.hid (by
    intro v2 w2 hown hg hv2
    obtain ⟨rb, cap, rfl, _, hrl⟩ := hown.form (by omega)
    have cg : Chg (fun k => v.ownBlock = some k) W w2 := ((Chg.drew (Φ := fun k => v.ownBlock = some k) W).trans (Chg.alloc (Φ := fun k => v.ownBlock = some k) _ _) fun _ _ e => e).trans (Chg.of_grown hg) fun _ _ e => e
    have ht2 := cg.heap hlW.blk (fun e => hvt e)
    have hm2 : Places w2 m f H.length := hlW.map.keep cg fun e => hvm e
    have hx2 := cg.heap hbox fun e => hvb e
    obtain ⟨k0, _, k2, _, _⟩ := two_allS ht2
    refine ⟨rb, cap, rfl, k0, k2, Lib.hid ?_⟩
    rintro w3 rfl
    have hrt : rb ≠ t := fun e => by
      rcases hown.2 with ⟨e1, _⟩ | ⟨g', _, cur, e1, _, hg', _⟩
      · cases e1
      · cases e1
        rw [e, ht2] at hg'
        simp at hg'
    have c3 := Chg.set w2 t 0 (.slice (some ⟨rb, 0, none⟩) (H.length + 1) cap)
    have hx3 := c3.heap hx2 fun e => by have := lt_of_block hl.blk; omega
    have hl1 : (H ++ [x]).length = H.length + 1 := by simp
    have hheld : Held (w2.setCell ⟨t, 0, none⟩ (.slice (some ⟨rb, 0, none⟩) (H.length + 1) cap)) t m rb cap (H ++ [x]) f H.length := by
      refine ⟨?_, ?_, hm2.keep c3 fun e => htm e.symm⟩
      · rw [hl1]
        exact two_set0 ht2 _
      · rw [hl1, flat_append, flat_one]
        exact c3.own hown fun g hg => by simp [Value.ownBlock] at hg; rw [← hg]; exact hrt
    have hset := settle_any (N := H.length) (N' := H.length + 1) (fx := none) (x := x) (G := H ++ [x]) (i := H.length) ⟨hheld, hl.heap.more x, hl.tells.more hf, by rw [List.set_append_right _ _ (Nat.le_refl _), Nat.sub_self]; exact List.Perm.refl _, fun y hy => by
      rcases List.mem_append.1 hy with hy | hy
      · exact hl.wf y hy
      · simp at hy
        rw [hy]
        exact hx, hf⟩ (by rw [hl1]; omega) (by omega) rfl
    refine ⟨(two_cells' hx3).1, (two_cells' hx3).2, hset.mono ?_⟩
    rintro e w' ⟨rfl, H', f', h1, h2, h3, h4, h5⟩
    have hrb : more Φ w rb := by
      rcases hv2 with e | e
      · exact .inl (hΦ.2.2 rb e.symm)
      · refine .inr ?_
        simp [Value.ownBlock] at e
        have := hb.size
        rw [e]
        omega
    refine ⟨rfl, Lib.hid ⟨rfl, ⟨ho.set x, m, _, H', f', h4.trans hperm, TimerL.of_held h1 ?_ h2 h3 ?_ ⟨.inl hΦ.1, .inl hΦ.2.1, hrb⟩⟩, ?_⟩⟩
    · have := h4.length_eq
      rw [hl1] at this
      exact this.symm
    · intro y hy
      rcases List.mem_append.1 ((h4.mem_iff).1 hy) with hy | hy
      · exact hl.wf y hy
      · simp at hy
        rw [hy]
        exact hx
    · have c4 : Chg Φ w w2 := (Chg.of_below (Φ := Φ) hb).trans cg fun i _ e => hΦ.2.2 i e
      have c5 : Chg Φ w (w2.setCell ⟨t, 0, none⟩ (.slice (some ⟨rb, 0, none⟩) (H.length + 1) cap)) := c4.trans c3 fun i _ e => by rw [e]; exact hΦ.1
      refine c5.trans h5 fun i hi e => ?_
      rcases e with rfl | rfl
      · exact hΦ.2.1
      · rcases hrb with e | e
        · exact e
        · omega)
  obtain ⟨A, c, rfl, hcm, hcn, _⟩ := own_isSlice hlW.row
  unfold maxLen at hcm
  have HOWN := Lib.hid hlW.row
  obtain ⟨i0, hi, hz0, hz1, hz2⟩ := info_parts info_item
  have hW' := Lib.hid hW
  have hHn : H.length < 900000 := by omega
  clear hlk hW hb hlW hl hp ho hperm hf htm hvt hvm hvb hbox hΦ hlen
  go_enter Try.func11, Try.ntmps11
  go_upto_region 1 with fail
  rw [← hW'.out]
  go_wp2_with fail
  go_region_law (refine step_append_where (o := ⟨some 35, _, _, _, _, _⟩) rfl (.tmp 32) (.tmp 34) 35 rfl 0 41 i0 _ 2 16 Try.underlying35 hi hz0 hz1 hz2 rfl (by omega) _ H.length _ rfl ((HOWN.out.drew).alloc _) (some ⟨W.heap.size, 0, none⟩) 1 1 [.int .i64 x.1, .int .i64 x.2] rfl rfl (fun e => by cases e) (news_item W.drew _ _ _) (one_cell2 _ _) (by unfold maxLen; omega) (by omega) (Nat.zero_le _) ?_; intro v2 w2 ho2 hg2 hw2; obtain ⟨rb, cap, rfl, k0, k1, HX⟩ := HAP.out v2 w2 ho2 hg2 hw2; clear ho2 hg2 hw2)
  all_goals
    obtain ⟨w3, hw3⟩ : ∃ w3, w3 = w2.setCell ⟨t, 0, none⟩ (.slice (some ⟨rb, 0, none⟩) (H.length + 1) cap) := ⟨_, rfl⟩
    obtain ⟨p0, p1, hcall⟩ := HX.out w3 hw3
    have HC := Lib.hid hcall
    rw [← hw3]
    clear hw3 hcall k0 k1
    go_wp2_with (go_at_call 23; refine HC.out.mono ?_; rintro e w4 ⟨rfl, HY⟩)
    go_end0
    exact HY.out

theorem Set_any {w : World} {t : Nat} {R : List It} {Φ : Nat → Prop} (h : TimerAt w t R Φ) (hn : R.length < 900000) (x : It) (hx : wfk x.1) :
    Calls Try.prog 11 #[.pointer (some ⟨t, 0, none⟩), .int .i64 x.1, .int .i64 x.2] w (SetSaid t (setR R x) Φ w) := by
  obtain ⟨ho, m, v, H, f, hp, hl⟩ := h
  cases hf : f x.1 with
  | none => exact Set_new ho hp hl hn x hx hf
  | some p => exact Set_old ho hp hl hn x hx hf
end Go.Proofs.Ytednibjemboclaa
