/- What is proved here: what Add does. -/
import Derived.Test.YticmdeepfeiobaaLanes
import Derived.Deep.RegionLaw
import Derived.Deep.Cut
import Derived.Maps.AppendAt
namespace Go.Proofs.Yticmdeepfeiobaa
open Go Go.RowKit Go.Maps Go.WideMaps

section
variable {P : Program} {w : World}
/-- 'append' to a row of the call's own, as one step of a region that draws its order; and where the new row lies. -/
theorem step_append_where {ops : Array Oper} {o : Oper} {a : Act} {K : Act → World → Prop} {Q : Exit → Act → World → Prop} {E : Prop} (hgd : o.guard = none) (s x : Operand) (t : TypeId)
    (ho : o.op = .call { callee := .builtin .append, args := #[s, x], argTypes := #[t, t] })
    (base : Nat) (e : TypeId) (i : TypeInfo) (z : Value) (size bytes : Nat) (ht : P.underlying t = some (.slice e)) (hi : P.info? e = some i) (hz : i.zero = some z)
    (hsize : i.size = size) (hby : i.bytes = bytes) (hzs : z.cells.size = size) (hsz : 0 < size)
    (v : Value) (n : Nat) (xs : List Value) (hs : a.eval s = v) (hown : w.ownsRow base e size v n xs)
    (A : Option Addr) (m c : Nat) (news : List Value) (hx : a.eval x = .slice A m c) (hl : news.length = m * size) (hnil : A = none → m = 0 ∧ c = 0)
    (hnews : ∀ ad, A = some ad → ∀ j u, news[j]? = some u → w.cell? (ad.add j) = some u) (h1 : ∀ u ∈ news, u.oneCell' = true)
    (h63 : n + m ≤ maxLen) (hbytes : (n + m) * bytes ≤ 140737488355328) (hbase : base ≤ w.heap.size)
    (h : ∀ v' w', w'.ownsRow base e size v' (n + m) (xs ++ news) → w.grownBy w' v.ownBlock → (v'.ownBlock = v.ownBlock ∨ v'.ownBlock = some w.heap.size) → K (a.put o.dst v') w') :
    if Region.wanted o (yielded ops a.tmps) = true then Oper.wp P o a w K Q else E := by
  have hw : Region.wanted o (yielded ops a.tmps) = true := by simp [Region.wanted, hgd]
  rw [if_pos hw]
  rcases A with _ | ad
  · obtain ⟨rfl, rfl⟩ := hnil rfl
    have hn : news = [] := List.eq_nil_of_length_eq_zero (by simpa using hl)
    subst hn
    have hrun := run_append_owned_none (P := P) w base t o.type e i size ht hi v n xs hown
    unfold Oper.wp
    simp [execOp, ho, resolve, invoke, builtin, hs, hx, hrun, Result.andThen]
    exact h v w (by simpa using hown) (World.grownBy.refl _ _) (.inl rfl)
  · obtain ⟨v', w', hrun, h2, h3, _, h5⟩ := run_append_own_at (P := P) w base t o.type e i z size bytes ht hi hz hsize hby hzs hsz v n xs hown ad m c news hl (hnews ad rfl) h1 h63 hbytes hbase
    unfold Oper.wp
    simp [execOp, ho, resolve, invoke, builtin, hs, hx, hrun, Result.andThen]
    exact h v' w' h2 h3 h5
end
theorem info_int : (Try.prog.info? 3).map (fun i => (i.zero, i.size, i.bytes)) = some (some (.int .i64 0), 1, 8) := by kernel_rfl

def more (Φ : Nat → Prop) (w : World) (k : Nat) : Prop := Φ k ∨ w.heap.size ≤ k
def addT (L : List Th) (s : ByteArray) (k : Int) (N : Nat) : List Th := if (at_ L k).isSome then L else L ++ [⟨s, k, N + 1⟩]
/-- What a call that may change lanes leaves. -/
def LOp (l : Nat) (L : List Th) (N : Nat) (Φ : Nat → Prop) (w w' : World) : Prop := (∃ N', N' ≤ N + 1 ∧ LaneAt w' l L N' (more Φ w)) ∧ Chg Φ w w'

section
variable {w w2 w3 w4 w5 : World} {l gm pm N Ng : Nat} {L : List Th} {fg fp : Lit → Option Value} {Φ : Nat → Prop} {s : ByteArray} {k : Int} {v' : Value}
/-- The lanes behind an Add. -/
theorem add_fin (h : LaneL w l gm pm L N Ng fg fp Φ) (hs : s.size ≤ maxLen) (hk : wfk k) (hn : at_ L k = none)
    (c2 : Chg (fun i => i = l) w w2) (b2 : w2.heap[l]? = some (.cells #[.map (some gm), .map (some pm), .int .i64 ((N : Int) + 1)] 54 (0, 0)))
    (c3 : Chg (fun i => i = pm) w2 w3) (m3 : MapV Try.prog 3 w3 pm (L.length + 1) (putV fp (.int .i64 k) (placeV ⟨s, k, N + 1⟩)))
    (c4 : Chg (fun i => (rowOf fg s).ownBlock = some i) w3 w4) (r4 : w4.ownsRow 0 3 1 v' ((ofG L s).length + 1) ((ofG L s).map (Value.int .i64) ++ [.int .i64 k])) (p4 : v'.ownBlock = (rowOf fg s).ownBlock ∨ ∃ j, v'.ownBlock = some j ∧ w.heap.size ≤ j)
    (c5 : Chg (fun i => i = gm) w4 w5) (m5 : MapV Try.prog 9 w5 gm (if (fg (strK s)).isSome then Ng else Ng + 1) (putV fg (strK s) v')) :
    LaneL w5 l gm pm (L ++ [⟨s, k, N + 1⟩]) (N + 1) (if (fg (strK s)).isSome then Ng else Ng + 1) (putV fg (strK s) v') (putV fp (.int .i64 k) (placeV ⟨s, k, N + 1⟩)) (more Φ w) ∧ Chg Φ w w5 := by
  obtain ⟨_, hrow, _, _⟩ := h.row hs
  have hall : Chg (fun i => i = l ∨ i = pm ∨ (rowOf fg s).ownBlock = some i ∨ i = gm) w w5 :=
    (((c2.mono fun i _ e => .inl e).trans c3 fun i _ e => .inr (.inl e)).trans c4 fun i _ e => .inr (.inr (.inl e))).trans c5 fun i _ e => .inr (.inr (.inr e))
  have hΦ : ∀ i, (i = l ∨ i = pm ∨ (rowOf fg s).ownBlock = some i ∨ i = gm) → Φ i := by
    rintro i (rfl | rfl | e | rfl)
    · exact h.inn.1
    · exact h.inn.2.2
    · exact (hrow i e).1
    · exact h.inn.2.1
  obtain ⟨rb', cap', hv', hrl⟩ : ∃ rb cap, v' = .slice (some ⟨rb, 0, none⟩) ((ofG L s).length + 1) cap ∧ rb < w4.heap.size := by
    obtain ⟨rb, cap, e, _, h2⟩ := r4.form (by omega)
    exact ⟨rb, cap, e, h2⟩
  have hb' : v'.ownBlock = some rb' := by rw [hv']; rfl
  have hoth : ∀ t v, t ≠ s → fg (strK t) = some v → v.ownBlock ≠ some rb' := by
    intro t v ht hv e
    by_cases he : ofG L t = []
    · rw [h.gn t he] at hv; cases hv
    · obtain ⟨v2, hv2, rb2, cap2, e2, ho2, _⟩ := h.gr t he
      rw [hv2] at hv
      obtain rfl := Option.some.inj hv
      have hlt := (ho2.lt rb2 (by rw [e2]; rfl)).2
      rw [e2] at e
      simp [Value.ownBlock] at e
      rcases p4 with p | ⟨j, p, hj⟩
      · rw [hb'] at p
        have hsome : ∃ u, fg (strK s) = some u := by
          cases hf : fg (strK s) with
          | some u => exact ⟨u, rfl⟩
          | none =>
            have : rowOf fg s = .slice none 0 0 := by unfold rowOf; rw [hf]; rfl
            rw [this] at p
            simp [Value.ownBlock] at p
        obtain ⟨u, hu⟩ := hsome
        have e3 : rowOf fg s = u := by unfold rowOf; rw [hu]; rfl
        rw [e3] at p
        refine h.apart t s _ u ht hv2 hu ?_
        rw [e2, ← p, e]
        rfl
      · rw [hb'] at p
        obtain rfl := Option.some.inj p
        omega
  refine ⟨⟨?_, m5, ?_, ?_, h.ne, ?_, ?_, ?_, ?_, fun j => ?_, fun t ht => ?_, fun t ht => ?_, fun t t' v v2 htt hv hv2 => ?_, .inl h.inn.1, .inl h.inn.2.1, .inl h.inn.2.2⟩, hall.mono fun i _ e => hΦ i e⟩
  · have h3 := c3.heap b2 fun e => h.l_pm e
    have h4 := c4.heap h3 fun e => (hrow l e).2.1 rfl
    have h5 := c5.heap h4 fun e => h.l_gm e
    rw [h5]
    simp
  · rw [List.length_append]
    exact (m3.keep c4 fun e => (hrow pm e).2.2.2 rfl).keep c5 fun e => h.ne e.symm
  · have := h.ng
    split <;> omega
  · intro x hx
    rcases List.mem_append.1 hx with hx | hx
    · exact h.wf x hx
    · simp at hx
      rw [hx]
      exact ⟨hk, hs⟩
  · have : ids (L ++ [⟨s, k, N + 1⟩]) = ids L ++ [k] := by simp [ids]
    rw [this, List.nodup_append]
    refine ⟨h.nodup, by simp, fun a ha b hb e => ?_⟩
    simp at hb
    obtain ⟨x, hx, hxa⟩ := List.mem_map.1 ha
    exact at_none.1 hn x hx (hxa.trans (e.trans hb))
  · rw [List.map_append, List.pairwise_append]
    refine ⟨h.rise, by simp, fun a ha b hb => ?_⟩
    obtain ⟨x, hx, rfl⟩ := List.mem_map.1 ha
    have := h.top x hx
    simp at hb
    omega
  · intro x hx
    rcases List.mem_append.1 hx with hx | hx
    · have := h.top x hx; omega
    · simp at hx
      rw [hx]
      exact Nat.le_refl _
  · by_cases hj : j = k
    · subst hj
      rw [putV_same, at_add_same (x := ⟨s, j, N + 1⟩) hn]
      rfl
    · have hne : Lit.int .i64 j ≠ Lit.int .i64 k := fun e => hj (by simpa using e)
      rw [putV_other _ _ hne, at_add_other L ⟨s, k, N + 1⟩ hj]
      exact h.pl j
  · by_cases hts : t = s
    · subst hts
      rw [ofG_add_same L ⟨t, k, N + 1⟩] at ht
      simp at ht
    · rw [ofG_add_other L ⟨s, k, N + 1⟩ hts] at ht
      rw [putV_other _ _ fun e => hts (strK_inj e)]
      exact h.gn t ht
  · by_cases hts : t = s
    · subst hts
      have e5 : ofG (L ++ [⟨t, k, N + 1⟩]) t = ofG L t ++ [k] := ofG_add_same L ⟨t, k, N + 1⟩
      rw [putV_same, e5]
      refine ⟨v', rfl, rb', cap', ?_, ?_, ?_⟩
      · rw [hv', List.length_append]; rfl
      · have := c5.own r4 fun g hg e => by
          obtain ⟨es, c, hb5⟩ := m5.blk
          rw [hb'] at hg
          obtain rfl := Option.some.inj hg
          rcases p4 with p | ⟨j, p, hj⟩
          · rw [hb'] at p
            exact (hrow rb' p.symm).2.2.1 e
          · rw [hb'] at p
            obtain rfl := Option.some.inj p
            have := h.grp.lt
            omega
        simpa using this
      · rcases p4 with p | ⟨j, p, hj⟩
        · rw [hb'] at p
          exact .inl (hrow rb' p.symm).1
        · rw [hb'] at p
          obtain rfl := Option.some.inj p
          exact .inr hj
    · rw [ofG_add_other L ⟨s, k, N + 1⟩ hts] at ht ⊢
      rw [putV_other _ _ fun e => hts (strK_inj e)]
      obtain ⟨v, hv, rb, cap, e, ho, hp⟩ := h.gr t ht
      refine ⟨v, hv, rb, cap, e, hall.own ho fun g hg => ?_, .inl hp⟩
      rw [e] at hg ho
      simp [Value.ownBlock] at hg
      subst hg
      have hne := h.row_ne ho
      rintro (e1 | e1 | e1 | e1)
      · exact hne.1 e1
      · exact hne.2.2 e1
      · have hsome : ∃ u, fg (strK s) = some u := by
          cases hf : fg (strK s) with
          | some u => exact ⟨u, rfl⟩
          | none =>
            have : rowOf fg s = .slice none 0 0 := by unfold rowOf; rw [hf]; rfl
            rw [this] at e1
            simp [Value.ownBlock] at e1
        obtain ⟨u, hu⟩ := hsome
        have e3 : rowOf fg s = u := by unfold rowOf; rw [hu]; rfl
        rw [e3] at e1
        exact h.apart t s _ u hts hv hu (by rw [e, e1]; rfl)
      · exact hne.2.1 e1
  · by_cases hts : t = s
    · subst hts
      rw [putV_same] at hv
      obtain rfl := Option.some.inj hv
      rw [putV_other _ _ fun e => htt (strK_inj e).symm] at hv2
      rw [hb']
      exact fun e => hoth t' v2 (fun e => htt e.symm) hv2 e.symm
    · rw [putV_other _ _ fun e => hts (strK_inj e)] at hv
      by_cases hts' : t' = s
      · subst hts'
        rw [putV_same] at hv2
        obtain rfl := Option.some.inj hv2
        rw [hb']
        exact hoth t v hts hv
      · rw [putV_other _ _ fun e => hts' (strK_inj e)] at hv2
        exact h.apart t t' v v2 htt hv hv2
end

set_option maxHeartbeats 800000 in
theorem Add_old {w : World} {l N : Nat} {L : List Th} {Φ : Nat → Prop} (h : LaneAt w l L N Φ) (s : ByteArray) {k : Int} (hk : wfk k) {x : Th} (hx : at_ L k = some x) :
    Calls Try.prog 11 #[.pointer (some ⟨l, 0, none⟩), .string s, .int .i64 k] w fun e w' => e = .returned (.bool false) ∧ Below w.heap.size w w' := by
  obtain ⟨gm, pm, Ng, fg, fp, h⟩ := h
  obtain ⟨c0, c1, c2, _⟩ := three_cells h.blk
  have hlk := h.place hk
  have hll := lt_of_block h.blk
  rw [hx] at hlk
  have hlk' : (Instr.lookup 52 (.map (some pm)) (.int .i64 k) true).run Try.prog w = .ok (.tuple #[.agg #[.string x.g, .int .i64 x.tn], .bool true]) w := hlk
  clear h hlk hx
  go_enter Try.func11, Try.ntmps11
  go_wp2
  go_ret
  exact ⟨rfl, (Below.refl _ _).alloc (Nat.le_refl _) _⟩
end Go.Proofs.Yticmdeepfeiobaa
