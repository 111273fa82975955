/- What is proved here: what Drop does. -/
import Derived.Test.YticmdeepfeiobaaLeave
import Derived.BigRegion
import Derived.Outline
namespace Go.Proofs.Yticmdeepfeiobaa
open Go Go.RowKit Go.Maps Go.WideMaps

section
variable {w w3 w' : World} {l gm pm N Ng rb cap : Nat} {L : List Th} {fg fp : Lit → Option Value} {Φ : Nat → Prop} {x : Th}
theorem outI_ofG (L : List Th) (k : Int) (s : ByteArray) : outI (ofG L s) k = ofG (dropT L k) s := by
  rw [ofG_drop]
  unfold outI
  congr 1
  funext i
  by_cases h : i = k <;> simp [h]
/-- The lanes behind a Drop. -/
theorem drop_fin (h : LaneL w l gm pm L N Ng fg fp Φ) (hx : x ∈ L) (hv : fg (strK x.g) = some (.slice (some ⟨rb, 0, none⟩) (ofG L x.g).length cap)) (hΦ : Φ rb) (hrow : w.ownsRow 0 3 1 (.slice (some ⟨rb, 0, none⟩) (ofG L x.g).length cap) (ofG L x.g).length ((ofG L x.g).map (Value.int .i64)))
    (c3 : Chg (fun i => i = pm) w w3) (m3 : MapV Try.prog 3 w3 pm (L.length - 1) (delV fp (.int .i64 x.id))) {e : Ending} (hl : LeaveSaid gm rb cap Ng fg x.g (ofG L x.g) x.id w3 e w') :
    LaneAt w' l (dropT L x.id) N Φ ∧ Chg Φ w w' := by
  obtain ⟨_, c5, hcase⟩ := hl
  rw [outI_ofG] at hcase
  have hall : Chg (fun i => i = pm ∨ i = rb ∨ i = gm) w w' := (c3.mono fun i _ e => .inl e).trans c5 fun i _ e => .inr e
  have hne := h.row_ne hrow
  have hlen := length_dropT h.nodup hx
  have hsub : ∀ y ∈ dropT L x.id, y ∈ L := fun y hy => (List.mem_filter.1 hy).1
  have hob : (Value.slice (some ⟨rb, 0, none⟩) (ofG L x.g).length cap).ownBlock = some rb := rfl
  have hblk : w'.heap[l]? = some (.cells #[.map (some gm), .map (some pm), .int .i64 N] 54 (0, 0)) := hall.heap h.blk fun e => by
    rcases e with e | e | e
    · exact h.l_pm e
    · exact hne.1 e.symm
    · exact h.l_gm e
  have hplc : MapV Try.prog 3 w' pm (dropT L x.id).length (delV fp (.int .i64 x.id)) := by
    have := m3.keep c5 fun e => by
      rcases e with e | e
      · exact hne.2.2 e.symm
      · exact h.ne e.symm
    rwa [show (dropT L x.id).length = L.length - 1 by omega]
  have hpl : ∀ j, delV fp (.int .i64 x.id) (.int .i64 j) = (at_ (dropT L x.id) j).map placeV := fun j => by
    by_cases hj : j = x.id
    · subst hj
      rw [delV_same, at_drop_same]
      rfl
    · have hne2 : Lit.int .i64 j ≠ Lit.int .i64 x.id := fun e => hj (by simpa using e)
      rw [delV_other _ hne2, at_drop_other L hj]
      exact h.pl j
  have hother : ∀ t, t ≠ x.g → ofG (dropT L x.id) t = ofG L t := fun t ht => ofG_drop_other h.nodup hx ht
  have hrows : ∀ t, t ≠ x.g → ofG L t ≠ [] → ∃ v, fg (strK t) = some v ∧ RowV w' v (ofG L t) Φ := fun t ht hn => by
    obtain ⟨v, h1, rb2, cap2, e2, ho2, hp2⟩ := h.gr t hn
    refine ⟨v, h1, rb2, cap2, e2, hall.own ho2 fun g hg => ?_, hp2⟩
    rw [e2] at hg ho2
    simp [Value.ownBlock] at hg
    subst hg
    have hn2 := h.row_ne ho2
    rintro (e | e | e)
    · exact hn2.2.2 e
    · refine h.apart t x.g v _ ht h1 hv ?_
      rw [e2, hob, e]
      rfl
    · exact hn2.2.1 e
  have hrise : ((dropT L x.id).map Th.tn).Pairwise (· < ·) := h.rise.sublist (List.Sublist.map _ List.filter_sublist)
  have hnd : (ids (dropT L x.id)).Nodup := h.nodup.sublist (List.Sublist.map _ List.filter_sublist)
  refine ⟨?_, hall.mono fun i _ e => by
    rcases e with rfl | rfl | rfl
    · exact h.inn.2.2
    · exact hΦ
    · exact h.inn.2.1⟩
  rcases hcase with ⟨hemp, hm⟩ | ⟨hnon, hm, ho⟩
  · refine ⟨gm, pm, Ng - 1, delV fg (strK x.g), _, ⟨hblk, hm, hplc, by have := h.ng; omega, h.ne, fun y hy => h.wf y (hsub y hy), hnd, hrise, fun y hy => h.top y (hsub y hy), hpl, fun t ht => ?_, fun t ht => ?_, fun t t' v v2 htt hv1 hv2 => ?_, h.inn⟩⟩
    · by_cases hts : t = x.g
      · subst hts
        exact delV_same _ _
      · rw [delV_other _ fun e => hts (strK_inj e)]
        rw [hother t hts] at ht
        exact h.gn t ht
    · have hts : t ≠ x.g := fun e => ht (by rw [e]; exact hemp)
      rw [hother t hts] at ht ⊢
      rw [delV_other _ fun e => hts (strK_inj e)]
      exact hrows t hts ht
    · have hts : ∀ u y, delV fg (strK x.g) (strK u) = some y → u ≠ x.g := fun u y hu e => by
        rw [e, delV_same] at hu
        cases hu
      have h1 := hts t v hv1
      have h2 := hts t' v2 hv2
      rw [delV_other _ fun e => h1 (strK_inj e)] at hv1
      rw [delV_other _ fun e => h2 (strK_inj e)] at hv2
      exact h.apart t t' v v2 htt hv1 hv2
  · refine ⟨gm, pm, Ng, putV fg (strK x.g) (.slice (some ⟨rb, 0, none⟩) (ofG (dropT L x.id) x.g).length cap), _, ⟨hblk, hm, hplc, h.ng, h.ne, fun y hy => h.wf y (hsub y hy), hnd, hrise, fun y hy => h.top y (hsub y hy), hpl, fun t ht => ?_, fun t ht => ?_, fun t t' v v2 htt hv1 hv2 => ?_, h.inn⟩⟩
    · have hts : t ≠ x.g := fun e => hnon (by rw [← e]; exact ht)
      rw [hother t hts] at ht
      rw [putV_other _ _ fun e => hts (strK_inj e)]
      exact h.gn t ht
    · by_cases hts : t = x.g
      · subst hts
        rw [putV_same]
        exact ⟨_, rfl, rb, cap, rfl, ho, hΦ⟩
      · rw [hother t hts] at ht ⊢
        rw [putV_other _ _ fun e => hts (strK_inj e)]
        exact hrows t hts ht
    · by_cases hts : t = x.g
      · subst hts
        rw [putV_same] at hv1
        obtain rfl := Option.some.inj hv1
        rw [putV_other _ _ fun e => htt (strK_inj e).symm] at hv2
        have h9 := h.apart x.g t' _ v2 htt hv hv2
        exact h9
      · rw [putV_other _ _ fun e => hts (strK_inj e)] at hv1
        by_cases hts' : t' = x.g
        · subst hts'
          rw [putV_same] at hv2
          obtain rfl := Option.some.inj hv2
          have h9 := h.apart t x.g v _ hts hv1 hv
          exact h9
        · rw [putV_other _ _ fun e => hts' (strK_inj e)] at hv2
          exact h.apart t t' v v2 htt hv1 hv2
end

/-- What Drop leaves. -/
def DropSaid (l : Nat) (L : List Th) (N : Nat) (k : Int) (Φ : Nat → Prop) (w : World) (e : Ending) (w' : World) : Prop :=
  e = .returned (.bool (at_ L k).isSome) ∧ LaneAt w' l (dropT L k) N Φ ∧ Chg Φ w w'

set_option maxHeartbeats 800000 in
set_option maxRecDepth 100000 in
theorem Drop_none {w : World} {l N : Nat} {L : List Th} {Φ : Nat → Prop} (h : LaneAt w l L N Φ) {k : Int} (hk : wfk k) (hx : at_ L k = none) :
    Calls Try.prog 13 #[.pointer (some ⟨l, 0, none⟩), .int .i64 k] w (DropSaid l L N k Φ w) := by
  have HE : Hid (∀ w', Below w.heap.size w w' → DropSaid l L N k Φ w (.returned (.bool false)) w') := Lib.hid fun w' hb => ⟨by rw [hx]; rfl, by rw [dropT_none hx]; exact h.below hb, Chg.of_below hb⟩
  obtain ⟨gm, pm, Ng, fg, fp, h⟩ := h
  obtain ⟨W, hW⟩ : ∃ W, W = w.alloc (.cells #[.int .i64 k] 3) := ⟨_, rfl⟩
  have hb : Below w.heap.size w W := by rw [hW]; exact (Below.refl _ _).alloc (Nat.le_refl _) _
  have h2 := h.below hb
  obtain ⟨c0, c1, c2, _⟩ := three_cells h2.blk
  have hlk := (h2.keep (Ψ := fun _ => False) (Chg.drew _) fun _ _ => id).place hk
  rw [hx] at hlk
  have hlk' : (Instr.lookup 52 (.map (some pm)) (.int .i64 k) true).run Try.prog W.drew = .ok (.tuple #[.agg #[.string ⟨#[]⟩, .int .i64 0], .bool false]) W.drew := hlk
  have hlk2 : (Instr.lookup 52 (.map (some pm)) (.int .i64 k) true).run Try.prog (W.alloc (.cells #[.string ⟨#[]⟩, .int .i64 0] 56)).drew = .ok (.tuple #[.agg #[.string ⟨#[]⟩, .int .i64 0], .bool false]) (W.alloc (.cells #[.string ⟨#[]⟩, .int .i64 0] 56)).drew := by
    have := ((h2.keep (Ψ := fun _ => False) (Chg.alloc _ (.cells #[.string ⟨#[]⟩, .int .i64 0] 56)) fun _ _ => id).keep (Ψ := fun _ => False) (Chg.drew _) fun _ _ => id).place hk
    rw [hx] at this
    exact this
  have q0 : W.cell? ⟨w.heap.size, 0, none⟩ = some (.int .i64 k) := by rw [hW]; simp
  have hll := lt_of_block h2.blk
  have hws : w.heap.size < W.heap.size := by rw [hW]; simp
  have HW := Lib.hid hW
  clear h h2 hlk hW hx
  go_enter Try.func13, Try.ntmps13
  go_wp2_with fail
  rw [← HW.out]
  go_region
  all_goals
    go_wp2
    go_ret
    refine HE.out _ ?_
    rw [HW.out]
    first
      | exact (((Below.refl _ _).alloc (Nat.le_refl _) _).alloc (by simp) _).drew
      | exact (((((Below.refl _ _).alloc (Nat.le_refl _) _).alloc (by simp) _).setCell (by simp) _).setCell (by simp) _).drew

set_option maxHeartbeats 1600000 in
set_option maxRecDepth 100000 in
theorem Drop_some {w : World} {l N : Nat} {L : List Th} {Φ : Nat → Prop} (h : LaneAt w l L N Φ) (hN : N < 900000) {k : Int} (hk : wfk k) {x : Th} (hx : at_ L k = some x) :
    Calls Try.prog 13 #[.pointer (some ⟨l, 0, none⟩), .int .i64 k] w (DropSaid l L N k Φ w) := by
  obtain ⟨hxL, rfl⟩ := at_some hx
  have HES : Hid (∀ w', LaneAt w' l (dropT L x.id) N Φ ∧ Chg Φ w w' → DropSaid l L N x.id Φ w (.returned (.bool true)) w') := Lib.hid fun w' hb => ⟨by rw [hx]; rfl, hb.1, hb.2⟩
  obtain ⟨gm, pm, Ng, fg, fp, h⟩ := h
  obtain ⟨W, hW⟩ : ∃ W, W = w.alloc (.cells #[.int .i64 x.id] 3) := ⟨_, rfl⟩
  have hb : Below w.heap.size w W := by rw [hW]; exact (Below.refl _ _).alloc (Nat.le_refl _) _
  have h2 := h.below hb
  obtain ⟨c0, c1, c2, _⟩ := three_cells h2.blk
  have hlk := (h2.keep (Ψ := fun _ => False) (Chg.drew _) fun _ _ => id).place hk
  rw [hx] at hlk
  have hlk' : (Instr.lookup 52 (.map (some pm)) (.int .i64 x.id) true).run Try.prog W.drew = .ok (.tuple #[.agg #[.string x.g, .int .i64 x.tn], .bool true]) W.drew := hlk
  have hlk2 : (Instr.lookup 52 (.map (some pm)) (.int .i64 x.id) true).run Try.prog (W.alloc (.cells #[.string ⟨#[]⟩, .int .i64 0] 56)).drew = .ok (.tuple #[.agg #[.string x.g, .int .i64 x.tn], .bool true]) (W.alloc (.cells #[.string ⟨#[]⟩, .int .i64 0] 56)).drew := by
    have := ((h2.keep (Ψ := fun _ => False) (Chg.alloc _ (.cells #[.string ⟨#[]⟩, .int .i64 0] 56)) fun _ _ => id).keep (Ψ := fun _ => False) (Chg.drew _) fun _ _ => id).place hk
    rw [hx] at this
    exact this
  have q0 : W.cell? ⟨w.heap.size, 0, none⟩ = some (.int .i64 x.id) := by rw [hW]; simp
  have hll := lt_of_block h2.blk
  have hws : W.heap.size = w.heap.size + 1 := by rw [hW]; simp
  -- behind the first statement: nothing that was there has turned, and the place lies in its box
  have HFW : Hid (∀ V, Below W.heap.size W V → V.heap[W.heap.size]? = some (.cells #[.string x.g, .int .i64 x.tn] 56 (0, 0)) → ∃ w3, V.cell? ⟨l, 1, none⟩ = some (.map (some pm)) ∧ V.cell? ⟨w.heap.size, 0, none⟩ = some (.int .i64 x.id) ∧
      (Builtin.delete_ #[52, 3] 0 #[.map (some pm), .int .i64 x.id]).run Try.prog V.drew = .ok (.tuple #[]) w3 ∧ w3.cell? ⟨W.heap.size, 0, none⟩ = some (.string x.g) ∧
      Hid (Calls Try.prog 25 #[.pointer (some ⟨l, 0, none⟩), .string x.g, .func (.func 26) #[] #[.pointer (some ⟨w.heap.size, 0, none⟩)]] w3 fun e w' => e = .returned (.tuple #[]) ∧ Hid (DropSaid l L N x.id Φ w (.returned (.bool true)) w'))) := Lib.hid (by
    intro V hV hbx
    have hbV : Below w.heap.size w V := hb.trans (hV.mono (by omega))
    have h3 := h.below hbV
    have h4 : LaneL V.drew l gm pm L N Ng fg fp Φ := h3.keep (Ψ := fun _ => False) (Chg.drew _) fun _ _ => id
    have hfp : (fp (.int .i64 x.id)).isSome = true := by rw [h.pl, hx]; rfl
    obtain ⟨w3, hr, m3, _, c3⟩ := h4.plc.drop keyed_int Try.underlying52 (key_int hk) hfp 0
    have hnz : ofG L x.g ≠ [] := fun e => by have := ofG_mem hxL; rw [e] at this; cases this
    obtain ⟨v, hv, rb, cap, rfl, ho, hΦ⟩ := h.gr x.g hnz
    have hcw : Chg (fun i => i = pm) w w3 := ((Chg.of_below (Φ := fun i => i = pm) hbV).trans (Chg.drew (Φ := fun _ => False) _) fun _ _ e => e.elim).trans c3 fun _ _ e => e
    have hne := h.row_ne ho
    have hpml := h.plc.lt
    have hcV : Chg (fun i => i = pm) V w3 := (Chg.drew (Φ := fun i => i = pm) _).trans c3 fun _ _ e => e
    have hbx3 := hcV.heap hbx fun e => by omega
    have hq3 : V.cell? ⟨w.heap.size, 0, none⟩ = some (.int .i64 x.id) := (hV.cell (p := ⟨w.heap.size, 0, none⟩) (by show w.heap.size < W.heap.size; omega)).trans q0
    have hVs := hV.size
    have hq4 : w3.cell? ⟨w.heap.size, 0, none⟩ = some (.int .i64 x.id) := (hcV.cell (p := ⟨w.heap.size, 0, none⟩) (by show w.heap.size < V.heap.size; omega) (fun e => by have e2 : w.heap.size = pm := e; omega)).trans hq3
    have hrbl := (ho.lt rb rfl).2
    have hcs := hcV.size
    refine ⟨w3, (three_cells h3.blk).2.1, hq3, hr, (two_cells' hbx3).1, Lib.hid ((leave_any (hcw.heap h.blk fun e => h.l_pm e) (h.grp.keep hcw fun e => h.ne e) (by have := h.ng; omega) (h.wf x hxL).2 hv (hcw.own ho fun g hg e => by simp [Value.ownBlock] at hg; exact hne.2.2 (by rw [hg, e])) (by omega) (by omega) hne.1.symm hq4).mono ?_)⟩
    intro e w' hl
    exact ⟨hl.1, Lib.hid (HES.out w' (drop_fin h hxL hv hΦ ho hcw m3 hl))⟩)
  have HW := Lib.hid hW
  have hws2 : w.heap.size < W.heap.size := by omega
  clear h h2 hlk hW hx hxL hb HES hws
  go_enter Try.func13, Try.ntmps13
  go_wp2_with fail
  rw [← HW.out]
  go_region
  all_goals
    go_wp2_with fail
    obtain ⟨V, hV⟩ : ∃ V, V = (W.alloc (.cells #[.string x.g, .int .i64 x.tn] 56)).drew := ⟨_, rfl⟩
    obtain ⟨w3, k1, k2, hdel, k3, HL⟩ := HFW.out V (by rw [hV]; exact ((Below.refl _ _).alloc (Nat.le_refl _) _).drew) (by rw [hV]; exact heap_alloc_new W _)
    have HDL := Lib.hid hdel
    rw [← hV]
    clear hV hdel HFW hlk' hlk2 c0 c1 c2 q0 hll hws2
    generalize W.heap.size = bp at *
    generalize w.heap.size = bx at *
    go_still_tail 5, (by kernel_rfl)
    change wpList _ _ _ _ _ V.drew
    go_wp2_with (first
      | (at_delete; refine wpList_delete_run rfl _ _ 52 3 rfl _ _ rfl rfl HDL.out ?_)
      | (go_at_call 25; refine HL.out.mono ?_; rintro e w4 ⟨rfl, HE⟩))
    go_ret
    exact HE.out

theorem Drop_any {w : World} {l N : Nat} {L : List Th} {Φ : Nat → Prop} (h : LaneAt w l L N Φ) (hN : N < 900000) {k : Int} (hk : wfk k) :
    Calls Try.prog 13 #[.pointer (some ⟨l, 0, none⟩), .int .i64 k] w (DropSaid l L N k Φ w) := by
  cases hx : at_ L k with
  | none => exact Drop_none h hk hx
  | some x => exact Drop_some h hN hk hx
end Go.Proofs.Yticmdeepfeiobaa
