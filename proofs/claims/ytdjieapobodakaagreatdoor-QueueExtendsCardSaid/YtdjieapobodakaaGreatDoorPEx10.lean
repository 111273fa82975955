/- What is proved here: what 'compare', and the library's function that it calls, answer. -/
/- What is proved here: what slices.SortFunc does with two things. -/
/- What is proved here: what Heads returns: the heads of all groups, in order. -/
import Derived.Test.YtdjieapobodakaaGreatDoorPEx9
import Derived.Sort.Grow
import Derived.BigRegion
import Derived.Outline
import Derived.Maps.Ext
import Derived.Sort.KeysCollected
import Derived.Test.YtdjieapobodakaaGreatDoorLibS
section
namespace Go.Proofs.YtdjieapobodakaaGreatDoor.Lan
open Go Go.RowKit Go.Maps Go.WideMaps Go.Sort
set_option maxRecDepth 100000

def cmp1 (a b : Int) : Int := if a < b then -1 else if b < a then 1 else 0
theorem Compare_any (a b : Int) (w : World) : Calls Tryz.prog 96 #[.int .i64 a, .int .i64 b] w fun e w' => e = .returned (.int .i64 (cmp1 a b)) ∧ w' = w := by
  rcases Int.lt_trichotomy a b with h | h | h
  · have HC : Hid (cmp1 a b = -1) := Lib.hid (by unfold cmp1; rw [if_pos h])
    go_enter Tryz.func96, Tryz.ntmps96
    go_wp2
    go_ret
    exact ⟨by rw [HC.out]; rfl, rfl⟩
  · subst h
    have HC : Hid (cmp1 a a = 0) := Lib.hid (by unfold cmp1; rw [if_neg (by omega), if_neg (by omega)])
    go_enter Tryz.func96, Tryz.ntmps96
    go_wp2
    go_ret
    exact ⟨by rw [HC.out]; rfl, rfl⟩
  · have HC : Hid (cmp1 a b = 1) := Lib.hid (by unfold cmp1; rw [if_neg (by omega), if_pos h])
    have h2 : ¬ a < b := by omega
    go_enter Tryz.func96, Tryz.ntmps96
    go_wp2
    go_ret
    exact ⟨by rw [HC.out]; rfl, rfl⟩

theorem LaneL.placeW {w : World} {l gm pm N Ng : Nat} {L : List Th} {fg fp : Lit → Option Value} {Φ : Nat → Prop} (h : LaneL w l gm pm L N Ng fg fp Φ) {x : Th} (hx : x ∈ L) :
    (Instr.lookup 120 (.map (some pm)) (.int .i64 x.id) false).run Tryz.prog w = .ok (.agg #[.string x.g, .int .i64 x.tn]) w := by
  have := h.plc.look keyed_int Tryz.underlying120 (zero_place w) (key_int (h.wf x hx).1)
  rw [this, h.pl]
  have hs : at_ L x.id = some x := by
    cases ha : at_ L x.id with
    | none => exact absurd rfl (at_none.1 ha x hx)
    | some y =>
      obtain ⟨hy, he⟩ := at_some ha
      rw [nodup_id h.nodup hy hx he]
  rw [hs]
  rfl

set_option maxHeartbeats 800000 in
set_option maxRecDepth 100000 in
theorem compare_any {w : World} {l N : Nat} {L : List Th} {Φ : Nat → Prop} (h : LaneAt w l L N Φ) {x y : Th} (hx : x ∈ L) (hy : y ∈ L) :
    Calls Tryz.prog 110 #[.pointer (some ⟨l, 0, none⟩), .int .i64 x.id, .int .i64 y.id] w fun e w' => e = .returned (.int .i64 (cmp1 x.tn y.tn)) ∧ ∃ q, w' = w.drewN q := by
  obtain ⟨gm, pm, Ng, fg, fp, h⟩ := h
  obtain ⟨c0, c1, c2, _⟩ := three_cells h.blk
  have l1 := fun q => (h.keep (Ψ := fun _ => False) (Chg.drewN _ q) fun _ _ => id).placeW hx
  have l2 := fun q => (h.keep (Ψ := fun _ => False) (Chg.drewN _ q) fun _ _ => id).placeW hy
  have k1 : ∀ W, (Instr.field 126 (.agg #[.string x.g, .int .i64 x.tn]) 1).run Tryz.prog W = .ok (.int .i64 x.tn) W := fun W => by kernel_rfl
  have k2 : ∀ W, (Instr.field 126 (.agg #[.string y.g, .int .i64 y.tn]) 1).run Tryz.prog W = .ok (.int .i64 y.tn) W := fun W => by kernel_rfl
  clear h
  go_enter Tryz.func110, Tryz.ntmps110
  go_wp2_with fail
  go_quiet ((go_at_call 96; exact Calls.quiet_of_same (Compare_any x.tn y.tn _)))
  go_wp2
  go_ret
  exact ⟨rfl, _, rfl⟩
end Go.Proofs.YtdjieapobodakaaGreatDoor.Lan
end

section
namespace Go.Proofs.YtdjieapobodakaaGreatDoor.Lan
open Go Go.RowKit Go.Maps Go.WideMaps Go.Sort
set_option maxRecDepth 100000

/-- Bits of 2. -/
theorem len2_any (w : World) : Calls Tryz.prog 93 #[.int .u64 2] w fun e w' => e = .returned (.int .i64 2) ∧ w' = w := by
  go_enter Tryz.func93, Tryz.ntmps93
  go_wp2
  go_ret
  exact ⟨by kernel_rfl, rfl⟩

set_option maxHeartbeats 1600000 in
set_option maxRecDepth 100000 in
theorem ins2_skip {w : World} {l N rb cap : Nat} {L : List Th} {Φ : Nat → Prop} (h : LaneAt w l L N Φ) {x y : Th} (hx : x ∈ L) (hy : y ∈ L) (ho : w.ownsRow 0 3 1 (.slice (some ⟨rb, 0, none⟩) 2 cap) 2 [.int .i64 x.id, .int .i64 y.id]) (hlt : ¬ y.tn < x.tn) :
    Calls Tryz.prog 170 #[.slice (some ⟨rb, 0, none⟩) 2 cap, .int .i64 0, .int .i64 2, .func (.func 110) #[.pointer (some ⟨l, 0, none⟩)] #[]] w fun e w' => e = .returned (.tuple #[]) ∧ ∃ q, w' = w.drewN q := by
  have c0 : w.cell? ⟨rb, 0, none⟩ = some (.int .i64 x.id) := by have := ho.cellAt 0 (by simp); simpa using this
  have c1 : w.cell? ⟨rb, 1, none⟩ = some (.int .i64 y.id) := by have := ho.cellAt 1 (by simp); simpa using this
  have HC : Hid (∀ q, Calls Tryz.prog 110 #[.pointer (some ⟨l, 0, none⟩), .int .i64 y.id, .int .i64 x.id] (w.drewN q) fun e w' => e = .returned (.int .i64 (cmp1 y.tn x.tn)) ∧ ∃ m, w' = (w.drewN q).drewN m) := Lib.hid fun q => compare_any (h.keep (Ψ := fun _ => False) (Chg.drewN _ q) fun _ _ => id) hy hx
  have hd : decide (cmp1 y.tn x.tn < 0) = false := by
    unfold cmp1
    rw [if_neg (by omega)]
    split <;> simp
  have hcap := own_cells ho
  obtain ⟨_, _, _, hcap⟩ := hcap
  unfold maxLen at hcap
  clear h hx hy ho
  go_enter Tryz.func170, Tryz.ntmps170
  go_wp2
  refine wp_loop_rounds 2 ?_
  simp only [rounds_succ]
  go_wp2
  refine wp_loop_rounds 1 ?_
  simp only [rounds_succ]
  go_wp2_with fail
  go_quiet ((go_at_call 110; exact Calls.quiet_of (HC.out _)))
  go_wp2
  simp only [rounds_succ]
  go_wp2
  go_end0
  exact ⟨rfl, _, rfl⟩

set_option maxHeartbeats 1600000 in
set_option maxRecDepth 100000 in
theorem ins2_swap {w : World} {l N rb cap : Nat} {L : List Th} {Φ : Nat → Prop} (h : LaneAt w l L N Φ) {x y : Th} (hx : x ∈ L) (hy : y ∈ L) (ho : w.ownsRow 0 3 1 (.slice (some ⟨rb, 0, none⟩) 2 cap) 2 [.int .i64 x.id, .int .i64 y.id]) (hlt : y.tn < x.tn) :
    Calls Tryz.prog 170 #[.slice (some ⟨rb, 0, none⟩) 2 cap, .int .i64 0, .int .i64 2, .func (.func 110) #[.pointer (some ⟨l, 0, none⟩)] #[]] w fun e w' => e = .returned (.tuple #[]) ∧ ∃ q, w' = ((w.setCell ⟨rb, 1, none⟩ (.int .i64 x.id)).setCell ⟨rb, 0, none⟩ (.int .i64 y.id)).drewN q := by
  have c0 : w.cell? ⟨rb, 0, none⟩ = some (.int .i64 x.id) := by have := ho.cellAt 0 (by simp); simpa using this
  have c1 : w.cell? ⟨rb, 1, none⟩ = some (.int .i64 y.id) := by have := ho.cellAt 1 (by simp); simpa using this
  have f0 := ho.frozenAt 0
  have f1 := ho.frozenAt 1
  have HC : Hid (∀ q, Calls Tryz.prog 110 #[.pointer (some ⟨l, 0, none⟩), .int .i64 y.id, .int .i64 x.id] (w.drewN q) fun e w' => e = .returned (.int .i64 (cmp1 y.tn x.tn)) ∧ ∃ m, w' = (w.drewN q).drewN m) := Lib.hid fun q => compare_any (h.keep (Ψ := fun _ => False) (Chg.drewN _ q) fun _ _ => id) hy hx
  have hd : cmp1 y.tn x.tn = -1 := by
    unfold cmp1
    rw [if_pos (by omega)]
  rw [hd] at HC
  have hcap := own_cells ho
  obtain ⟨_, _, _, hcap⟩ := hcap
  unfold maxLen at hcap
  clear h hx hy ho hd
  go_enter Tryz.func170, Tryz.ntmps170
  go_wp2
  refine wp_loop_rounds 2 ?_
  simp only [rounds_succ]
  go_wp2
  refine wp_loop_rounds 2 ?_
  simp only [rounds_succ]
  go_wp2_with fail
  go_quiet ((go_at_call 110; exact Calls.quiet_of (HC.out _)))
  go_wp2_with fail
  go_region
  go_wp2
  simp only [rounds_succ]
  have HW : Hid (((w.drewN (nq + 1)).setCell ⟨rb, 1, none⟩ (.int .i64 x.id)).setCell ⟨rb, 0, none⟩ (.int .i64 y.id) = ((w.setCell ⟨rb, 1, none⟩ (.int .i64 x.id)).setCell ⟨rb, 0, none⟩ (.int .i64 y.id)).drewN (nq + 1)) := Lib.hid rfl
  rw [HW.out]
  generalize hW2 : (w.setCell ⟨rb, 1, none⟩ (.int .i64 x.id)).setCell ⟨rb, 0, none⟩ (.int .i64 y.id) = W2
  have HW2 := Lib.hid hW2
  clear HC HW c0 c1 f0 f1 hW2
  generalize nq + 1 = n2
  go_wp2_with fail
  go_quiet (fail)
  go_wp2
  simp only [rounds_succ]
  go_wp2
  go_end0
  exact ⟨rfl, n2 + nq, by rw [HW2.out]⟩

/-- What SortFunc leaves of a row of things. -/
def SortSaid (rb cap : Nat) (xs : List Th) (w : World) (e : Ending) (w' : World) : Prop :=
  e = .returned (.tuple #[]) ∧ ∃ ys : List Th, ys.Perm xs ∧ ys.Pairwise (fun a b => a.tn ≤ b.tn) ∧ w'.ownsRow 0 3 1 (.slice (some ⟨rb, 0, none⟩) xs.length cap) xs.length ((ys.map Th.id).map (Value.int .i64)) ∧ Chg (fun i => i = rb) w w'
def SortOK (n : Nat) : Prop := ∀ (w : World) (l N : Nat) (L : List Th) (Φ : Nat → Prop) (rb cap : Nat) (xs : List Th), LaneAt w l L N Φ → xs.length = n → (∀ x ∈ xs, x ∈ L) → ¬ Φ rb → w.ownsRow 0 3 1 (.slice (some ⟨rb, 0, none⟩) xs.length cap) xs.length ((xs.map Th.id).map (Value.int .i64)) →
  Calls Tryz.prog 109 #[.slice (some ⟨rb, 0, none⟩) xs.length cap, .func (.func 110) #[.pointer (some ⟨l, 0, none⟩)] #[]] w (SortSaid rb cap xs w)
theorem ins2_any {w : World} {l N rb cap : Nat} {L : List Th} {Φ : Nat → Prop} (h : LaneAt w l L N Φ) {x y : Th} (hx : x ∈ L) (hy : y ∈ L) (ho : w.ownsRow 0 3 1 (.slice (some ⟨rb, 0, none⟩) 2 cap) 2 [.int .i64 x.id, .int .i64 y.id]) :
    Calls Tryz.prog 170 #[.slice (some ⟨rb, 0, none⟩) 2 cap, .int .i64 0, .int .i64 2, .func (.func 110) #[.pointer (some ⟨l, 0, none⟩)] #[]] w (SortSaid rb cap [x, y] w) := by
  by_cases hlt : y.tn < x.tn
  · refine (ins2_swap h hx hy ho hlt).mono ?_
    rintro e w' ⟨rfl, q, rfl⟩
    have h1 := ho.stored 1 (.int .i64 x.id)
    have h2 := h1.1.stored 0 (.int .i64 y.id)
    refine ⟨rfl, [y, x], List.Perm.swap _ _ _, ?_, ?_, ?_⟩
    · simp
      omega
    · have h3 := (Chg.drewN (Φ := fun _ => False) ((w.setCell ⟨rb, 1, none⟩ (.int .i64 x.id)).setCell ⟨rb, 0, none⟩ (.int .i64 y.id)) q).own h2.1 fun _ _ => id
      simpa using h3
    · exact (((Chg.set w rb 1 _).trans (Chg.set _ rb 0 _) fun _ _ e => e).trans (Chg.drewN (Φ := fun _ => False) _ q) fun _ _ e => e.elim)
  · refine (ins2_skip h hx hy ho hlt).mono ?_
    rintro e w' ⟨rfl, q, rfl⟩
    refine ⟨rfl, [x, y], List.Perm.refl _, ?_, ?_, Chg.drewN _ _⟩
    · simp
      omega
    · have h3 := (Chg.drewN (Φ := fun _ => False) w q).own ho fun _ _ => id
      simpa using h3

set_option maxHeartbeats 800000 in
set_option maxRecDepth 100000 in
theorem pdq2_any {w : World} {l N rb cap : Nat} {L : List Th} {Φ : Nat → Prop} (h : LaneAt w l L N Φ) {x y : Th} (hx : x ∈ L) (hy : y ∈ L) (ho : w.ownsRow 0 3 1 (.slice (some ⟨rb, 0, none⟩) 2 cap) 2 [.int .i64 x.id, .int .i64 y.id]) :
    Calls Tryz.prog 149 #[.slice (some ⟨rb, 0, none⟩) 2 cap, .int .i64 0, .int .i64 2, .int .i64 2, .func (.func 110) #[.pointer (some ⟨l, 0, none⟩)] #[]] w (SortSaid rb cap [x, y] w) := by
  have HI := Lib.hid (ins2_any h hx hy ho)
  clear h hx hy ho
  go_enter Tryz.func149, Tryz.ntmps149
  go_wp2
  refine wp_loop_rounds 1 ?_
  simp only [rounds_succ]
  go_wp2_with (go_at_call 170; refine HI.out.mono ?_; rintro e w2 HY; obtain rfl := HY.1; have HZ := Lib.hid HY; clear HY)
  refine bodyPost_ret (results_none rfl _ _ _) rfl ?_
  exact HZ.out

set_option maxHeartbeats 800000 in
set_option maxRecDepth 100000 in
theorem sort2 : SortOK 2 := by
  intro w l N L Φ rb cap xs h hn hL hrb ho
  obtain ⟨x, y, rfl⟩ : ∃ x y, xs = [x, y] := by
    match xs, hn with
    | [x, y], _ => exact ⟨x, y, rfl⟩
  have HI := Lib.hid (pdq2_any h (hL x (by simp)) (hL y (by simp)) ho)
  have HL := Lib.hid (len2_any w)
  clear h hL hrb ho hn
  show Calls _ _ #[.slice (some ⟨rb, 0, none⟩) 2 cap, _] _ _
  go_enter Tryz.func109, Tryz.ntmps109
  go_wp2_with (first
    | (go_at_call 93; refine HL.out.mono ?_; rintro e w1 ⟨rfl, rfl⟩)
    | (go_at_call 149; refine HI.out.mono ?_; rintro e w2 HY; obtain rfl := HY.1; have HZ := Lib.hid HY; clear HY))
  go_end0
  exact HZ.out
end Go.Proofs.YtdjieapobodakaaGreatDoor.Lan
end

section
namespace Go.Proofs.YtdjieapobodakaaGreatDoor.Lan
open Go Go.RowKit Go.Maps Go.WideMaps Go.Shelf Go.Sort
set_option maxRecDepth 100000

/-- The things that are the first of their group. -/
def headsT (L : List Th) : List Th := L.filter fun x => decide ((ofG L x.g).head? = some x.id)
theorem headsT_mem {L : List Th} {x : Th} : x ∈ headsT L ↔ x ∈ L ∧ (ofG L x.g).head? = some x.id := by simp [headsT]
/-- A group that has things has a head. -/
theorem head_there {L : List Th} {s : ByteArray} (h : ofG L s ≠ []) : ∃ x, x ∈ headsT L ∧ x.g = s ∧ ∃ r, ofG L s = x.id :: r := by
  obtain ⟨k, r, e⟩ := List.exists_cons_of_ne_nil h
  obtain ⟨x, hx, hg, hk⟩ := mem_ofG (by rw [e]; exact List.mem_cons_self .. : k ∈ ofG L s)
  refine ⟨x, headsT_mem.2 ⟨hx, ?_⟩, hg, r, by rw [e, hk]⟩
  rw [hg, e, hk]
  rfl
theorem head_one {L : List Th} (h : (ids L).Nodup) {x y : Th} (hx : x ∈ headsT L) (hy : y ∈ headsT L) (e : x.g = y.g) : x = y := by
  obtain ⟨h1, h2⟩ := headsT_mem.1 hx
  obtain ⟨h3, h4⟩ := headsT_mem.1 hy
  rw [e] at h2
  exact nodup_id h h1 h3 (Option.some.inj (h2.symm.trans h4))
/-- What has been collected. -/
structure Coll (L : List Th) (left : Lit → Bool) (xs : List Th) : Prop where
  sub : ∀ x ∈ xs, x ∈ headsT L ∧ left (strK x.g) = false
  nodup : xs.Nodup
  all : ∀ x ∈ headsT L, left (strK x.g) = false → x ∈ xs
theorem Coll.step {L : List Th} {left : Lit → Bool} {xs : List Th} (h : Coll L left xs) (hn : (ids L).Nodup) {x : Th} (hx : x ∈ headsT L) (hl : left (strK x.g) = true) : Coll L (fun z => left z && !z.sameKey (strK x.g)) (xs ++ [x]) := by
  have hself : (strK x.g).sameKey (strK x.g) = true := by simp [strK, Lit.sameKey]
  refine ⟨fun y hy => ?_, ?_, fun y hy he => ?_⟩
  · rcases List.mem_append.1 hy with hy | hy
    · obtain ⟨h1, h2⟩ := h.sub y hy
      exact ⟨h1, by simp [h2]⟩
    · simp at hy
      subst hy
      exact ⟨hx, by simp [hself]⟩
  · rw [List.nodup_append]
    refine ⟨h.nodup, by simp, fun a ha b hb e => ?_⟩
    simp at hb
    have := (h.sub a ha).2
    rw [e, hb, hl] at this
    cases this
  · by_cases hg : y.g = x.g
    · rw [head_one hn hy hx hg]
      simp
    · have hne : strK y.g ≠ strK x.g := fun e => hg (strK_inj e)
      simp only [sameKey_ne hne, Bool.not_false, Bool.and_true] at he
      exact List.mem_append_left _ (h.all y hy he)
theorem nodup_of_map {α β : Type} (f : α → β) : ∀ {l : List α}, (l.map f).Nodup → l.Nodup
  | [], _ => List.nodup_nil
  | a :: r, h => by
    rw [List.map_cons, List.nodup_cons] at h
    exact List.nodup_cons.2 ⟨fun ha => h.1 (List.mem_map_of_mem ha), nodup_of_map f h.2⟩
theorem nodup_heads {L : List Th} (h : (ids L).Nodup) : (headsT L).Nodup := (nodup_of_map Th.id h).sublist List.filter_sublist
theorem perm_of_mem [BEq Th] [LawfulBEq Th] {l m : List Th} (hl : l.Nodup) (hm : m.Nodup) (h : ∀ x, x ∈ l ↔ x ∈ m) : l.Perm m := (List.perm_ext_iff_of_nodup hl hm).2 h
theorem Coll.perm {L : List Th} {left : Lit → Bool} {xs : List Th} (h : Coll L left xs) (hn : (ids L).Nodup) (hl : ∀ k, left k = false) : xs.Perm (headsT L) :=
  (List.perm_ext_iff_of_nodup h.nodup (nodup_heads hn)).2 fun x => ⟨fun hx => (h.sub x hx).1, fun hx => h.all x hx (hl _)⟩
/-- Sorted by their turns the things stand as they came. -/
theorem sorted_unique {L : List Th} (h : (L.map Th.tn).Pairwise (· < ·)) {xs ys : List Th} (hx : xs.Sublist L) (hp : ys.Perm xs) (hs : ys.Pairwise fun a b => a.tn ≤ b.tn) : ys = xs := by
  have hr : L.Pairwise fun a b => a.tn < b.tn := List.pairwise_map.1 h
  have hinj : ∀ l : List Th, l.Pairwise (fun a b => a.tn < b.tn) → ∀ a ∈ l, ∀ b ∈ l, a.tn = b.tn → a = b := by
    intro l hl
    induction l with
    | nil => intro a ha; cases ha
    | cons z r ih =>
      obtain ⟨h1, h2⟩ := List.pairwise_cons.1 hl
      intro a ha b hb e
      rcases List.mem_cons.1 ha with ea | ha <;> rcases List.mem_cons.1 hb with eb | hb
      · rw [ea, eb]
      · have := h1 b hb
        rw [ea] at e
        omega
      · have := h1 a ha
        rw [eb] at e
        omega
      · exact ih h2 a ha b hb e
  refine hp.eq_of_pairwise (le := fun a b => a.tn ≤ b.tn) (fun a b ha hb h1 h2 => ?_) hs ((hr.sublist hx).imp fun h => Nat.le_of_lt h)
  exact hinj L hr a (hx.subset ((hp.mem_iff).1 ha)) b (hx.subset hb) (Nat.le_antisymm h1 h2)

theorem nodup_le {l m : List Th} (hl : l.Nodup) (hm : m.Nodup) (h : ∀ x ∈ l, x ∈ m) : l.length ≤ m.length := by
  classical
  have hp : l.Perm (m.filter fun x => decide (x ∈ l)) := (List.perm_ext_iff_of_nodup hl (hm.sublist List.filter_sublist)).2 fun x => by
    rw [List.mem_filter]
    exact ⟨fun hx => ⟨h x hx, by simpa using hx⟩, fun hx => by simpa using hx.2⟩
  rw [hp.length_eq]
  exact List.length_filter_le _ _
theorem strV_inv (key : Value) (kl : Lit) (h : keyOf Tryz.prog 9 key = some kl) : ∃ s : ByteArray, key = .string s := by
  obtain ⟨x, rfl, _⟩ := Maps.keyOf_str Tryz.underlying9 h
  exact ⟨_, rfl⟩
theorem str_key {s : ByteArray} {kl : Lit} (h : keyOf Tryz.prog 9 (.string s) = some kl) : kl = strK s ∧ s.size ≤ maxLen := by
  obtain ⟨x', ek, rfl, hxl⟩ := Maps.keyOf_str Tryz.underlying9 h
  have e : s = ⟨x'.toArray⟩ := by simpa [encStr] using ek
  refine ⟨by rw [e]; simp [strK], ?_⟩
  rw [e]
  simpa [ByteArray.size] using hxl

/-- While the groups are gone through. -/
structure HeadRel (w : World) (gm : Nat) (L : List Th) (Ng : Nat) (D : DataW Value) (r : Nat) (v : Value) (wr : World) (left : Lit → Bool) (cnt : Nat) (xs : List Th) : Prop where
  low : Below w.heap.size w wr
  rng : wr.ranges Tryz.prog 9 anyV gm r Ng D left cnt
  new : w.heap.size ≤ r
  row : wr.ownsRow w.heap.size 3 1 v xs.length ((xs.map Th.id).map (Value.int .i64))
  col : Coll L left xs
theorem head_round {w wr w1 : World} {l gm pm N Ng r cnt cnt1 : Nat} {L : List Th} {fg fp : Lit → Option Value} {Φ : Nat → Prop} {D : DataW Value} {left : Lit → Bool} {v : Value} {xs : List Th} (h : LaneL w l gm pm L N Ng fg fp Φ) (hD : ViewV D fg)
    (hrel : HeadRel w gm L Ng D r v wr left cnt xs) {s : ByteArray} {c : Value} {kl : Lit} {y : DataW Value × List MemPlace} (hkey : keyOf Tryz.prog 9 (.string s) = some kl) (hv : anyV c = some y)
    (hat : ∀ z, D.atKey kl z = y.1) (hrg : w1.ranges Tryz.prog 9 anyV gm r Ng D (fun z => left z && !z.sameKey kl) cnt1) (hg : wr.grownBy w1 (some r)) (hlk : left kl = true) :
    ∃ rb n cap, ∃ x : Th, c = .slice (some ⟨rb, 0, none⟩) n cap ∧ 0 < n ∧ n ≤ L.length ∧ cap ≤ 9223372036854775807 ∧ x ∈ headsT L ∧ w1.cell? ⟨rb, 0, none⟩ = some (.int .i64 x.id) ∧ rb < w1.heap.size ∧ w1.ownsRow w.heap.size 3 1 v xs.length ((xs.map Th.id).map (Value.int .i64)) ∧ w.heap.size ≤ w1.heap.size ∧
      ∀ v2 w2, w2.ownsRow w.heap.size 3 1 v2 (xs.length + 1) ((xs.map Th.id).map (Value.int .i64) ++ [.int .i64 x.id]) → (w1.alloc (.cells #[.int .i64 x.id] 3)).grownBy w2 v.ownBlock → HeadRel w gm L Ng D r v2 w2 (fun z => left z && !z.sameKey kl) cnt1 (xs ++ [x]) := by
  obtain ⟨rfl, hsl⟩ := str_key hkey
  have hc : fg (strK s) = some c := hD.at fun z => by rw [hat z, ← Option.some.inj hv]
  have hne : ofG L s ≠ [] := fun e => by rw [h.gn s e] at hc; cases hc
  obtain ⟨x, hx, rfl, rest, he⟩ := head_there hne
  obtain ⟨v', hv', rb, cap, rfl, ho, hΦ⟩ := h.gr _ hne
  rw [hv'] at hc
  obtain rfl := Option.some.inj hc
  have hb1 : Below w.heap.size w w1 := hrel.low.grown hg hrel.low.size fun k e => by cases e; exact hrel.new
  obtain ⟨_, _, h1, h2⟩ := own_cells ho
  unfold maxLen at h2
  have hrl := (ho.lt rb rfl).2
  have hpos : 0 < (ofG L x.g).length := List.length_pos_iff.2 hne
  obtain ⟨_, _, since, seen, c0, _, _, _, _, hri, _⟩ := hrel.rng
  have hvr : v.ownBlock = none ∨ v.ownBlock ≠ some r := by
    rcases hrel.row.2 with ⟨e, _⟩ | ⟨g, cap, cur, e, _, hgb, _⟩
    · exact .inl (by rw [e]; rfl)
    · refine .inr fun e2 => ?_
      rw [e] at e2
      simp [Value.ownBlock] at e2
      subst e2
      rw [hri] at hgb
      cases hgb
  have hrow1 := hrel.row.kept hg hvr
  refine ⟨rb, _, cap, x, rfl, hpos, ofG_length L _, by omega, hx, ?_, Nat.lt_of_lt_of_le hrl hb1.size, hrow1, hb1.size, ?_⟩
  · rw [hb1.cell (p := ⟨rb, 0, none⟩) hrl]
    have := ho.cellAt 0 (by omega)
    rw [this, he]
    rfl
  · intro v2 w2 ho2 hg2
    have hbA : Below w.heap.size w (w1.alloc (.cells #[.int .i64 x.id] 3)) := hb1.alloc hb1.size _
    have hvb : ∀ k, v.ownBlock = some k → w.heap.size ≤ k ∧ k < w1.heap.size := fun k hk => hrow1.lt k hk
    have hrA := hrg.alloc (.cells #[.int .i64 x.id] 3)
    refine ⟨hbA.grown hg2 (by simp; have := hb1.size; omega) fun k hk => (hvb k hk).1, hrA.kept hg2 (fun e => ?_) (fun e => ?_), hrel.new, ?_, hrel.col.step h.nodup hx hlk⟩
    · have h9 := (hvb gm e.symm).1
      have := h.grp.lt
      omega
    · rcases hvr with h9 | h9
      · rw [h9] at e; cases e
      · exact h9 e.symm
    · rw [List.length_append, List.map_append, List.map_append]
      exact ho2

/-- A new row of numbers. -/
def RowSaid (xs : List Int) (w : World) (e : Ending) (w' : World) : Prop :=
  ∃ A c, e = .returned (.slice A xs.length c) ∧ w'.ownsRow w.heap.size 3 1 (.slice A xs.length c) xs.length (xs.map (Value.int .i64)) ∧ Below w.heap.size w w'
theorem own_slice {w : World} {base e n : Nat} {v : Value} {xs : List Value} (h : w.ownsRow base e 1 v n xs) : ∃ A c, v = .slice A n c := by
  rcases h.2 with ⟨rfl, h0⟩ | ⟨g, cap, _, rfl, _⟩
  · exact ⟨none, 0, by rw [h0]⟩
  · exact ⟨_, _, rfl⟩
theorem own_up {w : World} {base base' e n : Nat} {v : Value} {xs : List Value} (h : w.ownsRow base e 1 v n xs) (hb : ∀ g, v.ownBlock = some g → base' ≤ g) : w.ownsRow base' e 1 v n xs := by
  refine ⟨h.1, ?_⟩
  rcases h.2 with h1 | ⟨g, cap, cur, rfl, _, r⟩
  · exact .inl h1
  · exact .inr ⟨g, cap, cur, rfl, hb g rfl, r⟩

set_option maxHeartbeats 1600000 in
set_option maxRecDepth 100000 in
theorem Heads_any {w : World} {l N : Nat} {L : List Th} {Φ : Nat → Prop} (h : LaneAt w l L N Φ) (hLn : L.length < 900000) (hS : headsT L = [] ∨ SortOK (headsT L).length) :
    Calls Tryz.prog 89 #[.pointer (some ⟨l, 0, none⟩)] w (RowSaid ((headsT L).map Th.id) w) := by
  have h0 := h
  obtain ⟨gm, pm, Ng, fg, fp, h⟩ := h
  obtain ⟨c0, c1, c2, _⟩ := three_cells h.blk
  obtain ⟨D, hM, hDs, hD⟩ := h.grp
  have hll := lt_of_block h.blk
  have HST : Hid (∀ w1, w1.ranges Tryz.prog 9 anyV gm w.heap.size Ng D (Maps.has D) (Maps.size D) → w.grownBy w1 none → HeadRel w gm L Ng D w.heap.size (.slice none 0 0) w1 (Maps.has D) (Maps.size D) []) := Lib.hid (by
    intro w1 hr hg
    refine ⟨⟨hg.os, hg.tape, hg.output, hg.size, fun k hk => hg.block k hk (by simp)⟩, hr, Nat.le_refl _, World.ownsRow_nil _ _ _ _, ⟨(fun x hx => by cases hx), List.nodup_nil, fun x hx he => ?_⟩⟩
    obtain ⟨hx1, hx2⟩ := headsT_mem.1 hx
    have hne : ofG L x.g ≠ [] := fun e => by rw [e] at hx2; cases hx2
    obtain ⟨v, hv, _⟩ := h.gr _ hne
    rw [(hD _).1, hv] at he
    cases he)
  have HSRT : Hid (∀ wr A n c left cnt xs, n = List.length xs → HeadRel w gm L Ng D w.heap.size (.slice A n c) wr left cnt xs → (∀ k, left k = false) → Calls Tryz.prog 109 #[.slice A n c, .func (.func 110) #[.pointer (some ⟨l, 0, none⟩)] #[]] wr fun e w' => e = .returned (.tuple #[]) ∧ Hid (RowSaid ((headsT L).map Th.id) w (.returned (.slice A n c)) w')) := Lib.hid (by
    intro wr A n c left cnt xs hn hrel hl
    subst hn
    have hp := hrel.col.perm h.nodup hl
    have hpl := hp.length_eq
    by_cases hz : xs.length = 0
    · obtain rfl : xs = [] := List.eq_nil_of_length_eq_zero hz
      have hH : headsT L = [] := List.eq_nil_of_length_eq_zero (by rw [← hpl]; rfl)
      have hcon := AnyF.slices_SortFunc_none { Tryz.sortInts with } A c (.func (.func 110) #[.pointer (some ⟨l, 0, none⟩)] #[]) wr
      change Calls Tryz.prog 109 _ _ _ at hcon
      refine hcon.mono ?_
      rintro e w' ⟨rfl, rfl⟩
      exact ⟨rfl, Lib.hid ⟨A, c, by rw [hH]; rfl, by rw [hH]; exact hrel.row, hrel.low⟩⟩
    · obtain ⟨rb, cap, e, hbl, _⟩ := hrel.row.form (by omega)
      obtain ⟨rfl, rfl⟩ : A = some ⟨rb, 0, none⟩ ∧ c = cap := by simpa using e
      have hOK : SortOK xs.length := by
        rcases hS with h1 | h1
        · rw [h1] at hpl
          exact absurd hpl hz
        · rwa [← hpl] at h1
      have hlow := h0.below hrel.low
      have hΦ : ∀ k, k < w.heap.size → Φ k → (Φ k ∧ k < w.heap.size) := fun k hk hp => ⟨hp, hk⟩
      have h1 : LaneAt wr l L N fun k => Φ k ∧ k < w.heap.size := (h0.mono hΦ).below hrel.low
      refine (hOK wr l N L _ rb c xs h1 rfl (fun x hx => (headsT_mem.1 (hrel.col.sub x hx).1).1) (fun hp => by have := hp.2; omega) (own_base hrel.row (Nat.zero_le _))).mono ?_
      rintro e w' ⟨rfl, ys, hys, hso, how, hcg⟩
      have hye : ys = headsT L := sorted_unique h.rise List.filter_sublist (hys.trans hp) hso
      subst hye
      refine ⟨rfl, Lib.hid ⟨some ⟨rb, 0, none⟩, c, ?_, ?_, ?_⟩⟩
      · rw [List.length_map, hpl]
      · rw [List.length_map, ← hpl]
        exact own_up how fun g hg => by simp [Value.ownBlock] at hg; omega
      · exact hrel.low.trans (hcg.below hrel.low.size fun i hi => by omega))
  have HM0 := Lib.hid hM
  have HDv := Lib.hid hD
  have HH := Lib.hid h
  obtain ⟨i0, hi, hz0, hz1, hz2⟩ := info_parts info_int
  clear h h0 hM hDs hD hS hll
  go_enter Tryz.func89, Tryz.ntmps89
  go_wp2_with (at_range; refine wpList_range_own _ rfl _ 119 rfl 9 48 keyed_str Tryz.underlying119 anyV gm Ng D rfl HM0.out ?_; intro w1 hrg1 hg1 hs1; have HC := Lib.hid (HST.out w1 hrg1 hg1); clear hrg1 hg1 hs1)
  go_frame
  go_loopw [3] (fun sv wr => ∃ (A : Option Addr) (c n : Nat) (left : Lit → Bool) (cnt : Nat) (xs : List Th), sv = .slice A n c ∧ Hid (n = xs.length) ∧ Hid (HeadRel w gm L Ng D w.heap.size (.slice A n c) wr left cnt xs)) (fun _ wr => wr.rangeLeft gm w.heap.size)
  case atStart => exact ⟨none, 0, 0, _, _, [], rfl, Lib.hid rfl, HC⟩
  case round =>
    clear HC
    obtain ⟨A, c, n, left, cnt, xs, rfl, HN, HR⟩ := hrel
    go_wp2_with (at_next; refine wpList_next_ranges _ rfl _ rfl 9 keyed_str anyV Value.string id strV_inv (fun v _ _ => ⟨v, rfl⟩) gm w.heap.size Ng D left cnt rfl HR.out.rng ?_ ?_)
    · intro _ hl0
      have hE := HSRT.out wr A n c left cnt xs HN.out HR.out hl0
      have HE := Lib.hid hE
      clear hE hl0
      go_wp2_with (go_at_call 109; refine HE.out.mono ?_; rintro e w3 ⟨rfl, HX⟩)
      go_ret
      exact HX.out
    · intro s cv kl ya yb w2 cnt2 hkey hlk hv hat hrg2 hlt hg2 hs2 hen
      obtain ⟨rb, m, cap, x, rfl, hm0, hmL, hcap, hxh, q0, hrl, how, hsz, hnext⟩ := head_round HH.out HDv.out HR.out (y := (ya, yb)) hkey hv hat hrg2 hg2 hlk
      have HLT : Hid (cnt2 < wr.rangeLeft gm w.heap.size) := Lib.hid (by rw [HR.out.rng.left_eq]; exact hlt)
      have HOW := Lib.hid how
      have HNX := Lib.hid hnext
      have HXL : Hid (x ∈ headsT L) := Lib.hid hxh
      have hnL : n ≤ L.length := by
        rw [HN.out]
        have h9 : xs.length ≤ (headsT L).length := by
          exact nodup_le HR.out.col.nodup (nodup_heads HH.out.nodup) fun z hz => (HR.out.col.sub z hz).1
        have h10 : (headsT L).length ≤ L.length := List.length_filter_le _ _
        omega
      have hmp : (0 : Int) < m := by omega
      have hNx := HN.out
      rw [← hNx] at HOW HNX
      have HNX2 : Hid (n = xs.length) := HN
      clear hkey hlk hv hat hrg2 hlt hg2 hs2 hnext how hxh hNx
      go_wp2_with (at_builtin; refine wpList_append_src (o := ⟨some 20, _, _, _, _, _⟩) rfl (.tmp 15) (.tmp 19) 48 rfl w.heap.size 3 i0 _ 1 8 Tryz.underlying48 hi hz0 hz1 hz2 rfl (by omega) _ n _ rfl (HOW.out.alloc _) (some ⟨w2.heap.size, 0, none⟩) 1 1 [.int .i64 x.id] rfl rfl (fun e => by cases e) (news_new w2 _ _) (one_cell _ _) (by unfold maxLen; omega) (by omega) (by simp; omega) ?_; intro v2 w3 ho3 hg3; obtain ⟨A3, c3, rfl⟩ := own_slice ho3; have HX := Lib.hid (HNX.out _ _ ho3 hg3); clear ho3 hg3)
      go_roundw
      case rel => exact ⟨A3, c3, n + 1, _, _, _, rfl, Lib.hid (by rw [List.length_append, ← HNX2.out]; rfl), HX⟩
      case measure =>
        have h9 := HX.out.rng.left_eq
        have h10 := HLT.out
        omega
end Go.Proofs.YtdjieapobodakaaGreatDoor.Lan
end
