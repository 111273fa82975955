/- What is proved here: plain facts on things in groups. -/
/- What is proved here: what it is that memory holds lanes: definitions, and plain facts on them; what New, Len, Group and Head answer. -/
/- What is proved here: what Add does. -/
import Derived.Test.YtdjieapobodakaaGreatDoorPEx1
import Derived.Test.YtdjieapobodakaaGreatDoorPEx2
import Derived.Laws.OwnMore
import Derived.Deep.AppendLies
import Derived.StillTailTactics
import Derived.Deep.QuietTactic
import Derived.BigQuiet
import Derived.StringKeys
import Derived.Deep.RegionLaw
import Derived.Deep.Cut
import Derived.Maps.AppendAt
section
namespace Go.Proofs.YtdjieapobodakaaGreatDoor.Lan
open Go
set_option maxRecDepth 100000

/-- A thing: its group, its number, its turn. -/
structure Th where
  g : ByteArray
  id : Int
  tn : Nat
def ids (L : List Th) : List Int := L.map Th.id
def at_ (L : List Th) (k : Int) : Option Th := L.find? fun x => decide (x.id = k)
def ofG (L : List Th) (s : ByteArray) : List Int := (L.filter fun x => decide (x.g = s)).map Th.id
def dropT (L : List Th) (k : Int) : List Th := L.filter fun x => decide (x.id ≠ k)

theorem at_none {L : List Th} {k : Int} : at_ L k = none ↔ ∀ x ∈ L, x.id ≠ k := by simp [at_, List.find?_eq_none]
theorem at_some {L : List Th} {k : Int} {x : Th} (h : at_ L k = some x) : x ∈ L ∧ x.id = k := by
  have h1 := List.mem_of_find?_eq_some h
  have h2 := List.find?_some h
  exact ⟨h1, by simpa using h2⟩
theorem at_add_other (L : List Th) (x : Th) {k : Int} (h : k ≠ x.id) : at_ (L ++ [x]) k = at_ L k := by
  unfold at_
  rw [List.find?_append]
  have : [x].find? (fun x => decide (x.id = k)) = none := by simpa using fun e => h e.symm
  rw [this, Option.or_none]
theorem at_add_same {L : List Th} {x : Th} (h : at_ L x.id = none) : at_ (L ++ [x]) x.id = some x := by
  unfold at_ at h ⊢
  rw [List.find?_append, h]
  simp
theorem at_drop_same (L : List Th) (k : Int) : at_ (dropT L k) k = none := by
  rw [at_none]
  intro x hx
  simpa using (List.mem_filter.1 hx).2
theorem at_drop_other (L : List Th) {k j : Int} (h : j ≠ k) : at_ (dropT L k) j = at_ L j := by
  unfold at_ dropT
  induction L with
  | nil => rfl
  | cons x r ih =>
    by_cases hx : x.id = k
    · rw [List.filter_cons_of_neg (by simpa using hx), ih, List.find?_cons_of_neg (by simpa using fun e => h (e.symm.trans hx))]
    · rw [List.filter_cons_of_pos (by simpa using hx)]
      by_cases hj : x.id = j
      · rw [List.find?_cons_of_pos (by simpa using hj), List.find?_cons_of_pos (by simpa using hj)]
      · rw [List.find?_cons_of_neg (by simpa using hj), List.find?_cons_of_neg (by simpa using hj), ih]
theorem ofG_append (L M : List Th) (s : ByteArray) : ofG (L ++ M) s = ofG L s ++ ofG M s := by simp [ofG]
theorem ofG_add_same (L : List Th) (x : Th) : ofG (L ++ [x]) x.g = ofG L x.g ++ [x.id] := by simp [ofG]
theorem ofG_add_other (L : List Th) (x : Th) {s : ByteArray} (h : s ≠ x.g) : ofG (L ++ [x]) s = ofG L s := by
  have : ofG [x] s = [] := by simpa [ofG] using fun e => h e.symm
  rw [ofG_append, this, List.append_nil]
theorem ofG_drop (L : List Th) (k : Int) (s : ByteArray) : ofG (dropT L k) s = (ofG L s).filter fun i => decide (i ≠ k) := by
  unfold ofG dropT
  rw [List.filter_map, List.filter_filter, List.filter_filter]
  congr 1
  apply List.filter_congr
  intro x _
  simp [Bool.and_comm, Function.comp]
theorem mem_ofG {L : List Th} {s : ByteArray} {k : Int} (h : k ∈ ofG L s) : ∃ x ∈ L, x.g = s ∧ x.id = k := by
  obtain ⟨x, hx, rfl⟩ := List.mem_map.1 h
  have := List.mem_filter.1 hx
  exact ⟨x, this.1, by simpa using this.2, rfl⟩
theorem ofG_mem {L : List Th} {x : Th} (h : x ∈ L) : x.id ∈ ofG L x.g := List.mem_map_of_mem (List.mem_filter.2 ⟨h, by simp⟩)
theorem nodup_id {L : List Th} (h : (ids L).Nodup) {x y : Th} (hx : x ∈ L) (hy : y ∈ L) (e : x.id = y.id) : x = y := by
  unfold ids at h
  induction L with
  | nil => cases hx
  | cons z r ih =>
    rw [List.map_cons, List.nodup_cons] at h
    rcases List.mem_cons.1 hx with hx | hx <;> rcases List.mem_cons.1 hy with hy | hy
    · rw [hx, hy]
    · rw [hx] at e
      exact absurd (e ▸ List.mem_map_of_mem hy : z.id ∈ r.map Th.id) h.1
    · rw [hy] at e
      exact absurd (e ▸ List.mem_map_of_mem hx : z.id ∈ r.map Th.id) h.1
    · exact ih h.2 hx hy
/-- What goes is of one group: the others stay. -/
theorem ofG_drop_other {L : List Th} (h : (ids L).Nodup) {x : Th} (hx : x ∈ L) {s : ByteArray} (hs : s ≠ x.g) : ofG (dropT L x.id) s = ofG L s := by
  rw [ofG_drop]
  apply List.filter_eq_self.2
  intro k hk
  obtain ⟨y, hy, hg, rfl⟩ := mem_ofG hk
  simp only [decide_eq_true_eq]
  intro e
  obtain rfl := nodup_id h hy hx e
  exact hs hg.symm
theorem length_dropT {L : List Th} (h : (ids L).Nodup) {x : Th} (hx : x ∈ L) : (dropT L x.id).length + 1 = L.length := by
  unfold ids at h
  unfold dropT
  induction L with
  | nil => cases hx
  | cons z r ih =>
    rw [List.map_cons, List.nodup_cons] at h
    rcases List.mem_cons.1 hx with rfl | hx'
    · rw [List.filter_cons_of_neg (by simp)]
      have : r.filter (fun y => decide (y.id ≠ x.id)) = r := by
        apply List.filter_eq_self.2
        intro y hy
        simp only [decide_eq_true_eq]
        exact fun e => h.1 (e ▸ List.mem_map_of_mem hy)
      rw [this]
      rfl
    · have hne : z.id ≠ x.id := fun e => h.1 (e ▸ List.mem_map_of_mem hx')
      rw [List.filter_cons_of_pos (by simpa using hne), List.length_cons, List.length_cons, ih h.2 hx']
theorem dropT_none {L : List Th} {k : Int} (h : at_ L k = none) : dropT L k = L := by
  apply List.filter_eq_self.2
  intro y hy
  simpa using at_none.1 h y hy
theorem ofG_length (L : List Th) (s : ByteArray) : (ofG L s).length ≤ L.length := by
  unfold ofG
  rw [List.length_map]
  exact List.length_filter_le _ _

/-- The key of a text. -/
def strK (s : ByteArray) : Lit := .string s.data.toList
theorem strK_inj {s t : ByteArray} (h : strK s = strK t) : s = t := by
  unfold strK at h
  have h1 := Lit.string.inj h
  have h2 : s.data = t.data := by
    have := congrArg List.toArray h1
    simpa using this
  cases s; cases t; simp at h2; simp [h2]
theorem str_eq (a b : ByteArray) : (a.toList == b.toList) = decide (a = b) := by
  have e : ∀ x y : ByteArray, x.toList = y.toList ↔ x = y := fun x y => by
    rw [ByteArray.toList_eq, ByteArray.toList_eq]
    exact ⟨fun h => strK_inj (congrArg Lit.string h), fun h => by rw [h]⟩
  by_cases h : a = b
  · subst h; simp
  · rw [decide_eq_false h]
    exact beq_eq_false_iff_ne.2 fun h2 => h ((e a b).1 h2)
end Go.Proofs.YtdjieapobodakaaGreatDoor.Lan
end

section
namespace Go.Proofs.YtdjieapobodakaaGreatDoor.Lan
open Go Go.RowKit Go.Maps Go.WideMaps
set_option maxRecDepth 100000

theorem two_cells' {w : World} {b : Nat} {x y : Value} {t : TypeId} (h : w.heap[b]? = some (.cells #[x, y] t (0, 0))) :
    w.cell? ⟨b, 0, none⟩ = some x ∧ w.cell? ⟨b, 1, none⟩ = some y := ⟨(two_cells h).1, (two_cells h).2.1⟩
theorem lt_of_block {w : World} {b : Nat} {o : Obj} (h : w.heap[b]? = some o) : b < w.heap.size := (Array.getElem?_eq_some_iff.1 h).1

theorem keyed_int : Keyed Tryz.prog 3 := int_keyed Tryz.underlying3
theorem keyed_str : Keyed Tryz.prog 9 := string_keyed Tryz.underlying9
def wfk (k : Int) : Prop := -9223372036854775808 ≤ k ∧ k ≤ 9223372036854775807
theorem wfk_wf {k : Int} (h : wfk k) : (Lit.int .i64 k).wf = true := by
  unfold wfk at h
  exact WalkArith.wf_i64 (by omega)
theorem key_int {k : Int} (h : wfk k) : keyOf Tryz.prog 3 (.int .i64 k) = some (.int .i64 k) := keyOf_int_mk Tryz.underlying3 (wfk_wf h)
theorem key_str {s : ByteArray} (h : s.size ≤ maxLen) : keyOf Tryz.prog 9 (.string s) = some (strK s) := keyOf_string_mk Tryz.underlying9 h
theorem zero_place (w : World) : (zeroValue 126).run Tryz.prog w = .ok (.agg #[.string ⟨#[]⟩, .int .i64 0]) w := by kernel_rfl
theorem zero_row (w : World) : (zeroValue 48).run Tryz.prog w = .ok (.slice none 0 0) w := by kernel_rfl

def placeV (x : Th) : Value := .agg #[.string x.g, .int .i64 x.tn]
/-- A slice that owns numbers. -/
def RowV (w : World) (v : Value) (xs : List Int) (Φ : Nat → Prop) : Prop :=
  ∃ rb cap, v = .slice (some ⟨rb, 0, none⟩) xs.length cap ∧ w.ownsRow 0 3 1 v xs.length (xs.map (Value.int .i64)) ∧ Φ rb
/-- Memory holds lanes. -/
structure LaneL (w : World) (l gm pm : Nat) (L : List Th) (N Ng : Nat) (fg fp : Lit → Option Value) (Φ : Nat → Prop) : Prop where
  blk : w.heap[l]? = some (.cells #[.map (some gm), .map (some pm), .int .i64 N] 122 (0, 0))
  grp : MapV Tryz.prog 9 w gm Ng fg
  plc : MapV Tryz.prog 3 w pm L.length fp
  ng : Ng ≤ N
  ne : gm ≠ pm
  wf : ∀ x ∈ L, wfk x.id ∧ x.g.size ≤ maxLen
  nodup : (ids L).Nodup
  rise : (L.map Th.tn).Pairwise (· < ·)
  top : ∀ x ∈ L, x.tn ≤ N
  pl : ∀ k, fp (.int .i64 k) = (at_ L k).map placeV
  gn : ∀ s, ofG L s = [] → fg (strK s) = none
  gr : ∀ s, ofG L s ≠ [] → ∃ v, fg (strK s) = some v ∧ RowV w v (ofG L s) Φ
  apart : ∀ s s' v v', s ≠ s' → fg (strK s) = some v → fg (strK s') = some v' → v.ownBlock ≠ v'.ownBlock
  inn : Φ l ∧ Φ gm ∧ Φ pm
def LaneAt (w : World) (l : Nat) (L : List Th) (N : Nat) (Φ : Nat → Prop) : Prop := ∃ gm pm Ng fg fp, LaneL w l gm pm L N Ng fg fp Φ

section
variable {w w' : World} {l gm pm N Ng : Nat} {L : List Th} {fg fp : Lit → Option Value} {Φ Ψ : Nat → Prop}
theorem RowV.keep {v : Value} {xs : List Int} (h : RowV w v xs Φ) (hc : Chg Ψ w w') (hs : ∀ k, Φ k → ¬ Ψ k) : RowV w' v xs Φ := by
  obtain ⟨rb, cap, rfl, h1, h2⟩ := h
  exact ⟨rb, cap, rfl, hc.own h1 fun g hg => by simp [Value.ownBlock] at hg; rw [← hg]; exact hs _ h2, h2⟩
theorem RowV.mono {v : Value} {xs : List Int} (h : RowV w v xs Φ) (hs : ∀ k, k < w.heap.size → Φ k → Ψ k) : RowV w v xs Ψ := by
  obtain ⟨rb, cap, rfl, h1, h2⟩ := h
  exact ⟨rb, cap, rfl, h1, hs _ (h1.lt rb rfl).2 h2⟩
theorem LaneL.keep (h : LaneL w l gm pm L N Ng fg fp Φ) (hc : Chg Ψ w w') (hs : ∀ k, Φ k → ¬ Ψ k) : LaneL w' l gm pm L N Ng fg fp Φ :=
  ⟨hc.heap h.blk (hs _ h.inn.1), h.grp.keep hc (hs _ h.inn.2.1), h.plc.keep hc (hs _ h.inn.2.2), h.ng, h.ne, h.wf, h.nodup, h.rise, h.top, h.pl, h.gn, fun s hs' => by
    obtain ⟨v, h1, h2⟩ := h.gr s hs'
    exact ⟨v, h1, h2.keep hc hs⟩, h.apart, h.inn⟩
theorem LaneL.mono (h : LaneL w l gm pm L N Ng fg fp Φ) (hs : ∀ k, k < w.heap.size → Φ k → Ψ k) : LaneL w l gm pm L N Ng fg fp Ψ :=
  ⟨h.blk, h.grp, h.plc, h.ng, h.ne, h.wf, h.nodup, h.rise, h.top, h.pl, h.gn, fun s hs' => by
    obtain ⟨v, h1, h2⟩ := h.gr s hs'
    exact ⟨v, h1, h2.mono hs⟩, h.apart, hs _ (lt_of_block h.blk) h.inn.1, hs _ h.grp.lt h.inn.2.1, hs _ h.plc.lt h.inn.2.2⟩
theorem LaneAt.keep (h : LaneAt w l L N Φ) (hc : Chg Ψ w w') (hs : ∀ k, Φ k → ¬ Ψ k) : LaneAt w' l L N Φ := by
  obtain ⟨gm, pm, Ng, fg, fp, h⟩ := h
  exact ⟨gm, pm, Ng, fg, fp, h.keep hc hs⟩
theorem LaneAt.mono (h : LaneAt w l L N Φ) (hs : ∀ k, k < w.heap.size → Φ k → Ψ k) : LaneAt w l L N Ψ := by
  obtain ⟨gm, pm, Ng, fg, fp, h⟩ := h
  exact ⟨gm, pm, Ng, fg, fp, h.mono hs⟩
theorem LaneL.below (h : LaneL w l gm pm L N Ng fg fp Φ) (hb : Below w.heap.size w w') : LaneL w' l gm pm L N Ng fg fp Φ := h.keep (Ψ := fun _ => False) (Chg.of_below hb) fun _ _ => id
theorem LaneAt.below (h : LaneAt w l L N Φ) (hb : Below w.heap.size w w') : LaneAt w' l L N Φ := h.keep (Ψ := fun _ => False) (Chg.of_below hb) fun _ _ => id
theorem LaneAt.lt (h : LaneAt w l L N Φ) : l < w.heap.size := by
  obtain ⟨gm, pm, Ng, fg, fp, h⟩ := h
  exact lt_of_block h.blk
theorem LaneL.l_gm (h : LaneL w l gm pm L N Ng fg fp Φ) : l ≠ gm := fun e => by
  obtain ⟨es, c, hb⟩ := h.grp.blk
  rw [← e, h.blk] at hb
  cases hb
theorem LaneL.l_pm (h : LaneL w l gm pm L N Ng fg fp Φ) : l ≠ pm := fun e => by
  obtain ⟨es, c, hb⟩ := h.plc.blk
  rw [← e, h.blk] at hb
  cases hb
/-- A row is no block of the others. -/
theorem own_cells {base e n c rb : Nat} {xs : List Value} (h : w.ownsRow base e 1 (.slice (some ⟨rb, 0, none⟩) n c) n xs) : ∃ cur, w.heap[rb]? = some (.cells cur e (0, 0)) ∧ n ≤ c ∧ c ≤ maxLen := by
  rcases h.2 with ⟨e1, _⟩ | ⟨g, cap, cur, e1, _, hg, h1, h2, _⟩
  · cases e1
  · cases e1
    exact ⟨cur, hg, h1, h2⟩
theorem LaneL.row_ne (h : LaneL w l gm pm L N Ng fg fp Φ) {n c rb : Nat} {xs : List Value} (hr : w.ownsRow 0 3 1 (.slice (some ⟨rb, 0, none⟩) n c) n xs) : rb ≠ l ∧ rb ≠ gm ∧ rb ≠ pm := by
  obtain ⟨cur, hb, _⟩ := own_cells hr
  refine ⟨fun e => ?_, fun e => ?_, fun e => ?_⟩
  · rw [e, h.blk] at hb
    simp at hb
  · obtain ⟨es, c, hb2⟩ := h.grp.blk
    rw [e, hb2] at hb
    cases hb
  · obtain ⟨es, c, hb2⟩ := h.plc.blk
    rw [e, hb2] at hb
    cases hb
end

/-- What a look-up of a group gives. -/
def rowOf (fg : Lit → Option Value) (s : ByteArray) : Value := (fg (strK s)).getD (.slice none 0 0)
section
variable {w : World} {l gm pm N Ng : Nat} {L : List Th} {fg fp : Lit → Option Value} {Φ : Nat → Prop}
theorem LaneL.row (h : LaneL w l gm pm L N Ng fg fp Φ) {s : ByteArray} (hs : s.size ≤ maxLen) : w.ownsRow 0 3 1 (rowOf fg s) (ofG L s).length ((ofG L s).map (Value.int .i64)) ∧ (∀ rb, (rowOf fg s).ownBlock = some rb → Φ rb ∧ rb ≠ l ∧ rb ≠ gm ∧ rb ≠ pm) ∧
    (Instr.lookup 119 (.map (some gm)) (.string s) false).run Tryz.prog w = .ok (rowOf fg s) w ∧ ∃ A c, rowOf fg s = .slice A (ofG L s).length c ∧ c ≤ maxLen ∧ (ofG L s).length ≤ c ∧ (A = none → ofG L s = []) := by
  have hl := h.grp.look keyed_str Tryz.underlying119 (zero_row w) (key_str hs)
  by_cases he : ofG L s = []
  · have hn := h.gn s he
    have e : rowOf fg s = .slice none 0 0 := by unfold rowOf; rw [hn]; rfl
    rw [hn] at hl
    rw [e, he]
    exact ⟨World.ownsRow_nil _ _ _ _, fun rb hb => (by simp [Value.ownBlock] at hb), hl, none, 0, rfl, Nat.zero_le _, Nat.le_refl _, fun _ => rfl⟩
  · obtain ⟨v, hv, rb, cap, rfl, ho, hΦ⟩ := h.gr s he
    have e : rowOf fg s = .slice (some ⟨rb, 0, none⟩) (ofG L s).length cap := by unfold rowOf; rw [hv]; rfl
    rw [hv] at hl
    rw [e]
    obtain ⟨_, _, h1, h2⟩ := own_cells ho
    refine ⟨ho, fun b hb => ?_, hl, _, cap, rfl, h2, h1, fun e => by cases e⟩
    simp [Value.ownBlock] at hb
    subst hb
    exact ⟨hΦ, h.row_ne ho⟩
theorem LaneL.place (h : LaneL w l gm pm L N Ng fg fp Φ) {k : Int} (hk : wfk k) : (Instr.lookup 120 (.map (some pm)) (.int .i64 k) true).run Tryz.prog w = .ok (.tuple #[((at_ L k).map placeV).getD (.agg #[.string ⟨#[]⟩, .int .i64 0]), .bool (at_ L k).isSome]) w := by
  have := h.plc.look_ok keyed_int Tryz.underlying120 (zero_place w) (key_int hk)
  rw [h.pl] at this
  rw [this]
  simp
end

theorem New_any (w : World) : Calls Tryz.prog 59 #[] w fun e w' => e = .returned (.pointer (some ⟨w.heap.size + 2, 0, none⟩)) ∧ Below w.heap.size w w' ∧ LaneAt w' (w.heap.size + 2) [] 0 (fun k => w.heap.size ≤ k) := by
  have HM : Hid (LaneAt (((w.alloc (.map #[] 0)).alloc (.map #[] 0)).alloc (.cells #[.map (some w.heap.size), .map (some (w.heap.size + 1)), .int .i64 0] 122)) (w.heap.size + 2) [] 0 (fun k => w.heap.size ≤ k)) := Lib.hid (by
    have m2 := MapV.made Tryz.prog 3 (w.alloc (.map #[] 0))
    have hb := heap_alloc_new ((w.alloc (.map #[] 0)).alloc (.map #[] 0)) (.cells #[.map (some w.heap.size), .map (some (w.heap.size + 1)), .int .i64 0] 122)
    rw [show (w.alloc (.map #[] 0)).heap.size = w.heap.size + 1 by simp] at m2
    rw [show ((w.alloc (.map #[] 0)).alloc (.map #[] 0)).heap.size = w.heap.size + 2 by simp] at hb
    have m1 := MapV.made Tryz.prog 9 w
    exact ⟨w.heap.size, w.heap.size + 1, 0, fun _ => none, fun _ => none, hb, (m1.keep (Chg.alloc (Φ := fun _ => False) _ _) id).keep (Chg.alloc (Φ := fun _ => False) _ _) id, m2.keep (Chg.alloc (Φ := fun _ => False) _ _) id, Nat.le_refl _, by omega,
      (fun x hx => by cases hx), List.nodup_nil, List.Pairwise.nil, (fun x hx => by cases hx), fun _ => rfl, fun _ _ => rfl, (fun s hs => absurd rfl hs), (fun s s' v v' _ hv => by cases hv), by simp, by simp, by simp⟩)
  have hmm := @run_makeMap Tryz.prog
  go_enter Tryz.func59, Tryz.ntmps59
  go_wp2
  go_ret
  exact ⟨by simp, (((Below.refl _ _).alloc (Nat.le_refl _) _).alloc (by simp) _).alloc (by simp; omega) _, HM.out⟩

/-- What Group answers. -/
def groupE (o : Option Th) : Ending := .returned (.tuple #[.string ((o.map Th.g).getD ⟨#[]⟩), .bool o.isSome])
set_option maxHeartbeats 800000 in
theorem Group_any {w : World} {l N : Nat} {L : List Th} {Φ : Nat → Prop} (h : LaneAt w l L N Φ) {k : Int} (hk : wfk k) : Calls Tryz.prog 69 #[.pointer (some ⟨l, 0, none⟩), .int .i64 k] w fun e w' => e = groupE (at_ L k) ∧ Below w.heap.size w w' := by
  obtain ⟨gm, pm, Ng, fg, fp, h⟩ := h
  obtain ⟨c0, c1, c2, _⟩ := three_cells h.blk
  have hlk := h.place hk
  have hll := lt_of_block h.blk
  generalize at_ L k = o at *
  clear h
  cases o with
  | none =>
    have hlk' : (Instr.lookup 120 (.map (some pm)) (.int .i64 k) true).run Tryz.prog w = .ok (.tuple #[.agg #[.string ⟨#[]⟩, .int .i64 0], .bool false]) w := hlk
    clear hlk
    go_enter Tryz.func69, Tryz.ntmps69
    go_wp2
    go_ret2
    exact ⟨rfl, (Below.refl _ _).alloc (Nat.le_refl _) _⟩
  | some x =>
    have hlk' : (Instr.lookup 120 (.map (some pm)) (.int .i64 k) true).run Tryz.prog w = .ok (.tuple #[.agg #[.string x.g, .int .i64 x.tn], .bool true]) w := hlk
    clear hlk
    go_enter Tryz.func69, Tryz.ntmps69
    go_wp2
    go_ret2
    exact ⟨rfl, (Below.refl _ _).alloc (Nat.le_refl _) _⟩

/-- What Head answers. -/
def headE : List Int → Ending
  | [] => .returned (.tuple #[.int .i64 0, .bool false])
  | x :: _ => .returned (.tuple #[.int .i64 x, .bool true])
end Go.Proofs.YtdjieapobodakaaGreatDoor.Lan
end

section
namespace Go.Proofs.YtdjieapobodakaaGreatDoor.Lan
open Go Go.RowKit Go.Maps Go.WideMaps
set_option maxRecDepth 100000

section
variable {P : Program} {w : World}
/-- 'append' to a row of the call's own, as one step of a region that draws its order; and where the new row lies. -/
theorem step_append_where {ops : Array Oper} {o : Oper} {a : Act} {K : Act → World → Prop} {Q : Exit → Act → World → Prop} {E : Prop} (hgd : o.guard = none) (s x : Operand) (t : TypeId)
    (ho : o.op = .call { callee := .builtin .append, args := #[s, x], argTypes := #[t, t] })
    (base : Nat) (e : TypeId) (i : TypeInfo) (z : Value) (size bytes : Nat) (ht : P.underlying t = some (.slice e)) (hi : P.info? e = some i) (hz : i.zero = some z)
    (hsize : i.size = size) (hby : i.bytes = bytes) (hzs : z.cells.size = size) (hsz : 0 < size)
    (v : Value) (n : Nat) (xs : List Value) (hs : a.eval s = v) (hown : w.ownsRow base e size v n xs)
    (A : Option Addr) (m c : Nat) (news : List Value) (hx : a.eval x = .slice A m c) (hl : news.length = m * size) (hnil : A = none → m = 0 ∧ c = 0)
    (hnews : ∀ ad, A = some ad → ∀ j u, news[j]? = some u → w.cell? (ad.add j) = some u) (h1 : ∀ u ∈ news, u.oneCell' = true)
    (h63 : n + m ≤ maxLen) (hbytes : (n + m) * bytes ≤ 140737488355328) (hbase : base ≤ w.heap.size)
    (h : ∀ v' w', w'.ownsRow base e size v' (n + m) (xs ++ news) → w.grownBy w' v.ownBlock → (v'.ownBlock = v.ownBlock ∨ v'.ownBlock = some w.heap.size) → K (a.put o.dst v') w') :
    if Region.wanted o (yielded ops a.tmps) = true then Oper.wp P o a w K Q else E := by
  have hw : Region.wanted o (yielded ops a.tmps) = true := by simp [Region.wanted, hgd]
  rw [if_pos hw]
  rcases A with _ | ad
  · obtain ⟨rfl, rfl⟩ := hnil rfl
    have hn : news = [] := List.eq_nil_of_length_eq_zero (by simpa using hl)
    subst hn
    have hrun := run_append_owned_none (P := P) w base t o.type e i size ht hi v n xs hown
    unfold Oper.wp
    simp [execOp, ho, resolve, invoke, builtin, hs, hx, hrun, Result.andThen]
    exact h v w (by simpa using hown) (World.grownBy.refl _ _) (.inl rfl)
  · obtain ⟨v', w', hrun, h2, h3, _, h5⟩ := run_append_own_at (P := P) w base t o.type e i z size bytes ht hi hz hsize hby hzs hsz v n xs hown ad m c news hl (hnews ad rfl) h1 h63 hbytes hbase
    unfold Oper.wp
    simp [execOp, ho, resolve, invoke, builtin, hs, hx, hrun, Result.andThen]
    exact h v' w' h2 h3 h5
end
theorem info_int : (Tryz.prog.info? 3).map (fun i => (i.zero, i.size, i.bytes)) = some (some (.int .i64 0), 1, 8) := by kernel_rfl

def more (Φ : Nat → Prop) (w : World) (k : Nat) : Prop := Φ k ∨ w.heap.size ≤ k
def addT (L : List Th) (s : ByteArray) (k : Int) (N : Nat) : List Th := if (at_ L k).isSome then L else L ++ [⟨s, k, N + 1⟩]
/-- What a call that may change lanes leaves. -/
def LOp (l : Nat) (L : List Th) (N : Nat) (Φ : Nat → Prop) (w w' : World) : Prop := (∃ N', N' ≤ N + 1 ∧ LaneAt w' l L N' (more Φ w)) ∧ Chg Φ w w'

section
variable {w w2 w3 w4 w5 : World} {l gm pm N Ng : Nat} {L : List Th} {fg fp : Lit → Option Value} {Φ : Nat → Prop} {s : ByteArray} {k : Int} {v' : Value}
/-- The lanes behind an Add. -/
theorem add_fin (h : LaneL w l gm pm L N Ng fg fp Φ) (hs : s.size ≤ maxLen) (hk : wfk k) (hn : at_ L k = none)
    (c2 : Chg (fun i => i = l) w w2) (b2 : w2.heap[l]? = some (.cells #[.map (some gm), .map (some pm), .int .i64 ((N : Int) + 1)] 122 (0, 0)))
    (c3 : Chg (fun i => i = pm) w2 w3) (m3 : MapV Tryz.prog 3 w3 pm (L.length + 1) (putV fp (.int .i64 k) (placeV ⟨s, k, N + 1⟩)))
    (c4 : Chg (fun i => (rowOf fg s).ownBlock = some i) w3 w4) (r4 : w4.ownsRow 0 3 1 v' ((ofG L s).length + 1) ((ofG L s).map (Value.int .i64) ++ [.int .i64 k])) (p4 : v'.ownBlock = (rowOf fg s).ownBlock ∨ ∃ j, v'.ownBlock = some j ∧ w.heap.size ≤ j)
    (c5 : Chg (fun i => i = gm) w4 w5) (m5 : MapV Tryz.prog 9 w5 gm (if (fg (strK s)).isSome then Ng else Ng + 1) (putV fg (strK s) v')) :
    LaneL w5 l gm pm (L ++ [⟨s, k, N + 1⟩]) (N + 1) (if (fg (strK s)).isSome then Ng else Ng + 1) (putV fg (strK s) v') (putV fp (.int .i64 k) (placeV ⟨s, k, N + 1⟩)) (more Φ w) ∧ Chg Φ w w5 := by
  obtain ⟨_, hrow, _, _⟩ := h.row hs
  have hall : Chg (fun i => i = l ∨ i = pm ∨ (rowOf fg s).ownBlock = some i ∨ i = gm) w w5 :=
    (((c2.mono fun i _ e => .inl e).trans c3 fun i _ e => .inr (.inl e)).trans c4 fun i _ e => .inr (.inr (.inl e))).trans c5 fun i _ e => .inr (.inr (.inr e))
  have hΦ : ∀ i, (i = l ∨ i = pm ∨ (rowOf fg s).ownBlock = some i ∨ i = gm) → Φ i := by
    rintro i (rfl | rfl | e | rfl)
    · exact h.inn.1
    · exact h.inn.2.2
    · exact (hrow i e).1
    · exact h.inn.2.1
  obtain ⟨rb', cap', hv', hrl⟩ : ∃ rb cap, v' = .slice (some ⟨rb, 0, none⟩) ((ofG L s).length + 1) cap ∧ rb < w4.heap.size := by
    obtain ⟨rb, cap, e, _, h2⟩ := r4.form (by omega)
    exact ⟨rb, cap, e, h2⟩
  have hb' : v'.ownBlock = some rb' := by rw [hv']; rfl
  have hoth : ∀ t v, t ≠ s → fg (strK t) = some v → v.ownBlock ≠ some rb' := by
    intro t v ht hv e
    by_cases he : ofG L t = []
    · rw [h.gn t he] at hv; cases hv
    · obtain ⟨v2, hv2, rb2, cap2, e2, ho2, _⟩ := h.gr t he
      rw [hv2] at hv
      obtain rfl := Option.some.inj hv
      have hlt := (ho2.lt rb2 (by rw [e2]; rfl)).2
      rw [e2] at e
      simp [Value.ownBlock] at e
      rcases p4 with p | ⟨j, p, hj⟩
      · rw [hb'] at p
        have hsome : ∃ u, fg (strK s) = some u := by
          cases hf : fg (strK s) with
          | some u => exact ⟨u, rfl⟩
          | none =>
            have : rowOf fg s = .slice none 0 0 := by unfold rowOf; rw [hf]; rfl
            rw [this] at p
            simp [Value.ownBlock] at p
        obtain ⟨u, hu⟩ := hsome
        have e3 : rowOf fg s = u := by unfold rowOf; rw [hu]; rfl
        rw [e3] at p
        refine h.apart t s _ u ht hv2 hu ?_
        rw [e2, ← p, e]
        rfl
      · rw [hb'] at p
        obtain rfl := Option.some.inj p
        omega
  refine ⟨⟨?_, m5, ?_, ?_, h.ne, ?_, ?_, ?_, ?_, fun j => ?_, fun t ht => ?_, fun t ht => ?_, fun t t' v v2 htt hv hv2 => ?_, .inl h.inn.1, .inl h.inn.2.1, .inl h.inn.2.2⟩, hall.mono fun i _ e => hΦ i e⟩
  · have h3 := c3.heap b2 fun e => h.l_pm e
    have h4 := c4.heap h3 fun e => (hrow l e).2.1 rfl
    have h5 := c5.heap h4 fun e => h.l_gm e
    rw [h5]
    simp
  · rw [List.length_append]
    exact (m3.keep c4 fun e => (hrow pm e).2.2.2 rfl).keep c5 fun e => h.ne e.symm
  · have := h.ng
    split <;> omega
  · intro x hx
    rcases List.mem_append.1 hx with hx | hx
    · exact h.wf x hx
    · simp at hx
      rw [hx]
      exact ⟨hk, hs⟩
  · have : ids (L ++ [⟨s, k, N + 1⟩]) = ids L ++ [k] := by simp [ids]
    rw [this, List.nodup_append]
    refine ⟨h.nodup, by simp, fun a ha b hb e => ?_⟩
    simp at hb
    obtain ⟨x, hx, hxa⟩ := List.mem_map.1 ha
    exact at_none.1 hn x hx (hxa.trans (e.trans hb))
  · rw [List.map_append, List.pairwise_append]
    refine ⟨h.rise, by simp, fun a ha b hb => ?_⟩
    obtain ⟨x, hx, rfl⟩ := List.mem_map.1 ha
    have := h.top x hx
    simp at hb
    omega
  · intro x hx
    rcases List.mem_append.1 hx with hx | hx
    · have := h.top x hx; omega
    · simp at hx
      rw [hx]
      exact Nat.le_refl _
  · by_cases hj : j = k
    · subst hj
      rw [putV_same, at_add_same (x := ⟨s, j, N + 1⟩) hn]
      rfl
    · have hne : Lit.int .i64 j ≠ Lit.int .i64 k := fun e => hj (by simpa using e)
      rw [putV_other _ _ hne, at_add_other L ⟨s, k, N + 1⟩ hj]
      exact h.pl j
  · by_cases hts : t = s
    · subst hts
      rw [ofG_add_same L ⟨t, k, N + 1⟩] at ht
      simp at ht
    · rw [ofG_add_other L ⟨s, k, N + 1⟩ hts] at ht
      rw [putV_other _ _ fun e => hts (strK_inj e)]
      exact h.gn t ht
  · by_cases hts : t = s
    · subst hts
      have e5 : ofG (L ++ [⟨t, k, N + 1⟩]) t = ofG L t ++ [k] := ofG_add_same L ⟨t, k, N + 1⟩
      rw [putV_same, e5]
      refine ⟨v', rfl, rb', cap', ?_, ?_, ?_⟩
      · rw [hv', List.length_append]; rfl
      · have := c5.own r4 fun g hg e => by
          obtain ⟨es, c, hb5⟩ := m5.blk
          rw [hb'] at hg
          obtain rfl := Option.some.inj hg
          rcases p4 with p | ⟨j, p, hj⟩
          · rw [hb'] at p
            exact (hrow rb' p.symm).2.2.1 e
          · rw [hb'] at p
            obtain rfl := Option.some.inj p
            have := h.grp.lt
            omega
        simpa using this
      · rcases p4 with p | ⟨j, p, hj⟩
        · rw [hb'] at p
          exact .inl (hrow rb' p.symm).1
        · rw [hb'] at p
          obtain rfl := Option.some.inj p
          exact .inr hj
    · rw [ofG_add_other L ⟨s, k, N + 1⟩ hts] at ht ⊢
      rw [putV_other _ _ fun e => hts (strK_inj e)]
      obtain ⟨v, hv, rb, cap, e, ho, hp⟩ := h.gr t ht
      refine ⟨v, hv, rb, cap, e, hall.own ho fun g hg => ?_, .inl hp⟩
      rw [e] at hg ho
      simp [Value.ownBlock] at hg
      subst hg
      have hne := h.row_ne ho
      rintro (e1 | e1 | e1 | e1)
      · exact hne.1 e1
      · exact hne.2.2 e1
      · have hsome : ∃ u, fg (strK s) = some u := by
          cases hf : fg (strK s) with
          | some u => exact ⟨u, rfl⟩
          | none =>
            have : rowOf fg s = .slice none 0 0 := by unfold rowOf; rw [hf]; rfl
            rw [this] at e1
            simp [Value.ownBlock] at e1
        obtain ⟨u, hu⟩ := hsome
        have e3 : rowOf fg s = u := by unfold rowOf; rw [hu]; rfl
        rw [e3] at e1
        exact h.apart t s _ u hts hv hu (by rw [e, e1]; rfl)
      · exact hne.2.1 e1
  · by_cases hts : t = s
    · subst hts
      rw [putV_same] at hv
      obtain rfl := Option.some.inj hv
      rw [putV_other _ _ fun e => htt (strK_inj e).symm] at hv2
      rw [hb']
      exact fun e => hoth t' v2 (fun e => htt e.symm) hv2 e.symm
    · rw [putV_other _ _ fun e => hts (strK_inj e)] at hv
      by_cases hts' : t' = s
      · subst hts'
        rw [putV_same] at hv2
        obtain rfl := Option.some.inj hv2
        rw [hb']
        exact hoth t v hts hv
      · rw [putV_other _ _ fun e => hts' (strK_inj e)] at hv2
        exact h.apart t t' v v2 htt hv hv2
end

set_option maxHeartbeats 800000 in
theorem Add_old {w : World} {l N : Nat} {L : List Th} {Φ : Nat → Prop} (h : LaneAt w l L N Φ) (s : ByteArray) {k : Int} (hk : wfk k) {x : Th} (hx : at_ L k = some x) :
    Calls Tryz.prog 66 #[.pointer (some ⟨l, 0, none⟩), .string s, .int .i64 k] w fun e w' => e = .returned (.bool false) ∧ Below w.heap.size w w' := by
  obtain ⟨gm, pm, Ng, fg, fp, h⟩ := h
  obtain ⟨c0, c1, c2, _⟩ := three_cells h.blk
  have hlk := h.place hk
  have hll := lt_of_block h.blk
  rw [hx] at hlk
  have hlk' : (Instr.lookup 120 (.map (some pm)) (.int .i64 k) true).run Tryz.prog w = .ok (.tuple #[.agg #[.string x.g, .int .i64 x.tn], .bool true]) w := hlk
  clear h hlk hx
  go_enter Tryz.func66, Tryz.ntmps66
  go_wp2
  go_ret
  exact ⟨rfl, (Below.refl _ _).alloc (Nat.le_refl _) _⟩
end Go.Proofs.YtdjieapobodakaaGreatDoor.Lan
end
