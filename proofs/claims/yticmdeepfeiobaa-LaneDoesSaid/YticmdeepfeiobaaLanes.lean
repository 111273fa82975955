/- What is proved here: what it is that memory holds lanes: definitions, and plain facts on them; what New, Len, Group and Head answer. -/
import Derived.Test.YticmdeepfeiobaaMapV
import Derived.Test.YticmdeepfeiobaaThings
import Derived.Laws.OwnMore
import Derived.Deep.AppendLies
import Derived.StillTailTactics
import Derived.Deep.QuietTactic
import Derived.BigQuiet
import Derived.StringKeys
namespace Go.Proofs.Yticmdeepfeiobaa
open Go Go.RowKit Go.Maps Go.WideMaps

theorem two_cells' {w : World} {b : Nat} {x y : Value} {t : TypeId} (h : w.heap[b]? = some (.cells #[x, y] t (0, 0))) :
    w.cell? ⟨b, 0, none⟩ = some x ∧ w.cell? ⟨b, 1, none⟩ = some y := ⟨(two_cells h).1, (two_cells h).2.1⟩
theorem lt_of_block {w : World} {b : Nat} {o : Obj} (h : w.heap[b]? = some o) : b < w.heap.size := (Array.getElem?_eq_some_iff.1 h).1

theorem keyed_int : Keyed Try.prog 3 := int_keyed Try.underlying3
theorem keyed_str : Keyed Try.prog 9 := string_keyed Try.underlying9
def wfk (k : Int) : Prop := -9223372036854775808 ≤ k ∧ k ≤ 9223372036854775807
theorem wfk_wf {k : Int} (h : wfk k) : (Lit.int .i64 k).wf = true := by
  unfold wfk at h
  exact WalkArith.wf_i64 (by omega)
theorem key_int {k : Int} (h : wfk k) : keyOf Try.prog 3 (.int .i64 k) = some (.int .i64 k) := keyOf_int_mk Try.underlying3 (wfk_wf h)
theorem key_str {s : ByteArray} (h : s.size ≤ maxLen) : keyOf Try.prog 9 (.string s) = some (strK s) := keyOf_string_mk Try.underlying9 h
theorem zero_place (w : World) : (zeroValue 56).run Try.prog w = .ok (.agg #[.string ⟨#[]⟩, .int .i64 0]) w := by kernel_rfl
theorem zero_row (w : World) : (zeroValue 34).run Try.prog w = .ok (.slice none 0 0) w := by kernel_rfl

def placeV (x : Th) : Value := .agg #[.string x.g, .int .i64 x.tn]
/-- A slice that owns numbers. -/
def RowV (w : World) (v : Value) (xs : List Int) (Φ : Nat → Prop) : Prop :=
  ∃ rb cap, v = .slice (some ⟨rb, 0, none⟩) xs.length cap ∧ w.ownsRow 0 3 1 v xs.length (xs.map (Value.int .i64)) ∧ Φ rb
/-- Memory holds lanes. -/
structure LaneL (w : World) (l gm pm : Nat) (L : List Th) (N Ng : Nat) (fg fp : Lit → Option Value) (Φ : Nat → Prop) : Prop where
  blk : w.heap[l]? = some (.cells #[.map (some gm), .map (some pm), .int .i64 N] 54 (0, 0))
  grp : MapV Try.prog 9 w gm Ng fg
  plc : MapV Try.prog 3 w pm L.length fp
  ng : Ng ≤ N
  ne : gm ≠ pm
  wf : ∀ x ∈ L, wfk x.id ∧ x.g.size ≤ maxLen
  nodup : (ids L).Nodup
  rise : (L.map Th.tn).Pairwise (· < ·)
  top : ∀ x ∈ L, x.tn ≤ N
  pl : ∀ k, fp (.int .i64 k) = (at_ L k).map placeV
  gn : ∀ s, ofG L s = [] → fg (strK s) = none
  gr : ∀ s, ofG L s ≠ [] → ∃ v, fg (strK s) = some v ∧ RowV w v (ofG L s) Φ
  apart : ∀ s s' v v', s ≠ s' → fg (strK s) = some v → fg (strK s') = some v' → v.ownBlock ≠ v'.ownBlock
  inn : Φ l ∧ Φ gm ∧ Φ pm
def LaneAt (w : World) (l : Nat) (L : List Th) (N : Nat) (Φ : Nat → Prop) : Prop := ∃ gm pm Ng fg fp, LaneL w l gm pm L N Ng fg fp Φ

section
variable {w w' : World} {l gm pm N Ng : Nat} {L : List Th} {fg fp : Lit → Option Value} {Φ Ψ : Nat → Prop}
theorem RowV.keep {v : Value} {xs : List Int} (h : RowV w v xs Φ) (hc : Chg Ψ w w') (hs : ∀ k, Φ k → ¬ Ψ k) : RowV w' v xs Φ := by
  obtain ⟨rb, cap, rfl, h1, h2⟩ := h
  exact ⟨rb, cap, rfl, hc.own h1 fun g hg => by simp [Value.ownBlock] at hg; rw [← hg]; exact hs _ h2, h2⟩
theorem RowV.mono {v : Value} {xs : List Int} (h : RowV w v xs Φ) (hs : ∀ k, k < w.heap.size → Φ k → Ψ k) : RowV w v xs Ψ := by
  obtain ⟨rb, cap, rfl, h1, h2⟩ := h
  exact ⟨rb, cap, rfl, h1, hs _ (h1.lt rb rfl).2 h2⟩
theorem LaneL.keep (h : LaneL w l gm pm L N Ng fg fp Φ) (hc : Chg Ψ w w') (hs : ∀ k, Φ k → ¬ Ψ k) : LaneL w' l gm pm L N Ng fg fp Φ :=
  ⟨hc.heap h.blk (hs _ h.inn.1), h.grp.keep hc (hs _ h.inn.2.1), h.plc.keep hc (hs _ h.inn.2.2), h.ng, h.ne, h.wf, h.nodup, h.rise, h.top, h.pl, h.gn, fun s hs' => by
    obtain ⟨v, h1, h2⟩ := h.gr s hs'
    exact ⟨v, h1, h2.keep hc hs⟩, h.apart, h.inn⟩
theorem LaneL.mono (h : LaneL w l gm pm L N Ng fg fp Φ) (hs : ∀ k, k < w.heap.size → Φ k → Ψ k) : LaneL w l gm pm L N Ng fg fp Ψ :=
  ⟨h.blk, h.grp, h.plc, h.ng, h.ne, h.wf, h.nodup, h.rise, h.top, h.pl, h.gn, fun s hs' => by
    obtain ⟨v, h1, h2⟩ := h.gr s hs'
    exact ⟨v, h1, h2.mono hs⟩, h.apart, hs _ (lt_of_block h.blk) h.inn.1, hs _ h.grp.lt h.inn.2.1, hs _ h.plc.lt h.inn.2.2⟩
theorem LaneAt.keep (h : LaneAt w l L N Φ) (hc : Chg Ψ w w') (hs : ∀ k, Φ k → ¬ Ψ k) : LaneAt w' l L N Φ := by
  obtain ⟨gm, pm, Ng, fg, fp, h⟩ := h
  exact ⟨gm, pm, Ng, fg, fp, h.keep hc hs⟩
theorem LaneAt.mono (h : LaneAt w l L N Φ) (hs : ∀ k, k < w.heap.size → Φ k → Ψ k) : LaneAt w l L N Ψ := by
  obtain ⟨gm, pm, Ng, fg, fp, h⟩ := h
  exact ⟨gm, pm, Ng, fg, fp, h.mono hs⟩
theorem LaneL.below (h : LaneL w l gm pm L N Ng fg fp Φ) (hb : Below w.heap.size w w') : LaneL w' l gm pm L N Ng fg fp Φ := h.keep (Ψ := fun _ => False) (Chg.of_below hb) fun _ _ => id
theorem LaneAt.below (h : LaneAt w l L N Φ) (hb : Below w.heap.size w w') : LaneAt w' l L N Φ := h.keep (Ψ := fun _ => False) (Chg.of_below hb) fun _ _ => id
theorem LaneAt.lt (h : LaneAt w l L N Φ) : l < w.heap.size := by
  obtain ⟨gm, pm, Ng, fg, fp, h⟩ := h
  exact lt_of_block h.blk
theorem LaneL.l_gm (h : LaneL w l gm pm L N Ng fg fp Φ) : l ≠ gm := fun e => by
  obtain ⟨es, c, hb⟩ := h.grp.blk
  rw [← e, h.blk] at hb
  cases hb
theorem LaneL.l_pm (h : LaneL w l gm pm L N Ng fg fp Φ) : l ≠ pm := fun e => by
  obtain ⟨es, c, hb⟩ := h.plc.blk
  rw [← e, h.blk] at hb
  cases hb
/-- A row is no block of the others. -/
theorem own_cells {base e n c rb : Nat} {xs : List Value} (h : w.ownsRow base e 1 (.slice (some ⟨rb, 0, none⟩) n c) n xs) : ∃ cur, w.heap[rb]? = some (.cells cur e (0, 0)) ∧ n ≤ c ∧ c ≤ maxLen := by
  rcases h.2 with ⟨e1, _⟩ | ⟨g, cap, cur, e1, _, hg, h1, h2, _⟩
  · cases e1
  · cases e1
    exact ⟨cur, hg, h1, h2⟩
theorem LaneL.row_ne (h : LaneL w l gm pm L N Ng fg fp Φ) {n c rb : Nat} {xs : List Value} (hr : w.ownsRow 0 3 1 (.slice (some ⟨rb, 0, none⟩) n c) n xs) : rb ≠ l ∧ rb ≠ gm ∧ rb ≠ pm := by
  obtain ⟨cur, hb, _⟩ := own_cells hr
  refine ⟨fun e => ?_, fun e => ?_, fun e => ?_⟩
  · rw [e, h.blk] at hb
    simp at hb
  · obtain ⟨es, c, hb2⟩ := h.grp.blk
    rw [e, hb2] at hb
    cases hb
  · obtain ⟨es, c, hb2⟩ := h.plc.blk
    rw [e, hb2] at hb
    cases hb
end

/-- What a look-up of a group gives. -/
def rowOf (fg : Lit → Option Value) (s : ByteArray) : Value := (fg (strK s)).getD (.slice none 0 0)
section
variable {w : World} {l gm pm N Ng : Nat} {L : List Th} {fg fp : Lit → Option Value} {Φ : Nat → Prop}
theorem LaneL.row (h : LaneL w l gm pm L N Ng fg fp Φ) {s : ByteArray} (hs : s.size ≤ maxLen) : w.ownsRow 0 3 1 (rowOf fg s) (ofG L s).length ((ofG L s).map (Value.int .i64)) ∧ (∀ rb, (rowOf fg s).ownBlock = some rb → Φ rb ∧ rb ≠ l ∧ rb ≠ gm ∧ rb ≠ pm) ∧
    (Instr.lookup 51 (.map (some gm)) (.string s) false).run Try.prog w = .ok (rowOf fg s) w ∧ ∃ A c, rowOf fg s = .slice A (ofG L s).length c ∧ c ≤ maxLen ∧ (ofG L s).length ≤ c ∧ (A = none → ofG L s = []) := by
  have hl := h.grp.look keyed_str Try.underlying51 (zero_row w) (key_str hs)
  by_cases he : ofG L s = []
  · have hn := h.gn s he
    have e : rowOf fg s = .slice none 0 0 := by unfold rowOf; rw [hn]; rfl
    rw [hn] at hl
    rw [e, he]
    exact ⟨World.ownsRow_nil _ _ _ _, fun rb hb => (by simp [Value.ownBlock] at hb), hl, none, 0, rfl, Nat.zero_le _, Nat.le_refl _, fun _ => rfl⟩
  · obtain ⟨v, hv, rb, cap, rfl, ho, hΦ⟩ := h.gr s he
    have e : rowOf fg s = .slice (some ⟨rb, 0, none⟩) (ofG L s).length cap := by unfold rowOf; rw [hv]; rfl
    rw [hv] at hl
    rw [e]
    obtain ⟨_, _, h1, h2⟩ := own_cells ho
    refine ⟨ho, fun b hb => ?_, hl, _, cap, rfl, h2, h1, fun e => by cases e⟩
    simp [Value.ownBlock] at hb
    subst hb
    exact ⟨hΦ, h.row_ne ho⟩
theorem LaneL.place (h : LaneL w l gm pm L N Ng fg fp Φ) {k : Int} (hk : wfk k) : (Instr.lookup 52 (.map (some pm)) (.int .i64 k) true).run Try.prog w = .ok (.tuple #[((at_ L k).map placeV).getD (.agg #[.string ⟨#[]⟩, .int .i64 0]), .bool (at_ L k).isSome]) w := by
  have := h.plc.look_ok keyed_int Try.underlying52 (zero_place w) (key_int hk)
  rw [h.pl] at this
  rw [this]
  simp
end

theorem New_any (w : World) : Calls Try.prog 9 #[] w fun e w' => e = .returned (.pointer (some ⟨w.heap.size + 2, 0, none⟩)) ∧ Below w.heap.size w w' ∧ LaneAt w' (w.heap.size + 2) [] 0 (fun k => w.heap.size ≤ k) := by
  have HM : Hid (LaneAt (((w.alloc (.map #[] 0)).alloc (.map #[] 0)).alloc (.cells #[.map (some w.heap.size), .map (some (w.heap.size + 1)), .int .i64 0] 54)) (w.heap.size + 2) [] 0 (fun k => w.heap.size ≤ k)) := Lib.hid (by
    have m2 := MapV.made Try.prog 3 (w.alloc (.map #[] 0))
    have hb := heap_alloc_new ((w.alloc (.map #[] 0)).alloc (.map #[] 0)) (.cells #[.map (some w.heap.size), .map (some (w.heap.size + 1)), .int .i64 0] 54)
    rw [show (w.alloc (.map #[] 0)).heap.size = w.heap.size + 1 by simp] at m2
    rw [show ((w.alloc (.map #[] 0)).alloc (.map #[] 0)).heap.size = w.heap.size + 2 by simp] at hb
    have m1 := MapV.made Try.prog 9 w
    exact ⟨w.heap.size, w.heap.size + 1, 0, fun _ => none, fun _ => none, hb, (m1.keep (Chg.alloc (Φ := fun _ => False) _ _) id).keep (Chg.alloc (Φ := fun _ => False) _ _) id, m2.keep (Chg.alloc (Φ := fun _ => False) _ _) id, Nat.le_refl _, by omega,
      (fun x hx => by cases hx), List.nodup_nil, List.Pairwise.nil, (fun x hx => by cases hx), fun _ => rfl, fun _ _ => rfl, (fun s hs => absurd rfl hs), (fun s s' v v' _ hv => by cases hv), by simp, by simp, by simp⟩)
  have hmm := @run_makeMap Try.prog
  go_enter Try.func9, Try.ntmps9
  go_wp2
  go_ret
  exact ⟨by simp, (((Below.refl _ _).alloc (Nat.le_refl _) _).alloc (by simp) _).alloc (by simp; omega) _, HM.out⟩

theorem Len_any {w : World} {l N : Nat} {L : List Th} {Φ : Nat → Prop} (h : LaneAt w l L N Φ) : Calls Try.prog 15 #[.pointer (some ⟨l, 0, none⟩)] w fun e w' => e = .returned (.int .i64 L.length) ∧ w = w' := by
  obtain ⟨gm, pm, Ng, fg, fp, h⟩ := h
  obtain ⟨c0, c1, c2, _⟩ := three_cells h.blk
  have hlen := fun ty => h.plc.len Try.underlying52 ty
  clear h
  go_enter Try.func15, Try.ntmps15
  go_wp2
  go_ret
  exact ⟨rfl, rfl⟩

/-- What Group answers. -/
def groupE (o : Option Th) : Ending := .returned (.tuple #[.string ((o.map Th.g).getD ⟨#[]⟩), .bool o.isSome])
set_option maxHeartbeats 800000 in
theorem Group_any {w : World} {l N : Nat} {L : List Th} {Φ : Nat → Prop} (h : LaneAt w l L N Φ) {k : Int} (hk : wfk k) : Calls Try.prog 22 #[.pointer (some ⟨l, 0, none⟩), .int .i64 k] w fun e w' => e = groupE (at_ L k) ∧ Below w.heap.size w w' := by
  obtain ⟨gm, pm, Ng, fg, fp, h⟩ := h
  obtain ⟨c0, c1, c2, _⟩ := three_cells h.blk
  have hlk := h.place hk
  have hll := lt_of_block h.blk
  generalize at_ L k = o at *
  clear h
  cases o with
  | none =>
    have hlk' : (Instr.lookup 52 (.map (some pm)) (.int .i64 k) true).run Try.prog w = .ok (.tuple #[.agg #[.string ⟨#[]⟩, .int .i64 0], .bool false]) w := hlk
    clear hlk
    go_enter Try.func22, Try.ntmps22
    go_wp2
    go_ret2
    exact ⟨rfl, (Below.refl _ _).alloc (Nat.le_refl _) _⟩
  | some x =>
    have hlk' : (Instr.lookup 52 (.map (some pm)) (.int .i64 k) true).run Try.prog w = .ok (.tuple #[.agg #[.string x.g, .int .i64 x.tn], .bool true]) w := hlk
    clear hlk
    go_enter Try.func22, Try.ntmps22
    go_wp2
    go_ret2
    exact ⟨rfl, (Below.refl _ _).alloc (Nat.le_refl _) _⟩

/-- What Head answers. -/
def headE : List Int → Ending
  | [] => .returned (.tuple #[.int .i64 0, .bool false])
  | x :: _ => .returned (.tuple #[.int .i64 x, .bool true])
set_option maxHeartbeats 800000 in
theorem Head_any {w : World} {l N : Nat} {L : List Th} {Φ : Nat → Prop} (h : LaneAt w l L N Φ) {s : ByteArray} (hs : s.size ≤ maxLen) : Calls Try.prog 24 #[.pointer (some ⟨l, 0, none⟩), .string s] w fun e w' => e = headE (ofG L s) ∧ w = w' := by
  obtain ⟨gm, pm, Ng, fg, fp, h⟩ := h
  obtain ⟨c0, c1, c2, _⟩ := three_cells h.blk
  obtain ⟨ho, _, hlk, A, c, hv, hc1, hc2, hA⟩ := h.row hs
  rw [hv] at ho hlk
  unfold maxLen at hc1
  clear h hv
  generalize ofG L s = xs at *
  cases xs with
  | nil =>
    have hlk' : (Instr.lookup 51 (.map (some gm)) (.string s) false).run Try.prog w = .ok (.slice A 0 c) w := hlk
    clear hlk hc2 ho hA
    go_enter Try.func24, Try.ntmps24
    go_wp2
    go_ret2
    exact ⟨rfl, rfl⟩
  | cons x r =>
    obtain ⟨rb, cap, e, _⟩ := ho.form (by simp)
    obtain ⟨rfl, rfl⟩ : A = some ⟨rb, 0, none⟩ ∧ c = cap := by simpa using e
    have r0 : w.cell? ⟨rb, 0, none⟩ = some (.int .i64 x) := by
      have := ho.cellAt 0 (by simp)
      simpa using this
    obtain ⟨n, hn⟩ : ∃ n, n = (x :: r).length := ⟨_, rfl⟩
    have hpos : 0 < n := by rw [hn]; simp
    have hne : ((n : Int) == 0) = false := beq_eq_false_iff_ne.2 (by omega)
    have HE : Hid (headE (x :: r) = .returned (.tuple #[.int .i64 x, .bool true])) := Lib.hid rfl
    rw [← hn] at hlk hc2
    clear ho hA e hn
    go_enter Try.func24, Try.ntmps24
    go_wp2
    go_ret2
    exact ⟨HE.out.symm, rfl⟩
end Go.Proofs.Yticmdeepfeiobaa
