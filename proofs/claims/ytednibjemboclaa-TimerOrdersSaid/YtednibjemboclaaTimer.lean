/- What is proved here: what it is that memory holds a timer; what New, Len, Next and At answer. -/
import Derived.Test.YtednibjemboclaaSettle
import Derived.Test.YtednibjemboclaaOrd
namespace Go.Proofs.Ytednibjemboclaa
open Go Go.RowKit Go.Maps

/-- Memory holds a timer at block t: a heap of its things. -/
structure TimerL (w : World) (t m : Nat) (v : Value) (H : List It) (f : Int → Option Nat) (Φ : Nat → Prop) : Prop where
  blk : w.heap[t]? = some (.cells #[v, .map (some m)] 55 (0, 0))
  row : w.ownsRow 0 41 2 v H.length (flat H)
  map : Places w m f H.length
  heap : Heap H
  tells : Tells f H
  wf : ∀ y ∈ H, wfk y.1
  inn : Φ t ∧ Φ m ∧ ∀ g, v.ownBlock = some g → Φ g
/-- .. and so does a row of things, in their order. -/
def TimerAt (w : World) (t : Nat) (R : List It) (Φ : Nat → Prop) : Prop := Ord R ∧ ∃ m v H f, H.Perm R ∧ TimerL w t m v H f Φ
/-- What speaks of blocks goes on to speak of them, and of all new ones. -/
def more (Φ : Nat → Prop) (w : World) (k : Nat) : Prop := Φ k ∨ w.heap.size ≤ k
section
variable {w w' : World} {t m : Nat} {v : Value} {H R : List It} {f : Int → Option Nat} {Φ Ψ : Nat → Prop}
theorem own_isSlice {base e size n : Nat} {xs : List Value} (h : w.ownsRow base e size v n xs) : ∃ A c, v = .slice A n c ∧ c ≤ maxLen ∧ n ≤ c ∧ (A = none ∨ ∃ g, A = some ⟨g, 0, none⟩ ∧ g < w.heap.size ∧ ∃ cur, w.heap[g]? = some (.cells cur e (0, 0))) := by
  rcases h.2 with ⟨h1, h2⟩ | ⟨g, cap, cur, h1, _, hg, hc1, hc2, _⟩
  · exact ⟨none, 0, by rw [h1, h2], Nat.zero_le _, by omega, .inl rfl⟩
  · exact ⟨_, cap, h1, hc2, hc1, .inr ⟨g, rfl, lt_of_block hg, cur, hg⟩⟩
theorem TimerL.keep (h : TimerL w t m v H f Φ) (hc : Chg Ψ w w') (hs : ∀ k, Φ k → ¬ Ψ k) : TimerL w' t m v H f Φ :=
  ⟨hc.heap h.blk (hs _ h.inn.1), hc.own h.row fun g hg => hs _ (h.inn.2.2 g hg), h.map.keep hc (hs _ h.inn.2.1), h.heap, h.tells, h.wf, h.inn⟩
theorem TimerL.mono (h : TimerL w t m v H f Φ) (hs : ∀ k, k < w.heap.size → Φ k → Ψ k) : TimerL w t m v H f Ψ :=
  ⟨h.blk, h.row, h.map, h.heap, h.tells, h.wf, hs _ (lt_of_block h.blk) h.inn.1, hs _ h.map.lt h.inn.2.1, fun g hg => hs _ (h.row.lt g hg).2 (h.inn.2.2 g hg)⟩
theorem TimerAt.keep (h : TimerAt w t R Φ) (hc : Chg Ψ w w') (hs : ∀ k, Φ k → ¬ Ψ k) : TimerAt w' t R Φ := by
  obtain ⟨ho, m, v, H, f, hp, hl⟩ := h
  exact ⟨ho, m, v, H, f, hp, hl.keep hc hs⟩
theorem TimerAt.mono (h : TimerAt w t R Φ) (hs : ∀ k, k < w.heap.size → Φ k → Ψ k) : TimerAt w t R Ψ := by
  obtain ⟨ho, m, v, H, f, hp, hl⟩ := h
  exact ⟨ho, m, v, H, f, hp, hl.mono hs⟩
theorem TimerAt.below (h : TimerAt w t R Φ) (hb : Below w.heap.size w w') : TimerAt w' t R Φ := h.keep (Ψ := fun _ => False) (Chg.of_below hb) fun _ _ => id
theorem TimerAt.lt (h : TimerAt w t R Φ) : t < w.heap.size := by
  obtain ⟨ho, m, v, H, f, hp, hl⟩ := h
  exact lt_of_block hl.blk
/-- A timer that has things. -/
theorem TimerL.held (h : TimerL w t m v H f Φ) (hl : 0 < H.length) : ∃ rb cap, v = .slice (some ⟨rb, 0, none⟩) H.length cap ∧ Held w t m rb cap H f H.length := by
  obtain ⟨rb, cap, hv, _⟩ := h.row.form hl
  have h1 := h.blk
  have h2 := h.row
  rw [hv] at h1 h2
  exact ⟨rb, cap, hv, h1, h2, h.map⟩
end

theorem Len_any {w : World} {t : Nat} {R : List It} {Φ : Nat → Prop} (h : TimerAt w t R Φ) : Calls Try.prog 19 #[.pointer (some ⟨t, 0, none⟩)] w fun e w' => e = .returned (.int .i64 R.length) ∧ w = w' := by
  obtain ⟨ho, m, v, H, f, hp, hl⟩ := h
  obtain ⟨A, c, rfl, _⟩ := own_isSlice hl.row
  obtain ⟨c0, c1⟩ := two_cells' hl.blk
  have HL := Lib.hid hp.length_eq
  clear hl hp
  go_enter Try.func19, Try.ntmps19
  go_wp2
  go_ret
  exact ⟨by rw [← HL.out]; rfl, rfl⟩

/-- What Next answers. -/
def nextE (R : List It) : Ending := match R with | [] => .returned (.tuple #[.agg #[.int .i64 0, .int .i64 0], .bool false]) | x :: _ => .returned (.tuple #[.agg #[.int .i64 x.1, .int .i64 x.2], .bool true])
set_option maxHeartbeats 800000 in
theorem Next_any {w : World} {t : Nat} {R : List It} {Φ : Nat → Prop} (h : TimerAt w t R Φ) : Calls Try.prog 21 #[.pointer (some ⟨t, 0, none⟩)] w fun e w' => e = nextE R ∧ Below w.heap.size w w' := by
  obtain ⟨ho, m, v, H, f, hp, hl⟩ := h
  by_cases hz : H.length = 0
  · obtain rfl : R = [] := List.eq_nil_of_length_eq_zero (by rw [← hp.length_eq]; exact hz)
    obtain ⟨A, c, rfl, _⟩ := own_isSlice hl.row
    obtain ⟨c0, c1⟩ := two_cells' hl.blk
    rw [hz] at c0
    have htl := lt_of_block hl.blk
    clear hl hp hz
    have HE : Hid (nextE [] = .returned (.tuple #[.agg #[.int .i64 0, .int .i64 0], .bool false])) := Lib.hid rfl
    go_enter Try.func21, Try.ntmps21
    go_wp2
    rw [HE.out]
    exact bodyPost_ret (v := .tuple #[.agg #[.int .i64 0, .int .i64 0], .bool false]) (by simp [results, Try.results21, go_sem]) rfl ⟨rfl, (by first | exact (((Below.refl _ _).alloc (Nat.le_refl _) _).setCell (Nat.le_refl _) _).setCell (Nat.le_refl _) _ | exact (Below.refl _ _).alloc (Nat.le_refl _) _)⟩
  · have hpos : 0 < H.length := by omega
    obtain ⟨r, hr⟩ := head_ord hl.heap hp ho hpos
    obtain ⟨rb, cap, rfl, hh⟩ := hl.held hpos
    obtain ⟨c0, c1⟩ := two_cells' hl.blk
    obtain ⟨r0, r1⟩ := hh.cell hpos
    rw [Nat.zero_mul] at r0 r1
    rw [Nat.zero_add] at r1
    obtain ⟨_, _, hc1, hc2⟩ := hh.rowb
    unfold maxLen at hc2
    have htl := lt_of_block hl.blk
    have hrl := (hh.row.lt rb rfl).2
    have HE : Hid (nextE R = .returned (.tuple #[.agg #[.int .i64 (g H 0).1, .int .i64 (g H 0).2], .bool true])) := Lib.hid (by rw [hr]; rfl)
    have hne : ((H.length : Int) == 0) = false := beq_eq_false_iff_ne.2 (by omega)
    generalize g H 0 = x at *
    clear hl hp hz hh hr ho
    go_enter Try.func21, Try.ntmps21
    go_wp2
    rw [HE.out]
    exact bodyPost_ret (v := .tuple #[.agg #[.int .i64 x.1, .int .i64 x.2], .bool true]) (by simp [results, Try.results21, go_sem]) rfl ⟨rfl, (by first | exact (((Below.refl _ _).alloc (Nat.le_refl _) _).setCell (Nat.le_refl _) _).setCell (Nat.le_refl _) _ | exact (Below.refl _ _).alloc (Nat.le_refl _) _)⟩

theorem New_any (w : World) : Calls Try.prog 10 #[] w fun e w' => e = .returned (.pointer (some ⟨w.heap.size + 1, 0, none⟩)) ∧ Below w.heap.size w w' ∧ w'.heap.size = w.heap.size + 2 ∧ TimerAt w' (w.heap.size + 1) [] (fun k => w.heap.size ≤ k) := by
  have HM : Hid (TimerAt ((w.alloc (.map #[] 0)).alloc (.cells #[.slice none 0 0, .map (some w.heap.size)] 55)) (w.heap.size + 1) [] (fun k => w.heap.size ≤ k)) := Lib.hid (by
    refine ⟨ord_nil, w.heap.size, .slice none 0 0, [], fun _ => none, List.Perm.refl _, ?_, ⟨rfl, .inl ⟨rfl, rfl⟩⟩, (Places.made w).keep (Chg.alloc (Φ := fun _ => False) _ _) id, (fun j _ hj => absurd hj (Nat.not_lt_zero _)), ⟨List.Pairwise.nil, (fun j hj => absurd hj (Nat.not_lt_zero _)), (fun k p e => (by cases e))⟩, (fun y hy => (by cases hy)), (by simp), (by simp), (fun g hg => (by simp [Value.ownBlock] at hg))⟩
    have := heap_alloc_new (w.alloc (.map #[] 0)) (.cells #[.slice none 0 0, .map (some w.heap.size)] 55)
    simpa using this)
  have hmm := @run_makeMap Try.prog
  go_enter Try.func10, Try.ntmps10
  go_wp2
  go_ret
  exact ⟨by simp, ((Below.refl _ _).alloc (Nat.le_refl _) _).alloc (by simp) _, by simp, HM.out⟩

/-- What At answers. -/
def atE (R : List It) (id : Int) (e : Ending) : Prop := (e = .returned (.tuple #[.int .i64 0, .bool false]) ∧ ∀ y ∈ R, y.1 ≠ id) ∨ ∃ x ∈ R, x.1 = id ∧ e = .returned (.tuple #[.int .i64 x.2, .bool true])
set_option maxHeartbeats 800000 in
theorem At_any {w : World} {t : Nat} {R : List It} {Φ : Nat → Prop} (h : TimerAt w t R Φ) (id : Int) (hid : wfk id) : Calls Try.prog 22 #[.pointer (some ⟨t, 0, none⟩), .int .i64 id] w fun e w' => atE R id e ∧ w = w' := by
  obtain ⟨ho, m, v, H, f, hp, hl⟩ := h
  obtain ⟨c0, c1⟩ := two_cells' hl.blk
  have hlk := hl.map.look hid
  cases hf : f id with
  | none =>
    rw [hf] at hlk
    have HE : Hid (atE R id (.returned (.tuple #[.int .i64 0, .bool false]))) := Lib.hid (.inl ⟨rfl, fun y hy => hl.tells.none hf y ((hp.mem_iff).2 hy)⟩)
    have hlk' : (Instr.lookup 53 (.map (some m)) (.int .i64 id) true).run Try.prog w = .ok (.tuple #[.int .i64 (plc f id), .bool false]) w := hlk
    clear hl hp ho hf hlk
    go_enter Try.func22, Try.ntmps22
    go_wp2
    go_ret2
    exact ⟨HE.out, rfl⟩
  | some p =>
    obtain ⟨hpl, hpi⟩ := hl.tells.place hf
    obtain ⟨rb, cap, rfl, hh⟩ := hl.held (by omega)
    obtain ⟨r0, r1⟩ := hh.cell hpl
    obtain ⟨_, _, hc1, hc2⟩ := hh.rowb
    unfold maxLen at hc2
    have hlk' : (Instr.lookup 53 (.map (some m)) (.int .i64 id) true).run Try.prog w = .ok (.tuple #[.int .i64 (p : Int), .bool true]) w := by
      rw [hlk]
      unfold plc
      rw [hf]
      rfl
    have hpl' : (p : Int) < H.length := by omega
    have HE : Hid (atE R id (.returned (.tuple #[.int .i64 (g H p).2, .bool true]))) := Lib.hid (.inr ⟨g H p, (hp.mem_iff).1 (g_mem hpl), hpi, rfl⟩)
    clear hl hp ho hf hlk hh hpi
    go_enter Try.func22, Try.ntmps22
    go_wp2
    go_ret2
    exact ⟨HE.out, rfl⟩
end Go.Proofs.Ytednibjemboclaa
