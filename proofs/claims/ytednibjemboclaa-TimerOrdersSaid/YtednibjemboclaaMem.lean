/- What is proved here: what it is that memory holds a timer's things and their places: definitions, and plain facts on them. -/
import Derived.Test.YtednibjemboclaaChg
import Derived.Test.YtednibjemboclaaHeap
import Derived.Maps.OwnOps
import Derived.Maps.Views
import Derived.Laws.OwnMore
import Derived.Deep.AppendLies
namespace Go.Proofs.Ytednibjemboclaa
open Go Go.RowKit Go.Maps

/-- A thing's two cells; those of a list, one behind the other. -/
def cells2 (x : It) : List Value := [.int .i64 x.1, .int .i64 x.2]
def flat (H : List It) : List Value := H.flatMap cells2
theorem flat_append (H T : List It) : flat (H ++ T) = flat H ++ flat T := by simp [flat]
theorem flat_one (x : It) : flat [x] = [.int .i64 x.1, .int .i64 x.2] := by simp [flat, cells2]
theorem flat_len (H : List It) : (flat H).length = H.length * 2 := by
  induction H with
  | nil => rfl
  | cons x r ih =>
    show (cells2 x ++ flat r).length = _
    rw [List.length_append, ih]
    show 2 + r.length * 2 = _
    simp; omega
theorem flat_at : ∀ {H : List It} {j : Nat}, j < H.length → (flat H)[j * 2]? = some (.int .i64 (g H j).1) ∧ (flat H)[j * 2 + 1]? = some (.int .i64 (g H j).2)
  | x :: r, 0, _ => ⟨rfl, rfl⟩
  | x :: r, j + 1, h => by
    obtain ⟨h1, h2⟩ := flat_at (H := r) (j := j) (by simpa using h)
    have e : flat (x :: r) = cells2 x ++ flat r := rfl
    have e2 : (cells2 x).length = 2 := rfl
    rw [e, List.getElem?_append_right (by omega), List.getElem?_append_right (by omega), e2, show (j + 1) * 2 - 2 = j * 2 by omega, show (j + 1) * 2 + 1 - 2 = j * 2 + 1 by omega]
    exact ⟨h1, h2⟩
theorem flat_set : ∀ (H : List It) (j : Nat) (y : It), flat (H.set j y) = ((flat H).set (j * 2) (.int .i64 y.1)).set (j * 2 + 1) (.int .i64 y.2)
  | [], _, _ => rfl
  | x :: r, 0, y => rfl
  | x :: r, j + 1, y => by
    have e : flat ((x :: r).set (j + 1) y) = cells2 x ++ flat (r.set j y) := rfl
    have e1 : flat (x :: r) = cells2 x ++ flat r := rfl
    have e2 : (cells2 x).length = 2 := rfl
    rw [e, e1, flat_set r j y, List.set_append_right _ _ (by omega), List.set_append_right _ _ (by omega), e2, show (j + 1) * 2 - 2 = j * 2 by omega, show (j + 1) * 2 + 1 - 2 = j * 2 + 1 by omega]

theorem keyed_int : Keyed Try.prog 3 := int_keyed Try.underlying3
theorem zero_int (w : World) : (zeroValue 3).run Try.prog w = .ok (.int .i64 0) w := by kernel_rfl
def wfk (k : Int) : Prop := -9223372036854775808 ≤ k ∧ k ≤ 9223372036854775807
theorem wfk_wf {k : Int} (h : wfk k) : (Lit.int .i64 k).wf = true := by
  unfold wfk at h
  exact WalkArith.wf_i64 (by omega)
/-- Memory holds where things stand. -/
def Places (w : World) (m : Nat) (f : Int → Option Nat) (N : Nat) : Prop :=
  ∃ D : DataW Unit, w.ownsMap Try.prog 3 (plainElem Try.prog 3) m N D ∧ Maps.size D = N ∧
    ∀ k, Maps.has D (.int .i64 k) = (f k).isSome ∧ ∀ p, f k = some p → D.atKey (.int .i64 k) (.lit (.int .i64 0)) = .lit (.int .i64 p)
/-- The number that a look-up gives. -/
def plc (f : Int → Option Nat) (k : Int) : Nat := (f k).getD 0
section
variable {w w' : World} {m N : Nat} {f : Int → Option Nat}
theorem Places.lt (h : Places w m f N) : m < w.heap.size := by
  obtain ⟨D, h1, _⟩ := h
  exact h1.lt
theorem Places.blk (h : Places w m f N) : ∃ es c, w.heap[m]? = some (.map es c) := by
  obtain ⟨D, ⟨es, c, hb, _⟩, _⟩ := h
  exact ⟨es, c, hb⟩
theorem Places.keep {Φ : Nat → Prop} (h : Places w m f N) (hc : Chg Φ w w') (hn : ¬ Φ m) : Places w' m f N := by
  obtain ⟨D, ⟨es, clock, hb, r⟩, h2⟩ := h
  exact ⟨D, ⟨es, clock, hc.heap hb hn, r⟩, h2⟩
theorem Places.made (w : World) : Places (w.alloc (.map #[] 0)) w.heap.size (fun _ => none) 0 :=
  ⟨.map [], World.ownsMap_made w _ _ _, rfl, fun k => ⟨rfl, fun p h => by cases h⟩⟩
theorem Places.look (h : Places w m f N) {k : Int} (hk : wfk k) :
    (Instr.lookup 53 (.map (some m)) (.int .i64 k) true).run Try.prog w = .ok (.tuple #[.int .i64 (plc f k), .bool (f k).isSome]) w := by
  obtain ⟨D, h1, _, h2⟩ := h
  obtain ⟨v, ps, hrun, hv⟩ := World.ownsMap.look_ok h1 keyed_int Try.underlying53 (zero_int w) (zd := .lit (.int .i64 0)) (zp := []) (plainElem_int Try.underlying3 rfl) (keyOf_int_mk Try.underlying3 (wfk_wf hk))
  obtain ⟨c, rfl, hc, _⟩ := plainElem_int_inv Try.underlying3 hv
  rw [hrun, (h2 k).1]
  congr 3
  have hc' : D.atKey (.int .i64 k) (.lit (.int .i64 0)) = .lit (.int .i64 c) := congrArg Prod.fst hc
  unfold plc
  cases hf : f k with
  | none =>
    have hh : Maps.has D (.int .i64 k) = false := by rw [(h2 k).1, hf]; rfl
    rw [atKey_of_not_has hh] at hc'
    simp at hc'
    rw [← hc']
    rfl
  | some p =>
    rw [(h2 k).2 p hf] at hc'
    simp at hc'
    rw [← hc']
    rfl
theorem Places.put (h : Places w m f N) (hN : N < 4000000) {k : Int} (hk : wfk k) {p : Nat} (hp : p < 4000000) :
    ∃ w', (Instr.mapUpdate 53 (.map (some m)) (.int .i64 k) (.int .i64 p)).run Try.prog w = .ok () w' ∧ Places w' m (upd f k p) (if (f k).isSome then N else N + 1) ∧ Chg (fun i => i = m) w w' := by
  obtain ⟨D, h1, h3, h2⟩ := h
  have hT := h1.tidy keyed_int
  have hkey := keyOf_int_mk Try.underlying3 (wfk_wf hk)
  obtain ⟨w', hrun, r1, r2⟩ := World.ownsMap.store h1 keyed_int Try.underlying53 (by unfold maxLen; omega) hkey (plainElem_int Try.underlying3 (WalkArith.wf_i64 (by omega : -9223372036854775808 ≤ (p : Int) ∧ (p : Int) ≤ 9223372036854775807)))
  refine ⟨w', hrun, ⟨D.put (.int .i64 k) (.lit (.int .i64 p)), ?_, ?_, fun k' => ?_⟩, Chg.of_turned r2⟩
  · have := ownsMap_tight r1
    rw [size_put hT, (h2 k).1, h3] at this
    exact this
  · rw [size_put hT, (h2 k).1, h3]
  · by_cases hkk : k' = k
    · subst hkk
      refine ⟨?_, fun q hq => ?_⟩
      · rw [has_put_same hT.isMap (keyed_int.key hkey), upd_same]
        rfl
      · rw [upd_same] at hq
        obtain rfl := Option.some.inj hq
        exact atKey_put_same hT.isMap (keyed_int.key hkey) _ _
    · have hne : Lit.int .i64 k' ≠ Lit.int .i64 k := fun e => hkk (by simpa using e)
      rw [has_put_other hne, atKey_put_other hne, upd_other _ _ hkk]
      exact h2 k'
theorem Places.drop (h : Places w m f N) {k : Int} (hk : wfk k) (hf : (f k).isSome = true) (ty : TypeId) :
    ∃ w', (Builtin.delete_ #[53, 3] ty #[.map (some m), .int .i64 k]).run Try.prog w = .ok (.tuple #[]) w' ∧ Places w' m (del f k) (N - 1) ∧ 0 < N ∧ Chg (fun i => i = m) w w' := by
  obtain ⟨D, h1, h3, h2⟩ := h
  have hT := h1.tidy keyed_int
  have hkey := keyOf_int_mk Try.underlying3 (wfk_wf hk)
  obtain ⟨w', hrun, r1, r2⟩ := World.ownsMap.drop h1 keyed_int Try.underlying53 hkey ty
  have hs := size_del (k := Lit.int .i64 k) hT
  rw [(h2 k).1, hf, if_pos rfl, h3] at hs
  refine ⟨w', hrun, ⟨D.del (.int .i64 k), ?_, by omega, fun k' => ?_⟩, by omega, Chg.of_turned r2⟩
  · have := ownsMap_tight r1
    rwa [show Maps.size (D.del (.int .i64 k)) = N - 1 by omega] at this
  · by_cases hkk : k' = k
    · subst hkk
      refine ⟨?_, fun q hq => ?_⟩
      · rw [has_del_same]
        simp [del]
      · simp [del] at hq
    · have hne : Lit.int .i64 k' ≠ Lit.int .i64 k := fun e => hkk (by simpa using e)
      rw [has_del_other hne, atKey_del_other hne]
      have : del f k k' = f k' := by simp [del, hkk]
      rw [this]
      exact h2 k'
end

/-- Memory holds a timer that has things: its block, its row's, its map's. -/
structure Held (w : World) (t m rb cap : Nat) (H : List It) (f : Int → Option Nat) (N : Nat) : Prop where
  blk : w.heap[t]? = some (.cells #[.slice (some ⟨rb, 0, none⟩) H.length cap, .map (some m)] 55 (0, 0))
  row : w.ownsRow 0 41 2 (.slice (some ⟨rb, 0, none⟩) H.length cap) H.length (flat H)
  map : Places w m f N
def foot (m rb : Nat) (k : Nat) : Prop := k = m ∨ k = rb
section
variable {w w' : World} {t m rb cap N : Nat} {H : List It} {f : Int → Option Nat}
theorem Held.rowb (h : Held w t m rb cap H f N) : ∃ cur, w.heap[rb]? = some (.cells cur 41 (0, 0)) ∧ H.length ≤ cap ∧ cap ≤ maxLen := by
  rcases h.row.2 with ⟨e1, _⟩ | ⟨g, cap, cur, e1, _, hg, h1, h2, _⟩
  · cases e1
  · cases e1
    exact ⟨cur, hg, h1, h2⟩
theorem Held.t_m (h : Held w t m rb cap H f N) : t ≠ m := fun e => by
  obtain ⟨es, c, hb⟩ := h.map.blk
  rw [← e, h.blk] at hb
  cases hb
theorem Held.t_rb (h : Held w t m rb cap H f N) : t ≠ rb := fun e => by
  obtain ⟨cur, hb, _⟩ := h.rowb
  rw [← e, h.blk] at hb
  simp at hb
theorem Held.rb_m (h : Held w t m rb cap H f N) : rb ≠ m := fun e => by
  obtain ⟨es, c, hb⟩ := h.map.blk
  obtain ⟨cur, hb2, _⟩ := h.rowb
  rw [← e, hb2] at hb
  cases hb
theorem Held.cell (h : Held w t m rb cap H f N) {j : Nat} (hj : j < H.length) : w.cell? ⟨rb, j * 2, none⟩ = some (.int .i64 (g H j).1) ∧ w.cell? ⟨rb, j * 2 + 1, none⟩ = some (.int .i64 (g H j).2) := by
  obtain ⟨h1, h2⟩ := flat_at hj
  exact ⟨(h.row.cellAt (j * 2) (by omega)).trans h1, (h.row.cellAt (j * 2 + 1) (by omega)).trans h2⟩
theorem Held.keep {Φ : Nat → Prop} (h : Held w t m rb cap H f N) (hc : Chg Φ w w') (ht : ¬ Φ t) (hm : ¬ Φ m) (hr : ¬ Φ rb) : Held w' t m rb cap H f N :=
  ⟨hc.heap h.blk ht, hc.own h.row fun g hg => by simp [Value.ownBlock] at hg; rw [← hg]; exact hr, h.map.keep hc hm⟩
theorem Held.below (h : Held w t m rb cap H f N) (hc : Below w.heap.size w w') : Held w' t m rb cap H f N :=
  h.keep (Φ := fun _ => False) (Chg.of_below hc) id id id
theorem Held.stored (h : Held w t m rb cap H f N) (j : Nat) (y : It) :
    Held ((w.setCell ⟨rb, j * 2, none⟩ (.int .i64 y.1)).setCell ⟨rb, j * 2 + 1, none⟩ (.int .i64 y.2)) t m rb cap (H.set j y) f N ∧
      Chg (fun k => k = rb) w ((w.setCell ⟨rb, j * 2, none⟩ (.int .i64 y.1)).setCell ⟨rb, j * 2 + 1, none⟩ (.int .i64 y.2)) := by
  have h1 := h.row.stored (j * 2) (.int .i64 y.1)
  have h2 := h1.1.stored (j * 2 + 1) (.int .i64 y.2)
  rw [← flat_set] at h2
  have hc : Chg (fun k => k = rb) w ((w.setCell ⟨rb, j * 2, none⟩ (.int .i64 y.1)).setCell ⟨rb, j * 2 + 1, none⟩ (.int .i64 y.2)) := (Chg.set w rb _ _).trans (Chg.set _ rb _ _) fun _ _ e => e
  refine ⟨⟨?_, ?_, h.map.keep hc fun e => h.rb_m e.symm⟩, hc⟩
  · rw [List.length_set]
    exact hc.heap h.blk h.t_rb
  · rw [List.length_set]
    exact h2.1
end
end Go.Proofs.Ytednibjemboclaa
