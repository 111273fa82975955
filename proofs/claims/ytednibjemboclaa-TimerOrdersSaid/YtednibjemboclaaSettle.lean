/- What is proved here: what 'settle' does: a thing is put where it belongs. -/
import Derived.Test.YtednibjemboclaaSink
import Derived.Deep.RegionHeld3
namespace Go.Proofs.Ytednibjemboclaa
open Go Go.RowKit Go.Sort

/-- What settle leaves. -/
def SettleSaid (t m rb cap N' : Nat) (G : List It) (w : World) (e : Ending) (w' : World) : Prop :=
  e = .returned (.tuple #[]) ∧ ∃ H f, Held w' t m rb cap H f N' ∧ Heap H ∧ Tells f H ∧ H.Perm G ∧ Chg (foot m rb) w w'

set_option maxHeartbeats 1600000 in
set_option maxRecDepth 100000 in
theorem settle_any {w : World} {t m rb cap N N' : Nat} {H : List It} {f : Int → Option Nat} {i : Nat} {x : It} {G : List It} {fx : Option Nat} (h : Hole w t m rb cap N H f i x G fx) (hl : G.length < 1000000) (hN : N < 1000000) (hN' : N' = if fx.isSome then N else N + 1) :
    Calls Try.prog 23 #[.pointer (some ⟨t, 0, none⟩), .int .i64 i, .agg #[.int .i64 x.1, .int .i64 x.2]] w (SettleSaid t m rb cap N' G w) := by
  obtain ⟨W, hW⟩ : ∃ W, W = w.alloc (.cells #[.int .i64 x.1, .int .i64 x.2] 41) := ⟨_, rfl⟩
  have hb : Below w.heap.size w W := by rw [hW]; exact (Below.refl _ _).alloc (Nat.le_refl _) _
  have hrb : rb < w.heap.size := (h.held.row.lt rb rfl).2
  have hm : m < w.heap.size := h.held.map.lt
  have q0 : W.cell? ⟨w.heap.size, 0, none⟩ = some (.int .i64 x.1) := by rw [hW]; simp
  have q1 : W.cell? ⟨w.heap.size, 1, none⟩ = some (.int .i64 x.2) := by rw [hW]; simp
  have hsz : w.heap.size < W.heap.size := by rw [hW]; simp
  have hW' := Lib.hid hW
  have hWd : Hole W.drew t m rb cap N H f i x G fx := (h.below hb).keep (Φ := fun _ => False) (Chg.drew W) id id id
  have hcW : Chg (foot m rb) w W.drew := Chg.of_below hb.drew
  have hbf : ¬ foot m rb w.heap.size := fun e => by rcases e with e | e <;> omega
  have hxG : wfk x.1 := h.wf x ((h.perm.mem_iff).1 (by
    have := g_mem (H := H.set i x) (j := i) (by rw [List.length_set]; exact h.told.lt)
    rwa [g_same h.told.lt] at this))
  have HC : Hid (Calls Try.prog 32 #[.pointer (some ⟨t, 0, none⟩), .int .i64 i, .agg #[.int .i64 x.1, .int .i64 x.2]] W.drew fun e w1 => ∃ i1 : Nat, e = .returned (.int .i64 i1) ∧ w1.cell? ⟨w.heap.size, 0, none⟩ = some (.int .i64 x.1) ∧ w1.cell? ⟨w.heap.size, 1, none⟩ = some (.int .i64 x.2) ∧
      Hid (Calls Try.prog 31 #[.pointer (some ⟨t, 0, none⟩), .int .i64 i1, .agg #[.int .i64 x.1, .int .i64 x.2]] w1 fun e w2 => ∃ i2 : Nat, e = .returned (.int .i64 i2) ∧ w2.cell? ⟨w.heap.size, 0, none⟩ = some (.int .i64 x.1) ∧ w2.cell? ⟨w.heap.size, 1, none⟩ = some (.int .i64 x.2) ∧
        Hid (Calls Try.prog 30 #[.pointer (some ⟨t, 0, none⟩), .int .i64 i2, .agg #[.int .i64 x.1, .int .i64 x.2]] w2 (fun e w3 => e = .returned (.tuple #[]) ∧ w3.cell? ⟨w.heap.size, 0, none⟩ = some (.int .i64 x.1) ∧ w3.cell? ⟨w.heap.size, 1, none⟩ = some (.int .i64 x.2) ∧ Hid (SettleSaid t m rb cap N' G w (.returned (.tuple #[])) w3))))) := Lib.hid ((rise_any hWd hl hN).mono (by
    rintro e w1 ⟨H1, f1, i1, rfl, h1, hu, hc1⟩
    refine ⟨i1, rfl, (hc1.cell (p := ⟨w.heap.size, 0, none⟩) hsz hbf).trans q0, (hc1.cell (p := ⟨w.heap.size, 1, none⟩) hsz hbf).trans q1, Lib.hid ((sink_any h1 hu hl hN).mono ?_)⟩
    rintro e w2 ⟨H2, f2, i2, rfl, h2, hheap, hc2⟩
    have hs1 : w.heap.size < w1.heap.size := Nat.lt_of_lt_of_le hsz hc1.size
    refine ⟨i2, rfl, (hc2.cell (p := ⟨w.heap.size, 0, none⟩) hs1 hbf).trans ((hc1.cell (p := ⟨w.heap.size, 0, none⟩) hsz hbf).trans q0), (hc2.cell (p := ⟨w.heap.size, 1, none⟩) hs1 hbf).trans ((hc1.cell (p := ⟨w.heap.size, 1, none⟩) hsz hbf).trans q1), Lib.hid ((put_any h2.held h2.told.lt (by have := h2.len; omega) hN x hxG (N' := N') (by rw [hN', h2.same])).mono ?_)⟩
    rintro e w3 ⟨rfl, hh, hc3⟩
    have hs2 : w.heap.size < w2.heap.size := Nat.lt_of_lt_of_le hs1 hc2.size
    have hcc := (hc1.trans hc2 fun _ _ e => e).trans hc3 fun _ _ e => e
    exact ⟨rfl, (hcc.cell (p := ⟨w.heap.size, 0, none⟩) hsz hbf).trans q0, (hcc.cell (p := ⟨w.heap.size, 1, none⟩) hsz hbf).trans q1, Lib.hid ⟨rfl, _, _, hh, hheap, h2.told.fill, h2.perm, (((hcW.trans hc1 fun _ _ e => e).trans hc2 fun _ _ e => e).trans hc3 fun _ _ e => e)⟩⟩))
  clear h hb hW hWd hcW hN'
  go_enter Try.func23, Try.ntmps23
  go_wp2_with fail
  rw [← hW'.out]
  go_region_held3 (fun w' => w'.cell? ⟨w.heap.size, 0, none⟩ = some (.int .i64 x.1) ∧ w'.cell? ⟨w.heap.size, 1, none⟩ = some (.int .i64 x.2))
    (first | assumption | exact ⟨by assumption, by assumption⟩ | exact ⟨q0, q1⟩)
    (first
      | (go_at_call 32; refine HC.out.mono ?_; rintro e w1 ⟨i1, rfl, p0, p1, HC1⟩)
      | (go_at_call 31; refine HC1.out.mono ?_; rintro e w2 ⟨i2, rfl, p2, p3, HC2⟩)
      | (go_at_call 30; refine HC2.out.mono ?_; rintro e w3 ⟨rfl, p4, p5, HX⟩))
  all_goals
    go_end0
    exact HX.out
end Go.Proofs.Ytednibjemboclaa
