/- What is proved here: what frame.effects returns: of each half byte what four steps make of it; new memory is made, and none that was there is changed. -/
import Derived.Test.YtbdfhlgpbhcjcaaLow2
import Derived.Deep.DeepCutAuto
namespace Go.Proofs.Ytbdfhlgpbhcjcaa
open Go Go.RowKit

/-- The table as far as it is made. -/
def tab (i : Nat) : Array Value := ((List.range 16).map fun j => Value.int .u32 ((if j < i then four j else 0 : Nat) : Int)).toArray
theorem tab_size (i : Nat) : (tab i).size = 16 := by unfold tab; simp
theorem tab_get (i j : Nat) (h : j < 16) : (tab i)[j]? = some (Value.int .u32 ((if j < i then four j else 0 : Nat) : Int)) := by
  unfold tab
  simp [h]
theorem tab_one (i : Nat) : (tab i).all (·.oneCell') = true := by
  rw [Array.all_eq_true_iff_forall_mem]
  intro v hv
  unfold tab at hv
  simp only [List.mem_toArray, List.mem_map] at hv
  obtain ⟨j, _, rfl⟩ := hv
  rfl
theorem tab_set (i : Nat) (h : i < 16) : (tab i).setIfInBounds i (Value.int .u32 (four i : Nat)) = tab (i + 1) := by
  apply Array.ext_getElem?
  intro j
  rw [Array.getElem?_setIfInBounds]
  by_cases hj : j < 16
  · rw [tab_get _ _ hj, tab_get _ _ hj, tab_size]
    by_cases e : i = j
    · subst e; simp [h]
    · rw [if_neg e]
      congr 3
      by_cases h1 : j < i
      · rw [if_pos h1, if_pos (by omega)]
      · rw [if_neg h1, if_neg (by omega)]
  · have e : i ≠ j := by omega
    rw [if_neg e, Array.getElem?_eq_none (by rw [tab_size]; omega), Array.getElem?_eq_none (by rw [tab_size]; omega)]
theorem stepN_succ : ∀ k s, stepN (k + 1) s = step (stepN k s)
  | 0, _ => rfl
  | k + 1, s => by rw [stepN, stepN_succ k, ← stepN]
theorem stepN_lt : ∀ (k : Nat) {s : Nat}, s < 2 ^ 32 → stepN k s < 2 ^ 32
  | 0, _, h => h
  | k + 1, _, h => stepN_lt k (step_lt h)
theorem xor_step (s : Nat) (h : s < 4294967296) : bits .xor .u32 ((s : Int) / 2) ((s : Int) % 2 * 3988292384) = ((step s : Nat) : Int) := by
  have e1 : (s : Int) / 2 = ((s / 2 : Nat) : Int) := by omega
  have e2 : (s : Int) % 2 * 3988292384 = ((s % 2 * poly : Nat) : Int) := by unfold poly; omega
  rw [e1, e2]
  exact u32_xor_nat _ _ (by omega) (by unfold poly; omega)

theorem below_setRow {B : Nat} {w w1 : World} (h : Below B w w1) {g : Nat} (hg : B ≤ g) (cs : Array Value) : Below B w (w1.setRow g cs) :=
  ⟨h.os, h.tape, h.output, by rw [size_setRow]; exact h.size, fun k hk => (setRow_other w1 g k cs (by omega)).trans (h.block k hk)⟩
theorem tab_zero : #[Value.int .u32 0, Value.int .u32 0, Value.int .u32 0, Value.int .u32 0, Value.int .u32 0, Value.int .u32 0, Value.int .u32 0, Value.int .u32 0, Value.int .u32 0, Value.int .u32 0, Value.int .u32 0, Value.int .u32 0, Value.int .u32 0, Value.int .u32 0, Value.int .u32 0, Value.int .u32 0] = tab 0 := by kernel_rfl
theorem info_tab : (Try.prog.info? 50).map (·.size) = some 16 := by kernel_rfl

set_option maxHeartbeats 400000 in
theorem effects_any (w : World) :
    Calls Try.prog 25 #[] w fun e w' => e = .returned (.agg (tab 16)) ∧ Below w.heap.size w w' := by
  go_enter Try.func25, Try.ntmps25
  go_wp2
  rw [tab_zero]
  go_loopw [4] (fun i wr => ∃ k : Nat, k ≤ 16 ∧ i = .int .i64 k ∧ wr = (w.alloc (.cells (tab 0) 50)).alloc (.cells (tab k) 50))
    (fun i _ => 16 - (intOf i).toNat)
  case atStart => exact ⟨0, by omega, rfl, rfl⟩
  case round =>
    obtain ⟨k, hk, rfl, rfl⟩ := hrel
    by_cases hlt : k < 16
    · go_wp2
      have hcv : IntKind.u32.wrap (k : Int) = (k : Int) := IntWalk.u32_in _ (by omega)
      go_loop [3, 9] (fun e j => ∃ q : Nat, q ≤ 4 ∧ j = .int .i64 q ∧ e = .int .u32 (stepN q k)) (fun _ j => 4 - (intOf j).toNat)
      case atStart => exact ⟨0, by omega, rfl, rfl⟩
      case round =>
        obtain ⟨q, hq, rfl, rfl⟩ := hrel
        have hs := stepN_lt q (s := k) (by omega)
        have HN := Lib.hid (stepN_succ q k)
        by_cases hql : q < 4
        · generalize stepN q k = s at *
          have HX := Lib.hid (xor_step s (by omega))
          go_wp2
          go_round
          case rel => exact ⟨q + 1, by omega, by go_num, by rw [HX.out, HN.out]⟩
          case measure => simp [intOf]; omega
        · have hq4 : q = 4 := by omega
          subst hq4
          have h4 : stepN 4 k = four k := rfl
          rw [h4] at hs
          rw [h4]
          clear h4 HN
          have HT := Lib.hid (tab_set k hlt)
          have hTk := tab_get k k hlt
          rw [if_neg (Nat.lt_irrefl k)] at hTk
          generalize tab k = T at *
          generalize four k = v at *
          go_wp2
          rw [HT.out]
          go_roundw
          case rel => exact ⟨k + 1, by omega, by go_num, rfl⟩
          case measure => simp [intOf]; omega
    · have hk16 : k = 16 := by omega
      subst hk16
      have h1 := heap_alloc2_old w (.cells (tab 0) 50) (.cells (tab 16) 50)
      have h2 := heap_alloc2_new w (.cells (tab 0) 50) (.cells (tab 16) 50)
      have hone := tab_one 16
      have hs0 := tab_size 0
      have hs1 := tab_size 16
      have hb : Below w.heap.size w ((w.alloc (.cells (tab 0) 50)).alloc (.cells (tab 16) 50)) := ((Below.refl _ _).alloc (Nat.le_refl _) _).alloc (by simp) _
      generalize (w.alloc (.cells (tab 0) 50)).alloc (.cells (tab 16) 50) = W at *
      have H0 := Lib.hid hs0
      have H1 := Lib.hid hs1
      clear hs0 hs1
      go_wp2_with (first
        | (refine wpList_load_row (o := ⟨some 22, .load 50 (.tmp 1), _, _, _, _⟩) rfl 50 (.tmp 1) rfl (w.heap.size + 1) rfl 50 (tab 16) (0, 0) _ h2 Try.underlying50 rfl (by rw [H1.out]; exact info_tab) ?_)
        | (refine wpList_store_row (o := ⟨none, .store 50 (.tmp 0) (.tmp 22), _, _, _, _⟩) rfl 50 (.tmp 0) (.tmp 22) rfl w.heap.size (tab 16) rfl rfl 50 (tab 0) h1 (by rw [H1.out]; exact info_tab) (by rw [H0.out, H1.out]) hone ?_))
      refine bodyPost_ret (v := .agg (tab 16)) ?_ rfl ⟨rfl, ?_⟩
      · exact results_cell_row rfl _ _ w.heap.size 50 (tab 16) (0, 0) _ rfl (setRow_heap W _ _ _ _ _ h1) Try.underlying50 rfl (by rw [H1.out]; exact info_tab)
      · exact below_setRow hb (Nat.le_refl _) _
end Go.Proofs.Ytbdfhlgpbhcjcaa
