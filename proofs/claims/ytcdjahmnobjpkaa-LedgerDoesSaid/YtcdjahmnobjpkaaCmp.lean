/- What is proved here: what 'compare', and the library's functions that it calls, answer. -/
import Derived.Test.YtcdjahmnobjpkaaSort1
import Derived.Sort.Grow
import Derived.Outline
import Derived.Laws.Cover1
namespace Go.Proofs.Ytcdjahmnobjpkaa
open Go Go.RowKit Go.Maps Go.WideMaps Go.Sort

def cmp1 (a b : Int) : Int := if a < b then -1 else if b < a then 1 else 0
theorem Compare_any (a b : Int) (w : World) : Calls Try.prog 37 #[.int .i64 a, .int .i64 b] w fun e w' => e = .returned (.int .i64 (cmp1 a b)) ∧ w' = w := by
  rcases Int.lt_trichotomy a b with h | h | h
  · have HC : Hid (cmp1 a b = -1) := Lib.hid (by unfold cmp1; rw [if_pos h])
    go_enter Try.func37, Try.ntmps37
    go_wp2
    go_ret
    exact ⟨by rw [HC.out]; rfl, rfl⟩
  · subst h
    have HC : Hid (cmp1 a a = 0) := Lib.hid (by unfold cmp1; rw [if_neg (by omega), if_neg (by omega)])
    go_enter Try.func37, Try.ntmps37
    go_wp2
    go_ret
    exact ⟨by rw [HC.out]; rfl, rfl⟩
  · have HC : Hid (cmp1 a b = 1) := Lib.hid (by unfold cmp1; rw [if_neg (by omega), if_pos h])
    have h2 : ¬ a < b := by omega
    go_enter Try.func37, Try.ntmps37
    go_wp2
    go_ret
    exact ⟨by rw [HC.out]; rfl, rfl⟩
def or2 (a b : Int) : Int := if a = 0 then b else a
theorem Or_any (a b : Int) (r : Nat) (w : World) (h0 : w.cell? ⟨r, 0, none⟩ = some (.int .i64 a)) (h1 : w.cell? ⟨r, 1, none⟩ = some (.int .i64 b)) :
    Calls Try.prog 36 #[.slice (some ⟨r, 0, none⟩) 2 2] w fun e w' => e = .returned (.int .i64 (or2 a b)) ∧ w' = w := by
  by_cases ha : a = 0
  · subst ha
    have HC : Hid (or2 0 b = b) := Lib.hid rfl
    go_enter Try.func36, Try.ntmps36
    go_wp2
    go_loop [8] (fun i => ∃ k : Nat, i = .int .i64 k ∧ k ≤ 2 ∧ (k = 2 → b = 0)) (fun i => 2 - (intOf i).toNat)
    case atStart => exact ⟨0, rfl, by omega, fun h => by omega⟩
    case round =>
      obtain ⟨k, rfl, hk, hb⟩ := hrel
      have hk3 : k = 0 ∨ k = 1 ∨ k = 2 := by omega
      rcases hk3 with rfl | rfl | rfl
      · go_wp2
        go_round
        case rel => exact ⟨1, rfl, by omega, fun h => by omega⟩
        case measure => simp [intOf]
      · clear hb
        by_cases hb2 : b = 0
        · subst hb2
          go_wp2
          go_round
          case rel => exact ⟨2, rfl, by omega, fun h => by first | rfl | trivial⟩
          case measure => simp [intOf]
        · have hb3 : (b == 0) = false := by simpa using hb2
          clear hb2
          go_wp2
          go_ret
          exact ⟨by rw [HC.out]; rfl, rfl⟩
      · obtain rfl := hb rfl
        go_wp2
        go_ret
        exact ⟨by rw [HC.out]; rfl, rfl⟩
  · have ha2 : (a == 0) = false := by simpa using ha
    have HC : Hid (or2 a b = a) := Lib.hid (by unfold or2; rw [if_neg ha])
    clear ha
    go_enter Try.func36, Try.ntmps36
    go_wp2
    refine wp_loop_rounds 3 ?_
    simp only [rounds_succ]
    go_wp2
    go_ret
    exact ⟨by rw [HC.out]; rfl, rfl⟩

theorem less_before : ∀ a b : List UInt8, Op.bytesLess a b = bytesBefore a b
  | [], [] => rfl
  | [], _ :: _ => rfl
  | _ :: _, [] => rfl
  | x :: a, y :: b => by simp only [Op.bytesLess, bytesBefore, less_before a b]
def cmpS (a b : ByteArray) : Int := if Op.bytesLess a.toList b.toList then -1 else if a = b then 0 else 1
theorem CompareS_any (a b : ByteArray) (w : World) : Calls Try.prog 38 #[.string a, .string b] w fun e w' => e = .returned (.int .i64 (cmpS a b)) ∧ w' = w := by
  have hself : ∀ x : ByteArray, (x.toList == x.toList) = true := fun x => by simp
  by_cases h : Op.bytesLess a.toList b.toList = true
  · have HC : Hid (cmpS a b = -1) := Lib.hid (by unfold cmpS; rw [if_pos h])
    go_enter Try.func38, Try.ntmps38
    go_wp2
    go_ret
    exact ⟨by rw [HC.out]; rfl, rfl⟩
  · have h' : Op.bytesLess a.toList b.toList = false := by simpa using h
    by_cases e : a = b
    · have HC : Hid (cmpS a b = 0) := Lib.hid (by unfold cmpS; rw [if_neg h, if_pos e])
      have he : (a.toList == b.toList) = true := by rw [str_eq]; simpa using e
      clear h e
      go_enter Try.func38, Try.ntmps38
      go_wp2

      go_ret
      exact ⟨by rw [HC.out]; rfl, rfl⟩
    · have HC : Hid (cmpS a b = 1) := Lib.hid (by unfold cmpS; rw [if_neg h, if_neg e])
      have he : (a.toList == b.toList) = false := by rw [str_eq]; simpa using e
      clear h e
      go_enter Try.func38, Try.ntmps38
      go_wp2
      go_ret
      exact ⟨by rw [HC.out]; rfl, rfl⟩
/-- What 'compare' answers. -/
def cmpE (x y : En) : Int := or2 (cmp1 x.t y.t) (cmpS x.k y.k)
theorem toL (s : ByteArray) : s.toList = s.data.toList := ByteArray.toList_eq s
theorem cmpE_lt (x y : En) : decide (cmpE x y < 0) = decide (x.t < y.t ∨ (x.t = y.t ∧ bytesBefore x.nm y.nm = true)) := by
  have hl : Op.bytesLess x.k.toList y.k.toList = bytesBefore x.nm y.nm := by rw [less_before, toL, toL]; rfl
  unfold cmpE or2 cmp1 cmpS
  rw [hl]
  by_cases h1 : x.t < y.t
  · simp [h1]
  · by_cases h2 : y.t < x.t
    · have : x.t ≠ y.t := by omega
      simp [h1, h2, this]
    · have e : x.t = y.t := by omega
      cases hb : bytesBefore x.nm y.nm with
      | true => simp [e]
      | false => 
        by_cases h3 : x.k = y.k <;> simp [e, h3]
theorem LedL.lookW {w : World} {l m room : Nat} {L : List En} {f : Lit → Option Value} {Φ : Nat → Prop} (h : LedL w l m room L f Φ) {x : En} (hx : x ∈ L) : ∃ n : Int,
    (Instr.lookup 58 (.map (some m)) (.string x.k) false).run Try.prog w = .ok (.agg #[.int .i64 n, .int .i64 x.t]) w := by
  have := h.mp.look keyed_str Try.underlying58 (zero_known w) (key_str (h.ok.wf x hx))
  obtain ⟨n, hn⟩ := h.vs x hx
  refine ⟨n, ?_⟩
  rw [this, h.pl, findE_mem h.ok.srt hx]
  show Result.ok (valE x) w = _
  unfold valE
  rw [hn]

set_option maxHeartbeats 1600000 in
set_option maxRecDepth 100000 in
theorem compare_any {w : World} {l room : Nat} {L : List En} {Φ : Nat → Prop} (h : LedAt w l room L Φ) {x y : En} (hx : x ∈ L) (hy : y ∈ L) :
    Calls Try.prog 30 #[.pointer (some ⟨l, 0, none⟩), .string x.k, .string y.k] w fun e w' => e = .returned (.int .i64 (cmpE x y)) ∧ ∃ q os', w' = grow (w.drewN q) os' := by
  obtain ⟨m, f, h⟩ := h
  obtain ⟨c0, c1⟩ := two_cells' h.blk
  have hD := h.keep (Ψ := fun _ => False) (Chg.drew w) fun _ _ => id
  obtain ⟨n1, l1⟩ := hD.lookW hx
  obtain ⟨n2, l2⟩ := hD.lookW hy
  have k1 : ∀ W, (Instr.field 62 (.agg #[.int .i64 n1, .int .i64 x.t]) 1).run Try.prog W = .ok (.int .i64 x.t) W := fun W => by kernel_rfl
  have k2 : ∀ W, (Instr.field 62 (.agg #[.int .i64 n2, .int .i64 y.t]) 1).run Try.prog W = .ok (.int .i64 y.t) W := fun W => by kernel_rfl
  have HC : Hid (cmpE x y = or2 (cmp1 x.t y.t) (cmpS x.k y.k)) := Lib.hid rfl
  have hll := lt_of_block h.blk
  clear h hx hy hD
  go_enter Try.func30, Try.ntmps30
  go_wp2_with fail
  go_still_tail 18, (by kernel_rfl)
  still_call (Compare_any x.t y.t _)
  repeat still_step
  still_call (CompareS_any x.k y.k _)
  refine wpStill_nil ?_
  change wpList _ _ _ _ _ w.drew
  generalize hWd : w.drew = W2
  have HD := Lib.hid hWd
  clear hWd c0 c1 l1 l2
  go_wp2_with (go_at_call 36; refine (Or_any (cmp1 x.t y.t) (cmpS x.k y.k) W2.heap.size _ (by simp) (by simp)).mono ?_; rintro e w1 ⟨rfl, rfl⟩)
  go_ret
  refine ⟨by rw [HC.out]; rfl, 1, #[.cells #[.int .i64 (cmp1 x.t y.t), .int .i64 (cmpS x.k y.k)] 3], ?_⟩
  rw [← HD.out, alloc_eq_grow]
  rfl
end Go.Proofs.Ytcdjahmnobjpkaa
