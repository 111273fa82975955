/- What is proved here: slices.IndexFunc and slices.ContainsFunc, as package cmd calls them, whatever predicate; and its predicates. -/
import Derived.Test.YtkdncnhjlgidnaaGreatDoorCMod
import Derived.Shelf.GgClosure.Gives
namespace Go.Proofs.YtkdncnhjlgidnaaGreatDoor
open Go Go.RowKit

/-- A row whose elements are known, one cell each, wherever memory grows. -/
def Known (w : World) (A : Option Addr) (n : Nat) (v : Nat → Value) : Prop := ∀ W, Below w.heap.size w W → ∀ j, j < n → ∃ b o, A = some ⟨b, o, none⟩ ∧ W.cell? ⟨b, o + j, none⟩ = some (v j)
/-- A predicate that is known at these elements. -/
def PredOf (P : Program) (g : Nat) (lb : Array Value) (w : World) (n : Nat) (v : Nat → Value) (p : Nat → Bool) : Prop := ∀ W j, Below w.heap.size w W → j < n → Calls P g (#[v j] ++ lb) W fun e W' => e = .returned (.bool (p j)) ∧ Below W.heap.size W W'
theorem anyR (n : Nat) (p : Nat → Bool) : (List.range n).any p = decide (∃ j, j < n ∧ p j = true) := by
  by_cases h : ∃ j, j < n ∧ p j = true
  · rw [decide_eq_true h]
    obtain ⟨j, hj, hp⟩ := h
    exact List.any_eq_true.2 ⟨j, List.mem_range.2 hj, hp⟩
  · rw [decide_eq_false h, List.any_eq_false]
    intro j hj
    exact fun hp => h ⟨j, List.mem_range.1 hj, hp⟩


set_option maxHeartbeats 2000000 in
theorem IndexF_pi (g : Nat) (lb : Array Value) (eg : ∀ args w, (callFunc g args).run Tryz.prog w = .ok (.enter g args) w) (A : Option Addr) (n c : Nat) (v : Nat → Value) (p : Nat → Bool) (w : World) (hk : Known w A n v) (hone : ∀ j, j < n → ∃ a, v j = .pointer (some a)) (hp : PredOf Tryz.prog g lb w n v p) (hn : n ≤ 1000000) :
    Calls Tryz.prog 75 #[.slice A n c, .func (.func g) #[] lb] w fun e w' => ∃ i : Int, e = .returned (.int .i64 i) ∧ decide (0 ≤ i) = (List.range n).any p ∧ Below w.heap.size w w' := by
  have HK := Lib.hid hk
  have HP : Hid (∀ W j, Below w.heap.size w W → j < n → Calls Tryz.prog g (#[v j] ++ lb) W fun e W' => e = .returned (.bool (p j)) ∧ Below W.heap.size W W') := Lib.hid hp
  clear hk hp
  go_enter Tryz.func75, Tryz.ntmps75
  go_wp2_with fail
  go_loopg [5, 8] n (fun gg _ s8 wr => ∃ kk : Nat, kk ≤ n ∧ n - kk ≤ gg ∧ s8 = .int .i64 kk ∧ Hid (Below w.heap.size w wr) ∧ Hid (∀ j, j < kk → p j = false))
  case atStart => exact ⟨0, Nat.zero_le _, by omega, rfl, Lib.hid (Below.refl _ w), Lib.hid fun j hj => absurd hj (Nat.not_lt_zero _)⟩
  case round =>
    obtain ⟨kk, hkk, hg, rfl, BW, AL⟩ := hrel
    by_cases hlt : kk < n
    · have hltz : (kk : Int) < (n : Int) := by omega
      obtain ⟨b, o, rfl, l2⟩ := HK.out wr BW.out kk hlt
      have hcall := HP.out wr kk BW.out hlt
      generalize hy : v kk = y at l2 hcall
      obtain ⟨a, rfl⟩ : ∃ a, y = .pointer (some a) := by rw [← hy]; exact hone kk hlt
      clear hy
      cases hq : p kk with
      | true =>
        rw [hq] at hcall
        have HC := Lib.hid hcall
        clear hcall
        have ANY : Hid ((List.range n).any p = true) := Lib.hid (by rw [anyR, decide_eq_true]; exact ⟨kk, hlt, hq⟩)
        clear hq
        go_wp2_with (go_at_fn g; refine HC.out.mono ?_; rintro e w' ⟨rfl, hb'⟩)
        go_ret
        exact ⟨_, rfl, by rw [ANY.out, decide_eq_true]; omega, BW.out.trans (hb'.mono BW.out.size)⟩
      | false =>
        rw [hq] at hcall
        have HC := Lib.hid hcall
        clear hcall
        have AL2 : Hid (∀ j, j < kk + 1 → p j = false) := Lib.hid fun j hj => by
          by_cases e : j = kk
          · rw [e]; exact hq
          · exact AL.out j (by omega)
        clear hq
        go_wp2_with (go_at_fn g; refine HC.out.mono ?_; rintro e w' ⟨rfl, hb'⟩)
        go_roundg (n - (kk + 1))
        case measure => omega
        case rel => exact ⟨kk + 1, by omega, by omega, by go_num, Lib.hid (BW.out.trans (hb'.mono BW.out.size)), AL2⟩
    · obtain rfl : kk = n := by omega
      have ANY : Hid ((List.range kk).any p = false) := Lib.hid (by
        rw [anyR, decide_eq_false]
        rintro ⟨j, hj, hp⟩
        rw [AL.out j hj] at hp
        cases hp)
      go_wp2_with fail
      go_ret
      exact ⟨_, rfl, by rw [ANY.out]; rfl, BW.out⟩
set_option maxHeartbeats 400000 in
theorem ContainsF_pi (g : Nat) (lb : Array Value) (eg : ∀ args w, (callFunc g args).run Tryz.prog w = .ok (.enter g args) w) (A : Option Addr) (n c : Nat) (v : Nat → Value) (p : Nat → Bool) (w : World) (hk : Known w A n v) (hone : ∀ j, j < n → ∃ a, v j = .pointer (some a)) (hp : PredOf Tryz.prog g lb w n v p) (hn : n ≤ 1000000) :
    Calls Tryz.prog 57 #[.slice A n c, .func (.func g) #[] lb] w fun e w' => e = .returned (.bool ((List.range n).any p)) ∧ Below w.heap.size w w' := by
  have HK := Lib.hid (IndexF_pi g lb eg A n c v p w hk hone hp hn)
  clear hk hp
  go_enter Tryz.func57, Tryz.ntmps57
  go_wp2_with (go_at_call 75; refine HK.out.mono ?_; rintro e w' ⟨i, rfl, hi, hb'⟩; have HI := Lib.hid hi; clear hi)
  go_ret
  exact ⟨by rw [← HI.out]; rfl, hb'⟩


set_option maxHeartbeats 2000000 in
theorem IndexF_ps (g : Nat) (lb : Array Value) (eg : ∀ args w, (callFunc g args).run Tryz.prog w = .ok (.enter g args) w) (A : Option Addr) (n c : Nat) (v : Nat → Value) (p : Nat → Bool) (w : World) (hk : Known w A n v) (hone : ∀ j, j < n → ∃ a, v j = .pointer (some a)) (hp : PredOf Tryz.prog g lb w n v p) (hn : n ≤ 1000000) :
    Calls Tryz.prog 76 #[.slice A n c, .func (.func g) #[] lb] w fun e w' => ∃ i : Int, e = .returned (.int .i64 i) ∧ decide (0 ≤ i) = (List.range n).any p ∧ Below w.heap.size w w' := by
  have HK := Lib.hid hk
  have HP : Hid (∀ W j, Below w.heap.size w W → j < n → Calls Tryz.prog g (#[v j] ++ lb) W fun e W' => e = .returned (.bool (p j)) ∧ Below W.heap.size W W') := Lib.hid hp
  clear hk hp
  go_enter Tryz.func76, Tryz.ntmps76
  go_wp2_with fail
  go_loopg [5, 8] n (fun gg _ s8 wr => ∃ kk : Nat, kk ≤ n ∧ n - kk ≤ gg ∧ s8 = .int .i64 kk ∧ Hid (Below w.heap.size w wr) ∧ Hid (∀ j, j < kk → p j = false))
  case atStart => exact ⟨0, Nat.zero_le _, by omega, rfl, Lib.hid (Below.refl _ w), Lib.hid fun j hj => absurd hj (Nat.not_lt_zero _)⟩
  case round =>
    obtain ⟨kk, hkk, hg, rfl, BW, AL⟩ := hrel
    by_cases hlt : kk < n
    · have hltz : (kk : Int) < (n : Int) := by omega
      obtain ⟨b, o, rfl, l2⟩ := HK.out wr BW.out kk hlt
      have hcall := HP.out wr kk BW.out hlt
      generalize hy : v kk = y at l2 hcall
      obtain ⟨a, rfl⟩ : ∃ a, y = .pointer (some a) := by rw [← hy]; exact hone kk hlt
      clear hy
      cases hq : p kk with
      | true =>
        rw [hq] at hcall
        have HC := Lib.hid hcall
        clear hcall
        have ANY : Hid ((List.range n).any p = true) := Lib.hid (by rw [anyR, decide_eq_true]; exact ⟨kk, hlt, hq⟩)
        clear hq
        go_wp2_with (go_at_fn g; refine HC.out.mono ?_; rintro e w' ⟨rfl, hb'⟩)
        go_ret
        exact ⟨_, rfl, by rw [ANY.out, decide_eq_true]; omega, BW.out.trans (hb'.mono BW.out.size)⟩
      | false =>
        rw [hq] at hcall
        have HC := Lib.hid hcall
        clear hcall
        have AL2 : Hid (∀ j, j < kk + 1 → p j = false) := Lib.hid fun j hj => by
          by_cases e : j = kk
          · rw [e]; exact hq
          · exact AL.out j (by omega)
        clear hq
        go_wp2_with (go_at_fn g; refine HC.out.mono ?_; rintro e w' ⟨rfl, hb'⟩)
        go_roundg (n - (kk + 1))
        case measure => omega
        case rel => exact ⟨kk + 1, by omega, by omega, by go_num, Lib.hid (BW.out.trans (hb'.mono BW.out.size)), AL2⟩
    · obtain rfl : kk = n := by omega
      have ANY : Hid ((List.range kk).any p = false) := Lib.hid (by
        rw [anyR, decide_eq_false]
        rintro ⟨j, hj, hp⟩
        rw [AL.out j hj] at hp
        cases hp)
      go_wp2_with fail
      go_ret
      exact ⟨_, rfl, by rw [ANY.out]; rfl, BW.out⟩
set_option maxHeartbeats 400000 in
theorem ContainsF_ps (g : Nat) (lb : Array Value) (eg : ∀ args w, (callFunc g args).run Tryz.prog w = .ok (.enter g args) w) (A : Option Addr) (n c : Nat) (v : Nat → Value) (p : Nat → Bool) (w : World) (hk : Known w A n v) (hone : ∀ j, j < n → ∃ a, v j = .pointer (some a)) (hp : PredOf Tryz.prog g lb w n v p) (hn : n ≤ 1000000) :
    Calls Tryz.prog 58 #[.slice A n c, .func (.func g) #[] lb] w fun e w' => e = .returned (.bool ((List.range n).any p)) ∧ Below w.heap.size w w' := by
  have HK := Lib.hid (IndexF_ps g lb eg A n c v p w hk hone hp hn)
  clear hk hp
  go_enter Tryz.func58, Tryz.ntmps58
  go_wp2_with (go_at_call 76; refine HK.out.mono ?_; rintro e w' ⟨i, rfl, hi, hb'⟩; have HI := Lib.hid hi; clear hi)
  go_ret
  exact ⟨by rw [← HI.out]; rfl, hb'⟩


set_option maxHeartbeats 2000000 in
theorem IndexF_s (g : Nat) (lb : Array Value) (eg : ∀ args w, (callFunc g args).run Tryz.prog w = .ok (.enter g args) w) (A : Option Addr) (n c : Nat) (v : Nat → Value) (p : Nat → Bool) (w : World) (hk : Known w A n v) (hone : ∀ j, j < n → ∃ a, v j = .string a) (hp : PredOf Tryz.prog g lb w n v p) (hn : n ≤ 1000000) :
    Calls Tryz.prog 83 #[.slice A n c, .func (.func g) #[] lb] w fun e w' => ∃ i : Int, e = .returned (.int .i64 i) ∧ decide (0 ≤ i) = (List.range n).any p ∧ Below w.heap.size w w' := by
  have HK := Lib.hid hk
  have HP : Hid (∀ W j, Below w.heap.size w W → j < n → Calls Tryz.prog g (#[v j] ++ lb) W fun e W' => e = .returned (.bool (p j)) ∧ Below W.heap.size W W') := Lib.hid hp
  clear hk hp
  go_enter Tryz.func83, Tryz.ntmps83
  go_wp2_with fail
  go_loopg [5, 8] n (fun gg _ s8 wr => ∃ kk : Nat, kk ≤ n ∧ n - kk ≤ gg ∧ s8 = .int .i64 kk ∧ Hid (Below w.heap.size w wr) ∧ Hid (∀ j, j < kk → p j = false))
  case atStart => exact ⟨0, Nat.zero_le _, by omega, rfl, Lib.hid (Below.refl _ w), Lib.hid fun j hj => absurd hj (Nat.not_lt_zero _)⟩
  case round =>
    obtain ⟨kk, hkk, hg, rfl, BW, AL⟩ := hrel
    by_cases hlt : kk < n
    · have hltz : (kk : Int) < (n : Int) := by omega
      obtain ⟨b, o, rfl, l2⟩ := HK.out wr BW.out kk hlt
      have hcall := HP.out wr kk BW.out hlt
      generalize hy : v kk = y at l2 hcall
      obtain ⟨a, rfl⟩ : ∃ a, y = .string a := by rw [← hy]; exact hone kk hlt
      clear hy
      cases hq : p kk with
      | true =>
        rw [hq] at hcall
        have HC := Lib.hid hcall
        clear hcall
        have ANY : Hid ((List.range n).any p = true) := Lib.hid (by rw [anyR, decide_eq_true]; exact ⟨kk, hlt, hq⟩)
        clear hq
        go_wp2_with (go_at_fn g; refine HC.out.mono ?_; rintro e w' ⟨rfl, hb'⟩)
        go_ret
        exact ⟨_, rfl, by rw [ANY.out, decide_eq_true]; omega, BW.out.trans (hb'.mono BW.out.size)⟩
      | false =>
        rw [hq] at hcall
        have HC := Lib.hid hcall
        clear hcall
        have AL2 : Hid (∀ j, j < kk + 1 → p j = false) := Lib.hid fun j hj => by
          by_cases e : j = kk
          · rw [e]; exact hq
          · exact AL.out j (by omega)
        clear hq
        go_wp2_with (go_at_fn g; refine HC.out.mono ?_; rintro e w' ⟨rfl, hb'⟩)
        go_roundg (n - (kk + 1))
        case measure => omega
        case rel => exact ⟨kk + 1, by omega, by omega, by go_num, Lib.hid (BW.out.trans (hb'.mono BW.out.size)), AL2⟩
    · obtain rfl : kk = n := by omega
      have ANY : Hid ((List.range kk).any p = false) := Lib.hid (by
        rw [anyR, decide_eq_false]
        rintro ⟨j, hj, hp⟩
        rw [AL.out j hj] at hp
        cases hp)
      go_wp2_with fail
      go_ret
      exact ⟨_, rfl, by rw [ANY.out]; rfl, BW.out⟩
set_option maxHeartbeats 400000 in
theorem ContainsF_s (g : Nat) (lb : Array Value) (eg : ∀ args w, (callFunc g args).run Tryz.prog w = .ok (.enter g args) w) (A : Option Addr) (n c : Nat) (v : Nat → Value) (p : Nat → Bool) (w : World) (hk : Known w A n v) (hone : ∀ j, j < n → ∃ a, v j = .string a) (hp : PredOf Tryz.prog g lb w n v p) (hn : n ≤ 1000000) :
    Calls Tryz.prog 77 #[.slice A n c, .func (.func g) #[] lb] w fun e w' => e = .returned (.bool ((List.range n).any p)) ∧ Below w.heap.size w w' := by
  have HK := Lib.hid (IndexF_s g lb eg A n c v p w hk hone hp hn)
  clear hk hp
  go_enter Tryz.func77, Tryz.ntmps77
  go_wp2_with (go_at_call 83; refine HK.out.mono ?_; rintro e w' ⟨i, rfl, hi, hb'⟩; have HI := Lib.hid hi; clear hi)
  go_ret
  exact ⟨by rw [← HI.out]; rfl, hb'⟩


set_option maxHeartbeats 2000000 in
theorem IndexF_i (g : Nat) (lb : Array Value) (eg : ∀ args w, (callFunc g args).run Tryz.prog w = .ok (.enter g args) w) (A : Option Addr) (n c : Nat) (v : Nat → Value) (p : Nat → Bool) (w : World) (hk : Known w A n v) (hone : ∀ j, j < n → ∃ a, v j = .int .i64 a) (hp : PredOf Tryz.prog g lb w n v p) (hn : n ≤ 1000000) :
    Calls Tryz.prog 84 #[.slice A n c, .func (.func g) #[] lb] w fun e w' => ∃ i : Int, e = .returned (.int .i64 i) ∧ decide (0 ≤ i) = (List.range n).any p ∧ Below w.heap.size w w' := by
  have HK := Lib.hid hk
  have HP : Hid (∀ W j, Below w.heap.size w W → j < n → Calls Tryz.prog g (#[v j] ++ lb) W fun e W' => e = .returned (.bool (p j)) ∧ Below W.heap.size W W') := Lib.hid hp
  clear hk hp
  go_enter Tryz.func84, Tryz.ntmps84
  go_wp2_with fail
  go_loopg [5, 8] n (fun gg _ s8 wr => ∃ kk : Nat, kk ≤ n ∧ n - kk ≤ gg ∧ s8 = .int .i64 kk ∧ Hid (Below w.heap.size w wr) ∧ Hid (∀ j, j < kk → p j = false))
  case atStart => exact ⟨0, Nat.zero_le _, by omega, rfl, Lib.hid (Below.refl _ w), Lib.hid fun j hj => absurd hj (Nat.not_lt_zero _)⟩
  case round =>
    obtain ⟨kk, hkk, hg, rfl, BW, AL⟩ := hrel
    by_cases hlt : kk < n
    · have hltz : (kk : Int) < (n : Int) := by omega
      obtain ⟨b, o, rfl, l2⟩ := HK.out wr BW.out kk hlt
      have hcall := HP.out wr kk BW.out hlt
      generalize hy : v kk = y at l2 hcall
      obtain ⟨a, rfl⟩ : ∃ a, y = .int .i64 a := by rw [← hy]; exact hone kk hlt
      clear hy
      cases hq : p kk with
      | true =>
        rw [hq] at hcall
        have HC := Lib.hid hcall
        clear hcall
        have ANY : Hid ((List.range n).any p = true) := Lib.hid (by rw [anyR, decide_eq_true]; exact ⟨kk, hlt, hq⟩)
        clear hq
        go_wp2_with (go_at_fn g; refine HC.out.mono ?_; rintro e w' ⟨rfl, hb'⟩)
        go_ret
        exact ⟨_, rfl, by rw [ANY.out, decide_eq_true]; omega, BW.out.trans (hb'.mono BW.out.size)⟩
      | false =>
        rw [hq] at hcall
        have HC := Lib.hid hcall
        clear hcall
        have AL2 : Hid (∀ j, j < kk + 1 → p j = false) := Lib.hid fun j hj => by
          by_cases e : j = kk
          · rw [e]; exact hq
          · exact AL.out j (by omega)
        clear hq
        go_wp2_with (go_at_fn g; refine HC.out.mono ?_; rintro e w' ⟨rfl, hb'⟩)
        go_roundg (n - (kk + 1))
        case measure => omega
        case rel => exact ⟨kk + 1, by omega, by omega, by go_num, Lib.hid (BW.out.trans (hb'.mono BW.out.size)), AL2⟩
    · obtain rfl : kk = n := by omega
      have ANY : Hid ((List.range kk).any p = false) := Lib.hid (by
        rw [anyR, decide_eq_false]
        rintro ⟨j, hj, hp⟩
        rw [AL.out j hj] at hp
        cases hp)
      go_wp2_with fail
      go_ret
      exact ⟨_, rfl, by rw [ANY.out]; rfl, BW.out⟩
set_option maxHeartbeats 400000 in
theorem ContainsF_i (g : Nat) (lb : Array Value) (eg : ∀ args w, (callFunc g args).run Tryz.prog w = .ok (.enter g args) w) (A : Option Addr) (n c : Nat) (v : Nat → Value) (p : Nat → Bool) (w : World) (hk : Known w A n v) (hone : ∀ j, j < n → ∃ a, v j = .int .i64 a) (hp : PredOf Tryz.prog g lb w n v p) (hn : n ≤ 1000000) :
    Calls Tryz.prog 79 #[.slice A n c, .func (.func g) #[] lb] w fun e w' => e = .returned (.bool ((List.range n).any p)) ∧ Below w.heap.size w w' := by
  have HK := Lib.hid (IndexF_i g lb eg A n c v p w hk hone hp hn)
  clear hk hp
  go_enter Tryz.func79, Tryz.ntmps79
  go_wp2_with (go_at_call 84; refine HK.out.mono ?_; rintro e w' ⟨i, rfl, hi, hb'⟩; have HI := Lib.hid hi; clear hi)
  go_ret
  exact ⟨by rw [← HI.out]; rfl, hb'⟩


set_option maxHeartbeats 400000 in
theorem AllNot_s (a : ByteArray) (g m : Nat) (q : Bool) (w : World) (eg : ∀ args w, (callFunc g args).run Tryz.prog w = .ok (.enter g args) w) (hm : Blk w m 127 #[.func (.func g) #[] #[]])
    (hp : Calls Tryz.prog g #[.string a] w fun e W' => e = .returned (.bool q) ∧ Below w.heap.size w W') :
    Calls Tryz.prog 78 #[.string a, .pointer (some ⟨m, 0, none⟩)] w fun e W' => e = .returned (.bool (!q)) ∧ Below w.heap.size w W' := by
  have c0 := hm.cell 0
  simp at c0
  have HP := Lib.hid hp
  clear hp hm
  go_enter Tryz.func78, Tryz.ntmps78
  go_wp2_with (go_at_fn g; refine HP.out.mono ?_; rintro e w' ⟨rfl, hb'⟩)
  go_ret
  exact ⟨rfl, hb'⟩
set_option maxHeartbeats 800000 in
theorem All_s (g : Nat) (eg : ∀ args w, (callFunc g args).run Tryz.prog w = .ok (.enter g args) w) (A : Option Addr) (n c : Nat) (v : Nat → Value) (p : Nat → Bool) (w : World) (hk : Known w A n v) (hone : ∀ j, j < n → ∃ a, v j = .string a) (hn : n ≤ 1000000)
    (hp : ∀ W j, Below w.heap.size w W → j < n → Calls Tryz.prog g #[v j] W fun e W' => e = .returned (.bool (p j)) ∧ Below W.heap.size W W') :
    Calls Tryz.prog 59 #[.slice A n c, .func (.func g) #[] #[]] w fun e w' => e = .returned (.bool ((List.range n).all p)) ∧ Below w.heap.size w w' := by
  have hb0 : Below w.heap.size w (w.alloc (.cells #[.func (.func g) #[] #[]] 127)) := (Below.refl _ _).alloc (Nat.le_refl _) _
  have HC := Lib.hid (ContainsF_s 78 #[.pointer (some ⟨w.heap.size, 0, none⟩)] (by intro args w; kernel_rfl) A n c v (fun j => !(p j)) (w.alloc (.cells #[.func (.func g) #[] #[]] 127)) (fun W hW => hk W (hb0.trans (hW.mono hb0.size))) hone (fun W j hW hj => by
    obtain ⟨a, ha⟩ := hone j hj
    have h1 := hp W j (hb0.trans (hW.mono hb0.size)) hj
    have hB : Blk W w.heap.size 127 #[.func (.func g) #[] #[]] := (Blk.fresh w _ _).below hW (by simp)
    rw [ha] at h1 ⊢
    exact AllNot_s a g w.heap.size (p j) W eg hB h1) hn)
  have HB := Lib.hid hb0
  have e : (!(List.range n).any fun j => !(p j)) = (List.range n).all p := by rw [List.not_any_eq_all_not]; simp
  have E := Lib.hid e
  clear hk hp hb0 e
  go_enter Tryz.func59, Tryz.ntmps59
  go_wp2_with (go_at_call 77; refine HC.out.mono ?_; rintro e w' ⟨rfl, hb'⟩)
  go_ret
  exact ⟨by rw [← E.out]; rfl, HB.out.trans (hb'.mono HB.out.size)⟩


set_option maxHeartbeats 400000 in
theorem AllNot_i (a : Int) (g m : Nat) (q : Bool) (w : World) (eg : ∀ args w, (callFunc g args).run Tryz.prog w = .ok (.enter g args) w) (hm : Blk w m 125 #[.func (.func g) #[] #[]])
    (hp : Calls Tryz.prog g #[.int .i64 a] w fun e W' => e = .returned (.bool q) ∧ Below w.heap.size w W') :
    Calls Tryz.prog 80 #[.int .i64 a, .pointer (some ⟨m, 0, none⟩)] w fun e W' => e = .returned (.bool (!q)) ∧ Below w.heap.size w W' := by
  have c0 := hm.cell 0
  simp at c0
  have HP := Lib.hid hp
  clear hp hm
  go_enter Tryz.func80, Tryz.ntmps80
  go_wp2_with (go_at_fn g; refine HP.out.mono ?_; rintro e w' ⟨rfl, hb'⟩)
  go_ret
  exact ⟨rfl, hb'⟩
set_option maxHeartbeats 800000 in
theorem All_i (g : Nat) (eg : ∀ args w, (callFunc g args).run Tryz.prog w = .ok (.enter g args) w) (A : Option Addr) (n c : Nat) (v : Nat → Value) (p : Nat → Bool) (w : World) (hk : Known w A n v) (hone : ∀ j, j < n → ∃ a, v j = .int .i64 a) (hn : n ≤ 1000000)
    (hp : ∀ W j, Below w.heap.size w W → j < n → Calls Tryz.prog g #[v j] W fun e W' => e = .returned (.bool (p j)) ∧ Below W.heap.size W W') :
    Calls Tryz.prog 66 #[.slice A n c, .func (.func g) #[] #[]] w fun e w' => e = .returned (.bool ((List.range n).all p)) ∧ Below w.heap.size w w' := by
  have hb0 : Below w.heap.size w (w.alloc (.cells #[.func (.func g) #[] #[]] 125)) := (Below.refl _ _).alloc (Nat.le_refl _) _
  have HC := Lib.hid (ContainsF_i 80 #[.pointer (some ⟨w.heap.size, 0, none⟩)] (by intro args w; kernel_rfl) A n c v (fun j => !(p j)) (w.alloc (.cells #[.func (.func g) #[] #[]] 125)) (fun W hW => hk W (hb0.trans (hW.mono hb0.size))) hone (fun W j hW hj => by
    obtain ⟨a, ha⟩ := hone j hj
    have h1 := hp W j (hb0.trans (hW.mono hb0.size)) hj
    have hB : Blk W w.heap.size 125 #[.func (.func g) #[] #[]] := (Blk.fresh w _ _).below hW (by simp)
    rw [ha] at h1 ⊢
    exact AllNot_i a g w.heap.size (p j) W eg hB h1) hn)
  have HB := Lib.hid hb0
  have e : (!(List.range n).any fun j => !(p j)) = (List.range n).all p := by rw [List.not_any_eq_all_not]; simp
  have E := Lib.hid e
  clear hk hp hb0 e
  go_enter Tryz.func66, Tryz.ntmps66
  go_wp2_with (go_at_call 79; refine HC.out.mono ?_; rintro e w' ⟨rfl, hb'⟩)
  go_ret
  exact ⟨by rw [← E.out]; rfl, HB.out.trans (hb'.mono HB.out.size)⟩


set_option maxHeartbeats 400000 in
theorem Right1_any (ad : Addr) (x : Int) (w : World) (h : w.cell? ad = some (.int .i64 x)) : Calls Tryz.prog 53 #[.pointer (some ad)] w fun e w' => e = .returned (.bool (!(fitB x))) ∧ Below w.heap.size w w' := by
  go_enter Tryz.func53, Tryz.ntmps53
  go_wp2_with (go_at_call 54; refine (fits_any x _).mono ?_; rintro e w' ⟨rfl, rfl⟩)
  go_ret
  exact ⟨rfl, Below.refl _ _⟩
set_option maxHeartbeats 400000 in
theorem Right2_any (ad : Addr) (s : ByteArray) (w : World) (h : w.cell? ad = some (.string s)) : Calls Tryz.prog 55 #[.pointer (some ad)] w fun e w' => e = .returned (.bool (!(decide (s.size ≤ 256)))) ∧ Below w.heap.size w w' := by
  go_enter Tryz.func55, Tryz.ntmps55
  go_wp2_with (go_at_call 56; refine (short_any s _).mono ?_; rintro e w' ⟨rfl, rfl⟩)
  go_ret
  exact ⟨rfl, Below.refl _ _⟩

end Go.Proofs.YtkdncnhjlgidnaaGreatDoor
