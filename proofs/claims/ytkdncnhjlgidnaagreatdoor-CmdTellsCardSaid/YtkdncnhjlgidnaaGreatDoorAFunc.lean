/- What is proved here: slices.IndexFunc, slices.ContainsFunc and cmd.all at messages, and which message may be written. -/
import Derived.Test.YtkdncnhjlgidnaaGreatDoorAMod
namespace Go.Proofs.YtkdncnhjlgidnaaGreatDoor
open Go Go.RowKit


set_option maxHeartbeats 2000000 in
theorem IndexF_k (g : Nat) (lb : Array Value) (eg : ∀ args w, (callFunc g args).run Tryz.prog w = .ok (.enter g args) w) (A : Option Addr) (n c : Nat) (L : List TK) (p : Nat → Bool) (w : World) (hk : KRd w w.heap.size A n c L) (hp : PredOf Tryz.prog g lb w n (fun j => .agg (L.getD j TK.zero).cells) p) (hn : n ≤ 1000000) :
    Calls Tryz.prog 85 #[.slice A n c, .func (.func g) #[] lb] w fun e w' => ∃ i : Int, e = .returned (.int .i64 i) ∧ decide (0 ≤ i) = (List.range n).any p ∧ Below w.heap.size w w' := by
  have HK := Lib.hid hk
  have HP : Hid (∀ W j, Below w.heap.size w W → j < n → Calls Tryz.prog g (#[.agg (L.getD j TK.zero).cells] ++ lb) W fun e W' => e = .returned (.bool (p j)) ∧ Below W.heap.size W W') := Lib.hid hp
  clear hk hp
  go_enter Tryz.func85, Tryz.ntmps85
  go_wp2_with fail
  go_loopg [5, 8] n (fun gg _ s8 wr => ∃ kk : Nat, kk ≤ n ∧ n - kk ≤ gg ∧ s8 = .int .i64 kk ∧ Hid (Below w.heap.size w wr) ∧ Hid (∀ j, j < kk → p j = false))
  case atStart => exact ⟨0, Nat.zero_le _, by omega, rfl, Lib.hid (Below.refl _ w), Lib.hid fun j hj => absurd hj (Nat.not_lt_zero _)⟩
  case round =>
    obtain ⟨kk, hkk, hg, rfl, BW, AL⟩ := hrel
    by_cases hlt : kk < n
    · have hltz : (kk : Int) < (n : Int) := by omega
      obtain ⟨b, o, rfl, _, l0, l1, l2, l3, l4⟩ := (HK.out.below BW.out).cell hlt
      have hcall := HP.out wr kk BW.out hlt
      unfold TK.cells at hcall
      generalize (L.getD kk TK.zero).id = x0 at *
      generalize (L.getD kk TK.zero).ct = x1 at *
      generalize (L.getD kk TK.zero).rc = x2 at *
      generalize (L.getD kk TK.zero).bd = x3 at *
      generalize (L.getD kk TK.zero).gr = x4 at *
      cases hq : p kk with
      | true =>
        rw [hq] at hcall
        have HC := Lib.hid hcall
        clear hcall
        have ANY : Hid ((List.range n).any p = true) := Lib.hid (by rw [anyR, decide_eq_true]; exact ⟨kk, hlt, hq⟩)
        clear hq
        go_wp2_with (go_at_fn g; refine HC.out.mono ?_; rintro e w' ⟨rfl, hb'⟩)
        go_ret
        exact ⟨_, rfl, by rw [ANY.out, decide_eq_true]; omega, BW.out.trans (hb'.mono BW.out.size)⟩
      | false =>
        rw [hq] at hcall
        have HC := Lib.hid hcall
        clear hcall
        have AL2 : Hid (∀ j, j < kk + 1 → p j = false) := Lib.hid fun j hj => by
          by_cases e : j = kk
          · rw [e]; exact hq
          · exact AL.out j (by omega)
        clear hq
        go_wp2_with (go_at_fn g; refine HC.out.mono ?_; rintro e w' ⟨rfl, hb'⟩)
        go_roundg (n - (kk + 1))
        case measure => omega
        case rel => exact ⟨kk + 1, by omega, by omega, by go_num, Lib.hid (BW.out.trans (hb'.mono BW.out.size)), AL2⟩
    · obtain rfl : kk = n := by omega
      have ANY : Hid ((List.range kk).any p = false) := Lib.hid (by
        rw [anyR, decide_eq_false]
        rintro ⟨j, hj, hp⟩
        rw [AL.out j hj] at hp
        cases hp)
      go_wp2_with fail
      go_ret
      exact ⟨_, rfl, by rw [ANY.out]; rfl, BW.out⟩
set_option maxHeartbeats 400000 in
theorem ContainsF_k (g : Nat) (lb : Array Value) (eg : ∀ args w, (callFunc g args).run Tryz.prog w = .ok (.enter g args) w) (A : Option Addr) (n c : Nat) (L : List TK) (p : Nat → Bool) (w : World) (hk : KRd w w.heap.size A n c L) (hp : PredOf Tryz.prog g lb w n (fun j => .agg (L.getD j TK.zero).cells) p) (hn : n ≤ 1000000) :
    Calls Tryz.prog 81 #[.slice A n c, .func (.func g) #[] lb] w fun e w' => e = .returned (.bool ((List.range n).any p)) ∧ Below w.heap.size w w' := by
  have HK := Lib.hid (IndexF_k g lb eg A n c L p w hk hp hn)
  clear hk hp
  go_enter Tryz.func81, Tryz.ntmps81
  go_wp2_with (go_at_call 85; refine HK.out.mono ?_; rintro e w' ⟨i, rfl, hi, hb'⟩; have HI := Lib.hid hi; clear hi)
  go_ret
  exact ⟨by rw [← HI.out]; rfl, hb'⟩


set_option maxHeartbeats 400000 in
theorem AllNot_k (a : TK) (g m : Nat) (q : Bool) (w : World) (eg : ∀ args w, (callFunc g args).run Tryz.prog w = .ok (.enter g args) w) (hm : Blk w m 137 #[.func (.func g) #[] #[]])
    (hp : ∀ W, Below w.heap.size w W → Calls Tryz.prog g #[.agg a.cells] W fun e W' => e = .returned (.bool q) ∧ Below W.heap.size W W') :
    Calls Tryz.prog 82 #[.agg a.cells, .pointer (some ⟨m, 0, none⟩)] w fun e W' => e = .returned (.bool (!q)) ∧ Below w.heap.size w W' := by
  have c0 := hm.cell 0
  simp at c0
  have hlt : m < w.heap.size := hm.lt
  have HP := Lib.hid (hp _ ((Below.refl w.heap.size w).alloc (Nat.le_refl _) (.cells a.cells 59)))
  have HB0 := Lib.hid ((Below.refl w.heap.size w).alloc (Nat.le_refl _) (.cells a.cells 59))
  clear hp hm
  unfold TK.cells at *
  go_enter Tryz.func82, Tryz.ntmps82
  go_wp2_with (go_at_fn g; refine HP.out.mono ?_; rintro e w' ⟨rfl, hb'⟩)
  go_ret
  exact ⟨rfl, HB0.out.trans (hb'.mono HB0.out.size)⟩
set_option maxHeartbeats 800000 in
theorem All_k (g : Nat) (eg : ∀ args w, (callFunc g args).run Tryz.prog w = .ok (.enter g args) w) (A : Option Addr) (n c : Nat) (L : List TK) (p : Nat → Bool) (w : World) (hk : KRd w w.heap.size A n c L) (hn : n ≤ 1000000)
    (hp : ∀ W j, Below w.heap.size w W → j < n → Calls Tryz.prog g #[.agg (L.getD j TK.zero).cells] W fun e W' => e = .returned (.bool (p j)) ∧ Below W.heap.size W W') :
    Calls Tryz.prog 67 #[.slice A n c, .func (.func g) #[] #[]] w fun e w' => e = .returned (.bool ((List.range n).all p)) ∧ Below w.heap.size w w' := by
  have hb0 : Below w.heap.size w (w.alloc (.cells #[.func (.func g) #[] #[]] 137)) := (Below.refl _ _).alloc (Nat.le_refl _) _
  have HC := Lib.hid (ContainsF_k 82 #[.pointer (some ⟨w.heap.size, 0, none⟩)] (by intro args w; kernel_rfl) A n c L (fun j => !(p j)) (w.alloc (.cells #[.func (.func g) #[] #[]] 137)) (hk.later hb0) (fun W j hW hj => by
    have h1 := fun W2 (hW2 : Below W.heap.size W W2) => hp W2 j ((hb0.trans (hW.mono hb0.size)).trans (hW2.mono (Nat.le_trans hb0.size hW.size))) hj
    have hB : Blk W w.heap.size 137 #[.func (.func g) #[] #[]] := (Blk.fresh w _ _).below hW (by simp)
    exact AllNot_k (L.getD j TK.zero) g w.heap.size (p j) W eg hB h1) hn)
  have HB := Lib.hid hb0
  have e : (!(List.range n).any fun j => !(p j)) = (List.range n).all p := by rw [List.not_any_eq_all_not]; simp
  have E := Lib.hid e
  clear hk hp hb0 e
  go_enter Tryz.func67, Tryz.ntmps67
  go_wp2_with (go_at_call 81; refine HC.out.mono ?_; rintro e w' ⟨rfl, hb'⟩)
  go_ret
  exact ⟨by rw [← E.out]; rfl, HB.out.trans (hb'.mono HB.out.size)⟩


set_option maxHeartbeats 800000 in
theorem fine_any (x : TK) (w : World) : Calls Tryz.prog 65 #[.agg x.cells] w fun e w' => e = .returned (.bool x.fine) ∧ Below w.heap.size w w' := by
  unfold TK.cells TK.fine
  cases h1 : fitB x.id <;> cases h2 : fitB x.ct <;> cases h3 : decide (x.rc.size ≤ 256) <;> cases h4 : decide (x.bd.size ≤ 256) <;> cases h5 : decide (x.gr.size ≤ 256)
  all_goals
    have F1 := Lib.hid (fits_any x.id); have F2 := Lib.hid (fits_any x.ct); have S1 := Lib.hid (short_any x.rc); have S2 := Lib.hid (short_any x.bd); have S3 := Lib.hid (short_any x.gr)
    rw [h1] at F1
    rw [h2] at F2
    rw [h3] at S1
    rw [h4] at S2
    rw [h5] at S3
    clear h1 h2 h3 h4 h5
    generalize x.id = x0 at *
    generalize x.ct = x1 at *
    generalize x.rc = x2 at *
    generalize x.bd = x3 at *
    generalize x.gr = x4 at *
    go_enter Tryz.func65, Tryz.ntmps65
    go_wp2_with (first
      | (go_at_call 54; with_reducible refine (F1.out _).mono ?_; rintro e w' ⟨rfl, rfl⟩)
      | (go_at_call 54; with_reducible refine (F2.out _).mono ?_; rintro e w' ⟨rfl, rfl⟩)
      | (go_at_call 56; with_reducible refine (S1.out _).mono ?_; rintro e w' ⟨rfl, rfl⟩)
      | (go_at_call 56; with_reducible refine (S2.out _).mono ?_; rintro e w' ⟨rfl, rfl⟩)
      | (go_at_call 56; with_reducible refine (S3.out _).mono ?_; rintro e w' ⟨rfl, rfl⟩))
    go_ret
    exact ⟨rfl, by first | exact Below.refl _ _ | exact (Below.refl _ _).alloc (Nat.le_refl _) _⟩
end Go.Proofs.YtkdncnhjlgidnaaGreatDoor
