/- What is proved here: the calls of a log that is new since a world. -/
/- What is proved here: 'WalFull' returns true at all arguments. -/
import Derived.Test.YtnomicnmpllajaaGreatDoorPFu20
section
namespace Go.Proofs.YtnomicnmpllajaaGreatDoor
open Go Go.RowKit

section
variable {w W : World} {lb d : Nat} {R : Int} {S : List RF} {M : LogM} {G : List SegR} {st : Nat}
theorem Rd.blk {B : Nat} {k : IntKind} {A : Option Addr} {n c : Nat} {xs : List Int} (h : Rd w B k A n c xs) : ∀ a, A = some a → 0 < n → a.block < B := fun a e hn => by
  obtain ⟨b', o', e', hb, _⟩ := h.cell (j := 0) hn
  rw [e] at e'
  cases e'
  exact hb
theorem cell_heap {w w' : World} {q : Nat} (h : w'.heap[q]? = w.heap[q]?) (i : Nat) : w'.cell? ⟨q, i, none⟩ = w.cell? ⟨q, i, none⟩ := by
  unfold World.cell?
  simp only [h]
/-- The same beside a box of the caller's own, at the block q. -/
def LQ (w : World) (q lb d : Nat) (R : Int) (S : List RF) (M : LogM) (W : World) : Prop := (∃ V, WPair w (fun k => k < w.heap.size ∨ k = q) lb d R S M V W) ∧ q < W.heap.size
/-- The box of one world in another one. -/
def BoxIs (q : Nat) (W w' : World) : Prop := ∀ i, w'.cell? ⟨q, i, none⟩ = W.cell? ⟨q, i, none⟩
variable {q : Nat}
theorem LQ.lt (h : LQ w q lb d R S M W) : ∀ k, (k < w.heap.size ∨ k = q) → k < W.heap.size := fun k hk => by
  obtain ⟨⟨V, h⟩, hq⟩ := h
  rcases hk with hk | rfl
  · exact Nat.lt_of_lt_of_le hk h.below.size
  · exact hq
theorem LQ.below (h : LQ w q lb d R S M W) : Below w.heap.size w W := by
  obtain ⟨⟨V, h⟩, _⟩ := h
  exact h.below
theorem LQ.lw (h : LQ w q lb d R S M W) : LW w lb d R S M W := by
  obtain ⟨⟨V, h⟩, _⟩ := h
  exact ⟨V, h.keepK fun _ _ hk => .inl hk⟩
theorem LQ.later (h : LQ w q lb d R S M W) {W' : World} (hb : Below W.heap.size W W') : LQ w q lb d R S M W' ∧ BoxIs q W W' := by
  obtain ⟨⟨V, h⟩, hq⟩ := h
  exact ⟨⟨⟨V, h.later hb⟩, Nat.lt_of_lt_of_le hq hb.size⟩, fun i => cell_heap (hb.block q hq) i⟩
theorem LW.box (h : LW w lb d R S M W) (o : Obj) : LQ w W.heap.size lb d R S M (W.alloc o) := by
  obtain ⟨V, h1, h2⟩ := h.lit o
  exact ⟨⟨V, h1⟩, h2 _ (.inr rfl)⟩
theorem LSaid.lq {S' : List RF} {M' : LogM} {r : Int} {e : Ending} {w' : World} (h : LSaid w (fun k => k < w.heap.size ∨ k = q) lb d R S' M' r W e w') (hq : q < W.heap.size) : e = .returned (.int .i64 r) ∧ LQ w q lb d R S' M' w' ∧ BoxIs q W w' := by
  obtain ⟨h1, h2⟩ := h
  obtain ⟨V', h3, h4⟩ := h2.out
  exact ⟨h1, ⟨⟨V', h3⟩, Nat.lt_of_lt_of_le hq h4.2⟩, fun i => cell_heap (h4.1 q (.inr rfl)) i⟩
theorem LQ.append (h : LQ w q lb d R S M W) (hL : LI S M G st) (ht : Tab w) {A : Option Addr} {n c : Nat} {xs : List Int} (hr : Rd w w.heap.size .u8 A n c xs) (hx : ∀ x ∈ xs, 0 ≤ x ∧ x < 256) (hm : M.last + 1 < 900000) (hf : fitsA R S xs) :
    Calls Tryz.prog 24 #[.pointer (some ⟨lb, 0, none⟩), .slice A n c] W fun e w' => e = .returned (.int .i64 0) ∧ LQ w q lb d R (stepA S M xs).1 (stepA S M xs).2 w' ∧ BoxIs q W w' := by
  have hb := h.below
  have hlt := h.lt
  obtain ⟨⟨V, h⟩, hq⟩ := h
  exact (Append_li h hL hlt ht ((hr.below hb).more hb.size) hx (fun a e hn => .inl (hr.blk a e hn)) hm hf).mono fun e w' h1 => h1.lq hq
theorem LQ.append_no (h : LQ w q lb d R S M W) (hL : LI S M G st) (ht : Tab w) {A : Option Addr} {n c : Nat} {xs : List Int} (hr : Rd w w.heap.size .u8 A n c xs) (hx : ∀ x ∈ xs, 0 ≤ x ∧ x < 256) (hm : M.last + 1 < 900000) (hf : ¬ fitsA R S xs) :
    Calls Tryz.prog 24 #[.pointer (some ⟨lb, 0, none⟩), .slice A n c] W fun e w' => e = .returned (.int .i64 5) ∧ LQ w q lb d R S M w' ∧ BoxIs q W w' := by
  have hb := h.below
  have hlt := h.lt
  obtain ⟨⟨V, h⟩, hq⟩ := h
  exact (Append_li_no h hL hlt ht ((hr.below hb).more hb.size) hx (fun a e hn => .inl (hr.blk a e hn)) hm hf).mono fun e w' h1 => h1.lq hq
theorem LQ.sync (h : LQ w q lb d R S M W) (hL : LI S M G st) (ht : Tab w) : Calls Tryz.prog 25 #[.pointer (some ⟨lb, 0, none⟩)] W fun e w' => e = .returned (.int .i64 0) ∧ LQ w q lb d R (stepS S M).1 (stepS S M).2 w' ∧ BoxIs q W w' := by
  have hlt := h.lt
  obtain ⟨⟨V, h⟩, hq⟩ := h
  exact (Sync_li h hL hlt ht).mono fun e w' h1 => h1.lq hq
theorem LQ.snap (h : LQ w q lb d R S M W) (hL : LI S M G st) (ht : Tab w) {A : Option Addr} {n c : Nat} {xs : List Int} (hr : Rd w w.heap.size .u8 A n c xs) (hx : ∀ x ∈ xs, 0 ≤ x ∧ x < 256) {k : Nat} (hk1 : M.base ≤ k) (hk2 : k ≤ M.synced) (hf : fitsN R S k xs) :
    Calls Tryz.prog 29 #[.pointer (some ⟨lb, 0, none⟩), .int .i64 k, .slice A n c] W fun e w' => e = .returned (.int .i64 0) ∧ LQ w q lb d R (stepP S M k xs).1 (stepP S M k xs).2 w' ∧ BoxIs q W w' := by
  have hb := h.below
  have hlt := h.lt
  obtain ⟨⟨V, h⟩, hq⟩ := h
  exact (Snap_li h hL hlt ht ((hr.below hb).more hb.size) hx (fun a e hn => .inl (hr.blk a e hn)) hk1 hk2 hf).mono fun e w' h1 => h1.lq hq
theorem LQ.snap_no (h : LQ w q lb d R S M W) (hL : LI S M G st) {A : Option Addr} {n c : Nat} {xs : List Int} (hr : Rd w w.heap.size .u8 A n c xs) (hx : ∀ x ∈ xs, 0 ≤ x ∧ x < 256) {k : Nat} (hk1 : M.base ≤ k) (hk2 : k ≤ M.synced) (hf : ¬ fitsN R S k xs) :
    Calls Tryz.prog 29 #[.pointer (some ⟨lb, 0, none⟩), .int .i64 k, .slice A n c] W fun e w' => e = .returned (.int .i64 5) ∧ LQ w q lb d R S M w' ∧ BoxIs q W w' := by
  have hb := h.below
  have hlt := h.lt
  obtain ⟨⟨V, h⟩, hq⟩ := h
  exact (Snap_li_no h hL hlt ((hr.below hb).more hb.size) hx hk1 hk2 hf).mono fun e w' h1 => h1.lq hq
theorem LQ.cut (h : LQ w q lb d R S M W) (hL : LI S M G st) (ht : Tab w) {k : Nat} (hk1 : M.base ≤ k) (hk2 : k ≤ M.last) :
    Calls Tryz.prog 30 #[.pointer (some ⟨lb, 0, none⟩), .int .i64 k] W fun e w' => e = .returned (.int .i64 0) ∧ Hid (∃ S' M', LQ w q lb d R S' M' w' ∧ CutTo M k S M' S') ∧ BoxIs q W w' := by
  have hlt := h.lt
  obtain ⟨⟨V, h⟩, hq⟩ := h
  refine (Cut_li h hL hlt ht hk1 hk2).mono ?_
  rintro e w' ⟨h1, S', M', V', h2, h4, h3⟩
  exact ⟨h1, Lib.hid ⟨S', M', ⟨⟨V', h2⟩, Nat.lt_of_lt_of_le hq h4.2⟩, h3⟩, fun i => cell_heap (h4.1 q (.inr rfl)) i⟩
theorem LW.base_ (h : LW w lb d R S M W) : Calls Tryz.prog 23 #[.pointer (some ⟨lb, 0, none⟩)] W fun e w' => e = .returned (.int .i64 M.base) ∧ W = w' := by
  obtain ⟨V, h⟩ := h
  obtain ⟨Φ, Λ, hl, _⟩ := h.ex
  exact Base_any hl
theorem LW.used_ (h : LW w lb d R S M W) : Calls Tryz.prog 28 #[.pointer (some ⟨d, 0, none⟩)] W fun e w' => e = .returned (.int .i64 (usedN S)) ∧ W = w' := by
  obtain ⟨V, h⟩ := h
  obtain ⟨Φ, Λ, _, hd, _⟩ := h.ex
  exact Used_any hd
theorem LQ.last_ (h : LQ w q lb d R S M W) (hk : LogOk M) : Calls Tryz.prog 21 #[.pointer (some ⟨lb, 0, none⟩)] W fun e w' => e = .returned (.int .i64 M.last) ∧ LQ w q lb d R S M w' ∧ BoxIs q W w' :=
  (h.lw.last_ hk).mono fun _ _ h1 => ⟨h1.1, h.later h1.2.2⟩
/-- The record that came last. -/
theorem LQ.get_last (h : LQ w q lb d R S M W) (hk : LogOk M) {l : List (List Int)} {xs : List Int} (hl : M.recs = l ++ [xs]) {k : Int} (hkk : k = M.last) : Calls Tryz.prog 26 #[.pointer (some ⟨lb, 0, none⟩), .int .i64 k] W fun e w' => ∃ A c, e = .returned (.tuple #[.slice A xs.length c, .bool true]) ∧ LQ w q lb d R S M w' ∧ BoxIs q W w' ∧ Hid (Rd w' w'.heap.size .u8 A xs.length c xs) := by
  obtain ⟨V, h0⟩ := h.lw
  obtain ⟨Φ, Λ, hl0, _⟩ := h0.ex
  refine (Get_any hl0 hk k).mono ?_
  rintro e w' (⟨hn, _⟩ | ⟨j, ys, v, h1, h2, rfl, h3, hb⟩)
  · refine absurd ?_ hn
    subst hkk
    refine ⟨?_, Int.le_refl _⟩
    unfold LogM.last
    rw [hl]
    simp
    omega
  · have hj : j = l.length := by
      subst hkk
      unfold LogM.last at h1
      rw [hl] at h1
      simp at h1
      omega
    rw [hl, hj, List.getElem?_append_right (Nat.le_refl _), Nat.sub_self] at h2
    obtain rfl := Option.some.inj h2
    obtain ⟨A, c, rfl, hrd⟩ := Rd.of_own h3
    exact ⟨A, c, rfl, (h.later hb).1, (h.later hb).2, Lib.hid hrd⟩
/-- A new disk, and a log on it. -/
theorem open_lw (w : World) (room : Int) (n : Nat) (h1 : 16 ≤ n) (h2 : n ≤ 65536) : Calls Tryz.prog 14 #[.int .i64 room] w fun e w1 => e = .returned (.pointer (some ⟨w.heap.size + 1, 0, none⟩)) ∧
    Hid (Calls Tryz.prog 15 #[.pointer (some ⟨w.heap.size + 1, 0, none⟩), .int .i64 n] w1 fun e w2 => ∃ lb, e = .returned (.tuple #[.pointer (some ⟨lb, 0, none⟩), .nilIface]) ∧ LW w lb (w.heap.size + 1) (clampR room) [] (newM n) w2) := by
  refine (New_any room w).mono ?_
  rintro e w1 ⟨rfl, hb, hs, hd⟩
  refine ⟨rfl, Lib.hid ?_⟩
  refine (Open_empty (w0 := w) (Kp := fun k => k < w.heap.size) hb hd (fun k hk => ⟨hk.1, by omega, by omega⟩) (fun k hk => by omega) n (by omega) (by omega)).mono ?_
  rintro e w2 ⟨lb, rfl, h, _⟩
  exact ⟨lb, rfl, newV, h⟩
end
end Go.Proofs.YtnomicnmpllajaaGreatDoor
end

section
namespace Go.Proofs.YtnomicnmpllajaaGreatDoor
open Go Go.RowKit

theorem LW.rebase {w W : World} {lb d q : Nat} {R : Int} {S : List RF} {M : LogM} (h : LW (w.drewN q) lb d R S M W) : LW w lb d R S M W := by
  obtain ⟨V, h⟩ := h
  exact ⟨V, (bdrewN (Below.refl _ _) q).trans h.below, h.ex⟩
/-- What stands behind k calls. -/
def FullSt (w : World) (lb d : Nat) (R : Int) (k : Nat) (W : World) : Prop := ∃ S M G st, LW w lb d R S M W ∧ LI S M G st ∧ M.last ≤ k

section
variable {w W : World} {q lb d : Nat} {R : Int} {S : List RF} {M : LogM} {G : List SegR} {st k : Nat}
theorem stepA_last (S : List RF) (M : LogM) (xs : List Int) : (stepA S M xs).2.last = M.last + 1 := by
  obtain ⟨h1, h2, _⟩ := stepA_recs S M xs
  unfold LogM.last
  rw [h1, h2, List.length_append]
  simp
  omega
theorem stepS_last (S : List RF) (M : LogM) : (stepS S M).2.last = M.last := by
  unfold stepS
  split <;> rfl
theorem stepP_last (S : List RF) (M : LogM) {k : Nat} (xs : List Int) (h1 : M.base ≤ k) (h2 : k ≤ M.last) : (stepP S M k xs).2.last = M.last := by
  unfold stepP LogM.last at *
  simp only [List.length_drop]
  omega
/-- Append, where there is room: and what Get says of the record. -/
theorem LQ.append_get (h : LQ w q lb d R S M W) (hL : LI S M G st) (ht : Tab w) {A : Option Addr} {n c : Nat} {xs : List Int} (hr : Rd w w.heap.size .u8 A n c xs) (hx : ∀ x ∈ xs, 0 ≤ x ∧ x < 256) (hm : M.last ≤ k) (hk : k ≤ 1000) (hf : fitsA R S xs) :
    Calls Tryz.prog 24 #[.pointer (some ⟨lb, 0, none⟩), .slice A n c] W fun e w' => e = .returned (.int .i64 0) ∧ BoxIs q W w' ∧
      Hid (Calls Tryz.prog 26 #[.pointer (some ⟨lb, 0, none⟩), .int .i64 ((M.last : Int) + 1)] w' fun e w2 => ∃ A' c', e = .returned (.tuple #[.slice A' n c', .bool true]) ∧ BoxIs q w' w2 ∧ Hid (FullSt w lb d R (k + 1) w2) ∧
        Hid (Calls Tryz.prog 27 #[.slice A' n c', .slice A n c] w2 fun e w3 => e = .returned (.bool true) ∧ w2 = w3)) := by
  have hlen : xs.length = n := hr.len
  subst hlen
  refine (h.append hL ht hr hx (by omega) hf).mono ?_
  rintro e w' ⟨rfl, h1, h2⟩
  obtain ⟨G', st', hL'⟩ := hL.stepA hx hf.1 (show M.last + 1 < 900000 by omega)
  refine ⟨rfl, h2, Lib.hid ?_⟩
  refine (h1.get_last hL'.ok (stepA_recs S M xs).1 (k := (M.last : Int) + 1) (by rw [stepA_last]; omega)).mono ?_
  rintro e w2 ⟨A', c', rfl, h3, h4, h5⟩
  refine ⟨A', c', rfl, h4, Lib.hid ⟨_, _, G', st', h3.lw, hL', by rw [stepA_last]; omega⟩, Lib.hid ?_⟩
  refine (Equal_any A' A _ c' _ c _ _ xs xs w2 h5.out (hr.below h3.below) hx hx).mono ?_
  rintro e w3 ⟨rfl, rfl⟩
  exact ⟨by rw [decide_eq_true rfl], rfl⟩
theorem LQ.sync_st (h : LQ w q lb d R S M W) (hL : LI S M G st) (ht : Tab w) (hm : M.last ≤ k) : Calls Tryz.prog 25 #[.pointer (some ⟨lb, 0, none⟩)] W fun e w' => e = .returned (.int .i64 0) ∧ BoxIs q W w' ∧ Hid (FullSt w lb d R (k + 1) w') := by
  refine (h.sync hL ht).mono ?_
  rintro e w' ⟨rfl, h1, h2⟩
  exact ⟨rfl, h2, Lib.hid ⟨_, _, _, _, h1.lw, hL.stepS, by rw [stepS_last]; omega⟩⟩
theorem LQ.snap_st (h : LQ w q lb d R S M W) (hL : LI S M G st) (ht : Tab w) {A : Option Addr} {n c : Nat} {xs : List Int} (hr : Rd w w.heap.size .u8 A n c xs) (hx : ∀ x ∈ xs, 0 ≤ x ∧ x < 256) (hm : M.last ≤ k) (hf : fitsN R S M.synced xs) :
    Calls Tryz.prog 29 #[.pointer (some ⟨lb, 0, none⟩), .int .i64 M.synced, .slice A n c] W fun e w' => e = .returned (.int .i64 0) ∧ BoxIs q W w' ∧ Hid (FullSt w lb d R (k + 1) w') := by
  refine (h.snap hL ht hr hx hL.sync.1 (Nat.le_refl _) hf).mono ?_
  rintro e w' ⟨rfl, h1, h2⟩
  obtain ⟨G', st', hL'⟩ := hL.stepP hL.sync.1 (Nat.le_refl _) hx hf.1
  exact ⟨rfl, h2, Lib.hid ⟨_, _, _, _, h1.lw, hL', by rw [stepP_last _ _ _ hL.sync.1 hL.sync.2.1]; omega⟩⟩
theorem LQ.cut_st (h : LQ w q lb d R S M W) (hL : LI S M G st) (ht : Tab w) (hm : M.last ≤ k) {x : Int} (h1 : (M.base : Int) ≤ x) (h2 : x ≤ M.last) :
    Calls Tryz.prog 30 #[.pointer (some ⟨lb, 0, none⟩), .int .i64 x] W fun e w' => e = .returned (.int .i64 0) ∧ BoxIs q W w' ∧ Hid (FullSt w lb d R (k + 1) w') := by
  obtain ⟨y, rfl⟩ : ∃ y : Nat, x = y := ⟨x.toNat, by omega⟩
  have hy1 : M.base ≤ y := by omega
  have hy2 : y ≤ M.last := by omega
  refine (h.cut hL ht hy1 hy2).mono ?_
  rintro e w' ⟨rfl, h3, h4⟩
  obtain ⟨S', M', h5, h6⟩ := h3.out
  obtain ⟨G', hL', r1, r2, _⟩ := hL.cut hy1 hy2 h6
  refine ⟨rfl, h4, Lib.hid ⟨_, _, _, _, h5.lw, hL', ?_⟩⟩
  unfold LogM.last at *
  rw [r1, r2, List.length_take]
  omega
theorem LQ.full (h : LQ w q lb d R S M W) (hL : LI S M G st) (hm : M.last ≤ k) : FullSt w lb d R (k + 1) W := ⟨_, _, _, _, h.lw, hL, by omega⟩
end

set_option maxHeartbeats 3200000 in
set_option maxRecDepth 100000 in
theorem full_any (room size : Int) {A : Option Addr} {n c : Nat} {l : List OpM} (w : World) (hl : OpsRd w w.heap.size A n c l) (ht : Tab w) :
    Calls Tryz.prog 6 #[.int .i64 room, .int .i64 size, .slice A n c] w fun e w' => e = .returned (.bool true) ∧ Below w.heap.size w w' := by
  have hm1 := hl.max
  have hm2 := hl.cap
  unfold maxLen at hm1
  have HFEW := Lib.hid (few_any hl)
  by_cases hf : fewF l = false
  · have HAW := Lib.hid fun (W : World) (hW : Below w.heap.size w W) => awake_any W (ht.below hW)
    rw [hf] at HFEW
    clear hf hl ht
    go_enter Tryz.func6, Tryz.ntmps6
    go_wp2_with (first
      | (go_at_call 11; refine HFEW.out.mono ?_; rintro e w0 ⟨rfl, q, rfl⟩)
      | (go_at_call 13; refine (HAW.out _ (bdrewN (Below.refl _ _) q)).mono ?_; rintro e w1 ⟨rfl, hb⟩))
    go_ret
    exact ⟨rfl, (bdrewN (Below.refl _ _) q).trans hb⟩
  have hf : fewF l = true := by simpa using hf
  by_cases hs : 16 ≤ size ∧ size ≤ 65536
  case neg =>
    have HAW := Lib.hid fun (W : World) (hW : Below w.heap.size w W) => awake_any W (ht.below hW)
    have HSM := Lib.hid fun W => small_any size W
    rw [decide_eq_false hs] at HSM
    rw [hf] at HFEW
    clear hf hl ht hs
    go_enter Tryz.func6, Tryz.ntmps6
    go_wp2_with (first
      | (go_at_call 11; refine HFEW.out.mono ?_; rintro e w0 ⟨rfl, q, rfl⟩)
      | (go_at_call 12; refine (HSM.out _).mono ?_; rintro e w2 ⟨rfl, rfl⟩)
      | (go_at_call 13; refine (HAW.out _ (bdrewN (Below.refl _ _) q)).mono ?_; rintro e w1 ⟨rfl, hb⟩))
    go_ret
    exact ⟨rfl, (bdrewN (Below.refl _ _) q).trans hb⟩
  obtain ⟨N, rfl⟩ : ∃ N : Nat, size = N := ⟨size.toNat, by omega⟩
  have HSM := Lib.hid fun W => small_any N W
  rw [decide_eq_true hs] at HSM
  rw [hf] at HFEW
  have HOP := Lib.hid fun W => open_lw W room N (by omega) (by omega)
  have HL := Lib.hid hl
  have HT := Lib.hid ht
  have HS0 := Lib.hid hs
  have hn40 : n ≤ 40 := by
    unfold fewF at hf
    rw [Bool.and_eq_true, decide_eq_true_eq, hl.len] at hf
    exact hf.1
  clear hf hl ht hs
  go_enter Tryz.func6, Tryz.ntmps6
  go_wp2_with (first
    | (go_at_call 11; refine HFEW.out.mono ?_; rintro e w0 ⟨rfl, q, rfl⟩)
    | (go_at_call 12; refine (HSM.out _).mono ?_; rintro e w2 ⟨rfl, rfl⟩)
    | (go_at_call 14; refine (HOP.out _).mono ?_; rintro e w1 ⟨rfl, HO⟩)
    | (go_at_call 15; refine HO.out.mono ?_; rintro e w2 ⟨lb, rfl, h2⟩))
  have HS : Hid (FullSt w lb (w.heap.size + 1) (clampR room) 0 w2) := Lib.hid ⟨[], newM N, [], 1, h2.rebase, LI.new (by have := HS0.out; omega) (by have := HS0.out; omega), Nat.le_refl _⟩
  clear h2 HO HOP HSM HFEW
  go_loopw [11, 47] (fun _ t wr => ∃ k : Nat, t = .int .i64 k ∧ k ≤ n ∧ Hid (FullSt w lb (w.heap.size + 1) (clampR room) k wr)) (fun _ t _ => n - (intOf t).toNat)
  case atStart => exact ⟨0, rfl, Nat.zero_le _, HS⟩
  case round =>
    obtain ⟨k, rfl, hk, HS⟩ := hrel
    by_cases hkn : k < n
    · obtain ⟨p, b, o, hp, hpm, rfl, hbB, hcell, hok⟩ := HL.out.at hkn
      obtain ⟨S, M, G, st, hW, hLI, hlast⟩ := HS.out
      have hb := hW.below
      have cc : ∀ i u, p.vals[i]? = some u → wr.cell? ⟨b, o + k * 3 + i, none⟩ = some u := fun i u hu => by
        rw [hb.cell (p := ⟨b, o + k * 3 + i, none⟩) hbB, Nat.add_assoc]
        exact hcell i u hu
      have e0 := cc 0 _ rfl
      have e1 := cc 1 _ rfl
      have e2 := cc 2 _ rfl
      have hkn' : (k : Int) < n := by omega
      rw [Nat.add_zero] at e0
      clear hcell cc
      go_upto_region 10 with fail
      have HQ := Lib.hid (hW.box (.cells #[.int .i64 p.kind, .int .i64 p.n, .slice p.bA p.bn p.bc] 39))
      obtain ⟨c0, c1, c2, _⟩ := three_cells (heap_alloc_new wr (.cells #[.int .i64 p.kind, .int .i64 p.n, .slice p.bA p.bn p.bc] 39))
      have hr : Rd w w.heap.size .u8 p.bA p.bn p.bc p.b := hok.rb
      have HR := Lib.hid hr
      have HBY := Lib.hid hok.byt
      have HLI := Lib.hid hLI
      have HOK := Lib.hid hLI.ok
      have hk1000 : k ≤ 1000 := by omega
      have w1 : IntKind.i64.wrap ((k : Int) + 1) = (k : Int) + 1 := IntWalk.i64_in _ (by omega)
      have w2 : IntKind.i64.wrap ((M.last : Int) + 1) = (M.last : Int) + 1 := IntWalk.i64_in _ (by omega)
      have hbl : (M.base : Int) ≤ M.last := by
        have := hLI.sync
        omega
      obtain ⟨pk, pn, pbA, pbn, pbc, pb⟩ := p
      simp only at c0 c1 c2 HQ HR HBY
      clear hW hb e0 e1 e2 hp hpm hok hr hLI HS HL HS0 hbB
      generalize wr.alloc (.cells #[.int .i64 pk, .int .i64 pn, .slice pbA pbn pbc] 39) = W1 at *
      generalize wr.heap.size = bq at *
      go_upto_region 11 with (first
        | (go_at_call 23; refine HQ.out.lw.base_.mono ?_; rintro e w3 ⟨rfl, rfl⟩)
        | (go_at_call 21; refine (HQ.out.last_ HOK.out).mono ?_; rintro e w4 ⟨rfl, hq4, hb4⟩; have HQ4 := Lib.hid hq4; replace c0 := (hb4 0).trans c0; replace c1 := (hb4 1).trans c1; replace c2 := (hb4 2).trans c2; clear hq4 hb4)
        | (go_at_call 28; refine HQ4.out.lw.used_.mono ?_; rintro e w5 ⟨rfl, rfl⟩))
      clear HQ
      have HT1 := Lib.hid HT.out
      by_cases k0 : pk = 0
      · subst k0
        by_cases hfit : fitsA (clampR room) S pb
        · have HAP := Lib.hid (HQ4.out.append_get HLI.out HT.out HR.out HBY.out hlast hk1000 hfit)
          clear HQ4 HT1 hfit
          go_upto_region 22 with (go_at_call 24; refine HAP.out.mono ?_; rintro e w6 ⟨rfl, hb6, HGT⟩; replace c0 := (hb6 0).trans c0; replace c2 := (hb6 2).trans c2; clear hb6 HAP c1)
          go_upto_region 24 with (go_at_call 26; refine HGT.out.mono ?_; rintro e w7 ⟨gA, gC, rfl, hb7, HS7, HEQ⟩; replace c0 := (hb7 0).trans c0; replace c2 := (hb7 2).trans c2; clear hb7 HGT)
          go_wp2_with (go_at_call 27; refine HEQ.out.mono ?_; rintro e w8 ⟨rfl, rfl⟩)
          go_roundw
          case rel => exact ⟨k + 1, by go_num, by omega, HS7⟩
          case measure => simp [intOf]; omega
        · have HAP := Lib.hid (HQ4.out.append_no HLI.out HT.out HR.out HBY.out (by omega) hfit)
          clear HQ4 HT1 hfit
          go_upto_region 22 with (first
            | (go_at_call 24; refine HAP.out.mono ?_; rintro e w6 ⟨rfl, hq6, hb6⟩; have HQ6 := Lib.hid hq6; replace c0 := (hb6 0).trans c0; clear hq6 hb6 HAP c1 c2)
            | (go_at_call 23; refine HQ6.out.lw.base_.mono ?_; rintro e w7 ⟨rfl, rfl⟩)
            | (go_at_call 21; refine (HQ6.out.last_ HOK.out).mono ?_; rintro e w8 ⟨rfl, hq8, hb8⟩; have HQ8 := Lib.hid hq8; replace c0 := (hb8 0).trans c0; clear hq8 hb8)
            | (go_at_call 28; refine HQ8.out.lw.used_.mono ?_; rintro e w9 ⟨rfl, rfl⟩))
          go_wp2_with fail
          go_roundw
          case rel => exact ⟨k + 1, by go_num, by omega, Lib.hid (HQ8.out.full HLI.out hlast)⟩
          case measure => simp [intOf]; omega
      · have d0 : decide (pk = 0) = false := decide_eq_false k0
        by_cases k1 : pk = 1
        · subst k1
          have HAP := Lib.hid (HQ4.out.sync_st HLI.out HT.out hlast)
          clear HQ4 HT1 k0 d0
          go_upto_region 22 with ((go_at_call 25; refine HAP.out.mono ?_; rintro e w6 ⟨rfl, hb6, HS6⟩; replace c0 := (hb6 0).trans c0; clear hb6 HAP c1 c2))
          go_wp2_with fail
          go_roundw
          case rel => exact ⟨k + 1, by go_num, by omega, HS6⟩
          case measure => simp [intOf]; omega
        · have d1 : decide (pk = 1) = false := decide_eq_false k1
          by_cases k2 : pk = 2
          · subst k2
            by_cases hfit : fitsN (clampR room) S M.synced pb
            · have HQD := Lib.hid (HQ4.out.later (Below.refl _ _).drew).1
              have HSY := Lib.hid HQD.out.lw.synced_
              have HAP := Lib.hid (HQD.out.snap_st HLI.out HT.out HR.out HBY.out hlast hfit)
              clear HT1 k0 d0 k1 d1 hfit HQ4 HQD
              go_upto_region 19 with fail
              replace c2 : w4.drew.cell? ⟨bq, 2, none⟩ = some (.slice pbA pbn pbc) := c2
              go_region_with (first
                | (go_at_call 19; refine HSY.out.mono ?_; rintro e w5 ⟨rfl, rfl⟩)
                | (go_at_call 29; refine HAP.out.mono ?_; rintro e w6 ⟨rfl, hb6, HS6⟩; replace c0 := (hb6 0).trans c0))
              all_goals
                clear hb6 HAP HSY c1 c2
                go_wp2_with fail
                go_roundw
                case rel => exact ⟨k + 1, by go_num, by omega, HS6⟩
                case measure => simp [intOf]; omega
            · have HQD := Lib.hid (HQ4.out.later (Below.refl _ _).drew).1
              have HSY := Lib.hid HQD.out.lw.synced_
              have HAP := Lib.hid (HQD.out.snap_no HLI.out HR.out HBY.out HLI.out.sync.1 (Nat.le_refl _) hfit)
              clear HT1 k0 d0 k1 d1 hfit HQ4 HQD
              go_upto_region 19 with fail
              replace c2 : w4.drew.cell? ⟨bq, 2, none⟩ = some (.slice pbA pbn pbc) := c2
              go_region_with (first
                | (go_at_call 19; refine HSY.out.mono ?_; rintro e w5 ⟨rfl, rfl⟩)
                | (go_at_call 29; refine HAP.out.mono ?_; rintro e w6 ⟨rfl, hq6, hb6⟩; have HQ6 := Lib.hid hq6; replace c0 := (hb6 0).trans c0))
              all_goals
                clear hb6 hq6 HAP HSY c1 c2
                go_wp2_with (first
                  | (go_at_call 23; refine HQ6.out.lw.base_.mono ?_; rintro e w7 ⟨rfl, rfl⟩)
                  | (go_at_call 21; refine (HQ6.out.last_ HOK.out).mono ?_; rintro e w8 ⟨rfl, hq8, hb8⟩; have HQ8 := Lib.hid hq8; replace c0 := (hb8 0).trans c0; clear hq8 hb8)
                  | (go_at_call 28; refine HQ8.out.lw.used_.mono ?_; rintro e w9 ⟨rfl, rfl⟩))
                go_roundw
                case rel => exact ⟨k + 1, by go_num, by omega, Lib.hid (HQ8.out.full HLI.out hlast)⟩
                case measure => simp [intOf]; omega
          · have d2 : decide (pk = 2) = false := decide_eq_false k2
            have HCU := Lib.hid fun (x : Int) (h1 : (M.base : Int) ≤ x) (h2 : x ≤ M.last) => HQ4.out.cut_st HLI.out HT.out hlast h1 h2
            clear HQ4 HT1
            go_upto_region 22 with (go_at_call 30; refine (HCU.out _ (by omega) (by omega)).mono ?_; rintro e w6 ⟨rfl, hb6, HS6⟩; replace c0 := (hb6 0).trans c0; clear hb6 HCU c1 c2)
            go_wp2_with fail
            go_roundw
            case rel => exact ⟨k + 1, by go_num, by omega, HS6⟩
            case measure => simp [intOf]; omega
    · obtain rfl : k = n := by omega
      obtain ⟨S, M, G, st, hW, hLI, hlast⟩ := HS.out
      have hbel := hW.below
      have HAW := Lib.hid (awake_any wr (HT.out.below hbel))
      have HBE := Lib.hid hbel
      clear hbel hW hLI hlast HS
      go_wp2_with (go_at_call 13; refine HAW.out.mono ?_; rintro e w9 ⟨rfl, hb9⟩)
      go_ret
      exact ⟨rfl, HBE.out.trans (hb9.mono HBE.out.size)⟩
end Go.Proofs.YtnomicnmpllajaaGreatDoor
end
