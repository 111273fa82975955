/- What is proved here: a log's take, Add and Merge. -/
import Derived.Test.YtmmddkddjiodbaaEPut
namespace Go.Proofs.Ytmmddkddjiodbaa
open Go Go.RowKit Go.Maps Go.WideMaps

section
variable {w : World} {b : Nat} {B T : Int} {L : List En} {Φ : Nat → Prop}
def takeF (L : List En) (p : Nat) (x : En) : List En :=
  match L[p]? with
  | none => L.take p ++ [x]
  | some y => if y.t = x.t then L else L.take p ++ [x]
theorem takeF_len (L : List En) (p : Nat) (x : En) (hp : p ≤ L.length) : p < (takeF L p x).length ∧ (takeF L p x).length ≤ L.length + 1 := by
  unfold takeF
  have h1 : (L.take p ++ [x]).length = p + 1 := by rw [List.length_append, List.length_take]; simp; omega
  cases h : L[p]? with
  | none => dsimp only; rw [h1]; omega
  | some y =>
    have := (List.getElem?_eq_some_iff.1 h).1
    dsimp only
    split
    · omega
    · rw [h1]; omega
def mergeL : List En → Nat → List En → List En
  | L, _, [] => L
  | L, p, x :: r => mergeL (takeF L p x) (p + 1) r
theorem mergeL_more {L M : List En} {p j : Nat} {x : En} (hx : M[j]? = some x) : mergeL L p (M.take (j + 1)) = takeF (mergeL L p (M.take j)) (p + j) x := by
  induction M generalizing L p j with
  | nil => simp at hx
  | cons y r ih =>
    cases j with
    | zero =>
      obtain rfl : y = x := by simpa using hx
      simp [mergeL]
    | succ j =>
      rw [List.take_succ_cons, List.take_succ_cons, mergeL, mergeL, ih (by simpa using hx), show p + 1 + j = p + (j + 1) by omega]
theorem mergeL_len (M L : List En) (p : Nat) (hp : p ≤ L.length) : p + M.length ≤ (mergeL L p M).length ∧ (mergeL L p M).length ≤ L.length + M.length := by
  induction M generalizing L p with
  | nil => simpa [mergeL] using hp
  | cons y r ih =>
    have h1 := takeF_len L p y hp
    have h2 := ih (takeF L p y) (p + 1) (by omega)
    rw [mergeL, List.length_cons]
    omega
set_option maxHeartbeats 1600000 in
set_option maxRecDepth 100000 in
theorem take_any (h : LogAt w b B T L Φ) (hL : L.length < 1000000) {p : Nat} (hp : p ≤ L.length) (x : En) :
    Calls Try.prog 34 #[.pointer (some ⟨b, 0, none⟩), .int .i64 p, enV x] w (PutSaid w b B T (takeF L p x) Φ) := by
  obtain ⟨W, hW⟩ : ∃ W, W = w.alloc (.cells #[.int .i64 x.t, .string x.d] 36) := ⟨_, rfl⟩
  have hbW : Below w.heap.size w W := by rw [hW]; exact (Below.refl _ _).alloc (Nat.le_refl _) _
  have hh := h.later hbW
  obtain ⟨A, n, c, hv⟩ := hh
  obtain ⟨c0, c1, c2⟩ := hv.cells
  have hcaps := hv.row.caps
  have hn := hv.len
  have hres : W.heap[w.heap.size]? = some (.cells #[.int .i64 x.t, .string x.d] 36 (0, 0)) := by rw [hW]; exact heap_alloc_new _ _
  obtain ⟨r0, r1, _, _⟩ := two_cells hres
  have HP : Hid (∀ q, Calls Try.prog 29 #[.pointer (some ⟨b, 0, none⟩), .int .i64 p, .agg #[.int .i64 x.t, .string x.d]] (W.drewN q) (PutSaid w b B T (L.take p ++ [x]) Φ)) := Lib.hid fun q => by
    have hb : Below w.heap.size w (W.drewN q) := hbW.trans ((Chg.drewN (Φ := fun _ => False) W q).below hbW.size fun _ h => h.elim)
    refine (put_any (h.later hb) hL hp x).mono ?_
    rintro e w' ⟨rfl, Φ', h1, h2⟩
    exact ⟨rfl, Φ', h1, (Nxt.of_below hb).trans h2⟩
  have HS : Hid (∀ q, Left w b B T L Φ (W.drewN q)) := Lib.hid fun q => Left.same h (hbW.trans ((Chg.drewN (Φ := fun _ => False) W q).below hbW.size fun _ h => h.elim))
  have HR : Hid (∀ q, (W.drewN q).cell? ⟨w.heap.size, 0, none⟩ = some (.int .i64 x.t) ∧ (W.drewN q).cell? ⟨w.heap.size, 1, none⟩ = some (.string x.d)) := Lib.hid fun q => ⟨r0, r1⟩
  have hpn : p ≤ n := by omega
  have hnm : n < 1000000 := by omega
  have HW := Lib.hid hW
  unfold takeF
  cases hx : L[p]? with
  | none =>
    obtain rfl : p = n := by have := List.getElem?_eq_none_iff.1 hx; omega
    dsimp only
    have e1 : ((p : Int) == p) = true := beq_self_eq_true _
    clear h hv hbW hW hres hx hn hL hp
    generalize L.take p ++ [x] = L2 at *
    unfold enV
    go_enter Try.func34, Try.ntmps34
    go_upto_region 1 with fail
    rw [← HW.out]
    go_quiet (fail)
    obtain ⟨s0, s1⟩ := HR.out nq
    have HP2 := Lib.hid (HP.out nq)
    clear HP HR HS
    generalize W.drewN nq = V at *
    go_wp2_with (go_at_call 29; refine HP2.out.mono ?_; intro e w2 hh; obtain ⟨rfl, hl⟩ := hh; have HX := Lib.hid hl; clear hl)
    go_end0
    exact ⟨rfl, HX.out⟩
  | some y =>
    have hpl : p < n := by have := (List.getElem?_eq_some_iff.1 hx).1; omega
    obtain ⟨g, o, rfl, hg, _, q0, q1⟩ := hv.srd.en hx
    have e1 : ((p : Int) == n) = false := beq_eq_false_iff_ne.2 (by omega)
    have d1 : (p : Int) < n := by omega
    dsimp only
    clear h hv hbW hW hres hx hn hL hp
    by_cases ht : y.t = x.t
    · rw [if_pos ht]
      have e2 : (y.t == x.t) = true := by rw [ht]; exact beq_self_eq_true _
      have e3 : (y.t != x.t) = false := by rw [ht]; simp
      clear ht
      generalize y.t = yt at *
      generalize L.take p ++ [x] = L2 at *
      unfold enV
      go_enter Try.func34, Try.ntmps34
      go_upto_region 1 with fail
      rw [← HW.out]
      go_quiet (fail)
      have HS2 := Lib.hid (HS.out nq)
      clear HP HR HS
      generalize W.drewN nq = V at *
      go_wp2_with fail
      go_end0
      exact ⟨rfl, HS2.out⟩
    · rw [if_neg ht]
      have e2 : (y.t == x.t) = false := beq_eq_false_iff_ne.2 ht
      have e3 : (y.t != x.t) = true := by simpa using ht
      clear ht
      generalize y.t = yt at *
      generalize L.take p ++ [x] = L2 at *
      unfold enV
      go_enter Try.func34, Try.ntmps34
      go_upto_region 1 with fail
      rw [← HW.out]
      go_quiet (fail)
      obtain ⟨s0, s1⟩ := HR.out nq
      have HP2 := Lib.hid (HP.out nq)
      clear HP HR HS
      generalize W.drewN nq = V at *
      go_wp2_with (go_at_call 29; refine HP2.out.mono ?_; intro e w2 hh; obtain ⟨rfl, hl⟩ := hh; have HX := Lib.hid hl; clear hl)
      go_end0
      exact ⟨rfl, HX.out⟩
/-- What Add leaves. -/
def AddSaid (w : World) (b : Nat) (B T : Int) (L : List En) (Φ : Nat → Prop) (e : Ending) (w' : World) : Prop := e = .returned (.int .i64 (B + L.length)) ∧ Left w b B T L Φ w'
set_option maxHeartbeats 1600000 in
set_option maxRecDepth 100000 in
theorem Add_any (h : LogAt w b B T L Φ) (h0 : 0 ≤ B) (h1 : B ≤ 4611686018427387904) (hL : L.length < 900000) (x : En) :
    Calls Try.prog 14 #[.pointer (some ⟨b, 0, none⟩), enV x] w (AddSaid w b B T (L ++ [x]) Φ) := by
  obtain ⟨W, hW⟩ : ∃ W, W = w.alloc (.cells #[.int .i64 x.t, .string x.d] 36) := ⟨_, rfl⟩
  have hbW : Below w.heap.size w W := by rw [hW]; exact (Below.refl _ _).alloc (Nat.le_refl _) _
  have hh := h.later hbW
  obtain ⟨A, n, c, hv⟩ := hh
  obtain ⟨c0, c1, c2⟩ := hv.cells
  have hcaps := hv.row.caps
  have hn := hv.len
  have hres : W.heap[w.heap.size]? = some (.cells #[.int .i64 x.t, .string x.d] 36 (0, 0)) := by rw [hW]; exact heap_alloc_new _ _
  obtain ⟨r0, r1, _, _⟩ := two_cells hres
  have hb : Below w.heap.size w W.drew := hbW.trans ((Below.refl W.heap.size W).drew.mono hbW.size)
  have HP : Hid (Calls Try.prog 29 #[.pointer (some ⟨b, 0, none⟩), .int .i64 n, .agg #[.int .i64 x.t, .string x.d]] W.drew (PutSaid w b B T (L ++ [x]) Φ)) := Lib.hid (by
    refine (put_any (h.later hb) (by omega) (p := n) (by omega) x).mono ?_
    rintro e w' ⟨rfl, Φ', h1, h2⟩
    rw [List.take_of_length_le (by omega)] at h1
    exact ⟨rfl, Φ', h1, (Nxt.of_below hb).trans h2⟩)
  have HLA : Hid (∀ V, Left w b B T (L ++ [x]) Φ V → Calls Try.prog 16 #[.pointer (some ⟨b, 0, none⟩)] V fun e w' => e = .returned (.int .i64 (B + (L ++ [x]).length)) ∧ Hid (Left w b B T (L ++ [x]) Φ w')) := Lib.hid fun V ⟨Φ', h2, h3⟩ => by
    refine (Last_any h2 h0 h1 (by rw [List.length_append]; simp; omega)).mono ?_
    rintro e w' ⟨rfl, q, rfl⟩
    have hbq : Below V.heap.size V (V.drewN q) := (Chg.drewN (Φ := fun _ => False) V q).below (Nat.le_refl _) fun _ h => h.elim
    exact ⟨rfl, Lib.hid ⟨Φ', h2.later hbq, h3.trans (Nxt.of_below hbq)⟩⟩
  have HR : Hid (W.drew.cell? ⟨w.heap.size, 0, none⟩ = some (.int .i64 x.t) ∧ W.drew.cell? ⟨w.heap.size, 1, none⟩ = some (.string x.d)) := Lib.hid ⟨r0, r1⟩
  have hnm : n < 1000000 := by omega
  have HW := Lib.hid hW
  clear h hv hbW hW hres hn hL hb
  generalize L ++ [x] = L2 at *
  unfold enV
  go_enter Try.func14, Try.ntmps14
  go_upto_region 1 with fail
  rw [← HW.out]
  go_still_tail 7, (by kernel_rfl)
  change wpList _ _ _ _ _ W.drew
  clear c0 c1 c2 r0 r1
  generalize W.drew = V at *
  go_wp2_with (first
    | (go_at_call 29; refine HP.out.mono ?_; intro e w2 hh; obtain ⟨rfl, hl⟩ := hh; have HX := Lib.hid hl; clear hl)
    | (go_at_call 16; refine (HLA.out _ HX.out).mono ?_; rintro e w3 ⟨rfl, HX3⟩))
  go_ret
  exact ⟨rfl, HX3.out⟩
end
end Go.Proofs.Ytmmddkddjiodbaa
