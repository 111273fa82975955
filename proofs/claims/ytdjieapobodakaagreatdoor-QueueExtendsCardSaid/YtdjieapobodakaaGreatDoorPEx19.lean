/- What is proved here: slices.order2CmpFunc, medianCmpFunc, medianAdjacentCmpFunc, with a comparison that is a method of a ledger. -/
/- What is proved here: slices.medianCmpFunc, medianAdjacentCmpFunc, with a comparison that is a method of a ledger. -/
/- What is proved here: slices.choosePivotCmpFunc, with a comparison that is a method of a ledger. Written by mksrtp.py. -/
import Derived.Test.YtdjieapobodakaaGreatDoorPEx18
import Derived.Deep.DeepFit
import Derived.Sort.LotD4
section
namespace Go.Proofs.YtdjieapobodakaaGreatDoor.Led
open Go Go.RowKit Go.Maps Go.WideMaps Go.Shelf Go.Lib Go.Sort
set_option maxRecDepth 100000

variable {G : ByteArray → Prop} [Inhabited (W64 G)]

theorem cnt_drewN {w0 W : World} {blk c s : Nat} {d : Array (W64 G)} (h : Cnt1 encW w0 blk 0 d c s W) (q : Nat) : Cnt1 encW w0 blk 0 d c s (W.drewN q) := by
  have := h.grown q #[]
  rwa [grow_empty] at this

set_option maxHeartbeats 800000 in
set_option maxRecDepth 100000 in
theorem order2_any {cf : (W64 G) → (W64 G) → Int} {l blk cap : Nat} {d0 : Array (W64 G)} {w0 : World} (H : Srt cf l blk cap d0 w0) {d : Array (W64 G)} {w : World} (hs : d.size = d0.size) {c s : Nat} (C : Cnt1 encW w0 blk 0 d c s w) {a b n : Nat} (hn : n = d0.size) (ha : a < n) (hb : b < n) (hs1 : s < 1000000) :
    Calls Tryz.prog 183 #[.slice (some ⟨blk, 0, none⟩) n cap, .int .i64 a, .int .i64 b, .pointer (some ⟨c, 0, none⟩), .func (.func 75) #[.pointer (some ⟨l, 0, none⟩)] #[]] w fun e w' => e = .returned (.tuple #[.int .i64 (order2 (ltOf cf) d a b s).1, .int .i64 (order2 (ltOf cf) d a b s).2.1]) ∧ Hid (Cnt1 encW w0 blk 0 d c (order2 (ltOf cf) d a b s).2.2 w') := by
  obtain ⟨x1, HX1, p1, c1, f1⟩ := H.look hs C.1 (show b < d0.size by omega)
  obtain ⟨x2, HX2, p2, c2, f2⟩ := H.look hs C.1 (show a < d0.size by omega)
  have HC := Lib.hid (H.at_ hs C.1 x1 x2)
  have HD := Lib.hid C
  have hbig := H.big
  have hcap := H.cap
  have hn1 : n < 1000000 := by omega
  have hnc : n ≤ cap := by omega
  have hai : (a : Int) < (n : Int) := by omega
  have hbi : (b : Int) < (n : Int) := by omega
  have hsz := Lib.hid C.2.2.2.2
  clear hbig hcap hn H hs C
  cases hlv : (ltOf cf) x1 x2 with
  | true =>
    have hcv : decide (cf x1 x2 < 0) = true := hlv
    have hcv' : cf x1 x2 < 0 := of_decide_eq_true hlv
    have e2 : order2 (ltOf cf) d a b s = (b, a, s + 1) := by unfold order2; rw [← HX1.out, ← HX2.out, hlv]; rfl
    rw [e2]
    generalize cf x1 x2 = cv at *
    clear hlv e2 HX1 HX2
    have mixed := mixed_prog
    go_enter Tryz.func183, Tryz.ntmps183
    go_wp2_with fail
    go_quiet_grown ((go_at_call 75; exact Calls.grown_of (HC.out _ _)))
    have HD2 := Lib.hid (HD.out.grown nq osq)
    generalize grow (w.drewN nq) osq = W2 at *
    have k1 := HD2.out.2.1
    have k2 := HD2.out.2.2.1
    clear HC HD c1 c2 p1 p2 f1 f2
    go_wp2
    refine bodyPost_ret (v := .tuple #[.int .i64 b, .int .i64 a]) (by simp [results, Tryz.results183, go_sem]) rfl ⟨rfl, Lib.hid ?_⟩
    exact HD2.out.bump (s + 1)
  | false =>
    have hcv : decide (cf x1 x2 < 0) = false := hlv
    have hcv' : ¬ cf x1 x2 < 0 := of_decide_eq_false hlv
    have e2 : order2 (ltOf cf) d a b s = (a, b, s) := by unfold order2; rw [← HX1.out, ← HX2.out, hlv]; rfl
    rw [e2]
    generalize cf x1 x2 = cv at *
    clear hlv e2 HX1 HX2
    have mixed := mixed_prog
    go_enter Tryz.func183, Tryz.ntmps183
    go_wp2_with fail
    go_quiet_grown ((go_at_call 75; exact Calls.grown_of (HC.out _ _)))
    have HD2 := Lib.hid (HD.out.grown nq osq)
    generalize grow (w.drewN nq) osq = W2 at *
    clear HC HD c1 c2 p1 p2 f1 f2
    go_wp2
    exact bodyPost_ret (v := .tuple #[.int .i64 a, .int .i64 b]) (by simp [results, Tryz.results183, go_sem]) rfl ⟨rfl, HD2⟩

end Go.Proofs.YtdjieapobodakaaGreatDoor.Led
end

section
namespace Go.Proofs.YtdjieapobodakaaGreatDoor.Led
open Go Go.RowKit Go.Maps Go.WideMaps Go.Shelf Go.Lib Go.Sort
set_option maxRecDepth 100000

variable {G : ByteArray → Prop} [Inhabited (W64 G)]

theorem order2_lt {lt : (W64 G) → (W64 G) → Bool} {d : Array (W64 G)} {a b s n : Nat} (ha : a < n) (hb : b < n) : (order2 lt d a b s).1 < n ∧ (order2 lt d a b s).2.1 < n ∧ (order2 lt d a b s).2.2 ≤ s + 1 := by
  unfold order2
  split <;> simp <;> omega

set_option maxHeartbeats 800000 in
set_option maxRecDepth 100000 in
theorem median_any {cf : (W64 G) → (W64 G) → Int} {l blk cap : Nat} {d0 : Array (W64 G)} {w0 : World} (H : Srt cf l blk cap d0 w0) {d : Array (W64 G)} {w : World} (hs : d.size = d0.size) {c s : Nat} (C : Cnt1 encW w0 blk 0 d c s w) {a b k n : Nat} (hn : n = d0.size) (ha : a < n) (hb : b < n) (hk : k < n) (hs1 : s < 10000) :
    Calls Tryz.prog 158 #[.slice (some ⟨blk, 0, none⟩) n cap, .int .i64 a, .int .i64 b, .int .i64 k, .pointer (some ⟨c, 0, none⟩), .func (.func 75) #[.pointer (some ⟨l, 0, none⟩)] #[]] w fun e w' => e = .returned (.int .i64 (median (ltOf cf) d a b k s).1) ∧ Hid (Cnt1 encW w0 blk 0 d c (median (ltOf cf) d a b k s).2 w' ∧ (median (ltOf cf) d a b k s).1 < n ∧ (median (ltOf cf) d a b k s).2 ≤ s + 3) := by
  have HO := Lib.hid (fun (w : World) (a b s : Nat) (C : Cnt1 encW w0 blk 0 d c s w) (ha : a < n) (hb : b < n) (hs1 : s < 1000000) => order2_any H hs C hn ha hb hs1)
  have HC := Lib.hid C
  unfold median
  have o1 := order2_lt (lt := ltOf cf) (d := d) (s := s) ha hb
  have H1 := Lib.hid (HO.out w a b s C ha hb (by omega))
  generalize order2 (ltOf cf) d a b s = r1 at *
  obtain ⟨r11, r12, r13⟩ := r1
  dsimp only at o1 H1 ⊢
  obtain ⟨o11, o12, o13⟩ := o1
  have o2 := order2_lt (lt := ltOf cf) (d := d) (s := r13) o12 hk
  have H2 : Hid (∀ w', Cnt1 encW w0 blk 0 d c r13 w' → _) := Lib.hid fun w' C' => HO.out w' r12 k r13 C' o12 hk (by omega)
  generalize order2 (ltOf cf) d r12 k r13 = r2 at *
  obtain ⟨r21, r22, r23⟩ := r2
  dsimp only at o2 H2 ⊢
  obtain ⟨o21, o22, o23⟩ := o2
  have o3 := order2_lt (lt := ltOf cf) (d := d) (s := r23) o11 o21
  have H3 : Hid (∀ w', Cnt1 encW w0 blk 0 d c r23 w' → _) := Lib.hid fun w' C' => HO.out w' r11 r21 r23 C' o11 o21 (by omega)
  generalize order2 (ltOf cf) d r11 r21 r23 = r3 at *
  obtain ⟨r31, r32, r33⟩ := r3
  dsimp only at o3 H3 ⊢
  obtain ⟨o31, o32, o33⟩ := o3
  have HB : Hid (r32 < n ∧ r33 ≤ s + 3) := Lib.hid ⟨o32, by omega⟩
  clear HO HC C H hs hn o11 o12 o13 o21 o22 o23 o31 o32 o33
  go_enter Tryz.func158, Tryz.ntmps158
  go_wp2_with (first
    | (go_at_call 183; go_fit H1.out; rintro e w1 HY; obtain rfl := HY.1; have HZ1 := HY.2; clear HY)
    | (go_at_call 183; go_fit (H2.out _ HZ1.out); rintro e w2 HY; obtain rfl := HY.1; have HZ2 := HY.2; clear HY)
    | (go_at_call 183; go_fit (H3.out _ HZ2.out); rintro e w3 HY; obtain rfl := HY.1; have HZ3 := HY.2; clear HY))
  exact bodyPost_ret (v := .int .i64 r32) (by simp [results, Tryz.results158, go_sem]) rfl ⟨rfl, Lib.hid ⟨HZ3.out, HB.out⟩⟩

set_option maxHeartbeats 800000 in
set_option maxRecDepth 100000 in
theorem medAdj_any {cf : (W64 G) → (W64 G) → Int} {l blk cap : Nat} {d0 : Array (W64 G)} {w0 : World} (H : Srt cf l blk cap d0 w0) {d : Array (W64 G)} {w : World} (hs : d.size = d0.size) {c s : Nat} (C : Cnt1 encW w0 blk 0 d c s w) {a n : Nat} (hn : n = d0.size) (ha0 : 0 < a) (ha : a + 1 < n) (hs1 : s < 10000) :
    Calls Tryz.prog 157 #[.slice (some ⟨blk, 0, none⟩) n cap, .int .i64 a, .pointer (some ⟨c, 0, none⟩), .func (.func 75) #[.pointer (some ⟨l, 0, none⟩)] #[]] w fun e w' => e = .returned (.int .i64 (medianAdjacent (ltOf cf) d a s).1) ∧ Hid (Cnt1 encW w0 blk 0 d c (medianAdjacent (ltOf cf) d a s).2 w' ∧ (medianAdjacent (ltOf cf) d a s).1 < n ∧ (medianAdjacent (ltOf cf) d a s).2 ≤ s + 3) := by
  have hbig := H.big
  have hn1 : n < 1000000 := by omega
  have HM := Lib.hid (median_any H hs C (a := a - 1) (b := a) (k := a + 1) hn (by omega) (by omega) ha hs1)
  unfold medianAdjacent
  generalize median (ltOf cf) d (a - 1) a (a + 1) s = r at *
  obtain ⟨ap, hap⟩ : ∃ x, a = x + 1 := ⟨a - 1, by omega⟩
  obtain ⟨an, han⟩ : ∃ x, a + 1 = x := ⟨_, rfl⟩
  rw [han, show a - 1 = ap by omega] at HM
  have hapz : (a : Int) - 1 = (ap : Int) := by omega
  have hanz : (a : Int) + 1 = (an : Int) := by omega
  have hap2 : ap < n := by omega
  have han2 : an < n := by omega
  clear H hs C hn ha0 ha hbig hap han
  go_enter Tryz.func157, Tryz.ntmps157
  go_wp2_with (go_at_call 158; go_fit HM.out; rintro e w1 HY; obtain rfl := HY.1; have HZ1 := HY.2; clear HY)
  exact bodyPost_ret (v := .int .i64 r.1) (by simp [results, Tryz.results157, go_sem]) rfl ⟨rfl, HZ1⟩
end Go.Proofs.YtdjieapobodakaaGreatDoor.Led
end

section
namespace Go.Proofs.YtdjieapobodakaaGreatDoor.Led
open Go Go.RowKit Go.Maps Go.WideMaps Go.Shelf Go.Lib Go.Sort
set_option maxRecDepth 100000

variable {G : ByteArray → Prop} [Inhabited (W64 G)]

set_option maxHeartbeats 3200000 in
set_option maxRecDepth 100000 in
theorem pivot_any {cf : (W64 G) → (W64 G) → Int} {l blk cap : Nat} {d0 : Array (W64 G)} {w0 : World} (H : Srt cf l blk cap d0 w0) {d : Array (W64 G)} {w : World} (hs : d.size = d0.size) (S : SW encW w0 blk 0 d w) {a b n : Nat} (hn : n = d0.size) (hab : a + 12 < b) (hb : b ≤ n) :
    Calls Tryz.prog 125 #[.slice (some ⟨blk, 0, none⟩) n cap, .int .i64 a, .int .i64 b, .func (.func 75) #[.pointer (some ⟨l, 0, none⟩)] #[]] w fun e w' => e = .returned (.tuple #[.int .i64 (Sort.choosePivot (ltOf cf) d a b).1, .int .i64 (hintCode (Sort.choosePivot (ltOf cf) d a b).2)]) ∧ Hid (SW encW w0 blk 0 d w') := by
  have hbig := H.big
  have hn1 : n < 1000000 := by omega
  have MA := Lib.hid (fun (W' : World) (x s : Nat) (C' : Cnt1 encW w0 blk 0 d w.heap.size s W') (h0 : 0 < x) (h1 : x + 1 < n) (h2 : s < 10000) => medAdj_any H hs C' hn h0 h1 h2)
  have MD := Lib.hid (fun (W' : World) (x y z s : Nat) (C' : Cnt1 encW w0 blk 0 d w.heap.size s W') (hx : x < n) (hy : y < n) (hz : z < n) (h2 : s < 10000) => median_any H hs C' hn hx hy hz h2)
  have C0 : Hid (Cnt1 encW w0 blk 0 d w.heap.size 0 (w.alloc (.cells #[.int .i64 0] 3))) := Lib.hid (Cnt1.start S 3)
  rw [choosePivot_eq]
  unfold rawPivot
  rw [if_pos (by omega)]
  obtain ⟨L, hL⟩ : ∃ x, b - a = x := ⟨_, rfl⟩
  obtain ⟨Q, hQ⟩ : ∃ x, L / 4 = x := ⟨_, rfl⟩
  rw [hL, hQ]
  obtain ⟨I, hI⟩ : ∃ x, a + Q * 1 = x := ⟨_, rfl⟩
  obtain ⟨J, hJ⟩ : ∃ x, a + Q * 2 = x := ⟨_, rfl⟩
  obtain ⟨K, hK⟩ : ∃ x, a + Q * 3 = x := ⟨_, rfl⟩
  rw [hI, hJ, hK]
  have hLz : (b : Int) - (a : Int) = (L : Int) := by omega
  have hQz : Int.tdiv (L : Int) 4 = (Q : Int) := by rw [← hQ]; exact (Int.ofNat_tdiv L 4).symm
  have hIz : (a : Int) + (Q : Int) = (I : Int) := by omega
  have hJz : (a : Int) + (Q : Int) * 2 = (J : Int) := by omega
  have hKz : (a : Int) + (Q : Int) * 3 = (K : Int) := by omega
  have hQ3 : 3 ≤ Q := by omega
  have hI0 : 0 < I := by omega
  have hJ0 : 0 < J := by omega
  have hK0 : 0 < K := by omega
  have hI1 : I + 1 < n := by omega
  have hJ1 : J + 1 < n := by omega
  have hK1 : K + 1 < n := by omega
  have hL8 : (8 : Int) ≤ (L : Int) := by omega
  have hQn : Q < n := by omega
  have hLn : L ≤ n := by omega
  clear hL hI hJ hK hbig H S hs hn hab hb hQ
  by_cases h50 : L ≥ 50
  · have h50z : (50 : Int) ≤ (L : Int) := by omega
    rw [if_pos h50]
    have H1 : Hid (_) := Lib.hid (MA.out _ I 0 C0.out hI0 hI1 (by omega))
    have q1 := medianAdjacent_count (ltOf cf) d I 0
    generalize medianAdjacent (ltOf cf) d I 0 = r1 at *
    obtain ⟨r11, r12⟩ := r1
    dsimp only at H1 q1 ⊢
    have H2 := Lib.hid (fun W' C' => MA.out W' J r12 C' hJ0 hJ1 (by omega))
    have q2 := medianAdjacent_count (ltOf cf) d J r12
    generalize medianAdjacent (ltOf cf) d J r12 = r2 at *
    obtain ⟨r21, r22⟩ := r2
    dsimp only at H2 q2 ⊢
    have H3 := Lib.hid (fun W' C' => MA.out W' K r22 C' hK0 hK1 (by omega))
    have q3 := medianAdjacent_count (ltOf cf) d K r22
    generalize medianAdjacent (ltOf cf) d K r22 = r3 at *
    obtain ⟨r31, r32⟩ := r3
    dsimp only at H3 q3 ⊢
    have H4 := Lib.hid (fun W' C' (h1 : r11 < n) (h2 : r21 < n) (h3 : r31 < n) => MD.out W' r11 r21 r31 r32 C' h1 h2 h3 (by omega))
    generalize median (ltOf cf) d r11 r21 r31 r32 = r4 at *
    obtain ⟨p, s⟩ := r4
    dsimp only at H4 ⊢
    clear MA MD q1 q2 q3 C0 h50
    by_cases hs0 : s = 0
    · subst hs0
      go_enter Tryz.func125, Tryz.ntmps125
      go_wp2_with (first
          | (go_at_call 157; go_fit H1.out; rintro e w1 HY; obtain rfl := HY.1; have HZ1 := HY.2; clear HY)
          | (go_at_call 157; go_fit (H2.out _ HZ1.out.1); rintro e w2 HY; obtain rfl := HY.1; have HZ2 := HY.2; clear HY)
          | (go_at_call 157; go_fit (H3.out _ HZ2.out.1); rintro e w3 HY; obtain rfl := HY.1; have HZ3 := HY.2; clear HY)
          | (go_at_call 158; go_fit (H4.out _ HZ3.out.1 HZ1.out.2.1 HZ2.out.2.1 HZ3.out.2.1); rintro e w4 HY; obtain rfl := HY.1; have HZ4 := HY.2; clear HY; have k1 := HZ4.out.1.2.1))
      exact bodyPost_ret (v := .tuple #[.int .i64 p, .int .i64 1]) (by simp [results, Tryz.results125, go_sem]) rfl ⟨rfl, Lib.hid HZ4.out.1.1⟩
    · by_cases hs12 : s = 12
      · subst hs12
        go_enter Tryz.func125, Tryz.ntmps125
        go_wp2_with (first
            | (go_at_call 157; go_fit H1.out; rintro e w1 HY; obtain rfl := HY.1; have HZ1 := HY.2; clear HY)
            | (go_at_call 157; go_fit (H2.out _ HZ1.out.1); rintro e w2 HY; obtain rfl := HY.1; have HZ2 := HY.2; clear HY)
            | (go_at_call 157; go_fit (H3.out _ HZ2.out.1); rintro e w3 HY; obtain rfl := HY.1; have HZ3 := HY.2; clear HY)
            | (go_at_call 158; go_fit (H4.out _ HZ3.out.1 HZ1.out.2.1 HZ2.out.2.1 HZ3.out.2.1); rintro e w4 HY; obtain rfl := HY.1; have HZ4 := HY.2; clear HY; have k1 := HZ4.out.1.2.1))
        exact bodyPost_ret (v := .tuple #[.int .i64 p, .int .i64 2]) (by simp [results, Tryz.results125, go_sem]) rfl ⟨rfl, Lib.hid HZ4.out.1.1⟩
      · have hs0z : ¬ (s : Int) = 0 := by omega
        have hs12z : ¬ (s : Int) = 12 := by omega
        have hh : hintOf s = .unknown := by unfold hintOf; rw [if_neg hs0, if_neg hs12]
        rw [hh]
        clear hs0 hs12 hh
        go_enter Tryz.func125, Tryz.ntmps125
        go_wp2_with (first
            | (go_at_call 157; go_fit H1.out; rintro e w1 HY; obtain rfl := HY.1; have HZ1 := HY.2; clear HY)
            | (go_at_call 157; go_fit (H2.out _ HZ1.out.1); rintro e w2 HY; obtain rfl := HY.1; have HZ2 := HY.2; clear HY)
            | (go_at_call 157; go_fit (H3.out _ HZ2.out.1); rintro e w3 HY; obtain rfl := HY.1; have HZ3 := HY.2; clear HY)
            | (go_at_call 158; go_fit (H4.out _ HZ3.out.1 HZ1.out.2.1 HZ2.out.2.1 HZ3.out.2.1); rintro e w4 HY; obtain rfl := HY.1; have HZ4 := HY.2; clear HY; have k1 := HZ4.out.1.2.1))
        exact bodyPost_ret (v := .tuple #[.int .i64 p, .int .i64 0]) (by simp [results, Tryz.results125, go_sem]) rfl ⟨rfl, Lib.hid HZ4.out.1.1⟩
  · have h50z : ¬ (50 : Int) ≤ (L : Int) := by omega
    rw [if_neg h50]
    have H1 : Hid (_) := Lib.hid (MD.out _ I J K 0 C0.out (by omega) (by omega) (by omega) (by omega))
    generalize median (ltOf cf) d I J K 0 = r4 at *
    obtain ⟨p, s⟩ := r4
    dsimp only at H1 ⊢
    clear MA MD C0 h50
    by_cases hs0 : s = 0
    · subst hs0
      go_enter Tryz.func125, Tryz.ntmps125
      go_wp2_with (first
          | (go_at_call 158; go_fit H1.out; rintro e w4 HY; obtain rfl := HY.1; have HZ4 := HY.2; clear HY; have k1 := HZ4.out.1.2.1)
          | fail)
      exact bodyPost_ret (v := .tuple #[.int .i64 p, .int .i64 1]) (by simp [results, Tryz.results125, go_sem]) rfl ⟨rfl, Lib.hid HZ4.out.1.1⟩
    · by_cases hs12 : s = 12
      · subst hs12
        go_enter Tryz.func125, Tryz.ntmps125
        go_wp2_with (first
            | (go_at_call 158; go_fit H1.out; rintro e w4 HY; obtain rfl := HY.1; have HZ4 := HY.2; clear HY; have k1 := HZ4.out.1.2.1)
            | fail)
        exact bodyPost_ret (v := .tuple #[.int .i64 p, .int .i64 2]) (by simp [results, Tryz.results125, go_sem]) rfl ⟨rfl, Lib.hid HZ4.out.1.1⟩
      · have hs0z : ¬ (s : Int) = 0 := by omega
        have hs12z : ¬ (s : Int) = 12 := by omega
        have hh : hintOf s = .unknown := by unfold hintOf; rw [if_neg hs0, if_neg hs12]
        rw [hh]
        clear hs0 hs12 hh
        go_enter Tryz.func125, Tryz.ntmps125
        go_wp2_with (first
            | (go_at_call 158; go_fit H1.out; rintro e w4 HY; obtain rfl := HY.1; have HZ4 := HY.2; clear HY; have k1 := HZ4.out.1.2.1)
            | fail)
        exact bodyPost_ret (v := .tuple #[.int .i64 p, .int .i64 0]) (by simp [results, Tryz.results125, go_sem]) rfl ⟨rfl, Lib.hid HZ4.out.1.1⟩
end Go.Proofs.YtdjieapobodakaaGreatDoor.Led
end
