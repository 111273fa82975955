/- What is proved here: slices.choosePivotCmpFunc, with a comparison that is a method of a ledger. Written by mksrtp.py. -/
import Derived.Test.YtcdjahmnobjpkaaSrtM2
import Derived.Sort.LotD4
namespace Go.Proofs.Ytcdjahmnobjpkaa
open Go Go.RowKit Go.Maps Go.WideMaps Go.Shelf Go.Lib Go.Sort

variable {G : ByteArray → Prop} [Inhabited (W64 G)]

set_option maxHeartbeats 3200000 in
set_option maxRecDepth 100000 in
theorem pivot_any {cf : (W64 G) → (W64 G) → Int} {l blk cap : Nat} {d0 : Array (W64 G)} {w0 : World} (H : Srt cf l blk cap d0 w0) {d : Array (W64 G)} {w : World} (hs : d.size = d0.size) (S : SW encW w0 blk 0 d w) {a b n : Nat} (hn : n = d0.size) (hab : a + 12 < b) (hb : b ≤ n) :
    Calls Try.prog 46 #[.slice (some ⟨blk, 0, none⟩) n cap, .int .i64 a, .int .i64 b, .func (.func 30) #[.pointer (some ⟨l, 0, none⟩)] #[]] w fun e w' => e = .returned (.tuple #[.int .i64 (Sort.choosePivot (ltOf cf) d a b).1, .int .i64 (hintCode (Sort.choosePivot (ltOf cf) d a b).2)]) ∧ Hid (SW encW w0 blk 0 d w') := by
  have hbig := H.big
  have hn1 : n < 1000000 := by omega
  have MA := Lib.hid (fun (W' : World) (x s : Nat) (C' : Cnt1 encW w0 blk 0 d w.heap.size s W') (h0 : 0 < x) (h1 : x + 1 < n) (h2 : s < 10000) => medAdj_any H hs C' hn h0 h1 h2)
  have MD := Lib.hid (fun (W' : World) (x y z s : Nat) (C' : Cnt1 encW w0 blk 0 d w.heap.size s W') (hx : x < n) (hy : y < n) (hz : z < n) (h2 : s < 10000) => median_any H hs C' hn hx hy hz h2)
  have C0 : Hid (Cnt1 encW w0 blk 0 d w.heap.size 0 (w.alloc (.cells #[.int .i64 0] 3))) := Lib.hid (Cnt1.start S 3)
  rw [choosePivot_eq]
  unfold rawPivot
  rw [if_pos (by omega)]
  obtain ⟨L, hL⟩ : ∃ x, b - a = x := ⟨_, rfl⟩
  obtain ⟨Q, hQ⟩ : ∃ x, L / 4 = x := ⟨_, rfl⟩
  rw [hL, hQ]
  obtain ⟨I, hI⟩ : ∃ x, a + Q * 1 = x := ⟨_, rfl⟩
  obtain ⟨J, hJ⟩ : ∃ x, a + Q * 2 = x := ⟨_, rfl⟩
  obtain ⟨K, hK⟩ : ∃ x, a + Q * 3 = x := ⟨_, rfl⟩
  rw [hI, hJ, hK]
  have hLz : (b : Int) - (a : Int) = (L : Int) := by omega
  have hQz : Int.tdiv (L : Int) 4 = (Q : Int) := by rw [← hQ]; exact (Int.ofNat_tdiv L 4).symm
  have hIz : (a : Int) + (Q : Int) = (I : Int) := by omega
  have hJz : (a : Int) + (Q : Int) * 2 = (J : Int) := by omega
  have hKz : (a : Int) + (Q : Int) * 3 = (K : Int) := by omega
  have hQ3 : 3 ≤ Q := by omega
  have hI0 : 0 < I := by omega
  have hJ0 : 0 < J := by omega
  have hK0 : 0 < K := by omega
  have hI1 : I + 1 < n := by omega
  have hJ1 : J + 1 < n := by omega
  have hK1 : K + 1 < n := by omega
  have hL8 : (8 : Int) ≤ (L : Int) := by omega
  have hQn : Q < n := by omega
  have hLn : L ≤ n := by omega
  clear hL hI hJ hK hbig H S hs hn hab hb hQ
  by_cases h50 : L ≥ 50
  · have h50z : (50 : Int) ≤ (L : Int) := by omega
    rw [if_pos h50]
    have H1 : Hid (_) := Lib.hid (MA.out _ I 0 C0.out hI0 hI1 (by omega))
    have q1 := medianAdjacent_count (ltOf cf) d I 0
    generalize medianAdjacent (ltOf cf) d I 0 = r1 at *
    obtain ⟨r11, r12⟩ := r1
    dsimp only at H1 q1 ⊢
    have H2 := Lib.hid (fun W' C' => MA.out W' J r12 C' hJ0 hJ1 (by omega))
    have q2 := medianAdjacent_count (ltOf cf) d J r12
    generalize medianAdjacent (ltOf cf) d J r12 = r2 at *
    obtain ⟨r21, r22⟩ := r2
    dsimp only at H2 q2 ⊢
    have H3 := Lib.hid (fun W' C' => MA.out W' K r22 C' hK0 hK1 (by omega))
    have q3 := medianAdjacent_count (ltOf cf) d K r22
    generalize medianAdjacent (ltOf cf) d K r22 = r3 at *
    obtain ⟨r31, r32⟩ := r3
    dsimp only at H3 q3 ⊢
    have H4 := Lib.hid (fun W' C' (h1 : r11 < n) (h2 : r21 < n) (h3 : r31 < n) => MD.out W' r11 r21 r31 r32 C' h1 h2 h3 (by omega))
    generalize median (ltOf cf) d r11 r21 r31 r32 = r4 at *
    obtain ⟨p, s⟩ := r4
    dsimp only at H4 ⊢
    clear MA MD q1 q2 q3 C0 h50
    by_cases hs0 : s = 0
    · subst hs0
      go_enter Try.func46, Try.ntmps46
      go_wp2_with (first
          | (go_at_call 60; go_fit H1.out; rintro e w1 HY; obtain rfl := HY.1; have HZ1 := HY.2; clear HY)
          | (go_at_call 60; go_fit (H2.out _ HZ1.out.1); rintro e w2 HY; obtain rfl := HY.1; have HZ2 := HY.2; clear HY)
          | (go_at_call 60; go_fit (H3.out _ HZ2.out.1); rintro e w3 HY; obtain rfl := HY.1; have HZ3 := HY.2; clear HY)
          | (go_at_call 61; go_fit (H4.out _ HZ3.out.1 HZ1.out.2.1 HZ2.out.2.1 HZ3.out.2.1); rintro e w4 HY; obtain rfl := HY.1; have HZ4 := HY.2; clear HY; have k1 := HZ4.out.1.2.1))
      exact bodyPost_ret (v := .tuple #[.int .i64 p, .int .i64 1]) (by simp [results, Try.results46, go_sem]) rfl ⟨rfl, Lib.hid HZ4.out.1.1⟩
    · by_cases hs12 : s = 12
      · subst hs12
        go_enter Try.func46, Try.ntmps46
        go_wp2_with (first
            | (go_at_call 60; go_fit H1.out; rintro e w1 HY; obtain rfl := HY.1; have HZ1 := HY.2; clear HY)
            | (go_at_call 60; go_fit (H2.out _ HZ1.out.1); rintro e w2 HY; obtain rfl := HY.1; have HZ2 := HY.2; clear HY)
            | (go_at_call 60; go_fit (H3.out _ HZ2.out.1); rintro e w3 HY; obtain rfl := HY.1; have HZ3 := HY.2; clear HY)
            | (go_at_call 61; go_fit (H4.out _ HZ3.out.1 HZ1.out.2.1 HZ2.out.2.1 HZ3.out.2.1); rintro e w4 HY; obtain rfl := HY.1; have HZ4 := HY.2; clear HY; have k1 := HZ4.out.1.2.1))
        exact bodyPost_ret (v := .tuple #[.int .i64 p, .int .i64 2]) (by simp [results, Try.results46, go_sem]) rfl ⟨rfl, Lib.hid HZ4.out.1.1⟩
      · have hs0z : ¬ (s : Int) = 0 := by omega
        have hs12z : ¬ (s : Int) = 12 := by omega
        have hh : hintOf s = .unknown := by unfold hintOf; rw [if_neg hs0, if_neg hs12]
        rw [hh]
        clear hs0 hs12 hh
        go_enter Try.func46, Try.ntmps46
        go_wp2_with (first
            | (go_at_call 60; go_fit H1.out; rintro e w1 HY; obtain rfl := HY.1; have HZ1 := HY.2; clear HY)
            | (go_at_call 60; go_fit (H2.out _ HZ1.out.1); rintro e w2 HY; obtain rfl := HY.1; have HZ2 := HY.2; clear HY)
            | (go_at_call 60; go_fit (H3.out _ HZ2.out.1); rintro e w3 HY; obtain rfl := HY.1; have HZ3 := HY.2; clear HY)
            | (go_at_call 61; go_fit (H4.out _ HZ3.out.1 HZ1.out.2.1 HZ2.out.2.1 HZ3.out.2.1); rintro e w4 HY; obtain rfl := HY.1; have HZ4 := HY.2; clear HY; have k1 := HZ4.out.1.2.1))
        exact bodyPost_ret (v := .tuple #[.int .i64 p, .int .i64 0]) (by simp [results, Try.results46, go_sem]) rfl ⟨rfl, Lib.hid HZ4.out.1.1⟩
  · have h50z : ¬ (50 : Int) ≤ (L : Int) := by omega
    rw [if_neg h50]
    have H1 : Hid (_) := Lib.hid (MD.out _ I J K 0 C0.out (by omega) (by omega) (by omega) (by omega))
    generalize median (ltOf cf) d I J K 0 = r4 at *
    obtain ⟨p, s⟩ := r4
    dsimp only at H1 ⊢
    clear MA MD C0 h50
    by_cases hs0 : s = 0
    · subst hs0
      go_enter Try.func46, Try.ntmps46
      go_wp2_with (first
          | (go_at_call 61; go_fit H1.out; rintro e w4 HY; obtain rfl := HY.1; have HZ4 := HY.2; clear HY; have k1 := HZ4.out.1.2.1)
          | fail)
      exact bodyPost_ret (v := .tuple #[.int .i64 p, .int .i64 1]) (by simp [results, Try.results46, go_sem]) rfl ⟨rfl, Lib.hid HZ4.out.1.1⟩
    · by_cases hs12 : s = 12
      · subst hs12
        go_enter Try.func46, Try.ntmps46
        go_wp2_with (first
            | (go_at_call 61; go_fit H1.out; rintro e w4 HY; obtain rfl := HY.1; have HZ4 := HY.2; clear HY; have k1 := HZ4.out.1.2.1)
            | fail)
        exact bodyPost_ret (v := .tuple #[.int .i64 p, .int .i64 2]) (by simp [results, Try.results46, go_sem]) rfl ⟨rfl, Lib.hid HZ4.out.1.1⟩
      · have hs0z : ¬ (s : Int) = 0 := by omega
        have hs12z : ¬ (s : Int) = 12 := by omega
        have hh : hintOf s = .unknown := by unfold hintOf; rw [if_neg hs0, if_neg hs12]
        rw [hh]
        clear hs0 hs12 hh
        go_enter Try.func46, Try.ntmps46
        go_wp2_with (first
            | (go_at_call 61; go_fit H1.out; rintro e w4 HY; obtain rfl := HY.1; have HZ4 := HY.2; clear HY; have k1 := HZ4.out.1.2.1)
            | fail)
        exact bodyPost_ret (v := .tuple #[.int .i64 p, .int .i64 0]) (by simp [results, Try.results46, go_sem]) rfl ⟨rfl, Lib.hid HZ4.out.1.1⟩
end Go.Proofs.Ytcdjahmnobjpkaa
