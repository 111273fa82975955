/- What is proved here: slices.heapSortCmpFunc and slices.reverseRangeCmpFunc, with a comparison that is a method of the lanes'. -/
/- What is proved here: slices.order2CmpFunc, medianCmpFunc, medianAdjacentCmpFunc, with a comparison that is a method of the lanes'. -/
/- What is proved here: slices.medianCmpFunc, medianAdjacentCmpFunc, with a comparison that is a method of the lanes'. -/
import Derived.Test.YtdjieapobodakaaGreatDoorPEx11
import Derived.Deep.DeepFit
section
namespace Go.Proofs.YtdjieapobodakaaGreatDoor.Lan
open Go Go.RowKit Go.Maps Go.WideMaps Go.Shelf Go.Lib Go.Sort
set_option maxRecDepth 100000

variable {G : Int → Prop} [Inhabited (W64 G)]

theorem rev_go (i j : Nat) (d : Array (W64 G)) (h : i < j) : reverseLoop i j d = reverseLoop (i + 1) (j - 1) (swp d i j) := by rw [reverseLoop, if_pos h]
theorem rev_stop (i j : Nat) (d : Array (W64 G)) (h : ¬ i < j) : reverseLoop i j d = d := by rw [reverseLoop, if_neg h]

set_option maxHeartbeats 6400000 in
set_option maxRecDepth 100000 in
theorem rev_any {cf : (W64 G) → (W64 G) → Int} {l blk cap : Nat} {d0 : Array (W64 G)} {w0 : World} (H : Srt cf l blk cap d0 w0) {d : Array (W64 G)} {w : World} (hs : d.size = d0.size) (S : SW encW w0 blk 0 d w) {a b n : Nat} (hn : n = d0.size) (hab : a < b) (hb : b ≤ n) (f : Value) :
    Calls Tryz.prog 174 #[.slice (some ⟨blk, 0, none⟩) n cap, .int .i64 a, .int .i64 b, f] w fun e w' => e = .returned (.tuple #[]) ∧ Hid (SW encW w0 blk 0 (reverseRange d a b) w' ∧ (reverseRange d a b).size = d0.size) := by
  have HS := Lib.hid S
  have HZ := Lib.hid hs
  have hbig := H.big
  have hcap := H.cap
  have HN := Lib.hid hn
  have HH := Lib.hid H
  have hn1 : n < 1000000 := by omega
  have hnc : n ≤ cap := by omega
  obtain ⟨bp, hbp⟩ : ∃ x, b = x + 1 := ⟨b - 1, by omega⟩
  have HB := Lib.hid hbp
  have hbpz : (b : Int) - 1 = (bp : Int) := by omega
  have hbpn : bp < n := by omega
  have HR : Hid (reverseRange d a b = reverseLoop a bp d) := Lib.hid (by unfold reverseRange; rw [hbp]; rfl)
  clear S hs hn hbig hcap H hbp
  go_enter Tryz.func174, Tryz.ntmps174
  go_wp2
  go_loopw [8, 9] (fun vi vj wr => ∃ (i j : Nat) (dk : Array (W64 G)), vi = .int .i64 i ∧ vj = .int .i64 j ∧ i ≤ n ∧ j < n ∧ Hid (dk.size = d0.size) ∧ Hid (SW encW w0 blk 0 dk wr) ∧ Hid (reverseLoop i j dk = reverseLoop a bp d)) (fun _ vj _ => (intOf vj).toNat)
  case atStart => exact ⟨a, bp, d, rfl, rfl, by omega, hbpn, HZ, HS, Lib.hid rfl⟩
  case round =>
    clear HS HZ
    obtain ⟨i, j, dk, rfl, rfl, hin, hjn, HZ, HS, HO⟩ := hrel
    by_cases hlt : i < j
    · have hlz : (i : Int) < (j : Int) := by omega
      obtain ⟨jp, hjp⟩ : ∃ x, j = x + 1 := ⟨j - 1, by omega⟩
      have hjz : (j : Int) - 1 = (jp : Int) := by omega
      have hjpn : jp < n := by omega
      have hii : (i : Int) < (n : Int) := by omega
      have hji : (j : Int) < (n : Int) := by omega
      have hid : i < d0.size := by have := HN.out; omega
      have hjd : j < d0.size := by have := HN.out; omega
      have HO2 : Hid (reverseLoop (i + 1) jp (swp dk i j) = reverseLoop a bp d) := Lib.hid (by rw [← HO.out, rev_go _ _ _ hlt, hjp]; rfl)
      have HJ := Lib.hid hjp
      clear hjp HO
      obtain ⟨y1, HY1, p1, b1, g1⟩ := HH.out.look HZ.out HS.out hid
      obtain ⟨y2, HY2, p2, b2, g2⟩ := HH.out.look HZ.out HS.out hjd
      have HSW : Hid (∀ q, SW encW w0 blk 0 (swp dk i j) (((wr.setCell ⟨blk, i, none⟩ (.int .i64 y2.val)).setCell ⟨blk, j, none⟩ (.int .i64 y1.val)).drewN q)) := Lib.hid (HH.out.swap2 HZ.out HS.out hid hjd HY1.out HY2.out)
      have HZ3 : Hid ((swp dk i j).size = d0.size) := Lib.hid (by rw [swp_sz]; exact HZ.out)
      generalize swp dk i j = ds at *
      clear HS HZ HY1 HY2
      go_wp2_with fail
      go_region
      have HS3 : Hid (SW encW w0 blk 0 ds ((wr.setCell ⟨blk, i, none⟩ (.int .i64 y2.val)).setCell ⟨blk, j, none⟩ (.int .i64 y1.val)).drew) := Lib.hid (HSW.out 1)
      generalize ((wr.setCell ⟨blk, i, none⟩ (.int .i64 y2.val)).setCell ⟨blk, j, none⟩ (.int .i64 y1.val)).drew = W3 at *
      clear HSW
      go_wp2
      go_roundw
      case rel => exact ⟨i + 1, jp, ds, by go_num, by go_num, by omega, hjpn, HZ3, HS3, HO2⟩
      case measure => (simp [intOf] <;> omega)
    · have hlz : ¬ (i : Int) < (j : Int) := by omega
      go_wp2
      (first | go_end0 | refine bodyPost_ret (results_none rfl _ _ _) rfl ?_)
      refine ⟨rfl, Lib.hid ?_⟩
      have hO : dk = reverseRange d a b := by rw [HR.out, ← HO.out, rev_stop _ _ _ hlt]
      rw [← hO]
      exact ⟨HS.out, HZ.out⟩

set_option maxHeartbeats 6400000 in
set_option maxRecDepth 100000 in
theorem heap_any {cf : (W64 G) → (W64 G) → Int} {l blk cap : Nat} {d0 : Array (W64 G)} {w0 : World} (H : Srt cf l blk cap d0 w0) {d : Array (W64 G)} {w : World} (hs : d.size = d0.size) (S : SW encW w0 blk 0 d w) {a b n : Nat} (hn : n = d0.size) (hab : a < b) (hb : b ≤ n) :
    Calls Tryz.prog 171 #[.slice (some ⟨blk, 0, none⟩) n cap, .int .i64 a, .int .i64 b, .func (.func 110) #[.pointer (some ⟨l, 0, none⟩)] #[]] w fun e w' => e = .returned (.tuple #[]) ∧ Hid (SW encW w0 blk 0 (Sort.heapSort (ltOf cf) d a b) w' ∧ (Sort.heapSort (ltOf cf) d a b).size = d0.size) := by
  have HS := Lib.hid S
  have HZ := Lib.hid hs
  have hbig := H.big
  have hcap := H.cap
  have HN := Lib.hid hn
  have HH := Lib.hid H
  have hn1 : n < 1000000 := by omega
  have hnc : n ≤ cap := by omega
  obtain ⟨hp, hhp⟩ : ∃ x, b - a = x + 1 := ⟨b - a - 1, by omega⟩
  obtain ⟨hi, hhi⟩ : ∃ x, b - a = x := ⟨b - a, rfl⟩
  obtain ⟨m, hm⟩ : ∃ x, hp / 2 = x := ⟨_, rfl⟩
  have hbaz : (b : Int) - (a : Int) = (hi : Int) := by omega
  have hhpz : (hi : Int) - 1 = (hp : Int) := by omega
  have hmz : Int.tdiv (hp : Int) 2 = (m : Int) := by rw [← hm]; exact (Int.ofNat_tdiv hp 2).symm
  have hin : a + hi ≤ n := by omega
  have hpi : hp < hi := by omega
  have hmi : m < hi := by omega
  have HD : Hid (Sort.heapSort (ltOf cf) d a b = heapPop (ltOf cf) a hi (heapBuild (ltOf cf) hi a (m + 1) d)) := Lib.hid (by unfold Sort.heapSort; rw [hhi, ← hm, show hi - 1 = hp by omega])
  have HP : Hid (hi = hp + 1) := Lib.hid (by omega)
  clear S hs hn hbig hcap H hhp hhi hm
  go_enter Tryz.func171, Tryz.ntmps171
  go_wp2
  go_loopw [11] (fun vi wr => ∃ (k : Nat) (dk : Array (W64 G)), vi = .int .i64 ((k : Int) - 1) ∧ k ≤ m + 1 ∧ Hid (dk.size = d0.size) ∧ Hid (SW encW w0 blk 0 dk wr) ∧ Hid (heapBuild (ltOf cf) hi a k dk = heapBuild (ltOf cf) hi a (m + 1) d)) (fun vi _ => (intOf vi + 1).toNat)
  case atStart => exact ⟨m + 1, d, by congr 1; omega, by omega, HZ, HS, Lib.hid rfl⟩
  case round =>
    clear HS HZ
    obtain ⟨k, dk, rfl, hkm, HZ, HS, HO⟩ := hrel
    by_cases hk : k = 0
    · have hkz : ¬ (0 : Int) ≤ (k : Int) - 1 := by omega
      have HS2 : Hid (heapBuild (ltOf cf) hi a (m + 1) d = dk) := Lib.hid (by rw [← HO.out, hk]; rfl)
      clear HO
      go_wp2
      clear hkz hk hkm
      generalize hd1 : heapBuild (ltOf cf) hi a (m + 1) d = d1 at *
      obtain rfl := HS2.out
      clear hd1 HS2
      go_loopw [12] (fun vi wr => ∃ (k : Nat) (dk : Array (W64 G)), vi = .int .i64 ((k : Int) - 1) ∧ k ≤ hi ∧ Hid (dk.size = d0.size) ∧ Hid (SW encW w0 blk 0 dk wr) ∧ Hid (heapPop (ltOf cf) a k dk = heapPop (ltOf cf) a hi d1)) (fun vi _ => (intOf vi + 1).toNat)
      case atStart => exact ⟨hi, _, by congr 1; omega, Nat.le_refl _, HZ, HS, Lib.hid rfl⟩
      case round =>
        clear HS HZ
        obtain ⟨k, dk, rfl, hkm, HZ, HS, HO⟩ := hrel
        by_cases hk : k = 0
        · have hkz : ¬ (0 : Int) ≤ (k : Int) - 1 := by omega
          have HS2 : Hid (heapPop (ltOf cf) a hi d1 = dk) := Lib.hid (by rw [← HO.out, hk]; rfl)
          clear HO
          go_wp2
          go_end0
          refine ⟨rfl, Lib.hid ?_⟩
          rw [HD.out, HS2.out]
          exact ⟨HS.out, HZ.out⟩
        · obtain ⟨i, hi1⟩ : ∃ x, k = x + 1 := ⟨k - 1, by omega⟩
          have hiz : (k : Int) - 1 = (i : Int) := by omega
          have hi0 : (0 : Int) ≤ (i : Int) := by omega
          by_cases hi0p : 0 < i
          · obtain ⟨fi, hfi⟩ : ∃ x, x = a + i := ⟨_, rfl⟩
            have hfiz : (a : Int) + (i : Int) = (fi : Int) := by omega
            have hfin : (fi : Int) < (n : Int) := by omega
            have han : (a : Int) < (n : Int) := by omega
            have hfid : fi < d0.size := by have := HN.out; omega
            have hne : a < fi := by omega
            have had : a < d0.size := by have := HN.out; omega
            have HO2 : Hid (heapPop (ltOf cf) a i (siftDown (ltOf cf) i a 0 (swp dk a fi)) = heapPop (ltOf cf) a hi d1) := Lib.hid (by rw [← HO.out, hi1, hfi]; rfl)
            have HK := Lib.hid hi1
            have HFI := Lib.hid hfi
            have hih : i < hi := by omega
            have HAI : Hid (a + i ≤ n) := Lib.hid (by omega)
            obtain ⟨y1, HY1, p1, b1, g1⟩ := HH.out.look HZ.out HS.out had
            obtain ⟨y2, HY2, p2, b2, g2⟩ := HH.out.look HZ.out HS.out hfid
            have HSW : Hid (∀ q, SW encW w0 blk 0 (swp dk a fi) (((wr.setCell ⟨blk, a, none⟩ (.int .i64 y2.val)).setCell ⟨blk, fi, none⟩ (.int .i64 y1.val)).drewN q)) := Lib.hid (HH.out.swap2 HZ.out HS.out had hfid HY1.out HY2.out)
            have HZ2 : Hid ((swp dk a fi).size = d0.size) := Lib.hid (by rw [swp_sz]; exact HZ.out)
            generalize swp dk a fi = ds at *
            clear HS HZ HY1 HY2 hfi hi1 HO hk
            go_wp2_with fail
            go_region
            have HS3 : Hid (SW encW w0 blk 0 ds ((wr.setCell ⟨blk, a, none⟩ (.int .i64 y2.val)).setCell ⟨blk, fi, none⟩ (.int .i64 y1.val)).drew) := Lib.hid (HSW.out 1)
            generalize ((wr.setCell ⟨blk, a, none⟩ (.int .i64 y2.val)).setCell ⟨blk, fi, none⟩ (.int .i64 y1.val)).drew = W3 at *
            clear HSW p1 p2 b1 b2 g1 g2
            have HC := Lib.hid (sift_any HH.out HZ2.out HS3.out HN.out (lo := 0) (hi := i) (first := a) (by omega) HAI.out)
            go_wp2_with (go_at_call 189; refine HC.out.mono ?_; rintro e w2 HY; obtain rfl := HY.1; have HZ3 := HY.2; clear HY)
            go_roundw
            case rel => exact ⟨i, _, rfl, by omega, Lib.hid HZ3.out.2, Lib.hid HZ3.out.1, HO2⟩
            case measure => (simp [intOf] <;> omega)
          · have hi00 : i = 0 := by omega
            subst hi00
            have hiz0 : (k : Int) - 1 = 0 := by omega
            clear hiz hi0
            have han : (a : Int) < (n : Int) := by omega
            have had : a < d0.size := by have := HN.out; omega
            have HO2 : Hid (heapPop (ltOf cf) a 0 (siftDown (ltOf cf) 0 a 0 (swp dk a a)) = heapPop (ltOf cf) a hi d1) := Lib.hid (by rw [← HO.out, hi1]; rfl)
            have HK := Lib.hid hi1
            obtain ⟨y1, HY1, p1, b1, g1⟩ := HH.out.look HZ.out HS.out had
            have HSW : Hid (∀ q, SW encW w0 blk 0 (swp dk a a) (((wr.setCell ⟨blk, a, none⟩ (.int .i64 y1.val)).setCell ⟨blk, a, none⟩ (.int .i64 y1.val)).drewN q)) := Lib.hid (HH.out.swap2 HZ.out HS.out had had HY1.out HY1.out)
            have HZ2 : Hid ((swp dk a a).size = d0.size) := Lib.hid (by rw [swp_sz]; exact HZ.out)
            generalize swp dk a a = ds at *
            clear HS HZ HY1 hi1 HO hk
            go_wp2_with fail
            go_region
            have HS3 : Hid (SW encW w0 blk 0 ds ((wr.setCell ⟨blk, a, none⟩ (.int .i64 y1.val)).setCell ⟨blk, a, none⟩ (.int .i64 y1.val)).drew) := Lib.hid (HSW.out 1)
            generalize ((wr.setCell ⟨blk, a, none⟩ (.int .i64 y1.val)).setCell ⟨blk, a, none⟩ (.int .i64 y1.val)).drew = W3 at *
            clear HSW p1 b1 g1
            have HC : Hid (Calls Tryz.prog 189 #[.slice (some ⟨blk, 0, none⟩) n cap, .int .i64 0, .int .i64 0, .int .i64 a, .func (.func 110) #[.pointer (some ⟨l, 0, none⟩)] #[]] W3 _) := Lib.hid (sift_any HH.out HZ2.out HS3.out HN.out (lo := 0) (hi := 0) (first := a) (by omega) (by omega))
            go_wp2_with (go_at_call 189; refine HC.out.mono ?_; rintro e w2 HY; obtain rfl := HY.1; have HZ3 := HY.2; clear HY)
            go_roundw
            case rel => exact ⟨0, _, rfl, by omega, Lib.hid HZ3.out.2, Lib.hid HZ3.out.1, HO2⟩
            case measure => (simp [intOf] <;> omega)
    · obtain ⟨i, hi1⟩ : ∃ x, k = x + 1 := ⟨k - 1, by omega⟩
      have hiz : (k : Int) - 1 = (i : Int) := by omega
      have hi0 : (0 : Int) ≤ (i : Int) := by omega
      have hin2 : i ≤ n := by omega
      have HO2 : Hid (heapBuild (ltOf cf) hi a i (siftDown (ltOf cf) hi a i dk) = heapBuild (ltOf cf) hi a (m + 1) d) := Lib.hid (by rw [← HO.out, hi1]; rfl)
      have HK := Lib.hid hi1
      have him : i ≤ m := by omega
      have HC := Lib.hid (sift_any HH.out HZ.out HS.out HN.out (lo := i) (hi := hi) (first := a) hin2 (by omega))
      clear hi1 HO HS HZ hk
      go_wp2_with (go_at_call 189; refine HC.out.mono ?_; rintro e w2 HY; obtain rfl := HY.1; have HZ3 := HY.2; clear HY)
      go_roundw
      case rel => exact ⟨i, _, rfl, by omega, Lib.hid HZ3.out.2, Lib.hid HZ3.out.1, HO2⟩
      case measure => (simp [intOf] <;> omega)
end Go.Proofs.YtdjieapobodakaaGreatDoor.Lan
end

section
namespace Go.Proofs.YtdjieapobodakaaGreatDoor.Lan
open Go Go.RowKit Go.Maps Go.WideMaps Go.Shelf Go.Lib Go.Sort
set_option maxRecDepth 100000

variable {G : Int → Prop} [Inhabited (W64 G)]

theorem cnt_drewN {w0 W : World} {blk c s : Nat} {d : Array (W64 G)} (h : Cnt1 encW w0 blk 0 d c s W) (q : Nat) : Cnt1 encW w0 blk 0 d c s (W.drewN q) := by
  have := h.grown q #[]
  rwa [grow_empty] at this

set_option maxHeartbeats 800000 in
set_option maxRecDepth 100000 in
theorem order2_any {cf : (W64 G) → (W64 G) → Int} {l blk cap : Nat} {d0 : Array (W64 G)} {w0 : World} (H : Srt cf l blk cap d0 w0) {d : Array (W64 G)} {w : World} (hs : d.size = d0.size) {c s : Nat} (C : Cnt1 encW w0 blk 0 d c s w) {a b n : Nat} (hn : n = d0.size) (ha : a < n) (hb : b < n) (hs1 : s < 1000000) :
    Calls Tryz.prog 196 #[.slice (some ⟨blk, 0, none⟩) n cap, .int .i64 a, .int .i64 b, .pointer (some ⟨c, 0, none⟩), .func (.func 110) #[.pointer (some ⟨l, 0, none⟩)] #[]] w fun e w' => e = .returned (.tuple #[.int .i64 (order2 (ltOf cf) d a b s).1, .int .i64 (order2 (ltOf cf) d a b s).2.1]) ∧ Hid (Cnt1 encW w0 blk 0 d c (order2 (ltOf cf) d a b s).2.2 w') := by
  obtain ⟨x1, HX1, p1, c1, f1⟩ := H.look hs C.1 (show b < d0.size by omega)
  obtain ⟨x2, HX2, p2, c2, f2⟩ := H.look hs C.1 (show a < d0.size by omega)
  have HC := Lib.hid (H.at_ hs C.1 x1 x2)
  have HD := Lib.hid C
  have hbig := H.big
  have hcap := H.cap
  have hn1 : n < 1000000 := by omega
  have hnc : n ≤ cap := by omega
  have hai : (a : Int) < (n : Int) := by omega
  have hbi : (b : Int) < (n : Int) := by omega
  have hsz := Lib.hid C.2.2.2.2
  clear hbig hcap hn H hs C
  cases hlv : (ltOf cf) x1 x2 with
  | true =>
    have hcv : decide (cf x1 x2 < 0) = true := hlv
    have hcv' : cf x1 x2 < 0 := of_decide_eq_true hlv
    have e2 : order2 (ltOf cf) d a b s = (b, a, s + 1) := by unfold order2; rw [← HX1.out, ← HX2.out, hlv]; rfl
    rw [e2]
    generalize cf x1 x2 = cv at *
    clear hlv e2 HX1 HX2
    go_enter Tryz.func196, Tryz.ntmps196
    go_wp2_with fail
    go_quiet ((go_at_call 110; exact Calls.quiet_of (HC.out _)))
    have HD2 := Lib.hid (cnt_drewN HD.out nq)
    generalize w.drewN nq = W2 at *
    have k1 := HD2.out.2.1
    have k2 := HD2.out.2.2.1
    clear HC HD c1 c2 p1 p2 f1 f2
    go_wp2
    refine bodyPost_ret (v := .tuple #[.int .i64 b, .int .i64 a]) (by simp [results, Tryz.results196, go_sem]) rfl ⟨rfl, Lib.hid ?_⟩
    exact HD2.out.bump (s + 1)
  | false =>
    have hcv : decide (cf x1 x2 < 0) = false := hlv
    have hcv' : ¬ cf x1 x2 < 0 := of_decide_eq_false hlv
    have e2 : order2 (ltOf cf) d a b s = (a, b, s) := by unfold order2; rw [← HX1.out, ← HX2.out, hlv]; rfl
    rw [e2]
    generalize cf x1 x2 = cv at *
    clear hlv e2 HX1 HX2
    go_enter Tryz.func196, Tryz.ntmps196
    go_wp2_with fail
    go_quiet ((go_at_call 110; exact Calls.quiet_of (HC.out _)))
    have HD2 := Lib.hid (cnt_drewN HD.out nq)
    generalize w.drewN nq = W2 at *
    clear HC HD c1 c2 p1 p2 f1 f2
    go_wp2
    exact bodyPost_ret (v := .tuple #[.int .i64 a, .int .i64 b]) (by simp [results, Tryz.results196, go_sem]) rfl ⟨rfl, HD2⟩

end Go.Proofs.YtdjieapobodakaaGreatDoor.Lan
end

section
namespace Go.Proofs.YtdjieapobodakaaGreatDoor.Lan
open Go Go.RowKit Go.Maps Go.WideMaps Go.Shelf Go.Lib Go.Sort
set_option maxRecDepth 100000

variable {G : Int → Prop} [Inhabited (W64 G)]

theorem order2_lt {lt : (W64 G) → (W64 G) → Bool} {d : Array (W64 G)} {a b s n : Nat} (ha : a < n) (hb : b < n) : (order2 lt d a b s).1 < n ∧ (order2 lt d a b s).2.1 < n ∧ (order2 lt d a b s).2.2 ≤ s + 1 := by
  unfold order2
  split <;> simp <;> omega

set_option maxHeartbeats 800000 in
set_option maxRecDepth 100000 in
theorem median_any {cf : (W64 G) → (W64 G) → Int} {l blk cap : Nat} {d0 : Array (W64 G)} {w0 : World} (H : Srt cf l blk cap d0 w0) {d : Array (W64 G)} {w : World} (hs : d.size = d0.size) {c s : Nat} (C : Cnt1 encW w0 blk 0 d c s w) {a b k n : Nat} (hn : n = d0.size) (ha : a < n) (hb : b < n) (hk : k < n) (hs1 : s < 10000) :
    Calls Tryz.prog 191 #[.slice (some ⟨blk, 0, none⟩) n cap, .int .i64 a, .int .i64 b, .int .i64 k, .pointer (some ⟨c, 0, none⟩), .func (.func 110) #[.pointer (some ⟨l, 0, none⟩)] #[]] w fun e w' => e = .returned (.int .i64 (median (ltOf cf) d a b k s).1) ∧ Hid (Cnt1 encW w0 blk 0 d c (median (ltOf cf) d a b k s).2 w' ∧ (median (ltOf cf) d a b k s).1 < n ∧ (median (ltOf cf) d a b k s).2 ≤ s + 3) := by
  have HO := Lib.hid (fun (w : World) (a b s : Nat) (C : Cnt1 encW w0 blk 0 d c s w) (ha : a < n) (hb : b < n) (hs1 : s < 1000000) => order2_any H hs C hn ha hb hs1)
  have HC := Lib.hid C
  unfold median
  have o1 := order2_lt (lt := ltOf cf) (d := d) (s := s) ha hb
  have H1 := Lib.hid (HO.out w a b s C ha hb (by omega))
  generalize order2 (ltOf cf) d a b s = r1 at *
  obtain ⟨r11, r12, r13⟩ := r1
  dsimp only at o1 H1 ⊢
  obtain ⟨o11, o12, o13⟩ := o1
  have o2 := order2_lt (lt := ltOf cf) (d := d) (s := r13) o12 hk
  have H2 : Hid (∀ w', Cnt1 encW w0 blk 0 d c r13 w' → _) := Lib.hid fun w' C' => HO.out w' r12 k r13 C' o12 hk (by omega)
  generalize order2 (ltOf cf) d r12 k r13 = r2 at *
  obtain ⟨r21, r22, r23⟩ := r2
  dsimp only at o2 H2 ⊢
  obtain ⟨o21, o22, o23⟩ := o2
  have o3 := order2_lt (lt := ltOf cf) (d := d) (s := r23) o11 o21
  have H3 : Hid (∀ w', Cnt1 encW w0 blk 0 d c r23 w' → _) := Lib.hid fun w' C' => HO.out w' r11 r21 r23 C' o11 o21 (by omega)
  generalize order2 (ltOf cf) d r11 r21 r23 = r3 at *
  obtain ⟨r31, r32, r33⟩ := r3
  dsimp only at o3 H3 ⊢
  obtain ⟨o31, o32, o33⟩ := o3
  have HB : Hid (r32 < n ∧ r33 ≤ s + 3) := Lib.hid ⟨o32, by omega⟩
  clear HO HC C H hs hn o11 o12 o13 o21 o22 o23 o31 o32 o33
  go_enter Tryz.func191, Tryz.ntmps191
  go_wp2_with (first
    | (go_at_call 196; go_fit H1.out; rintro e w1 HY; obtain rfl := HY.1; have HZ1 := HY.2; clear HY)
    | (go_at_call 196; go_fit (H2.out _ HZ1.out); rintro e w2 HY; obtain rfl := HY.1; have HZ2 := HY.2; clear HY)
    | (go_at_call 196; go_fit (H3.out _ HZ2.out); rintro e w3 HY; obtain rfl := HY.1; have HZ3 := HY.2; clear HY))
  exact bodyPost_ret (v := .int .i64 r32) (by simp [results, Tryz.results191, go_sem]) rfl ⟨rfl, Lib.hid ⟨HZ3.out, HB.out⟩⟩

set_option maxHeartbeats 800000 in
set_option maxRecDepth 100000 in
theorem medAdj_any {cf : (W64 G) → (W64 G) → Int} {l blk cap : Nat} {d0 : Array (W64 G)} {w0 : World} (H : Srt cf l blk cap d0 w0) {d : Array (W64 G)} {w : World} (hs : d.size = d0.size) {c s : Nat} (C : Cnt1 encW w0 blk 0 d c s w) {a n : Nat} (hn : n = d0.size) (ha0 : 0 < a) (ha : a + 1 < n) (hs1 : s < 10000) :
    Calls Tryz.prog 190 #[.slice (some ⟨blk, 0, none⟩) n cap, .int .i64 a, .pointer (some ⟨c, 0, none⟩), .func (.func 110) #[.pointer (some ⟨l, 0, none⟩)] #[]] w fun e w' => e = .returned (.int .i64 (medianAdjacent (ltOf cf) d a s).1) ∧ Hid (Cnt1 encW w0 blk 0 d c (medianAdjacent (ltOf cf) d a s).2 w' ∧ (medianAdjacent (ltOf cf) d a s).1 < n ∧ (medianAdjacent (ltOf cf) d a s).2 ≤ s + 3) := by
  have hbig := H.big
  have hn1 : n < 1000000 := by omega
  have HM := Lib.hid (median_any H hs C (a := a - 1) (b := a) (k := a + 1) hn (by omega) (by omega) ha hs1)
  unfold medianAdjacent
  generalize median (ltOf cf) d (a - 1) a (a + 1) s = r at *
  obtain ⟨ap, hap⟩ : ∃ x, a = x + 1 := ⟨a - 1, by omega⟩
  obtain ⟨an, han⟩ : ∃ x, a + 1 = x := ⟨_, rfl⟩
  rw [han, show a - 1 = ap by omega] at HM
  have hapz : (a : Int) - 1 = (ap : Int) := by omega
  have hanz : (a : Int) + 1 = (an : Int) := by omega
  have hap2 : ap < n := by omega
  have han2 : an < n := by omega
  clear H hs C hn ha0 ha hbig hap han
  go_enter Tryz.func190, Tryz.ntmps190
  go_wp2_with (go_at_call 191; go_fit HM.out; rintro e w1 HY; obtain rfl := HY.1; have HZ1 := HY.2; clear HY)
  exact bodyPost_ret (v := .int .i64 r.1) (by simp [results, Tryz.results190, go_sem]) rfl ⟨rfl, HZ1⟩
end Go.Proofs.YtdjieapobodakaaGreatDoor.Lan
end
