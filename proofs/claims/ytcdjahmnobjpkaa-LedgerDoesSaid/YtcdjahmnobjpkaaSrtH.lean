/- What is proved here: slices.heapSortCmpFunc and slices.reverseRangeCmpFunc, with a comparison that is a method of a ledger. -/
import Derived.Test.YtcdjahmnobjpkaaSrtS
namespace Go.Proofs.Ytcdjahmnobjpkaa
open Go Go.RowKit Go.Maps Go.WideMaps Go.Shelf Go.Lib Go.Sort

variable {G : ByteArray → Prop} [Inhabited (W64 G)]

theorem rev_go (i j : Nat) (d : Array (W64 G)) (h : i < j) : reverseLoop i j d = reverseLoop (i + 1) (j - 1) (swp d i j) := by rw [reverseLoop, if_pos h]
theorem rev_stop (i j : Nat) (d : Array (W64 G)) (h : ¬ i < j) : reverseLoop i j d = d := by rw [reverseLoop, if_neg h]

set_option maxHeartbeats 6400000 in
set_option maxRecDepth 100000 in
theorem rev_any {cf : (W64 G) → (W64 G) → Int} {l blk cap : Nat} {d0 : Array (W64 G)} {w0 : World} (H : Srt cf l blk cap d0 w0) {d : Array (W64 G)} {w : World} (hs : d.size = d0.size) (S : SW encW w0 blk 0 d w) {a b n : Nat} (hn : n = d0.size) (hab : a < b) (hb : b ≤ n) (f : Value) :
    Calls Try.prog 47 #[.slice (some ⟨blk, 0, none⟩) n cap, .int .i64 a, .int .i64 b, f] w fun e w' => e = .returned (.tuple #[]) ∧ Hid (SW encW w0 blk 0 (reverseRange d a b) w' ∧ (reverseRange d a b).size = d0.size) := by
  have HS := Lib.hid S
  have HZ := Lib.hid hs
  have hbig := H.big
  have hcap := H.cap
  have HN := Lib.hid hn
  have HH := Lib.hid H
  have hn1 : n < 1000000 := by omega
  have hnc : n ≤ cap := by omega
  obtain ⟨bp, hbp⟩ : ∃ x, b = x + 1 := ⟨b - 1, by omega⟩
  have HB := Lib.hid hbp
  have hbpz : (b : Int) - 1 = (bp : Int) := by omega
  have hbpn : bp < n := by omega
  have HR : Hid (reverseRange d a b = reverseLoop a bp d) := Lib.hid (by unfold reverseRange; rw [hbp]; rfl)
  clear S hs hn hbig hcap H hbp
  go_enter Try.func47, Try.ntmps47
  go_wp2
  go_loopw [8, 9] (fun vi vj wr => ∃ (i j : Nat) (dk : Array (W64 G)), vi = .int .i64 i ∧ vj = .int .i64 j ∧ i ≤ n ∧ j < n ∧ Hid (dk.size = d0.size) ∧ Hid (SW encW w0 blk 0 dk wr) ∧ Hid (reverseLoop i j dk = reverseLoop a bp d)) (fun _ vj _ => (intOf vj).toNat)
  case atStart => exact ⟨a, bp, d, rfl, rfl, by omega, hbpn, HZ, HS, Lib.hid rfl⟩
  case round =>
    clear HS HZ
    obtain ⟨i, j, dk, rfl, rfl, hin, hjn, HZ, HS, HO⟩ := hrel
    by_cases hlt : i < j
    · have hlz : (i : Int) < (j : Int) := by omega
      obtain ⟨jp, hjp⟩ : ∃ x, j = x + 1 := ⟨j - 1, by omega⟩
      have hjz : (j : Int) - 1 = (jp : Int) := by omega
      have hjpn : jp < n := by omega
      have hii : (i : Int) < (n : Int) := by omega
      have hji : (j : Int) < (n : Int) := by omega
      have hid : i < d0.size := by have := HN.out; omega
      have hjd : j < d0.size := by have := HN.out; omega
      have HO2 : Hid (reverseLoop (i + 1) jp (swp dk i j) = reverseLoop a bp d) := Lib.hid (by rw [← HO.out, rev_go _ _ _ hlt, hjp]; rfl)
      have HJ := Lib.hid hjp
      clear hjp HO
      obtain ⟨y1, HY1, p1, b1, g1⟩ := HH.out.look HZ.out HS.out hid
      obtain ⟨y2, HY2, p2, b2, g2⟩ := HH.out.look HZ.out HS.out hjd
      have HSW : Hid (∀ q, SW encW w0 blk 0 (swp dk i j) (((wr.setCell ⟨blk, i, none⟩ (.string y2.val)).setCell ⟨blk, j, none⟩ (.string y1.val)).drewN q)) := Lib.hid (HH.out.swap2 HZ.out HS.out hid hjd HY1.out HY2.out)
      have HZ3 : Hid ((swp dk i j).size = d0.size) := Lib.hid (by rw [swp_sz]; exact HZ.out)
      generalize swp dk i j = ds at *
      clear HS HZ HY1 HY2
      go_wp2_with fail
      go_region
      have HS3 : Hid (SW encW w0 blk 0 ds ((wr.setCell ⟨blk, i, none⟩ (.string y2.val)).setCell ⟨blk, j, none⟩ (.string y1.val)).drew) := Lib.hid (HSW.out 1)
      generalize ((wr.setCell ⟨blk, i, none⟩ (.string y2.val)).setCell ⟨blk, j, none⟩ (.string y1.val)).drew = W3 at *
      clear HSW
      go_wp2
      go_roundw
      case rel => exact ⟨i + 1, jp, ds, by go_num, by go_num, by omega, hjpn, HZ3, HS3, HO2⟩
      case measure => (simp [intOf] <;> omega)
    · have hlz : ¬ (i : Int) < (j : Int) := by omega
      go_wp2
      (first | go_end0 | refine bodyPost_ret (results_none rfl _ _ _) rfl ?_)
      refine ⟨rfl, Lib.hid ?_⟩
      have hO : dk = reverseRange d a b := by rw [HR.out, ← HO.out, rev_stop _ _ _ hlt]
      rw [← hO]
      exact ⟨HS.out, HZ.out⟩

set_option maxHeartbeats 6400000 in
set_option maxRecDepth 100000 in
theorem heap_any {cf : (W64 G) → (W64 G) → Int} {l blk cap : Nat} {d0 : Array (W64 G)} {w0 : World} (H : Srt cf l blk cap d0 w0) {d : Array (W64 G)} {w : World} (hs : d.size = d0.size) (S : SW encW w0 blk 0 d w) {a b n : Nat} (hn : n = d0.size) (hab : a < b) (hb : b ≤ n) :
    Calls Try.prog 44 #[.slice (some ⟨blk, 0, none⟩) n cap, .int .i64 a, .int .i64 b, .func (.func 30) #[.pointer (some ⟨l, 0, none⟩)] #[]] w fun e w' => e = .returned (.tuple #[]) ∧ Hid (SW encW w0 blk 0 (Sort.heapSort (ltOf cf) d a b) w' ∧ (Sort.heapSort (ltOf cf) d a b).size = d0.size) := by
  have HS := Lib.hid S
  have HZ := Lib.hid hs
  have hbig := H.big
  have hcap := H.cap
  have HN := Lib.hid hn
  have HH := Lib.hid H
  have hn1 : n < 1000000 := by omega
  have hnc : n ≤ cap := by omega
  obtain ⟨hp, hhp⟩ : ∃ x, b - a = x + 1 := ⟨b - a - 1, by omega⟩
  obtain ⟨hi, hhi⟩ : ∃ x, b - a = x := ⟨b - a, rfl⟩
  obtain ⟨m, hm⟩ : ∃ x, hp / 2 = x := ⟨_, rfl⟩
  have hbaz : (b : Int) - (a : Int) = (hi : Int) := by omega
  have hhpz : (hi : Int) - 1 = (hp : Int) := by omega
  have hmz : Int.tdiv (hp : Int) 2 = (m : Int) := by rw [← hm]; exact (Int.ofNat_tdiv hp 2).symm
  have hin : a + hi ≤ n := by omega
  have hpi : hp < hi := by omega
  have hmi : m < hi := by omega
  have HD : Hid (Sort.heapSort (ltOf cf) d a b = heapPop (ltOf cf) a hi (heapBuild (ltOf cf) hi a (m + 1) d)) := Lib.hid (by unfold Sort.heapSort; rw [hhi, ← hm, show hi - 1 = hp by omega])
  have HP : Hid (hi = hp + 1) := Lib.hid (by omega)
  clear S hs hn hbig hcap H hhp hhi hm
  go_enter Try.func44, Try.ntmps44
  go_wp2
  go_loopw [11] (fun vi wr => ∃ (k : Nat) (dk : Array (W64 G)), vi = .int .i64 ((k : Int) - 1) ∧ k ≤ m + 1 ∧ Hid (dk.size = d0.size) ∧ Hid (SW encW w0 blk 0 dk wr) ∧ Hid (heapBuild (ltOf cf) hi a k dk = heapBuild (ltOf cf) hi a (m + 1) d)) (fun vi _ => (intOf vi + 1).toNat)
  case atStart => exact ⟨m + 1, d, by congr 1; omega, by omega, HZ, HS, Lib.hid rfl⟩
  case round =>
    clear HS HZ
    obtain ⟨k, dk, rfl, hkm, HZ, HS, HO⟩ := hrel
    by_cases hk : k = 0
    · have hkz : ¬ (0 : Int) ≤ (k : Int) - 1 := by omega
      have HS2 : Hid (heapBuild (ltOf cf) hi a (m + 1) d = dk) := Lib.hid (by rw [← HO.out, hk]; rfl)
      clear HO
      go_wp2
      clear hkz hk hkm
      generalize hd1 : heapBuild (ltOf cf) hi a (m + 1) d = d1 at *
      obtain rfl := HS2.out
      clear hd1 HS2
      go_loopw [12] (fun vi wr => ∃ (k : Nat) (dk : Array (W64 G)), vi = .int .i64 ((k : Int) - 1) ∧ k ≤ hi ∧ Hid (dk.size = d0.size) ∧ Hid (SW encW w0 blk 0 dk wr) ∧ Hid (heapPop (ltOf cf) a k dk = heapPop (ltOf cf) a hi d1)) (fun vi _ => (intOf vi + 1).toNat)
      case atStart => exact ⟨hi, _, by congr 1; omega, Nat.le_refl _, HZ, HS, Lib.hid rfl⟩
      case round =>
        clear HS HZ
        obtain ⟨k, dk, rfl, hkm, HZ, HS, HO⟩ := hrel
        by_cases hk : k = 0
        · have hkz : ¬ (0 : Int) ≤ (k : Int) - 1 := by omega
          have HS2 : Hid (heapPop (ltOf cf) a hi d1 = dk) := Lib.hid (by rw [← HO.out, hk]; rfl)
          clear HO
          go_wp2
          go_end0
          refine ⟨rfl, Lib.hid ?_⟩
          rw [HD.out, HS2.out]
          exact ⟨HS.out, HZ.out⟩
        · obtain ⟨i, hi1⟩ : ∃ x, k = x + 1 := ⟨k - 1, by omega⟩
          have hiz : (k : Int) - 1 = (i : Int) := by omega
          have hi0 : (0 : Int) ≤ (i : Int) := by omega
          by_cases hi0p : 0 < i
          · obtain ⟨fi, hfi⟩ : ∃ x, x = a + i := ⟨_, rfl⟩
            have hfiz : (a : Int) + (i : Int) = (fi : Int) := by omega
            have hfin : (fi : Int) < (n : Int) := by omega
            have han : (a : Int) < (n : Int) := by omega
            have hfid : fi < d0.size := by have := HN.out; omega
            have hne : a < fi := by omega
            have had : a < d0.size := by have := HN.out; omega
            have HO2 : Hid (heapPop (ltOf cf) a i (siftDown (ltOf cf) i a 0 (swp dk a fi)) = heapPop (ltOf cf) a hi d1) := Lib.hid (by rw [← HO.out, hi1, hfi]; rfl)
            have HK := Lib.hid hi1
            have HFI := Lib.hid hfi
            have hih : i < hi := by omega
            have HAI : Hid (a + i ≤ n) := Lib.hid (by omega)
            obtain ⟨y1, HY1, p1, b1, g1⟩ := HH.out.look HZ.out HS.out had
            obtain ⟨y2, HY2, p2, b2, g2⟩ := HH.out.look HZ.out HS.out hfid
            have HSW : Hid (∀ q, SW encW w0 blk 0 (swp dk a fi) (((wr.setCell ⟨blk, a, none⟩ (.string y2.val)).setCell ⟨blk, fi, none⟩ (.string y1.val)).drewN q)) := Lib.hid (HH.out.swap2 HZ.out HS.out had hfid HY1.out HY2.out)
            have HZ2 : Hid ((swp dk a fi).size = d0.size) := Lib.hid (by rw [swp_sz]; exact HZ.out)
            generalize swp dk a fi = ds at *
            clear HS HZ HY1 HY2 hfi hi1 HO hk
            go_wp2_with fail
            go_region
            have HS3 : Hid (SW encW w0 blk 0 ds ((wr.setCell ⟨blk, a, none⟩ (.string y2.val)).setCell ⟨blk, fi, none⟩ (.string y1.val)).drew) := Lib.hid (HSW.out 1)
            generalize ((wr.setCell ⟨blk, a, none⟩ (.string y2.val)).setCell ⟨blk, fi, none⟩ (.string y1.val)).drew = W3 at *
            clear HSW p1 p2 b1 b2 g1 g2
            have HC := Lib.hid (sift_any HH.out HZ2.out HS3.out HN.out (lo := 0) (hi := i) (first := a) (by omega) HAI.out)
            go_wp2_with (go_at_call 57; refine HC.out.mono ?_; rintro e w2 HY; obtain rfl := HY.1; have HZ3 := HY.2; clear HY)
            go_roundw
            case rel => exact ⟨i, _, rfl, by omega, Lib.hid HZ3.out.2, Lib.hid HZ3.out.1, HO2⟩
            case measure => (simp [intOf] <;> omega)
          · have hi00 : i = 0 := by omega
            subst hi00
            have hiz0 : (k : Int) - 1 = 0 := by omega
            clear hiz hi0
            have han : (a : Int) < (n : Int) := by omega
            have had : a < d0.size := by have := HN.out; omega
            have HO2 : Hid (heapPop (ltOf cf) a 0 (siftDown (ltOf cf) 0 a 0 (swp dk a a)) = heapPop (ltOf cf) a hi d1) := Lib.hid (by rw [← HO.out, hi1]; rfl)
            have HK := Lib.hid hi1
            obtain ⟨y1, HY1, p1, b1, g1⟩ := HH.out.look HZ.out HS.out had
            have HSW : Hid (∀ q, SW encW w0 blk 0 (swp dk a a) (((wr.setCell ⟨blk, a, none⟩ (.string y1.val)).setCell ⟨blk, a, none⟩ (.string y1.val)).drewN q)) := Lib.hid (HH.out.swap2 HZ.out HS.out had had HY1.out HY1.out)
            have HZ2 : Hid ((swp dk a a).size = d0.size) := Lib.hid (by rw [swp_sz]; exact HZ.out)
            generalize swp dk a a = ds at *
            clear HS HZ HY1 hi1 HO hk
            go_wp2_with fail
            go_region
            have HS3 : Hid (SW encW w0 blk 0 ds ((wr.setCell ⟨blk, a, none⟩ (.string y1.val)).setCell ⟨blk, a, none⟩ (.string y1.val)).drew) := Lib.hid (HSW.out 1)
            generalize ((wr.setCell ⟨blk, a, none⟩ (.string y1.val)).setCell ⟨blk, a, none⟩ (.string y1.val)).drew = W3 at *
            clear HSW p1 b1 g1
            have HC : Hid (Calls Try.prog 57 #[.slice (some ⟨blk, 0, none⟩) n cap, .int .i64 0, .int .i64 0, .int .i64 a, .func (.func 30) #[.pointer (some ⟨l, 0, none⟩)] #[]] W3 _) := Lib.hid (sift_any HH.out HZ2.out HS3.out HN.out (lo := 0) (hi := 0) (first := a) (by omega) (by omega))
            go_wp2_with (go_at_call 57; refine HC.out.mono ?_; rintro e w2 HY; obtain rfl := HY.1; have HZ3 := HY.2; clear HY)
            go_roundw
            case rel => exact ⟨0, _, rfl, by omega, Lib.hid HZ3.out.2, Lib.hid HZ3.out.1, HO2⟩
            case measure => (simp [intOf] <;> omega)
    · obtain ⟨i, hi1⟩ : ∃ x, k = x + 1 := ⟨k - 1, by omega⟩
      have hiz : (k : Int) - 1 = (i : Int) := by omega
      have hi0 : (0 : Int) ≤ (i : Int) := by omega
      have hin2 : i ≤ n := by omega
      have HO2 : Hid (heapBuild (ltOf cf) hi a i (siftDown (ltOf cf) hi a i dk) = heapBuild (ltOf cf) hi a (m + 1) d) := Lib.hid (by rw [← HO.out, hi1]; rfl)
      have HK := Lib.hid hi1
      have him : i ≤ m := by omega
      have HC := Lib.hid (sift_any HH.out HZ.out HS.out HN.out (lo := i) (hi := hi) (first := a) hin2 (by omega))
      clear hi1 HO HS HZ hk
      go_wp2_with (go_at_call 57; refine HC.out.mono ?_; rintro e w2 HY; obtain rfl := HY.1; have HZ3 := HY.2; clear HY)
      go_roundw
      case rel => exact ⟨i, _, rfl, by omega, Lib.hid HZ3.out.2, Lib.hid HZ3.out.1, HO2⟩
      case measure => (simp [intOf] <;> omega)
end Go.Proofs.Ytcdjahmnobjpkaa
