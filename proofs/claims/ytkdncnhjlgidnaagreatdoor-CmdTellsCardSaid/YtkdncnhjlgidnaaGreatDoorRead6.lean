/- What is proved here: what a reader's call Nums returns, where the reader is behind it, and that nothing else that was there has changed. Slices of at most a million elements. -/
import Derived.Test.YtkdncnhjlgidnaaGreatDoorRead5
namespace Go.Proofs.YtkdncnhjlgidnaaGreatDoor
open Go Go.RowKit

set_option maxHeartbeats 800000 in
set_option maxRecDepth 100000 in
theorem nums1_all (A : Option Addr) (n c B : Nat) (xs : List Int) (p m : Nat) (most : Int) (w : World) (h : Rd w B .u8 A n c xs) (hB : B ≤ w.heap.size) (hm : Blk w m 3 #[.int .i64 most]) (hx : ∀ x ∈ xs, 0 ≤ x ∧ x < 256) (hn : n ≤ 1000000) (hp : p ≤ n) (T : List Int × Nat × Nat) (hT : numsR xs p most = T) :
    Calls Tryz.prog 43 #[.agg #[.slice A n c, .int .i64 p], .pointer (some ⟨m, 0, none⟩)] w fun e w' =>
      ∃ (r : Value) (q : Int), e = .returned (.tuple #[r, .agg #[.slice A n c, .int .i64 q], .int .i64 T.2.2]) ∧ w'.ownsRow w.heap.size 3 1 r T.1.length (T.1.map (Value.int .i64)) ∧ (T.2.2 = 0 → q = ((p + T.2.1 : Nat) : Int) ∧ p + T.2.1 ≤ n) ∧ Below w.heap.size w w' := by
  have HN := Lib.hid (fun W h hB => hT ▸ nums_all A n c B xs p W h hB hx hn hp most)
  clear hx hT
  have hm0 := hm.cell 0
  have hml := hm.lt
  have hml1 : m < w.heap.size + 1 := by omega
  simp at hm0
  go_enter Tryz.func43, Tryz.ntmps43
  go_wp2_with (go_at_call 44; refine (HN.out _ ((h.alloc hB _).alloc (by simp; omega) _) (by simp; omega)).mono ?_; rintro e w1 ⟨r, q, rfl, ho, hq, hb⟩
               obtain ⟨hk1, hk2, hb1⟩ := two_blocks hb
               clear hb
               have c0 := hk1.cell 0
               have c1 := hk1.cell 1
               have f0 := hk1.free 0
               have f1 := hk1.free 1
               have d0 := hk2.cell 0
               have d1 := hk2.cell 1
               have g0 := hk2.free 0
               have g1 := hk2.free 1
               simp at c0 c1 d0 d1)
  have hk7 := (hk2.set 0 (Value.slice A n c)).set 1 (Value.int IntKind.i64 q)
  have r0 := hk7.cell 0
  have r1 := hk7.cell 1
  simp at r0 r1
  refine bodyPost_ret (v := .tuple #[r, .agg #[Value.slice A n c, .int .i64 q], .int .i64 T.2.2]) (by simp [results, Tryz.results43, go_sem, r0, r1]) rfl ?_
  exact ⟨r, q, rfl, own_base ((ownsRow_setCell_below (a := ⟨w.heap.size + 1, 1, none⟩) (ownsRow_setCell_below (a := ⟨w.heap.size + 1, 0, none⟩) ho (by simp) (Value.slice A n c)) (by simp) (Value.int IntKind.i64 q))) (by simp; omega), hq, (hb1.setCell (show w.heap.size ≤ w.heap.size + 1 by omega) _).setCell (show w.heap.size ≤ w.heap.size + 1 by omega) _⟩
set_option maxHeartbeats 800000 in
set_option maxRecDepth 100000 in
theorem readNums_ok (g : Nat) (A : Option Addr) (n c : Nat) (xs : List Int) (p : Nat) (w : World) (m : Nat) (most : Int) (hm : Blk w m 3 #[.int .i64 most]) (hr : Rdr w g A n c xs p 0) (hx : ∀ x ∈ xs, 0 ≤ x ∧ x < 256) (hn : n ≤ 1000000) (hp : p ≤ n) (bs : List Int) (us : Nat) (hT : numsR xs p most = (bs, us, 0)) :
    Calls Tryz.prog 42 #[.pointer (some ⟨g, 0, none⟩), .func (.func 43) #[] #[.pointer (some ⟨m, 0, none⟩)]] w fun e w' =>
      ∃ r, e = .returned (r) ∧ w'.ownsRow (g + 1) 3 1 r bs.length (bs.map (Value.int .i64)) ∧ Blk w' g 100 #[.slice A n c, .int .i64 ((p + us : Nat) : Int), .int .i64 0] ∧ w.grownBy w' (some g) := by
  have hk := hr.1
  have HN := Lib.hid (nums1_all A n c g xs p m most w hr.2 (Nat.le_of_lt hk.lt) hm hx hn hp _ hT)
  clear hx hT
  have c0 := hk.cell 0
  have c1 := hk.cell 1
  have c2 := hk.cell 2
  have f0 := hk.free 0
  have f1 := hk.free 1
  have f2 := hk.free 2
  simp at c0 c1 c2
  go_enter Tryz.func42, Tryz.ntmps42
  go_wp2_with (go_at_call 43; refine HN.out.mono ?_; rintro e w1 ⟨r, q, rfl, ho, hq, hb⟩
               obtain ⟨rfl, _⟩ := hq rfl
               have hk1 := hk.below hb hk.lt
               have hg1 := hk1.lt
               clear c0 c1 c2 f0 f1 f2
               have c0 := hk1.cell 0
               have c1 := hk1.cell 1
               have c2 := hk1.cell 2
               have f0 := hk1.free 0
               have f1 := hk1.free 1
               have f2 := hk1.free 2
               simp at c0 c1 c2)
  have hk2 := ((hk1.set 0 (Value.slice A n c)).set 1 (Value.int IntKind.i64 (↑p + ↑us))).alloc (.cells #[.slice A n c, .int .i64 (↑p + ↑us)] 98)
  have hgr := grow_alloc (grow_set (grow_set (grow_below (g := g) hb) 0 (Value.slice A n c)) 1 (Value.int IntKind.i64 (↑p + ↑us))) (.cells #[.slice A n c, .int .i64 (↑p + ↑us)] 98)
  go_ret
  have ho1 : w1.ownsRow (g + 1) 3 1 r bs.length (bs.map (Value.int .i64)) := own_base ho hk.lt
  have ho2 := ownsRow_setCell_below (a := ⟨g, 0, none⟩) ho1 (Nat.lt_succ_self g) (Value.slice A n c)
  have ho3 := ownsRow_setCell_below (a := ⟨g, 1, none⟩) ho2 (Nat.lt_succ_self g) (Value.int IntKind.i64 (↑p + ↑us))
  have ho4 := ho3.alloc (.cells #[.slice A n c, .int .i64 (↑p + ↑us)] 98)
  exact ⟨r, rfl, ho4, by simpa using hk2, hgr⟩
set_option maxHeartbeats 800000 in
set_option maxRecDepth 100000 in
theorem readNums_no (g : Nat) (A : Option Addr) (n c : Nat) (xs : List Int) (p : Nat) (w : World) (m : Nat) (most : Int) (hm : Blk w m 3 #[.int .i64 most]) (hr : Rdr w g A n c xs p 0) (hx : ∀ x ∈ xs, 0 ≤ x ∧ x < 256) (hn : n ≤ 1000000) (hp : p ≤ n) (us : Nat) (er : Nat) (he : er = 2 ∨ er = 3) (hT : numsR xs p most = ([], us, er)) :
    Calls Tryz.prog 42 #[.pointer (some ⟨g, 0, none⟩), .func (.func 43) #[] #[.pointer (some ⟨m, 0, none⟩)]] w fun e w' =>
      e = .returned (.slice none 0 0) ∧ Blk w' g 100 #[.slice A n c, .int .i64 p, .int .i64 er] ∧ w.grownBy w' (some g) := by
  have hk := hr.1
  have HN := Lib.hid (nums1_all A n c g xs p m most w hr.2 (Nat.le_of_lt hk.lt) hm hx hn hp _ hT)
  clear hx hT
  have c0 := hk.cell 0
  have c1 := hk.cell 1
  have c2 := hk.cell 2
  have f0 := hk.free 0
  have f1 := hk.free 1
  have f2 := hk.free 2
  simp at c0 c1 c2
  rcases he with rfl | rfl
  · go_enter Tryz.func42, Tryz.ntmps42
    go_wp2_with (go_at_call 43; refine HN.out.mono ?_; rintro e w1 ⟨r, q, rfl, ho, hq, hb⟩
                 have hk1 := hk.below hb hk.lt
                 have hg1 := hk1.lt
                 clear c0 c1 c2 f0 f1 f2
                 have c0 := hk1.cell 0
                 have c1 := hk1.cell 1
                 have c2 := hk1.cell 2
                 have f0 := hk1.free 0
                 have f1 := hk1.free 1
                 have f2 := hk1.free 2
                 simp at c0 c1 c2)
    have hk2 := (hk1.set 2 (Value.int IntKind.i64 2)).alloc (.cells #[.slice A n c, .int .i64 q] 98)
    have hgr := grow_alloc (grow_set (grow_below (g := g) hb) 2 (Value.int IntKind.i64 2)) (.cells #[.slice A n c, .int .i64 q] 98)
    go_ret
    exact ⟨rfl, by simpa using hk2, hgr⟩
  · go_enter Tryz.func42, Tryz.ntmps42
    go_wp2_with (go_at_call 43; refine HN.out.mono ?_; rintro e w1 ⟨r, q, rfl, ho, hq, hb⟩
                 have hk1 := hk.below hb hk.lt
                 have hg1 := hk1.lt
                 clear c0 c1 c2 f0 f1 f2
                 have c0 := hk1.cell 0
                 have c1 := hk1.cell 1
                 have c2 := hk1.cell 2
                 have f0 := hk1.free 0
                 have f1 := hk1.free 1
                 have f2 := hk1.free 2
                 simp at c0 c1 c2)
    have hk2 := (hk1.set 2 (Value.int IntKind.i64 3)).alloc (.cells #[.slice A n c, .int .i64 q] 98)
    have hgr := grow_alloc (grow_set (grow_below (g := g) hb) 2 (Value.int IntKind.i64 3)) (.cells #[.slice A n c, .int .i64 q] 98)
    go_ret
    exact ⟨rfl, by simpa using hk2, hgr⟩
set_option maxHeartbeats 800000 in
set_option maxRecDepth 100000 in
theorem readNums_stop (g : Nat) (A : Option Addr) (n c : Nat) (xs : List Int) (p : Nat) (w : World) (why : Nat) (hw : why = 2 ∨ why = 3) (hr : Rdr w g A n c xs p why) (m : Nat) :
    Calls Tryz.prog 42 #[.pointer (some ⟨g, 0, none⟩), .func (.func 43) #[] #[.pointer (some ⟨m, 0, none⟩)]] w fun e w' =>
      e = .returned (.slice none 0 0) ∧ w = w' := by
  have hk := hr.1
  have c0 := hk.cell 0
  have c1 := hk.cell 1
  have c2 := hk.cell 2
  have f0 := hk.free 0
  have f1 := hk.free 1
  have f2 := hk.free 2
  simp at c0 c1 c2
  rcases hw with rfl | rfl
  · go_enter Tryz.func42, Tryz.ntmps42
    go_wp2
    go_ret
    exact ⟨rfl, rfl⟩
  · go_enter Tryz.func42, Tryz.ntmps42
    go_wp2
    go_ret
    exact ⟨rfl, rfl⟩
end Go.Proofs.YtkdncnhjlgidnaaGreatDoor
