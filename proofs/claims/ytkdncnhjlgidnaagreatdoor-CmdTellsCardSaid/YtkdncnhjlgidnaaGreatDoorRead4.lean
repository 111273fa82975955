/- What is proved here: what a reader's inner functions for a list returns, whatever the memory. Slices of at most a million elements. -/
import Derived.Test.YtkdncnhjlgidnaaGreatDoorRead3
namespace Go.Proofs.YtkdncnhjlgidnaaGreatDoor
open Go Go.RowKit

/-- The list that is read: so many numbers, one behind the other. -/
def numsF : Nat → List Int → Nat → List Int → List Int × Nat × Nat
  | 0, acc, used, _ => (acc, used, 0)
  | k + 1, acc, used, l => if (numF 9 0 0 l).2.2 = 0 then numsF k (acc ++ [((numF 9 0 0 l).1 : Int)]) (used + (numF 9 0 0 l).2.1) (l.drop (numF 9 0 0 l).2.1) else ([], 0, (numF 9 0 0 l).2.2)

theorem numsF_on {l : List Int} {v u : Nat} (h : numF 9 0 0 l = (v, u, 0)) (k : Nat) (acc : List Int) (used : Nat) : numsF (k + 1) acc used l = numsF k (acc ++ [(v : Int)]) (used + u) (l.drop u) := by
  rw [numsF, h, if_pos rfl]
theorem numsF_no {l : List Int} {er : Nat} (h : numF 9 0 0 l = (0, 0, er)) (he : er = 2 ∨ er = 3) (k : Nat) (acc : List Int) (used : Nat) : numsF (k + 1) acc used l = ([], 0, er) := by
  rw [numsF, h, if_neg (by rcases he with rfl | rfl <;> simp)]

theorem own_below {w w1 : World} {base e size n : Nat} {v : Value} {ys : List Value} (h : w.ownsRow base e size v n ys) (hb : Below w.heap.size w w1) : w1.ownsRow base e size v n ys :=
  h.kept (row := Option.none) ⟨hb.os, hb.tape, hb.output, hb.size, fun k hk _ => hb.block k hk⟩ (by cases hv : v.ownBlock <;> simp)

theorem own_base {w : World} {base base' e size n : Nat} {v : Value} {ys : List Value} (h : w.ownsRow base e size v n ys) (hb : base' ≤ base) : w.ownsRow base' e size v n ys := by
  obtain ⟨h1, h2⟩ := h
  refine ⟨h1, ?_⟩
  rcases h2 with h2 | ⟨g, cap, cur, hv, hg, r⟩
  · exact .inl h2
  · exact .inr ⟨g, cap, cur, hv, by omega, r⟩

theorem news_set (w : World) (a b : Addr) (x y u : Value) (t : TypeId) : ∀ ad, some (⟨w.heap.size, 0, none⟩ : Addr) = some ad → ∀ j z, [u][j]? = some z → (((w.setCell a x).setCell b y).alloc (.cells #[u] t)).cell? (ad.add j) = some z := by
  have h := news_new ((w.setCell a x).setCell b y) u t
  rw [show ((w.setCell a x).setCell b y).heap.size = w.heap.size by simp [World.setCell]] at h
  exact h

theorem info_int : (Tryz.prog.info? 3).map (fun i => (i.zero, i.size, i.bytes)) = some (some (.int .i64 0), 1, 8) := by kernel_rfl

section
variable (A : Option Addr) (n c B : Nat) (xs : List Int) (p : Nat) (w : World) (h : Rd w B .u8 A n c xs) (hB : B ≤ w.heap.size) (hx : ∀ x ∈ xs, 0 ≤ x ∧ x < 256) (hn : n ≤ 1000000) (hp : p ≤ n)
include h hB hx hn hp

set_option maxHeartbeats 800000 in
set_option maxRecDepth 100000 in
theorem nums_no (most : Int) (er : Nat) (hN : numF 9 0 0 (xs.drop p) = (0, 0, er)) (he : er = 2 ∨ er = 3) :
    Calls Tryz.prog 44 #[.agg #[.slice A n c, .int .i64 p], .int .i64 most] w fun e w' =>
      ∃ q : Int, e = .returned (.tuple #[.slice none 0 0, .agg #[.slice A n c, .int .i64 q], .int .i64 er]) ∧ Below w.heap.size w w' := by
  have HN := Lib.hid (fun W h hB => size_no A n c B xs p W h hB hx hn hp most er hN he)
  clear hN hx
  rcases he with rfl | rfl
  · go_enter Tryz.func44, Tryz.ntmps44
    go_wp2_with (go_at_call 69; refine (HN.out _ ((h.alloc hB _).alloc (by simp; omega) _) (by simp; omega)).mono ?_; rintro e w1 ⟨q, rfl, hb⟩
                 obtain ⟨hk1, hk2, hb1⟩ := two_blocks hb
                 clear hb
                 have c0 := hk1.cell 0
                 have c1 := hk1.cell 1
                 have f0 := hk1.free 0
                 have f1 := hk1.free 1
                 have d0 := hk2.cell 0
                 have d1 := hk2.cell 1
                 have g0 := hk2.free 0
                 have g1 := hk2.free 1
                 simp at c0 c1 d0 d1)
    have hk3 := (hk1.set 0 (Value.slice A n c)).set 1 (Value.int IntKind.i64 (q))
    have hk4 := (hk2.other (p := ⟨w.heap.size, 0, none⟩) (by simp) (Value.slice A n c)).other (p := ⟨w.heap.size, 1, none⟩) (by simp) (Value.int IntKind.i64 (q))
    have hb3 : Below w.heap.size w ((w1.setCell ⟨w.heap.size, 0, none⟩ (Value.slice A n c)).setCell ⟨w.heap.size, 1, none⟩ (Value.int IntKind.i64 (q))) := (hb1.setCell (Nat.le_refl _) _).setCell (Nat.le_refl _) _
    generalize (w1.setCell ⟨w.heap.size, 0, none⟩ (Value.slice A n c)).setCell ⟨w.heap.size, 1, none⟩ (Value.int IntKind.i64 (q)) = w2 at *
    clear c0 c1 f0 f1 d0 d1 g0 g1
    have c0 := hk3.cell 0
    have c1 := hk3.cell 1
    have f0 := hk3.free 0
    have f1 := hk3.free 1
    have d0 := hk4.cell 0
    have d1 := hk4.cell 1
    have g0 := hk4.free 0
    have g1 := hk4.free 1
    simp at c0 c1 d0 d1
    go_region
    have hk7 := (hk4.set 0 (Value.slice A n c)).set 1 (Value.int IntKind.i64 (q))
    have r0 := hk7.cell 0
    have r1 := hk7.cell 1
    simp at r0 r1
    clear c0 c1 f0 f1 d0 d1 g0 g1
    go_wp2
    refine bodyPost_ret (v := .tuple #[.slice none 0 0, .agg #[Value.slice A n c, .int .i64 (q)], .int .i64 2]) (by simp [results, Tryz.results44, go_sem, r0, r1]) rfl ?_
    exact ⟨q, rfl, (((hb3.setCell (by simp) _).setCell (by simp) _).drew)⟩
  · go_enter Tryz.func44, Tryz.ntmps44
    go_wp2_with (go_at_call 69; refine (HN.out _ ((h.alloc hB _).alloc (by simp; omega) _) (by simp; omega)).mono ?_; rintro e w1 ⟨q, rfl, hb⟩
                 obtain ⟨hk1, hk2, hb1⟩ := two_blocks hb
                 clear hb
                 have c0 := hk1.cell 0
                 have c1 := hk1.cell 1
                 have f0 := hk1.free 0
                 have f1 := hk1.free 1
                 have d0 := hk2.cell 0
                 have d1 := hk2.cell 1
                 have g0 := hk2.free 0
                 have g1 := hk2.free 1
                 simp at c0 c1 d0 d1)
    have hk3 := (hk1.set 0 (Value.slice A n c)).set 1 (Value.int IntKind.i64 (q))
    have hk4 := (hk2.other (p := ⟨w.heap.size, 0, none⟩) (by simp) (Value.slice A n c)).other (p := ⟨w.heap.size, 1, none⟩) (by simp) (Value.int IntKind.i64 (q))
    have hb3 : Below w.heap.size w ((w1.setCell ⟨w.heap.size, 0, none⟩ (Value.slice A n c)).setCell ⟨w.heap.size, 1, none⟩ (Value.int IntKind.i64 (q))) := (hb1.setCell (Nat.le_refl _) _).setCell (Nat.le_refl _) _
    generalize (w1.setCell ⟨w.heap.size, 0, none⟩ (Value.slice A n c)).setCell ⟨w.heap.size, 1, none⟩ (Value.int IntKind.i64 (q)) = w2 at *
    clear c0 c1 f0 f1 d0 d1 g0 g1
    have c0 := hk3.cell 0
    have c1 := hk3.cell 1
    have f0 := hk3.free 0
    have f1 := hk3.free 1
    have d0 := hk4.cell 0
    have d1 := hk4.cell 1
    have g0 := hk4.free 0
    have g1 := hk4.free 1
    simp at c0 c1 d0 d1
    go_region
    have hk7 := (hk4.set 0 (Value.slice A n c)).set 1 (Value.int IntKind.i64 (q))
    have r0 := hk7.cell 0
    have r1 := hk7.cell 1
    simp at r0 r1
    clear c0 c1 f0 f1 d0 d1 g0 g1
    go_wp2
    refine bodyPost_ret (v := .tuple #[.slice none 0 0, .agg #[Value.slice A n c, .int .i64 (q)], .int .i64 3]) (by simp [results, Tryz.results44, go_sem, r0, r1]) rfl ?_
    exact ⟨q, rfl, (((hb3.setCell (by simp) _).setCell (by simp) _).drew)⟩
set_option maxHeartbeats 800000 in
set_option maxRecDepth 100000 in
theorem nums_much (most : Int) (v u : Nat) (hN : numF 9 0 0 (xs.drop p) = (v, u, 0)) (hm : most < (v : Int)) :
    Calls Tryz.prog 44 #[.agg #[.slice A n c, .int .i64 p], .int .i64 most] w fun e w' =>
      ∃ q : Int, e = .returned (.tuple #[.slice none 0 0, .agg #[.slice A n c, .int .i64 q], .int .i64 2]) ∧ Below w.heap.size w w' := by
  have HN := Lib.hid (fun W h hB => size_much A n c B xs p W h hB hx hn hp most v u hN hm)
  clear hN hx
  go_enter Tryz.func44, Tryz.ntmps44
  go_wp2_with (go_at_call 69; refine (HN.out _ ((h.alloc hB _).alloc (by simp; omega) _) (by simp; omega)).mono ?_; rintro e w1 ⟨q, rfl, hb⟩
               obtain ⟨hk1, hk2, hb1⟩ := two_blocks hb
               clear hb
               have c0 := hk1.cell 0
               have c1 := hk1.cell 1
               have f0 := hk1.free 0
               have f1 := hk1.free 1
               have d0 := hk2.cell 0
               have d1 := hk2.cell 1
               have g0 := hk2.free 0
               have g1 := hk2.free 1
               simp at c0 c1 d0 d1)
  have hk3 := (hk1.set 0 (Value.slice A n c)).set 1 (Value.int IntKind.i64 (q))
  have hk4 := (hk2.other (p := ⟨w.heap.size, 0, none⟩) (by simp) (Value.slice A n c)).other (p := ⟨w.heap.size, 1, none⟩) (by simp) (Value.int IntKind.i64 (q))
  have hb3 : Below w.heap.size w ((w1.setCell ⟨w.heap.size, 0, none⟩ (Value.slice A n c)).setCell ⟨w.heap.size, 1, none⟩ (Value.int IntKind.i64 (q))) := (hb1.setCell (Nat.le_refl _) _).setCell (Nat.le_refl _) _
  generalize (w1.setCell ⟨w.heap.size, 0, none⟩ (Value.slice A n c)).setCell ⟨w.heap.size, 1, none⟩ (Value.int IntKind.i64 (q)) = w2 at *
  clear c0 c1 f0 f1 d0 d1 g0 g1
  have c0 := hk3.cell 0
  have c1 := hk3.cell 1
  have f0 := hk3.free 0
  have f1 := hk3.free 1
  have d0 := hk4.cell 0
  have d1 := hk4.cell 1
  have g0 := hk4.free 0
  have g1 := hk4.free 1
  simp at c0 c1 d0 d1
  go_region
  have hk7 := (hk4.set 0 (Value.slice A n c)).set 1 (Value.int IntKind.i64 (q))
  have r0 := hk7.cell 0
  have r1 := hk7.cell 1
  simp at r0 r1
  clear c0 c1 f0 f1 d0 d1 g0 g1
  go_wp2
  refine bodyPost_ret (v := .tuple #[.slice none 0 0, .agg #[Value.slice A n c, .int .i64 (q)], .int .i64 2]) (by simp [results, Tryz.results44, go_sem, r0, r1]) rfl ?_
  exact ⟨q, rfl, (((hb3.setCell (by simp) _).setCell (by simp) _).drew)⟩
set_option maxHeartbeats 800000 in
set_option maxRecDepth 100000 in
theorem nums_any (most : Int) (v u : Nat) (hN : numF 9 0 0 (xs.drop p) = (v, u, 0)) (hm : (v : Int) ≤ most) (hu : p + u ≤ n) (hv : v < 9223372036854775808) :
    Calls Tryz.prog 44 #[.agg #[.slice A n c, .int .i64 p], .int .i64 most] w fun e w' =>
      ∃ (r : Value) (q : Int), e = .returned (.tuple #[r, .agg #[.slice A n c, .int .i64 q], .int .i64 (numsF v [] 0 (xs.drop (p + u))).2.2]) ∧
        w'.ownsRow w.heap.size 3 1 r (numsF v [] 0 (xs.drop (p + u))).1.length ((numsF v [] 0 (xs.drop (p + u))).1.map (Value.int .i64)) ∧
        ((numsF v [] 0 (xs.drop (p + u))).2.2 = 0 → q = p + u + (numsF v [] 0 (xs.drop (p + u))).2.1) ∧ Below w.heap.size w w' := by
  have HN := Lib.hid (fun W h hB => size_ok A n c B xs p W h hB hx hn hp most v u hN hm)
  clear hN
  obtain ⟨i0, hi, hz0, hz1, hz2⟩ := info_parts info_int
  generalize hR : numsF v [] 0 (xs.drop (p + u)) = R
  have HR := Lib.hid hR
  clear hR
  have hmin : (min v (n - (p + u)) : Nat) ≤ 1000000 := by omega
  by_cases hvl : (v : Int) ≤ n - (p + u)
  all_goals
    go_enter Tryz.func44, Tryz.ntmps44
    go_wp2_with (go_at_call 69; refine (HN.out _ ((h.alloc hB _).alloc (by simp; omega) _) (by simp; omega)).mono ?_; rintro e w1 ⟨rfl, hb⟩
                 obtain ⟨hk1, hk2, hb1⟩ := two_blocks hb
                 clear hb
                 have c0 := hk1.cell 0
                 have c1 := hk1.cell 1
                 have f0 := hk1.free 0
                 have f1 := hk1.free 1
                 have d0 := hk2.cell 0
                 have d1 := hk2.cell 1
                 have g0 := hk2.free 0
                 have g1 := hk2.free 1
                 simp at c0 c1 d0 d1)
    have hk3 := (hk1.set 0 (Value.slice A n c)).set 1 (Value.int IntKind.i64 (↑p + ↑u))
    have hk4 := (hk2.other (p := ⟨w.heap.size, 0, none⟩) (by simp) (Value.slice A n c)).other (p := ⟨w.heap.size, 1, none⟩) (by simp) (Value.int IntKind.i64 (↑p + ↑u))
    have hb3 : Below w.heap.size w ((w1.setCell ⟨w.heap.size, 0, none⟩ (Value.slice A n c)).setCell ⟨w.heap.size, 1, none⟩ (Value.int IntKind.i64 (↑p + ↑u))) := (hb1.setCell (Nat.le_refl _) _).setCell (Nat.le_refl _) _
    generalize (w1.setCell ⟨w.heap.size, 0, none⟩ (Value.slice A n c)).setCell ⟨w.heap.size, 1, none⟩ (Value.int IntKind.i64 (↑p + ↑u)) = w2 at *
    clear c0 c1 f0 f1 d0 d1 g0 g1
    have c0 := hk3.cell 0
    have c1 := hk3.cell 1
    have f0 := hk3.free 0
    have f1 := hk3.free 1
    have d0 := hk4.cell 0
    have d1 := hk4.cell 1
    have g0 := hk4.free 0
    have g1 := hk4.free 1
    simp at c0 c1 d0 d1
    go_wp2_with (first
      | (go_at_call 68; refine (Left_any A n c _ _ hn (by omega) (by omega)).mono ?_; rintro e w3 ⟨rfl, hw3⟩
         have hb4 : Below w2.heap.size w2 w3 := hw3 ▸ (Below.refl _ _).alloc (Nat.le_refl _) _
         clear hw3
         have hk5 := hk3.below hb4 hk3.lt
         have hk6 := hk4.below hb4 hk4.lt
         have hb5 := hb3.trans (hb4.mono hb3.size)
         clear c0 c1 f0 f1 d0 d1 g0 g1)
      | (at_make
         refine wpList_make_own _ rfl _ _ 24 rfl (w.heap.size + 2) 3 i0 _ 1 Tryz.underlying24 hi hz0 hz1 _ _ _ (min v (n - (p + u))) rfl rfl (by omega) (by rw [hz2]; omega) (by unfold maxLen; omega) (by have := hk6.lt; omega) ?_
         intro w4 hown4 hg4))
    have hb6 : Below w.heap.size w w4 := hb5.grown hg4 hb5.size (fun k hk => by cases hk)
    have hk7 : Blk w4 w.heap.size 98 _ := hk5.grown hg4 (by simp)
    have hk8 : Blk w4 (w.heap.size + 1) 98 _ := hk6.grown hg4 (by simp)
    clear hk1 hk2 hk3 hk4 hk5 hk6 hb1 hb3 hb4 hb5 hg4
    go_loopw [9, 28] (fun v9 v28 wr => ∃ (j used : Nat) (acc : List Int), v28 = .int .i64 j ∧ Hid (acc.length = j) ∧ j ≤ used ∧ j ≤ v ∧ p + u + used ≤ n ∧ Hid (numsF (v - j) acc used (xs.drop (p + u + used)) = R) ∧
        wr.ownsRow (w.heap.size + 2) 3 1 v9 j (acc.map (Value.int .i64)) ∧ Blk wr w.heap.size 98 #[.slice A n c, .int .i64 (↑p + ↑u + ↑used)] ∧ Blk wr (w.heap.size + 1) 98 #[.slice none 0 0, .int .i64 0] ∧ Below w.heap.size w wr)
      (fun _ i _ => v - (intOf i).toNat)
    case atStart => exact ⟨0, 0, [], rfl, Lib.hid rfl, by omega, by omega, by omega, Lib.hid HR.out, hown4, by simpa using hk7, hk8, hb6⟩
    case round =>
      obtain ⟨j, used, acc, rfl, hlen, hju, hjv, hpn, hnum, hown, hk1, hk2, hb1⟩ := hrel
      clear hown4 hk7 hk8 hb6
      have c0 := hk1.cell 0
      have c1 := hk1.cell 1
      have f0 := hk1.free 0
      have f1 := hk1.free 1
      have d0 := hk2.cell 0
      have d1 := hk2.cell 1
      have g0 := hk2.free 0
      have g1 := hk2.free 1
      simp at c0 c1 d0 d1
      by_cases hjl : j < v
      · have hvj : v - j = (v - (j + 1)) + 1 := by omega
        have HVJ := Lib.hid hvj
        clear hvj
        rcases numF_is 9 0 0 (xs.drop (p + u + used)) (by simp) (by omega) with ⟨v', u', hN', hv', hu0, hul⟩ | ⟨er, hN', her⟩
        · have hul' : p + u + used + u' ≤ n := by rw [List.length_drop, h.len] at hul; omega
          have hn2 := num_ok A n c B xs (p + u + used) wr (h.below (hb1.mono hB)) (by have := hb1.size; omega) hx hn (by omega) v' u' hN'
          simp only [Int.natCast_add] at hn2
          have HN2 := Lib.hid hn2
          have HF : Hid (numsF (v - (j + 1)) (acc ++ [(v' : Int)]) (used + u') (xs.drop (p + u + (used + u'))) = R) := Lib.hid (by
            rw [← hnum.out, HVJ.out, numsF_on hN', List.drop_drop, Nat.add_assoc (p + u) used u'])
          clear hn2 hN' hnum hul
          go_wp2_with (first
            | (go_at_call 41; refine HN2.out.mono ?_; rintro e w1 ⟨rfl, hb⟩
               have hk3 := hk1.below hb hk1.lt
               have hk4 := hk2.below hb hk2.lt
               have hb2 := hb1.trans (hb.mono hb1.size)
               have hown1 := own_below hown hb
               clear c0 c1 f0 f1 d0 d1 g0 g1
               have c0 := hk3.cell 0
               have c1 := hk3.cell 1
               have f0 := hk3.free 0
               have f1 := hk3.free 1
               simp at c0 c1)
            | (at_builtin
               go_must (refine wpList_append_src rfl _ _ 24 rfl (w.heap.size + 2) 3 i0 _ 1 8 Tryz.underlying24 hi hz0 hz1 hz2 rfl (by omega) _ j (acc.map (Value.int .i64)) rfl ((ownsRow_setCell_below (a := ⟨w.heap.size, 1, none⟩) (ownsRow_setCell_below (a := ⟨w.heap.size, 0, none⟩) hown1 (show w.heap.size < _ by omega) _) (show w.heap.size < _ by omega) _).alloc _) (some ⟨w1.heap.size, 0, none⟩) 1 1 [.int .i64 (v' : Int)] rfl rfl (fun h => by cases h) (news_set _ _ _ _ _ _ _) (one_cell _ _) (by unfold maxLen; omega) (by omega) (by have := hk4.lt; simp [World.setCell]; omega) ?_)
               intro v5 w5 hown5 hg5))
          have hk5 := ((hk3.set 0 (Value.slice A n c)).set 1 (Value.int IntKind.i64 (↑p + ↑u + ↑used + ↑u'))).alloc (.cells #[.int .i64 (v' : Int)] 3)
          have hk6 := ((hk4.other (p := ⟨w.heap.size, 0, none⟩) (by simp) (Value.slice A n c)).other (p := ⟨w.heap.size, 1, none⟩) (by simp) (Value.int IntKind.i64 (↑p + ↑u + ↑used + ↑u'))).alloc (.cells #[.int .i64 (v' : Int)] 3)
          have hb3 := ((hb2.setCell (p := ⟨w.heap.size, 0, none⟩) (Nat.le_refl _) (Value.slice A n c)).setCell (p := ⟨w.heap.size, 1, none⟩) (Nat.le_refl _) (Value.int IntKind.i64 (↑p + ↑u + ↑used + ↑u'))).alloc (by have := hk4.lt; simp [World.setCell]; omega) (.cells #[.int .i64 (v' : Int)] 3)
          have hrow : ∀ k, Value.ownBlock _ = some k → w.heap.size + 2 ≤ k := fun k hk => (hown.lt k hk).1
          go_roundw
          case rel =>
            refine ⟨j + 1, used + u', acc ++ [(v' : Int)], by go_num, Lib.hid (by rw [List.length_append, hlen.out]; rfl), by omega, by omega, by omega, HF, by simpa using hown5, ?_, ?_, ?_⟩
            · have := hk5.grown hg5 (fun e => by have := hrow _ e.symm; omega)
              simpa [Int.add_assoc] using this
            · exact hk6.grown hg5 (fun e => by have := hrow _ e.symm; omega)
            · exact hb3.grown hg5 hb3.size (fun k hk => by have := hrow _ hk; omega)
          case measure => simp [intOf]; omega
        · have HF : Hid (R = ([], 0, er)) := Lib.hid (by rw [← hnum.out, HVJ.out, numsF_no hN' her])
          have hn2 := num_no A n c B xs (p + u + used) wr (h.below (hb1.mono hB)) (by have := hb1.size; omega) hx hn (by omega) er hN'
          simp only [Int.natCast_add] at hn2
          have HN2 := Lib.hid hn2
          clear hn2 hN' hnum
          rcases her with rfl | rfl
          · go_wp2_with (go_at_call 41; refine HN2.out.mono ?_; rintro e w1 ⟨q, rfl, hb⟩
                         have hk3 := hk1.below hb hk1.lt
                         have hk4 := hk2.below hb hk2.lt
                         have hb2 := hb1.trans (hb.mono hb1.size)
                         clear c0 c1 f0 f1 d0 d1 g0 g1
                         have c0 := hk3.cell 0
                         have c1 := hk3.cell 1
                         have f0 := hk3.free 0
                         have f1 := hk3.free 1
                         have d0 := hk4.cell 0
                         have d1 := hk4.cell 1
                         have g0 := hk4.free 0
                         have g1 := hk4.free 1
                         simp at c0 c1 d0 d1)
            have hk5 := (hk3.set 0 (Value.slice A n c)).set 1 (Value.int IntKind.i64 q)
            have hk6 := (hk4.other (p := ⟨w.heap.size, 0, none⟩) (by simp) (Value.slice A n c)).other (p := ⟨w.heap.size, 1, none⟩) (by simp) (Value.int IntKind.i64 q)
            have hb3 : Below w.heap.size w ((w1.setCell ⟨w.heap.size, 0, none⟩ (Value.slice A n c)).setCell ⟨w.heap.size, 1, none⟩ (Value.int IntKind.i64 q)) := (hb2.setCell (Nat.le_refl _) _).setCell (Nat.le_refl _) _
            generalize (w1.setCell ⟨w.heap.size, 0, none⟩ (Value.slice A n c)).setCell ⟨w.heap.size, 1, none⟩ (Value.int IntKind.i64 q) = w2 at *
            clear c0 c1 f0 f1 d0 d1 g0 g1
            have c0 := hk5.cell 0
            have c1 := hk5.cell 1
            have f0 := hk5.free 0
            have f1 := hk5.free 1
            have d0 := hk6.cell 0
            have d1 := hk6.cell 1
            have g0 := hk6.free 0
            have g1 := hk6.free 1
            simp at c0 c1 d0 d1
            go_region
            have hk9 := (hk6.set 0 (Value.slice A n c)).set 1 (Value.int IntKind.i64 (q))
            have r0 := hk9.cell 0
            have r1 := hk9.cell 1
            simp at r0 r1
            clear c0 c1 f0 f1 d0 d1 g0 g1
            go_wp2
            refine bodyPost_ret (v := .tuple #[.slice none 0 0, .agg #[Value.slice A n c, .int .i64 (q)], .int .i64 2]) (by simp [results, Tryz.results44, go_sem, r0, r1]) rfl ?_
            rw [HF.out]
            exact ⟨.slice none 0 0, q, rfl, World.ownsRow_nil _ _ _ _, fun h => absurd h (by simp), (((hb3.setCell (show w.heap.size ≤ w.heap.size + 1 by omega) _).setCell (show w.heap.size ≤ w.heap.size + 1 by omega) _).drew)⟩
          · go_wp2_with (go_at_call 41; refine HN2.out.mono ?_; rintro e w1 ⟨q, rfl, hb⟩
                         have hk3 := hk1.below hb hk1.lt
                         have hk4 := hk2.below hb hk2.lt
                         have hb2 := hb1.trans (hb.mono hb1.size)
                         clear c0 c1 f0 f1 d0 d1 g0 g1
                         have c0 := hk3.cell 0
                         have c1 := hk3.cell 1
                         have f0 := hk3.free 0
                         have f1 := hk3.free 1
                         have d0 := hk4.cell 0
                         have d1 := hk4.cell 1
                         have g0 := hk4.free 0
                         have g1 := hk4.free 1
                         simp at c0 c1 d0 d1)
            have hk5 := (hk3.set 0 (Value.slice A n c)).set 1 (Value.int IntKind.i64 q)
            have hk6 := (hk4.other (p := ⟨w.heap.size, 0, none⟩) (by simp) (Value.slice A n c)).other (p := ⟨w.heap.size, 1, none⟩) (by simp) (Value.int IntKind.i64 q)
            have hb3 : Below w.heap.size w ((w1.setCell ⟨w.heap.size, 0, none⟩ (Value.slice A n c)).setCell ⟨w.heap.size, 1, none⟩ (Value.int IntKind.i64 q)) := (hb2.setCell (Nat.le_refl _) _).setCell (Nat.le_refl _) _
            generalize (w1.setCell ⟨w.heap.size, 0, none⟩ (Value.slice A n c)).setCell ⟨w.heap.size, 1, none⟩ (Value.int IntKind.i64 q) = w2 at *
            clear c0 c1 f0 f1 d0 d1 g0 g1
            have c0 := hk5.cell 0
            have c1 := hk5.cell 1
            have f0 := hk5.free 0
            have f1 := hk5.free 1
            have d0 := hk6.cell 0
            have d1 := hk6.cell 1
            have g0 := hk6.free 0
            have g1 := hk6.free 1
            simp at c0 c1 d0 d1
            go_region
            have hk9 := (hk6.set 0 (Value.slice A n c)).set 1 (Value.int IntKind.i64 (q))
            have r0 := hk9.cell 0
            have r1 := hk9.cell 1
            simp at r0 r1
            clear c0 c1 f0 f1 d0 d1 g0 g1
            go_wp2
            refine bodyPost_ret (v := .tuple #[.slice none 0 0, .agg #[Value.slice A n c, .int .i64 (q)], .int .i64 3]) (by simp [results, Tryz.results44, go_sem, r0, r1]) rfl ?_
            rw [HF.out]
            exact ⟨.slice none 0 0, q, rfl, World.ownsRow_nil _ _ _ _, fun h => absurd h (by simp), (((hb3.setCell (show w.heap.size ≤ w.heap.size + 1 by omega) _).setCell (show w.heap.size ≤ w.heap.size + 1 by omega) _).drew)⟩
      · have hjv' : j = v := by omega
        subst hjv'
        have HF : Hid (R = (acc, used, 0)) := Lib.hid (by rw [← hnum.out, Nat.sub_self]; rfl)
        clear hnum
        go_wp2
        go_region
        have hk9 := (hk2.set 0 (Value.slice A n c)).set 1 (Value.int IntKind.i64 (↑p + ↑u + ↑used))
        have r0 := hk9.cell 0
        have r1 := hk9.cell 1
        simp at r0 r1
        clear c0 c1 f0 f1 d0 d1 g0 g1
        go_wp2
        refine bodyPost_ret (v := .tuple #[u9, .agg #[Value.slice A n c, .int .i64 (↑p + ↑u + ↑used)], .int .i64 0]) (by simp [results, Tryz.results44, go_sem, r0, r1]) rfl ?_
        have hres := own_base ((ownsRow_setCell_below (a := ⟨w.heap.size + 1, 1, none⟩) (ownsRow_setCell_below (a := ⟨w.heap.size + 1, 0, none⟩) hown (show w.heap.size + 1 < w.heap.size + 2 by omega) (Value.slice A n c)) (show w.heap.size + 1 < w.heap.size + 2 by omega) (Value.int IntKind.i64 (↑p + ↑u + ↑used))).drew) (show w.heap.size ≤ w.heap.size + 2 by omega)
        rw [← hlen.out] at hres
        rw [HF.out]
        exact ⟨_, _, rfl, hres, fun _ => rfl, (((hb1.setCell (show w.heap.size ≤ w.heap.size + 1 by omega) _).setCell (show w.heap.size ≤ w.heap.size + 1 by omega) _).drew)⟩
end
end Go.Proofs.YtkdncnhjlgidnaaGreatDoor
