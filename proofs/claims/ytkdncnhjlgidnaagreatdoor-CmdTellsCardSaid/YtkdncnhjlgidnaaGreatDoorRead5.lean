/- What is proved here: what a reader's calls Num, Text and Nums return, where the reader is behind them, and that nothing else that was there has changed. Slices of at most a million elements. -/
import Derived.Test.YtkdncnhjlgidnaaGreatDoorRead4
namespace Go.Proofs.YtkdncnhjlgidnaaGreatDoor
open Go Go.RowKit

theorem numsF_is : ∀ (k : Nat) (acc : List Int) (used : Nat) (l : List Int),
    (∃ r u, numsF k acc used l = (r, u, 0) ∧ used ≤ u ∧ u ≤ used + l.length ∧ r.length = acc.length + k) ∨ (∃ er, numsF k acc used l = ([], 0, er) ∧ (er = 2 ∨ er = 3))
  | 0, acc, used, l => .inl ⟨acc, used, rfl, Nat.le_refl _, by omega, rfl⟩
  | k + 1, acc, used, l => by
    rcases numF_is 9 0 0 l (by simp) (by omega) with ⟨v, u, e, _, h0, hl⟩ | ⟨er, e, he⟩
    · rw [numsF_on e]
      rcases numsF_is k (acc ++ [(v : Int)]) (used + u) (l.drop u) with ⟨r, u2, e2, h1, h2, h3⟩ | he
      · refine .inl ⟨r, u2, e2, by omega, ?_, ?_⟩
        · rw [List.length_drop] at h2; omega
        · rw [h3, List.length_append]; simp only [List.length_cons, List.length_nil]; omega
      · exact .inr he
    · exact .inr ⟨er, numsF_no e he k acc used, he⟩

/-- What a text is read as: its bytes, how many there are with its length, and the error's number. -/
def textR (xs : List Int) (p : Nat) (most : Int) : List Int × Nat × Nat :=
  if (numF 9 0 0 (xs.drop p)).2.2 = 0 then
    if most < ((numF 9 0 0 (xs.drop p)).1 : Int) then ([], 0, 2)
    else if xs.length - (p + (numF 9 0 0 (xs.drop p)).2.1) < (numF 9 0 0 (xs.drop p)).1 then ([], 0, 3)
    else ((xs.drop (p + (numF 9 0 0 (xs.drop p)).2.1)).take (numF 9 0 0 (xs.drop p)).1, (numF 9 0 0 (xs.drop p)).2.1 + (numF 9 0 0 (xs.drop p)).1, 0)
  else ([], 0, (numF 9 0 0 (xs.drop p)).2.2)
/-- What a list is read as. -/
def numsR (xs : List Int) (p : Nat) (most : Int) : List Int × Nat × Nat :=
  if (numF 9 0 0 (xs.drop p)).2.2 = 0 then
    if most < ((numF 9 0 0 (xs.drop p)).1 : Int) then ([], 0, 2)
    else ((numsF (numF 9 0 0 (xs.drop p)).1 [] 0 (xs.drop (p + (numF 9 0 0 (xs.drop p)).2.1))).1,
      (numF 9 0 0 (xs.drop p)).2.1 + (numsF (numF 9 0 0 (xs.drop p)).1 [] 0 (xs.drop (p + (numF 9 0 0 (xs.drop p)).2.1))).2.1,
      (numsF (numF 9 0 0 (xs.drop p)).1 [] 0 (xs.drop (p + (numF 9 0 0 (xs.drop p)).2.1))).2.2)
  else ([], 0, (numF 9 0 0 (xs.drop p)).2.2)

section
variable (A : Option Addr) (n c B : Nat) (xs : List Int) (p : Nat) (w : World) (h : Rd w B .u8 A n c xs) (hB : B ≤ w.heap.size) (hx : ∀ x ∈ xs, 0 ≤ x ∧ x < 256) (hn : n ≤ 1000000) (hp : p ≤ n)
include h hB hx hn hp

theorem text_all (most : Int) :
    Calls Tryz.prog 64 #[.agg #[.slice A n c, .int .i64 p], .int .i64 most] w fun e w' =>
      ∃ q : Int, e = .returned (.tuple #[.string (strOfNums (textR xs p most).1), .agg #[.slice A n c, .int .i64 q], .int .i64 (textR xs p most).2.2]) ∧
        ((textR xs p most).2.2 = 0 → q = ((p + (textR xs p most).2.1 : Nat) : Int) ∧ p + (textR xs p most).2.1 ≤ n) ∧ Below w.heap.size w w' := by
  have hxl := h.len
  unfold textR
  rcases numF_is 9 0 0 (xs.drop p) (by simp) (by omega) with ⟨v, u, e, hv, hu0, hul⟩ | ⟨er, e, he⟩
  · rw [List.length_drop, hxl] at hul
    rw [e]
    simp only [if_true]
    by_cases hm : most < (v : Int)
    · simp only [if_pos hm]
      exact (text_much A n c B xs p w h hB hx hn hp most v u e hm).mono fun e w' ⟨q, he, hb⟩ => ⟨q, he, fun h => absurd h (by simp), hb⟩
    · simp only [if_neg hm]
      by_cases hl : xs.length - (p + u) < v
      · simp only [if_pos hl]
        exact (text_end A n c B xs p w h hB hx hn hp most v u e (by omega) (by omega) (by omega)).mono fun e w' ⟨q, he, hb⟩ => ⟨q, he, fun h => absurd h (by simp), hb⟩
      · simp only [if_neg hl]
        by_cases hc : c = p + u
        · obtain rfl : v = 0 := by have := h.cap; omega
          have := text_ok2 A n c B xs p w h hB hx hn hp most u e (by omega) (by omega) hu0 hc
          subst hc
          refine this.mono fun e w' ⟨he, hb⟩ => ⟨_, he, fun _ => ⟨by push_cast; omega, by omega⟩, hb⟩
        · exact (text_ok1 A n c B xs p w h hB hx hn hp most v u e (by omega) (by omega) (by omega) hu0 hc).mono fun e w' ⟨he, hb⟩ => ⟨_, he, fun _ => ⟨by push_cast; omega, by omega⟩, hb⟩
  · rw [e]
    have hz : ¬ er = 0 := by omega
    simp only [if_neg hz]
    exact (text_no A n c B xs p w h hB hx hn hp most er e he).mono fun e w' ⟨q, he, hb⟩ => ⟨q, he, fun h => absurd h hz, hb⟩

theorem nums_all (most : Int) :
    Calls Tryz.prog 44 #[.agg #[.slice A n c, .int .i64 p], .int .i64 most] w fun e w' =>
      ∃ (r : Value) (q : Int), e = .returned (.tuple #[r, .agg #[.slice A n c, .int .i64 q], .int .i64 (numsR xs p most).2.2]) ∧
        w'.ownsRow w.heap.size 3 1 r (numsR xs p most).1.length ((numsR xs p most).1.map (Value.int .i64)) ∧
        ((numsR xs p most).2.2 = 0 → q = ((p + (numsR xs p most).2.1 : Nat) : Int) ∧ p + (numsR xs p most).2.1 ≤ n) ∧ Below w.heap.size w w' := by
  have hxl := h.len
  unfold numsR
  rcases numF_is 9 0 0 (xs.drop p) (by simp) (by omega) with ⟨v, u, e, hv, hu0, hul⟩ | ⟨er, e, he⟩
  · rw [List.length_drop, hxl] at hul
    rw [e]
    simp only [if_true]
    by_cases hm : most < (v : Int)
    · simp only [if_pos hm]
      exact (nums_much A n c B xs p w h hB hx hn hp most v u e hm).mono fun e w' ⟨q, he, hb⟩ => ⟨_, q, he, World.ownsRow_nil _ _ _ _, fun h => absurd h (by simp), hb⟩
    · simp only [if_neg hm]
      refine (nums_any A n c B xs p w h hB hx hn hp most v u e (by omega) (by omega) hv).mono fun e w' ⟨r, q, he, ho, hq, hb⟩ => ⟨r, q, he, ho, fun h0 => ⟨by rw [hq h0]; push_cast; omega, ?_⟩, hb⟩
      rcases numsF_is v [] 0 (xs.drop (p + u)) with ⟨r, u2, e2, h1, h2, h3⟩ | ⟨er, e2, her⟩
      · rw [e2]
        rw [List.length_drop, hxl] at h2
        show p + (u + u2) ≤ n
        omega
      · rw [e2] at h0
        exact absurd h0 (by rcases her with rfl | rfl <;> simp)
  · rw [e]
    have hz : ¬ er = 0 := by omega
    simp only [if_neg hz]
    exact (nums_no A n c B xs p w h hB hx hn hp most er e he).mono fun e w' ⟨q, he, hb⟩ => ⟨_, q, he, World.ownsRow_nil _ _ _ _, fun h => absurd h hz, hb⟩
end

/-- A reader that stands in one block. -/
def Rdr (w : World) (g : Nat) (A : Option Addr) (n c : Nat) (xs : List Int) (p why : Nat) : Prop :=
  Blk w g 100 #[.slice A n c, .int .i64 p, .int .i64 why] ∧ Rd w g .u8 A n c xs
theorem Rdr.keep {w w' : World} {g : Nat} {A : Option Addr} {n c : Nat} {xs : List Int} {p why : Nat} (h : Rdr w g A n c xs p why) (hb : Below w.heap.size w w') : Rdr w' g A n c xs p why :=
  ⟨h.1.below hb h.1.lt, h.2.below (hb.mono (Nat.le_of_lt h.1.lt))⟩

/-- What 'Num' reads: the value, the place, and why not. -/
def goNum (xs : List Int) (p why : Nat) : Nat × Nat × Nat :=
  if why = 0 then if (numF 9 0 0 (xs.drop p)).2.2 = 0 then ((numF 9 0 0 (xs.drop p)).1, p + (numF 9 0 0 (xs.drop p)).2.1, 0) else (0, p, (numF 9 0 0 (xs.drop p)).2.2) else (0, p, why)
def goText (xs : List Int) (p why : Nat) (most : Int) : List Int × Nat × Nat :=
  if why = 0 then if (textR xs p most).2.2 = 0 then ((textR xs p most).1, p + (textR xs p most).2.1, 0) else ([], p, (textR xs p most).2.2) else ([], p, why)
def goNums (xs : List Int) (p why : Nat) (most : Int) : List Int × Nat × Nat :=
  if why = 0 then if (numsR xs p most).2.2 = 0 then ((numsR xs p most).1, p + (numsR xs p most).2.1, 0) else ([], p, (numsR xs p most).2.2) else ([], p, why)

section
variable {w w1 : World} {g : Nat}
theorem grow_below (h : Below w.heap.size w w1) : w.grownBy w1 (some g) := ⟨h.os, h.tape, h.output, h.size, fun k hk _ => h.block k hk⟩
theorem grow_alloc (h : w.grownBy w1 (some g)) (o : Obj) : w.grownBy (w1.alloc o) (some g) :=
  ⟨h.os, h.tape, h.output, Nat.le_trans h.size (by simp), fun k hk hne => (Below.heap_alloc w1 o k (Nat.lt_of_lt_of_le hk h.size)).trans (h.block k hk hne)⟩
theorem grow_set (h : w.grownBy w1 (some g)) (i : Nat) (x : Value) : w.grownBy (w1.setCell ⟨g, i, none⟩ x) (some g) :=
  ⟨h.os, h.tape, h.output, Nat.le_trans h.size (by simp [World.setCell]), fun k hk hne => (Below.heap_setCell w1 ⟨g, i, none⟩ x k (fun e => hne (by rw [e]))).trans (h.block k hk hne)⟩
end
set_option maxHeartbeats 800000 in
set_option maxRecDepth 100000 in
theorem readNum_ok (g : Nat) (A : Option Addr) (n c : Nat) (xs : List Int) (p : Nat) (w : World) (hr : Rdr w g A n c xs p 0) (hx : ∀ x ∈ xs, 0 ≤ x ∧ x < 256) (hn : n ≤ 1000000) (hp : p ≤ n) (v u : Nat) (hN : numF 9 0 0 (xs.drop p) = (v, u, 0)) :
    Calls Tryz.prog 40 #[.pointer (some ⟨g, 0, none⟩), .func (.func 41) #[] #[]] w fun e w' =>
      e = .returned (.int .i64 v) ∧ Blk w' g 100 #[.slice A n c, .int .i64 ((p + u : Nat) : Int), .int .i64 0] ∧ w.grownBy w' (some g) := by
  have hk := hr.1
  have HN := Lib.hid (num_ok A n c g xs p w hr.2 (Nat.le_of_lt hk.lt) hx hn hp v u hN)
  clear hN hx
  have c0 := hk.cell 0
  have c1 := hk.cell 1
  have c2 := hk.cell 2
  have f0 := hk.free 0
  have f1 := hk.free 1
  have f2 := hk.free 2
  simp at c0 c1 c2
  go_enter Tryz.func40, Tryz.ntmps40
  go_wp2_with (go_at_call 41; refine HN.out.mono ?_; rintro e w1 ⟨rfl, hb⟩
               have hk1 := hk.below hb hk.lt
               have hg1 := hk1.lt
               clear c0 c1 c2 f0 f1 f2
               have c0 := hk1.cell 0
               have c1 := hk1.cell 1
               have c2 := hk1.cell 2
               have f0 := hk1.free 0
               have f1 := hk1.free 1
               have f2 := hk1.free 2
               simp at c0 c1 c2)
  have hk2 := ((hk1.set 0 (Value.slice A n c)).set 1 (Value.int IntKind.i64 (↑p + ↑u))).alloc (.cells #[.slice A n c, .int .i64 (↑p + ↑u)] 98)
  have hgr := grow_alloc (grow_set (grow_set (grow_below (g := g) hb) 0 (Value.slice A n c)) 1 (Value.int IntKind.i64 (↑p + ↑u))) (.cells #[.slice A n c, .int .i64 (↑p + ↑u)] 98)
  go_ret
  exact ⟨rfl, by simpa using hk2, hgr⟩
set_option maxHeartbeats 800000 in
set_option maxRecDepth 100000 in
theorem readNum_no (g : Nat) (A : Option Addr) (n c : Nat) (xs : List Int) (p : Nat) (w : World) (hr : Rdr w g A n c xs p 0) (hx : ∀ x ∈ xs, 0 ≤ x ∧ x < 256) (hn : n ≤ 1000000) (hp : p ≤ n) (er : Nat) (he : er = 2 ∨ er = 3) (hN : numF 9 0 0 (xs.drop p) = (0, 0, er)) :
    Calls Tryz.prog 40 #[.pointer (some ⟨g, 0, none⟩), .func (.func 41) #[] #[]] w fun e w' =>
      e = .returned (.int .i64 0) ∧ Blk w' g 100 #[.slice A n c, .int .i64 p, .int .i64 er] ∧ w.grownBy w' (some g) := by
  have hk := hr.1
  have HN := Lib.hid (num_no A n c g xs p w hr.2 (Nat.le_of_lt hk.lt) hx hn hp er hN)
  clear hN hx
  have c0 := hk.cell 0
  have c1 := hk.cell 1
  have c2 := hk.cell 2
  have f0 := hk.free 0
  have f1 := hk.free 1
  have f2 := hk.free 2
  simp at c0 c1 c2
  rcases he with rfl | rfl
  · go_enter Tryz.func40, Tryz.ntmps40
    go_wp2_with (go_at_call 41; refine HN.out.mono ?_; rintro e w1 ⟨q, rfl, hb⟩
                 have hk1 := hk.below hb hk.lt
                 have hg1 := hk1.lt
                 clear c0 c1 c2 f0 f1 f2
                 have c0 := hk1.cell 0
                 have c1 := hk1.cell 1
                 have c2 := hk1.cell 2
                 have f0 := hk1.free 0
                 have f1 := hk1.free 1
                 have f2 := hk1.free 2
                 simp at c0 c1 c2)
    have hk2 := (hk1.set 2 (Value.int IntKind.i64 2)).alloc (.cells #[.slice A n c, .int .i64 q] 98)
    have hgr := grow_alloc (grow_set (grow_below (g := g) hb) 2 (Value.int IntKind.i64 2)) (.cells #[.slice A n c, .int .i64 q] 98)
    go_ret
    exact ⟨rfl, by simpa using hk2, hgr⟩
  · go_enter Tryz.func40, Tryz.ntmps40
    go_wp2_with (go_at_call 41; refine HN.out.mono ?_; rintro e w1 ⟨q, rfl, hb⟩
                 have hk1 := hk.below hb hk.lt
                 have hg1 := hk1.lt
                 clear c0 c1 c2 f0 f1 f2
                 have c0 := hk1.cell 0
                 have c1 := hk1.cell 1
                 have c2 := hk1.cell 2
                 have f0 := hk1.free 0
                 have f1 := hk1.free 1
                 have f2 := hk1.free 2
                 simp at c0 c1 c2)
    have hk2 := (hk1.set 2 (Value.int IntKind.i64 3)).alloc (.cells #[.slice A n c, .int .i64 q] 98)
    have hgr := grow_alloc (grow_set (grow_below (g := g) hb) 2 (Value.int IntKind.i64 3)) (.cells #[.slice A n c, .int .i64 q] 98)
    go_ret
    exact ⟨rfl, by simpa using hk2, hgr⟩
set_option maxHeartbeats 800000 in
set_option maxRecDepth 100000 in
theorem readNum_stop (g : Nat) (A : Option Addr) (n c : Nat) (xs : List Int) (p : Nat) (w : World) (why : Nat) (hw : why = 2 ∨ why = 3) (hr : Rdr w g A n c xs p why) :
    Calls Tryz.prog 40 #[.pointer (some ⟨g, 0, none⟩), .func (.func 41) #[] #[]] w fun e w' =>
      e = .returned (.int .i64 0) ∧ w = w' := by
  have hk := hr.1
  have c0 := hk.cell 0
  have c1 := hk.cell 1
  have c2 := hk.cell 2
  have f0 := hk.free 0
  have f1 := hk.free 1
  have f2 := hk.free 2
  simp at c0 c1 c2
  rcases hw with rfl | rfl
  · go_enter Tryz.func40, Tryz.ntmps40
    go_wp2
    go_ret
    exact ⟨rfl, rfl⟩
  · go_enter Tryz.func40, Tryz.ntmps40
    go_wp2
    go_ret
    exact ⟨rfl, rfl⟩

theorem textR_is (xs : List Int) (p : Nat) (most : Int) (hp : p ≤ xs.length) :
    (∃ bs us, textR xs p most = (bs, us, 0) ∧ 0 < us ∧ p + us ≤ xs.length) ∨ (∃ er, textR xs p most = ([], 0, er) ∧ (er = 2 ∨ er = 3)) := by
  unfold textR
  rcases numF_is 9 0 0 (xs.drop p) (by simp) (by omega) with ⟨v, u, e, hv, hu0, hul⟩ | ⟨er, e, he⟩
  · rw [List.length_drop] at hul
    rw [e]
    simp only [if_true]
    by_cases hm : most < (v : Int)
    · rw [if_pos hm]; exact .inr ⟨2, rfl, .inl rfl⟩
    · rw [if_neg hm]
      by_cases hl : xs.length - (p + u) < v
      · rw [if_pos hl]; exact .inr ⟨3, rfl, .inr rfl⟩
      · rw [if_neg hl]; exact .inl ⟨_, _, rfl, by omega, by omega⟩
  · rw [e]
    rw [if_neg (by show ¬ er = 0; omega)]
    exact .inr ⟨er, rfl, he⟩
theorem numsR_is (xs : List Int) (p : Nat) (most : Int) (hp : p ≤ xs.length) :
    (∃ bs us, numsR xs p most = (bs, us, 0) ∧ 0 < us ∧ p + us ≤ xs.length) ∨ (∃ us er, numsR xs p most = ([], us, er) ∧ (er = 2 ∨ er = 3)) := by
  unfold numsR
  rcases numF_is 9 0 0 (xs.drop p) (by simp) (by omega) with ⟨v, u, e, hv, hu0, hul⟩ | ⟨er, e, he⟩
  · rw [List.length_drop] at hul
    rw [e]
    simp only [if_true]
    by_cases hm : most < (v : Int)
    · rw [if_pos hm]; exact .inr ⟨_, 2, rfl, .inl rfl⟩
    · rw [if_neg hm]
      rcases numsF_is v [] 0 (xs.drop (p + u)) with ⟨r, u2, e2, h1, h2, h3⟩ | ⟨er, e2, her⟩
      · rw [e2]
        rw [List.length_drop] at h2
        exact .inl ⟨_, _, rfl, by omega, by simp only; omega⟩
      · rw [e2]
        exact .inr ⟨_, er, rfl, her⟩
  · rw [e]
    rw [if_neg (by show ¬ er = 0; omega)]
    exact .inr ⟨_, er, rfl, he⟩
set_option maxHeartbeats 800000 in
set_option maxRecDepth 100000 in
theorem text1_all (A : Option Addr) (n c B : Nat) (xs : List Int) (p m : Nat) (most : Int) (w : World) (h : Rd w B .u8 A n c xs) (hB : B ≤ w.heap.size) (hm : Blk w m 3 #[.int .i64 most]) (hx : ∀ x ∈ xs, 0 ≤ x ∧ x < 256) (hn : n ≤ 1000000) (hp : p ≤ n) (T : List Int × Nat × Nat) (hT : textR xs p most = T) :
    Calls Tryz.prog 63 #[.agg #[.slice A n c, .int .i64 p], .pointer (some ⟨m, 0, none⟩)] w fun e w' =>
      ∃ q : Int, e = .returned (.tuple #[.string (strOfNums T.1), .agg #[.slice A n c, .int .i64 q], .int .i64 T.2.2]) ∧ (T.2.2 = 0 → q = ((p + T.2.1 : Nat) : Int) ∧ p + T.2.1 ≤ n) ∧ Below w.heap.size w w' := by
  have HN := Lib.hid (fun W h hB => hT ▸ text_all A n c B xs p W h hB hx hn hp most)
  clear hx hT
  have hm0 := hm.cell 0
  have hml := hm.lt
  have hml1 : m < w.heap.size + 1 := by omega
  simp at hm0
  go_enter Tryz.func63, Tryz.ntmps63
  go_wp2_with (go_at_call 64; refine (HN.out _ ((h.alloc hB _).alloc (by simp; omega) _) (by simp; omega)).mono ?_; rintro e w1 ⟨q, rfl, hq, hb⟩
               obtain ⟨hk1, hk2, hb1⟩ := two_blocks hb
               clear hb
               have c0 := hk1.cell 0
               have c1 := hk1.cell 1
               have f0 := hk1.free 0
               have f1 := hk1.free 1
               have d0 := hk2.cell 0
               have d1 := hk2.cell 1
               have g0 := hk2.free 0
               have g1 := hk2.free 1
               simp at c0 c1 d0 d1)
  have hk7 := (hk2.set 0 (Value.slice A n c)).set 1 (Value.int IntKind.i64 q)
  have r0 := hk7.cell 0
  have r1 := hk7.cell 1
  simp at r0 r1
  refine bodyPost_ret (v := .tuple #[.string (strOfNums T.1), .agg #[Value.slice A n c, .int .i64 q], .int .i64 T.2.2]) (by simp [results, Tryz.results63, go_sem, r0, r1]) rfl ?_
  exact ⟨q, rfl, hq, (hb1.setCell (show w.heap.size ≤ w.heap.size + 1 by omega) _).setCell (show w.heap.size ≤ w.heap.size + 1 by omega) _⟩
set_option maxHeartbeats 800000 in
set_option maxRecDepth 100000 in
theorem readText_ok (g : Nat) (A : Option Addr) (n c : Nat) (xs : List Int) (p : Nat) (w : World) (m : Nat) (most : Int) (hm : Blk w m 3 #[.int .i64 most]) (hr : Rdr w g A n c xs p 0) (hx : ∀ x ∈ xs, 0 ≤ x ∧ x < 256) (hn : n ≤ 1000000) (hp : p ≤ n) (bs : List Int) (us : Nat) (hT : textR xs p most = (bs, us, 0)) :
    Calls Tryz.prog 62 #[.pointer (some ⟨g, 0, none⟩), .func (.func 63) #[] #[.pointer (some ⟨m, 0, none⟩)]] w fun e w' =>
      e = .returned (.string (strOfNums bs)) ∧ Blk w' g 100 #[.slice A n c, .int .i64 ((p + us : Nat) : Int), .int .i64 0] ∧ w.grownBy w' (some g) := by
  have hk := hr.1
  have HN := Lib.hid (text1_all A n c g xs p m most w hr.2 (Nat.le_of_lt hk.lt) hm hx hn hp _ hT)
  clear hx hT
  have c0 := hk.cell 0
  have c1 := hk.cell 1
  have c2 := hk.cell 2
  have f0 := hk.free 0
  have f1 := hk.free 1
  have f2 := hk.free 2
  simp at c0 c1 c2
  go_enter Tryz.func62, Tryz.ntmps62
  go_wp2_with (go_at_call 63; refine HN.out.mono ?_; rintro e w1 ⟨q, rfl, hq, hb⟩
               obtain ⟨rfl, _⟩ := hq rfl
               have hk1 := hk.below hb hk.lt
               have hg1 := hk1.lt
               clear c0 c1 c2 f0 f1 f2
               have c0 := hk1.cell 0
               have c1 := hk1.cell 1
               have c2 := hk1.cell 2
               have f0 := hk1.free 0
               have f1 := hk1.free 1
               have f2 := hk1.free 2
               simp at c0 c1 c2)
  have hk2 := ((hk1.set 0 (Value.slice A n c)).set 1 (Value.int IntKind.i64 (↑p + ↑us))).alloc (.cells #[.slice A n c, .int .i64 (↑p + ↑us)] 98)
  have hgr := grow_alloc (grow_set (grow_set (grow_below (g := g) hb) 0 (Value.slice A n c)) 1 (Value.int IntKind.i64 (↑p + ↑us))) (.cells #[.slice A n c, .int .i64 (↑p + ↑us)] 98)
  go_ret
  exact ⟨rfl, by simpa using hk2, hgr⟩
set_option maxHeartbeats 800000 in
set_option maxRecDepth 100000 in
theorem readText_no (g : Nat) (A : Option Addr) (n c : Nat) (xs : List Int) (p : Nat) (w : World) (m : Nat) (most : Int) (hm : Blk w m 3 #[.int .i64 most]) (hr : Rdr w g A n c xs p 0) (hx : ∀ x ∈ xs, 0 ≤ x ∧ x < 256) (hn : n ≤ 1000000) (hp : p ≤ n) (er : Nat) (he : er = 2 ∨ er = 3) (hT : textR xs p most = ([], 0, er)) :
    Calls Tryz.prog 62 #[.pointer (some ⟨g, 0, none⟩), .func (.func 63) #[] #[.pointer (some ⟨m, 0, none⟩)]] w fun e w' =>
      e = .returned (.string ⟨#[]⟩) ∧ Blk w' g 100 #[.slice A n c, .int .i64 p, .int .i64 er] ∧ w.grownBy w' (some g) := by
  have hk := hr.1
  have HN := Lib.hid (text1_all A n c g xs p m most w hr.2 (Nat.le_of_lt hk.lt) hm hx hn hp _ hT)
  clear hx hT
  have c0 := hk.cell 0
  have c1 := hk.cell 1
  have c2 := hk.cell 2
  have f0 := hk.free 0
  have f1 := hk.free 1
  have f2 := hk.free 2
  simp at c0 c1 c2
  rcases he with rfl | rfl
  · go_enter Tryz.func62, Tryz.ntmps62
    go_wp2_with (go_at_call 63; refine HN.out.mono ?_; rintro e w1 ⟨q, rfl, hq, hb⟩
                 have hk1 := hk.below hb hk.lt
                 have hg1 := hk1.lt
                 clear c0 c1 c2 f0 f1 f2
                 have c0 := hk1.cell 0
                 have c1 := hk1.cell 1
                 have c2 := hk1.cell 2
                 have f0 := hk1.free 0
                 have f1 := hk1.free 1
                 have f2 := hk1.free 2
                 simp at c0 c1 c2)
    have hk2 := (hk1.set 2 (Value.int IntKind.i64 2)).alloc (.cells #[.slice A n c, .int .i64 q] 98)
    have hgr := grow_alloc (grow_set (grow_below (g := g) hb) 2 (Value.int IntKind.i64 2)) (.cells #[.slice A n c, .int .i64 q] 98)
    go_ret
    exact ⟨rfl, by simpa using hk2, hgr⟩
  · go_enter Tryz.func62, Tryz.ntmps62
    go_wp2_with (go_at_call 63; refine HN.out.mono ?_; rintro e w1 ⟨q, rfl, hq, hb⟩
                 have hk1 := hk.below hb hk.lt
                 have hg1 := hk1.lt
                 clear c0 c1 c2 f0 f1 f2
                 have c0 := hk1.cell 0
                 have c1 := hk1.cell 1
                 have c2 := hk1.cell 2
                 have f0 := hk1.free 0
                 have f1 := hk1.free 1
                 have f2 := hk1.free 2
                 simp at c0 c1 c2)
    have hk2 := (hk1.set 2 (Value.int IntKind.i64 3)).alloc (.cells #[.slice A n c, .int .i64 q] 98)
    have hgr := grow_alloc (grow_set (grow_below (g := g) hb) 2 (Value.int IntKind.i64 3)) (.cells #[.slice A n c, .int .i64 q] 98)
    go_ret
    exact ⟨rfl, by simpa using hk2, hgr⟩
set_option maxHeartbeats 800000 in
set_option maxRecDepth 100000 in
theorem readText_stop (g : Nat) (A : Option Addr) (n c : Nat) (xs : List Int) (p : Nat) (w : World) (why : Nat) (hw : why = 2 ∨ why = 3) (hr : Rdr w g A n c xs p why) (m : Nat) :
    Calls Tryz.prog 62 #[.pointer (some ⟨g, 0, none⟩), .func (.func 63) #[] #[.pointer (some ⟨m, 0, none⟩)]] w fun e w' =>
      e = .returned (.string ⟨#[]⟩) ∧ w = w' := by
  have hk := hr.1
  have c0 := hk.cell 0
  have c1 := hk.cell 1
  have c2 := hk.cell 2
  have f0 := hk.free 0
  have f1 := hk.free 1
  have f2 := hk.free 2
  simp at c0 c1 c2
  rcases hw with rfl | rfl
  · go_enter Tryz.func62, Tryz.ntmps62
    go_wp2
    go_ret
    exact ⟨rfl, rfl⟩
  · go_enter Tryz.func62, Tryz.ntmps62
    go_wp2
    go_ret
    exact ⟨rfl, rfl⟩
end Go.Proofs.YtkdncnhjlgidnaaGreatDoor
