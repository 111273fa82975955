/- What is proved here: what frame.sumOf returns: the checksum of its parts, one behind the other; new memory is made, and none that was there is changed. -/
/- What is proved here: coil, as far as wal calls it: a number is written, and read. -/
/- What is proved here: what each function of package coil that reads does: which number, text or list it returns, or which error, where the reader is behind it, and that nothing else that was there has changed. Slices of at most a million elements. -/
/- What is proved here: coil, as far as wal calls it: a reader of a number. -/
import Derived.Test.YtnomicnmpllajaaGreatDoorPFu2
import Derived.Deep.WholeRow
import Derived.Test.YtnomicnmpllajaaGreatDoorPFu1
import Derived.StillTailTactics
section
namespace Go.Proofs.YtnomicnmpllajaaGreatDoor
open Go Go.RowKit

theorem ret_u32 {a b : Int} (h : a = b) : Ending.returned (.int .u32 a) = .returned (.int .u32 b) := by rw [h]
/-- One byte, as the code takes it in. -/
theorem upd_code (s c : Nat) (hs : s < 4294967296) (hc : c < 256) : ∃ s1 s2 f1 f2 : Nat, s1 < 4294967296 ∧ s2 < 4294967296 ∧ f1 = four (s1 % 16) ∧ f2 = four (s2 % 16) ∧ upd s c < 4294967296 ∧
    bits .xor .u32 (s : Int) (c : Int) = (s1 : Int) ∧ bits .xor .u32 ((s1 : Int) / 16) (f1 : Int) = (s2 : Int) ∧ bits .xor .u32 ((s2 : Int) / 16) (f2 : Int) = ((upd s c : Nat) : Int) := by
  have h1 : s ^^^ c < 2 ^ 32 := Nat.xor_lt_two_pow hs (by omega)
  have h2 := four_lt h1
  have hf : ∀ t : Nat, four (t % 16) < 2 ^ 32 := fun t => four_lt (by omega)
  refine ⟨s ^^^ c, four (s ^^^ c), _, _, h1, h2, rfl, rfl, upd_lt hs hc, u32_xor_nat _ _ hs (by omega), ?_, ?_⟩
  · rw [show ((s ^^^ c : Nat) : Int) / 16 = ((s ^^^ c : Nat) / 16 : Nat) by omega, u32_xor_nat _ _ (by omega) (hf _), ← four_split]
  · unfold upd
    rw [show ((four (s ^^^ c) : Nat) : Int) / 16 = ((four (s ^^^ c) : Nat) / 16 : Nat) by omega, u32_xor_nat _ _ (by omega) (hf _), ← four_split]

/-- A part: where it lies, how many, and its bytes. -/
structure Part where
  adr : Option Addr
  len : Nat
  cap : Nat
  all : List Int
def Part.val (p : Part) : Value := .slice p.adr p.len p.cap
def Part.ok (w : World) (B : Nat) (p : Part) : Prop := Rd w B .u8 p.adr p.len p.cap p.all ∧ ∀ x ∈ p.all, 0 ≤ x ∧ x < 256
/-- The parts' bytes. -/
def bytesOf (l : List Part) : List Int := l.flatMap Part.all
theorem bytesOf_snoc (l : List Part) (p : Part) : bytesOf (l ++ [p]) = bytesOf l ++ p.all := by unfold bytesOf; simp

set_option maxHeartbeats 800000 in
set_option maxRecDepth 100000 in
theorem sumOf_any (b o n c : Nat) (l : List Part) (w : World) (hl : l.length = n) (hc : n ≤ c) (hm : n ≤ 1000) (hcell : ∀ j p, l[j]? = some p → w.cell? ⟨b, o + j, none⟩ = some p.val) (hbw : b < w.heap.size)
    (hok : ∀ p ∈ l, p.ok w w.heap.size ∧ p.len ≤ 1000000) :
    Calls Tryz.prog 63 #[.slice (some ⟨b, o, none⟩) n c] w fun e w' => e = .returned (.int .u32 (sumL (bytesOf l))) ∧ Below w.heap.size w w' := by
  have HL := Lib.hid hl
  have HC := Lib.hid hcell
  have HK := Lib.hid hok
  clear hl hcell hok
  have hone := tab_one 16
  have hs1 := tab_size 16
  have H1 := Lib.hid hs1
  clear hs1
  go_enter Tryz.func63, Tryz.ntmps63
  go_wp2_with fail
  refine (effects_any w).mono ?_
  rintro e w1 ⟨rfl, hb1⟩
  go_wp2_with (refine wpList_store_row (o := ⟨none, .store 147 (.tmp 3) (.tmp 9), _, _, _, _⟩) rfl 147 (.tmp 3) (.tmp 9) rfl w1.heap.size (tab 16) rfl rfl 147 _ (heap_alloc_new _ _) (by rw [H1.out]; exact info_tab) (by rw [H1.out]; rfl) hone ?_; rw [World.setRow_alloc_new])
  have hT : ∀ j, j < 16 → (w1.alloc (.cells (tab 16) 147)).cell? ⟨w1.heap.size, j, none⟩ = some (.int .u32 (four j : Nat)) := fun j hj => by
    rw [World.cell?_alloc_at _ _ _ _ rfl, tab_get _ _ hj, if_pos hj]
  have hb2 : Below w.heap.size w (w1.alloc (.cells (tab 16) 147)) := hb1.alloc hb1.size _
  have HT := Lib.hid hT
  clear hT hone hb1
  generalize (w1.alloc (.cells (tab 16) 147)) = W at *
  generalize w1.heap.size = g at *
  go_loop [4, 12] (fun a i => ∃ k : Nat, k ≤ n ∧ i = .int .i64 k ∧ a = .int .u32 (crc 4294967295 (bytesOf (l.take k)) : Nat)) (fun _ i => n - (intOf i).toNat)
  case atStart => exact ⟨0, Nat.zero_le _, rfl, rfl⟩
  case round =>
    obtain ⟨k, hk, rfl, rfl⟩ := hrel
    by_cases hkn : k < n
    · obtain ⟨p, hp⟩ : ∃ p, l[k]? = some p := ⟨_, List.getElem?_eq_getElem (by rw [HL.out]; exact hkn)⟩
      have hpm := List.mem_of_getElem? hp
      have hpc := HC.out k p hp
      obtain ⟨⟨hrd, hby⟩, hpl⟩ := HK.out p hpm
      have htk : l.take (k + 1) = l.take k ++ [p] := by rw [List.take_add_one, hp]; rfl
      have hs0 : crc 4294967295 (bytesOf (l.take k)) < 2 ^ 32 := crc_lt _ _ (by decide) (fun x hx => by
        unfold bytesOf at hx
        obtain ⟨q, hq, hx⟩ := List.mem_flatMap.1 hx
        exact (HK.out q (List.mem_of_mem_take hq)).1.2 x hx)
      have HTK := Lib.hid (show crc 4294967295 (bytesOf (l.take (k + 1))) = crc (crc 4294967295 (bytesOf (l.take k))) p.all by rw [htk, bytesOf_snoc, crc_append])
      clear htk hp hpm
      generalize crc 4294967295 (bytesOf (l.take k)) = s0 at *
      obtain ⟨Ap, np, cp, xp⟩ := p
      simp only [Part.val] at hpc hrd hby hpl HTK
      have hcellp := (hb2.cell (p := ⟨b, o + k, none⟩) hbw).trans hpc
      have hrd2 := hrd.below hb2
      have HPL := Lib.hid hrd.len
      have HBY := Lib.hid hby
      clear hpc hrd hby
      go_wp2
      go_loop [4, 18] (fun a i => ∃ q : Nat, q ≤ np ∧ i = .int .i64 q ∧ a = .int .u32 (crc s0 (xp.take q) : Nat)) (fun _ i => np - (intOf i).toNat)
      case atStart => exact ⟨0, Nat.zero_le _, rfl, rfl⟩
      case round =>
        obtain ⟨q, hq, rfl, rfl⟩ := hrel
        by_cases hqn : q < np
        · have hs := crc_lt (xp.take q) s0 hs0 (fun x hx => HBY.out x (List.mem_of_mem_take hx))
          have HS := Lib.hid (show crc s0 (xp.take (q + 1)) = upd (crc s0 (xp.take q)) (xp.getD q 0).toNat by rw [take_snoc _ _ (by rw [HPL.out]; exact hqn), crc_snoc])
          obtain ⟨bp, op, rfl, hbl, hcellq⟩ := hrd2.cell hqn
          have hx := HBY.out (xp.getD q 0) (by
            rw [List.getD_eq_getElem?_getD, List.getElem?_eq_getElem (by rw [HPL.out]; exact hqn)]
            exact List.getElem_mem _)
          generalize crc s0 (xp.take q) = s at *
          generalize xp.getD q 0 = x at *
          obtain ⟨x, rfl⟩ : ∃ y : Nat, x = (y : Int) := ⟨x.toNat, by omega⟩
          rw [Int.toNat_natCast] at HS
          obtain ⟨s1, s2, f1, f2, h1, h2, e1, e2, h3, x1, x2, x3⟩ := upd_code s x hs (by omega)
          have ht1 := HT.out (s1 % 16) (by omega)
          have ht2 := HT.out (s2 % 16) (by omega)
          rw [← e1] at ht1
          rw [← e2] at ht2
          clear e1 e2
          generalize upd s x = s3 at *
          go_wp2
          go_round
          case rel => exact ⟨q + 1, by omega, by go_num, by rw [HS.out]⟩
          case measure => simp [intOf]; omega
        · have hqn' : q = np := by omega
          subst hqn'
          have HE := Lib.hid (List.take_of_length_le (l := xp) (i := q) (by rw [HPL.out]; exact Nat.le_refl _))
          rw [HE.out]
          go_wp2
          go_round
          case rel => exact ⟨k + 1, by omega, by go_num, by rw [HTK.out]⟩
          case measure => simp [intOf]; omega
    · have hkn' : k = n := by omega
      subst hkn'
      rw [List.take_of_length_le (by rw [HL.out]; exact Nat.le_refl _)]
      have hs0 : crc 4294967295 (bytesOf l) < 2 ^ 32 := crc_lt _ _ (by decide) (fun x hx => by
        unfold bytesOf at hx
        obtain ⟨q, hq, hx⟩ := List.mem_flatMap.1 hx
        exact (HK.out q hq).1.2 x hx)
      have HX := Lib.hid (show bits .xor .u32 IntKind.u32.max ((crc 4294967295 (bytesOf l) : Nat) : Int) = ((sumL (bytesOf l) : Nat) : Int) from u32_xor_nat 4294967295 _ (by decide) hs0)
      generalize crc 4294967295 (bytesOf l) = s at *
      go_wp2
      go_ret
      exact ⟨ret_u32 HX.out, hb2⟩

end Go.Proofs.YtnomicnmpllajaaGreatDoor
end

section
namespace Go.Proofs.YtnomicnmpllajaaGreatDoor
open Go Go.RowKit
set_option maxHeartbeats 400000 in
theorem cloneFor_any (A : Option Addr) (n c : Nat) (xs : List Int) (m : Int) (w : World) (h : Rd w w.heap.size .u8 A n c xs) (hn : n ≤ 1000000) (hm : 0 ≤ m) (hm2 : m ≤ 1000100) :
    Calls Tryz.prog 65 #[.slice A n c, .int .i64 m] w fun e w' =>
      ∃ v, e = .returned v ∧ w'.ownsRow w.heap.size 5 1 v n (xs.map (Value.int .u8)) ∧ Below w.heap.size w w' := by
  obtain ⟨i0, hi, hz0, hz1, hz2⟩ := info_parts info_u8
  go_enter Tryz.func65, Tryz.ntmps65
  go_wp2_with (first
    | (at_make
       refine wpList_make_own _ rfl _ _ 33 rfl w.heap.size 5 i0 _ 1 Tryz.underlying33 hi hz0 hz1 _ _ _ (n + m.toNat) rfl rfl (by omega) (by rw [hz2]; omega) (by unfold maxLen; omega) (Nat.le_refl _) ?_
       intro w1 hown1 hg1
       have hb1 : Below w.heap.size w w1 := (Below.refl _ _).grown hg1 (Nat.le_refl _) (fun k hk => by cases hk))
    | (at_builtin
       refine wpList_append_src rfl _ _ 33 rfl w.heap.size 5 i0 _ 1 1 Tryz.underlying33 hi hz0 hz1 hz2 rfl (by omega) _ 0 [] rfl hown1 A n c (xs.map (Value.int .u8)) rfl
         (by have := h.len; simpa using this) h.nil (h.below hb1).news (ints_oneCell _ _) (by unfold maxLen; omega) (by omega) hb1.size ?_
       intro v2 w2 hown2 hg2))
  go_ret
  refine ⟨v2, rfl, by simpa using hown2, hb1.grown hg2 hb1.size (fun k hk => (hown1.lt k hk).1)⟩

set_option maxHeartbeats 400000 in
set_option maxRecDepth 100000 in
theorem appendNum_any (base : Nat) (v : Value) (xs : List Int) (n : Int) (w : World) (hown : w.ownsRow base 5 1 v xs.length (xs.map (Value.int .u8))) (hbase : base ≤ w.heap.size)
    (hx : xs.length ≤ 10000000) (hn : -9223372036854775808 ≤ n) (hn2 : n ≤ 9223372036854775807) :
    Calls Tryz.prog 64 #[v, .int .i64 n] w fun e w' =>
      ∃ v', e = .returned v' ∧ w'.ownsRow base 5 1 v' (xs ++ enc n.toNat).length ((xs ++ enc n.toNat).map (Value.int .u8)) ∧ Below base w w' := by
  obtain ⟨i0, hi, hz0, hz1, hz2⟩ := info_parts info_u8
  have h9 : (enc n.toNat).length ≤ 9 := enc_len9 (by omega)
  go_enter Tryz.func64, Tryz.ntmps64
  have hlen : (xs ++ enc n.toNat).length ≤ 10000009 := by rw [List.length_append]; omega
  by_cases h0 : 0 ≤ n
  all_goals
    go_wp2
    go_loopw [0, 1] (fun v' i wr => ∃ (ys : List Int) (m : Nat), i = .int .i64 m ∧ m ≤ n.toNat ∧ Hid (ys ++ enc m = xs ++ enc n.toNat) ∧ wr.ownsRow base 5 1 v' ys.length (ys.map (Value.int .u8)) ∧ Below base w wr)
      (fun _ i _ => (intOf i).toNat)
    case atStart =>
      first
        | exact ⟨xs, n.toNat, by rw [Int.toNat_of_nonneg h0], Nat.le_refl _, Lib.hid rfl, hown, Below.refl _ _⟩
        | exact ⟨xs, n.toNat, by rw [show n.toNat = 0 by omega]; rfl, Nat.le_refl _, Lib.hid rfl, hown, Below.refl _ _⟩
    case round =>
      obtain ⟨ys, m, rfl, hmn, hys, hown1, hb1⟩ := hrel
      have hyl : ys.length + (enc m).length ≤ 10000009 := by rw [← List.length_append, hys.out]; exact hlen
      have hep := enc_pos m
      by_cases hm : m < 128
      · have he : Hid (enc m = [(m : Int)]) := Lib.hid (enc_small hm)
        go_wp2_with (at_builtin
                     refine wpList_append_src rfl _ _ 33 rfl base 5 i0 _ 1 1 Tryz.underlying33 hi hz0 hz1 hz2 rfl (by omega) _ ys.length (ys.map (Value.int .u8)) rfl (hown1.alloc _)
                       (some ⟨wr.heap.size, 0, none⟩) 1 1 [.int .u8 (m : Int)] rfl rfl (fun h => by cases h) (news_new _ _ _) (one_cell _ _) (by unfold maxLen; omega) (by omega) (by have := hb1.size; simp; omega) ?_
                     intro v2 w2 hown2 hg2)
        go_ret
        have e : xs ++ enc n.toNat = ys ++ [(m : Int)] := by rw [← hys.out, he.out]
        rw [e]
        refine ⟨v2, rfl, by simpa using hown2, (hb1.alloc (by have := hb1.size; omega) _).grown hg2 (by have := hb1.size; simp; omega) (fun k hk => (hown1.lt k hk).1)⟩
      · first | (exfalso; omega) | skip
        all_goals
          have he : Hid (enc m = ((128 + m % 128 : Nat) : Int) :: enc (m / 128)) := Lib.hid (enc_big hm)
          have hm' : (128 : Int) ≤ m := by omega
          go_wp2_with (at_builtin
                       refine wpList_append_src rfl _ _ 33 rfl base 5 i0 _ 1 1 Tryz.underlying33 hi hz0 hz1 hz2 rfl (by omega) _ ys.length (ys.map (Value.int .u8)) rfl (hown1.alloc _)
                         (some ⟨wr.heap.size, 0, none⟩) 1 1 [.int .u8 (128 + (m : Int) % 128)] rfl rfl (fun h => by cases h) (news_new _ _ _) (one_cell _ _) (by unfold maxLen; omega) (by omega) (by have := hb1.size; simp; omega) ?_
                       intro v2 w2 hown2 hg2)
          have hb2 : Below base w w2 := (hb1.alloc (by have := hb1.size; omega) _).grown hg2 (by have := hb1.size; simp; omega) (fun k hk => (hown1.lt k hk).1)
          go_roundw
          case rel => exact ⟨ys ++ [(128 + (m : Int) % 128)], m / 128, by go_num, by omega, Lib.hid (by rw [← hys.out, he.out]; simp), by simpa using hown2, hb2⟩
          case measure => simp [intOf]; omega

set_option maxHeartbeats 400000 in
theorem Num_any (A : Option Addr) (k c : Nat) (xs : List Int) (n : Int) (w : World) (h : Rd w w.heap.size .u8 A k c xs) (hk : k ≤ 1000000) (hn : -9223372036854775808 ≤ n) (hn2 : n ≤ 9223372036854775807) :
    Calls Tryz.prog 32 #[.slice A k c, .int .i64 n] w fun e w' =>
      ∃ v, e = .returned v ∧ w'.ownsRow w.heap.size 5 1 v (xs ++ enc n.toNat).length ((xs ++ enc n.toNat).map (Value.int .u8)) ∧ Below w.heap.size w w' := by
  have hl := h.len
  subst hl
  go_enter Tryz.func32, Tryz.ntmps32
  go_wp2_with (first
    | (go_at_call 65; refine (cloneFor_any A _ c xs 9 _ h hk (by omega) (by omega)).mono ?_; rintro e w1 ⟨v1, rfl, hown1, hb1⟩)
    | (go_at_call 64; refine (appendNum_any w.heap.size v1 xs n _ hown1 hb1.size (by omega) hn hn2).mono ?_; rintro e w2 ⟨v2, rfl, hown2, hb2⟩))
  go_ret
  exact ⟨v2, rfl, hown2, hb1.trans hb2⟩

end Go.Proofs.YtnomicnmpllajaaGreatDoor
end

section
namespace Go.Proofs.YtnomicnmpllajaaGreatDoor
open Go Go.RowKit

/-- A block that is known whole. -/
def Blk (w : World) (g : Nat) (t : TypeId) (cs : Array Value) : Prop := w.heap[g]? = some (.cells cs t (0, 0))
section
variable {w w' : World} {g : Nat} {t : TypeId} {cs : Array Value}
theorem Blk.lt (h : Blk w g t cs) : g < w.heap.size := (Array.getElem?_eq_some_iff.1 h).1
theorem Blk.cell (h : Blk w g t cs) (i : Nat) : w.cell? ⟨g, i, none⟩ = cs[i]? := cell_of_row w g i cs t (0, 0) h
theorem Blk.free (h : Blk w g t cs) (i : Nat) : w.frozen? ⟨g, i, none⟩ = false := by
  have h' : w.heap[g]? = some (.cells cs t (0, 0)) := h
  simp [World.frozen?, h']
theorem Blk.fresh (w : World) (t : TypeId) (cs : Array Value) : Blk (w.alloc (.cells cs t)) w.heap.size t cs := heap_alloc_new w _
theorem Blk.drew (h : Blk w g t cs) : Blk w.drew g t cs := h
theorem Blk.alloc (h : Blk w g t cs) (o : Obj) : Blk (w.alloc o) g t cs := (Below.heap_alloc w o g h.lt).trans h
theorem Blk.set (h : Blk w g t cs) (i : Nat) (u : Value) : Blk (w.setCell ⟨g, i, none⟩ u) g t (cs.setIfInBounds i u) := by
  have h' : w.heap[g]? = some (.cells cs t (0, 0)) := h
  show (w.setCell ⟨g, i, none⟩ u).heap[g]? = _
  simp [World.setCell, Array.getElem?_modify, h']
theorem Blk.other (h : Blk w g t cs) {p : Addr} (hp : g ≠ p.block) (u : Value) : Blk (w.setCell p u) g t cs := (Below.heap_setCell w p u g hp).trans h
theorem Blk.below {B : Nat} (h : Blk w g t cs) (hb : Below B w w') (hg : g < B) : Blk w' g t cs := (hb.block g hg).trans h
theorem Blk.grown {row : Option Nat} (h : Blk w g t cs) (hb : w.grownBy w' row) (hg : some g ≠ row) : Blk w' g t cs := (hb.block g h.lt hg).trans h
end

/-- What is read as a number: its value, how many bytes it has, and the error's number. -/
def numF : Nat → Nat → Nat → List Int → Nat × Nat × Nat
  | 0, _, _, _ => (0, 0, 2)
  | _ + 1, _, _, [] => (0, 0, 3)
  | f + 1, i, acc, d :: r => if 128 ≤ d then numF f (i + 1) (acc + d.toNat % 128 * 128 ^ i) r else if d = 0 ∧ 0 < i then (0, 0, 2) else (acc + d.toNat % 128 * 128 ^ i, i + 1, 0)

theorem numF_end (f i acc : Nat) (l : List Int) (h : l = []) : numF (f + 1) i acc l = (0, 0, 3) := by subst h; rfl
theorem numF_on (f i acc : Nat) (d : Int) (r : List Int) (h : 128 ≤ d) : numF (f + 1) i acc (d :: r) = numF f (i + 1) (acc + d.toNat % 128 * 128 ^ i) r := by simp only [numF, if_pos h]
theorem numF_zero (f i acc : Nat) (r : List Int) (hi : 0 < i) : numF (f + 1) i acc (0 :: r) = (0, 0, 2) := by
  simp only [numF]
  rw [if_neg (by omega), if_pos ⟨trivial, hi⟩]
theorem numF_last (f i acc : Nat) (d : Int) (r : List Int) (h : ¬ 128 ≤ d) (hz : ¬ (d = 0 ∧ 0 < i)) : numF (f + 1) i acc (d :: r) = (acc + d.toNat % 128 * 128 ^ i, i + 1, 0) := by
  simp only [numF]
  rw [if_neg h, if_neg hz]
theorem drop_at (xs : List Int) (k : Nat) (h : k < xs.length) : xs.drop k = xs.getD k 0 :: xs.drop (k + 1) := by
  rw [List.drop_eq_getElem_cons h]
  simp [List.getD, List.getElem?_eq_getElem h]

set_option maxHeartbeats 400000 in
theorem Left_any (A : Option Addr) (n c : Nat) (p : Int) (w : World) (hn : n ≤ 1000000) (hp : 0 ≤ p) (hp2 : p ≤ n) :
    Calls Tryz.prog 115 #[.agg #[.slice A n c, .int .i64 p]] w fun e w' =>
      e = .returned (.int .i64 (n - p)) ∧ w.alloc (.cells #[.slice A n c, .int .i64 p] 136) = w' := by
  go_enter Tryz.func115, Tryz.ntmps115
  go_wp2
  go_ret
  exact ⟨rfl, rfl⟩
set_option maxHeartbeats 400000 in
theorem At_any (A : Option Addr) (n c : Nat) (p : Int) (w : World) :
    Calls Tryz.prog 82 #[.agg #[.slice A n c, .int .i64 p]] w fun e w' =>
      e = .returned (.int .i64 p) ∧ w.alloc (.cells #[.slice A n c, .int .i64 p] 136) = w' := by
  go_enter Tryz.func82, Tryz.ntmps82
  go_wp2
  go_ret
  exact ⟨rfl, rfl⟩

set_option maxHeartbeats 400000 in
set_option maxRecDepth 100000 in
theorem num_any (A : Option Addr) (n c B : Nat) (xs : List Int) (p : Nat) (w : World) (h : Rd w B .u8 A n c xs) (hB : B ≤ w.heap.size) (hx : ∀ x ∈ xs, 0 ≤ x ∧ x < 256) (hn : n ≤ 1000000) (hp : p ≤ n) :
    Calls Tryz.prog 103 #[.agg #[.slice A n c, .int .i64 p]] w fun e w' =>
      ∃ q : Int, e = .returned (.tuple #[.int .i64 (numF 9 0 0 (xs.drop p)).1, .agg #[.slice A n c, .int .i64 q], .int .i64 (numF 9 0 0 (xs.drop p)).2.2]) ∧
        ((numF 9 0 0 (xs.drop p)).2.2 = 0 → q = p + (numF 9 0 0 (xs.drop p)).2.1) ∧ Below w.heap.size w w' := by
  go_enter Tryz.func103, Tryz.ntmps103
  go_wp2
  have hb0 : Below w.heap.size w ((w.alloc (Obj.cells #[Value.slice A n c, Value.int IntKind.i64 ↑p] 136)).alloc (Obj.cells #[Value.slice none 0 0, Value.int IntKind.i64 0] 136)) :=
    ((Below.refl _ _).alloc (Nat.le_refl _) _).alloc (by simp) _
  go_loopw [5, 8] (fun v5 v8 wr => ∃ i acc : Nat, v8 = .int .i64 i ∧ v5 = .int .i64 acc ∧ i ≤ 9 ∧ p + i ≤ n ∧ Hid (acc < 128 ^ i) ∧ Hid (numF (9 - i) i acc (xs.drop (p + i)) = numF 9 0 0 (xs.drop p)) ∧
      Blk wr w.heap.size 136 #[.slice A n c, .int .i64 ((p + i : Nat) : Int)] ∧ Blk wr (w.heap.size + 1) 136 #[.slice none 0 0, .int .i64 0] ∧ Below w.heap.size w wr)
    (fun _ i _ => 9 - (intOf i).toNat)
  case atStart => exact ⟨0, 0, rfl, rfl, by omega, by omega, Lib.hid (by simp), Lib.hid rfl, (Blk.fresh _ _ _).alloc _, by simpa using Blk.fresh (w.alloc (Obj.cells #[Value.slice A n c, Value.int IntKind.i64 ↑p] 136)) _ _, hb0⟩
  case round =>
    obtain ⟨i, acc, rfl, rfl, hi9, hpi, hacc, hnum, hk1, hk2, hb1⟩ := hrel
    have c0 := hk1.cell 0
    have c1 := hk1.cell 1
    have f1 := hk1.free 1
    have d0 := hk2.cell 0
    have d1 := hk2.cell 1
    have g0 := hk2.free 0
    have g1 := hk2.free 1
    simp at c0 c1 d0 d1
    by_cases hi : i < 9
    · by_cases hlt : p + i < n
      · obtain ⟨b, o, hA, hbl, hcell⟩ := h.cell hlt
        subst hA
        have hcell' := (hb1.cell (p := ⟨b, o + (p + i), none⟩) (show b < _ by omega)).trans hcell
        have hd := hx (xs.getD (p + i) 0) (by rw [List.getD_eq_getElem?_getD, List.getElem?_eq_getElem (by rw [h.len]; exact hlt)]; exact List.getElem_mem _)
        have HN := Lib.hid (drop_at xs (p + i) (by rw [h.len]; exact hlt))
        generalize xs.getD (p + i) 0 = d at *
        have HO := Lib.hid (or_digit i acc d hi hacc.out hd)
        clear hcell
        by_cases h128 : 128 ≤ d
        · have HF : Hid (numF (9 - (i + 1)) (i + 1) (acc + d.toNat % 128 * 128 ^ i) (xs.drop (p + (i + 1))) = numF 9 0 0 (xs.drop p)) := Lib.hid (by
            rw [← hnum.out, HN.out, show 9 - i = (9 - (i + 1)) + 1 by omega, numF_on _ _ _ _ _ h128]
            rfl)
          clear hnum
          go_wp2_with (first
            | (go_at_call 115; refine (Left_any _ n c _ _ hn (by omega) (by omega)).mono ?_; rintro e w1 ⟨rfl, hw1⟩
               have hb2 : Below wr.heap.size wr w1 := hw1 ▸ (Below.refl _ _).alloc (Nat.le_refl _) _
               clear hw1
               have hk3 := hk1.below hb2 hk1.lt
               have hk4 := hk2.below hb2 hk2.lt
               have c0 := hk3.cell 0
               have c1 := hk3.cell 1
               have f1 := hk3.free 1
               have d0 := hk4.cell 0
               have d1 := hk4.cell 1
               have g0 := hk4.free 0
               have g1 := hk4.free 1
               have hcell'' := (hb2.cell (p := ⟨b, o + (p + i), none⟩) (show b < _ by have := hb1.size; omega)).trans hcell'
               simp at c0 c1 d0 d1))
          go_roundw
          case rel =>
            refine ⟨i + 1, acc + d.toNat % 128 * 128 ^ i, by go_num, by rw [HO.out.1], by omega, by omega, Lib.hid HO.out.2, HF, ?_, hk4.other (by simp) _, (hb1.trans (hb2.mono hb1.size)).setCell (Nat.le_refl _) _⟩
            have := hk3.set 1 (Value.int IntKind.i64 (↑p + ↑i + 1))
            simpa [Int.add_assoc] using this
          case measure => simp [intOf]; omega
        · by_cases hz : d = 0 ∧ 0 < i
          · obtain ⟨rfl, hi0⟩ := hz
            have HF : Hid (numF 9 0 0 (xs.drop p) = (0, 0, 2)) := Lib.hid (by
              rw [← hnum.out, HN.out, show 9 - i = (9 - (i + 1)) + 1 by omega, numF_zero _ _ _ _ hi0])
            clear hnum
            go_wp2_with (first
              | (go_at_call 115; refine (Left_any _ n c _ _ hn (by omega) (by omega)).mono ?_; rintro e w1 ⟨rfl, hw1⟩
                 have hb2 : Below wr.heap.size wr w1 := hw1 ▸ (Below.refl _ _).alloc (Nat.le_refl _) _
                 clear hw1
                 have hk3 := hk1.below hb2 hk1.lt
                 have hk4 := hk2.below hb2 hk2.lt
                 have c0 := hk3.cell 0
                 have c1 := hk3.cell 1
                 have f1 := hk3.free 1
                 have d0 := hk4.cell 0
                 have d1 := hk4.cell 1
                 have g0 := hk4.free 0
                 have g1 := hk4.free 1
                 have hcell'' := (hb2.cell (p := ⟨b, o + (p + i), none⟩) (show b < _ by have := hb1.size; omega)).trans hcell'
                 simp at c0 c1 d0 d1))
            clear hcell'
            have hk5 := hk3.set 1 (Value.int IntKind.i64 (↑p + ↑i + 1))
            have hk6 := hk4.other (p := ⟨w.heap.size, 1, none⟩) (by simp) (Value.int IntKind.i64 (↑p + ↑i + 1))
            have hb5 : Below w.heap.size w (w1.setCell ⟨w.heap.size, 1, none⟩ (Value.int IntKind.i64 (↑p + ↑i + 1))) := (hb1.trans (hb2.mono hb1.size)).setCell (Nat.le_refl _) _
            generalize w1.setCell ⟨w.heap.size, 1, none⟩ (Value.int IntKind.i64 (↑p + ↑i + 1)) = w2 at *
            have k0 := hk5.cell 0
            have k1 := hk5.cell 1
            have l0 := hk6.cell 0
            have l1 := hk6.cell 1
            have m0 := hk6.free 0
            have m1 := hk6.free 1
            simp at k0 k1 l0 l1
            go_region
            have hk7 := (hk6.set 0 (Value.slice (some ⟨b, o, none⟩) n c)).set 1 (Value.int IntKind.i64 (↑p + ↑i + 1))
            have r0 := hk7.cell 0
            have r1 := hk7.cell 1
            simp at r0 r1
            clear k0 k1 l0 l1 m0 m1
            go_wp2
            refine bodyPost_ret (v := .tuple #[.int .i64 0, .agg #[Value.slice (some ⟨b, o, none⟩) n c, .int .i64 (↑p + ↑i + 1)], .int .i64 2]) (by simp [results, Tryz.results103, go_sem, r0, r1]) rfl ?_
            rw [HF.out]
            exact ⟨_, rfl, fun h => absurd h (by decide), ((hb5.setCell (by simp) _).setCell (by simp) _).drew⟩
          · have HF : Hid (numF 9 0 0 (xs.drop p) = (acc + d.toNat % 128 * 128 ^ i, i + 1, 0)) := Lib.hid (by
              rw [← hnum.out, HN.out, show 9 - i = (9 - (i + 1)) + 1 by omega, numF_last _ _ _ _ _ h128 hz])
            clear hnum
            by_cases hd0 : d = 0
            · have hi0 : i ≤ 0 := by
                rcases Nat.eq_zero_or_pos i with h | h
                · omega
                · exact absurd ⟨hd0, h⟩ hz
              subst hd0
              have HZ := Lib.hid (or_zero i acc hi hacc.out)
              go_wp2_with (first
                | (go_at_call 115; refine (Left_any _ n c _ _ hn (by omega) (by omega)).mono ?_; rintro e w1 ⟨rfl, hw1⟩
                   have hb2 : Below wr.heap.size wr w1 := hw1 ▸ (Below.refl _ _).alloc (Nat.le_refl _) _
                   clear hw1
                   have hk3 := hk1.below hb2 hk1.lt
                   have hk4 := hk2.below hb2 hk2.lt
                   have c0 := hk3.cell 0
                   have c1 := hk3.cell 1
                   have f1 := hk3.free 1
                   have d0 := hk4.cell 0
                   have d1 := hk4.cell 1
                   have g0 := hk4.free 0
                   have g1 := hk4.free 1
                   have hcell'' := (hb2.cell (p := ⟨b, o + (p + i), none⟩) (show b < _ by have := hb1.size; omega)).trans hcell'
                   simp at c0 c1 d0 d1))
              clear hcell'
              have hk5 := hk3.set 1 (Value.int IntKind.i64 (↑p + ↑i + 1))
              have hk6 := hk4.other (p := ⟨w.heap.size, 1, none⟩) (by simp) (Value.int IntKind.i64 (↑p + ↑i + 1))
              have hb5 : Below w.heap.size w (w1.setCell ⟨w.heap.size, 1, none⟩ (Value.int IntKind.i64 (↑p + ↑i + 1))) := (hb1.trans (hb2.mono hb1.size)).setCell (Nat.le_refl _) _
              generalize w1.setCell ⟨w.heap.size, 1, none⟩ (Value.int IntKind.i64 (↑p + ↑i + 1)) = w2 at *
              have k0 := hk5.cell 0
              have k1 := hk5.cell 1
              have l0 := hk6.cell 0
              have l1 := hk6.cell 1
              have m0 := hk6.free 0
              have m1 := hk6.free 1
              simp at k0 k1 l0 l1
              go_region
              have hk7 := (hk6.set 0 (Value.slice (some ⟨b, o, none⟩) n c)).set 1 (Value.int IntKind.i64 (↑p + ↑i + 1))
              have r0 := hk7.cell 0
              have r1 := hk7.cell 1
              simp at r0 r1
              clear k0 k1 l0 l1 m0 m1
              go_wp2
              rw [HZ.out]
              refine bodyPost_ret (v := .tuple #[.int .i64 (acc : Int), .agg #[Value.slice (some ⟨b, o, none⟩) n c, .int .i64 (↑p + ↑i + 1)], .int .i64 0]) (by simp [results, Tryz.results103, go_sem, r0, r1]) rfl ?_
              rw [HF.out, show acc + (0 : Int).toNat % 128 * 128 ^ i = acc by simp]
              exact ⟨_, rfl, fun _ => by push_cast; omega, ((hb5.setCell (by simp) _).setCell (by simp) _).drew⟩
            · go_wp2_with (first
                | (go_at_call 115; refine (Left_any _ n c _ _ hn (by omega) (by omega)).mono ?_; rintro e w1 ⟨rfl, hw1⟩
                   have hb2 : Below wr.heap.size wr w1 := hw1 ▸ (Below.refl _ _).alloc (Nat.le_refl _) _
                   clear hw1
                   have hk3 := hk1.below hb2 hk1.lt
                   have hk4 := hk2.below hb2 hk2.lt
                   have c0 := hk3.cell 0
                   have c1 := hk3.cell 1
                   have f1 := hk3.free 1
                   have d0 := hk4.cell 0
                   have d1 := hk4.cell 1
                   have g0 := hk4.free 0
                   have g1 := hk4.free 1
                   have hcell'' := (hb2.cell (p := ⟨b, o + (p + i), none⟩) (show b < _ by have := hb1.size; omega)).trans hcell'
                   simp at c0 c1 d0 d1))
              clear hcell'
              have hk5 := hk3.set 1 (Value.int IntKind.i64 (↑p + ↑i + 1))
              have hk6 := hk4.other (p := ⟨w.heap.size, 1, none⟩) (by simp) (Value.int IntKind.i64 (↑p + ↑i + 1))
              have hb5 : Below w.heap.size w (w1.setCell ⟨w.heap.size, 1, none⟩ (Value.int IntKind.i64 (↑p + ↑i + 1))) := (hb1.trans (hb2.mono hb1.size)).setCell (Nat.le_refl _) _
              generalize w1.setCell ⟨w.heap.size, 1, none⟩ (Value.int IntKind.i64 (↑p + ↑i + 1)) = w2 at *
              have k0 := hk5.cell 0
              have k1 := hk5.cell 1
              have l0 := hk6.cell 0
              have l1 := hk6.cell 1
              have m0 := hk6.free 0
              have m1 := hk6.free 1
              simp at k0 k1 l0 l1
              go_region
              have hk7 := (hk6.set 0 (Value.slice (some ⟨b, o, none⟩) n c)).set 1 (Value.int IntKind.i64 (↑p + ↑i + 1))
              have r0 := hk7.cell 0
              have r1 := hk7.cell 1
              simp at r0 r1
              clear k0 k1 l0 l1 m0 m1
              go_wp2
              rw [HO.out.1]
              refine bodyPost_ret (v := .tuple #[.int .i64 ((acc + d.toNat % 128 * 128 ^ i : Nat) : Int), .agg #[Value.slice (some ⟨b, o, none⟩) n c, .int .i64 (↑p + ↑i + 1)], .int .i64 0]) (by simp [results, Tryz.results103, go_sem, r0, r1]) rfl ?_
              rw [HF.out]
              exact ⟨_, rfl, fun _ => by push_cast; omega, ((hb5.setCell (by simp) _).setCell (by simp) _).drew⟩
      · have HF : Hid (numF 9 0 0 (xs.drop p) = (0, 0, 3)) := Lib.hid (by
          rw [← hnum.out, show 9 - i = (9 - (i + 1)) + 1 by omega, numF_end _ _ _ _ (List.drop_of_length_le (by rw [h.len]; omega))])
        clear hnum
        go_wp2_with (first
          | (go_at_call 115; refine (Left_any _ n c _ _ hn (by omega) (by omega)).mono ?_; rintro e w1 ⟨rfl, hw1⟩
             have hb2 : Below wr.heap.size wr w1 := hw1 ▸ (Below.refl _ _).alloc (Nat.le_refl _) _
             clear hw1
             have hk3 := hk1.below hb2 hk1.lt
             have hk4 := hk2.below hb2 hk2.lt
             have c0 := hk3.cell 0
             have c1 := hk3.cell 1
             have f1 := hk3.free 1
             have d0 := hk4.cell 0
             have d1 := hk4.cell 1
             have g0 := hk4.free 0
             have g1 := hk4.free 1
             simp at c0 c1 d0 d1))
        have hk5 := hk3
        have hk6 := hk4
        have hb5 := (hb1.trans (hb2.mono hb1.size))
        have k0 := hk5.cell 0
        have k1 := hk5.cell 1
        have l0 := hk6.cell 0
        have l1 := hk6.cell 1
        have m0 := hk6.free 0
        have m1 := hk6.free 1
        simp at k0 k1 l0 l1
        go_region
        have hk7 := (hk6.set 0 (Value.slice A n c)).set 1 (Value.int IntKind.i64 (↑p + ↑i))
        have r0 := hk7.cell 0
        have r1 := hk7.cell 1
        simp at r0 r1
        clear k0 k1 l0 l1 m0 m1
        go_wp2
        refine bodyPost_ret (v := .tuple #[.int .i64 0, .agg #[Value.slice A n c, .int .i64 (↑p + ↑i)], .int .i64 3]) (by simp [results, Tryz.results103, go_sem, r0, r1]) rfl ?_
        rw [HF.out]
        exact ⟨_, rfl, fun h => absurd h (by decide), ((hb5.setCell (by simp) _).setCell (by simp) _).drew⟩
    · have HF : Hid (numF 9 0 0 (xs.drop p) = (0, 0, 2)) := Lib.hid (by
        rw [← hnum.out, show 9 - i = 0 by omega]; rfl)
      clear hnum
      go_wp2
      have hk5 := hk1
      have hk6 := hk2
      have hb5 := hb1
      have k0 := hk5.cell 0
      have k1 := hk5.cell 1
      have l0 := hk6.cell 0
      have l1 := hk6.cell 1
      have m0 := hk6.free 0
      have m1 := hk6.free 1
      simp at k0 k1 l0 l1
      go_region
      have hk7 := (hk6.set 0 (Value.slice A n c)).set 1 (Value.int IntKind.i64 (↑p + ↑i))
      have r0 := hk7.cell 0
      have r1 := hk7.cell 1
      simp at r0 r1
      clear k0 k1 l0 l1 m0 m1
      go_wp2
      refine bodyPost_ret (v := .tuple #[.int .i64 0, .agg #[Value.slice A n c, .int .i64 (↑p + ↑i)], .int .i64 2]) (by simp [results, Tryz.results103, go_sem, r0, r1]) rfl ?_
      rw [HF.out]
      exact ⟨_, rfl, fun h => absurd h (by decide), ((hb5.setCell (by simp) _).setCell (by simp) _).drew⟩

theorem two_blocks {w w1 : World} {cs ds : Array Value} {t u : TypeId} (h : Below ((w.alloc (.cells cs t)).alloc (.cells ds u)).heap.size ((w.alloc (.cells cs t)).alloc (.cells ds u)) w1) :
    Blk w1 w.heap.size t cs ∧ Blk w1 (w.heap.size + 1) u ds ∧ Below w.heap.size w w1 := by
  have hz : ((w.alloc (.cells cs t)).alloc (.cells ds u)).heap.size = w.heap.size + 2 := by simp
  have h1 : Blk ((w.alloc (.cells cs t)).alloc (.cells ds u)) w.heap.size t cs := (Blk.fresh w t cs).alloc _
  have h2 : Blk ((w.alloc (.cells cs t)).alloc (.cells ds u)) (w.heap.size + 1) u ds := by simpa using Blk.fresh (w.alloc (.cells cs t)) u ds
  exact ⟨h1.below h (by omega), h2.below h (by omega), (((Below.refl _ _).alloc (Nat.le_refl _) _).alloc (by simp) _).trans (h.mono (by omega))⟩

/-- What 'numF' can answer. -/
theorem numF_is : ∀ (f i acc : Nat) (l : List Int), acc < 128 ^ i → f + i ≤ 9 →
    (∃ v u, numF f i acc l = (v, u, 0) ∧ v < 9223372036854775808 ∧ i < u ∧ u ≤ i + l.length) ∨ (∃ er, numF f i acc l = (0, 0, er) ∧ (er = 2 ∨ er = 3))
  | 0, i, acc, l, _, _ => .inr ⟨2, rfl, .inl rfl⟩
  | f + 1, i, acc, [], _, _ => .inr ⟨3, rfl, .inr rfl⟩
  | f + 1, i, acc, d :: r, ha, hi => by
    have hs : 128 ^ (i + 1) = 128 ^ i * 128 := Nat.pow_succ ..
    have hm : d.toNat % 128 * 128 ^ i ≤ 127 * 128 ^ i := Nat.mul_le_mul_right _ (by omega)
    have hlt : acc + d.toNat % 128 * 128 ^ i < 128 ^ (i + 1) := by omega
    by_cases h : 128 ≤ d
    · rw [numF_on _ _ _ _ _ h]
      rcases numF_is f (i + 1) _ r hlt (by omega) with ⟨v, u, e, hv, hu, hl⟩ | he
      · exact .inl ⟨v, u, e, hv, by omega, by simp only [List.length_cons]; omega⟩
      · exact .inr he
    · by_cases hz : d = 0 ∧ 0 < i
      · obtain ⟨rfl, h0⟩ := hz
        exact .inr ⟨2, numF_zero _ _ _ _ h0, .inl rfl⟩
      · rw [numF_last _ _ _ _ _ h hz]
        refine .inl ⟨_, _, rfl, ?_, by omega, by simp only [List.length_cons]; omega⟩
        have h9 : 128 ^ (i + 1) ≤ 128 ^ 9 := Nat.pow_le_pow_right (by omega) (by omega)
        have h99 : (128 : Nat) ^ 9 = 9223372036854775808 := by decide
        omega

section
variable (A : Option Addr) (n c B : Nat) (xs : List Int) (p : Nat) (w : World) (h : Rd w B .u8 A n c xs) (hB : B ≤ w.heap.size) (hx : ∀ x ∈ xs, 0 ≤ x ∧ x < 256) (hn : n ≤ 1000000) (hp : p ≤ n)
include h hB hx hn hp

theorem num_ok (v u : Nat) (hN : numF 9 0 0 (xs.drop p) = (v, u, 0)) :
    Calls Tryz.prog 103 #[.agg #[.slice A n c, .int .i64 p]] w fun e w' =>
      e = .returned (.tuple #[.int .i64 v, .agg #[.slice A n c, .int .i64 ((p + u : Nat) : Int)], .int .i64 0]) ∧ Below w.heap.size w w' :=
  (num_any A n c B xs p w h hB hx hn hp).mono fun e w' ⟨q, he, hq, hb⟩ => by
    rw [hN] at he hq
    have hq' : q = ((p + u : Nat) : Int) := by have := hq rfl; push_cast; exact this
    subst hq'
    exact ⟨he, hb⟩
theorem num_no (er : Nat) (hN : numF 9 0 0 (xs.drop p) = (0, 0, er)) :
    Calls Tryz.prog 103 #[.agg #[.slice A n c, .int .i64 p]] w fun e w' =>
      ∃ q : Int, e = .returned (.tuple #[.int .i64 0, .agg #[.slice A n c, .int .i64 q], .int .i64 er]) ∧ Below w.heap.size w w' :=
  (num_any A n c B xs p w h hB hx hn hp).mono fun e w' ⟨q, he, hq, hb⟩ => by
    rw [hN] at he
    exact ⟨q, he, hb⟩
end
end Go.Proofs.YtnomicnmpllajaaGreatDoor
end

section
namespace Go.Proofs.YtnomicnmpllajaaGreatDoor
open Go Go.RowKit
/-- A reader that stands in one block. -/
def Rdr (w : World) (g : Nat) (A : Option Addr) (n c : Nat) (xs : List Int) (p why : Nat) : Prop :=
  Blk w g 138 #[.slice A n c, .int .i64 p, .int .i64 why] ∧ Rd w g .u8 A n c xs
theorem Rdr.keep {w w' : World} {g : Nat} {A : Option Addr} {n c : Nat} {xs : List Int} {p why : Nat} (h : Rdr w g A n c xs p why) (hb : Below w.heap.size w w') : Rdr w' g A n c xs p why :=
  ⟨h.1.below hb h.1.lt, h.2.below (hb.mono (Nat.le_of_lt h.1.lt))⟩

/-- What 'Num' reads: the value, the place, and why not. -/
def goNum (xs : List Int) (p why : Nat) : Nat × Nat × Nat :=
  if why = 0 then if (numF 9 0 0 (xs.drop p)).2.2 = 0 then ((numF 9 0 0 (xs.drop p)).1, p + (numF 9 0 0 (xs.drop p)).2.1, 0) else (0, p, (numF 9 0 0 (xs.drop p)).2.2) else (0, p, why)
section
variable {w w1 : World} {g : Nat}
theorem grow_below (h : Below w.heap.size w w1) : w.grownBy w1 (some g) := ⟨h.os, h.tape, h.output, h.size, fun k hk _ => h.block k hk⟩
theorem grow_alloc (h : w.grownBy w1 (some g)) (o : Obj) : w.grownBy (w1.alloc o) (some g) :=
  ⟨h.os, h.tape, h.output, Nat.le_trans h.size (by simp), fun k hk hne => (Below.heap_alloc w1 o k (Nat.lt_of_lt_of_le hk h.size)).trans (h.block k hk hne)⟩
theorem grow_set (h : w.grownBy w1 (some g)) (i : Nat) (x : Value) : w.grownBy (w1.setCell ⟨g, i, none⟩ x) (some g) :=
  ⟨h.os, h.tape, h.output, Nat.le_trans h.size (by simp [World.setCell]), fun k hk hne => (Below.heap_setCell w1 ⟨g, i, none⟩ x k (fun e => hne (by rw [e]))).trans (h.block k hk hne)⟩
end
set_option maxHeartbeats 800000 in
set_option maxRecDepth 100000 in
theorem readNum_ok (g : Nat) (A : Option Addr) (n c : Nat) (xs : List Int) (p : Nat) (w : World) (hr : Rdr w g A n c xs p 0) (hx : ∀ x ∈ xs, 0 ≤ x ∧ x < 256) (hn : n ≤ 1000000) (hp : p ≤ n) (v u : Nat) (hN : numF 9 0 0 (xs.drop p) = (v, u, 0)) :
    Calls Tryz.prog 102 #[.pointer (some ⟨g, 0, none⟩), .func (.func 103) #[] #[]] w fun e w' =>
      e = .returned (.int .i64 v) ∧ Blk w' g 138 #[.slice A n c, .int .i64 ((p + u : Nat) : Int), .int .i64 0] ∧ w.grownBy w' (some g) := by
  have hk := hr.1
  have HN := Lib.hid (num_ok A n c g xs p w hr.2 (Nat.le_of_lt hk.lt) hx hn hp v u hN)
  clear hN hx
  have c0 := hk.cell 0
  have c1 := hk.cell 1
  have c2 := hk.cell 2
  have f0 := hk.free 0
  have f1 := hk.free 1
  have f2 := hk.free 2
  simp at c0 c1 c2
  go_enter Tryz.func102, Tryz.ntmps102
  go_wp2_with (go_at_call 103; refine HN.out.mono ?_; rintro e w1 ⟨rfl, hb⟩
               have hk1 := hk.below hb hk.lt
               have hg1 := hk1.lt
               clear c0 c1 c2 f0 f1 f2
               have c0 := hk1.cell 0
               have c1 := hk1.cell 1
               have c2 := hk1.cell 2
               have f0 := hk1.free 0
               have f1 := hk1.free 1
               have f2 := hk1.free 2
               simp at c0 c1 c2)
  have hk2 := ((hk1.set 0 (Value.slice A n c)).set 1 (Value.int IntKind.i64 (↑p + ↑u))).alloc (.cells #[.slice A n c, .int .i64 (↑p + ↑u)] 136)
  have hgr := grow_alloc (grow_set (grow_set (grow_below (g := g) hb) 0 (Value.slice A n c)) 1 (Value.int IntKind.i64 (↑p + ↑u))) (.cells #[.slice A n c, .int .i64 (↑p + ↑u)] 136)
  go_ret
  exact ⟨rfl, by simpa using hk2, hgr⟩
set_option maxHeartbeats 800000 in
set_option maxRecDepth 100000 in
theorem readNum_no (g : Nat) (A : Option Addr) (n c : Nat) (xs : List Int) (p : Nat) (w : World) (hr : Rdr w g A n c xs p 0) (hx : ∀ x ∈ xs, 0 ≤ x ∧ x < 256) (hn : n ≤ 1000000) (hp : p ≤ n) (er : Nat) (he : er = 2 ∨ er = 3) (hN : numF 9 0 0 (xs.drop p) = (0, 0, er)) :
    Calls Tryz.prog 102 #[.pointer (some ⟨g, 0, none⟩), .func (.func 103) #[] #[]] w fun e w' =>
      e = .returned (.int .i64 0) ∧ Blk w' g 138 #[.slice A n c, .int .i64 p, .int .i64 er] ∧ w.grownBy w' (some g) := by
  have hk := hr.1
  have HN := Lib.hid (num_no A n c g xs p w hr.2 (Nat.le_of_lt hk.lt) hx hn hp er hN)
  clear hN hx
  have c0 := hk.cell 0
  have c1 := hk.cell 1
  have c2 := hk.cell 2
  have f0 := hk.free 0
  have f1 := hk.free 1
  have f2 := hk.free 2
  simp at c0 c1 c2
  rcases he with rfl | rfl
  · go_enter Tryz.func102, Tryz.ntmps102
    go_wp2_with (go_at_call 103; refine HN.out.mono ?_; rintro e w1 ⟨q, rfl, hb⟩
                 have hk1 := hk.below hb hk.lt
                 have hg1 := hk1.lt
                 clear c0 c1 c2 f0 f1 f2
                 have c0 := hk1.cell 0
                 have c1 := hk1.cell 1
                 have c2 := hk1.cell 2
                 have f0 := hk1.free 0
                 have f1 := hk1.free 1
                 have f2 := hk1.free 2
                 simp at c0 c1 c2)
    have hk2 := (hk1.set 2 (Value.int IntKind.i64 2)).alloc (.cells #[.slice A n c, .int .i64 q] 136)
    have hgr := grow_alloc (grow_set (grow_below (g := g) hb) 2 (Value.int IntKind.i64 2)) (.cells #[.slice A n c, .int .i64 q] 136)
    go_ret
    exact ⟨rfl, by simpa using hk2, hgr⟩
  · go_enter Tryz.func102, Tryz.ntmps102
    go_wp2_with (go_at_call 103; refine HN.out.mono ?_; rintro e w1 ⟨q, rfl, hb⟩
                 have hk1 := hk.below hb hk.lt
                 have hg1 := hk1.lt
                 clear c0 c1 c2 f0 f1 f2
                 have c0 := hk1.cell 0
                 have c1 := hk1.cell 1
                 have c2 := hk1.cell 2
                 have f0 := hk1.free 0
                 have f1 := hk1.free 1
                 have f2 := hk1.free 2
                 simp at c0 c1 c2)
    have hk2 := (hk1.set 2 (Value.int IntKind.i64 3)).alloc (.cells #[.slice A n c, .int .i64 q] 136)
    have hgr := grow_alloc (grow_set (grow_below (g := g) hb) 2 (Value.int IntKind.i64 3)) (.cells #[.slice A n c, .int .i64 q] 136)
    go_ret
    exact ⟨rfl, by simpa using hk2, hgr⟩
set_option maxHeartbeats 800000 in
set_option maxRecDepth 100000 in
theorem readNum_stop (g : Nat) (A : Option Addr) (n c : Nat) (xs : List Int) (p : Nat) (w : World) (why : Nat) (hw : why = 2 ∨ why = 3) (hr : Rdr w g A n c xs p why) :
    Calls Tryz.prog 102 #[.pointer (some ⟨g, 0, none⟩), .func (.func 103) #[] #[]] w fun e w' =>
      e = .returned (.int .i64 0) ∧ w = w' := by
  have hk := hr.1
  have c0 := hk.cell 0
  have c1 := hk.cell 1
  have c2 := hk.cell 2
  have f0 := hk.free 0
  have f1 := hk.free 1
  have f2 := hk.free 2
  simp at c0 c1 c2
  rcases hw with rfl | rfl
  · go_enter Tryz.func102, Tryz.ntmps102
    go_wp2
    go_ret
    exact ⟨rfl, rfl⟩
  · go_enter Tryz.func102, Tryz.ntmps102
    go_wp2
    go_ret
    exact ⟨rfl, rfl⟩

theorem Rdr.grow {w w' : World} {g : Nat} {A : Option Addr} {n c : Nat} {xs : List Int} {p why p' why' : Nat} (h : Rdr w g A n c xs p why) (hg : w.grownBy w' (some g)) (hb : Blk w' g 138 #[.slice A n c, .int .i64 p', .int .i64 why']) : Rdr w' g A n c xs p' why' :=
  ⟨hb, h.2.keep fun q hq => World.cell?_of_block (hg.block q.block (Nat.lt_trans hq h.1.lt) (fun e => by injection e with e; omega))⟩

theorem goNum_is (xs : List Int) (p why : Nat) (hp : p ≤ xs.length) (hw : why = 0 ∨ why = 2 ∨ why = 3) :
    (goNum xs p why).2.1 ≤ xs.length ∧ p ≤ (goNum xs p why).2.1 ∧ ((goNum xs p why).2.2 = 0 ∨ (goNum xs p why).2.2 = 2 ∨ (goNum xs p why).2.2 = 3) := by
  unfold goNum
  by_cases h : why = 0
  · rw [if_pos h]
    rcases numF_is 9 0 0 (xs.drop p) (by simp) (by omega) with ⟨v, u, e, hv, hu0, hul⟩ | ⟨er, e, he⟩
    · rw [List.length_drop] at hul
      rw [e, if_pos rfl]
      exact ⟨by simp only; omega, by simp only; omega, .inl rfl⟩
    · rw [e, if_neg (by show ¬ er = 0; omega)]
      exact ⟨hp, Nat.le_refl _, .inr he⟩
  · rw [if_neg h]
    exact ⟨hp, Nat.le_refl _, hw⟩

end Go.Proofs.YtnomicnmpllajaaGreatDoor
end
