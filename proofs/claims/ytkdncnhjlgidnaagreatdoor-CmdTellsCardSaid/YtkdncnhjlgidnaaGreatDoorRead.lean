/- What is proved here: what each function of package coil that reads does: which number, text or list it returns, or which error, where the reader is behind it, and that nothing else that was there has changed. Slices of at most a million elements. -/
import Derived.Test.YtkdncnhjlgidnaaGreatDoorCoil
namespace Go.Proofs.YtkdncnhjlgidnaaGreatDoor
open Go Go.RowKit

/-- A block that is known whole. -/
def Blk (w : World) (g : Nat) (t : TypeId) (cs : Array Value) : Prop := w.heap[g]? = some (.cells cs t (0, 0))
section
variable {w w' : World} {g : Nat} {t : TypeId} {cs : Array Value}
theorem Blk.lt (h : Blk w g t cs) : g < w.heap.size := (Array.getElem?_eq_some_iff.1 h).1
theorem Blk.cell (h : Blk w g t cs) (i : Nat) : w.cell? ⟨g, i, none⟩ = cs[i]? := cell_of_row w g i cs t (0, 0) h
theorem Blk.free (h : Blk w g t cs) (i : Nat) : w.frozen? ⟨g, i, none⟩ = false := by
  have h' : w.heap[g]? = some (.cells cs t (0, 0)) := h
  simp [World.frozen?, h']
theorem Blk.fresh (w : World) (t : TypeId) (cs : Array Value) : Blk (w.alloc (.cells cs t)) w.heap.size t cs := heap_alloc_new w _
theorem Blk.drew (h : Blk w g t cs) : Blk w.drew g t cs := h
theorem Blk.alloc (h : Blk w g t cs) (o : Obj) : Blk (w.alloc o) g t cs := (Below.heap_alloc w o g h.lt).trans h
theorem Blk.set (h : Blk w g t cs) (i : Nat) (u : Value) : Blk (w.setCell ⟨g, i, none⟩ u) g t (cs.setIfInBounds i u) := by
  have h' : w.heap[g]? = some (.cells cs t (0, 0)) := h
  show (w.setCell ⟨g, i, none⟩ u).heap[g]? = _
  simp [World.setCell, Array.getElem?_modify, h']
theorem Blk.other (h : Blk w g t cs) {p : Addr} (hp : g ≠ p.block) (u : Value) : Blk (w.setCell p u) g t cs := (Below.heap_setCell w p u g hp).trans h
theorem Blk.below {B : Nat} (h : Blk w g t cs) (hb : Below B w w') (hg : g < B) : Blk w' g t cs := (hb.block g hg).trans h
theorem Blk.grown {row : Option Nat} (h : Blk w g t cs) (hb : w.grownBy w' row) (hg : some g ≠ row) : Blk w' g t cs := (hb.block g h.lt hg).trans h
end

/-- What is read as a number: its value, how many bytes it has, and the error's number. -/
def numF : Nat → Nat → Nat → List Int → Nat × Nat × Nat
  | 0, _, _, _ => (0, 0, 2)
  | _ + 1, _, _, [] => (0, 0, 3)
  | f + 1, i, acc, d :: r => if 128 ≤ d then numF f (i + 1) (acc + d.toNat % 128 * 128 ^ i) r else if d = 0 ∧ 0 < i then (0, 0, 2) else (acc + d.toNat % 128 * 128 ^ i, i + 1, 0)

theorem numF_end (f i acc : Nat) (l : List Int) (h : l = []) : numF (f + 1) i acc l = (0, 0, 3) := by subst h; rfl
theorem numF_on (f i acc : Nat) (d : Int) (r : List Int) (h : 128 ≤ d) : numF (f + 1) i acc (d :: r) = numF f (i + 1) (acc + d.toNat % 128 * 128 ^ i) r := by simp only [numF, if_pos h]
theorem numF_zero (f i acc : Nat) (r : List Int) (hi : 0 < i) : numF (f + 1) i acc (0 :: r) = (0, 0, 2) := by
  simp only [numF]
  rw [if_neg (by omega), if_pos ⟨trivial, hi⟩]
theorem numF_last (f i acc : Nat) (d : Int) (r : List Int) (h : ¬ 128 ≤ d) (hz : ¬ (d = 0 ∧ 0 < i)) : numF (f + 1) i acc (d :: r) = (acc + d.toNat % 128 * 128 ^ i, i + 1, 0) := by
  simp only [numF]
  rw [if_neg h, if_neg hz]
theorem drop_at (xs : List Int) (k : Nat) (h : k < xs.length) : xs.drop k = xs.getD k 0 :: xs.drop (k + 1) := by
  rw [List.drop_eq_getElem_cons h]
  simp [List.getD, List.getElem?_eq_getElem h]

set_option maxHeartbeats 400000 in
theorem Left_any (A : Option Addr) (n c : Nat) (p : Int) (w : World) (hn : n ≤ 1000000) (hp : 0 ≤ p) (hp2 : p ≤ n) :
    Calls Tryz.prog 68 #[.agg #[.slice A n c, .int .i64 p]] w fun e w' =>
      e = .returned (.int .i64 (n - p)) ∧ w.alloc (.cells #[.slice A n c, .int .i64 p] 98) = w' := by
  go_enter Tryz.func68, Tryz.ntmps68
  go_wp2
  go_ret
  exact ⟨rfl, rfl⟩
set_option maxHeartbeats 400000 in
set_option maxRecDepth 100000 in
theorem num_any (A : Option Addr) (n c B : Nat) (xs : List Int) (p : Nat) (w : World) (h : Rd w B .u8 A n c xs) (hB : B ≤ w.heap.size) (hx : ∀ x ∈ xs, 0 ≤ x ∧ x < 256) (hn : n ≤ 1000000) (hp : p ≤ n) :
    Calls Tryz.prog 41 #[.agg #[.slice A n c, .int .i64 p]] w fun e w' =>
      ∃ q : Int, e = .returned (.tuple #[.int .i64 (numF 9 0 0 (xs.drop p)).1, .agg #[.slice A n c, .int .i64 q], .int .i64 (numF 9 0 0 (xs.drop p)).2.2]) ∧
        ((numF 9 0 0 (xs.drop p)).2.2 = 0 → q = p + (numF 9 0 0 (xs.drop p)).2.1) ∧ Below w.heap.size w w' := by
  go_enter Tryz.func41, Tryz.ntmps41
  go_wp2
  have hb0 : Below w.heap.size w ((w.alloc (Obj.cells #[Value.slice A n c, Value.int IntKind.i64 ↑p] 98)).alloc (Obj.cells #[Value.slice none 0 0, Value.int IntKind.i64 0] 98)) :=
    ((Below.refl _ _).alloc (Nat.le_refl _) _).alloc (by simp) _
  go_loopw [5, 8] (fun v5 v8 wr => ∃ i acc : Nat, v8 = .int .i64 i ∧ v5 = .int .i64 acc ∧ i ≤ 9 ∧ p + i ≤ n ∧ Hid (acc < 128 ^ i) ∧ Hid (numF (9 - i) i acc (xs.drop (p + i)) = numF 9 0 0 (xs.drop p)) ∧
      Blk wr w.heap.size 98 #[.slice A n c, .int .i64 ((p + i : Nat) : Int)] ∧ Blk wr (w.heap.size + 1) 98 #[.slice none 0 0, .int .i64 0] ∧ Below w.heap.size w wr)
    (fun _ i _ => 9 - (intOf i).toNat)
  case atStart => exact ⟨0, 0, rfl, rfl, by omega, by omega, Lib.hid (by simp), Lib.hid rfl, (Blk.fresh _ _ _).alloc _, by simpa using Blk.fresh (w.alloc (Obj.cells #[Value.slice A n c, Value.int IntKind.i64 ↑p] 98)) _ _, hb0⟩
  case round =>
    obtain ⟨i, acc, rfl, rfl, hi9, hpi, hacc, hnum, hk1, hk2, hb1⟩ := hrel
    have c0 := hk1.cell 0
    have c1 := hk1.cell 1
    have f1 := hk1.free 1
    have d0 := hk2.cell 0
    have d1 := hk2.cell 1
    have g0 := hk2.free 0
    have g1 := hk2.free 1
    simp at c0 c1 d0 d1
    by_cases hi : i < 9
    · by_cases hlt : p + i < n
      · obtain ⟨b, o, hA, hbl, hcell⟩ := h.cell hlt
        subst hA
        have hcell' := (hb1.cell (p := ⟨b, o + (p + i), none⟩) (show b < _ by omega)).trans hcell
        have hd := hx (xs.getD (p + i) 0) (by rw [List.getD_eq_getElem?_getD, List.getElem?_eq_getElem (by rw [h.len]; exact hlt)]; exact List.getElem_mem _)
        have HN := Lib.hid (drop_at xs (p + i) (by rw [h.len]; exact hlt))
        generalize xs.getD (p + i) 0 = d at *
        have HO := Lib.hid (or_digit i acc d hi hacc.out hd)
        clear hcell
        by_cases h128 : 128 ≤ d
        · have HF : Hid (numF (9 - (i + 1)) (i + 1) (acc + d.toNat % 128 * 128 ^ i) (xs.drop (p + (i + 1))) = numF 9 0 0 (xs.drop p)) := Lib.hid (by
            rw [← hnum.out, HN.out, show 9 - i = (9 - (i + 1)) + 1 by omega, numF_on _ _ _ _ _ h128]
            rfl)
          clear hnum
          go_wp2_with (first
            | (go_at_call 68; refine (Left_any _ n c _ _ hn (by omega) (by omega)).mono ?_; rintro e w1 ⟨rfl, hw1⟩
               have hb2 : Below wr.heap.size wr w1 := hw1 ▸ (Below.refl _ _).alloc (Nat.le_refl _) _
               clear hw1
               have hk3 := hk1.below hb2 hk1.lt
               have hk4 := hk2.below hb2 hk2.lt
               have c0 := hk3.cell 0
               have c1 := hk3.cell 1
               have f1 := hk3.free 1
               have d0 := hk4.cell 0
               have d1 := hk4.cell 1
               have g0 := hk4.free 0
               have g1 := hk4.free 1
               have hcell'' := (hb2.cell (p := ⟨b, o + (p + i), none⟩) (show b < _ by have := hb1.size; omega)).trans hcell'
               simp at c0 c1 d0 d1))
          go_roundw
          case rel =>
            refine ⟨i + 1, acc + d.toNat % 128 * 128 ^ i, by go_num, by rw [HO.out.1], by omega, by omega, Lib.hid HO.out.2, HF, ?_, hk4.other (by simp) _, (hb1.trans (hb2.mono hb1.size)).setCell (Nat.le_refl _) _⟩
            have := hk3.set 1 (Value.int IntKind.i64 (↑p + ↑i + 1))
            simpa [Int.add_assoc] using this
          case measure => simp [intOf]; omega
        · by_cases hz : d = 0 ∧ 0 < i
          · obtain ⟨rfl, hi0⟩ := hz
            have HF : Hid (numF 9 0 0 (xs.drop p) = (0, 0, 2)) := Lib.hid (by
              rw [← hnum.out, HN.out, show 9 - i = (9 - (i + 1)) + 1 by omega, numF_zero _ _ _ _ hi0])
            clear hnum
            go_wp2_with (first
              | (go_at_call 68; refine (Left_any _ n c _ _ hn (by omega) (by omega)).mono ?_; rintro e w1 ⟨rfl, hw1⟩
                 have hb2 : Below wr.heap.size wr w1 := hw1 ▸ (Below.refl _ _).alloc (Nat.le_refl _) _
                 clear hw1
                 have hk3 := hk1.below hb2 hk1.lt
                 have hk4 := hk2.below hb2 hk2.lt
                 have c0 := hk3.cell 0
                 have c1 := hk3.cell 1
                 have f1 := hk3.free 1
                 have d0 := hk4.cell 0
                 have d1 := hk4.cell 1
                 have g0 := hk4.free 0
                 have g1 := hk4.free 1
                 have hcell'' := (hb2.cell (p := ⟨b, o + (p + i), none⟩) (show b < _ by have := hb1.size; omega)).trans hcell'
                 simp at c0 c1 d0 d1))
            clear hcell'
            have hk5 := hk3.set 1 (Value.int IntKind.i64 (↑p + ↑i + 1))
            have hk6 := hk4.other (p := ⟨w.heap.size, 1, none⟩) (by simp) (Value.int IntKind.i64 (↑p + ↑i + 1))
            have hb5 : Below w.heap.size w (w1.setCell ⟨w.heap.size, 1, none⟩ (Value.int IntKind.i64 (↑p + ↑i + 1))) := (hb1.trans (hb2.mono hb1.size)).setCell (Nat.le_refl _) _
            generalize w1.setCell ⟨w.heap.size, 1, none⟩ (Value.int IntKind.i64 (↑p + ↑i + 1)) = w2 at *
            have k0 := hk5.cell 0
            have k1 := hk5.cell 1
            have l0 := hk6.cell 0
            have l1 := hk6.cell 1
            have m0 := hk6.free 0
            have m1 := hk6.free 1
            simp at k0 k1 l0 l1
            go_region
            have hk7 := (hk6.set 0 (Value.slice (some ⟨b, o, none⟩) n c)).set 1 (Value.int IntKind.i64 (↑p + ↑i + 1))
            have r0 := hk7.cell 0
            have r1 := hk7.cell 1
            simp at r0 r1
            clear k0 k1 l0 l1 m0 m1
            go_wp2
            refine bodyPost_ret (v := .tuple #[.int .i64 0, .agg #[Value.slice (some ⟨b, o, none⟩) n c, .int .i64 (↑p + ↑i + 1)], .int .i64 2]) (by simp [results, Tryz.results41, go_sem, r0, r1]) rfl ?_
            rw [HF.out]
            exact ⟨_, rfl, fun h => absurd h (by decide), ((hb5.setCell (by simp) _).setCell (by simp) _).drew⟩
          · have HF : Hid (numF 9 0 0 (xs.drop p) = (acc + d.toNat % 128 * 128 ^ i, i + 1, 0)) := Lib.hid (by
              rw [← hnum.out, HN.out, show 9 - i = (9 - (i + 1)) + 1 by omega, numF_last _ _ _ _ _ h128 hz])
            clear hnum
            by_cases hd0 : d = 0
            · have hi0 : i ≤ 0 := by
                rcases Nat.eq_zero_or_pos i with h | h
                · omega
                · exact absurd ⟨hd0, h⟩ hz
              subst hd0
              have HZ := Lib.hid (or_zero i acc hi hacc.out)
              go_wp2_with (first
                | (go_at_call 68; refine (Left_any _ n c _ _ hn (by omega) (by omega)).mono ?_; rintro e w1 ⟨rfl, hw1⟩
                   have hb2 : Below wr.heap.size wr w1 := hw1 ▸ (Below.refl _ _).alloc (Nat.le_refl _) _
                   clear hw1
                   have hk3 := hk1.below hb2 hk1.lt
                   have hk4 := hk2.below hb2 hk2.lt
                   have c0 := hk3.cell 0
                   have c1 := hk3.cell 1
                   have f1 := hk3.free 1
                   have d0 := hk4.cell 0
                   have d1 := hk4.cell 1
                   have g0 := hk4.free 0
                   have g1 := hk4.free 1
                   have hcell'' := (hb2.cell (p := ⟨b, o + (p + i), none⟩) (show b < _ by have := hb1.size; omega)).trans hcell'
                   simp at c0 c1 d0 d1))
              clear hcell'
              have hk5 := hk3.set 1 (Value.int IntKind.i64 (↑p + ↑i + 1))
              have hk6 := hk4.other (p := ⟨w.heap.size, 1, none⟩) (by simp) (Value.int IntKind.i64 (↑p + ↑i + 1))
              have hb5 : Below w.heap.size w (w1.setCell ⟨w.heap.size, 1, none⟩ (Value.int IntKind.i64 (↑p + ↑i + 1))) := (hb1.trans (hb2.mono hb1.size)).setCell (Nat.le_refl _) _
              generalize w1.setCell ⟨w.heap.size, 1, none⟩ (Value.int IntKind.i64 (↑p + ↑i + 1)) = w2 at *
              have k0 := hk5.cell 0
              have k1 := hk5.cell 1
              have l0 := hk6.cell 0
              have l1 := hk6.cell 1
              have m0 := hk6.free 0
              have m1 := hk6.free 1
              simp at k0 k1 l0 l1
              go_region
              have hk7 := (hk6.set 0 (Value.slice (some ⟨b, o, none⟩) n c)).set 1 (Value.int IntKind.i64 (↑p + ↑i + 1))
              have r0 := hk7.cell 0
              have r1 := hk7.cell 1
              simp at r0 r1
              clear k0 k1 l0 l1 m0 m1
              go_wp2
              rw [HZ.out]
              refine bodyPost_ret (v := .tuple #[.int .i64 (acc : Int), .agg #[Value.slice (some ⟨b, o, none⟩) n c, .int .i64 (↑p + ↑i + 1)], .int .i64 0]) (by simp [results, Tryz.results41, go_sem, r0, r1]) rfl ?_
              rw [HF.out, show acc + (0 : Int).toNat % 128 * 128 ^ i = acc by simp]
              exact ⟨_, rfl, fun _ => by push_cast; omega, ((hb5.setCell (by simp) _).setCell (by simp) _).drew⟩
            · go_wp2_with (first
                | (go_at_call 68; refine (Left_any _ n c _ _ hn (by omega) (by omega)).mono ?_; rintro e w1 ⟨rfl, hw1⟩
                   have hb2 : Below wr.heap.size wr w1 := hw1 ▸ (Below.refl _ _).alloc (Nat.le_refl _) _
                   clear hw1
                   have hk3 := hk1.below hb2 hk1.lt
                   have hk4 := hk2.below hb2 hk2.lt
                   have c0 := hk3.cell 0
                   have c1 := hk3.cell 1
                   have f1 := hk3.free 1
                   have d0 := hk4.cell 0
                   have d1 := hk4.cell 1
                   have g0 := hk4.free 0
                   have g1 := hk4.free 1
                   have hcell'' := (hb2.cell (p := ⟨b, o + (p + i), none⟩) (show b < _ by have := hb1.size; omega)).trans hcell'
                   simp at c0 c1 d0 d1))
              clear hcell'
              have hk5 := hk3.set 1 (Value.int IntKind.i64 (↑p + ↑i + 1))
              have hk6 := hk4.other (p := ⟨w.heap.size, 1, none⟩) (by simp) (Value.int IntKind.i64 (↑p + ↑i + 1))
              have hb5 : Below w.heap.size w (w1.setCell ⟨w.heap.size, 1, none⟩ (Value.int IntKind.i64 (↑p + ↑i + 1))) := (hb1.trans (hb2.mono hb1.size)).setCell (Nat.le_refl _) _
              generalize w1.setCell ⟨w.heap.size, 1, none⟩ (Value.int IntKind.i64 (↑p + ↑i + 1)) = w2 at *
              have k0 := hk5.cell 0
              have k1 := hk5.cell 1
              have l0 := hk6.cell 0
              have l1 := hk6.cell 1
              have m0 := hk6.free 0
              have m1 := hk6.free 1
              simp at k0 k1 l0 l1
              go_region
              have hk7 := (hk6.set 0 (Value.slice (some ⟨b, o, none⟩) n c)).set 1 (Value.int IntKind.i64 (↑p + ↑i + 1))
              have r0 := hk7.cell 0
              have r1 := hk7.cell 1
              simp at r0 r1
              clear k0 k1 l0 l1 m0 m1
              go_wp2
              rw [HO.out.1]
              refine bodyPost_ret (v := .tuple #[.int .i64 ((acc + d.toNat % 128 * 128 ^ i : Nat) : Int), .agg #[Value.slice (some ⟨b, o, none⟩) n c, .int .i64 (↑p + ↑i + 1)], .int .i64 0]) (by simp [results, Tryz.results41, go_sem, r0, r1]) rfl ?_
              rw [HF.out]
              exact ⟨_, rfl, fun _ => by push_cast; omega, ((hb5.setCell (by simp) _).setCell (by simp) _).drew⟩
      · have HF : Hid (numF 9 0 0 (xs.drop p) = (0, 0, 3)) := Lib.hid (by
          rw [← hnum.out, show 9 - i = (9 - (i + 1)) + 1 by omega, numF_end _ _ _ _ (List.drop_of_length_le (by rw [h.len]; omega))])
        clear hnum
        go_wp2_with (first
          | (go_at_call 68; refine (Left_any _ n c _ _ hn (by omega) (by omega)).mono ?_; rintro e w1 ⟨rfl, hw1⟩
             have hb2 : Below wr.heap.size wr w1 := hw1 ▸ (Below.refl _ _).alloc (Nat.le_refl _) _
             clear hw1
             have hk3 := hk1.below hb2 hk1.lt
             have hk4 := hk2.below hb2 hk2.lt
             have c0 := hk3.cell 0
             have c1 := hk3.cell 1
             have f1 := hk3.free 1
             have d0 := hk4.cell 0
             have d1 := hk4.cell 1
             have g0 := hk4.free 0
             have g1 := hk4.free 1
             simp at c0 c1 d0 d1))
        have hk5 := hk3
        have hk6 := hk4
        have hb5 := (hb1.trans (hb2.mono hb1.size))
        have k0 := hk5.cell 0
        have k1 := hk5.cell 1
        have l0 := hk6.cell 0
        have l1 := hk6.cell 1
        have m0 := hk6.free 0
        have m1 := hk6.free 1
        simp at k0 k1 l0 l1
        go_region
        have hk7 := (hk6.set 0 (Value.slice A n c)).set 1 (Value.int IntKind.i64 (↑p + ↑i))
        have r0 := hk7.cell 0
        have r1 := hk7.cell 1
        simp at r0 r1
        clear k0 k1 l0 l1 m0 m1
        go_wp2
        refine bodyPost_ret (v := .tuple #[.int .i64 0, .agg #[Value.slice A n c, .int .i64 (↑p + ↑i)], .int .i64 3]) (by simp [results, Tryz.results41, go_sem, r0, r1]) rfl ?_
        rw [HF.out]
        exact ⟨_, rfl, fun h => absurd h (by decide), ((hb5.setCell (by simp) _).setCell (by simp) _).drew⟩
    · have HF : Hid (numF 9 0 0 (xs.drop p) = (0, 0, 2)) := Lib.hid (by
        rw [← hnum.out, show 9 - i = 0 by omega]; rfl)
      clear hnum
      go_wp2
      have hk5 := hk1
      have hk6 := hk2
      have hb5 := hb1
      have k0 := hk5.cell 0
      have k1 := hk5.cell 1
      have l0 := hk6.cell 0
      have l1 := hk6.cell 1
      have m0 := hk6.free 0
      have m1 := hk6.free 1
      simp at k0 k1 l0 l1
      go_region
      have hk7 := (hk6.set 0 (Value.slice A n c)).set 1 (Value.int IntKind.i64 (↑p + ↑i))
      have r0 := hk7.cell 0
      have r1 := hk7.cell 1
      simp at r0 r1
      clear k0 k1 l0 l1 m0 m1
      go_wp2
      refine bodyPost_ret (v := .tuple #[.int .i64 0, .agg #[Value.slice A n c, .int .i64 (↑p + ↑i)], .int .i64 2]) (by simp [results, Tryz.results41, go_sem, r0, r1]) rfl ?_
      rw [HF.out]
      exact ⟨_, rfl, fun h => absurd h (by decide), ((hb5.setCell (by simp) _).setCell (by simp) _).drew⟩

theorem two_blocks {w w1 : World} {cs ds : Array Value} {t u : TypeId} (h : Below ((w.alloc (.cells cs t)).alloc (.cells ds u)).heap.size ((w.alloc (.cells cs t)).alloc (.cells ds u)) w1) :
    Blk w1 w.heap.size t cs ∧ Blk w1 (w.heap.size + 1) u ds ∧ Below w.heap.size w w1 := by
  have hz : ((w.alloc (.cells cs t)).alloc (.cells ds u)).heap.size = w.heap.size + 2 := by simp
  have h1 : Blk ((w.alloc (.cells cs t)).alloc (.cells ds u)) w.heap.size t cs := (Blk.fresh w t cs).alloc _
  have h2 : Blk ((w.alloc (.cells cs t)).alloc (.cells ds u)) (w.heap.size + 1) u ds := by simpa using Blk.fresh (w.alloc (.cells cs t)) u ds
  exact ⟨h1.below h (by omega), h2.below h (by omega), (((Below.refl _ _).alloc (Nat.le_refl _) _).alloc (by simp) _).trans (h.mono (by omega))⟩

/-- What 'numF' can answer. -/
theorem numF_is : ∀ (f i acc : Nat) (l : List Int), acc < 128 ^ i → f + i ≤ 9 →
    (∃ v u, numF f i acc l = (v, u, 0) ∧ v < 9223372036854775808 ∧ i < u ∧ u ≤ i + l.length) ∨ (∃ er, numF f i acc l = (0, 0, er) ∧ (er = 2 ∨ er = 3))
  | 0, i, acc, l, _, _ => .inr ⟨2, rfl, .inl rfl⟩
  | f + 1, i, acc, [], _, _ => .inr ⟨3, rfl, .inr rfl⟩
  | f + 1, i, acc, d :: r, ha, hi => by
    have hs : 128 ^ (i + 1) = 128 ^ i * 128 := Nat.pow_succ ..
    have hm : d.toNat % 128 * 128 ^ i ≤ 127 * 128 ^ i := Nat.mul_le_mul_right _ (by omega)
    have hlt : acc + d.toNat % 128 * 128 ^ i < 128 ^ (i + 1) := by omega
    by_cases h : 128 ≤ d
    · rw [numF_on _ _ _ _ _ h]
      rcases numF_is f (i + 1) _ r hlt (by omega) with ⟨v, u, e, hv, hu, hl⟩ | he
      · exact .inl ⟨v, u, e, hv, by omega, by simp only [List.length_cons]; omega⟩
      · exact .inr he
    · by_cases hz : d = 0 ∧ 0 < i
      · obtain ⟨rfl, h0⟩ := hz
        exact .inr ⟨2, numF_zero _ _ _ _ h0, .inl rfl⟩
      · rw [numF_last _ _ _ _ _ h hz]
        refine .inl ⟨_, _, rfl, ?_, by omega, by simp only [List.length_cons]; omega⟩
        have h9 : 128 ^ (i + 1) ≤ 128 ^ 9 := Nat.pow_le_pow_right (by omega) (by omega)
        have h99 : (128 : Nat) ^ 9 = 9223372036854775808 := by decide
        omega

section
variable (A : Option Addr) (n c B : Nat) (xs : List Int) (p : Nat) (w : World) (h : Rd w B .u8 A n c xs) (hB : B ≤ w.heap.size) (hx : ∀ x ∈ xs, 0 ≤ x ∧ x < 256) (hn : n ≤ 1000000) (hp : p ≤ n)
include h hB hx hn hp

theorem num_ok (v u : Nat) (hN : numF 9 0 0 (xs.drop p) = (v, u, 0)) :
    Calls Tryz.prog 41 #[.agg #[.slice A n c, .int .i64 p]] w fun e w' =>
      e = .returned (.tuple #[.int .i64 v, .agg #[.slice A n c, .int .i64 ((p + u : Nat) : Int)], .int .i64 0]) ∧ Below w.heap.size w w' :=
  (num_any A n c B xs p w h hB hx hn hp).mono fun e w' ⟨q, he, hq, hb⟩ => by
    rw [hN] at he hq
    have hq' : q = ((p + u : Nat) : Int) := by have := hq rfl; push_cast; exact this
    subst hq'
    exact ⟨he, hb⟩
theorem num_no (er : Nat) (hN : numF 9 0 0 (xs.drop p) = (0, 0, er)) :
    Calls Tryz.prog 41 #[.agg #[.slice A n c, .int .i64 p]] w fun e w' =>
      ∃ q : Int, e = .returned (.tuple #[.int .i64 0, .agg #[.slice A n c, .int .i64 q], .int .i64 er]) ∧ Below w.heap.size w w' :=
  (num_any A n c B xs p w h hB hx hn hp).mono fun e w' ⟨q, he, hq, hb⟩ => by
    rw [hN] at he
    exact ⟨q, he, hb⟩
end
end Go.Proofs.YtkdncnhjlgidnaaGreatDoor

