/- What is proved here: what slices.Clone returns at a row of numbers; what the lanes' Of answers. -/
/- What is proved here: the sort's row, and its comparison, which is a method of the lanes': definitions; slices.insertionSortCmpFunc. -/
/- What is proved here: slices.siftDownCmpFunc, with a comparison that is a method of the lanes'. Written by mksrts.py. -/
import Derived.Test.YtdjieapobodakaaGreatDoorPEx10
import Derived.Deep.DeepFit
import Derived.Shelf.SlSortCmp.Whole1
import Derived.Sort.WalkA
import Derived.Outline
section
namespace Go.Proofs.YtdjieapobodakaaGreatDoor.Lan
open Go Go.RowKit Go.Maps Go.WideMaps
set_option maxRecDepth 100000

theorem own_empty (w : World) : (w.alloc (.cells #[] 3)).ownsRow w.heap.size 3 1 (.slice (some ⟨w.heap.size, 0, none⟩) 0 0) 0 [] :=
  ⟨rfl, .inr ⟨w.heap.size, 0, #[], rfl, Nat.le_refl _, heap_alloc_new w _, Nat.le_refl _, Nat.zero_le _, rfl, rfl⟩⟩
set_option maxHeartbeats 800000 in
set_option maxRecDepth 100000 in
theorem Clone_any {w : World} {v : Value} {xs : List Int} (h : w.ownsRow 0 3 1 v xs.length (xs.map (Value.int .i64))) (hn : xs.length < 900000) :
    Calls Tryz.prog 61 #[v] w (RowSaid xs w) := by
  rcases h.2 with ⟨rfl, hz⟩ | ⟨gb, c, cur, rfl, _, hgl, hnc, hcm, _⟩
  · obtain rfl : xs = [] := List.eq_nil_of_length_eq_zero hz
    have HE : Hid (RowSaid [] w (.returned (.slice none 0 0)) w) := Lib.hid ⟨none, 0, rfl, World.ownsRow_nil _ _ _ _, Below.refl _ _⟩
    have hq : (binOp .eql 48 (.slice none 0 0) (.slice none 0 0)).run Tryz.prog w = .ok (.bool true) w := by rw [Lib.run_eql_slice_nil (P := Tryz.prog) w 48 3 none 0 0 0 0 Tryz.underlying48]; rfl
    clear h hz
    go_enter Tryz.func61, Tryz.ntmps61
    go_wp2
    go_ret
    exact HE.out
  · unfold maxLen at hcm
    have HE := Lib.hid (own_empty w)
    have HN : Hid (∀ ad, some (⟨gb, 0, none⟩ : Addr) = some ad → ∀ j u, (xs.map (Value.int .i64))[j]? = some u → (w.alloc (.cells #[] 3)).cell? (ad.add j) = some u) := Lib.hid fun ad had j u hu => by
      obtain rfl := Option.some.inj had
      exact (h.alloc (.cells #[] 3)).cells (g := gb) rfl j u hu
    have HF : Hid ((xs.map (Value.int .i64)).length = xs.length * 1) := Lib.hid (by simp)
    have H1 : Hid (∀ u ∈ xs.map (Value.int .i64), u.oneCell' = true) := Lib.hid fun u hu => by
      obtain ⟨y, _, rfl⟩ := List.mem_map.1 hu
      rfl
    have HX : Hid (∀ v2 w2, w2.ownsRow w.heap.size 3 1 v2 (0 + xs.length) ([] ++ xs.map (Value.int .i64)) → (w.alloc (.cells #[] 3)).grownBy w2 (Value.slice (some ⟨w.heap.size, 0, none⟩) 0 0).ownBlock → RowSaid xs w (.returned v2) w2) := Lib.hid fun v2 w2 ho hg => by
      rw [Nat.zero_add, List.nil_append] at ho
      obtain ⟨A2, c2, rfl⟩ := own_slice ho
      exact ⟨A2, c2, rfl, ho, ((Below.refl w.heap.size w).alloc (Nat.le_refl _) _).grown hg (by simp) (fun k hk => by simp [Value.ownBlock] at hk; omega)⟩
    obtain ⟨i0, hi, hz0, hz1, hz2⟩ := info_parts info_int
    have hq := Lib.run_eql_slice_nil (P := Tryz.prog) w 48 3 (some ⟨gb, 0, none⟩) xs.length c 0 0 Tryz.underlying48
    have hq2 : (binOp .eql 48 (.slice (some ⟨gb, 0, none⟩) xs.length c) (.slice none 0 0)).run Tryz.prog w = .ok (.bool false) w := by rw [hq]; rfl
    clear h hq hgl
    generalize xs.map (Value.int .i64) = F at *
    generalize hL : xs.length = n at *
    have HL := Lib.hid hL
    clear hL
    go_enter Tryz.func61, Tryz.ntmps61
    go_wp2_with (at_builtin; refine wpList_append_src (o := ⟨some 7, _, _, _, _, _⟩) rfl (.tmp 5) (.tmp 6) 48 rfl w.heap.size 3 i0 _ 1 8 Tryz.underlying48 hi hz0 hz1 hz2 rfl (by omega) _ 0 [] rfl HE.out (some ⟨gb, 0, none⟩) n c F rfl HF.out (fun e => by cases e) HN.out H1.out (by unfold maxLen; omega) (by omega) (by simp) ?_; intro v2 w2 ho2 hg2; have HR := Lib.hid (HX.out v2 w2 ho2 hg2); clear ho2 hg2)
    go_ret
    exact HR.out

set_option maxHeartbeats 800000 in
theorem Of_any {w : World} {l N : Nat} {L : List Th} {Φ : Nat → Prop} (h : LaneAt w l L N Φ) {s : ByteArray} (hs : s.size ≤ maxLen) (hLn : L.length < 900000) :
    Calls Tryz.prog 90 #[.pointer (some ⟨l, 0, none⟩), .string s] w (RowSaid (ofG L s) w) := by
  obtain ⟨gm, pm, Ng, fg, fp, h⟩ := h
  obtain ⟨c0, c1, c2, _⟩ := three_cells h.blk
  obtain ⟨ho, _, hlk, A, c, hv, _, _, _⟩ := h.row hs
  have hl : (ofG L s).length ≤ L.length := by
    unfold ofG
    rw [List.length_map]
    exact List.length_filter_le _ _
  have HC := Lib.hid (Clone_any ho (by omega))
  generalize rowOf fg s = v at *
  have HV := Lib.hid hv
  clear ho h hl hv hLn
  go_enter Tryz.func90, Tryz.ntmps90
  go_wp2_with (go_at_call 61; go_fit HC.out; rintro e w2 HY; obtain ⟨A2, c3, rfl, how, hbl⟩ := HY; have HOW := Lib.hid how; have HBL := Lib.hid hbl; clear how hbl)
  go_ret
  exact ⟨A2, c3, rfl, HOW.out, HBL.out⟩
end Go.Proofs.YtdjieapobodakaaGreatDoor.Lan
end

section
namespace Go.Proofs.YtdjieapobodakaaGreatDoor.Lan
open Go Go.RowKit Go.Maps Go.WideMaps Go.Shelf Go.Lib Go.Sort
set_option maxRecDepth 100000

/-- A number of 64 bits of which G holds. -/
abbrev W64 (G : Int → Prop) := { x : Int // wfk x ∧ G x }
variable {G : Int → Prop} [Inhabited (W64 G)]
def encW {G : Int → Prop} (x : W64 G) : Value := .int .i64 x.val
/-- The row under the sort, and what the comparison answers in whatever world the sort passes through. -/
structure Srt (cf : (W64 G) → (W64 G) → Int) (l blk cap : Nat) (d0 : Array (W64 G)) (w0 : World) : Prop where
  row : Row1 encW w0 blk 0 d0
  cmp : ∀ (dk : Array (W64 G)) (W : World), dk.size = d0.size → SW encW w0 blk 0 dk W → ∀ x y : (W64 G), Calls Tryz.prog 110 #[.pointer (some ⟨l, 0, none⟩), .int .i64 x.val, .int .i64 y.val] W fun e w' => e = .returned (.int .i64 (cf x y)) ∧ ∃ q, w' = W.drewN q
  big : d0.size < 1000000
  cap : d0.size ≤ cap
section
variable {cf : (W64 G) → (W64 G) → Int} {l blk cap : Nat} {d0 dk : Array (W64 G)} {w0 W : World}
theorem Srt.cell (h : Srt cf l blk cap d0 w0) (hs : dk.size = d0.size) (S : SW encW w0 blk 0 dk W) {i : Nat} (hi : i < d0.size) : W.cell? ⟨blk, i, none⟩ = some (.int .i64 (dk[i]!).val) := by
  have := S.c1 h.row hs i (by omega)
  rwa [Nat.zero_add] at this
theorem Srt.froz (h : Srt cf l blk cap d0 w0) (hs : dk.size = d0.size) (S : SW encW w0 blk 0 dk W) {i : Nat} (hi : i < d0.size) : W.frozen? ⟨blk, i, none⟩ = false := by
  have := S.f1 h.row hs i (by omega)
  rwa [Nat.zero_add] at this
theorem Srt.at_ (h : Srt cf l blk cap d0 w0) (hs : dk.size = d0.size) (S : SW encW w0 blk 0 dk W) (x y : (W64 G)) : ∀ q, Calls Tryz.prog 110 #[.pointer (some ⟨l, 0, none⟩), .int .i64 x.val, .int .i64 y.val] (W.drewN q) fun e w' => e = .returned (.int .i64 (cf x y)) ∧ ∃ m, w' = (W.drewN q).drewN m :=
  fun q => h.cmp dk _ hs (S.drewN q) x y
theorem Srt.swap (h : Srt cf l blk cap d0 w0) (hs : dk.size = d0.size) (S : SW encW w0 blk 0 dk W) {i j : Nat} (hi : i < d0.size) (hj : j < d0.size) (q : Nat) :
    SW encW w0 blk 0 (swp dk i j) (((W.setCell ⟨blk, i, none⟩ (.int .i64 (dk[j]!).val)).setCell ⟨blk, j, none⟩ (.int .i64 (dk[i]!).val)).drewN q) := by
  have := S.swap h.row.hblk i j (by omega) (by omega)
  rw [Nat.zero_add, Nat.zero_add] at this
  exact this.drewN q
theorem swp_sz (d : Array (W64 G)) (i j : Nat) : (swp d i j).size = d.size := by simp [swp]
end

set_option maxHeartbeats 3200000 in
set_option maxRecDepth 100000 in
theorem ins_any {cf : (W64 G) → (W64 G) → Int} {l blk cap : Nat} {d0 : Array (W64 G)} {w0 : World} (H : Srt cf l blk cap d0 w0) {d : Array (W64 G)} {w : World} (hs : d.size = d0.size) (S : SW encW w0 blk 0 d w) {a b n : Nat} (hn : n = d0.size) (hab : a ≤ b) (hb : b ≤ n) :
    Calls Tryz.prog 170 #[.slice (some ⟨blk, 0, none⟩) n cap, .int .i64 a, .int .i64 b, .func (.func 110) #[.pointer (some ⟨l, 0, none⟩)] #[]] w fun e w' => e = .returned (.tuple #[]) ∧ Hid (SW encW w0 blk 0 (Sort.insertionSort (ltOf cf) d a b) w' ∧ (Sort.insertionSort (ltOf cf) d a b).size = d0.size) := by
  have HS := Lib.hid S
  have HZ := Lib.hid hs
  have hbig := H.big
  have hcap := H.cap
  have HN := Lib.hid hn
  have HH := Lib.hid H
  have hn1 : n < 1000000 := by omega
  have hnc : n ≤ cap := by omega
  clear S hs hn hbig hcap H
  go_enter Tryz.func170, Tryz.ntmps170
  go_wp2
  go_loopw [8] (fun vi wr => ∃ (i : Nat) (dk : Array (W64 G)), vi = .int .i64 i ∧ a < i ∧ i ≤ b + 1 ∧ Hid (dk.size = d0.size) ∧ Hid (SW encW w0 blk 0 dk wr) ∧ Hid (insOuter (ltOf cf) a b i dk = insOuter (ltOf cf) a b (a + 1) d)) (fun vi _ => b + 1 - (intOf vi).toNat)
  case atStart => exact ⟨a + 1, d, by go_num, by omega, by omega, HZ, HS, Lib.hid rfl⟩
  case round =>
    clear HS HZ
    obtain ⟨i, dk, rfl, hai, hib, HZ, HS, HO⟩ := hrel
    by_cases hlt : i < b
    · have hltz : (i : Int) < (b : Int) := by omega
      go_wp2
      go_loopw [9] (fun vj wr => ∃ (j : Nat) (dj : Array (W64 G)), vj = .int .i64 j ∧ a ≤ j ∧ j ≤ i ∧ Hid (dj.size = d0.size) ∧ Hid (SW encW w0 blk 0 dj wr) ∧ Hid (insInner (ltOf cf) a j dj = insInner (ltOf cf) a i dk)) (fun vj _ => (intOf vj).toNat)
      case atStart => exact ⟨i, dk, rfl, by omega, Nat.le_refl _, HZ, HS, Lib.hid rfl⟩
      case round =>
        clear HS
        obtain ⟨j, dj, rfl, haj, hji, HZ2, HS2, HI⟩ := hrel
        have HOUT : Hid (∀ wv, (j ≤ a ∨ (ltOf cf) dj[j]! dj[j - 1]! = false) → SW encW w0 blk 0 dj wv → Hid (SW encW w0 blk 0 dj wv) ∧ Hid (insOuter (ltOf cf) a b (i + 1) dj = insOuter (ltOf cf) a b (a + 1) d)) := Lib.hid fun wv hst hsw => ⟨Lib.hid hsw, Lib.hid (by
          rw [← HO.out, insOuter_go _ _ _ _ _ hlt, ← HI.out, insInner_stop _ _ _ _ hst])⟩
        by_cases hja : a < j
        · obtain ⟨jp, rfl⟩ : ∃ q, j = q + 1 := ⟨j - 1, by omega⟩
          have hj1 : jp + 1 < d0.size := by have := HN.out; omega
          have hj0 : jp < d0.size := by omega
          have c1 := HH.out.cell HZ2.out HS2.out hj1
          have c0 := HH.out.cell HZ2.out HS2.out hj0
          have HC := Lib.hid (HH.out.at_ HZ2.out HS2.out dj[jp + 1]! dj[jp]!)
          have hjn : (jp : Int) + 1 < n := by have := HN.out; omega
          have hjn0 : (jp : Int) < n := by omega
          have hja' : (a : Int) < (jp : Int) + 1 := by omega
          cases hlv : (ltOf cf) dj[jp + 1]! dj[jp]! with
          | true =>
            have hcv : cf dj[jp + 1]! dj[jp]! < 0 := of_decide_eq_true hlv
            have f1 := HH.out.froz HZ2.out HS2.out hj1
            have f0 := HH.out.froz HZ2.out HS2.out hj0
            have HSW : Hid (∀ q, SW encW w0 blk 0 (swp dj (jp + 1) jp) (((wr.setCell ⟨blk, jp + 1, none⟩ (.int .i64 (dj[jp]!).val)).setCell ⟨blk, jp, none⟩ (.int .i64 (dj[jp + 1]!).val)).drewN q)) := Lib.hid fun q => HH.out.swap HZ2.out HS2.out hj1 hj0 q
            have HI2 : Hid (insInner (ltOf cf) a jp (swp dj (jp + 1) jp) = insInner (ltOf cf) a i dk) := Lib.hid (by rw [← HI.out, insInner_go _ _ _ _ hja hlv]; rfl)
            have HZ3 : Hid ((swp dj (jp + 1) jp).size = d0.size) := Lib.hid (by rw [swp_sz]; exact HZ2.out)
            generalize swp dj (jp + 1) jp = ds at *
            generalize cf dj[jp + 1]! dj[jp]! = cv at *
            generalize (dj[jp + 1]!).val = x1 at *
            generalize (dj[jp]!).val = x0 at *
            clear hlv HS2 HZ2 HOUT HI
            go_wp2_with fail
            go_quiet ((go_at_call 110; exact Calls.quiet_of (HC.out _)))
            go_wp2_with fail
            go_region
            have HW : Hid (((wr.drewN (nq + 1)).setCell ⟨blk, jp + 1, none⟩ (.int .i64 x0)).setCell ⟨blk, jp, none⟩ (.int .i64 x1) = ((wr.setCell ⟨blk, jp + 1, none⟩ (.int .i64 x0)).setCell ⟨blk, jp, none⟩ (.int .i64 x1)).drewN (nq + 1)) := Lib.hid rfl
            rw [HW.out]
            have HS3 := Lib.hid (HSW.out (nq + 1))
            generalize ((wr.setCell ⟨blk, jp + 1, none⟩ (.int .i64 x0)).setCell ⟨blk, jp, none⟩ (.int .i64 x1)).drewN (nq + 1) = W3 at *
            clear HSW HW HC c0 c1 f0 f1
            go_wp2
            go_roundw
            case rel => exact ⟨jp, ds, by go_num, by omega, by omega, HZ3, HS3, HI2⟩
            case measure => (simp [intOf] <;> omega)
          | false =>
            have hcv : ¬ cf dj[jp + 1]! dj[jp]! < 0 := of_decide_eq_false hlv
            have HOUT2 := Lib.hid (fun wv => HOUT.out wv (.inr hlv))
            generalize cf dj[jp + 1]! dj[jp]! = cv at *
            generalize (dj[jp + 1]!).val = x1 at *
            generalize (dj[jp]!).val = x0 at *
            clear hlv HOUT HI
            go_wp2_with fail
            go_quiet ((go_at_call 110; exact Calls.quiet_of (HC.out _)))
            have HS3 := Lib.hid (HS2.out.drewN nq)
            generalize wr.drewN nq = W3 at *
            clear HC c0 c1 HS2
            go_wp2
            go_roundw
            case rel => exact ⟨i + 1, dj, by go_num, by omega, by omega, HZ2, (HOUT2.out _ HS3.out).1, (HOUT2.out _ HS3.out).2⟩
            case measure => (simp [intOf] <;> omega)
        · have hja' : ¬ (a : Int) < (j : Int) := by omega
          have HOUT2 := Lib.hid (fun wv => HOUT.out wv (.inl (by omega)))
          clear HOUT HI
          go_wp2_with fail
          go_quiet (fail)
          have HS3 := Lib.hid (HS2.out.drewN nq)
          generalize wr.drewN nq = W3 at *
          clear HS2
          go_wp2
          go_roundw
          case rel => exact ⟨i + 1, dj, by go_num, by omega, by omega, HZ2, (HOUT2.out _ HS3.out).1, (HOUT2.out _ HS3.out).2⟩
          case measure => (simp [intOf] <;> omega)
    · have hltz : ¬ (i : Int) < (b : Int) := by omega
      go_wp2
      go_end0
      refine ⟨rfl, Lib.hid ?_⟩
      have hO : dk = insOuter (ltOf cf) a b (a + 1) d := by rw [← HO.out, insOuter_stop _ _ _ _ _ hlt]
      unfold Sort.insertionSort
      rw [← hO]
      exact ⟨HS.out, HZ.out⟩
end Go.Proofs.YtdjieapobodakaaGreatDoor.Lan
end

section
namespace Go.Proofs.YtdjieapobodakaaGreatDoor.Lan
open Go Go.RowKit Go.Maps Go.WideMaps Go.Shelf Go.Lib Go.Sort
set_option maxRecDepth 100000

variable {G : Int → Prop} [Inhabited (W64 G)]

section
variable {cf : (W64 G) → (W64 G) → Int} {l blk cap : Nat} {d0 dk : Array (W64 G)} {w0 W : World}
theorem Srt.look (h : Srt cf l blk cap d0 w0) (hs : dk.size = d0.size) (S : SW encW w0 blk 0 dk W) {i : Nat} (hi : i < d0.size) : ∃ x : (W64 G), Hid (x = dk[i]!) ∧ (∀ q, (W.drewN q).cell? ⟨blk, i, none⟩ = some (.int .i64 x.val)) ∧ W.cell? ⟨blk, i, none⟩ = some (.int .i64 x.val) ∧ W.frozen? ⟨blk, i, none⟩ = false := ⟨_, Lib.hid rfl, fun q => h.cell hs (S.drewN q) hi, h.cell hs S hi, h.froz hs S hi⟩
theorem Srt.swap2 (h : Srt cf l blk cap d0 w0) (hs : dk.size = d0.size) (S : SW encW w0 blk 0 dk W) {i j : Nat} (hi : i < d0.size) (hj : j < d0.size) {x y : (W64 G)} (hx : x = dk[i]!) (hy : y = dk[j]!) (q : Nat) :
    SW encW w0 blk 0 (swp dk i j) (((W.setCell ⟨blk, i, none⟩ (.int .i64 y.val)).setCell ⟨blk, j, none⟩ (.int .i64 x.val)).drewN q) := by
  subst hx hy
  exact h.swap hs S hi hj q
end
/-- Which child siftDown compares. -/
def pickC (lt : (W64 G) → (W64 G) → Bool) (hi f r : Nat) (d : Array (W64 G)) : Nat := if 2 * r + 1 + 1 < hi && lt d[f + (2 * r + 1)]! d[f + (2 * r + 1) + 1]! then 2 * r + 2 else 2 * r + 1
theorem sift_stop (lt : (W64 G) → (W64 G) → Bool) (hi f r : Nat) (d : Array (W64 G)) (h : hi ≤ 2 * r + 1) : siftDown lt hi f r d = d := by
  rw [siftDown, dif_pos h]
theorem sift_go (lt : (W64 G) → (W64 G) → Bool) (hi f r : Nat) (d : Array (W64 G)) (h : 2 * r + 1 < hi) : siftDown lt hi f r d = if lt d[f + r]! d[f + pickC lt hi f r d]! then siftDown lt hi f (pickC lt hi f r d) (swp d (f + r) (f + pickC lt hi f r d)) else d := by
  rw [siftDown, dif_neg (by omega)]
  unfold pickC
  by_cases hc : (2 * r + 1 + 1 < hi && lt d[f + (2 * r + 1)]! d[f + (2 * r + 1) + 1]!) = true
  · rw [if_pos hc, if_pos hc]
    have h2 : 2 * r + 2 < hi := by
      have := (Bool.and_eq_true _ _ ▸ hc).1
      simpa using this
    rw [dif_pos h2]
    cases lt d[f + r]! d[f + (2 * r + 2)]! <;> rfl
  · rw [if_neg hc, if_neg hc]
    cases lt d[f + r]! d[f + (2 * r + 1)]! <;> rfl

set_option maxHeartbeats 6400000 in
set_option maxRecDepth 100000 in
theorem sift_any {cf : (W64 G) → (W64 G) → Int} {l blk cap : Nat} {d0 : Array (W64 G)} {w0 : World} (H : Srt cf l blk cap d0 w0) {d : Array (W64 G)} {w : World} (hs : d.size = d0.size) (S : SW encW w0 blk 0 d w) {lo hi first n : Nat} (hn : n = d0.size) (hlo : lo ≤ n) (hfi : first + hi ≤ n) :
    Calls Tryz.prog 189 #[.slice (some ⟨blk, 0, none⟩) n cap, .int .i64 lo, .int .i64 hi, .int .i64 first, .func (.func 110) #[.pointer (some ⟨l, 0, none⟩)] #[]] w fun e w' => e = .returned (.tuple #[]) ∧ Hid (SW encW w0 blk 0 (siftDown (ltOf cf) hi first lo d) w' ∧ (siftDown (ltOf cf) hi first lo d).size = d0.size) := by
  have HS := Lib.hid S
  have HZ := Lib.hid hs
  have hbig := H.big
  have hcap := H.cap
  have HN := Lib.hid hn
  have HH := Lib.hid H
  have hn1 : n < 1000000 := by omega
  have hnc : n ≤ cap := by omega
  clear S hs hn hbig hcap H
  go_enter Tryz.func189, Tryz.ntmps189
  go_wp2
  go_loopw [10] (fun vi wr => ∃ (r : Nat) (dk : Array (W64 G)), vi = .int .i64 r ∧ r ≤ n ∧ Hid (dk.size = d0.size) ∧ Hid (SW encW w0 blk 0 dk wr) ∧ Hid (siftDown (ltOf cf) hi first r dk = siftDown (ltOf cf) hi first lo d)) (fun vi _ => n + 1 - (intOf vi).toNat)
  case atStart => exact ⟨lo, d, rfl, hlo, HZ, HS, Lib.hid rfl⟩
  case round =>
    clear HS HZ
    obtain ⟨r, dk, rfl, hrn, HZ, HS, HO⟩ := hrel
    obtain ⟨c, hc⟩ : ∃ c, c = 2 * r + 1 := ⟨_, rfl⟩
    have hcr : 2 * (r : Int) + 1 = (c : Int) := by omega
    have HCE := Lib.hid hc
    clear hc
    have hrr : 2 * (r : Int) < 3000000 := by omega
    by_cases hlt : hi ≤ c
    · have hlz : (hi : Int) ≤ (c : Int) := by omega
      go_wp2
      go_end0
      refine ⟨rfl, Lib.hid ?_⟩
      have hO : dk = siftDown (ltOf cf) hi first lo d := by rw [← HO.out, sift_stop _ _ _ _ _ (by have := HCE.out; omega)]
      rw [← hO]
      exact ⟨HS.out, HZ.out⟩
    · have hlz : ¬ (hi : Int) ≤ (c : Int) := by omega
      have HGO : Hid (siftDown (ltOf cf) hi first lo d = if (ltOf cf) dk[first + r]! dk[first + pickC (ltOf cf) hi first r dk]! then siftDown (ltOf cf) hi first (pickC (ltOf cf) hi first r dk) (swp dk (first + r) (first + pickC (ltOf cf) hi first r dk)) else dk) := Lib.hid (by rw [← HO.out, sift_go _ _ _ _ _ (by have := HCE.out; omega)])
      clear HO
      obtain ⟨fr, hfr⟩ : ∃ x, x = first + r := ⟨_, rfl⟩
      have hfrz : (first : Int) + (r : Int) = (fr : Int) := by omega
      have hrc : r < c := by have := HCE.out; omega
      have hfrn : fr < n := by omega
      have hfrd : fr < d0.size := by have := HN.out; omega
      have hfri : (fr : Int) < (n : Int) := by omega
      obtain ⟨fc, hfc⟩ : ∃ x, x = first + c := ⟨_, rfl⟩
      have hfcz : (first : Int) + (c : Int) = (fc : Int) := by omega
      have hfcn : fc < n := by omega
      have hfcd : fc < d0.size := by have := HN.out; omega
      have hfci : (fc : Int) < (n : Int) := by omega
      have hrc' : (r : Int) < (c : Int) := by omega
      have HFR := Lib.hid hfr
      have HFC := Lib.hid hfc
      have HFN : Hid (hi ≤ n) := Lib.hid (by omega)
      clear hfr hfc
      rw [← HFR.out] at HGO
      by_cases hg : c + 1 < hi
      · obtain ⟨c2, hc2⟩ : ∃ x, x = c + 1 := ⟨_, rfl⟩
        obtain ⟨fc2, hfc2⟩ : ∃ x, x = first + c2 := ⟨_, rfl⟩
        have hc2z : (c : Int) + 1 = (c2 : Int) := by omega
        have hfc2z : (fc : Int) + 1 = (fc2 : Int) := by have := HFC.out; omega
        have hfc2y : (first : Int) + (c2 : Int) = (fc2 : Int) := by omega
        have hfc2n : fc2 < n := by have := HFN.out; omega
        have hfc2i : (fc2 : Int) < (n : Int) := by omega
        have hfc2d : fc2 < d0.size := by have := HN.out; omega
        have hgz : (c2 : Int) < (hi : Int) := by omega
        have hr2 : r < c2 := by omega
        have HC2 := Lib.hid hc2
        have HFC2 := Lib.hid hfc2
        clear hc2 hfc2
        obtain ⟨x1, HX1, q1, c1, f1⟩ := HH.out.look HZ.out HS.out hfcd
        obtain ⟨x2, HX2, q2, c2c, f2⟩ := HH.out.look HZ.out HS.out hfc2d
        have HC := Lib.hid (HH.out.at_ HZ.out HS.out x1 x2)
        cases hlv : (ltOf cf) x1 x2 with
        | true =>
          have hcv : cf x1 x2 < 0 := of_decide_eq_true hlv
          have HP : Hid (pickC (ltOf cf) hi first r dk = c2) := Lib.hid (by
            have e1 := HCE.out; have e2 := HC2.out; have e3 := HFC.out; have e4 := HFC2.out
            unfold pickC
            rw [show first + (2 * r + 1) = fc by omega, show fc + 1 = fc2 by omega, ← HX1.out, ← HX2.out, hlv, if_pos (by simp; omega)]
            omega)
          generalize cf x1 x2 = cv1 at *
          rw [HP.out, ← HFC2.out] at HGO
          have HPU : Hid (c2 ≤ n) := Lib.hid (by have := HFN.out; omega)
          clear HP HCE HX1 HX2 hlv
          go_wp2_with fail
          go_quiet ((go_at_call 110; exact Calls.quiet_of (HC.out _)))
          have HS2 := Lib.hid (HS.out.drewN nq)
          generalize wr.drewN nq = W2 at *
          clear HS HC q1 q2 c1 c2c f1 f2
          go_wp2_with fail
          obtain ⟨y1, HY1, p1, b1, g1⟩ := HH.out.look HZ.out HS2.out hfrd
          obtain ⟨y2, HY2, p2, b2, g2⟩ := HH.out.look HZ.out HS2.out hfc2d
          have HCC := Lib.hid (HH.out.at_ HZ.out HS2.out y1 y2)
          rw [← HY1.out, ← HY2.out] at HGO
          cases hlw : (ltOf cf) y1 y2 with
          | true =>
            have hcw : cf y1 y2 < 0 := of_decide_eq_true hlw
            rw [hlw, if_pos rfl] at HGO
            have HSW : Hid (∀ q, SW encW w0 blk 0 (swp dk fr fc2) (((W2.setCell ⟨blk, fr, none⟩ (.int .i64 y2.val)).setCell ⟨blk, fc2, none⟩ (.int .i64 y1.val)).drewN q)) := Lib.hid (HH.out.swap2 HZ.out HS2.out hfrd hfc2d HY1.out HY2.out)
            have HZ3 : Hid ((swp dk fr fc2).size = d0.size) := Lib.hid (by rw [swp_sz]; exact HZ.out)
            generalize swp dk fr fc2 = ds at *
            generalize cf y1 y2 = cw at *
            clear hlw HS2 HZ HY1 HY2 
            go_quiet ((go_at_call 110; exact Calls.quiet_of (HCC.out _)))
            go_wp2_with fail
            go_region
            have HW : Hid (((W2.drewN (nq + 1)).setCell ⟨blk, fr, none⟩ (.int .i64 y2.val)).setCell ⟨blk, fc2, none⟩ (.int .i64 y1.val) = ((W2.setCell ⟨blk, fr, none⟩ (.int .i64 y2.val)).setCell ⟨blk, fc2, none⟩ (.int .i64 y1.val)).drewN (nq + 1)) := Lib.hid rfl
            rw [HW.out]
            have HS3 := Lib.hid (HSW.out (nq + 1))
            generalize ((W2.setCell ⟨blk, fr, none⟩ (.int .i64 y2.val)).setCell ⟨blk, fc2, none⟩ (.int .i64 y1.val)).drewN (nq + 1) = W3 at *
            clear HSW HW HCC
            go_wp2
            go_roundw
            case rel => exact ⟨c2, ds, by go_num, HPU.out, HZ3, HS3, Lib.hid HGO.out.symm⟩
            case measure => (simp [intOf] <;> omega)
          | false =>
            have hcw : ¬ cf y1 y2 < 0 := of_decide_eq_false hlw
            rw [hlw, if_neg (by decide)] at HGO
            generalize cf y1 y2 = cw at *
            clear hlw
            go_quiet ((go_at_call 110; exact Calls.quiet_of (HCC.out _)))
            go_wp2
            (first | go_end0 | refine bodyPost_ret (results_none rfl _ _ _) rfl ?_)
            refine ⟨rfl, Lib.hid ?_⟩
            rw [HGO.out]
            exact ⟨HS2.out.drewN _, HZ.out⟩
        | false =>
          have hcv : decide (cf x1 x2 < 0) = false := hlv
          have HP : Hid (pickC (ltOf cf) hi first r dk = c) := Lib.hid (by
            have e1 := HCE.out; have e2 := HC2.out; have e3 := HFC.out; have e4 := HFC2.out
            unfold pickC
            rw [show first + (2 * r + 1) = fc by omega, show fc + 1 = fc2 by omega, ← HX1.out, ← HX2.out, hlv, if_neg (by simp)]
            omega)
          generalize cf x1 x2 = cv1 at *
          rw [HP.out, ← HFC.out] at HGO
          have HPU : Hid (c ≤ n) := Lib.hid (by have := HFN.out; omega)
          clear HP HCE HX1 HX2 hlv
          go_wp2_with fail
          go_quiet ((go_at_call 110; exact Calls.quiet_of (HC.out _)))
          have HS2 := Lib.hid (HS.out.drewN nq)
          generalize wr.drewN nq = W2 at *
          clear HS HC q1 q2 c1 c2c f1 f2 hc2z hfc2z hfc2y hfc2n hfc2i hfc2d hgz hr2 hg HC2 HFC2
          go_wp2_with fail
          obtain ⟨y1, HY1, p1, b1, g1⟩ := HH.out.look HZ.out HS2.out hfrd
          obtain ⟨y2, HY2, p2, b2, g2⟩ := HH.out.look HZ.out HS2.out hfcd
          have HCC := Lib.hid (HH.out.at_ HZ.out HS2.out y1 y2)
          rw [← HY1.out, ← HY2.out] at HGO
          cases hlw : (ltOf cf) y1 y2 with
          | true =>
            have hcw : cf y1 y2 < 0 := of_decide_eq_true hlw
            rw [hlw, if_pos rfl] at HGO
            have HSW : Hid (∀ q, SW encW w0 blk 0 (swp dk fr fc) (((W2.setCell ⟨blk, fr, none⟩ (.int .i64 y2.val)).setCell ⟨blk, fc, none⟩ (.int .i64 y1.val)).drewN q)) := Lib.hid (HH.out.swap2 HZ.out HS2.out hfrd hfcd HY1.out HY2.out)
            have HZ3 : Hid ((swp dk fr fc).size = d0.size) := Lib.hid (by rw [swp_sz]; exact HZ.out)
            generalize swp dk fr fc = ds at *
            generalize cf y1 y2 = cw at *
            clear hlw HS2 HZ HY1 HY2 
            go_quiet ((go_at_call 110; exact Calls.quiet_of (HCC.out _)))
            go_wp2_with fail
            go_region
            have HW : Hid (((W2.drewN (nq + 1)).setCell ⟨blk, fr, none⟩ (.int .i64 y2.val)).setCell ⟨blk, fc, none⟩ (.int .i64 y1.val) = ((W2.setCell ⟨blk, fr, none⟩ (.int .i64 y2.val)).setCell ⟨blk, fc, none⟩ (.int .i64 y1.val)).drewN (nq + 1)) := Lib.hid rfl
            rw [HW.out]
            have HS3 := Lib.hid (HSW.out (nq + 1))
            generalize ((W2.setCell ⟨blk, fr, none⟩ (.int .i64 y2.val)).setCell ⟨blk, fc, none⟩ (.int .i64 y1.val)).drewN (nq + 1) = W3 at *
            clear HSW HW HCC
            go_wp2
            go_roundw
            case rel => exact ⟨c, ds, by go_num, HPU.out, HZ3, HS3, Lib.hid HGO.out.symm⟩
            case measure => (simp [intOf] <;> omega)
          | false =>
            have hcw : ¬ cf y1 y2 < 0 := of_decide_eq_false hlw
            rw [hlw, if_neg (by decide)] at HGO
            generalize cf y1 y2 = cw at *
            clear hlw
            go_quiet ((go_at_call 110; exact Calls.quiet_of (HCC.out _)))
            go_wp2
            (first | go_end0 | refine bodyPost_ret (results_none rfl _ _ _) rfl ?_)
            refine ⟨rfl, Lib.hid ?_⟩
            rw [HGO.out]
            exact ⟨HS2.out.drewN _, HZ.out⟩
      · have hgz : decide ((c : Int) + 1 < (hi : Int)) = false := by simp; omega
        have HP : Hid (pickC (ltOf cf) hi first r dk = c) := Lib.hid (by
          have e1 := HCE.out
          unfold pickC
          rw [if_neg (by simp; omega)]
          omega)
        rw [HP.out, ← HFC.out] at HGO
        have HPU : Hid (c ≤ n) := Lib.hid (by have := HFN.out; omega)
        clear HP HCE
        go_wp2_with fail
        go_quiet (fail)
        have HS2 := Lib.hid (HS.out.drewN nq)
        generalize wr.drewN nq = W2 at *
        clear HS
        go_wp2_with fail
        obtain ⟨y1, HY1, p1, b1, g1⟩ := HH.out.look HZ.out HS2.out hfrd
        obtain ⟨y2, HY2, p2, b2, g2⟩ := HH.out.look HZ.out HS2.out hfcd
        have HCC := Lib.hid (HH.out.at_ HZ.out HS2.out y1 y2)
        rw [← HY1.out, ← HY2.out] at HGO
        cases hlw : (ltOf cf) y1 y2 with
        | true =>
          have hcw : cf y1 y2 < 0 := of_decide_eq_true hlw
          rw [hlw, if_pos rfl] at HGO
          have HSW : Hid (∀ q, SW encW w0 blk 0 (swp dk fr fc) (((W2.setCell ⟨blk, fr, none⟩ (.int .i64 y2.val)).setCell ⟨blk, fc, none⟩ (.int .i64 y1.val)).drewN q)) := Lib.hid (HH.out.swap2 HZ.out HS2.out hfrd hfcd HY1.out HY2.out)
          have HZ3 : Hid ((swp dk fr fc).size = d0.size) := Lib.hid (by rw [swp_sz]; exact HZ.out)
          generalize swp dk fr fc = ds at *
          generalize cf y1 y2 = cw at *
          clear hlw HS2 HZ HY1 HY2 
          go_quiet ((go_at_call 110; exact Calls.quiet_of (HCC.out _)))
          go_wp2_with fail
          go_region
          have HW : Hid (((W2.drewN (nq + 1)).setCell ⟨blk, fr, none⟩ (.int .i64 y2.val)).setCell ⟨blk, fc, none⟩ (.int .i64 y1.val) = ((W2.setCell ⟨blk, fr, none⟩ (.int .i64 y2.val)).setCell ⟨blk, fc, none⟩ (.int .i64 y1.val)).drewN (nq + 1)) := Lib.hid rfl
          rw [HW.out]
          have HS3 := Lib.hid (HSW.out (nq + 1))
          generalize ((W2.setCell ⟨blk, fr, none⟩ (.int .i64 y2.val)).setCell ⟨blk, fc, none⟩ (.int .i64 y1.val)).drewN (nq + 1) = W3 at *
          clear HSW HW HCC
          go_wp2
          go_roundw
          case rel => exact ⟨c, ds, by go_num, HPU.out, HZ3, HS3, Lib.hid HGO.out.symm⟩
          case measure => (simp [intOf] <;> omega)
        | false =>
          have hcw : ¬ cf y1 y2 < 0 := of_decide_eq_false hlw
          rw [hlw, if_neg (by decide)] at HGO
          generalize cf y1 y2 = cw at *
          clear hlw
          go_quiet ((go_at_call 110; exact Calls.quiet_of (HCC.out _)))
          go_wp2
          (first | go_end0 | refine bodyPost_ret (results_none rfl _ _ _) rfl ?_)
          refine ⟨rfl, Lib.hid ?_⟩
          rw [HGO.out]
          exact ⟨HS2.out.drewN _, HZ.out⟩
end Go.Proofs.YtdjieapobodakaaGreatDoor.Lan
end
