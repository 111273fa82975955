/- What is proved here: the sort's row, and its comparison, which is a method of a ledger: definitions; slices.insertionSortCmpFunc. -/
/- What is proved here: slices.siftDownCmpFunc, with a comparison that is a method of a ledger. Written by mksrts.py. -/
/- What is proved here: slices.heapSortCmpFunc and slices.reverseRangeCmpFunc, with a comparison that is a method of a ledger. -/
import Derived.Test.YtdjieapobodakaaGreatDoorPEx17
import Derived.Shelf.SlSortCmp.Whole1
import Derived.Sort.WalkA
import Derived.Shelf.SlSortCmp.QuietGrown
import Derived.Outline
section
namespace Go.Proofs.YtdjieapobodakaaGreatDoor.Led
open Go Go.RowKit Go.Maps Go.WideMaps Go.Shelf Go.Lib Go.Sort
set_option maxRecDepth 100000

/-- A text of which G holds. -/
abbrev W64 (G : ByteArray → Prop) := { x : ByteArray // x.size ≤ maxLen ∧ G x }
variable {G : ByteArray → Prop} [Inhabited (W64 G)]
def encW {G : ByteArray → Prop} (x : W64 G) : Value := .string x.val
/-- The row under the sort, and what the comparison answers in whatever world the sort passes through. -/
structure Srt (cf : (W64 G) → (W64 G) → Int) (l blk cap : Nat) (d0 : Array (W64 G)) (w0 : World) : Prop where
  row : Row1 encW w0 blk 0 d0
  cmp : ∀ (dk : Array (W64 G)) (W : World), dk.size = d0.size → SW encW w0 blk 0 dk W → ∀ x y : (W64 G), Calls Tryz.prog 75 #[.pointer (some ⟨l, 0, none⟩), .string x.val, .string y.val] W fun e w' => e = .returned (.int .i64 (cf x y)) ∧ ∃ q os', w' = grow (W.drewN q) os'
  big : d0.size < 1000000
  cap : d0.size ≤ cap
section
variable {cf : (W64 G) → (W64 G) → Int} {l blk cap : Nat} {d0 dk : Array (W64 G)} {w0 W : World}
theorem Srt.cell (h : Srt cf l blk cap d0 w0) (hs : dk.size = d0.size) (S : SW encW w0 blk 0 dk W) {i : Nat} (hi : i < d0.size) : W.cell? ⟨blk, i, none⟩ = some (.string (dk[i]!).val) := by
  have := S.c1 h.row hs i (by omega)
  rwa [Nat.zero_add] at this
theorem Srt.froz (h : Srt cf l blk cap d0 w0) (hs : dk.size = d0.size) (S : SW encW w0 blk 0 dk W) {i : Nat} (hi : i < d0.size) : W.frozen? ⟨blk, i, none⟩ = false := by
  have := S.f1 h.row hs i (by omega)
  rwa [Nat.zero_add] at this
theorem mixed_prog : Tryz.prog.follows .mixedOrders = true := by kernel_rfl
theorem Srt.at_ (h : Srt cf l blk cap d0 w0) (hs : dk.size = d0.size) (S : SW encW w0 blk 0 dk W) (x y : (W64 G)) : ∀ q os, Calls Tryz.prog 75 #[.pointer (some ⟨l, 0, none⟩), .string x.val, .string y.val] (grow (W.drewN q) os) fun e w' => e = .returned (.int .i64 (cf x y)) ∧ ∃ m os', w' = grow ((grow (W.drewN q) os).drewN m) os' :=
  fun q os => h.cmp dk _ hs (S.grown q os) x y
theorem Srt.swap (h : Srt cf l blk cap d0 w0) (hs : dk.size = d0.size) (S : SW encW w0 blk 0 dk W) {i j : Nat} (hi : i < d0.size) (hj : j < d0.size) (q : Nat) :
    SW encW w0 blk 0 (swp dk i j) (((W.setCell ⟨blk, i, none⟩ (.string (dk[j]!).val)).setCell ⟨blk, j, none⟩ (.string (dk[i]!).val)).drewN q) := by
  have := S.swap h.row.hblk i j (by omega) (by omega)
  rw [Nat.zero_add, Nat.zero_add] at this
  exact this.drewN q
theorem swp_sz (d : Array (W64 G)) (i j : Nat) : (swp d i j).size = d.size := by simp [swp]
end

set_option maxHeartbeats 3200000 in
set_option maxRecDepth 100000 in
theorem ins_any {cf : (W64 G) → (W64 G) → Int} {l blk cap : Nat} {d0 : Array (W64 G)} {w0 : World} (H : Srt cf l blk cap d0 w0) {d : Array (W64 G)} {w : World} (hs : d.size = d0.size) (S : SW encW w0 blk 0 d w) {a b n : Nat} (hn : n = d0.size) (hab : a ≤ b) (hb : b ≤ n) :
    Calls Tryz.prog 122 #[.slice (some ⟨blk, 0, none⟩) n cap, .int .i64 a, .int .i64 b, .func (.func 75) #[.pointer (some ⟨l, 0, none⟩)] #[]] w fun e w' => e = .returned (.tuple #[]) ∧ Hid (SW encW w0 blk 0 (Sort.insertionSort (ltOf cf) d a b) w' ∧ (Sort.insertionSort (ltOf cf) d a b).size = d0.size) := by
  have HS := Lib.hid S
  have HZ := Lib.hid hs
  have hbig := H.big
  have hcap := H.cap
  have HN := Lib.hid hn
  have HH := Lib.hid H
  have hn1 : n < 1000000 := by omega
  have hnc : n ≤ cap := by omega
  clear S hs hn hbig hcap H
  have mixed := mixed_prog
  go_enter Tryz.func122, Tryz.ntmps122
  go_wp2
  go_loopw [8] (fun vi wr => ∃ (i : Nat) (dk : Array (W64 G)), vi = .int .i64 i ∧ a < i ∧ i ≤ b + 1 ∧ Hid (dk.size = d0.size) ∧ Hid (SW encW w0 blk 0 dk wr) ∧ Hid (insOuter (ltOf cf) a b i dk = insOuter (ltOf cf) a b (a + 1) d)) (fun vi _ => b + 1 - (intOf vi).toNat)
  case atStart => exact ⟨a + 1, d, by go_num, by omega, by omega, HZ, HS, Lib.hid rfl⟩
  case round =>
    clear HS HZ
    obtain ⟨i, dk, rfl, hai, hib, HZ, HS, HO⟩ := hrel
    by_cases hlt : i < b
    · have hltz : (i : Int) < (b : Int) := by omega
      go_wp2
      go_loopw [9] (fun vj wr => ∃ (j : Nat) (dj : Array (W64 G)), vj = .int .i64 j ∧ a ≤ j ∧ j ≤ i ∧ Hid (dj.size = d0.size) ∧ Hid (SW encW w0 blk 0 dj wr) ∧ Hid (insInner (ltOf cf) a j dj = insInner (ltOf cf) a i dk)) (fun vj _ => (intOf vj).toNat)
      case atStart => exact ⟨i, dk, rfl, by omega, Nat.le_refl _, HZ, HS, Lib.hid rfl⟩
      case round =>
        clear HS
        obtain ⟨j, dj, rfl, haj, hji, HZ2, HS2, HI⟩ := hrel
        have HOUT : Hid (∀ wv, (j ≤ a ∨ (ltOf cf) dj[j]! dj[j - 1]! = false) → SW encW w0 blk 0 dj wv → Hid (SW encW w0 blk 0 dj wv) ∧ Hid (insOuter (ltOf cf) a b (i + 1) dj = insOuter (ltOf cf) a b (a + 1) d)) := Lib.hid fun wv hst hsw => ⟨Lib.hid hsw, Lib.hid (by
          rw [← HO.out, insOuter_go _ _ _ _ _ hlt, ← HI.out, insInner_stop _ _ _ _ hst])⟩
        by_cases hja : a < j
        · obtain ⟨jp, rfl⟩ : ∃ q, j = q + 1 := ⟨j - 1, by omega⟩
          have hj1 : jp + 1 < d0.size := by have := HN.out; omega
          have hj0 : jp < d0.size := by omega
          have c1 := HH.out.cell HZ2.out HS2.out hj1
          have c0 := HH.out.cell HZ2.out HS2.out hj0
          have HC := Lib.hid (HH.out.at_ HZ2.out HS2.out dj[jp + 1]! dj[jp]!)
          have hjn : (jp : Int) + 1 < n := by have := HN.out; omega
          have hjn0 : (jp : Int) < n := by omega
          have hp1 : (0 : Int) ≤ (jp : Int) + 1 := by omega
          have hwj : IntKind.i64.wrap (jp : Int) = (jp : Int) := by rw [IntKind.wrap_i64]; omega
          have hja' : (a : Int) < (jp : Int) + 1 := by omega
          cases hlv : (ltOf cf) dj[jp + 1]! dj[jp]! with
          | true =>
            have hcv : cf dj[jp + 1]! dj[jp]! < 0 := of_decide_eq_true hlv
            have f1 := HH.out.froz HZ2.out HS2.out hj1
            have f0 := HH.out.froz HZ2.out HS2.out hj0
            have HSW : Hid (∀ W', SW encW w0 blk 0 dj W' → SW encW w0 blk 0 (swp dj (jp + 1) jp) (((W'.setCell ⟨blk, jp + 1, none⟩ (.string (dj[jp]!).val)).setCell ⟨blk, jp, none⟩ (.string (dj[jp + 1]!).val)).drewN 1)) := Lib.hid fun W' h => HH.out.swap HZ2.out h hj1 hj0 1
            have HI2 : Hid (insInner (ltOf cf) a jp (swp dj (jp + 1) jp) = insInner (ltOf cf) a i dk) := Lib.hid (by rw [← HI.out, insInner_go _ _ _ _ hja hlv]; rfl)
            have HZ3 : Hid ((swp dj (jp + 1) jp).size = d0.size) := Lib.hid (by rw [swp_sz]; exact HZ2.out)
            have HLK : Hid (∀ W', SW encW w0 blk 0 dj W' → W'.cell? ⟨blk, jp + 1, none⟩ = some (.string (dj[jp + 1]!).val) ∧ W'.cell? ⟨blk, jp, none⟩ = some (.string (dj[jp]!).val) ∧ W'.frozen? ⟨blk, jp + 1, none⟩ = false ∧ W'.frozen? ⟨blk, jp, none⟩ = false) := Lib.hid fun W' h => ⟨HH.out.cell HZ2.out h hj1, HH.out.cell HZ2.out h hj0, HH.out.froz HZ2.out h hj1, HH.out.froz HZ2.out h hj0⟩
            have C1 := fun q os => (HLK.out _ (HS2.out.grown q os)).1
            have C0 := fun q os => (HLK.out _ (HS2.out.grown q os)).2.1
            generalize swp dj (jp + 1) jp = ds at *
            generalize cf dj[jp + 1]! dj[jp]! = cv at *
            generalize (dj[jp + 1]!).val = x1 at *
            generalize (dj[jp]!).val = x0 at *
            clear hlv HZ2 HOUT HI c0 c1 f0 f1
            go_wp2_with fail
            go_quiet_grown ((go_at_call 75; exact Calls.grown_of (HC.out _ _)))
            have HSB := Lib.hid (HS2.out.grown nq osq)
            generalize grow (wr.drewN nq) osq = WB at *
            obtain ⟨c1, c0, f1, f0⟩ := HLK.out WB HSB.out
            have HSC := Lib.hid (HSW.out WB HSB.out)
            clear HSW HLK C1 C0 HS2 HSB
            go_wp2_with fail
            go_region
            have HS3 : Hid (SW encW w0 blk 0 ds ((WB.setCell ⟨blk, jp + 1, none⟩ (.string x0)).setCell ⟨blk, jp, none⟩ (.string x1)).drew) := Lib.hid HSC.out
            generalize ((WB.setCell ⟨blk, jp + 1, none⟩ (.string x0)).setCell ⟨blk, jp, none⟩ (.string x1)).drew = W3 at *
            clear HSC HC c0 c1 f0 f1
            go_wp2
            go_roundw
            case rel => exact ⟨jp, ds, by go_num, by omega, by omega, HZ3, HS3, HI2⟩
            case measure => (simp [intOf] <;> omega)
          | false =>
            have hcv : ¬ cf dj[jp + 1]! dj[jp]! < 0 := of_decide_eq_false hlv
            have HOUT2 := Lib.hid (fun wv => HOUT.out wv (.inr hlv))
            have C1 := fun q os => HH.out.cell HZ2.out (HS2.out.grown q os) hj1
            have C0 := fun q os => HH.out.cell HZ2.out (HS2.out.grown q os) hj0
            generalize cf dj[jp + 1]! dj[jp]! = cv at *
            generalize (dj[jp + 1]!).val = x1 at *
            generalize (dj[jp]!).val = x0 at *
            clear hlv HOUT HI
            go_wp2_with fail
            go_quiet_grown ((go_at_call 75; exact Calls.grown_of (HC.out _ _)))
            have HS3 := Lib.hid (HS2.out.grown nq osq)
            generalize grow (wr.drewN nq) osq = W3 at *
            clear HC c0 c1 C0 C1 HS2
            go_wp2
            go_roundw
            case rel => exact ⟨i + 1, dj, by go_num, by omega, by omega, HZ2, (HOUT2.out _ HS3.out).1, (HOUT2.out _ HS3.out).2⟩
            case measure => (simp [intOf] <;> omega)
        · have hja' : ¬ (a : Int) < (j : Int) := by omega
          have HOUT2 := Lib.hid (fun wv => HOUT.out wv (.inl (by omega)))
          clear HOUT HI
          go_wp2_with fail
          go_quiet (fail)
          have HS3 := Lib.hid (HS2.out.drewN nq)
          generalize wr.drewN nq = W3 at *
          clear HS2
          go_wp2
          go_roundw
          case rel => exact ⟨i + 1, dj, by go_num, by omega, by omega, HZ2, (HOUT2.out _ HS3.out).1, (HOUT2.out _ HS3.out).2⟩
          case measure => (simp [intOf] <;> omega)
    · have hltz : ¬ (i : Int) < (b : Int) := by omega
      go_wp2
      go_end0
      refine ⟨rfl, Lib.hid ?_⟩
      have hO : dk = insOuter (ltOf cf) a b (a + 1) d := by rw [← HO.out, insOuter_stop _ _ _ _ _ hlt]
      unfold Sort.insertionSort
      rw [← hO]
      exact ⟨HS.out, HZ.out⟩
end Go.Proofs.YtdjieapobodakaaGreatDoor.Led
end

section
namespace Go.Proofs.YtdjieapobodakaaGreatDoor.Led
open Go Go.RowKit Go.Maps Go.WideMaps Go.Shelf Go.Lib Go.Sort
set_option maxRecDepth 100000

variable {G : ByteArray → Prop} [Inhabited (W64 G)]

section
variable {cf : (W64 G) → (W64 G) → Int} {l blk cap : Nat} {d0 dk : Array (W64 G)} {w0 W : World}
theorem Srt.look (h : Srt cf l blk cap d0 w0) (hs : dk.size = d0.size) (S : SW encW w0 blk 0 dk W) {i : Nat} (hi : i < d0.size) : ∃ x : (W64 G), Hid (x = dk[i]!) ∧ (∀ q os, (grow (W.drewN q) os).cell? ⟨blk, i, none⟩ = some (.string x.val)) ∧ W.cell? ⟨blk, i, none⟩ = some (.string x.val) ∧ W.frozen? ⟨blk, i, none⟩ = false := ⟨_, Lib.hid rfl, fun q os => h.cell hs (S.grown q os) hi, h.cell hs S hi, h.froz hs S hi⟩
theorem Srt.again (h : Srt cf l blk cap d0 w0) (hs : dk.size = d0.size) (S : SW encW w0 blk 0 dk W) {i : Nat} (hi : i < d0.size) {x : W64 G} (hx : x = dk[i]!) : W.cell? ⟨blk, i, none⟩ = some (.string x.val) ∧ W.frozen? ⟨blk, i, none⟩ = false := by
  subst hx
  exact ⟨h.cell hs S hi, h.froz hs S hi⟩
theorem Srt.swap2 (h : Srt cf l blk cap d0 w0) (hs : dk.size = d0.size) (S : SW encW w0 blk 0 dk W) {i j : Nat} (hi : i < d0.size) (hj : j < d0.size) {x y : (W64 G)} (hx : x = dk[i]!) (hy : y = dk[j]!) (q : Nat) :
    SW encW w0 blk 0 (swp dk i j) (((W.setCell ⟨blk, i, none⟩ (.string y.val)).setCell ⟨blk, j, none⟩ (.string x.val)).drewN q) := by
  subst hx hy
  exact h.swap hs S hi hj q
end
/-- Which child siftDown compares. -/
def pickC (lt : (W64 G) → (W64 G) → Bool) (hi f r : Nat) (d : Array (W64 G)) : Nat := if 2 * r + 1 + 1 < hi && lt d[f + (2 * r + 1)]! d[f + (2 * r + 1) + 1]! then 2 * r + 2 else 2 * r + 1
theorem sift_stop (lt : (W64 G) → (W64 G) → Bool) (hi f r : Nat) (d : Array (W64 G)) (h : hi ≤ 2 * r + 1) : siftDown lt hi f r d = d := by
  rw [siftDown, dif_pos h]
theorem sift_go (lt : (W64 G) → (W64 G) → Bool) (hi f r : Nat) (d : Array (W64 G)) (h : 2 * r + 1 < hi) : siftDown lt hi f r d = if lt d[f + r]! d[f + pickC lt hi f r d]! then siftDown lt hi f (pickC lt hi f r d) (swp d (f + r) (f + pickC lt hi f r d)) else d := by
  rw [siftDown, dif_neg (by omega)]
  unfold pickC
  by_cases hc : (2 * r + 1 + 1 < hi && lt d[f + (2 * r + 1)]! d[f + (2 * r + 1) + 1]!) = true
  · rw [if_pos hc, if_pos hc]
    have h2 : 2 * r + 2 < hi := by
      have := (Bool.and_eq_true _ _ ▸ hc).1
      simpa using this
    rw [dif_pos h2]
    cases lt d[f + r]! d[f + (2 * r + 2)]! <;> rfl
  · rw [if_neg hc, if_neg hc]
    cases lt d[f + r]! d[f + (2 * r + 1)]! <;> rfl

set_option maxHeartbeats 6400000 in
set_option maxRecDepth 100000 in
theorem sift_any {cf : (W64 G) → (W64 G) → Int} {l blk cap : Nat} {d0 : Array (W64 G)} {w0 : World} (H : Srt cf l blk cap d0 w0) {d : Array (W64 G)} {w : World} (hs : d.size = d0.size) (S : SW encW w0 blk 0 d w) {lo hi first n : Nat} (hn : n = d0.size) (hlo : lo ≤ n) (hfi : first + hi ≤ n) :
    Calls Tryz.prog 156 #[.slice (some ⟨blk, 0, none⟩) n cap, .int .i64 lo, .int .i64 hi, .int .i64 first, .func (.func 75) #[.pointer (some ⟨l, 0, none⟩)] #[]] w fun e w' => e = .returned (.tuple #[]) ∧ Hid (SW encW w0 blk 0 (siftDown (ltOf cf) hi first lo d) w' ∧ (siftDown (ltOf cf) hi first lo d).size = d0.size) := by
  have HS := Lib.hid S
  have HZ := Lib.hid hs
  have hbig := H.big
  have hcap := H.cap
  have HN := Lib.hid hn
  have HH := Lib.hid H
  have hn1 : n < 1000000 := by omega
  have hnc : n ≤ cap := by omega
  clear S hs hn hbig hcap H
  have mixed := mixed_prog
  go_enter Tryz.func156, Tryz.ntmps156
  go_wp2
  go_loopw [10] (fun vi wr => ∃ (r : Nat) (dk : Array (W64 G)), vi = .int .i64 r ∧ r ≤ n ∧ Hid (dk.size = d0.size) ∧ Hid (SW encW w0 blk 0 dk wr) ∧ Hid (siftDown (ltOf cf) hi first r dk = siftDown (ltOf cf) hi first lo d)) (fun vi _ => n + 1 - (intOf vi).toNat)
  case atStart => exact ⟨lo, d, rfl, hlo, HZ, HS, Lib.hid rfl⟩
  case round =>
    clear HS HZ
    obtain ⟨r, dk, rfl, hrn, HZ, HS, HO⟩ := hrel
    obtain ⟨c, hc⟩ : ∃ c, c = 2 * r + 1 := ⟨_, rfl⟩
    have hcr : 2 * (r : Int) + 1 = (c : Int) := by omega
    have HCE := Lib.hid hc
    clear hc
    have hrr : 2 * (r : Int) < 3000000 := by omega
    by_cases hlt : hi ≤ c
    · have hlz : (hi : Int) ≤ (c : Int) := by omega
      go_wp2
      go_end0
      refine ⟨rfl, Lib.hid ?_⟩
      have hO : dk = siftDown (ltOf cf) hi first lo d := by rw [← HO.out, sift_stop _ _ _ _ _ (by have := HCE.out; omega)]
      rw [← hO]
      exact ⟨HS.out, HZ.out⟩
    · have hlz : ¬ (hi : Int) ≤ (c : Int) := by omega
      have HGO : Hid (siftDown (ltOf cf) hi first lo d = if (ltOf cf) dk[first + r]! dk[first + pickC (ltOf cf) hi first r dk]! then siftDown (ltOf cf) hi first (pickC (ltOf cf) hi first r dk) (swp dk (first + r) (first + pickC (ltOf cf) hi first r dk)) else dk) := Lib.hid (by rw [← HO.out, sift_go _ _ _ _ _ (by have := HCE.out; omega)])
      clear HO
      obtain ⟨fr, hfr⟩ : ∃ x, x = first + r := ⟨_, rfl⟩
      have hfrz : (first : Int) + (r : Int) = (fr : Int) := by omega
      have hrc : r < c := by have := HCE.out; omega
      have hfrn : fr < n := by omega
      have hfrd : fr < d0.size := by have := HN.out; omega
      have hfri : (fr : Int) < (n : Int) := by omega
      have hw_fr : IntKind.i64.wrap (fr : Int) = (fr : Int) := by rw [IntKind.wrap_i64]; omega
      obtain ⟨fc, hfc⟩ : ∃ x, x = first + c := ⟨_, rfl⟩
      have hfcz : (first : Int) + (c : Int) = (fc : Int) := by omega
      have hfcn : fc < n := by omega
      have hfcd : fc < d0.size := by have := HN.out; omega
      have hfci : (fc : Int) < (n : Int) := by omega
      have hw_fc : IntKind.i64.wrap (fc : Int) = (fc : Int) := by rw [IntKind.wrap_i64]; omega
      have hrc' : (r : Int) < (c : Int) := by omega
      have HFR := Lib.hid hfr
      have HFC := Lib.hid hfc
      have HFN : Hid (hi ≤ n) := Lib.hid (by omega)
      clear hfr hfc
      rw [← HFR.out] at HGO
      by_cases hg : c + 1 < hi
      · obtain ⟨c2, hc2⟩ : ∃ x, x = c + 1 := ⟨_, rfl⟩
        obtain ⟨fc2, hfc2⟩ : ∃ x, x = first + c2 := ⟨_, rfl⟩
        have hc2z : (c : Int) + 1 = (c2 : Int) := by omega
        have hfc2z : (fc : Int) + 1 = (fc2 : Int) := by have := HFC.out; omega
        have hfc2y : (first : Int) + (c2 : Int) = (fc2 : Int) := by omega
        have hfc2n : fc2 < n := by have := HFN.out; omega
        have hfc2i : (fc2 : Int) < (n : Int) := by omega
        have hw_fc2 : IntKind.i64.wrap (fc2 : Int) = (fc2 : Int) := by rw [IntKind.wrap_i64]; omega
        have hfc2d : fc2 < d0.size := by have := HN.out; omega
        have hgz : (c2 : Int) < (hi : Int) := by omega
        have hw_c2 : IntKind.i64.wrap (c2 : Int) = (c2 : Int) := by rw [IntKind.wrap_i64]; omega
        have hr2 : r < c2 := by omega
        have HC2 := Lib.hid hc2
        have HFC2 := Lib.hid hfc2
        clear hc2 hfc2
        obtain ⟨x1, HX1, q1, c1, f1⟩ := HH.out.look HZ.out HS.out hfcd
        obtain ⟨x2, HX2, q2, c2c, f2⟩ := HH.out.look HZ.out HS.out hfc2d
        have HC := Lib.hid (HH.out.at_ HZ.out HS.out x1 x2)
        cases hlv : (ltOf cf) x1 x2 with
        | true =>
          have hcv : cf x1 x2 < 0 := of_decide_eq_true hlv
          have HP : Hid (pickC (ltOf cf) hi first r dk = c2) := Lib.hid (by
            have e1 := HCE.out; have e2 := HC2.out; have e3 := HFC.out; have e4 := HFC2.out
            unfold pickC
            rw [show first + (2 * r + 1) = fc by omega, show fc + 1 = fc2 by omega, ← HX1.out, ← HX2.out, hlv, if_pos (by simp; omega)]
            omega)
          generalize cf x1 x2 = cv1 at *
          rw [HP.out, ← HFC2.out] at HGO
          have HPU : Hid (c2 ≤ n) := Lib.hid (by have := HFN.out; omega)
          clear HP HCE HX1 HX2 hlv
          go_wp2_with fail
          go_quiet_grown ((go_at_call 75; exact Calls.grown_of (HC.out _ _)))
          have HS2 := Lib.hid (HS.out.grown nq osq)
          generalize grow (wr.drewN nq) osq = W2 at *
          clear HS HC q1 q2 c1 c2c f1 f2
          go_wp2_with fail
          obtain ⟨y1, HY1, p1, b1, g1⟩ := HH.out.look HZ.out HS2.out hfrd
          obtain ⟨y2, HY2, p2, b2, g2⟩ := HH.out.look HZ.out HS2.out hfc2d
          have HCC := Lib.hid (HH.out.at_ HZ.out HS2.out y1 y2)
          rw [← HY1.out, ← HY2.out] at HGO
          cases hlw : (ltOf cf) y1 y2 with
          | true =>
            have hcw : cf y1 y2 < 0 := of_decide_eq_true hlw
            rw [hlw, if_pos rfl] at HGO
            have HSW : Hid (∀ W', SW encW w0 blk 0 dk W' → SW encW w0 blk 0 (swp dk fr fc2) (((W'.setCell ⟨blk, fr, none⟩ (.string y2.val)).setCell ⟨blk, fc2, none⟩ (.string y1.val)).drewN 1)) := Lib.hid fun W' h => HH.out.swap2 HZ.out h hfrd hfc2d HY1.out HY2.out 1
            have HLK : Hid (∀ W', SW encW w0 blk 0 dk W' → (W'.cell? ⟨blk, fr, none⟩ = some (.string y1.val) ∧ W'.frozen? ⟨blk, fr, none⟩ = false) ∧ (W'.cell? ⟨blk, fc2, none⟩ = some (.string y2.val) ∧ W'.frozen? ⟨blk, fc2, none⟩ = false)) := Lib.hid fun W' h => ⟨HH.out.again HZ.out h hfrd HY1.out, HH.out.again HZ.out h hfc2d HY2.out⟩
            have HZ3 : Hid ((swp dk fr fc2).size = d0.size) := Lib.hid (by rw [swp_sz]; exact HZ.out)
            generalize swp dk fr fc2 = ds at *
            generalize cf y1 y2 = cw at *
            clear hlw HZ HY1 HY2
            go_quiet_grown ((go_at_call 75; exact Calls.grown_of (HCC.out _ _)))
            have HSB := Lib.hid (HS2.out.grown nq osq)
            generalize grow (W2.drewN nq) osq = WB at *
            obtain ⟨⟨b1', g1'⟩, ⟨b2', g2'⟩⟩ := HLK.out WB HSB.out
            have HSC := Lib.hid (HSW.out WB HSB.out)
            clear HSW HLK HS2 HSB p1 p2 b1 b2 g1 g2
            go_wp2_with fail
            go_region
            have HS3 : Hid (SW encW w0 blk 0 ds ((WB.setCell ⟨blk, fr, none⟩ (.string y2.val)).setCell ⟨blk, fc2, none⟩ (.string y1.val)).drew) := Lib.hid HSC.out
            generalize ((WB.setCell ⟨blk, fr, none⟩ (.string y2.val)).setCell ⟨blk, fc2, none⟩ (.string y1.val)).drew = W3 at *
            clear HSC HCC
            go_wp2
            go_roundw
            case rel => exact ⟨c2, ds, by go_num, HPU.out, HZ3, HS3, Lib.hid HGO.out.symm⟩
            case measure => (simp [intOf] <;> omega)
          | false =>
            have hcw : ¬ cf y1 y2 < 0 := of_decide_eq_false hlw
            rw [hlw, if_neg (by decide)] at HGO
            generalize cf y1 y2 = cw at *
            clear hlw
            go_quiet_grown ((go_at_call 75; exact Calls.grown_of (HCC.out _ _)))
            go_wp2
            (first | go_end0 | refine bodyPost_ret (results_none rfl _ _ _) rfl ?_)
            refine ⟨rfl, Lib.hid ?_⟩
            rw [HGO.out]
            exact ⟨HS2.out.grown _ _, HZ.out⟩
        | false =>
          have hcv : decide (cf x1 x2 < 0) = false := hlv
          have HP : Hid (pickC (ltOf cf) hi first r dk = c) := Lib.hid (by
            have e1 := HCE.out; have e2 := HC2.out; have e3 := HFC.out; have e4 := HFC2.out
            unfold pickC
            rw [show first + (2 * r + 1) = fc by omega, show fc + 1 = fc2 by omega, ← HX1.out, ← HX2.out, hlv, if_neg (by simp)]
            omega)
          generalize cf x1 x2 = cv1 at *
          rw [HP.out, ← HFC.out] at HGO
          have HPU : Hid (c ≤ n) := Lib.hid (by have := HFN.out; omega)
          clear HP HCE HX1 HX2 hlv
          go_wp2_with fail
          go_quiet_grown ((go_at_call 75; exact Calls.grown_of (HC.out _ _)))
          have HS2 := Lib.hid (HS.out.grown nq osq)
          generalize grow (wr.drewN nq) osq = W2 at *
          clear HS HC q1 q2 c1 c2c f1 f2 hc2z hfc2z hfc2y hfc2n hfc2i hfc2d hgz hr2 hg HC2 HFC2
          go_wp2_with fail
          obtain ⟨y1, HY1, p1, b1, g1⟩ := HH.out.look HZ.out HS2.out hfrd
          obtain ⟨y2, HY2, p2, b2, g2⟩ := HH.out.look HZ.out HS2.out hfcd
          have HCC := Lib.hid (HH.out.at_ HZ.out HS2.out y1 y2)
          rw [← HY1.out, ← HY2.out] at HGO
          cases hlw : (ltOf cf) y1 y2 with
          | true =>
            have hcw : cf y1 y2 < 0 := of_decide_eq_true hlw
            rw [hlw, if_pos rfl] at HGO
            have HSW : Hid (∀ W', SW encW w0 blk 0 dk W' → SW encW w0 blk 0 (swp dk fr fc) (((W'.setCell ⟨blk, fr, none⟩ (.string y2.val)).setCell ⟨blk, fc, none⟩ (.string y1.val)).drewN 1)) := Lib.hid fun W' h => HH.out.swap2 HZ.out h hfrd hfcd HY1.out HY2.out 1
            have HLK : Hid (∀ W', SW encW w0 blk 0 dk W' → (W'.cell? ⟨blk, fr, none⟩ = some (.string y1.val) ∧ W'.frozen? ⟨blk, fr, none⟩ = false) ∧ (W'.cell? ⟨blk, fc, none⟩ = some (.string y2.val) ∧ W'.frozen? ⟨blk, fc, none⟩ = false)) := Lib.hid fun W' h => ⟨HH.out.again HZ.out h hfrd HY1.out, HH.out.again HZ.out h hfcd HY2.out⟩
            have HZ3 : Hid ((swp dk fr fc).size = d0.size) := Lib.hid (by rw [swp_sz]; exact HZ.out)
            generalize swp dk fr fc = ds at *
            generalize cf y1 y2 = cw at *
            clear hlw HZ HY1 HY2
            go_quiet_grown ((go_at_call 75; exact Calls.grown_of (HCC.out _ _)))
            have HSB := Lib.hid (HS2.out.grown nq osq)
            generalize grow (W2.drewN nq) osq = WB at *
            obtain ⟨⟨b1', g1'⟩, ⟨b2', g2'⟩⟩ := HLK.out WB HSB.out
            have HSC := Lib.hid (HSW.out WB HSB.out)
            clear HSW HLK HS2 HSB p1 p2 b1 b2 g1 g2
            go_wp2_with fail
            go_region
            have HS3 : Hid (SW encW w0 blk 0 ds ((WB.setCell ⟨blk, fr, none⟩ (.string y2.val)).setCell ⟨blk, fc, none⟩ (.string y1.val)).drew) := Lib.hid HSC.out
            generalize ((WB.setCell ⟨blk, fr, none⟩ (.string y2.val)).setCell ⟨blk, fc, none⟩ (.string y1.val)).drew = W3 at *
            clear HSC HCC
            go_wp2
            go_roundw
            case rel => exact ⟨c, ds, by go_num, HPU.out, HZ3, HS3, Lib.hid HGO.out.symm⟩
            case measure => (simp [intOf] <;> omega)
          | false =>
            have hcw : ¬ cf y1 y2 < 0 := of_decide_eq_false hlw
            rw [hlw, if_neg (by decide)] at HGO
            generalize cf y1 y2 = cw at *
            clear hlw
            go_quiet_grown ((go_at_call 75; exact Calls.grown_of (HCC.out _ _)))
            go_wp2
            (first | go_end0 | refine bodyPost_ret (results_none rfl _ _ _) rfl ?_)
            refine ⟨rfl, Lib.hid ?_⟩
            rw [HGO.out]
            exact ⟨HS2.out.grown _ _, HZ.out⟩
      · have hgz : decide ((c : Int) + 1 < (hi : Int)) = false := by simp; omega
        have HP : Hid (pickC (ltOf cf) hi first r dk = c) := Lib.hid (by
          have e1 := HCE.out
          unfold pickC
          rw [if_neg (by simp; omega)]
          omega)
        rw [HP.out, ← HFC.out] at HGO
        have HPU : Hid (c ≤ n) := Lib.hid (by have := HFN.out; omega)
        clear HP HCE
        go_wp2_with fail
        go_quiet (fail)
        have HS2 := Lib.hid (HS.out.drewN nq)
        generalize wr.drewN nq = W2 at *
        clear HS
        go_wp2_with fail
        obtain ⟨y1, HY1, p1, b1, g1⟩ := HH.out.look HZ.out HS2.out hfrd
        obtain ⟨y2, HY2, p2, b2, g2⟩ := HH.out.look HZ.out HS2.out hfcd
        have HCC := Lib.hid (HH.out.at_ HZ.out HS2.out y1 y2)
        rw [← HY1.out, ← HY2.out] at HGO
        cases hlw : (ltOf cf) y1 y2 with
        | true =>
          have hcw : cf y1 y2 < 0 := of_decide_eq_true hlw
          rw [hlw, if_pos rfl] at HGO
          have HSW : Hid (∀ W', SW encW w0 blk 0 dk W' → SW encW w0 blk 0 (swp dk fr fc) (((W'.setCell ⟨blk, fr, none⟩ (.string y2.val)).setCell ⟨blk, fc, none⟩ (.string y1.val)).drewN 1)) := Lib.hid fun W' h => HH.out.swap2 HZ.out h hfrd hfcd HY1.out HY2.out 1
          have HLK : Hid (∀ W', SW encW w0 blk 0 dk W' → (W'.cell? ⟨blk, fr, none⟩ = some (.string y1.val) ∧ W'.frozen? ⟨blk, fr, none⟩ = false) ∧ (W'.cell? ⟨blk, fc, none⟩ = some (.string y2.val) ∧ W'.frozen? ⟨blk, fc, none⟩ = false)) := Lib.hid fun W' h => ⟨HH.out.again HZ.out h hfrd HY1.out, HH.out.again HZ.out h hfcd HY2.out⟩
          have HZ3 : Hid ((swp dk fr fc).size = d0.size) := Lib.hid (by rw [swp_sz]; exact HZ.out)
          generalize swp dk fr fc = ds at *
          generalize cf y1 y2 = cw at *
          clear hlw HZ HY1 HY2
          go_quiet_grown ((go_at_call 75; exact Calls.grown_of (HCC.out _ _)))
          have HSB := Lib.hid (HS2.out.grown nq osq)
          generalize grow (W2.drewN nq) osq = WB at *
          obtain ⟨⟨b1', g1'⟩, ⟨b2', g2'⟩⟩ := HLK.out WB HSB.out
          have HSC := Lib.hid (HSW.out WB HSB.out)
          clear HSW HLK HS2 HSB p1 p2 b1 b2 g1 g2
          go_wp2_with fail
          go_region
          have HS3 : Hid (SW encW w0 blk 0 ds ((WB.setCell ⟨blk, fr, none⟩ (.string y2.val)).setCell ⟨blk, fc, none⟩ (.string y1.val)).drew) := Lib.hid HSC.out
          generalize ((WB.setCell ⟨blk, fr, none⟩ (.string y2.val)).setCell ⟨blk, fc, none⟩ (.string y1.val)).drew = W3 at *
          clear HSC HCC
          go_wp2
          go_roundw
          case rel => exact ⟨c, ds, by go_num, HPU.out, HZ3, HS3, Lib.hid HGO.out.symm⟩
          case measure => (simp [intOf] <;> omega)
        | false =>
          have hcw : ¬ cf y1 y2 < 0 := of_decide_eq_false hlw
          rw [hlw, if_neg (by decide)] at HGO
          generalize cf y1 y2 = cw at *
          clear hlw
          go_quiet_grown ((go_at_call 75; exact Calls.grown_of (HCC.out _ _)))
          go_wp2
          (first | go_end0 | refine bodyPost_ret (results_none rfl _ _ _) rfl ?_)
          refine ⟨rfl, Lib.hid ?_⟩
          rw [HGO.out]
          exact ⟨HS2.out.grown _ _, HZ.out⟩
end Go.Proofs.YtdjieapobodakaaGreatDoor.Led
end

section
namespace Go.Proofs.YtdjieapobodakaaGreatDoor.Led
open Go Go.RowKit Go.Maps Go.WideMaps Go.Shelf Go.Lib Go.Sort
set_option maxRecDepth 100000

variable {G : ByteArray → Prop} [Inhabited (W64 G)]

theorem rev_go (i j : Nat) (d : Array (W64 G)) (h : i < j) : reverseLoop i j d = reverseLoop (i + 1) (j - 1) (swp d i j) := by rw [reverseLoop, if_pos h]
theorem rev_stop (i j : Nat) (d : Array (W64 G)) (h : ¬ i < j) : reverseLoop i j d = d := by rw [reverseLoop, if_neg h]

set_option maxHeartbeats 6400000 in
set_option maxRecDepth 100000 in
theorem rev_any {cf : (W64 G) → (W64 G) → Int} {l blk cap : Nat} {d0 : Array (W64 G)} {w0 : World} (H : Srt cf l blk cap d0 w0) {d : Array (W64 G)} {w : World} (hs : d.size = d0.size) (S : SW encW w0 blk 0 d w) {a b n : Nat} (hn : n = d0.size) (hab : a < b) (hb : b ≤ n) (f : Value) :
    Calls Tryz.prog 126 #[.slice (some ⟨blk, 0, none⟩) n cap, .int .i64 a, .int .i64 b, f] w fun e w' => e = .returned (.tuple #[]) ∧ Hid (SW encW w0 blk 0 (reverseRange d a b) w' ∧ (reverseRange d a b).size = d0.size) := by
  have HS := Lib.hid S
  have HZ := Lib.hid hs
  have hbig := H.big
  have hcap := H.cap
  have HN := Lib.hid hn
  have HH := Lib.hid H
  have hn1 : n < 1000000 := by omega
  have hnc : n ≤ cap := by omega
  obtain ⟨bp, hbp⟩ : ∃ x, b = x + 1 := ⟨b - 1, by omega⟩
  have HB := Lib.hid hbp
  have hbpz : (b : Int) - 1 = (bp : Int) := by omega
  have hbpn : bp < n := by omega
  have HR : Hid (reverseRange d a b = reverseLoop a bp d) := Lib.hid (by unfold reverseRange; rw [hbp]; rfl)
  clear S hs hn hbig hcap H hbp
  go_enter Tryz.func126, Tryz.ntmps126
  go_wp2
  go_loopw [8, 9] (fun vi vj wr => ∃ (i j : Nat) (dk : Array (W64 G)), vi = .int .i64 i ∧ vj = .int .i64 j ∧ i ≤ n ∧ j < n ∧ Hid (dk.size = d0.size) ∧ Hid (SW encW w0 blk 0 dk wr) ∧ Hid (reverseLoop i j dk = reverseLoop a bp d)) (fun _ vj _ => (intOf vj).toNat)
  case atStart => exact ⟨a, bp, d, rfl, rfl, by omega, hbpn, HZ, HS, Lib.hid rfl⟩
  case round =>
    clear HS HZ
    obtain ⟨i, j, dk, rfl, rfl, hin, hjn, HZ, HS, HO⟩ := hrel
    by_cases hlt : i < j
    · have hlz : (i : Int) < (j : Int) := by omega
      obtain ⟨jp, hjp⟩ : ∃ x, j = x + 1 := ⟨j - 1, by omega⟩
      have hjz : (j : Int) - 1 = (jp : Int) := by omega
      have hjpn : jp < n := by omega
      have hii : (i : Int) < (n : Int) := by omega
      have hji : (j : Int) < (n : Int) := by omega
      have hid : i < d0.size := by have := HN.out; omega
      have hjd : j < d0.size := by have := HN.out; omega
      have HO2 : Hid (reverseLoop (i + 1) jp (swp dk i j) = reverseLoop a bp d) := Lib.hid (by rw [← HO.out, rev_go _ _ _ hlt, hjp]; rfl)
      have HJ := Lib.hid hjp
      clear hjp HO
      obtain ⟨y1, HY1, p1, b1, g1⟩ := HH.out.look HZ.out HS.out hid
      obtain ⟨y2, HY2, p2, b2, g2⟩ := HH.out.look HZ.out HS.out hjd
      have HSW : Hid (∀ q, SW encW w0 blk 0 (swp dk i j) (((wr.setCell ⟨blk, i, none⟩ (.string y2.val)).setCell ⟨blk, j, none⟩ (.string y1.val)).drewN q)) := Lib.hid (HH.out.swap2 HZ.out HS.out hid hjd HY1.out HY2.out)
      have HZ3 : Hid ((swp dk i j).size = d0.size) := Lib.hid (by rw [swp_sz]; exact HZ.out)
      generalize swp dk i j = ds at *
      clear HS HZ HY1 HY2
      go_wp2_with fail
      go_region
      have HS3 : Hid (SW encW w0 blk 0 ds ((wr.setCell ⟨blk, i, none⟩ (.string y2.val)).setCell ⟨blk, j, none⟩ (.string y1.val)).drew) := Lib.hid (HSW.out 1)
      generalize ((wr.setCell ⟨blk, i, none⟩ (.string y2.val)).setCell ⟨blk, j, none⟩ (.string y1.val)).drew = W3 at *
      clear HSW
      go_wp2
      go_roundw
      case rel => exact ⟨i + 1, jp, ds, by go_num, by go_num, by omega, hjpn, HZ3, HS3, HO2⟩
      case measure => (simp [intOf] <;> omega)
    · have hlz : ¬ (i : Int) < (j : Int) := by omega
      go_wp2
      (first | go_end0 | refine bodyPost_ret (results_none rfl _ _ _) rfl ?_)
      refine ⟨rfl, Lib.hid ?_⟩
      have hO : dk = reverseRange d a b := by rw [HR.out, ← HO.out, rev_stop _ _ _ hlt]
      rw [← hO]
      exact ⟨HS.out, HZ.out⟩

set_option maxHeartbeats 6400000 in
set_option maxRecDepth 100000 in
theorem heap_any {cf : (W64 G) → (W64 G) → Int} {l blk cap : Nat} {d0 : Array (W64 G)} {w0 : World} (H : Srt cf l blk cap d0 w0) {d : Array (W64 G)} {w : World} (hs : d.size = d0.size) (S : SW encW w0 blk 0 d w) {a b n : Nat} (hn : n = d0.size) (hab : a < b) (hb : b ≤ n) :
    Calls Tryz.prog 123 #[.slice (some ⟨blk, 0, none⟩) n cap, .int .i64 a, .int .i64 b, .func (.func 75) #[.pointer (some ⟨l, 0, none⟩)] #[]] w fun e w' => e = .returned (.tuple #[]) ∧ Hid (SW encW w0 blk 0 (Sort.heapSort (ltOf cf) d a b) w' ∧ (Sort.heapSort (ltOf cf) d a b).size = d0.size) := by
  have HS := Lib.hid S
  have HZ := Lib.hid hs
  have hbig := H.big
  have hcap := H.cap
  have HN := Lib.hid hn
  have HH := Lib.hid H
  have hn1 : n < 1000000 := by omega
  have hnc : n ≤ cap := by omega
  obtain ⟨hp, hhp⟩ : ∃ x, b - a = x + 1 := ⟨b - a - 1, by omega⟩
  obtain ⟨hi, hhi⟩ : ∃ x, b - a = x := ⟨b - a, rfl⟩
  obtain ⟨m, hm⟩ : ∃ x, hp / 2 = x := ⟨_, rfl⟩
  have hbaz : (b : Int) - (a : Int) = (hi : Int) := by omega
  have hhpz : (hi : Int) - 1 = (hp : Int) := by omega
  have hmz : Int.tdiv (hp : Int) 2 = (m : Int) := by rw [← hm]; exact (Int.ofNat_tdiv hp 2).symm
  have hin : a + hi ≤ n := by omega
  have hpi : hp < hi := by omega
  have hmi : m < hi := by omega
  have HD : Hid (Sort.heapSort (ltOf cf) d a b = heapPop (ltOf cf) a hi (heapBuild (ltOf cf) hi a (m + 1) d)) := Lib.hid (by unfold Sort.heapSort; rw [hhi, ← hm, show hi - 1 = hp by omega])
  have HP : Hid (hi = hp + 1) := Lib.hid (by omega)
  clear S hs hn hbig hcap H hhp hhi hm
  go_enter Tryz.func123, Tryz.ntmps123
  go_wp2
  go_loopw [11] (fun vi wr => ∃ (k : Nat) (dk : Array (W64 G)), vi = .int .i64 ((k : Int) - 1) ∧ k ≤ m + 1 ∧ Hid (dk.size = d0.size) ∧ Hid (SW encW w0 blk 0 dk wr) ∧ Hid (heapBuild (ltOf cf) hi a k dk = heapBuild (ltOf cf) hi a (m + 1) d)) (fun vi _ => (intOf vi + 1).toNat)
  case atStart => exact ⟨m + 1, d, by congr 1; omega, by omega, HZ, HS, Lib.hid rfl⟩
  case round =>
    clear HS HZ
    obtain ⟨k, dk, rfl, hkm, HZ, HS, HO⟩ := hrel
    by_cases hk : k = 0
    · have hkz : ¬ (0 : Int) ≤ (k : Int) - 1 := by omega
      have HS2 : Hid (heapBuild (ltOf cf) hi a (m + 1) d = dk) := Lib.hid (by rw [← HO.out, hk]; rfl)
      clear HO
      go_wp2
      clear hkz hk hkm
      generalize hd1 : heapBuild (ltOf cf) hi a (m + 1) d = d1 at *
      obtain rfl := HS2.out
      clear hd1 HS2
      go_loopw [12] (fun vi wr => ∃ (k : Nat) (dk : Array (W64 G)), vi = .int .i64 ((k : Int) - 1) ∧ k ≤ hi ∧ Hid (dk.size = d0.size) ∧ Hid (SW encW w0 blk 0 dk wr) ∧ Hid (heapPop (ltOf cf) a k dk = heapPop (ltOf cf) a hi d1)) (fun vi _ => (intOf vi + 1).toNat)
      case atStart => exact ⟨hi, _, by congr 1; omega, Nat.le_refl _, HZ, HS, Lib.hid rfl⟩
      case round =>
        clear HS HZ
        obtain ⟨k, dk, rfl, hkm, HZ, HS, HO⟩ := hrel
        by_cases hk : k = 0
        · have hkz : ¬ (0 : Int) ≤ (k : Int) - 1 := by omega
          have HS2 : Hid (heapPop (ltOf cf) a hi d1 = dk) := Lib.hid (by rw [← HO.out, hk]; rfl)
          clear HO
          go_wp2
          go_end0
          refine ⟨rfl, Lib.hid ?_⟩
          rw [HD.out, HS2.out]
          exact ⟨HS.out, HZ.out⟩
        · obtain ⟨i, hi1⟩ : ∃ x, k = x + 1 := ⟨k - 1, by omega⟩
          have hiz : (k : Int) - 1 = (i : Int) := by omega
          have hi0 : (0 : Int) ≤ (i : Int) := by omega
          by_cases hi0p : 0 < i
          · obtain ⟨fi, hfi⟩ : ∃ x, x = a + i := ⟨_, rfl⟩
            have hfiz : (a : Int) + (i : Int) = (fi : Int) := by omega
            have hfin : (fi : Int) < (n : Int) := by omega
            have han : (a : Int) < (n : Int) := by omega
            have hfid : fi < d0.size := by have := HN.out; omega
            have hne : a < fi := by omega
            have had : a < d0.size := by have := HN.out; omega
            have HO2 : Hid (heapPop (ltOf cf) a i (siftDown (ltOf cf) i a 0 (swp dk a fi)) = heapPop (ltOf cf) a hi d1) := Lib.hid (by rw [← HO.out, hi1, hfi]; rfl)
            have HK := Lib.hid hi1
            have HFI := Lib.hid hfi
            have hih : i < hi := by omega
            have HAI : Hid (a + i ≤ n) := Lib.hid (by omega)
            obtain ⟨y1, HY1, p1, b1, g1⟩ := HH.out.look HZ.out HS.out had
            obtain ⟨y2, HY2, p2, b2, g2⟩ := HH.out.look HZ.out HS.out hfid
            have HSW : Hid (∀ q, SW encW w0 blk 0 (swp dk a fi) (((wr.setCell ⟨blk, a, none⟩ (.string y2.val)).setCell ⟨blk, fi, none⟩ (.string y1.val)).drewN q)) := Lib.hid (HH.out.swap2 HZ.out HS.out had hfid HY1.out HY2.out)
            have HZ2 : Hid ((swp dk a fi).size = d0.size) := Lib.hid (by rw [swp_sz]; exact HZ.out)
            generalize swp dk a fi = ds at *
            clear HS HZ HY1 HY2 hfi hi1 HO hk
            go_wp2_with fail
            go_region
            have HS3 : Hid (SW encW w0 blk 0 ds ((wr.setCell ⟨blk, a, none⟩ (.string y2.val)).setCell ⟨blk, fi, none⟩ (.string y1.val)).drew) := Lib.hid (HSW.out 1)
            generalize ((wr.setCell ⟨blk, a, none⟩ (.string y2.val)).setCell ⟨blk, fi, none⟩ (.string y1.val)).drew = W3 at *
            clear HSW p1 p2 b1 b2 g1 g2
            have HC := Lib.hid (sift_any HH.out HZ2.out HS3.out HN.out (lo := 0) (hi := i) (first := a) (by omega) HAI.out)
            go_wp2_with (go_at_call 156; refine HC.out.mono ?_; rintro e w2 HY; obtain rfl := HY.1; have HZ3 := HY.2; clear HY)
            go_roundw
            case rel => exact ⟨i, _, rfl, by omega, Lib.hid HZ3.out.2, Lib.hid HZ3.out.1, HO2⟩
            case measure => (simp [intOf] <;> omega)
          · have hi00 : i = 0 := by omega
            subst hi00
            have hiz0 : (k : Int) - 1 = 0 := by omega
            clear hiz hi0
            have han : (a : Int) < (n : Int) := by omega
            have had : a < d0.size := by have := HN.out; omega
            have HO2 : Hid (heapPop (ltOf cf) a 0 (siftDown (ltOf cf) 0 a 0 (swp dk a a)) = heapPop (ltOf cf) a hi d1) := Lib.hid (by rw [← HO.out, hi1]; rfl)
            have HK := Lib.hid hi1
            obtain ⟨y1, HY1, p1, b1, g1⟩ := HH.out.look HZ.out HS.out had
            have HSW : Hid (∀ q, SW encW w0 blk 0 (swp dk a a) (((wr.setCell ⟨blk, a, none⟩ (.string y1.val)).setCell ⟨blk, a, none⟩ (.string y1.val)).drewN q)) := Lib.hid (HH.out.swap2 HZ.out HS.out had had HY1.out HY1.out)
            have HZ2 : Hid ((swp dk a a).size = d0.size) := Lib.hid (by rw [swp_sz]; exact HZ.out)
            generalize swp dk a a = ds at *
            clear HS HZ HY1 hi1 HO hk
            go_wp2_with fail
            go_region
            have HS3 : Hid (SW encW w0 blk 0 ds ((wr.setCell ⟨blk, a, none⟩ (.string y1.val)).setCell ⟨blk, a, none⟩ (.string y1.val)).drew) := Lib.hid (HSW.out 1)
            generalize ((wr.setCell ⟨blk, a, none⟩ (.string y1.val)).setCell ⟨blk, a, none⟩ (.string y1.val)).drew = W3 at *
            clear HSW p1 b1 g1
            have HC : Hid (Calls Tryz.prog 156 #[.slice (some ⟨blk, 0, none⟩) n cap, .int .i64 0, .int .i64 0, .int .i64 a, .func (.func 75) #[.pointer (some ⟨l, 0, none⟩)] #[]] W3 _) := Lib.hid (sift_any HH.out HZ2.out HS3.out HN.out (lo := 0) (hi := 0) (first := a) (by omega) (by omega))
            go_wp2_with (go_at_call 156; refine HC.out.mono ?_; rintro e w2 HY; obtain rfl := HY.1; have HZ3 := HY.2; clear HY)
            go_roundw
            case rel => exact ⟨0, _, rfl, by omega, Lib.hid HZ3.out.2, Lib.hid HZ3.out.1, HO2⟩
            case measure => (simp [intOf] <;> omega)
    · obtain ⟨i, hi1⟩ : ∃ x, k = x + 1 := ⟨k - 1, by omega⟩
      have hiz : (k : Int) - 1 = (i : Int) := by omega
      have hi0 : (0 : Int) ≤ (i : Int) := by omega
      have hin2 : i ≤ n := by omega
      have HO2 : Hid (heapBuild (ltOf cf) hi a i (siftDown (ltOf cf) hi a i dk) = heapBuild (ltOf cf) hi a (m + 1) d) := Lib.hid (by rw [← HO.out, hi1]; rfl)
      have HK := Lib.hid hi1
      have him : i ≤ m := by omega
      have HC := Lib.hid (sift_any HH.out HZ.out HS.out HN.out (lo := i) (hi := hi) (first := a) hin2 (by omega))
      clear hi1 HO HS HZ hk
      go_wp2_with (go_at_call 156; refine HC.out.mono ?_; rintro e w2 HY; obtain rfl := HY.1; have HZ3 := HY.2; clear HY)
      go_roundw
      case rel => exact ⟨i, _, rfl, by omega, Lib.hid HZ3.out.2, Lib.hid HZ3.out.1, HO2⟩
      case measure => (simp [intOf] <;> omega)
end Go.Proofs.YtdjieapobodakaaGreatDoor.Led
end
