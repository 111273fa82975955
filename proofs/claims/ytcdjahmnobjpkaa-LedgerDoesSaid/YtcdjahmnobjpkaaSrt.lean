/- What is proved here: the sort's row, and its comparison, which is a method of a ledger: definitions; slices.insertionSortCmpFunc. -/
import Derived.Test.YtcdjahmnobjpkaaCmp
import Derived.Shelf.SlSortCmp.Whole1
import Derived.Sort.WalkA
import Derived.Shelf.SlSortCmp.QuietGrown
import Derived.Outline
namespace Go.Proofs.Ytcdjahmnobjpkaa
open Go Go.RowKit Go.Maps Go.WideMaps Go.Shelf Go.Lib Go.Sort

/-- A text of which G holds. -/
abbrev W64 (G : ByteArray → Prop) := { x : ByteArray // x.size ≤ maxLen ∧ G x }
variable {G : ByteArray → Prop} [Inhabited (W64 G)]
def encW {G : ByteArray → Prop} (x : W64 G) : Value := .string x.val
/-- The row under the sort, and what the comparison answers in whatever world the sort passes through. -/
structure Srt (cf : (W64 G) → (W64 G) → Int) (l blk cap : Nat) (d0 : Array (W64 G)) (w0 : World) : Prop where
  row : Row1 encW w0 blk 0 d0
  cmp : ∀ (dk : Array (W64 G)) (W : World), dk.size = d0.size → SW encW w0 blk 0 dk W → ∀ x y : (W64 G), Calls Try.prog 30 #[.pointer (some ⟨l, 0, none⟩), .string x.val, .string y.val] W fun e w' => e = .returned (.int .i64 (cf x y)) ∧ ∃ q os', w' = grow (W.drewN q) os'
  big : d0.size < 1000000
  cap : d0.size ≤ cap
section
variable {cf : (W64 G) → (W64 G) → Int} {l blk cap : Nat} {d0 dk : Array (W64 G)} {w0 W : World}
theorem Srt.cell (h : Srt cf l blk cap d0 w0) (hs : dk.size = d0.size) (S : SW encW w0 blk 0 dk W) {i : Nat} (hi : i < d0.size) : W.cell? ⟨blk, i, none⟩ = some (.string (dk[i]!).val) := by
  have := S.c1 h.row hs i (by omega)
  rwa [Nat.zero_add] at this
theorem Srt.froz (h : Srt cf l blk cap d0 w0) (hs : dk.size = d0.size) (S : SW encW w0 blk 0 dk W) {i : Nat} (hi : i < d0.size) : W.frozen? ⟨blk, i, none⟩ = false := by
  have := S.f1 h.row hs i (by omega)
  rwa [Nat.zero_add] at this
theorem mixed_prog : Try.prog.follows .mixedOrders = true := by kernel_rfl
theorem Srt.at_ (h : Srt cf l blk cap d0 w0) (hs : dk.size = d0.size) (S : SW encW w0 blk 0 dk W) (x y : (W64 G)) : ∀ q os, Calls Try.prog 30 #[.pointer (some ⟨l, 0, none⟩), .string x.val, .string y.val] (grow (W.drewN q) os) fun e w' => e = .returned (.int .i64 (cf x y)) ∧ ∃ m os', w' = grow ((grow (W.drewN q) os).drewN m) os' :=
  fun q os => h.cmp dk _ hs (S.grown q os) x y
theorem Srt.swap (h : Srt cf l blk cap d0 w0) (hs : dk.size = d0.size) (S : SW encW w0 blk 0 dk W) {i j : Nat} (hi : i < d0.size) (hj : j < d0.size) (q : Nat) :
    SW encW w0 blk 0 (swp dk i j) (((W.setCell ⟨blk, i, none⟩ (.string (dk[j]!).val)).setCell ⟨blk, j, none⟩ (.string (dk[i]!).val)).drewN q) := by
  have := S.swap h.row.hblk i j (by omega) (by omega)
  rw [Nat.zero_add, Nat.zero_add] at this
  exact this.drewN q
theorem swp_sz (d : Array (W64 G)) (i j : Nat) : (swp d i j).size = d.size := by simp [swp]
end

set_option maxHeartbeats 3200000 in
set_option maxRecDepth 100000 in
theorem ins_any {cf : (W64 G) → (W64 G) → Int} {l blk cap : Nat} {d0 : Array (W64 G)} {w0 : World} (H : Srt cf l blk cap d0 w0) {d : Array (W64 G)} {w : World} (hs : d.size = d0.size) (S : SW encW w0 blk 0 d w) {a b n : Nat} (hn : n = d0.size) (hab : a ≤ b) (hb : b ≤ n) :
    Calls Try.prog 43 #[.slice (some ⟨blk, 0, none⟩) n cap, .int .i64 a, .int .i64 b, .func (.func 30) #[.pointer (some ⟨l, 0, none⟩)] #[]] w fun e w' => e = .returned (.tuple #[]) ∧ Hid (SW encW w0 blk 0 (Sort.insertionSort (ltOf cf) d a b) w' ∧ (Sort.insertionSort (ltOf cf) d a b).size = d0.size) := by
  have HS := Lib.hid S
  have HZ := Lib.hid hs
  have hbig := H.big
  have hcap := H.cap
  have HN := Lib.hid hn
  have HH := Lib.hid H
  have hn1 : n < 1000000 := by omega
  have hnc : n ≤ cap := by omega
  clear S hs hn hbig hcap H
  have mixed := mixed_prog
  go_enter Try.func43, Try.ntmps43
  go_wp2
  go_loopw [8] (fun vi wr => ∃ (i : Nat) (dk : Array (W64 G)), vi = .int .i64 i ∧ a < i ∧ i ≤ b + 1 ∧ Hid (dk.size = d0.size) ∧ Hid (SW encW w0 blk 0 dk wr) ∧ Hid (insOuter (ltOf cf) a b i dk = insOuter (ltOf cf) a b (a + 1) d)) (fun vi _ => b + 1 - (intOf vi).toNat)
  case atStart => exact ⟨a + 1, d, by go_num, by omega, by omega, HZ, HS, Lib.hid rfl⟩
  case round =>
    clear HS HZ
    obtain ⟨i, dk, rfl, hai, hib, HZ, HS, HO⟩ := hrel
    by_cases hlt : i < b
    · have hltz : (i : Int) < (b : Int) := by omega
      go_wp2
      go_loopw [9] (fun vj wr => ∃ (j : Nat) (dj : Array (W64 G)), vj = .int .i64 j ∧ a ≤ j ∧ j ≤ i ∧ Hid (dj.size = d0.size) ∧ Hid (SW encW w0 blk 0 dj wr) ∧ Hid (insInner (ltOf cf) a j dj = insInner (ltOf cf) a i dk)) (fun vj _ => (intOf vj).toNat)
      case atStart => exact ⟨i, dk, rfl, by omega, Nat.le_refl _, HZ, HS, Lib.hid rfl⟩
      case round =>
        clear HS
        obtain ⟨j, dj, rfl, haj, hji, HZ2, HS2, HI⟩ := hrel
        have HOUT : Hid (∀ wv, (j ≤ a ∨ (ltOf cf) dj[j]! dj[j - 1]! = false) → SW encW w0 blk 0 dj wv → Hid (SW encW w0 blk 0 dj wv) ∧ Hid (insOuter (ltOf cf) a b (i + 1) dj = insOuter (ltOf cf) a b (a + 1) d)) := Lib.hid fun wv hst hsw => ⟨Lib.hid hsw, Lib.hid (by
          rw [← HO.out, insOuter_go _ _ _ _ _ hlt, ← HI.out, insInner_stop _ _ _ _ hst])⟩
        by_cases hja : a < j
        · obtain ⟨jp, rfl⟩ : ∃ q, j = q + 1 := ⟨j - 1, by omega⟩
          have hj1 : jp + 1 < d0.size := by have := HN.out; omega
          have hj0 : jp < d0.size := by omega
          have c1 := HH.out.cell HZ2.out HS2.out hj1
          have c0 := HH.out.cell HZ2.out HS2.out hj0
          have HC := Lib.hid (HH.out.at_ HZ2.out HS2.out dj[jp + 1]! dj[jp]!)
          have hjn : (jp : Int) + 1 < n := by have := HN.out; omega
          have hjn0 : (jp : Int) < n := by omega
          have hp1 : (0 : Int) ≤ (jp : Int) + 1 := by omega
          have hwj : IntKind.i64.wrap (jp : Int) = (jp : Int) := by rw [IntKind.wrap_i64]; omega
          have hja' : (a : Int) < (jp : Int) + 1 := by omega
          cases hlv : (ltOf cf) dj[jp + 1]! dj[jp]! with
          | true =>
            have hcv : cf dj[jp + 1]! dj[jp]! < 0 := of_decide_eq_true hlv
            have f1 := HH.out.froz HZ2.out HS2.out hj1
            have f0 := HH.out.froz HZ2.out HS2.out hj0
            have HSW : Hid (∀ W', SW encW w0 blk 0 dj W' → SW encW w0 blk 0 (swp dj (jp + 1) jp) (((W'.setCell ⟨blk, jp + 1, none⟩ (.string (dj[jp]!).val)).setCell ⟨blk, jp, none⟩ (.string (dj[jp + 1]!).val)).drewN 1)) := Lib.hid fun W' h => HH.out.swap HZ2.out h hj1 hj0 1
            have HI2 : Hid (insInner (ltOf cf) a jp (swp dj (jp + 1) jp) = insInner (ltOf cf) a i dk) := Lib.hid (by rw [← HI.out, insInner_go _ _ _ _ hja hlv]; rfl)
            have HZ3 : Hid ((swp dj (jp + 1) jp).size = d0.size) := Lib.hid (by rw [swp_sz]; exact HZ2.out)
            have HLK : Hid (∀ W', SW encW w0 blk 0 dj W' → W'.cell? ⟨blk, jp + 1, none⟩ = some (.string (dj[jp + 1]!).val) ∧ W'.cell? ⟨blk, jp, none⟩ = some (.string (dj[jp]!).val) ∧ W'.frozen? ⟨blk, jp + 1, none⟩ = false ∧ W'.frozen? ⟨blk, jp, none⟩ = false) := Lib.hid fun W' h => ⟨HH.out.cell HZ2.out h hj1, HH.out.cell HZ2.out h hj0, HH.out.froz HZ2.out h hj1, HH.out.froz HZ2.out h hj0⟩
            have C1 := fun q os => (HLK.out _ (HS2.out.grown q os)).1
            have C0 := fun q os => (HLK.out _ (HS2.out.grown q os)).2.1
            generalize swp dj (jp + 1) jp = ds at *
            generalize cf dj[jp + 1]! dj[jp]! = cv at *
            generalize (dj[jp + 1]!).val = x1 at *
            generalize (dj[jp]!).val = x0 at *
            clear hlv HZ2 HOUT HI c0 c1 f0 f1
            go_wp2_with fail
            go_quiet_grown ((go_at_call 30; exact Calls.grown_of (HC.out _ _)))
            have HSB := Lib.hid (HS2.out.grown nq osq)
            generalize grow (wr.drewN nq) osq = WB at *
            obtain ⟨c1, c0, f1, f0⟩ := HLK.out WB HSB.out
            have HSC := Lib.hid (HSW.out WB HSB.out)
            clear HSW HLK C1 C0 HS2 HSB
            go_wp2_with fail
            go_region
            have HS3 : Hid (SW encW w0 blk 0 ds ((WB.setCell ⟨blk, jp + 1, none⟩ (.string x0)).setCell ⟨blk, jp, none⟩ (.string x1)).drew) := Lib.hid HSC.out
            generalize ((WB.setCell ⟨blk, jp + 1, none⟩ (.string x0)).setCell ⟨blk, jp, none⟩ (.string x1)).drew = W3 at *
            clear HSC HC c0 c1 f0 f1
            go_wp2
            go_roundw
            case rel => exact ⟨jp, ds, by go_num, by omega, by omega, HZ3, HS3, HI2⟩
            case measure => (simp [intOf] <;> omega)
          | false =>
            have hcv : ¬ cf dj[jp + 1]! dj[jp]! < 0 := of_decide_eq_false hlv
            have HOUT2 := Lib.hid (fun wv => HOUT.out wv (.inr hlv))
            have C1 := fun q os => HH.out.cell HZ2.out (HS2.out.grown q os) hj1
            have C0 := fun q os => HH.out.cell HZ2.out (HS2.out.grown q os) hj0
            generalize cf dj[jp + 1]! dj[jp]! = cv at *
            generalize (dj[jp + 1]!).val = x1 at *
            generalize (dj[jp]!).val = x0 at *
            clear hlv HOUT HI
            go_wp2_with fail
            go_quiet_grown ((go_at_call 30; exact Calls.grown_of (HC.out _ _)))
            have HS3 := Lib.hid (HS2.out.grown nq osq)
            generalize grow (wr.drewN nq) osq = W3 at *
            clear HC c0 c1 C0 C1 HS2
            go_wp2
            go_roundw
            case rel => exact ⟨i + 1, dj, by go_num, by omega, by omega, HZ2, (HOUT2.out _ HS3.out).1, (HOUT2.out _ HS3.out).2⟩
            case measure => (simp [intOf] <;> omega)
        · have hja' : ¬ (a : Int) < (j : Int) := by omega
          have HOUT2 := Lib.hid (fun wv => HOUT.out wv (.inl (by omega)))
          clear HOUT HI
          go_wp2_with fail
          go_quiet (fail)
          have HS3 := Lib.hid (HS2.out.drewN nq)
          generalize wr.drewN nq = W3 at *
          clear HS2
          go_wp2
          go_roundw
          case rel => exact ⟨i + 1, dj, by go_num, by omega, by omega, HZ2, (HOUT2.out _ HS3.out).1, (HOUT2.out _ HS3.out).2⟩
          case measure => (simp [intOf] <;> omega)
    · have hltz : ¬ (i : Int) < (b : Int) := by omega
      go_wp2
      go_end0
      refine ⟨rfl, Lib.hid ?_⟩
      have hO : dk = insOuter (ltOf cf) a b (a + 1) d := by rw [← HO.out, insOuter_stop _ _ _ _ _ hlt]
      unfold Sort.insertionSort
      rw [← hO]
      exact ⟨HS.out, HZ.out⟩
end Go.Proofs.Ytcdjahmnobjpkaa
