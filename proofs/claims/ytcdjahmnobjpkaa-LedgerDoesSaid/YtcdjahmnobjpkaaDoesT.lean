/- What is proved here: the law's 'texts' and 'same'; a ledger beside a row of the document's, and what each call makes of the two. -/
import Derived.Test.YtcdjahmnobjpkaaRefPut
import Derived.Test.YtcdjahmnobjpkaaRefSweep
namespace Go.Proofs.Ytcdjahmnobjpkaa
open Go Go.RowKit Go.Maps Go.WideMaps

set_option maxHeartbeats 1600000 in
set_option maxRecDepth 100000 in
theorem texts_true {w : World} {A B : Option Addr} {n ca cb : Nat} {xs : List En} (h1 : RowK w A n ca xs) (h2 : RowK w B n cb xs) :
    Calls Try.prog 16 #[.slice A n ca, .slice B n cb] w fun e w' => e = .returned (.bool true) ∧ Hid (Below w.heap.size w w') := by
  have H1 := Lib.hid h1
  have H2 := Lib.hid h2
  obtain ⟨g1, g2⟩ := h1.caps
  obtain ⟨g3, g4⟩ := h2.caps
  clear h1 h2
  go_enter Try.func16, Try.ntmps16
  go_wp2
  go_loopw [13] (fun iv wr => ∃ (j q : Nat), iv = .int .i64 j ∧ j ≤ n ∧ wr = w.drewN q) (fun iv _ => n - (intOf iv).toNat)
  case atStart => exact ⟨0, 0, rfl, Nat.zero_le _, rfl⟩
  case round =>
    obtain ⟨j, q, rfl, hjn, rfl⟩ := hrel
    by_cases hj : j < n
    · have hjz : (j : Int) < (n : Int) := by omega
      obtain ⟨b1, x, hx, hA, r1⟩ := H1.out.cell hj
      obtain ⟨b2, y, hy, hB, r2⟩ := H2.out.cell hj
      rw [hx] at hy
      obtain rfl := Option.some.inj hy
      subst hA hB
      have k1 : (w.drewN q).cell? ⟨b1, j, none⟩ = some (.string x.k) := r1
      have k2 : (w.drewN q).cell? ⟨b2, j, none⟩ = some (.string x.k) := r2
      generalize hW : w.drewN q = W at *
      have HW := Lib.hid hW
      clear hW hx hy r1 r2
      go_wp2_with fail
      go_quiet (fail)
      have HW2 : Hid (W.drewN nq = w.drewN (q + nq)) := Lib.hid (by rw [← HW.out]; simp [World.drewN, Nat.add_assoc])
      go_wp2
      go_roundw
      case rel => exact ⟨j + 1, q + nq, by go_num, by omega, HW2.out⟩
      case measure => simp [intOf]; omega
    · have hjz : ¬ (j : Int) < (n : Int) := by omega
      go_wp2
      go_ret
      exact ⟨rfl, Lib.hid ⟨rfl, rfl, rfl, Nat.le_refl _, fun _ _ => rfl⟩⟩

/-- What is asked of a ledger for one entry. -/
theorem ask_one {w0 wr : World} {l room : Nat} {L : List En} (h : LG w0 wr l room L) {j : Nat} {x : En} {v : Int} (hx : L[j]? = some x) (hv : x.v = .int .i64 v) {V : World} (hV : Below wr.heap.size wr V) :
    Calls Try.prog 26 #[.pointer (some ⟨l, 0, none⟩), .string x.k] V fun e w2 => e = .returned (.tuple #[.int .i64 v, .bool true]) ∧ Hid (Below V.heap.size V w2 ∧
      Calls Try.prog 25 #[.pointer (some ⟨l, 0, none⟩), .string x.k] w2 fun e w3 => e = .returned (.tuple #[.int .i64 x.t, .bool true]) ∧ Hid (Below V.heap.size V w3)) := by
  have hV1 := h.later hV
  have hok := h.1.ok
  have hm := List.mem_of_getElem? hx
  have hk := hok.wf x hm
  refine (hV1.get hk).mono ?_
  rintro e w2 ⟨rfl, h2⟩
  rw [findE_mem hok.srt hm]
  refine ⟨by unfold getE; simp [hv], Lib.hid ⟨h2.out.2, (h2.out.1.until hk).mono ?_⟩⟩
  rintro e w3 ⟨rfl, h3⟩
  rw [findE_mem hok.srt hm]
  exact ⟨rfl, Lib.hid (h2.out.2.trans (h3.out.2.mono h2.out.2.size))⟩
set_option maxHeartbeats 3200000 in
set_option maxRecDepth 100000 in
theorem same_true {w0 w : World} {l room base n c : Nat} {A : Option Addr} {L : List En} (h : LG w0 w l room L) (hr : RRow w base A n c L) (hn : n < 800000) :
    Calls Try.prog 19 #[.pointer (some ⟨l, 0, none⟩), .slice A n c] w fun e w' => e = .returned (.bool true) ∧ Hid (Below w.heap.size w w') := by
  have HG := Lib.hid h
  have HR := Lib.hid hr
  have hl := hr.len
  obtain ⟨g1, g2⟩ := hr.caps
  have HLN := Lib.hid hl
  have HK : Hid (Calls Try.prog 27 #[.pointer (some ⟨l, 0, none⟩)] w fun e w2 => ∃ A6 c6, e = .returned (.slice A6 n c6) ∧ Hid (RowK w2 A6 n c6 L ∧ Below w.heap.size w w2)) := Lib.hid (by
    refine (Keys_any h.1 (by omega)).mono ?_
    rintro e w2 ⟨A6, c6, rfl, ho, hb⟩
    rw [hl] at ho ⊢
    exact ⟨A6, c6, rfl, Lib.hid ⟨own_base ho (Nat.zero_le _), hb⟩⟩)
  have HLE : Hid (∀ w2, Below w.heap.size w w2 → Calls Try.prog 28 #[.pointer (some ⟨l, 0, none⟩)] w2 fun e w' => e = .returned (.int .i64 n) ∧ w2 = w') := Lib.hid fun w2 hb => by
    have := (h.later hb).len
    rwa [hl] at this
  clear h hr hl
  go_enter Try.func19, Try.ntmps19
  go_wp2_with (first
    | (go_at_call 27; refine HK.out.mono ?_; rintro e w2 ⟨A6, c6, rfl, HX⟩; clear HK)
    | (go_at_call 28; refine (HLE.out _ HX.out.2).mono ?_; rintro e w3 ⟨rfl, rfl⟩; clear HLE))
  obtain ⟨g3, g4⟩ := HX.out.1.caps
  go_loopw [28] (fun iv wr => ∃ (j : Nat), iv = .int .i64 j ∧ j ≤ n ∧ Hid (Below w2.heap.size w2 wr)) (fun iv _ => n - (intOf iv).toNat)
  case atStart => exact ⟨0, rfl, Nat.zero_le _, Lib.hid (Below.refl _ _)⟩
  case round =>
    obtain ⟨j, rfl, hjn, HB⟩ := hrel
    by_cases hj : j < n
    · have hjz : (j : Int) < (n : Int) := by omega
      obtain ⟨x, hx⟩ : ∃ x, L[j]? = some x := ⟨_, List.getElem?_eq_getElem (by rw [HLN.out]; exact hj)⟩
      have hbw : Below w.heap.size w wr := HX.out.2.trans (HB.out.mono HX.out.2.size)
      obtain ⟨b, v, hA, hv, r0, r1, r2⟩ := (HR.out.below hbw).cell hx
      obtain ⟨b6, x6, hx6, hA6, k0⟩ := (HX.out.1.below HB.out).cell hj
      rw [hx] at hx6
      obtain rfl := Option.some.inj hx6
      subst hA hA6
      obtain ⟨V, hV⟩ : ∃ V, V = wr.alloc (.cells #[.string x.k, .int .i64 v, .int .i64 x.t] 33) := ⟨_, rfl⟩
      have hbV : Below wr.heap.size wr V := by rw [hV]; exact (Below.refl _ _).alloc (Nat.le_refl _) _
      have v0 : V.cell? ⟨wr.heap.size, 0, none⟩ = some (.string x.k) := by rw [hV]; simp
      have v1 : V.cell? ⟨wr.heap.size, 1, none⟩ = some (.int .i64 v) := by rw [hV]; simp
      have v2 : V.cell? ⟨wr.heap.size, 2, none⟩ = some (.int .i64 x.t) := by rw [hV]; simp
      have hsz : wr.heap.size < V.heap.size := by rw [hV]; simp
      have HC := Lib.hid (ask_one (HG.out.later hbw) hx hv hbV)
      have HKP : Hid (∀ W, Below V.heap.size V W → W.cell? ⟨wr.heap.size, 0, none⟩ = some (.string x.k) ∧ W.cell? ⟨wr.heap.size, 1, none⟩ = some (.int .i64 v) ∧ W.cell? ⟨wr.heap.size, 2, none⟩ = some (.int .i64 x.t) ∧ W.cell? ⟨b6, j, none⟩ = some (.string x.k) ∧ Below w2.heap.size w2 W) := Lib.hid fun W hW => by
        have hb3 : Below wr.heap.size wr W := hbV.trans (hW.mono hbV.size)
        have hb4 : Below w2.heap.size w2 W := HB.out.trans (hb3.mono HB.out.size)
        refine ⟨(hW.cell (p := ⟨wr.heap.size, 0, none⟩) hsz).trans v0, (hW.cell (p := ⟨wr.heap.size, 1, none⟩) hsz).trans v1, (hW.cell (p := ⟨wr.heap.size, 2, none⟩) hsz).trans v2, ?_, hb4⟩
        obtain ⟨b7, x7, hx7, hA7, k7⟩ := (HX.out.1.below hb4).cell hj
        rw [hx] at hx7
        obtain rfl := Option.some.inj hx7
        obtain rfl : b6 = b7 := by simpa using hA7
        exact k7
      have HV := Lib.hid hV
      have hself : (x.k.toList == x.k.toList) = true := by simp
      clear hx hx6 hv hbw hbV hV hsz
      go_upto_region 7 with fail
      rw [← HV.out]
      clear r0 r1 r2 k0
      generalize wr.heap.size = bx at *
      go_upto_region 9 with (first
        | (go_at_call 26; refine HC.out.mono ?_; rintro e w4 ⟨rfl, HU⟩; obtain ⟨u0, u1, u2, _, _⟩ := HKP.out _ HU.out.1; clear HC v0 v1 v2)
        | (go_at_call 25; refine HU.out.2.mono ?_; rintro e w5 ⟨rfl, HB5⟩; obtain ⟨t0, t1, t2, t3, hbe⟩ := HKP.out _ HB5.out; have HBE := Lib.hid hbe; clear HU u0 u1 u2 hbe))
      go_quiet (fail)
      have HBF := Lib.hid (HBE.out.trans (Below.mono (w := w5) (w' := w5.drewN nq) (B := w5.heap.size) ⟨rfl, rfl, rfl, Nat.le_refl _, fun _ _ => rfl⟩ HBE.out.size))
      go_wp2
      go_roundw
      case rel => exact ⟨j + 1, by go_num, by omega, HBF⟩
      case measure => simp [intOf]; omega
    · have hjz : ¬ (j : Int) < (n : Int) := by omega
      have HE := Lib.hid (HX.out.2.trans (HB.out.mono HX.out.2.size))
      go_wp2
      go_ret
      exact ⟨rfl, HE⟩
end Go.Proofs.Ytcdjahmnobjpkaa
