/- What is proved here: 'WalBads' returns true at all arguments. -/
/- What is proved here: 'WalBads' returns true at all arguments; the variable that strconv's conversions read, and errors.errorType, start as the program's text lays them (tied). -/
import Derived.Test.YtnomicnmpllajaaGreatDoorPBa1
import Derived.Test.YtnomicnmpllajaaGreatDoorPFu9
import Derived.Test.YtnomicnmpllajaaGreatDoorTie
import Derived.Test.YtnomicnmpllajaaGreatDoorCards
import Derived.OpenShut
import Derived.ShutString
import Derived.Below
import Derived.SizedLaws
import Derived.Stop.Joined
import Derived.SevenTiedAt
section
namespace Go.Proofs.YtnomicnmpllajaaGreatDoor
open Go Go.RowKit
set_option linter.unusedVariables false
set_option maxHeartbeats 8000000 in
set_option maxRecDepth 100000 in
theorem walBads_any (kind size : Int) (w : World) (ht : Tab w) (hE : ErrType w) (hk0 : 0 ≤ kind ∧ kind < 256) :
    Calls Tryz.prog 7 #[.int .u8 kind, .int .i64 size] w fun e w' => e = .returned (.bool true) ∧ Below w.heap.size w w' := by
  have HH := Lib.hid (bads_head w)
  have HAW := Lib.hid fun (W : World) (hW : Below w.heap.size w W) => awake_any W (ht.below hW)
  have HSM := Lib.hid fun W => small_any size W
  have HAP := Lib.hid fun (S S' : List RF) (A1 : Option Addr) (c1 : Nat) (A2 : Option Addr) (c2 : Nat) (W : World) (h : BSt w (w.heap.size + 1) S A1 c1 A2 c2 W) => @BSt.append w W (w.heap.size + 1) c1 c2 S S' A1 A2 h
  have kc := fun (w : World) (C : Array Value) (n c : Nat) => Lib.run_convert_bytes_const (P := Tryz.prog) w 33 5 C n c Tryz.underlying33 Tryz.underlying5
  have HT := Lib.hid ht
  have HET := Lib.hid hE
  clear ht hE
  go_enter Tryz.func7, Tryz.ntmps7
  go_upto_region 5 with (first
    | (go_at_call 14; refine HH.out.mono ?_; rintro e w1 ⟨rfl, H1⟩; clear HH)
    | (go_at_call 32; refine H1.out.mono ?_; rintro e w2 ⟨A, c, rfl, H2⟩; clear H1)
    | (go_at_call 31; refine H2.out.mono ?_; rintro e w3 ⟨A1, c1, rfl, hc1, hc1m, H3⟩; clear H2))
  have hl := Rd.litF w3 .u8 5 [120] (1, 2) (by decide) 1 rfl #[.int .u8 120] rfl
  have HSE := Lib.hid (H3.out _ _ _ ((Below.refl w3.heap.size w3).alloc (Nat.le_refl _) _) hl)
  clear H3 hl
  go_upto_region 8 with (go_at_call 31; refine HSE.out.mono ?_; rintro e w4 ⟨A2, c2, rfl, hc2, hc2m, HB⟩; clear HSE)
  go_upto_region 13 with fail
  generalize hr : kind % 7 = r at *
  have h7 : r = 0 ∨ r = 1 ∨ r = 2 ∨ r = 3 ∨ r = 4 ∨ r = 5 ∨ r = 6 := by omega
  clear hr HAP
  rcases h7 with rfl | rfl | rfl | rfl | rfl | rfl | rfl
  · go_upto_region 34 with (first
      | (go_at_call 33; refine (HB.out.app1 (S := []) (S' := [⟨snapN, x2.take 3, 0⟩]) _ (by decide) 3 (by omega) (by decide) (by kernel_rfl)).mono ?_; rintro e wHX ⟨rfl, HX⟩))
    have HOPN : Hid (∀ n : Nat, 16 ≤ n → n ≤ 65536 → Calls Tryz.prog 15 #[.pointer (some ⟨w.heap.size + 1, 0, none⟩), .int .i64 n] wHX (NoOpen w ⟨#[115, 110, 97, 112]⟩ 3)) := Lib.hid fun n h1 h2 => open_0 h1 h2 HX.out.din
    have HARG : Hid (¬ (16 ≤ size ∧ size ≤ 65536) → Calls Tryz.prog 15 #[.pointer (some ⟨w.heap.size + 1, 0, none⟩), .int .i64 size] wHX (NoOpen w ⟨#[]⟩ 1)) := Lib.hid fun h => Open_arg HX.out.1 h
    clear HX HB
    by_cases hs : 16 ≤ size ∧ size ≤ 65536
    · rw [decide_eq_true hs] at HSM
      obtain ⟨n, rfl⟩ : ∃ n : Nat, size = n := ⟨size.toNat, by omega⟩
      have HO := Lib.hid (HOPN.out n (by omega) (by omega))
      clear HOPN HARG hs
      go_upto_region 37 with (first
        | (go_at_call 12; refine (HSM.out _).mono ?_; rintro e w6 ⟨rfl, rfl⟩)
        | (go_at_call 15; refine HO.out.mono ?_; rintro e w7 ⟨b, rfl, HBK, HB7⟩))
      go_upto_region 38 with fail
      have HAS := Lib.hid (As_self ⟨b, 0, none⟩ w7.heap.size (.pointer none) (w7.alloc (.cells #[.pointer none] 63)) (HET.out.below (HB7.out.alloc HB7.out.size _)) (Blk.fresh _ _ _))
      have HAS2 : Hid (∀ w8, (w7.alloc (.cells #[.pointer none] 63)).grownBy w8 (some w7.heap.size) → Blk w8 b 67 #[.string ⟨#[115, 110, 97, 112]⟩, .iface 49 (.int .i64 3)] ∧ Below w.heap.size w w8) := Lib.hid fun w8 hg => by
        have h1 := HBK.out.lt
        refine ⟨(hg.block b (by simp; omega) (fun e => by have := Option.some.inj e; omega)).trans (HBK.out.alloc _), ?_⟩
        exact (HB7.out.alloc HB7.out.size _).trans ((Chg.of_grown hg).below (by simp; have := HB7.out.size; omega) fun q e => by have := Option.some.inj e; have := HB7.out.size; omega)
      clear HO HSM
      go_upto_region 40 with (first
        | (go_at_call 34; refine HAS.out.mono ?_; rintro e w8 ⟨rfl, hgc, hgr⟩; obtain ⟨hk8, hb8⟩ := HAS2.out _ hgr; have HK8 := Lib.hid hk8; have HB8 := Lib.hid hb8; have HG8 := Lib.hid hgc; have g0 := hgc.cell 0; have k0 := hk8.cell 0; have k1 := hk8.cell 1; simp at g0 k0 k1; clear hgc hgr hk8 hb8)
        | (go_at_call 35; refine (isBad_any b 3 3 _ k1).mono ?_; rintro e w9 ⟨rfl, rfl⟩))
      go_upto_region 41 with fail
      obtain ⟨W9, hW9⟩ : ∃ W9, W9 = w9.alloc (.cells #[.string ⟨#[115, 110, 97, 112]⟩, .nilIface] 67) := ⟨_, rfl⟩
      rw [← hW9]
      have HB9 : Hid (Below w.heap.size w W9) := Lib.hid (by rw [hW9]; exact HB8.out.alloc HB8.out.size _)
      have HK9 : Hid (Blk W9 b 67 #[.string ⟨#[115, 110, 97, 112]⟩, .iface 49 (.int .i64 3)]) := Lib.hid (by rw [hW9]; exact HK8.out.alloc _)
      have HN9 : Hid (Blk W9 w9.heap.size 67 #[.string ⟨#[115, 110, 97, 112]⟩, .nilIface]) := Lib.hid (by rw [hW9]; exact Blk.fresh _ _ _)
      have HG9 : Hid (Blk W9 w7.heap.size 63 #[.pointer (some ⟨b, 0, none⟩)]) := Lib.hid (by rw [hW9]; exact HG8.out.alloc _)
      generalize w9.heap.size = q2 at *
      clear hW9 HAS HAS2 HBK HB7 HB8 HK8 HG8 g0 k0 k1
      have g9 := HG9.out.cell 0
      simp at g9
      have HL9 : Hid (∀ W, Below W9.heap.size W9 W → W.cell? ⟨w7.heap.size, 0, none⟩ = some (.pointer (some ⟨b, 0, none⟩)) ∧ Tab W ∧ Blk W b 67 #[.string ⟨#[115, 110, 97, 112]⟩, .iface 49 (.int .i64 3)] ∧ Blk W q2 67 #[.string ⟨#[115, 110, 97, 112]⟩, .nilIface] ∧ Below w.heap.size w W) := Lib.hid fun W hW => by
        have g := (HG9.out.below hW HG9.out.lt).cell 0
        simp at g
        exact ⟨g, HT.out.below (HB9.out.trans (hW.mono HB9.out.size)), HK9.out.below hW HK9.out.lt, HN9.out.below hW HN9.out.lt, HB9.out.trans (hW.mono HB9.out.size)⟩
      have HE1 : Hid (∀ W, Below W9.heap.size W9 W → Calls Tryz.prog 36 #[.pointer (some ⟨b, 0, none⟩)] W fun e w' => e = .returned (.string (⟨#[115, 110, 97, 112]⟩ ++ ByteArray.mk #[58, 32] ++ dText 3)) ∧ w'.cell? ⟨w7.heap.size, 0, none⟩ = some (.pointer (some ⟨b, 0, none⟩)) ∧ Hid (Below W9.heap.size W9 w')) := Lib.hid fun W hW => (badErr b ⟨#[115, 110, 97, 112]⟩ 3 (by omega) (by omega) W (HL9.out W hW).2.2.1 (by decide) (HL9.out W hW).2.1).mono fun e w' ⟨h1, h2⟩ => ⟨h1, (HL9.out w' (hW.trans (h2.mono hW.size))).1, Lib.hid (hW.trans (h2.mono hW.size))⟩
      have HE2 : Hid (∀ W, Below W9.heap.size W9 W → Calls Tryz.prog 37 #[.int .i64 3] W fun e w' => e = .returned (.string (dText 3)) ∧ w'.cell? ⟨w7.heap.size, 0, none⟩ = some (.pointer (some ⟨b, 0, none⟩)) ∧ Hid (Below W9.heap.size W9 w')) := Lib.hid fun W hW => (ErrnoError_any 3 W (by omega) (by omega) (HL9.out W hW).2.1).mono fun e w' ⟨h1, h2⟩ => ⟨h1, (HL9.out w' (hW.trans (h2.mono hW.size))).1, Lib.hid (hW.trans (h2.mono hW.size))⟩
      have HE3 : Hid (∀ W, Below W9.heap.size W9 W → Calls Tryz.prog 36 #[.pointer (some ⟨q2, 0, none⟩)] W fun e w' => e = .returned (.string (⟨#[115, 110, 97, 112]⟩ ++ ByteArray.mk #[58, 32])) ∧ Hid (Below W9.heap.size W9 w')) := Lib.hid fun W hW => (badErr0 q2 ⟨#[115, 110, 97, 112]⟩ W (HL9.out W hW).2.2.2.1 (by decide)).mono fun e w' ⟨h1, h2⟩ => ⟨h1, Lib.hid (hW.trans (h2.mono hW.size))⟩
      have HU1 : Hid (∀ W, Below W9.heap.size W9 W → Calls Tryz.prog 38 #[.pointer (some ⟨b, 0, none⟩)] W fun e w' => e = .returned (.iface 49 (.int .i64 3)) ∧ w' = W) := Lib.hid fun W hW => BadUnwrap_any b _ _ W (HL9.out W hW).2.2.1
      have HU2 : Hid (∀ W, Below W9.heap.size W9 W → Calls Tryz.prog 38 #[.pointer (some ⟨q2, 0, none⟩)] W fun e w' => e = .returned .nilIface ∧ w' = W) := Lib.hid fun W hW => BadUnwrap_any q2 _ _ W (HL9.out W hW).2.2.2.1
      have HR9 := Lib.hid (Below.refl W9.heap.size W9)
      have q3 : (⟨#[115, 110, 97, 112]⟩ : ByteArray).size ≤ 20 := by decide
      have q4 : (dText 3).size ≤ 31 := dText_size 3 (by omega) (by omega)
      have HAW9 : Hid (∀ W, Below W9.heap.size W9 W → Calls Tryz.prog 13 #[] W fun e w' => e = .returned (.bool true) ∧ Below w.heap.size w w') := Lib.hid fun W hW => (HAW.out W (HL9.out W hW).2.2.2.2).mono fun e w' ⟨h1, h2⟩ => ⟨h1, (HL9.out W hW).2.2.2.2.trans (h2.mono (HL9.out W hW).2.2.2.2.size)⟩
      clear HL9 HG9 HK9 HN9 HAW
      have q5 : ¬ 9223372036854775807 < (⟨#[115, 110, 97, 112]⟩ : ByteArray).size + 2 := by omega
      have q6 : ¬ 9223372036854775807 < (⟨#[115, 110, 97, 112]⟩ : ByteArray).size + 2 + (dText 3).size := by omega
      generalize dText 3 = T at *
      generalize w7.heap.size = q7 at *
      go_wp2_with (first
        | (go_at_call 36; refine (HE3.out _ HR11.out).mono ?_; rintro e w14 ⟨rfl, HR14⟩)
        | (go_at_call 36; refine (HE1.out _ HR9.out).mono ?_; rintro e w10 ⟨rfl, g10, HR10⟩)
        | (go_at_call 37; refine (HE2.out _ HR10.out).mono ?_; rintro e w11 ⟨rfl, g11, HR11⟩)
        | (go_at_call 38; refine (HU2.out _ HR14.out).mono ?_; rintro e w15 ⟨rfl, rfl⟩)
        | (go_at_call 38; refine (HU1.out _ HR11.out).mono ?_; rintro e w12 ⟨rfl, rfl⟩)
        | (go_at_call 35; refine (isNum_any 3 3 _).mono ?_; rintro e w13 ⟨rfl, rfl⟩)
        | (go_at_call 13; refine (HAW9.out _ HR14.out).mono ?_; rintro e w16 ⟨rfl, hb16⟩))
      go_ret
      exact ⟨rfl, hb16⟩
    · rw [decide_eq_false hs] at HSM
      have HO := Lib.hid (HARG.out hs)
      clear HOPN HARG hs
      go_upto_region 37 with (first
        | (go_at_call 12; refine (HSM.out _).mono ?_; rintro e w6 ⟨rfl, rfl⟩)
        | (go_at_call 15; refine HO.out.mono ?_; rintro e w7 ⟨b, rfl, HBK, HB7⟩))
      go_upto_region 38 with fail
      have HAS := Lib.hid (As_self ⟨b, 0, none⟩ w7.heap.size (.pointer none) (w7.alloc (.cells #[.pointer none] 63)) (HET.out.below (HB7.out.alloc HB7.out.size _)) (Blk.fresh _ _ _))
      have HAS2 : Hid (∀ w8, (w7.alloc (.cells #[.pointer none] 63)).grownBy w8 (some w7.heap.size) → Blk w8 b 67 #[.string ⟨#[]⟩, .iface 49 (.int .i64 1)] ∧ Below w.heap.size w w8) := Lib.hid fun w8 hg => by
        have h1 := HBK.out.lt
        refine ⟨(hg.block b (by simp; omega) (fun e => by have := Option.some.inj e; omega)).trans (HBK.out.alloc _), ?_⟩
        exact (HB7.out.alloc HB7.out.size _).trans ((Chg.of_grown hg).below (by simp; have := HB7.out.size; omega) fun q e => by have := Option.some.inj e; have := HB7.out.size; omega)
      clear HO HSM
      go_upto_region 40 with (first
        | (go_at_call 34; refine HAS.out.mono ?_; rintro e w8 ⟨rfl, hgc, hgr⟩; obtain ⟨hk8, hb8⟩ := HAS2.out _ hgr; have HK8 := Lib.hid hk8; have HB8 := Lib.hid hb8; have HG8 := Lib.hid hgc; have g0 := hgc.cell 0; have k0 := hk8.cell 0; have k1 := hk8.cell 1; simp at g0 k0 k1; clear hgc hgr hk8 hb8)
        | (go_at_call 35; refine (isBad_any b 1 1 _ k1).mono ?_; rintro e w9 ⟨rfl, rfl⟩))
      go_upto_region 41 with fail
      obtain ⟨W9, hW9⟩ : ∃ W9, W9 = w9.alloc (.cells #[.string ⟨#[]⟩, .nilIface] 67) := ⟨_, rfl⟩
      rw [← hW9]
      have HB9 : Hid (Below w.heap.size w W9) := Lib.hid (by rw [hW9]; exact HB8.out.alloc HB8.out.size _)
      have HK9 : Hid (Blk W9 b 67 #[.string ⟨#[]⟩, .iface 49 (.int .i64 1)]) := Lib.hid (by rw [hW9]; exact HK8.out.alloc _)
      have HN9 : Hid (Blk W9 w9.heap.size 67 #[.string ⟨#[]⟩, .nilIface]) := Lib.hid (by rw [hW9]; exact Blk.fresh _ _ _)
      have HG9 : Hid (Blk W9 w7.heap.size 63 #[.pointer (some ⟨b, 0, none⟩)]) := Lib.hid (by rw [hW9]; exact HG8.out.alloc _)
      generalize w9.heap.size = q2 at *
      clear hW9 HAS HAS2 HBK HB7 HB8 HK8 HG8 g0 k0 k1
      have g9 := HG9.out.cell 0
      simp at g9
      have HL9 : Hid (∀ W, Below W9.heap.size W9 W → W.cell? ⟨w7.heap.size, 0, none⟩ = some (.pointer (some ⟨b, 0, none⟩)) ∧ Tab W ∧ Blk W b 67 #[.string ⟨#[]⟩, .iface 49 (.int .i64 1)] ∧ Blk W q2 67 #[.string ⟨#[]⟩, .nilIface] ∧ Below w.heap.size w W) := Lib.hid fun W hW => by
        have g := (HG9.out.below hW HG9.out.lt).cell 0
        simp at g
        exact ⟨g, HT.out.below (HB9.out.trans (hW.mono HB9.out.size)), HK9.out.below hW HK9.out.lt, HN9.out.below hW HN9.out.lt, HB9.out.trans (hW.mono HB9.out.size)⟩
      have HE1 : Hid (∀ W, Below W9.heap.size W9 W → Calls Tryz.prog 36 #[.pointer (some ⟨b, 0, none⟩)] W fun e w' => e = .returned (.string (⟨#[]⟩ ++ ByteArray.mk #[58, 32] ++ dText 1)) ∧ w'.cell? ⟨w7.heap.size, 0, none⟩ = some (.pointer (some ⟨b, 0, none⟩)) ∧ Hid (Below W9.heap.size W9 w')) := Lib.hid fun W hW => (badErr b ⟨#[]⟩ 1 (by omega) (by omega) W (HL9.out W hW).2.2.1 (by decide) (HL9.out W hW).2.1).mono fun e w' ⟨h1, h2⟩ => ⟨h1, (HL9.out w' (hW.trans (h2.mono hW.size))).1, Lib.hid (hW.trans (h2.mono hW.size))⟩
      have HE2 : Hid (∀ W, Below W9.heap.size W9 W → Calls Tryz.prog 37 #[.int .i64 1] W fun e w' => e = .returned (.string (dText 1)) ∧ w'.cell? ⟨w7.heap.size, 0, none⟩ = some (.pointer (some ⟨b, 0, none⟩)) ∧ Hid (Below W9.heap.size W9 w')) := Lib.hid fun W hW => (ErrnoError_any 1 W (by omega) (by omega) (HL9.out W hW).2.1).mono fun e w' ⟨h1, h2⟩ => ⟨h1, (HL9.out w' (hW.trans (h2.mono hW.size))).1, Lib.hid (hW.trans (h2.mono hW.size))⟩
      have HE3 : Hid (∀ W, Below W9.heap.size W9 W → Calls Tryz.prog 36 #[.pointer (some ⟨q2, 0, none⟩)] W fun e w' => e = .returned (.string (⟨#[]⟩ ++ ByteArray.mk #[58, 32])) ∧ Hid (Below W9.heap.size W9 w')) := Lib.hid fun W hW => (badErr0 q2 ⟨#[]⟩ W (HL9.out W hW).2.2.2.1 (by decide)).mono fun e w' ⟨h1, h2⟩ => ⟨h1, Lib.hid (hW.trans (h2.mono hW.size))⟩
      have HU1 : Hid (∀ W, Below W9.heap.size W9 W → Calls Tryz.prog 38 #[.pointer (some ⟨b, 0, none⟩)] W fun e w' => e = .returned (.iface 49 (.int .i64 1)) ∧ w' = W) := Lib.hid fun W hW => BadUnwrap_any b _ _ W (HL9.out W hW).2.2.1
      have HU2 : Hid (∀ W, Below W9.heap.size W9 W → Calls Tryz.prog 38 #[.pointer (some ⟨q2, 0, none⟩)] W fun e w' => e = .returned .nilIface ∧ w' = W) := Lib.hid fun W hW => BadUnwrap_any q2 _ _ W (HL9.out W hW).2.2.2.1
      have HR9 := Lib.hid (Below.refl W9.heap.size W9)
      have q3 : (⟨#[]⟩ : ByteArray).size ≤ 20 := by decide
      have q4 : (dText 1).size ≤ 31 := dText_size 1 (by omega) (by omega)
      have HAW9 : Hid (∀ W, Below W9.heap.size W9 W → Calls Tryz.prog 13 #[] W fun e w' => e = .returned (.bool true) ∧ Below w.heap.size w w') := Lib.hid fun W hW => (HAW.out W (HL9.out W hW).2.2.2.2).mono fun e w' ⟨h1, h2⟩ => ⟨h1, (HL9.out W hW).2.2.2.2.trans (h2.mono (HL9.out W hW).2.2.2.2.size)⟩
      clear HL9 HG9 HK9 HN9 HAW
      have q5 : ¬ 9223372036854775807 < (⟨#[]⟩ : ByteArray).size + 2 := by omega
      have q6 : ¬ 9223372036854775807 < (⟨#[]⟩ : ByteArray).size + 2 + (dText 1).size := by omega
      generalize dText 1 = T at *
      generalize w7.heap.size = q7 at *
      go_wp2_with (first
        | (go_at_call 36; refine (HE3.out _ HR11.out).mono ?_; rintro e w14 ⟨rfl, HR14⟩)
        | (go_at_call 36; refine (HE1.out _ HR9.out).mono ?_; rintro e w10 ⟨rfl, g10, HR10⟩)
        | (go_at_call 37; refine (HE2.out _ HR10.out).mono ?_; rintro e w11 ⟨rfl, g11, HR11⟩)
        | (go_at_call 38; refine (HU2.out _ HR14.out).mono ?_; rintro e w15 ⟨rfl, rfl⟩)
        | (go_at_call 38; refine (HU1.out _ HR11.out).mono ?_; rintro e w12 ⟨rfl, rfl⟩)
        | (go_at_call 35; refine (isNum_any 1 1 _).mono ?_; rintro e w13 ⟨rfl, rfl⟩)
        | (go_at_call 13; refine (HAW9.out _ HR14.out).mono ?_; rintro e w16 ⟨rfl, hb16⟩))
      go_ret
      exact ⟨rfl, hb16⟩
  · go_upto_region 18 with fail
    have HRA := Lib.hid (show Rd w4 w4.heap.size .u8 A1 7 c1 x2 from HB.out.row1)
    obtain ⟨i0, hi, hz0, hz1, hz2⟩ := info_parts info_u8
    have HO0 := Lib.hid (fun (V : World) => World.ownsRow_lit (e := 5) (size := 1) V #[] 0 (Nat.le_refl _) (by decide) rfl)
    have HAP := Lib.hid (fun (V : World) (A : Option Addr) (c : Nat) (hV : Below w4.heap.size w4 V) (hr : Rd V V.heap.size .u8 A 8 c (x2 ++ [1])) => (HB.out.later hV).append (S' := [⟨snapN, x2 ++ [1], 0⟩]) (⟨#[115, 110, 97, 112]⟩) (by decide) hr (by decide) (by decide) (by kernel_rfl))
    have HSZ : Hid (∀ (V : World) (o : Obj), V.heap.size ≤ (V.alloc o).heap.size) := Lib.hid fun V o => by simp
    have HLT : Hid (∀ (V : World) (ad : Addr), some (⟨V.heap.size, 0, none⟩ : Addr) = some ad → ∀ (j : Nat) (u : Value), [Value.int .u8 1][j]? = some u → (V.alloc (.cells #[Value.int .u8 1] 5)).cell? (ad.add j) = some u) := Lib.hid fun V ad e j u hu => by
      cases e
      rcases j with _ | j
      · simp at hu
        subst hu
        rw [Addr.add_lit]
        simp
      · simp at hu
    have HXL : Hid ((List.map (Value.int .u8) x2).length = 7 * 1) := Lib.hid (by decide)
    go_upto_region 34 with (first
      | (at_builtin; refine wpList_append_src (o := ⟨some 57, _, _, _, _, _⟩) rfl _ _ 33 rfl w4.heap.size 5 i0 _ 1 1 Tryz.underlying33 hi hz0 hz1 hz2 rfl ?_ _ 7 _ rfl (HO2.out _) (some ⟨w5.heap.size, 0, none⟩) 1 1 [Value.int .u8 1] rfl rfl ?_ ?_ ?_ ?_ ?_ ?_ ?_; omega; (intro e; cases e); exact HLT.out w5; (intro u hu; simp at hu; subst hu; rfl); (unfold maxLen; omega); omega; exact Nat.le_trans hz5 (HSZ.out _ _); intro v3 w6 hown3 hg3; have hb6 : Below w4.heap.size w4 w6 := (HB5.out.alloc HB5.out.size _).grown hg3 (Nat.le_trans hz5 (HSZ.out _ _)) (fun k hk => ((HO2.out (.cells #[] 0)).lt k hk).1); obtain ⟨A3, c3, rfl, hr3⟩ := Rd.of_own (n := 8) (xs := x2 ++ [1]) (k := .u8) (by simpa using hown3); have HAP6 := Lib.hid (HAP.out w6 A3 c3 hb6 hr3); have hr3c := hr3.cap; have hr3m := hr3.max; unfold maxLen at hr3m; clear hown3 hg3 hb6 hr3 HAP HO2 HB5)
      | (at_builtin; refine wpList_append_src (o := ⟨some 55, _, _, _, _, _⟩) rfl _ _ 33 rfl w4.heap.size 5 i0 _ 1 1 Tryz.underlying33 hi hz0 hz1 hz2 rfl (by omega) _ 0 [] rfl (HO0.out w4) A1 7 c1 (List.map (Value.int .u8) x2) rfl HXL.out HRA.out.nil (HRA.out.below ((Below.refl w4.heap.size w4).alloc (Nat.le_refl _) _)).news (ints_oneCell _ _) (by unfold maxLen; omega) (by omega) (by simp) ?_; intro v2 w5 hown2 hg2; have HB5 : Hid (Below w4.heap.size w4 w5) := Lib.hid (((Below.refl w4.heap.size w4).alloc (Nat.le_refl _) _).grown hg2 (by simp) (fun k hk => ((HO0.out w4).lt k hk).1)); have HO2 : Hid (∀ o, (w5.alloc o).ownsRow w4.heap.size 5 1 v2 7 (List.map (Value.int .u8) x2)) := Lib.hid (fun o => ((show w5.ownsRow w4.heap.size 5 1 v2 7 (List.map (Value.int .u8) x2) from hown2).alloc o)); have hz5 := HB5.out.size; clear hown2 hg2 HO0)
      | (go_at_call 33; refine HAP6.out.mono ?_; rintro e wHX ⟨rfl, HX⟩))
    have HOPN : Hid (∀ n : Nat, 16 ≤ n → n ≤ 65536 → Calls Tryz.prog 15 #[.pointer (some ⟨w.heap.size + 1, 0, none⟩), .int .i64 n] wHX (NoOpen w ⟨#[115, 110, 97, 112]⟩ 2)) := Lib.hid fun n h1 h2 => open_1 h1 h2 HX.out.din
    have HARG : Hid (¬ (16 ≤ size ∧ size ≤ 65536) → Calls Tryz.prog 15 #[.pointer (some ⟨w.heap.size + 1, 0, none⟩), .int .i64 size] wHX (NoOpen w ⟨#[]⟩ 1)) := Lib.hid fun h => Open_arg HX.out.1 h
    clear HX HB
    by_cases hs : 16 ≤ size ∧ size ≤ 65536
    · rw [decide_eq_true hs] at HSM
      obtain ⟨n, rfl⟩ : ∃ n : Nat, size = n := ⟨size.toNat, by omega⟩
      have HO := Lib.hid (HOPN.out n (by omega) (by omega))
      clear HOPN HARG hs
      go_upto_region 37 with (first
        | (go_at_call 12; refine (HSM.out _).mono ?_; rintro e w6 ⟨rfl, rfl⟩)
        | (go_at_call 15; refine HO.out.mono ?_; rintro e w7 ⟨b, rfl, HBK, HB7⟩))
      go_upto_region 38 with fail
      have HAS := Lib.hid (As_self ⟨b, 0, none⟩ w7.heap.size (.pointer none) (w7.alloc (.cells #[.pointer none] 63)) (HET.out.below (HB7.out.alloc HB7.out.size _)) (Blk.fresh _ _ _))
      have HAS2 : Hid (∀ w8, (w7.alloc (.cells #[.pointer none] 63)).grownBy w8 (some w7.heap.size) → Blk w8 b 67 #[.string ⟨#[115, 110, 97, 112]⟩, .iface 49 (.int .i64 2)] ∧ Below w.heap.size w w8) := Lib.hid fun w8 hg => by
        have h1 := HBK.out.lt
        refine ⟨(hg.block b (by simp; omega) (fun e => by have := Option.some.inj e; omega)).trans (HBK.out.alloc _), ?_⟩
        exact (HB7.out.alloc HB7.out.size _).trans ((Chg.of_grown hg).below (by simp; have := HB7.out.size; omega) fun q e => by have := Option.some.inj e; have := HB7.out.size; omega)
      clear HO HSM
      go_upto_region 40 with (first
        | (go_at_call 34; refine HAS.out.mono ?_; rintro e w8 ⟨rfl, hgc, hgr⟩; obtain ⟨hk8, hb8⟩ := HAS2.out _ hgr; have HK8 := Lib.hid hk8; have HB8 := Lib.hid hb8; have HG8 := Lib.hid hgc; have g0 := hgc.cell 0; have k0 := hk8.cell 0; have k1 := hk8.cell 1; simp at g0 k0 k1; clear hgc hgr hk8 hb8)
        | (go_at_call 35; refine (isBad_any b 2 2 _ k1).mono ?_; rintro e w9 ⟨rfl, rfl⟩))
      go_upto_region 41 with fail
      obtain ⟨W9, hW9⟩ : ∃ W9, W9 = w9.alloc (.cells #[.string ⟨#[115, 110, 97, 112]⟩, .nilIface] 67) := ⟨_, rfl⟩
      rw [← hW9]
      have HB9 : Hid (Below w.heap.size w W9) := Lib.hid (by rw [hW9]; exact HB8.out.alloc HB8.out.size _)
      have HK9 : Hid (Blk W9 b 67 #[.string ⟨#[115, 110, 97, 112]⟩, .iface 49 (.int .i64 2)]) := Lib.hid (by rw [hW9]; exact HK8.out.alloc _)
      have HN9 : Hid (Blk W9 w9.heap.size 67 #[.string ⟨#[115, 110, 97, 112]⟩, .nilIface]) := Lib.hid (by rw [hW9]; exact Blk.fresh _ _ _)
      have HG9 : Hid (Blk W9 w7.heap.size 63 #[.pointer (some ⟨b, 0, none⟩)]) := Lib.hid (by rw [hW9]; exact HG8.out.alloc _)
      generalize w9.heap.size = q2 at *
      clear hW9 HAS HAS2 HBK HB7 HB8 HK8 HG8 g0 k0 k1
      have g9 := HG9.out.cell 0
      simp at g9
      have HL9 : Hid (∀ W, Below W9.heap.size W9 W → W.cell? ⟨w7.heap.size, 0, none⟩ = some (.pointer (some ⟨b, 0, none⟩)) ∧ Tab W ∧ Blk W b 67 #[.string ⟨#[115, 110, 97, 112]⟩, .iface 49 (.int .i64 2)] ∧ Blk W q2 67 #[.string ⟨#[115, 110, 97, 112]⟩, .nilIface] ∧ Below w.heap.size w W) := Lib.hid fun W hW => by
        have g := (HG9.out.below hW HG9.out.lt).cell 0
        simp at g
        exact ⟨g, HT.out.below (HB9.out.trans (hW.mono HB9.out.size)), HK9.out.below hW HK9.out.lt, HN9.out.below hW HN9.out.lt, HB9.out.trans (hW.mono HB9.out.size)⟩
      have HE1 : Hid (∀ W, Below W9.heap.size W9 W → Calls Tryz.prog 36 #[.pointer (some ⟨b, 0, none⟩)] W fun e w' => e = .returned (.string (⟨#[115, 110, 97, 112]⟩ ++ ByteArray.mk #[58, 32] ++ dText 2)) ∧ w'.cell? ⟨w7.heap.size, 0, none⟩ = some (.pointer (some ⟨b, 0, none⟩)) ∧ Hid (Below W9.heap.size W9 w')) := Lib.hid fun W hW => (badErr b ⟨#[115, 110, 97, 112]⟩ 2 (by omega) (by omega) W (HL9.out W hW).2.2.1 (by decide) (HL9.out W hW).2.1).mono fun e w' ⟨h1, h2⟩ => ⟨h1, (HL9.out w' (hW.trans (h2.mono hW.size))).1, Lib.hid (hW.trans (h2.mono hW.size))⟩
      have HE2 : Hid (∀ W, Below W9.heap.size W9 W → Calls Tryz.prog 37 #[.int .i64 2] W fun e w' => e = .returned (.string (dText 2)) ∧ w'.cell? ⟨w7.heap.size, 0, none⟩ = some (.pointer (some ⟨b, 0, none⟩)) ∧ Hid (Below W9.heap.size W9 w')) := Lib.hid fun W hW => (ErrnoError_any 2 W (by omega) (by omega) (HL9.out W hW).2.1).mono fun e w' ⟨h1, h2⟩ => ⟨h1, (HL9.out w' (hW.trans (h2.mono hW.size))).1, Lib.hid (hW.trans (h2.mono hW.size))⟩
      have HE3 : Hid (∀ W, Below W9.heap.size W9 W → Calls Tryz.prog 36 #[.pointer (some ⟨q2, 0, none⟩)] W fun e w' => e = .returned (.string (⟨#[115, 110, 97, 112]⟩ ++ ByteArray.mk #[58, 32])) ∧ Hid (Below W9.heap.size W9 w')) := Lib.hid fun W hW => (badErr0 q2 ⟨#[115, 110, 97, 112]⟩ W (HL9.out W hW).2.2.2.1 (by decide)).mono fun e w' ⟨h1, h2⟩ => ⟨h1, Lib.hid (hW.trans (h2.mono hW.size))⟩
      have HU1 : Hid (∀ W, Below W9.heap.size W9 W → Calls Tryz.prog 38 #[.pointer (some ⟨b, 0, none⟩)] W fun e w' => e = .returned (.iface 49 (.int .i64 2)) ∧ w' = W) := Lib.hid fun W hW => BadUnwrap_any b _ _ W (HL9.out W hW).2.2.1
      have HU2 : Hid (∀ W, Below W9.heap.size W9 W → Calls Tryz.prog 38 #[.pointer (some ⟨q2, 0, none⟩)] W fun e w' => e = .returned .nilIface ∧ w' = W) := Lib.hid fun W hW => BadUnwrap_any q2 _ _ W (HL9.out W hW).2.2.2.1
      have HR9 := Lib.hid (Below.refl W9.heap.size W9)
      have q3 : (⟨#[115, 110, 97, 112]⟩ : ByteArray).size ≤ 20 := by decide
      have q4 : (dText 2).size ≤ 31 := dText_size 2 (by omega) (by omega)
      have HAW9 : Hid (∀ W, Below W9.heap.size W9 W → Calls Tryz.prog 13 #[] W fun e w' => e = .returned (.bool true) ∧ Below w.heap.size w w') := Lib.hid fun W hW => (HAW.out W (HL9.out W hW).2.2.2.2).mono fun e w' ⟨h1, h2⟩ => ⟨h1, (HL9.out W hW).2.2.2.2.trans (h2.mono (HL9.out W hW).2.2.2.2.size)⟩
      clear HL9 HG9 HK9 HN9 HAW
      have q5 : ¬ 9223372036854775807 < (⟨#[115, 110, 97, 112]⟩ : ByteArray).size + 2 := by omega
      have q6 : ¬ 9223372036854775807 < (⟨#[115, 110, 97, 112]⟩ : ByteArray).size + 2 + (dText 2).size := by omega
      generalize dText 2 = T at *
      generalize w7.heap.size = q7 at *
      go_wp2_with (first
        | (go_at_call 36; refine (HE3.out _ HR11.out).mono ?_; rintro e w14 ⟨rfl, HR14⟩)
        | (go_at_call 36; refine (HE1.out _ HR9.out).mono ?_; rintro e w10 ⟨rfl, g10, HR10⟩)
        | (go_at_call 37; refine (HE2.out _ HR10.out).mono ?_; rintro e w11 ⟨rfl, g11, HR11⟩)
        | (go_at_call 38; refine (HU2.out _ HR14.out).mono ?_; rintro e w15 ⟨rfl, rfl⟩)
        | (go_at_call 38; refine (HU1.out _ HR11.out).mono ?_; rintro e w12 ⟨rfl, rfl⟩)
        | (go_at_call 35; refine (isNum_any 2 2 _).mono ?_; rintro e w13 ⟨rfl, rfl⟩)
        | (go_at_call 13; refine (HAW9.out _ HR14.out).mono ?_; rintro e w16 ⟨rfl, hb16⟩))
      go_ret
      exact ⟨rfl, hb16⟩
    · rw [decide_eq_false hs] at HSM
      have HO := Lib.hid (HARG.out hs)
      clear HOPN HARG hs
      go_upto_region 37 with (first
        | (go_at_call 12; refine (HSM.out _).mono ?_; rintro e w6 ⟨rfl, rfl⟩)
        | (go_at_call 15; refine HO.out.mono ?_; rintro e w7 ⟨b, rfl, HBK, HB7⟩))
      go_upto_region 38 with fail
      have HAS := Lib.hid (As_self ⟨b, 0, none⟩ w7.heap.size (.pointer none) (w7.alloc (.cells #[.pointer none] 63)) (HET.out.below (HB7.out.alloc HB7.out.size _)) (Blk.fresh _ _ _))
      have HAS2 : Hid (∀ w8, (w7.alloc (.cells #[.pointer none] 63)).grownBy w8 (some w7.heap.size) → Blk w8 b 67 #[.string ⟨#[]⟩, .iface 49 (.int .i64 1)] ∧ Below w.heap.size w w8) := Lib.hid fun w8 hg => by
        have h1 := HBK.out.lt
        refine ⟨(hg.block b (by simp; omega) (fun e => by have := Option.some.inj e; omega)).trans (HBK.out.alloc _), ?_⟩
        exact (HB7.out.alloc HB7.out.size _).trans ((Chg.of_grown hg).below (by simp; have := HB7.out.size; omega) fun q e => by have := Option.some.inj e; have := HB7.out.size; omega)
      clear HO HSM
      go_upto_region 40 with (first
        | (go_at_call 34; refine HAS.out.mono ?_; rintro e w8 ⟨rfl, hgc, hgr⟩; obtain ⟨hk8, hb8⟩ := HAS2.out _ hgr; have HK8 := Lib.hid hk8; have HB8 := Lib.hid hb8; have HG8 := Lib.hid hgc; have g0 := hgc.cell 0; have k0 := hk8.cell 0; have k1 := hk8.cell 1; simp at g0 k0 k1; clear hgc hgr hk8 hb8)
        | (go_at_call 35; refine (isBad_any b 1 1 _ k1).mono ?_; rintro e w9 ⟨rfl, rfl⟩))
      go_upto_region 41 with fail
      obtain ⟨W9, hW9⟩ : ∃ W9, W9 = w9.alloc (.cells #[.string ⟨#[]⟩, .nilIface] 67) := ⟨_, rfl⟩
      rw [← hW9]
      have HB9 : Hid (Below w.heap.size w W9) := Lib.hid (by rw [hW9]; exact HB8.out.alloc HB8.out.size _)
      have HK9 : Hid (Blk W9 b 67 #[.string ⟨#[]⟩, .iface 49 (.int .i64 1)]) := Lib.hid (by rw [hW9]; exact HK8.out.alloc _)
      have HN9 : Hid (Blk W9 w9.heap.size 67 #[.string ⟨#[]⟩, .nilIface]) := Lib.hid (by rw [hW9]; exact Blk.fresh _ _ _)
      have HG9 : Hid (Blk W9 w7.heap.size 63 #[.pointer (some ⟨b, 0, none⟩)]) := Lib.hid (by rw [hW9]; exact HG8.out.alloc _)
      generalize w9.heap.size = q2 at *
      clear hW9 HAS HAS2 HBK HB7 HB8 HK8 HG8 g0 k0 k1
      have g9 := HG9.out.cell 0
      simp at g9
      have HL9 : Hid (∀ W, Below W9.heap.size W9 W → W.cell? ⟨w7.heap.size, 0, none⟩ = some (.pointer (some ⟨b, 0, none⟩)) ∧ Tab W ∧ Blk W b 67 #[.string ⟨#[]⟩, .iface 49 (.int .i64 1)] ∧ Blk W q2 67 #[.string ⟨#[]⟩, .nilIface] ∧ Below w.heap.size w W) := Lib.hid fun W hW => by
        have g := (HG9.out.below hW HG9.out.lt).cell 0
        simp at g
        exact ⟨g, HT.out.below (HB9.out.trans (hW.mono HB9.out.size)), HK9.out.below hW HK9.out.lt, HN9.out.below hW HN9.out.lt, HB9.out.trans (hW.mono HB9.out.size)⟩
      have HE1 : Hid (∀ W, Below W9.heap.size W9 W → Calls Tryz.prog 36 #[.pointer (some ⟨b, 0, none⟩)] W fun e w' => e = .returned (.string (⟨#[]⟩ ++ ByteArray.mk #[58, 32] ++ dText 1)) ∧ w'.cell? ⟨w7.heap.size, 0, none⟩ = some (.pointer (some ⟨b, 0, none⟩)) ∧ Hid (Below W9.heap.size W9 w')) := Lib.hid fun W hW => (badErr b ⟨#[]⟩ 1 (by omega) (by omega) W (HL9.out W hW).2.2.1 (by decide) (HL9.out W hW).2.1).mono fun e w' ⟨h1, h2⟩ => ⟨h1, (HL9.out w' (hW.trans (h2.mono hW.size))).1, Lib.hid (hW.trans (h2.mono hW.size))⟩
      have HE2 : Hid (∀ W, Below W9.heap.size W9 W → Calls Tryz.prog 37 #[.int .i64 1] W fun e w' => e = .returned (.string (dText 1)) ∧ w'.cell? ⟨w7.heap.size, 0, none⟩ = some (.pointer (some ⟨b, 0, none⟩)) ∧ Hid (Below W9.heap.size W9 w')) := Lib.hid fun W hW => (ErrnoError_any 1 W (by omega) (by omega) (HL9.out W hW).2.1).mono fun e w' ⟨h1, h2⟩ => ⟨h1, (HL9.out w' (hW.trans (h2.mono hW.size))).1, Lib.hid (hW.trans (h2.mono hW.size))⟩
      have HE3 : Hid (∀ W, Below W9.heap.size W9 W → Calls Tryz.prog 36 #[.pointer (some ⟨q2, 0, none⟩)] W fun e w' => e = .returned (.string (⟨#[]⟩ ++ ByteArray.mk #[58, 32])) ∧ Hid (Below W9.heap.size W9 w')) := Lib.hid fun W hW => (badErr0 q2 ⟨#[]⟩ W (HL9.out W hW).2.2.2.1 (by decide)).mono fun e w' ⟨h1, h2⟩ => ⟨h1, Lib.hid (hW.trans (h2.mono hW.size))⟩
      have HU1 : Hid (∀ W, Below W9.heap.size W9 W → Calls Tryz.prog 38 #[.pointer (some ⟨b, 0, none⟩)] W fun e w' => e = .returned (.iface 49 (.int .i64 1)) ∧ w' = W) := Lib.hid fun W hW => BadUnwrap_any b _ _ W (HL9.out W hW).2.2.1
      have HU2 : Hid (∀ W, Below W9.heap.size W9 W → Calls Tryz.prog 38 #[.pointer (some ⟨q2, 0, none⟩)] W fun e w' => e = .returned .nilIface ∧ w' = W) := Lib.hid fun W hW => BadUnwrap_any q2 _ _ W (HL9.out W hW).2.2.2.1
      have HR9 := Lib.hid (Below.refl W9.heap.size W9)
      have q3 : (⟨#[]⟩ : ByteArray).size ≤ 20 := by decide
      have q4 : (dText 1).size ≤ 31 := dText_size 1 (by omega) (by omega)
      have HAW9 : Hid (∀ W, Below W9.heap.size W9 W → Calls Tryz.prog 13 #[] W fun e w' => e = .returned (.bool true) ∧ Below w.heap.size w w') := Lib.hid fun W hW => (HAW.out W (HL9.out W hW).2.2.2.2).mono fun e w' ⟨h1, h2⟩ => ⟨h1, (HL9.out W hW).2.2.2.2.trans (h2.mono (HL9.out W hW).2.2.2.2.size)⟩
      clear HL9 HG9 HK9 HN9 HAW
      have q5 : ¬ 9223372036854775807 < (⟨#[]⟩ : ByteArray).size + 2 := by omega
      have q6 : ¬ 9223372036854775807 < (⟨#[]⟩ : ByteArray).size + 2 + (dText 1).size := by omega
      generalize dText 1 = T at *
      generalize w7.heap.size = q7 at *
      go_wp2_with (first
        | (go_at_call 36; refine (HE3.out _ HR11.out).mono ?_; rintro e w14 ⟨rfl, HR14⟩)
        | (go_at_call 36; refine (HE1.out _ HR9.out).mono ?_; rintro e w10 ⟨rfl, g10, HR10⟩)
        | (go_at_call 37; refine (HE2.out _ HR10.out).mono ?_; rintro e w11 ⟨rfl, g11, HR11⟩)
        | (go_at_call 38; refine (HU2.out _ HR14.out).mono ?_; rintro e w15 ⟨rfl, rfl⟩)
        | (go_at_call 38; refine (HU1.out _ HR11.out).mono ?_; rintro e w12 ⟨rfl, rfl⟩)
        | (go_at_call 35; refine (isNum_any 1 1 _).mono ?_; rintro e w13 ⟨rfl, rfl⟩)
        | (go_at_call 13; refine (HAW9.out _ HR14.out).mono ?_; rintro e w16 ⟨rfl, hb16⟩))
      go_ret
      exact ⟨rfl, hb16⟩
  · go_upto_region 34 with (first
      | (go_at_call 33; refine (HY.out.app2 (S := [⟨snapN, x2, 0⟩]) (S' := [⟨segName 5, xB, 0⟩, ⟨snapN, x2, 0⟩]) _ (by decide) (by decide) (by kernel_rfl)).mono ?_; rintro e wHX ⟨rfl, HX⟩)
      | (go_at_call 33; refine (HB.out.app1 (S := []) (S' := [⟨snapN, x2, 0⟩]) _ (by decide) 7 (by omega) (by decide) (by kernel_rfl)).mono ?_; rintro e wHY ⟨rfl, HY⟩))
    have HOPN : Hid (∀ n : Nat, 16 ≤ n → n ≤ 65536 → Calls Tryz.prog 15 #[.pointer (some ⟨w.heap.size + 1, 0, none⟩), .int .i64 n] wHX (NoOpen w ⟨#[108, 111, 103, 48, 48, 48, 48, 48, 48, 48, 53]⟩ 2)) := Lib.hid fun n h1 h2 => (show nameS 5 = ⟨#[108, 111, 103, 48, 48, 48, 48, 48, 48, 48, 53]⟩ by kernel_rfl) ▸ open_2 h1 h2 HX.out.din
    have HARG : Hid (¬ (16 ≤ size ∧ size ≤ 65536) → Calls Tryz.prog 15 #[.pointer (some ⟨w.heap.size + 1, 0, none⟩), .int .i64 size] wHX (NoOpen w ⟨#[]⟩ 1)) := Lib.hid fun h => Open_arg HX.out.1 h
    clear HX HB
    by_cases hs : 16 ≤ size ∧ size ≤ 65536
    · rw [decide_eq_true hs] at HSM
      obtain ⟨n, rfl⟩ : ∃ n : Nat, size = n := ⟨size.toNat, by omega⟩
      have HO := Lib.hid (HOPN.out n (by omega) (by omega))
      clear HOPN HARG hs
      go_upto_region 37 with (first
        | (go_at_call 12; refine (HSM.out _).mono ?_; rintro e w6 ⟨rfl, rfl⟩)
        | (go_at_call 15; refine HO.out.mono ?_; rintro e w7 ⟨b, rfl, HBK, HB7⟩))
      go_upto_region 38 with fail
      have HAS := Lib.hid (As_self ⟨b, 0, none⟩ w7.heap.size (.pointer none) (w7.alloc (.cells #[.pointer none] 63)) (HET.out.below (HB7.out.alloc HB7.out.size _)) (Blk.fresh _ _ _))
      have HAS2 : Hid (∀ w8, (w7.alloc (.cells #[.pointer none] 63)).grownBy w8 (some w7.heap.size) → Blk w8 b 67 #[.string ⟨#[108, 111, 103, 48, 48, 48, 48, 48, 48, 48, 53]⟩, .iface 49 (.int .i64 2)] ∧ Below w.heap.size w w8) := Lib.hid fun w8 hg => by
        have h1 := HBK.out.lt
        refine ⟨(hg.block b (by simp; omega) (fun e => by have := Option.some.inj e; omega)).trans (HBK.out.alloc _), ?_⟩
        exact (HB7.out.alloc HB7.out.size _).trans ((Chg.of_grown hg).below (by simp; have := HB7.out.size; omega) fun q e => by have := Option.some.inj e; have := HB7.out.size; omega)
      clear HO HSM
      go_upto_region 40 with (first
        | (go_at_call 34; refine HAS.out.mono ?_; rintro e w8 ⟨rfl, hgc, hgr⟩; obtain ⟨hk8, hb8⟩ := HAS2.out _ hgr; have HK8 := Lib.hid hk8; have HB8 := Lib.hid hb8; have HG8 := Lib.hid hgc; have g0 := hgc.cell 0; have k0 := hk8.cell 0; have k1 := hk8.cell 1; simp at g0 k0 k1; clear hgc hgr hk8 hb8)
        | (go_at_call 35; refine (isBad_any b 2 2 _ k1).mono ?_; rintro e w9 ⟨rfl, rfl⟩))
      go_upto_region 41 with fail
      obtain ⟨W9, hW9⟩ : ∃ W9, W9 = w9.alloc (.cells #[.string ⟨#[108, 111, 103, 48, 48, 48, 48, 48, 48, 48, 53]⟩, .nilIface] 67) := ⟨_, rfl⟩
      rw [← hW9]
      have HB9 : Hid (Below w.heap.size w W9) := Lib.hid (by rw [hW9]; exact HB8.out.alloc HB8.out.size _)
      have HK9 : Hid (Blk W9 b 67 #[.string ⟨#[108, 111, 103, 48, 48, 48, 48, 48, 48, 48, 53]⟩, .iface 49 (.int .i64 2)]) := Lib.hid (by rw [hW9]; exact HK8.out.alloc _)
      have HN9 : Hid (Blk W9 w9.heap.size 67 #[.string ⟨#[108, 111, 103, 48, 48, 48, 48, 48, 48, 48, 53]⟩, .nilIface]) := Lib.hid (by rw [hW9]; exact Blk.fresh _ _ _)
      have HG9 : Hid (Blk W9 w7.heap.size 63 #[.pointer (some ⟨b, 0, none⟩)]) := Lib.hid (by rw [hW9]; exact HG8.out.alloc _)
      generalize w9.heap.size = q2 at *
      clear hW9 HAS HAS2 HBK HB7 HB8 HK8 HG8 g0 k0 k1
      have g9 := HG9.out.cell 0
      simp at g9
      have HL9 : Hid (∀ W, Below W9.heap.size W9 W → W.cell? ⟨w7.heap.size, 0, none⟩ = some (.pointer (some ⟨b, 0, none⟩)) ∧ Tab W ∧ Blk W b 67 #[.string ⟨#[108, 111, 103, 48, 48, 48, 48, 48, 48, 48, 53]⟩, .iface 49 (.int .i64 2)] ∧ Blk W q2 67 #[.string ⟨#[108, 111, 103, 48, 48, 48, 48, 48, 48, 48, 53]⟩, .nilIface] ∧ Below w.heap.size w W) := Lib.hid fun W hW => by
        have g := (HG9.out.below hW HG9.out.lt).cell 0
        simp at g
        exact ⟨g, HT.out.below (HB9.out.trans (hW.mono HB9.out.size)), HK9.out.below hW HK9.out.lt, HN9.out.below hW HN9.out.lt, HB9.out.trans (hW.mono HB9.out.size)⟩
      have HE1 : Hid (∀ W, Below W9.heap.size W9 W → Calls Tryz.prog 36 #[.pointer (some ⟨b, 0, none⟩)] W fun e w' => e = .returned (.string (⟨#[108, 111, 103, 48, 48, 48, 48, 48, 48, 48, 53]⟩ ++ ByteArray.mk #[58, 32] ++ dText 2)) ∧ w'.cell? ⟨w7.heap.size, 0, none⟩ = some (.pointer (some ⟨b, 0, none⟩)) ∧ Hid (Below W9.heap.size W9 w')) := Lib.hid fun W hW => (badErr b ⟨#[108, 111, 103, 48, 48, 48, 48, 48, 48, 48, 53]⟩ 2 (by omega) (by omega) W (HL9.out W hW).2.2.1 (by decide) (HL9.out W hW).2.1).mono fun e w' ⟨h1, h2⟩ => ⟨h1, (HL9.out w' (hW.trans (h2.mono hW.size))).1, Lib.hid (hW.trans (h2.mono hW.size))⟩
      have HE2 : Hid (∀ W, Below W9.heap.size W9 W → Calls Tryz.prog 37 #[.int .i64 2] W fun e w' => e = .returned (.string (dText 2)) ∧ w'.cell? ⟨w7.heap.size, 0, none⟩ = some (.pointer (some ⟨b, 0, none⟩)) ∧ Hid (Below W9.heap.size W9 w')) := Lib.hid fun W hW => (ErrnoError_any 2 W (by omega) (by omega) (HL9.out W hW).2.1).mono fun e w' ⟨h1, h2⟩ => ⟨h1, (HL9.out w' (hW.trans (h2.mono hW.size))).1, Lib.hid (hW.trans (h2.mono hW.size))⟩
      have HE3 : Hid (∀ W, Below W9.heap.size W9 W → Calls Tryz.prog 36 #[.pointer (some ⟨q2, 0, none⟩)] W fun e w' => e = .returned (.string (⟨#[108, 111, 103, 48, 48, 48, 48, 48, 48, 48, 53]⟩ ++ ByteArray.mk #[58, 32])) ∧ Hid (Below W9.heap.size W9 w')) := Lib.hid fun W hW => (badErr0 q2 ⟨#[108, 111, 103, 48, 48, 48, 48, 48, 48, 48, 53]⟩ W (HL9.out W hW).2.2.2.1 (by decide)).mono fun e w' ⟨h1, h2⟩ => ⟨h1, Lib.hid (hW.trans (h2.mono hW.size))⟩
      have HU1 : Hid (∀ W, Below W9.heap.size W9 W → Calls Tryz.prog 38 #[.pointer (some ⟨b, 0, none⟩)] W fun e w' => e = .returned (.iface 49 (.int .i64 2)) ∧ w' = W) := Lib.hid fun W hW => BadUnwrap_any b _ _ W (HL9.out W hW).2.2.1
      have HU2 : Hid (∀ W, Below W9.heap.size W9 W → Calls Tryz.prog 38 #[.pointer (some ⟨q2, 0, none⟩)] W fun e w' => e = .returned .nilIface ∧ w' = W) := Lib.hid fun W hW => BadUnwrap_any q2 _ _ W (HL9.out W hW).2.2.2.1
      have HR9 := Lib.hid (Below.refl W9.heap.size W9)
      have q3 : (⟨#[108, 111, 103, 48, 48, 48, 48, 48, 48, 48, 53]⟩ : ByteArray).size ≤ 20 := by decide
      have q4 : (dText 2).size ≤ 31 := dText_size 2 (by omega) (by omega)
      have HAW9 : Hid (∀ W, Below W9.heap.size W9 W → Calls Tryz.prog 13 #[] W fun e w' => e = .returned (.bool true) ∧ Below w.heap.size w w') := Lib.hid fun W hW => (HAW.out W (HL9.out W hW).2.2.2.2).mono fun e w' ⟨h1, h2⟩ => ⟨h1, (HL9.out W hW).2.2.2.2.trans (h2.mono (HL9.out W hW).2.2.2.2.size)⟩
      clear HL9 HG9 HK9 HN9 HAW
      have q5 : ¬ 9223372036854775807 < (⟨#[108, 111, 103, 48, 48, 48, 48, 48, 48, 48, 53]⟩ : ByteArray).size + 2 := by omega
      have q6 : ¬ 9223372036854775807 < (⟨#[108, 111, 103, 48, 48, 48, 48, 48, 48, 48, 53]⟩ : ByteArray).size + 2 + (dText 2).size := by omega
      generalize dText 2 = T at *
      generalize w7.heap.size = q7 at *
      go_wp2_with (first
        | (go_at_call 36; refine (HE3.out _ HR11.out).mono ?_; rintro e w14 ⟨rfl, HR14⟩)
        | (go_at_call 36; refine (HE1.out _ HR9.out).mono ?_; rintro e w10 ⟨rfl, g10, HR10⟩)
        | (go_at_call 37; refine (HE2.out _ HR10.out).mono ?_; rintro e w11 ⟨rfl, g11, HR11⟩)
        | (go_at_call 38; refine (HU2.out _ HR14.out).mono ?_; rintro e w15 ⟨rfl, rfl⟩)
        | (go_at_call 38; refine (HU1.out _ HR11.out).mono ?_; rintro e w12 ⟨rfl, rfl⟩)
        | (go_at_call 35; refine (isNum_any 2 2 _).mono ?_; rintro e w13 ⟨rfl, rfl⟩)
        | (go_at_call 13; refine (HAW9.out _ HR14.out).mono ?_; rintro e w16 ⟨rfl, hb16⟩))
      go_ret
      exact ⟨rfl, hb16⟩
    · rw [decide_eq_false hs] at HSM
      have HO := Lib.hid (HARG.out hs)
      clear HOPN HARG hs
      go_upto_region 37 with (first
        | (go_at_call 12; refine (HSM.out _).mono ?_; rintro e w6 ⟨rfl, rfl⟩)
        | (go_at_call 15; refine HO.out.mono ?_; rintro e w7 ⟨b, rfl, HBK, HB7⟩))
      go_upto_region 38 with fail
      have HAS := Lib.hid (As_self ⟨b, 0, none⟩ w7.heap.size (.pointer none) (w7.alloc (.cells #[.pointer none] 63)) (HET.out.below (HB7.out.alloc HB7.out.size _)) (Blk.fresh _ _ _))
      have HAS2 : Hid (∀ w8, (w7.alloc (.cells #[.pointer none] 63)).grownBy w8 (some w7.heap.size) → Blk w8 b 67 #[.string ⟨#[]⟩, .iface 49 (.int .i64 1)] ∧ Below w.heap.size w w8) := Lib.hid fun w8 hg => by
        have h1 := HBK.out.lt
        refine ⟨(hg.block b (by simp; omega) (fun e => by have := Option.some.inj e; omega)).trans (HBK.out.alloc _), ?_⟩
        exact (HB7.out.alloc HB7.out.size _).trans ((Chg.of_grown hg).below (by simp; have := HB7.out.size; omega) fun q e => by have := Option.some.inj e; have := HB7.out.size; omega)
      clear HO HSM
      go_upto_region 40 with (first
        | (go_at_call 34; refine HAS.out.mono ?_; rintro e w8 ⟨rfl, hgc, hgr⟩; obtain ⟨hk8, hb8⟩ := HAS2.out _ hgr; have HK8 := Lib.hid hk8; have HB8 := Lib.hid hb8; have HG8 := Lib.hid hgc; have g0 := hgc.cell 0; have k0 := hk8.cell 0; have k1 := hk8.cell 1; simp at g0 k0 k1; clear hgc hgr hk8 hb8)
        | (go_at_call 35; refine (isBad_any b 1 1 _ k1).mono ?_; rintro e w9 ⟨rfl, rfl⟩))
      go_upto_region 41 with fail
      obtain ⟨W9, hW9⟩ : ∃ W9, W9 = w9.alloc (.cells #[.string ⟨#[]⟩, .nilIface] 67) := ⟨_, rfl⟩
      rw [← hW9]
      have HB9 : Hid (Below w.heap.size w W9) := Lib.hid (by rw [hW9]; exact HB8.out.alloc HB8.out.size _)
      have HK9 : Hid (Blk W9 b 67 #[.string ⟨#[]⟩, .iface 49 (.int .i64 1)]) := Lib.hid (by rw [hW9]; exact HK8.out.alloc _)
      have HN9 : Hid (Blk W9 w9.heap.size 67 #[.string ⟨#[]⟩, .nilIface]) := Lib.hid (by rw [hW9]; exact Blk.fresh _ _ _)
      have HG9 : Hid (Blk W9 w7.heap.size 63 #[.pointer (some ⟨b, 0, none⟩)]) := Lib.hid (by rw [hW9]; exact HG8.out.alloc _)
      generalize w9.heap.size = q2 at *
      clear hW9 HAS HAS2 HBK HB7 HB8 HK8 HG8 g0 k0 k1
      have g9 := HG9.out.cell 0
      simp at g9
      have HL9 : Hid (∀ W, Below W9.heap.size W9 W → W.cell? ⟨w7.heap.size, 0, none⟩ = some (.pointer (some ⟨b, 0, none⟩)) ∧ Tab W ∧ Blk W b 67 #[.string ⟨#[]⟩, .iface 49 (.int .i64 1)] ∧ Blk W q2 67 #[.string ⟨#[]⟩, .nilIface] ∧ Below w.heap.size w W) := Lib.hid fun W hW => by
        have g := (HG9.out.below hW HG9.out.lt).cell 0
        simp at g
        exact ⟨g, HT.out.below (HB9.out.trans (hW.mono HB9.out.size)), HK9.out.below hW HK9.out.lt, HN9.out.below hW HN9.out.lt, HB9.out.trans (hW.mono HB9.out.size)⟩
      have HE1 : Hid (∀ W, Below W9.heap.size W9 W → Calls Tryz.prog 36 #[.pointer (some ⟨b, 0, none⟩)] W fun e w' => e = .returned (.string (⟨#[]⟩ ++ ByteArray.mk #[58, 32] ++ dText 1)) ∧ w'.cell? ⟨w7.heap.size, 0, none⟩ = some (.pointer (some ⟨b, 0, none⟩)) ∧ Hid (Below W9.heap.size W9 w')) := Lib.hid fun W hW => (badErr b ⟨#[]⟩ 1 (by omega) (by omega) W (HL9.out W hW).2.2.1 (by decide) (HL9.out W hW).2.1).mono fun e w' ⟨h1, h2⟩ => ⟨h1, (HL9.out w' (hW.trans (h2.mono hW.size))).1, Lib.hid (hW.trans (h2.mono hW.size))⟩
      have HE2 : Hid (∀ W, Below W9.heap.size W9 W → Calls Tryz.prog 37 #[.int .i64 1] W fun e w' => e = .returned (.string (dText 1)) ∧ w'.cell? ⟨w7.heap.size, 0, none⟩ = some (.pointer (some ⟨b, 0, none⟩)) ∧ Hid (Below W9.heap.size W9 w')) := Lib.hid fun W hW => (ErrnoError_any 1 W (by omega) (by omega) (HL9.out W hW).2.1).mono fun e w' ⟨h1, h2⟩ => ⟨h1, (HL9.out w' (hW.trans (h2.mono hW.size))).1, Lib.hid (hW.trans (h2.mono hW.size))⟩
      have HE3 : Hid (∀ W, Below W9.heap.size W9 W → Calls Tryz.prog 36 #[.pointer (some ⟨q2, 0, none⟩)] W fun e w' => e = .returned (.string (⟨#[]⟩ ++ ByteArray.mk #[58, 32])) ∧ Hid (Below W9.heap.size W9 w')) := Lib.hid fun W hW => (badErr0 q2 ⟨#[]⟩ W (HL9.out W hW).2.2.2.1 (by decide)).mono fun e w' ⟨h1, h2⟩ => ⟨h1, Lib.hid (hW.trans (h2.mono hW.size))⟩
      have HU1 : Hid (∀ W, Below W9.heap.size W9 W → Calls Tryz.prog 38 #[.pointer (some ⟨b, 0, none⟩)] W fun e w' => e = .returned (.iface 49 (.int .i64 1)) ∧ w' = W) := Lib.hid fun W hW => BadUnwrap_any b _ _ W (HL9.out W hW).2.2.1
      have HU2 : Hid (∀ W, Below W9.heap.size W9 W → Calls Tryz.prog 38 #[.pointer (some ⟨q2, 0, none⟩)] W fun e w' => e = .returned .nilIface ∧ w' = W) := Lib.hid fun W hW => BadUnwrap_any q2 _ _ W (HL9.out W hW).2.2.2.1
      have HR9 := Lib.hid (Below.refl W9.heap.size W9)
      have q3 : (⟨#[]⟩ : ByteArray).size ≤ 20 := by decide
      have q4 : (dText 1).size ≤ 31 := dText_size 1 (by omega) (by omega)
      have HAW9 : Hid (∀ W, Below W9.heap.size W9 W → Calls Tryz.prog 13 #[] W fun e w' => e = .returned (.bool true) ∧ Below w.heap.size w w') := Lib.hid fun W hW => (HAW.out W (HL9.out W hW).2.2.2.2).mono fun e w' ⟨h1, h2⟩ => ⟨h1, (HL9.out W hW).2.2.2.2.trans (h2.mono (HL9.out W hW).2.2.2.2.size)⟩
      clear HL9 HG9 HK9 HN9 HAW
      have q5 : ¬ 9223372036854775807 < (⟨#[]⟩ : ByteArray).size + 2 := by omega
      have q6 : ¬ 9223372036854775807 < (⟨#[]⟩ : ByteArray).size + 2 + (dText 1).size := by omega
      generalize dText 1 = T at *
      generalize w7.heap.size = q7 at *
      go_wp2_with (first
        | (go_at_call 36; refine (HE3.out _ HR11.out).mono ?_; rintro e w14 ⟨rfl, HR14⟩)
        | (go_at_call 36; refine (HE1.out _ HR9.out).mono ?_; rintro e w10 ⟨rfl, g10, HR10⟩)
        | (go_at_call 37; refine (HE2.out _ HR10.out).mono ?_; rintro e w11 ⟨rfl, g11, HR11⟩)
        | (go_at_call 38; refine (HU2.out _ HR14.out).mono ?_; rintro e w15 ⟨rfl, rfl⟩)
        | (go_at_call 38; refine (HU1.out _ HR11.out).mono ?_; rintro e w12 ⟨rfl, rfl⟩)
        | (go_at_call 35; refine (isNum_any 1 1 _).mono ?_; rintro e w13 ⟨rfl, rfl⟩)
        | (go_at_call 13; refine (HAW9.out _ HR14.out).mono ?_; rintro e w16 ⟨rfl, hb16⟩))
      go_ret
      exact ⟨rfl, hb16⟩
  · go_upto_region 34 with (first
      | (go_at_call 33; refine (HB.out.app2 (S := []) (S' := [⟨lg7, xB, 0⟩]) _ (by decide) (by decide) (by kernel_rfl)).mono ?_; rintro e wHX ⟨rfl, HX⟩))
    have HOPN : Hid (∀ n : Nat, 16 ≤ n → n ≤ 65536 → Calls Tryz.prog 15 #[.pointer (some ⟨w.heap.size + 1, 0, none⟩), .int .i64 n] wHX (NoOpen w ⟨#[108, 111, 103, 48, 48, 48, 48, 48, 48, 49]⟩ 2)) := Lib.hid fun n h1 h2 => open_3 h1 h2 HX.out.din
    have HARG : Hid (¬ (16 ≤ size ∧ size ≤ 65536) → Calls Tryz.prog 15 #[.pointer (some ⟨w.heap.size + 1, 0, none⟩), .int .i64 size] wHX (NoOpen w ⟨#[]⟩ 1)) := Lib.hid fun h => Open_arg HX.out.1 h
    clear HX HB
    by_cases hs : 16 ≤ size ∧ size ≤ 65536
    · rw [decide_eq_true hs] at HSM
      obtain ⟨n, rfl⟩ : ∃ n : Nat, size = n := ⟨size.toNat, by omega⟩
      have HO := Lib.hid (HOPN.out n (by omega) (by omega))
      clear HOPN HARG hs
      go_upto_region 37 with (first
        | (go_at_call 12; refine (HSM.out _).mono ?_; rintro e w6 ⟨rfl, rfl⟩)
        | (go_at_call 15; refine HO.out.mono ?_; rintro e w7 ⟨b, rfl, HBK, HB7⟩))
      go_upto_region 38 with fail
      have HAS := Lib.hid (As_self ⟨b, 0, none⟩ w7.heap.size (.pointer none) (w7.alloc (.cells #[.pointer none] 63)) (HET.out.below (HB7.out.alloc HB7.out.size _)) (Blk.fresh _ _ _))
      have HAS2 : Hid (∀ w8, (w7.alloc (.cells #[.pointer none] 63)).grownBy w8 (some w7.heap.size) → Blk w8 b 67 #[.string ⟨#[108, 111, 103, 48, 48, 48, 48, 48, 48, 49]⟩, .iface 49 (.int .i64 2)] ∧ Below w.heap.size w w8) := Lib.hid fun w8 hg => by
        have h1 := HBK.out.lt
        refine ⟨(hg.block b (by simp; omega) (fun e => by have := Option.some.inj e; omega)).trans (HBK.out.alloc _), ?_⟩
        exact (HB7.out.alloc HB7.out.size _).trans ((Chg.of_grown hg).below (by simp; have := HB7.out.size; omega) fun q e => by have := Option.some.inj e; have := HB7.out.size; omega)
      clear HO HSM
      go_upto_region 40 with (first
        | (go_at_call 34; refine HAS.out.mono ?_; rintro e w8 ⟨rfl, hgc, hgr⟩; obtain ⟨hk8, hb8⟩ := HAS2.out _ hgr; have HK8 := Lib.hid hk8; have HB8 := Lib.hid hb8; have HG8 := Lib.hid hgc; have g0 := hgc.cell 0; have k0 := hk8.cell 0; have k1 := hk8.cell 1; simp at g0 k0 k1; clear hgc hgr hk8 hb8)
        | (go_at_call 35; refine (isBad_any b 2 2 _ k1).mono ?_; rintro e w9 ⟨rfl, rfl⟩))
      go_upto_region 41 with fail
      obtain ⟨W9, hW9⟩ : ∃ W9, W9 = w9.alloc (.cells #[.string ⟨#[108, 111, 103, 48, 48, 48, 48, 48, 48, 49]⟩, .nilIface] 67) := ⟨_, rfl⟩
      rw [← hW9]
      have HB9 : Hid (Below w.heap.size w W9) := Lib.hid (by rw [hW9]; exact HB8.out.alloc HB8.out.size _)
      have HK9 : Hid (Blk W9 b 67 #[.string ⟨#[108, 111, 103, 48, 48, 48, 48, 48, 48, 49]⟩, .iface 49 (.int .i64 2)]) := Lib.hid (by rw [hW9]; exact HK8.out.alloc _)
      have HN9 : Hid (Blk W9 w9.heap.size 67 #[.string ⟨#[108, 111, 103, 48, 48, 48, 48, 48, 48, 49]⟩, .nilIface]) := Lib.hid (by rw [hW9]; exact Blk.fresh _ _ _)
      have HG9 : Hid (Blk W9 w7.heap.size 63 #[.pointer (some ⟨b, 0, none⟩)]) := Lib.hid (by rw [hW9]; exact HG8.out.alloc _)
      generalize w9.heap.size = q2 at *
      clear hW9 HAS HAS2 HBK HB7 HB8 HK8 HG8 g0 k0 k1
      have g9 := HG9.out.cell 0
      simp at g9
      have HL9 : Hid (∀ W, Below W9.heap.size W9 W → W.cell? ⟨w7.heap.size, 0, none⟩ = some (.pointer (some ⟨b, 0, none⟩)) ∧ Tab W ∧ Blk W b 67 #[.string ⟨#[108, 111, 103, 48, 48, 48, 48, 48, 48, 49]⟩, .iface 49 (.int .i64 2)] ∧ Blk W q2 67 #[.string ⟨#[108, 111, 103, 48, 48, 48, 48, 48, 48, 49]⟩, .nilIface] ∧ Below w.heap.size w W) := Lib.hid fun W hW => by
        have g := (HG9.out.below hW HG9.out.lt).cell 0
        simp at g
        exact ⟨g, HT.out.below (HB9.out.trans (hW.mono HB9.out.size)), HK9.out.below hW HK9.out.lt, HN9.out.below hW HN9.out.lt, HB9.out.trans (hW.mono HB9.out.size)⟩
      have HE1 : Hid (∀ W, Below W9.heap.size W9 W → Calls Tryz.prog 36 #[.pointer (some ⟨b, 0, none⟩)] W fun e w' => e = .returned (.string (⟨#[108, 111, 103, 48, 48, 48, 48, 48, 48, 49]⟩ ++ ByteArray.mk #[58, 32] ++ dText 2)) ∧ w'.cell? ⟨w7.heap.size, 0, none⟩ = some (.pointer (some ⟨b, 0, none⟩)) ∧ Hid (Below W9.heap.size W9 w')) := Lib.hid fun W hW => (badErr b ⟨#[108, 111, 103, 48, 48, 48, 48, 48, 48, 49]⟩ 2 (by omega) (by omega) W (HL9.out W hW).2.2.1 (by decide) (HL9.out W hW).2.1).mono fun e w' ⟨h1, h2⟩ => ⟨h1, (HL9.out w' (hW.trans (h2.mono hW.size))).1, Lib.hid (hW.trans (h2.mono hW.size))⟩
      have HE2 : Hid (∀ W, Below W9.heap.size W9 W → Calls Tryz.prog 37 #[.int .i64 2] W fun e w' => e = .returned (.string (dText 2)) ∧ w'.cell? ⟨w7.heap.size, 0, none⟩ = some (.pointer (some ⟨b, 0, none⟩)) ∧ Hid (Below W9.heap.size W9 w')) := Lib.hid fun W hW => (ErrnoError_any 2 W (by omega) (by omega) (HL9.out W hW).2.1).mono fun e w' ⟨h1, h2⟩ => ⟨h1, (HL9.out w' (hW.trans (h2.mono hW.size))).1, Lib.hid (hW.trans (h2.mono hW.size))⟩
      have HE3 : Hid (∀ W, Below W9.heap.size W9 W → Calls Tryz.prog 36 #[.pointer (some ⟨q2, 0, none⟩)] W fun e w' => e = .returned (.string (⟨#[108, 111, 103, 48, 48, 48, 48, 48, 48, 49]⟩ ++ ByteArray.mk #[58, 32])) ∧ Hid (Below W9.heap.size W9 w')) := Lib.hid fun W hW => (badErr0 q2 ⟨#[108, 111, 103, 48, 48, 48, 48, 48, 48, 49]⟩ W (HL9.out W hW).2.2.2.1 (by decide)).mono fun e w' ⟨h1, h2⟩ => ⟨h1, Lib.hid (hW.trans (h2.mono hW.size))⟩
      have HU1 : Hid (∀ W, Below W9.heap.size W9 W → Calls Tryz.prog 38 #[.pointer (some ⟨b, 0, none⟩)] W fun e w' => e = .returned (.iface 49 (.int .i64 2)) ∧ w' = W) := Lib.hid fun W hW => BadUnwrap_any b _ _ W (HL9.out W hW).2.2.1
      have HU2 : Hid (∀ W, Below W9.heap.size W9 W → Calls Tryz.prog 38 #[.pointer (some ⟨q2, 0, none⟩)] W fun e w' => e = .returned .nilIface ∧ w' = W) := Lib.hid fun W hW => BadUnwrap_any q2 _ _ W (HL9.out W hW).2.2.2.1
      have HR9 := Lib.hid (Below.refl W9.heap.size W9)
      have q3 : (⟨#[108, 111, 103, 48, 48, 48, 48, 48, 48, 49]⟩ : ByteArray).size ≤ 20 := by decide
      have q4 : (dText 2).size ≤ 31 := dText_size 2 (by omega) (by omega)
      have HAW9 : Hid (∀ W, Below W9.heap.size W9 W → Calls Tryz.prog 13 #[] W fun e w' => e = .returned (.bool true) ∧ Below w.heap.size w w') := Lib.hid fun W hW => (HAW.out W (HL9.out W hW).2.2.2.2).mono fun e w' ⟨h1, h2⟩ => ⟨h1, (HL9.out W hW).2.2.2.2.trans (h2.mono (HL9.out W hW).2.2.2.2.size)⟩
      clear HL9 HG9 HK9 HN9 HAW
      have q5 : ¬ 9223372036854775807 < (⟨#[108, 111, 103, 48, 48, 48, 48, 48, 48, 49]⟩ : ByteArray).size + 2 := by omega
      have q6 : ¬ 9223372036854775807 < (⟨#[108, 111, 103, 48, 48, 48, 48, 48, 48, 49]⟩ : ByteArray).size + 2 + (dText 2).size := by omega
      generalize dText 2 = T at *
      generalize w7.heap.size = q7 at *
      go_wp2_with (first
        | (go_at_call 36; refine (HE3.out _ HR11.out).mono ?_; rintro e w14 ⟨rfl, HR14⟩)
        | (go_at_call 36; refine (HE1.out _ HR9.out).mono ?_; rintro e w10 ⟨rfl, g10, HR10⟩)
        | (go_at_call 37; refine (HE2.out _ HR10.out).mono ?_; rintro e w11 ⟨rfl, g11, HR11⟩)
        | (go_at_call 38; refine (HU2.out _ HR14.out).mono ?_; rintro e w15 ⟨rfl, rfl⟩)
        | (go_at_call 38; refine (HU1.out _ HR11.out).mono ?_; rintro e w12 ⟨rfl, rfl⟩)
        | (go_at_call 35; refine (isNum_any 2 2 _).mono ?_; rintro e w13 ⟨rfl, rfl⟩)
        | (go_at_call 13; refine (HAW9.out _ HR14.out).mono ?_; rintro e w16 ⟨rfl, hb16⟩))
      go_ret
      exact ⟨rfl, hb16⟩
    · rw [decide_eq_false hs] at HSM
      have HO := Lib.hid (HARG.out hs)
      clear HOPN HARG hs
      go_upto_region 37 with (first
        | (go_at_call 12; refine (HSM.out _).mono ?_; rintro e w6 ⟨rfl, rfl⟩)
        | (go_at_call 15; refine HO.out.mono ?_; rintro e w7 ⟨b, rfl, HBK, HB7⟩))
      go_upto_region 38 with fail
      have HAS := Lib.hid (As_self ⟨b, 0, none⟩ w7.heap.size (.pointer none) (w7.alloc (.cells #[.pointer none] 63)) (HET.out.below (HB7.out.alloc HB7.out.size _)) (Blk.fresh _ _ _))
      have HAS2 : Hid (∀ w8, (w7.alloc (.cells #[.pointer none] 63)).grownBy w8 (some w7.heap.size) → Blk w8 b 67 #[.string ⟨#[]⟩, .iface 49 (.int .i64 1)] ∧ Below w.heap.size w w8) := Lib.hid fun w8 hg => by
        have h1 := HBK.out.lt
        refine ⟨(hg.block b (by simp; omega) (fun e => by have := Option.some.inj e; omega)).trans (HBK.out.alloc _), ?_⟩
        exact (HB7.out.alloc HB7.out.size _).trans ((Chg.of_grown hg).below (by simp; have := HB7.out.size; omega) fun q e => by have := Option.some.inj e; have := HB7.out.size; omega)
      clear HO HSM
      go_upto_region 40 with (first
        | (go_at_call 34; refine HAS.out.mono ?_; rintro e w8 ⟨rfl, hgc, hgr⟩; obtain ⟨hk8, hb8⟩ := HAS2.out _ hgr; have HK8 := Lib.hid hk8; have HB8 := Lib.hid hb8; have HG8 := Lib.hid hgc; have g0 := hgc.cell 0; have k0 := hk8.cell 0; have k1 := hk8.cell 1; simp at g0 k0 k1; clear hgc hgr hk8 hb8)
        | (go_at_call 35; refine (isBad_any b 1 1 _ k1).mono ?_; rintro e w9 ⟨rfl, rfl⟩))
      go_upto_region 41 with fail
      obtain ⟨W9, hW9⟩ : ∃ W9, W9 = w9.alloc (.cells #[.string ⟨#[]⟩, .nilIface] 67) := ⟨_, rfl⟩
      rw [← hW9]
      have HB9 : Hid (Below w.heap.size w W9) := Lib.hid (by rw [hW9]; exact HB8.out.alloc HB8.out.size _)
      have HK9 : Hid (Blk W9 b 67 #[.string ⟨#[]⟩, .iface 49 (.int .i64 1)]) := Lib.hid (by rw [hW9]; exact HK8.out.alloc _)
      have HN9 : Hid (Blk W9 w9.heap.size 67 #[.string ⟨#[]⟩, .nilIface]) := Lib.hid (by rw [hW9]; exact Blk.fresh _ _ _)
      have HG9 : Hid (Blk W9 w7.heap.size 63 #[.pointer (some ⟨b, 0, none⟩)]) := Lib.hid (by rw [hW9]; exact HG8.out.alloc _)
      generalize w9.heap.size = q2 at *
      clear hW9 HAS HAS2 HBK HB7 HB8 HK8 HG8 g0 k0 k1
      have g9 := HG9.out.cell 0
      simp at g9
      have HL9 : Hid (∀ W, Below W9.heap.size W9 W → W.cell? ⟨w7.heap.size, 0, none⟩ = some (.pointer (some ⟨b, 0, none⟩)) ∧ Tab W ∧ Blk W b 67 #[.string ⟨#[]⟩, .iface 49 (.int .i64 1)] ∧ Blk W q2 67 #[.string ⟨#[]⟩, .nilIface] ∧ Below w.heap.size w W) := Lib.hid fun W hW => by
        have g := (HG9.out.below hW HG9.out.lt).cell 0
        simp at g
        exact ⟨g, HT.out.below (HB9.out.trans (hW.mono HB9.out.size)), HK9.out.below hW HK9.out.lt, HN9.out.below hW HN9.out.lt, HB9.out.trans (hW.mono HB9.out.size)⟩
      have HE1 : Hid (∀ W, Below W9.heap.size W9 W → Calls Tryz.prog 36 #[.pointer (some ⟨b, 0, none⟩)] W fun e w' => e = .returned (.string (⟨#[]⟩ ++ ByteArray.mk #[58, 32] ++ dText 1)) ∧ w'.cell? ⟨w7.heap.size, 0, none⟩ = some (.pointer (some ⟨b, 0, none⟩)) ∧ Hid (Below W9.heap.size W9 w')) := Lib.hid fun W hW => (badErr b ⟨#[]⟩ 1 (by omega) (by omega) W (HL9.out W hW).2.2.1 (by decide) (HL9.out W hW).2.1).mono fun e w' ⟨h1, h2⟩ => ⟨h1, (HL9.out w' (hW.trans (h2.mono hW.size))).1, Lib.hid (hW.trans (h2.mono hW.size))⟩
      have HE2 : Hid (∀ W, Below W9.heap.size W9 W → Calls Tryz.prog 37 #[.int .i64 1] W fun e w' => e = .returned (.string (dText 1)) ∧ w'.cell? ⟨w7.heap.size, 0, none⟩ = some (.pointer (some ⟨b, 0, none⟩)) ∧ Hid (Below W9.heap.size W9 w')) := Lib.hid fun W hW => (ErrnoError_any 1 W (by omega) (by omega) (HL9.out W hW).2.1).mono fun e w' ⟨h1, h2⟩ => ⟨h1, (HL9.out w' (hW.trans (h2.mono hW.size))).1, Lib.hid (hW.trans (h2.mono hW.size))⟩
      have HE3 : Hid (∀ W, Below W9.heap.size W9 W → Calls Tryz.prog 36 #[.pointer (some ⟨q2, 0, none⟩)] W fun e w' => e = .returned (.string (⟨#[]⟩ ++ ByteArray.mk #[58, 32])) ∧ Hid (Below W9.heap.size W9 w')) := Lib.hid fun W hW => (badErr0 q2 ⟨#[]⟩ W (HL9.out W hW).2.2.2.1 (by decide)).mono fun e w' ⟨h1, h2⟩ => ⟨h1, Lib.hid (hW.trans (h2.mono hW.size))⟩
      have HU1 : Hid (∀ W, Below W9.heap.size W9 W → Calls Tryz.prog 38 #[.pointer (some ⟨b, 0, none⟩)] W fun e w' => e = .returned (.iface 49 (.int .i64 1)) ∧ w' = W) := Lib.hid fun W hW => BadUnwrap_any b _ _ W (HL9.out W hW).2.2.1
      have HU2 : Hid (∀ W, Below W9.heap.size W9 W → Calls Tryz.prog 38 #[.pointer (some ⟨q2, 0, none⟩)] W fun e w' => e = .returned .nilIface ∧ w' = W) := Lib.hid fun W hW => BadUnwrap_any q2 _ _ W (HL9.out W hW).2.2.2.1
      have HR9 := Lib.hid (Below.refl W9.heap.size W9)
      have q3 : (⟨#[]⟩ : ByteArray).size ≤ 20 := by decide
      have q4 : (dText 1).size ≤ 31 := dText_size 1 (by omega) (by omega)
      have HAW9 : Hid (∀ W, Below W9.heap.size W9 W → Calls Tryz.prog 13 #[] W fun e w' => e = .returned (.bool true) ∧ Below w.heap.size w w') := Lib.hid fun W hW => (HAW.out W (HL9.out W hW).2.2.2.2).mono fun e w' ⟨h1, h2⟩ => ⟨h1, (HL9.out W hW).2.2.2.2.trans (h2.mono (HL9.out W hW).2.2.2.2.size)⟩
      clear HL9 HG9 HK9 HN9 HAW
      have q5 : ¬ 9223372036854775807 < (⟨#[]⟩ : ByteArray).size + 2 := by omega
      have q6 : ¬ 9223372036854775807 < (⟨#[]⟩ : ByteArray).size + 2 + (dText 1).size := by omega
      generalize dText 1 = T at *
      generalize w7.heap.size = q7 at *
      go_wp2_with (first
        | (go_at_call 36; refine (HE3.out _ HR11.out).mono ?_; rintro e w14 ⟨rfl, HR14⟩)
        | (go_at_call 36; refine (HE1.out _ HR9.out).mono ?_; rintro e w10 ⟨rfl, g10, HR10⟩)
        | (go_at_call 37; refine (HE2.out _ HR10.out).mono ?_; rintro e w11 ⟨rfl, g11, HR11⟩)
        | (go_at_call 38; refine (HU2.out _ HR14.out).mono ?_; rintro e w15 ⟨rfl, rfl⟩)
        | (go_at_call 38; refine (HU1.out _ HR11.out).mono ?_; rintro e w12 ⟨rfl, rfl⟩)
        | (go_at_call 35; refine (isNum_any 1 1 _).mono ?_; rintro e w13 ⟨rfl, rfl⟩)
        | (go_at_call 13; refine (HAW9.out _ HR14.out).mono ?_; rintro e w16 ⟨rfl, hb16⟩))
      go_ret
      exact ⟨rfl, hb16⟩
  · go_upto_region 34 with (first
      | (go_at_call 33; refine (HY.out.app2 (S := [⟨segName 1, xB, 0⟩]) (S' := [⟨segName 1, xB, 0⟩, ⟨segName 3, xB, 0⟩]) _ (by decide) (by decide) (by kernel_rfl)).mono ?_; rintro e wHX ⟨rfl, HX⟩)
      | (go_at_call 33; refine (HB.out.app2 (S := []) (S' := [⟨segName 1, xB, 0⟩]) _ (by decide) (by decide) (by kernel_rfl)).mono ?_; rintro e wHY ⟨rfl, HY⟩))
    have HOPN : Hid (∀ n : Nat, 16 ≤ n → n ≤ 65536 → Calls Tryz.prog 15 #[.pointer (some ⟨w.heap.size + 1, 0, none⟩), .int .i64 n] wHX (NoOpen w ⟨#[108, 111, 103, 48, 48, 48, 48, 48, 48, 48, 51]⟩ 2)) := Lib.hid fun n h1 h2 => (show nameS 3 = ⟨#[108, 111, 103, 48, 48, 48, 48, 48, 48, 48, 51]⟩ by kernel_rfl) ▸ open_4 HT.out h1 h2 HX.out.din
    have HARG : Hid (¬ (16 ≤ size ∧ size ≤ 65536) → Calls Tryz.prog 15 #[.pointer (some ⟨w.heap.size + 1, 0, none⟩), .int .i64 size] wHX (NoOpen w ⟨#[]⟩ 1)) := Lib.hid fun h => Open_arg HX.out.1 h
    clear HX HB
    by_cases hs : 16 ≤ size ∧ size ≤ 65536
    · rw [decide_eq_true hs] at HSM
      obtain ⟨n, rfl⟩ : ∃ n : Nat, size = n := ⟨size.toNat, by omega⟩
      have HO := Lib.hid (HOPN.out n (by omega) (by omega))
      clear HOPN HARG hs
      go_upto_region 37 with (first
        | (go_at_call 12; refine (HSM.out _).mono ?_; rintro e w6 ⟨rfl, rfl⟩)
        | (go_at_call 15; refine HO.out.mono ?_; rintro e w7 ⟨b, rfl, HBK, HB7⟩))
      go_upto_region 38 with fail
      have HAS := Lib.hid (As_self ⟨b, 0, none⟩ w7.heap.size (.pointer none) (w7.alloc (.cells #[.pointer none] 63)) (HET.out.below (HB7.out.alloc HB7.out.size _)) (Blk.fresh _ _ _))
      have HAS2 : Hid (∀ w8, (w7.alloc (.cells #[.pointer none] 63)).grownBy w8 (some w7.heap.size) → Blk w8 b 67 #[.string ⟨#[108, 111, 103, 48, 48, 48, 48, 48, 48, 48, 51]⟩, .iface 49 (.int .i64 2)] ∧ Below w.heap.size w w8) := Lib.hid fun w8 hg => by
        have h1 := HBK.out.lt
        refine ⟨(hg.block b (by simp; omega) (fun e => by have := Option.some.inj e; omega)).trans (HBK.out.alloc _), ?_⟩
        exact (HB7.out.alloc HB7.out.size _).trans ((Chg.of_grown hg).below (by simp; have := HB7.out.size; omega) fun q e => by have := Option.some.inj e; have := HB7.out.size; omega)
      clear HO HSM
      go_upto_region 40 with (first
        | (go_at_call 34; refine HAS.out.mono ?_; rintro e w8 ⟨rfl, hgc, hgr⟩; obtain ⟨hk8, hb8⟩ := HAS2.out _ hgr; have HK8 := Lib.hid hk8; have HB8 := Lib.hid hb8; have HG8 := Lib.hid hgc; have g0 := hgc.cell 0; have k0 := hk8.cell 0; have k1 := hk8.cell 1; simp at g0 k0 k1; clear hgc hgr hk8 hb8)
        | (go_at_call 35; refine (isBad_any b 2 2 _ k1).mono ?_; rintro e w9 ⟨rfl, rfl⟩))
      go_upto_region 41 with fail
      obtain ⟨W9, hW9⟩ : ∃ W9, W9 = w9.alloc (.cells #[.string ⟨#[108, 111, 103, 48, 48, 48, 48, 48, 48, 48, 51]⟩, .nilIface] 67) := ⟨_, rfl⟩
      rw [← hW9]
      have HB9 : Hid (Below w.heap.size w W9) := Lib.hid (by rw [hW9]; exact HB8.out.alloc HB8.out.size _)
      have HK9 : Hid (Blk W9 b 67 #[.string ⟨#[108, 111, 103, 48, 48, 48, 48, 48, 48, 48, 51]⟩, .iface 49 (.int .i64 2)]) := Lib.hid (by rw [hW9]; exact HK8.out.alloc _)
      have HN9 : Hid (Blk W9 w9.heap.size 67 #[.string ⟨#[108, 111, 103, 48, 48, 48, 48, 48, 48, 48, 51]⟩, .nilIface]) := Lib.hid (by rw [hW9]; exact Blk.fresh _ _ _)
      have HG9 : Hid (Blk W9 w7.heap.size 63 #[.pointer (some ⟨b, 0, none⟩)]) := Lib.hid (by rw [hW9]; exact HG8.out.alloc _)
      generalize w9.heap.size = q2 at *
      clear hW9 HAS HAS2 HBK HB7 HB8 HK8 HG8 g0 k0 k1
      have g9 := HG9.out.cell 0
      simp at g9
      have HL9 : Hid (∀ W, Below W9.heap.size W9 W → W.cell? ⟨w7.heap.size, 0, none⟩ = some (.pointer (some ⟨b, 0, none⟩)) ∧ Tab W ∧ Blk W b 67 #[.string ⟨#[108, 111, 103, 48, 48, 48, 48, 48, 48, 48, 51]⟩, .iface 49 (.int .i64 2)] ∧ Blk W q2 67 #[.string ⟨#[108, 111, 103, 48, 48, 48, 48, 48, 48, 48, 51]⟩, .nilIface] ∧ Below w.heap.size w W) := Lib.hid fun W hW => by
        have g := (HG9.out.below hW HG9.out.lt).cell 0
        simp at g
        exact ⟨g, HT.out.below (HB9.out.trans (hW.mono HB9.out.size)), HK9.out.below hW HK9.out.lt, HN9.out.below hW HN9.out.lt, HB9.out.trans (hW.mono HB9.out.size)⟩
      have HE1 : Hid (∀ W, Below W9.heap.size W9 W → Calls Tryz.prog 36 #[.pointer (some ⟨b, 0, none⟩)] W fun e w' => e = .returned (.string (⟨#[108, 111, 103, 48, 48, 48, 48, 48, 48, 48, 51]⟩ ++ ByteArray.mk #[58, 32] ++ dText 2)) ∧ w'.cell? ⟨w7.heap.size, 0, none⟩ = some (.pointer (some ⟨b, 0, none⟩)) ∧ Hid (Below W9.heap.size W9 w')) := Lib.hid fun W hW => (badErr b ⟨#[108, 111, 103, 48, 48, 48, 48, 48, 48, 48, 51]⟩ 2 (by omega) (by omega) W (HL9.out W hW).2.2.1 (by decide) (HL9.out W hW).2.1).mono fun e w' ⟨h1, h2⟩ => ⟨h1, (HL9.out w' (hW.trans (h2.mono hW.size))).1, Lib.hid (hW.trans (h2.mono hW.size))⟩
      have HE2 : Hid (∀ W, Below W9.heap.size W9 W → Calls Tryz.prog 37 #[.int .i64 2] W fun e w' => e = .returned (.string (dText 2)) ∧ w'.cell? ⟨w7.heap.size, 0, none⟩ = some (.pointer (some ⟨b, 0, none⟩)) ∧ Hid (Below W9.heap.size W9 w')) := Lib.hid fun W hW => (ErrnoError_any 2 W (by omega) (by omega) (HL9.out W hW).2.1).mono fun e w' ⟨h1, h2⟩ => ⟨h1, (HL9.out w' (hW.trans (h2.mono hW.size))).1, Lib.hid (hW.trans (h2.mono hW.size))⟩
      have HE3 : Hid (∀ W, Below W9.heap.size W9 W → Calls Tryz.prog 36 #[.pointer (some ⟨q2, 0, none⟩)] W fun e w' => e = .returned (.string (⟨#[108, 111, 103, 48, 48, 48, 48, 48, 48, 48, 51]⟩ ++ ByteArray.mk #[58, 32])) ∧ Hid (Below W9.heap.size W9 w')) := Lib.hid fun W hW => (badErr0 q2 ⟨#[108, 111, 103, 48, 48, 48, 48, 48, 48, 48, 51]⟩ W (HL9.out W hW).2.2.2.1 (by decide)).mono fun e w' ⟨h1, h2⟩ => ⟨h1, Lib.hid (hW.trans (h2.mono hW.size))⟩
      have HU1 : Hid (∀ W, Below W9.heap.size W9 W → Calls Tryz.prog 38 #[.pointer (some ⟨b, 0, none⟩)] W fun e w' => e = .returned (.iface 49 (.int .i64 2)) ∧ w' = W) := Lib.hid fun W hW => BadUnwrap_any b _ _ W (HL9.out W hW).2.2.1
      have HU2 : Hid (∀ W, Below W9.heap.size W9 W → Calls Tryz.prog 38 #[.pointer (some ⟨q2, 0, none⟩)] W fun e w' => e = .returned .nilIface ∧ w' = W) := Lib.hid fun W hW => BadUnwrap_any q2 _ _ W (HL9.out W hW).2.2.2.1
      have HR9 := Lib.hid (Below.refl W9.heap.size W9)
      have q3 : (⟨#[108, 111, 103, 48, 48, 48, 48, 48, 48, 48, 51]⟩ : ByteArray).size ≤ 20 := by decide
      have q4 : (dText 2).size ≤ 31 := dText_size 2 (by omega) (by omega)
      have HAW9 : Hid (∀ W, Below W9.heap.size W9 W → Calls Tryz.prog 13 #[] W fun e w' => e = .returned (.bool true) ∧ Below w.heap.size w w') := Lib.hid fun W hW => (HAW.out W (HL9.out W hW).2.2.2.2).mono fun e w' ⟨h1, h2⟩ => ⟨h1, (HL9.out W hW).2.2.2.2.trans (h2.mono (HL9.out W hW).2.2.2.2.size)⟩
      clear HL9 HG9 HK9 HN9 HAW
      have q5 : ¬ 9223372036854775807 < (⟨#[108, 111, 103, 48, 48, 48, 48, 48, 48, 48, 51]⟩ : ByteArray).size + 2 := by omega
      have q6 : ¬ 9223372036854775807 < (⟨#[108, 111, 103, 48, 48, 48, 48, 48, 48, 48, 51]⟩ : ByteArray).size + 2 + (dText 2).size := by omega
      generalize dText 2 = T at *
      generalize w7.heap.size = q7 at *
      go_wp2_with (first
        | (go_at_call 36; refine (HE3.out _ HR11.out).mono ?_; rintro e w14 ⟨rfl, HR14⟩)
        | (go_at_call 36; refine (HE1.out _ HR9.out).mono ?_; rintro e w10 ⟨rfl, g10, HR10⟩)
        | (go_at_call 37; refine (HE2.out _ HR10.out).mono ?_; rintro e w11 ⟨rfl, g11, HR11⟩)
        | (go_at_call 38; refine (HU2.out _ HR14.out).mono ?_; rintro e w15 ⟨rfl, rfl⟩)
        | (go_at_call 38; refine (HU1.out _ HR11.out).mono ?_; rintro e w12 ⟨rfl, rfl⟩)
        | (go_at_call 35; refine (isNum_any 2 2 _).mono ?_; rintro e w13 ⟨rfl, rfl⟩)
        | (go_at_call 13; refine (HAW9.out _ HR14.out).mono ?_; rintro e w16 ⟨rfl, hb16⟩))
      go_ret
      exact ⟨rfl, hb16⟩
    · rw [decide_eq_false hs] at HSM
      have HO := Lib.hid (HARG.out hs)
      clear HOPN HARG hs
      go_upto_region 37 with (first
        | (go_at_call 12; refine (HSM.out _).mono ?_; rintro e w6 ⟨rfl, rfl⟩)
        | (go_at_call 15; refine HO.out.mono ?_; rintro e w7 ⟨b, rfl, HBK, HB7⟩))
      go_upto_region 38 with fail
      have HAS := Lib.hid (As_self ⟨b, 0, none⟩ w7.heap.size (.pointer none) (w7.alloc (.cells #[.pointer none] 63)) (HET.out.below (HB7.out.alloc HB7.out.size _)) (Blk.fresh _ _ _))
      have HAS2 : Hid (∀ w8, (w7.alloc (.cells #[.pointer none] 63)).grownBy w8 (some w7.heap.size) → Blk w8 b 67 #[.string ⟨#[]⟩, .iface 49 (.int .i64 1)] ∧ Below w.heap.size w w8) := Lib.hid fun w8 hg => by
        have h1 := HBK.out.lt
        refine ⟨(hg.block b (by simp; omega) (fun e => by have := Option.some.inj e; omega)).trans (HBK.out.alloc _), ?_⟩
        exact (HB7.out.alloc HB7.out.size _).trans ((Chg.of_grown hg).below (by simp; have := HB7.out.size; omega) fun q e => by have := Option.some.inj e; have := HB7.out.size; omega)
      clear HO HSM
      go_upto_region 40 with (first
        | (go_at_call 34; refine HAS.out.mono ?_; rintro e w8 ⟨rfl, hgc, hgr⟩; obtain ⟨hk8, hb8⟩ := HAS2.out _ hgr; have HK8 := Lib.hid hk8; have HB8 := Lib.hid hb8; have HG8 := Lib.hid hgc; have g0 := hgc.cell 0; have k0 := hk8.cell 0; have k1 := hk8.cell 1; simp at g0 k0 k1; clear hgc hgr hk8 hb8)
        | (go_at_call 35; refine (isBad_any b 1 1 _ k1).mono ?_; rintro e w9 ⟨rfl, rfl⟩))
      go_upto_region 41 with fail
      obtain ⟨W9, hW9⟩ : ∃ W9, W9 = w9.alloc (.cells #[.string ⟨#[]⟩, .nilIface] 67) := ⟨_, rfl⟩
      rw [← hW9]
      have HB9 : Hid (Below w.heap.size w W9) := Lib.hid (by rw [hW9]; exact HB8.out.alloc HB8.out.size _)
      have HK9 : Hid (Blk W9 b 67 #[.string ⟨#[]⟩, .iface 49 (.int .i64 1)]) := Lib.hid (by rw [hW9]; exact HK8.out.alloc _)
      have HN9 : Hid (Blk W9 w9.heap.size 67 #[.string ⟨#[]⟩, .nilIface]) := Lib.hid (by rw [hW9]; exact Blk.fresh _ _ _)
      have HG9 : Hid (Blk W9 w7.heap.size 63 #[.pointer (some ⟨b, 0, none⟩)]) := Lib.hid (by rw [hW9]; exact HG8.out.alloc _)
      generalize w9.heap.size = q2 at *
      clear hW9 HAS HAS2 HBK HB7 HB8 HK8 HG8 g0 k0 k1
      have g9 := HG9.out.cell 0
      simp at g9
      have HL9 : Hid (∀ W, Below W9.heap.size W9 W → W.cell? ⟨w7.heap.size, 0, none⟩ = some (.pointer (some ⟨b, 0, none⟩)) ∧ Tab W ∧ Blk W b 67 #[.string ⟨#[]⟩, .iface 49 (.int .i64 1)] ∧ Blk W q2 67 #[.string ⟨#[]⟩, .nilIface] ∧ Below w.heap.size w W) := Lib.hid fun W hW => by
        have g := (HG9.out.below hW HG9.out.lt).cell 0
        simp at g
        exact ⟨g, HT.out.below (HB9.out.trans (hW.mono HB9.out.size)), HK9.out.below hW HK9.out.lt, HN9.out.below hW HN9.out.lt, HB9.out.trans (hW.mono HB9.out.size)⟩
      have HE1 : Hid (∀ W, Below W9.heap.size W9 W → Calls Tryz.prog 36 #[.pointer (some ⟨b, 0, none⟩)] W fun e w' => e = .returned (.string (⟨#[]⟩ ++ ByteArray.mk #[58, 32] ++ dText 1)) ∧ w'.cell? ⟨w7.heap.size, 0, none⟩ = some (.pointer (some ⟨b, 0, none⟩)) ∧ Hid (Below W9.heap.size W9 w')) := Lib.hid fun W hW => (badErr b ⟨#[]⟩ 1 (by omega) (by omega) W (HL9.out W hW).2.2.1 (by decide) (HL9.out W hW).2.1).mono fun e w' ⟨h1, h2⟩ => ⟨h1, (HL9.out w' (hW.trans (h2.mono hW.size))).1, Lib.hid (hW.trans (h2.mono hW.size))⟩
      have HE2 : Hid (∀ W, Below W9.heap.size W9 W → Calls Tryz.prog 37 #[.int .i64 1] W fun e w' => e = .returned (.string (dText 1)) ∧ w'.cell? ⟨w7.heap.size, 0, none⟩ = some (.pointer (some ⟨b, 0, none⟩)) ∧ Hid (Below W9.heap.size W9 w')) := Lib.hid fun W hW => (ErrnoError_any 1 W (by omega) (by omega) (HL9.out W hW).2.1).mono fun e w' ⟨h1, h2⟩ => ⟨h1, (HL9.out w' (hW.trans (h2.mono hW.size))).1, Lib.hid (hW.trans (h2.mono hW.size))⟩
      have HE3 : Hid (∀ W, Below W9.heap.size W9 W → Calls Tryz.prog 36 #[.pointer (some ⟨q2, 0, none⟩)] W fun e w' => e = .returned (.string (⟨#[]⟩ ++ ByteArray.mk #[58, 32])) ∧ Hid (Below W9.heap.size W9 w')) := Lib.hid fun W hW => (badErr0 q2 ⟨#[]⟩ W (HL9.out W hW).2.2.2.1 (by decide)).mono fun e w' ⟨h1, h2⟩ => ⟨h1, Lib.hid (hW.trans (h2.mono hW.size))⟩
      have HU1 : Hid (∀ W, Below W9.heap.size W9 W → Calls Tryz.prog 38 #[.pointer (some ⟨b, 0, none⟩)] W fun e w' => e = .returned (.iface 49 (.int .i64 1)) ∧ w' = W) := Lib.hid fun W hW => BadUnwrap_any b _ _ W (HL9.out W hW).2.2.1
      have HU2 : Hid (∀ W, Below W9.heap.size W9 W → Calls Tryz.prog 38 #[.pointer (some ⟨q2, 0, none⟩)] W fun e w' => e = .returned .nilIface ∧ w' = W) := Lib.hid fun W hW => BadUnwrap_any q2 _ _ W (HL9.out W hW).2.2.2.1
      have HR9 := Lib.hid (Below.refl W9.heap.size W9)
      have q3 : (⟨#[]⟩ : ByteArray).size ≤ 20 := by decide
      have q4 : (dText 1).size ≤ 31 := dText_size 1 (by omega) (by omega)
      have HAW9 : Hid (∀ W, Below W9.heap.size W9 W → Calls Tryz.prog 13 #[] W fun e w' => e = .returned (.bool true) ∧ Below w.heap.size w w') := Lib.hid fun W hW => (HAW.out W (HL9.out W hW).2.2.2.2).mono fun e w' ⟨h1, h2⟩ => ⟨h1, (HL9.out W hW).2.2.2.2.trans (h2.mono (HL9.out W hW).2.2.2.2.size)⟩
      clear HL9 HG9 HK9 HN9 HAW
      have q5 : ¬ 9223372036854775807 < (⟨#[]⟩ : ByteArray).size + 2 := by omega
      have q6 : ¬ 9223372036854775807 < (⟨#[]⟩ : ByteArray).size + 2 + (dText 1).size := by omega
      generalize dText 1 = T at *
      generalize w7.heap.size = q7 at *
      go_wp2_with (first
        | (go_at_call 36; refine (HE3.out _ HR11.out).mono ?_; rintro e w14 ⟨rfl, HR14⟩)
        | (go_at_call 36; refine (HE1.out _ HR9.out).mono ?_; rintro e w10 ⟨rfl, g10, HR10⟩)
        | (go_at_call 37; refine (HE2.out _ HR10.out).mono ?_; rintro e w11 ⟨rfl, g11, HR11⟩)
        | (go_at_call 38; refine (HU2.out _ HR14.out).mono ?_; rintro e w15 ⟨rfl, rfl⟩)
        | (go_at_call 38; refine (HU1.out _ HR11.out).mono ?_; rintro e w12 ⟨rfl, rfl⟩)
        | (go_at_call 35; refine (isNum_any 1 1 _).mono ?_; rintro e w13 ⟨rfl, rfl⟩)
        | (go_at_call 13; refine (HAW9.out _ HR14.out).mono ?_; rintro e w16 ⟨rfl, hb16⟩))
      go_ret
      exact ⟨rfl, hb16⟩
  · go_upto_region 32 with fail
    have HRA := Lib.hid (show Rd w4 w4.heap.size .u8 A2 7 c2 xB from HB.out.row2)
    obtain ⟨i0, hi, hz0, hz1, hz2⟩ := info_parts info_u8
    have HO0 := Lib.hid (fun (V : World) => World.ownsRow_lit (e := 5) (size := 1) V #[] 0 (Nat.le_refl _) (by decide) rfl)
    have HAP := Lib.hid (fun (V : World) (A : Option Addr) (c : Nat) (hV : Below w4.heap.size w4 V) (hr : Rd V V.heap.size .u8 A 8 c (xB ++ [9])) => (HB.out.later hV).append (S' := [⟨segName 1, xB ++ [9], 0⟩]) (⟨#[108, 111, 103, 48, 48, 48, 48, 48, 48, 48, 49]⟩) (by decide) hr (by decide) (by decide) (by kernel_rfl))
    have HSZ : Hid (∀ (V : World) (o : Obj), V.heap.size ≤ (V.alloc o).heap.size) := Lib.hid fun V o => by simp
    have HLT : Hid (∀ (V : World) (ad : Addr), some (⟨V.heap.size, 0, none⟩ : Addr) = some ad → ∀ (j : Nat) (u : Value), [Value.int .u8 9][j]? = some u → (V.alloc (.cells #[Value.int .u8 9] 5)).cell? (ad.add j) = some u) := Lib.hid fun V ad e j u hu => by
      cases e
      rcases j with _ | j
      · simp at hu
        subst hu
        rw [Addr.add_lit]
        simp
      · simp at hu
    have HXL : Hid ((List.map (Value.int .u8) xB).length = 7 * 1) := Lib.hid (by decide)
    go_upto_region 33 with (first
      | (at_builtin; refine wpList_append_src (o := ⟨some 89, _, _, _, _, _⟩) rfl _ _ 33 rfl w4.heap.size 5 i0 _ 1 1 Tryz.underlying33 hi hz0 hz1 hz2 rfl ?_ _ 7 _ rfl (HO2.out _) (some ⟨w5.heap.size, 0, none⟩) 1 1 [Value.int .u8 9] rfl rfl ?_ ?_ ?_ ?_ ?_ ?_ ?_; omega; (intro e; cases e); exact HLT.out w5; (intro u hu; simp at hu; subst hu; rfl); (unfold maxLen; omega); omega; exact Nat.le_trans hz5 (HSZ.out _ _); intro v3 w6 hown3 hg3; have hb6 : Below w4.heap.size w4 w6 := (HB5.out.alloc HB5.out.size _).grown hg3 (Nat.le_trans hz5 (HSZ.out _ _)) (fun k hk => ((HO2.out (.cells #[] 0)).lt k hk).1); obtain ⟨A3, c3, rfl, hr3⟩ := Rd.of_own (n := 8) (xs := xB ++ [9]) (k := .u8) (by simpa using hown3); have HAP6 := Lib.hid (HAP.out w6 A3 c3 hb6 hr3); have hr3c := hr3.cap; have hr3m := hr3.max; unfold maxLen at hr3m; clear hown3 hg3 hb6 hr3 HAP HO2 HB5)
      | (at_builtin; refine wpList_append_src (o := ⟨some 87, _, _, _, _, _⟩) rfl _ _ 33 rfl w4.heap.size 5 i0 _ 1 1 Tryz.underlying33 hi hz0 hz1 hz2 rfl (by omega) _ 0 [] rfl (HO0.out w4) A2 7 c2 (List.map (Value.int .u8) xB) rfl HXL.out HRA.out.nil (HRA.out.below ((Below.refl w4.heap.size w4).alloc (Nat.le_refl _) _)).news (ints_oneCell _ _) (by unfold maxLen; omega) (by omega) (by simp) ?_; intro v2 w5 hown2 hg2; have HB5 : Hid (Below w4.heap.size w4 w5) := Lib.hid (((Below.refl w4.heap.size w4).alloc (Nat.le_refl _) _).grown hg2 (by simp) (fun k hk => ((HO0.out w4).lt k hk).1)); have HO2 : Hid (∀ o, (w5.alloc o).ownsRow w4.heap.size 5 1 v2 7 (List.map (Value.int .u8) xB)) := Lib.hid (fun o => ((show w5.ownsRow w4.heap.size 5 1 v2 7 (List.map (Value.int .u8) xB) from hown2).alloc o)); have hz5 := HB5.out.size; clear hown2 hg2 HO0)
      | (go_at_call 33; refine HAP6.out.mono ?_; rintro e wHY ⟨rfl, HY⟩))
    go_upto_region 34 with (first
      | (go_at_call 33; refine (HY.out.app2 (S := [⟨segName 1, xB ++ [9], 0⟩]) (S' := [⟨segName 1, xB ++ [9], 0⟩, ⟨segName 2, xB, 0⟩]) _ (by decide) (by decide) (by kernel_rfl)).mono ?_; rintro e wHX ⟨rfl, HX⟩))
    have HOPN : Hid (∀ n : Nat, 16 ≤ n → n ≤ 65536 → Calls Tryz.prog 15 #[.pointer (some ⟨w.heap.size + 1, 0, none⟩), .int .i64 n] wHX (NoOpen w ⟨#[108, 111, 103, 48, 48, 48, 48, 48, 48, 48, 49]⟩ 3)) := Lib.hid fun n h1 h2 => (show nameS 1 = ⟨#[108, 111, 103, 48, 48, 48, 48, 48, 48, 48, 49]⟩ by kernel_rfl) ▸ open_5 HT.out h1 h2 HX.out.din
    have HARG : Hid (¬ (16 ≤ size ∧ size ≤ 65536) → Calls Tryz.prog 15 #[.pointer (some ⟨w.heap.size + 1, 0, none⟩), .int .i64 size] wHX (NoOpen w ⟨#[]⟩ 1)) := Lib.hid fun h => Open_arg HX.out.1 h
    clear HX HB
    by_cases hs : 16 ≤ size ∧ size ≤ 65536
    · rw [decide_eq_true hs] at HSM
      obtain ⟨n, rfl⟩ : ∃ n : Nat, size = n := ⟨size.toNat, by omega⟩
      have HO := Lib.hid (HOPN.out n (by omega) (by omega))
      clear HOPN HARG hs
      go_upto_region 37 with (first
        | (go_at_call 12; refine (HSM.out _).mono ?_; rintro e w6 ⟨rfl, rfl⟩)
        | (go_at_call 15; refine HO.out.mono ?_; rintro e w7 ⟨b, rfl, HBK, HB7⟩))
      go_upto_region 38 with fail
      have HAS := Lib.hid (As_self ⟨b, 0, none⟩ w7.heap.size (.pointer none) (w7.alloc (.cells #[.pointer none] 63)) (HET.out.below (HB7.out.alloc HB7.out.size _)) (Blk.fresh _ _ _))
      have HAS2 : Hid (∀ w8, (w7.alloc (.cells #[.pointer none] 63)).grownBy w8 (some w7.heap.size) → Blk w8 b 67 #[.string ⟨#[108, 111, 103, 48, 48, 48, 48, 48, 48, 48, 49]⟩, .iface 49 (.int .i64 3)] ∧ Below w.heap.size w w8) := Lib.hid fun w8 hg => by
        have h1 := HBK.out.lt
        refine ⟨(hg.block b (by simp; omega) (fun e => by have := Option.some.inj e; omega)).trans (HBK.out.alloc _), ?_⟩
        exact (HB7.out.alloc HB7.out.size _).trans ((Chg.of_grown hg).below (by simp; have := HB7.out.size; omega) fun q e => by have := Option.some.inj e; have := HB7.out.size; omega)
      clear HO HSM
      go_upto_region 40 with (first
        | (go_at_call 34; refine HAS.out.mono ?_; rintro e w8 ⟨rfl, hgc, hgr⟩; obtain ⟨hk8, hb8⟩ := HAS2.out _ hgr; have HK8 := Lib.hid hk8; have HB8 := Lib.hid hb8; have HG8 := Lib.hid hgc; have g0 := hgc.cell 0; have k0 := hk8.cell 0; have k1 := hk8.cell 1; simp at g0 k0 k1; clear hgc hgr hk8 hb8)
        | (go_at_call 35; refine (isBad_any b 3 3 _ k1).mono ?_; rintro e w9 ⟨rfl, rfl⟩))
      go_upto_region 41 with fail
      obtain ⟨W9, hW9⟩ : ∃ W9, W9 = w9.alloc (.cells #[.string ⟨#[108, 111, 103, 48, 48, 48, 48, 48, 48, 48, 49]⟩, .nilIface] 67) := ⟨_, rfl⟩
      rw [← hW9]
      have HB9 : Hid (Below w.heap.size w W9) := Lib.hid (by rw [hW9]; exact HB8.out.alloc HB8.out.size _)
      have HK9 : Hid (Blk W9 b 67 #[.string ⟨#[108, 111, 103, 48, 48, 48, 48, 48, 48, 48, 49]⟩, .iface 49 (.int .i64 3)]) := Lib.hid (by rw [hW9]; exact HK8.out.alloc _)
      have HN9 : Hid (Blk W9 w9.heap.size 67 #[.string ⟨#[108, 111, 103, 48, 48, 48, 48, 48, 48, 48, 49]⟩, .nilIface]) := Lib.hid (by rw [hW9]; exact Blk.fresh _ _ _)
      have HG9 : Hid (Blk W9 w7.heap.size 63 #[.pointer (some ⟨b, 0, none⟩)]) := Lib.hid (by rw [hW9]; exact HG8.out.alloc _)
      generalize w9.heap.size = q2 at *
      clear hW9 HAS HAS2 HBK HB7 HB8 HK8 HG8 g0 k0 k1
      have g9 := HG9.out.cell 0
      simp at g9
      have HL9 : Hid (∀ W, Below W9.heap.size W9 W → W.cell? ⟨w7.heap.size, 0, none⟩ = some (.pointer (some ⟨b, 0, none⟩)) ∧ Tab W ∧ Blk W b 67 #[.string ⟨#[108, 111, 103, 48, 48, 48, 48, 48, 48, 48, 49]⟩, .iface 49 (.int .i64 3)] ∧ Blk W q2 67 #[.string ⟨#[108, 111, 103, 48, 48, 48, 48, 48, 48, 48, 49]⟩, .nilIface] ∧ Below w.heap.size w W) := Lib.hid fun W hW => by
        have g := (HG9.out.below hW HG9.out.lt).cell 0
        simp at g
        exact ⟨g, HT.out.below (HB9.out.trans (hW.mono HB9.out.size)), HK9.out.below hW HK9.out.lt, HN9.out.below hW HN9.out.lt, HB9.out.trans (hW.mono HB9.out.size)⟩
      have HE1 : Hid (∀ W, Below W9.heap.size W9 W → Calls Tryz.prog 36 #[.pointer (some ⟨b, 0, none⟩)] W fun e w' => e = .returned (.string (⟨#[108, 111, 103, 48, 48, 48, 48, 48, 48, 48, 49]⟩ ++ ByteArray.mk #[58, 32] ++ dText 3)) ∧ w'.cell? ⟨w7.heap.size, 0, none⟩ = some (.pointer (some ⟨b, 0, none⟩)) ∧ Hid (Below W9.heap.size W9 w')) := Lib.hid fun W hW => (badErr b ⟨#[108, 111, 103, 48, 48, 48, 48, 48, 48, 48, 49]⟩ 3 (by omega) (by omega) W (HL9.out W hW).2.2.1 (by decide) (HL9.out W hW).2.1).mono fun e w' ⟨h1, h2⟩ => ⟨h1, (HL9.out w' (hW.trans (h2.mono hW.size))).1, Lib.hid (hW.trans (h2.mono hW.size))⟩
      have HE2 : Hid (∀ W, Below W9.heap.size W9 W → Calls Tryz.prog 37 #[.int .i64 3] W fun e w' => e = .returned (.string (dText 3)) ∧ w'.cell? ⟨w7.heap.size, 0, none⟩ = some (.pointer (some ⟨b, 0, none⟩)) ∧ Hid (Below W9.heap.size W9 w')) := Lib.hid fun W hW => (ErrnoError_any 3 W (by omega) (by omega) (HL9.out W hW).2.1).mono fun e w' ⟨h1, h2⟩ => ⟨h1, (HL9.out w' (hW.trans (h2.mono hW.size))).1, Lib.hid (hW.trans (h2.mono hW.size))⟩
      have HE3 : Hid (∀ W, Below W9.heap.size W9 W → Calls Tryz.prog 36 #[.pointer (some ⟨q2, 0, none⟩)] W fun e w' => e = .returned (.string (⟨#[108, 111, 103, 48, 48, 48, 48, 48, 48, 48, 49]⟩ ++ ByteArray.mk #[58, 32])) ∧ Hid (Below W9.heap.size W9 w')) := Lib.hid fun W hW => (badErr0 q2 ⟨#[108, 111, 103, 48, 48, 48, 48, 48, 48, 48, 49]⟩ W (HL9.out W hW).2.2.2.1 (by decide)).mono fun e w' ⟨h1, h2⟩ => ⟨h1, Lib.hid (hW.trans (h2.mono hW.size))⟩
      have HU1 : Hid (∀ W, Below W9.heap.size W9 W → Calls Tryz.prog 38 #[.pointer (some ⟨b, 0, none⟩)] W fun e w' => e = .returned (.iface 49 (.int .i64 3)) ∧ w' = W) := Lib.hid fun W hW => BadUnwrap_any b _ _ W (HL9.out W hW).2.2.1
      have HU2 : Hid (∀ W, Below W9.heap.size W9 W → Calls Tryz.prog 38 #[.pointer (some ⟨q2, 0, none⟩)] W fun e w' => e = .returned .nilIface ∧ w' = W) := Lib.hid fun W hW => BadUnwrap_any q2 _ _ W (HL9.out W hW).2.2.2.1
      have HR9 := Lib.hid (Below.refl W9.heap.size W9)
      have q3 : (⟨#[108, 111, 103, 48, 48, 48, 48, 48, 48, 48, 49]⟩ : ByteArray).size ≤ 20 := by decide
      have q4 : (dText 3).size ≤ 31 := dText_size 3 (by omega) (by omega)
      have HAW9 : Hid (∀ W, Below W9.heap.size W9 W → Calls Tryz.prog 13 #[] W fun e w' => e = .returned (.bool true) ∧ Below w.heap.size w w') := Lib.hid fun W hW => (HAW.out W (HL9.out W hW).2.2.2.2).mono fun e w' ⟨h1, h2⟩ => ⟨h1, (HL9.out W hW).2.2.2.2.trans (h2.mono (HL9.out W hW).2.2.2.2.size)⟩
      clear HL9 HG9 HK9 HN9 HAW
      have q5 : ¬ 9223372036854775807 < (⟨#[108, 111, 103, 48, 48, 48, 48, 48, 48, 48, 49]⟩ : ByteArray).size + 2 := by omega
      have q6 : ¬ 9223372036854775807 < (⟨#[108, 111, 103, 48, 48, 48, 48, 48, 48, 48, 49]⟩ : ByteArray).size + 2 + (dText 3).size := by omega
      generalize dText 3 = T at *
      generalize w7.heap.size = q7 at *
      go_wp2_with (first
        | (go_at_call 36; refine (HE3.out _ HR11.out).mono ?_; rintro e w14 ⟨rfl, HR14⟩)
        | (go_at_call 36; refine (HE1.out _ HR9.out).mono ?_; rintro e w10 ⟨rfl, g10, HR10⟩)
        | (go_at_call 37; refine (HE2.out _ HR10.out).mono ?_; rintro e w11 ⟨rfl, g11, HR11⟩)
        | (go_at_call 38; refine (HU2.out _ HR14.out).mono ?_; rintro e w15 ⟨rfl, rfl⟩)
        | (go_at_call 38; refine (HU1.out _ HR11.out).mono ?_; rintro e w12 ⟨rfl, rfl⟩)
        | (go_at_call 35; refine (isNum_any 3 3 _).mono ?_; rintro e w13 ⟨rfl, rfl⟩)
        | (go_at_call 13; refine (HAW9.out _ HR14.out).mono ?_; rintro e w16 ⟨rfl, hb16⟩))
      go_ret
      exact ⟨rfl, hb16⟩
    · rw [decide_eq_false hs] at HSM
      have HO := Lib.hid (HARG.out hs)
      clear HOPN HARG hs
      go_upto_region 37 with (first
        | (go_at_call 12; refine (HSM.out _).mono ?_; rintro e w6 ⟨rfl, rfl⟩)
        | (go_at_call 15; refine HO.out.mono ?_; rintro e w7 ⟨b, rfl, HBK, HB7⟩))
      go_upto_region 38 with fail
      have HAS := Lib.hid (As_self ⟨b, 0, none⟩ w7.heap.size (.pointer none) (w7.alloc (.cells #[.pointer none] 63)) (HET.out.below (HB7.out.alloc HB7.out.size _)) (Blk.fresh _ _ _))
      have HAS2 : Hid (∀ w8, (w7.alloc (.cells #[.pointer none] 63)).grownBy w8 (some w7.heap.size) → Blk w8 b 67 #[.string ⟨#[]⟩, .iface 49 (.int .i64 1)] ∧ Below w.heap.size w w8) := Lib.hid fun w8 hg => by
        have h1 := HBK.out.lt
        refine ⟨(hg.block b (by simp; omega) (fun e => by have := Option.some.inj e; omega)).trans (HBK.out.alloc _), ?_⟩
        exact (HB7.out.alloc HB7.out.size _).trans ((Chg.of_grown hg).below (by simp; have := HB7.out.size; omega) fun q e => by have := Option.some.inj e; have := HB7.out.size; omega)
      clear HO HSM
      go_upto_region 40 with (first
        | (go_at_call 34; refine HAS.out.mono ?_; rintro e w8 ⟨rfl, hgc, hgr⟩; obtain ⟨hk8, hb8⟩ := HAS2.out _ hgr; have HK8 := Lib.hid hk8; have HB8 := Lib.hid hb8; have HG8 := Lib.hid hgc; have g0 := hgc.cell 0; have k0 := hk8.cell 0; have k1 := hk8.cell 1; simp at g0 k0 k1; clear hgc hgr hk8 hb8)
        | (go_at_call 35; refine (isBad_any b 1 1 _ k1).mono ?_; rintro e w9 ⟨rfl, rfl⟩))
      go_upto_region 41 with fail
      obtain ⟨W9, hW9⟩ : ∃ W9, W9 = w9.alloc (.cells #[.string ⟨#[]⟩, .nilIface] 67) := ⟨_, rfl⟩
      rw [← hW9]
      have HB9 : Hid (Below w.heap.size w W9) := Lib.hid (by rw [hW9]; exact HB8.out.alloc HB8.out.size _)
      have HK9 : Hid (Blk W9 b 67 #[.string ⟨#[]⟩, .iface 49 (.int .i64 1)]) := Lib.hid (by rw [hW9]; exact HK8.out.alloc _)
      have HN9 : Hid (Blk W9 w9.heap.size 67 #[.string ⟨#[]⟩, .nilIface]) := Lib.hid (by rw [hW9]; exact Blk.fresh _ _ _)
      have HG9 : Hid (Blk W9 w7.heap.size 63 #[.pointer (some ⟨b, 0, none⟩)]) := Lib.hid (by rw [hW9]; exact HG8.out.alloc _)
      generalize w9.heap.size = q2 at *
      clear hW9 HAS HAS2 HBK HB7 HB8 HK8 HG8 g0 k0 k1
      have g9 := HG9.out.cell 0
      simp at g9
      have HL9 : Hid (∀ W, Below W9.heap.size W9 W → W.cell? ⟨w7.heap.size, 0, none⟩ = some (.pointer (some ⟨b, 0, none⟩)) ∧ Tab W ∧ Blk W b 67 #[.string ⟨#[]⟩, .iface 49 (.int .i64 1)] ∧ Blk W q2 67 #[.string ⟨#[]⟩, .nilIface] ∧ Below w.heap.size w W) := Lib.hid fun W hW => by
        have g := (HG9.out.below hW HG9.out.lt).cell 0
        simp at g
        exact ⟨g, HT.out.below (HB9.out.trans (hW.mono HB9.out.size)), HK9.out.below hW HK9.out.lt, HN9.out.below hW HN9.out.lt, HB9.out.trans (hW.mono HB9.out.size)⟩
      have HE1 : Hid (∀ W, Below W9.heap.size W9 W → Calls Tryz.prog 36 #[.pointer (some ⟨b, 0, none⟩)] W fun e w' => e = .returned (.string (⟨#[]⟩ ++ ByteArray.mk #[58, 32] ++ dText 1)) ∧ w'.cell? ⟨w7.heap.size, 0, none⟩ = some (.pointer (some ⟨b, 0, none⟩)) ∧ Hid (Below W9.heap.size W9 w')) := Lib.hid fun W hW => (badErr b ⟨#[]⟩ 1 (by omega) (by omega) W (HL9.out W hW).2.2.1 (by decide) (HL9.out W hW).2.1).mono fun e w' ⟨h1, h2⟩ => ⟨h1, (HL9.out w' (hW.trans (h2.mono hW.size))).1, Lib.hid (hW.trans (h2.mono hW.size))⟩
      have HE2 : Hid (∀ W, Below W9.heap.size W9 W → Calls Tryz.prog 37 #[.int .i64 1] W fun e w' => e = .returned (.string (dText 1)) ∧ w'.cell? ⟨w7.heap.size, 0, none⟩ = some (.pointer (some ⟨b, 0, none⟩)) ∧ Hid (Below W9.heap.size W9 w')) := Lib.hid fun W hW => (ErrnoError_any 1 W (by omega) (by omega) (HL9.out W hW).2.1).mono fun e w' ⟨h1, h2⟩ => ⟨h1, (HL9.out w' (hW.trans (h2.mono hW.size))).1, Lib.hid (hW.trans (h2.mono hW.size))⟩
      have HE3 : Hid (∀ W, Below W9.heap.size W9 W → Calls Tryz.prog 36 #[.pointer (some ⟨q2, 0, none⟩)] W fun e w' => e = .returned (.string (⟨#[]⟩ ++ ByteArray.mk #[58, 32])) ∧ Hid (Below W9.heap.size W9 w')) := Lib.hid fun W hW => (badErr0 q2 ⟨#[]⟩ W (HL9.out W hW).2.2.2.1 (by decide)).mono fun e w' ⟨h1, h2⟩ => ⟨h1, Lib.hid (hW.trans (h2.mono hW.size))⟩
      have HU1 : Hid (∀ W, Below W9.heap.size W9 W → Calls Tryz.prog 38 #[.pointer (some ⟨b, 0, none⟩)] W fun e w' => e = .returned (.iface 49 (.int .i64 1)) ∧ w' = W) := Lib.hid fun W hW => BadUnwrap_any b _ _ W (HL9.out W hW).2.2.1
      have HU2 : Hid (∀ W, Below W9.heap.size W9 W → Calls Tryz.prog 38 #[.pointer (some ⟨q2, 0, none⟩)] W fun e w' => e = .returned .nilIface ∧ w' = W) := Lib.hid fun W hW => BadUnwrap_any q2 _ _ W (HL9.out W hW).2.2.2.1
      have HR9 := Lib.hid (Below.refl W9.heap.size W9)
      have q3 : (⟨#[]⟩ : ByteArray).size ≤ 20 := by decide
      have q4 : (dText 1).size ≤ 31 := dText_size 1 (by omega) (by omega)
      have HAW9 : Hid (∀ W, Below W9.heap.size W9 W → Calls Tryz.prog 13 #[] W fun e w' => e = .returned (.bool true) ∧ Below w.heap.size w w') := Lib.hid fun W hW => (HAW.out W (HL9.out W hW).2.2.2.2).mono fun e w' ⟨h1, h2⟩ => ⟨h1, (HL9.out W hW).2.2.2.2.trans (h2.mono (HL9.out W hW).2.2.2.2.size)⟩
      clear HL9 HG9 HK9 HN9 HAW
      have q5 : ¬ 9223372036854775807 < (⟨#[]⟩ : ByteArray).size + 2 := by omega
      have q6 : ¬ 9223372036854775807 < (⟨#[]⟩ : ByteArray).size + 2 + (dText 1).size := by omega
      generalize dText 1 = T at *
      generalize w7.heap.size = q7 at *
      go_wp2_with (first
        | (go_at_call 36; refine (HE3.out _ HR11.out).mono ?_; rintro e w14 ⟨rfl, HR14⟩)
        | (go_at_call 36; refine (HE1.out _ HR9.out).mono ?_; rintro e w10 ⟨rfl, g10, HR10⟩)
        | (go_at_call 37; refine (HE2.out _ HR10.out).mono ?_; rintro e w11 ⟨rfl, g11, HR11⟩)
        | (go_at_call 38; refine (HU2.out _ HR14.out).mono ?_; rintro e w15 ⟨rfl, rfl⟩)
        | (go_at_call 38; refine (HU1.out _ HR11.out).mono ?_; rintro e w12 ⟨rfl, rfl⟩)
        | (go_at_call 35; refine (isNum_any 1 1 _).mono ?_; rintro e w13 ⟨rfl, rfl⟩)
        | (go_at_call 13; refine (HAW9.out _ HR14.out).mono ?_; rintro e w16 ⟨rfl, hb16⟩))
      go_ret
      exact ⟨rfl, hb16⟩
  · go_upto_region 34 with (first
      | (go_at_call 33; refine (HY.out.app2 (S := [⟨snapN, x2, 0⟩]) (S' := [⟨segName 1, xB, 0⟩, ⟨snapN, x2, 0⟩]) _ (by decide) (by decide) (by kernel_rfl)).mono ?_; rintro e wHX ⟨rfl, HX⟩)
      | (go_at_call 33; refine (HB.out.app1 (S := []) (S' := [⟨snapN, x2, 0⟩]) _ (by decide) 7 (by omega) (by decide) (by kernel_rfl)).mono ?_; rintro e wHY ⟨rfl, HY⟩))
    have HOPN : Hid (∀ n : Nat, 16 ≤ n → n ≤ 65536 → Calls Tryz.prog 15 #[.pointer (some ⟨w.heap.size + 1, 0, none⟩), .int .i64 n] wHX (NoOpen w ⟨#[108, 111, 103, 48, 48, 48, 48, 48, 48, 48, 49]⟩ 2)) := Lib.hid fun n h1 h2 => (show nameS 1 = ⟨#[108, 111, 103, 48, 48, 48, 48, 48, 48, 48, 49]⟩ by kernel_rfl) ▸ open_6 HT.out h1 h2 HX.out.din
    have HARG : Hid (¬ (16 ≤ size ∧ size ≤ 65536) → Calls Tryz.prog 15 #[.pointer (some ⟨w.heap.size + 1, 0, none⟩), .int .i64 size] wHX (NoOpen w ⟨#[]⟩ 1)) := Lib.hid fun h => Open_arg HX.out.1 h
    clear HX HB
    by_cases hs : 16 ≤ size ∧ size ≤ 65536
    · rw [decide_eq_true hs] at HSM
      obtain ⟨n, rfl⟩ : ∃ n : Nat, size = n := ⟨size.toNat, by omega⟩
      have HO := Lib.hid (HOPN.out n (by omega) (by omega))
      clear HOPN HARG hs
      go_upto_region 37 with (first
        | (go_at_call 12; refine (HSM.out _).mono ?_; rintro e w6 ⟨rfl, rfl⟩)
        | (go_at_call 15; refine HO.out.mono ?_; rintro e w7 ⟨b, rfl, HBK, HB7⟩))
      go_upto_region 38 with fail
      have HAS := Lib.hid (As_self ⟨b, 0, none⟩ w7.heap.size (.pointer none) (w7.alloc (.cells #[.pointer none] 63)) (HET.out.below (HB7.out.alloc HB7.out.size _)) (Blk.fresh _ _ _))
      have HAS2 : Hid (∀ w8, (w7.alloc (.cells #[.pointer none] 63)).grownBy w8 (some w7.heap.size) → Blk w8 b 67 #[.string ⟨#[108, 111, 103, 48, 48, 48, 48, 48, 48, 48, 49]⟩, .iface 49 (.int .i64 2)] ∧ Below w.heap.size w w8) := Lib.hid fun w8 hg => by
        have h1 := HBK.out.lt
        refine ⟨(hg.block b (by simp; omega) (fun e => by have := Option.some.inj e; omega)).trans (HBK.out.alloc _), ?_⟩
        exact (HB7.out.alloc HB7.out.size _).trans ((Chg.of_grown hg).below (by simp; have := HB7.out.size; omega) fun q e => by have := Option.some.inj e; have := HB7.out.size; omega)
      clear HO HSM
      go_upto_region 40 with (first
        | (go_at_call 34; refine HAS.out.mono ?_; rintro e w8 ⟨rfl, hgc, hgr⟩; obtain ⟨hk8, hb8⟩ := HAS2.out _ hgr; have HK8 := Lib.hid hk8; have HB8 := Lib.hid hb8; have HG8 := Lib.hid hgc; have g0 := hgc.cell 0; have k0 := hk8.cell 0; have k1 := hk8.cell 1; simp at g0 k0 k1; clear hgc hgr hk8 hb8)
        | (go_at_call 35; refine (isBad_any b 2 2 _ k1).mono ?_; rintro e w9 ⟨rfl, rfl⟩))
      go_upto_region 41 with fail
      obtain ⟨W9, hW9⟩ : ∃ W9, W9 = w9.alloc (.cells #[.string ⟨#[108, 111, 103, 48, 48, 48, 48, 48, 48, 48, 49]⟩, .nilIface] 67) := ⟨_, rfl⟩
      rw [← hW9]
      have HB9 : Hid (Below w.heap.size w W9) := Lib.hid (by rw [hW9]; exact HB8.out.alloc HB8.out.size _)
      have HK9 : Hid (Blk W9 b 67 #[.string ⟨#[108, 111, 103, 48, 48, 48, 48, 48, 48, 48, 49]⟩, .iface 49 (.int .i64 2)]) := Lib.hid (by rw [hW9]; exact HK8.out.alloc _)
      have HN9 : Hid (Blk W9 w9.heap.size 67 #[.string ⟨#[108, 111, 103, 48, 48, 48, 48, 48, 48, 48, 49]⟩, .nilIface]) := Lib.hid (by rw [hW9]; exact Blk.fresh _ _ _)
      have HG9 : Hid (Blk W9 w7.heap.size 63 #[.pointer (some ⟨b, 0, none⟩)]) := Lib.hid (by rw [hW9]; exact HG8.out.alloc _)
      generalize w9.heap.size = q2 at *
      clear hW9 HAS HAS2 HBK HB7 HB8 HK8 HG8 g0 k0 k1
      have g9 := HG9.out.cell 0
      simp at g9
      have HL9 : Hid (∀ W, Below W9.heap.size W9 W → W.cell? ⟨w7.heap.size, 0, none⟩ = some (.pointer (some ⟨b, 0, none⟩)) ∧ Tab W ∧ Blk W b 67 #[.string ⟨#[108, 111, 103, 48, 48, 48, 48, 48, 48, 48, 49]⟩, .iface 49 (.int .i64 2)] ∧ Blk W q2 67 #[.string ⟨#[108, 111, 103, 48, 48, 48, 48, 48, 48, 48, 49]⟩, .nilIface] ∧ Below w.heap.size w W) := Lib.hid fun W hW => by
        have g := (HG9.out.below hW HG9.out.lt).cell 0
        simp at g
        exact ⟨g, HT.out.below (HB9.out.trans (hW.mono HB9.out.size)), HK9.out.below hW HK9.out.lt, HN9.out.below hW HN9.out.lt, HB9.out.trans (hW.mono HB9.out.size)⟩
      have HE1 : Hid (∀ W, Below W9.heap.size W9 W → Calls Tryz.prog 36 #[.pointer (some ⟨b, 0, none⟩)] W fun e w' => e = .returned (.string (⟨#[108, 111, 103, 48, 48, 48, 48, 48, 48, 48, 49]⟩ ++ ByteArray.mk #[58, 32] ++ dText 2)) ∧ w'.cell? ⟨w7.heap.size, 0, none⟩ = some (.pointer (some ⟨b, 0, none⟩)) ∧ Hid (Below W9.heap.size W9 w')) := Lib.hid fun W hW => (badErr b ⟨#[108, 111, 103, 48, 48, 48, 48, 48, 48, 48, 49]⟩ 2 (by omega) (by omega) W (HL9.out W hW).2.2.1 (by decide) (HL9.out W hW).2.1).mono fun e w' ⟨h1, h2⟩ => ⟨h1, (HL9.out w' (hW.trans (h2.mono hW.size))).1, Lib.hid (hW.trans (h2.mono hW.size))⟩
      have HE2 : Hid (∀ W, Below W9.heap.size W9 W → Calls Tryz.prog 37 #[.int .i64 2] W fun e w' => e = .returned (.string (dText 2)) ∧ w'.cell? ⟨w7.heap.size, 0, none⟩ = some (.pointer (some ⟨b, 0, none⟩)) ∧ Hid (Below W9.heap.size W9 w')) := Lib.hid fun W hW => (ErrnoError_any 2 W (by omega) (by omega) (HL9.out W hW).2.1).mono fun e w' ⟨h1, h2⟩ => ⟨h1, (HL9.out w' (hW.trans (h2.mono hW.size))).1, Lib.hid (hW.trans (h2.mono hW.size))⟩
      have HE3 : Hid (∀ W, Below W9.heap.size W9 W → Calls Tryz.prog 36 #[.pointer (some ⟨q2, 0, none⟩)] W fun e w' => e = .returned (.string (⟨#[108, 111, 103, 48, 48, 48, 48, 48, 48, 48, 49]⟩ ++ ByteArray.mk #[58, 32])) ∧ Hid (Below W9.heap.size W9 w')) := Lib.hid fun W hW => (badErr0 q2 ⟨#[108, 111, 103, 48, 48, 48, 48, 48, 48, 48, 49]⟩ W (HL9.out W hW).2.2.2.1 (by decide)).mono fun e w' ⟨h1, h2⟩ => ⟨h1, Lib.hid (hW.trans (h2.mono hW.size))⟩
      have HU1 : Hid (∀ W, Below W9.heap.size W9 W → Calls Tryz.prog 38 #[.pointer (some ⟨b, 0, none⟩)] W fun e w' => e = .returned (.iface 49 (.int .i64 2)) ∧ w' = W) := Lib.hid fun W hW => BadUnwrap_any b _ _ W (HL9.out W hW).2.2.1
      have HU2 : Hid (∀ W, Below W9.heap.size W9 W → Calls Tryz.prog 38 #[.pointer (some ⟨q2, 0, none⟩)] W fun e w' => e = .returned .nilIface ∧ w' = W) := Lib.hid fun W hW => BadUnwrap_any q2 _ _ W (HL9.out W hW).2.2.2.1
      have HR9 := Lib.hid (Below.refl W9.heap.size W9)
      have q3 : (⟨#[108, 111, 103, 48, 48, 48, 48, 48, 48, 48, 49]⟩ : ByteArray).size ≤ 20 := by decide
      have q4 : (dText 2).size ≤ 31 := dText_size 2 (by omega) (by omega)
      have HAW9 : Hid (∀ W, Below W9.heap.size W9 W → Calls Tryz.prog 13 #[] W fun e w' => e = .returned (.bool true) ∧ Below w.heap.size w w') := Lib.hid fun W hW => (HAW.out W (HL9.out W hW).2.2.2.2).mono fun e w' ⟨h1, h2⟩ => ⟨h1, (HL9.out W hW).2.2.2.2.trans (h2.mono (HL9.out W hW).2.2.2.2.size)⟩
      clear HL9 HG9 HK9 HN9 HAW
      have q5 : ¬ 9223372036854775807 < (⟨#[108, 111, 103, 48, 48, 48, 48, 48, 48, 48, 49]⟩ : ByteArray).size + 2 := by omega
      have q6 : ¬ 9223372036854775807 < (⟨#[108, 111, 103, 48, 48, 48, 48, 48, 48, 48, 49]⟩ : ByteArray).size + 2 + (dText 2).size := by omega
      generalize dText 2 = T at *
      generalize w7.heap.size = q7 at *
      go_wp2_with (first
        | (go_at_call 36; refine (HE3.out _ HR11.out).mono ?_; rintro e w14 ⟨rfl, HR14⟩)
        | (go_at_call 36; refine (HE1.out _ HR9.out).mono ?_; rintro e w10 ⟨rfl, g10, HR10⟩)
        | (go_at_call 37; refine (HE2.out _ HR10.out).mono ?_; rintro e w11 ⟨rfl, g11, HR11⟩)
        | (go_at_call 38; refine (HU2.out _ HR14.out).mono ?_; rintro e w15 ⟨rfl, rfl⟩)
        | (go_at_call 38; refine (HU1.out _ HR11.out).mono ?_; rintro e w12 ⟨rfl, rfl⟩)
        | (go_at_call 35; refine (isNum_any 2 2 _).mono ?_; rintro e w13 ⟨rfl, rfl⟩)
        | (go_at_call 13; refine (HAW9.out _ HR14.out).mono ?_; rintro e w16 ⟨rfl, hb16⟩))
      go_ret
      exact ⟨rfl, hb16⟩
    · rw [decide_eq_false hs] at HSM
      have HO := Lib.hid (HARG.out hs)
      clear HOPN HARG hs
      go_upto_region 37 with (first
        | (go_at_call 12; refine (HSM.out _).mono ?_; rintro e w6 ⟨rfl, rfl⟩)
        | (go_at_call 15; refine HO.out.mono ?_; rintro e w7 ⟨b, rfl, HBK, HB7⟩))
      go_upto_region 38 with fail
      have HAS := Lib.hid (As_self ⟨b, 0, none⟩ w7.heap.size (.pointer none) (w7.alloc (.cells #[.pointer none] 63)) (HET.out.below (HB7.out.alloc HB7.out.size _)) (Blk.fresh _ _ _))
      have HAS2 : Hid (∀ w8, (w7.alloc (.cells #[.pointer none] 63)).grownBy w8 (some w7.heap.size) → Blk w8 b 67 #[.string ⟨#[]⟩, .iface 49 (.int .i64 1)] ∧ Below w.heap.size w w8) := Lib.hid fun w8 hg => by
        have h1 := HBK.out.lt
        refine ⟨(hg.block b (by simp; omega) (fun e => by have := Option.some.inj e; omega)).trans (HBK.out.alloc _), ?_⟩
        exact (HB7.out.alloc HB7.out.size _).trans ((Chg.of_grown hg).below (by simp; have := HB7.out.size; omega) fun q e => by have := Option.some.inj e; have := HB7.out.size; omega)
      clear HO HSM
      go_upto_region 40 with (first
        | (go_at_call 34; refine HAS.out.mono ?_; rintro e w8 ⟨rfl, hgc, hgr⟩; obtain ⟨hk8, hb8⟩ := HAS2.out _ hgr; have HK8 := Lib.hid hk8; have HB8 := Lib.hid hb8; have HG8 := Lib.hid hgc; have g0 := hgc.cell 0; have k0 := hk8.cell 0; have k1 := hk8.cell 1; simp at g0 k0 k1; clear hgc hgr hk8 hb8)
        | (go_at_call 35; refine (isBad_any b 1 1 _ k1).mono ?_; rintro e w9 ⟨rfl, rfl⟩))
      go_upto_region 41 with fail
      obtain ⟨W9, hW9⟩ : ∃ W9, W9 = w9.alloc (.cells #[.string ⟨#[]⟩, .nilIface] 67) := ⟨_, rfl⟩
      rw [← hW9]
      have HB9 : Hid (Below w.heap.size w W9) := Lib.hid (by rw [hW9]; exact HB8.out.alloc HB8.out.size _)
      have HK9 : Hid (Blk W9 b 67 #[.string ⟨#[]⟩, .iface 49 (.int .i64 1)]) := Lib.hid (by rw [hW9]; exact HK8.out.alloc _)
      have HN9 : Hid (Blk W9 w9.heap.size 67 #[.string ⟨#[]⟩, .nilIface]) := Lib.hid (by rw [hW9]; exact Blk.fresh _ _ _)
      have HG9 : Hid (Blk W9 w7.heap.size 63 #[.pointer (some ⟨b, 0, none⟩)]) := Lib.hid (by rw [hW9]; exact HG8.out.alloc _)
      generalize w9.heap.size = q2 at *
      clear hW9 HAS HAS2 HBK HB7 HB8 HK8 HG8 g0 k0 k1
      have g9 := HG9.out.cell 0
      simp at g9
      have HL9 : Hid (∀ W, Below W9.heap.size W9 W → W.cell? ⟨w7.heap.size, 0, none⟩ = some (.pointer (some ⟨b, 0, none⟩)) ∧ Tab W ∧ Blk W b 67 #[.string ⟨#[]⟩, .iface 49 (.int .i64 1)] ∧ Blk W q2 67 #[.string ⟨#[]⟩, .nilIface] ∧ Below w.heap.size w W) := Lib.hid fun W hW => by
        have g := (HG9.out.below hW HG9.out.lt).cell 0
        simp at g
        exact ⟨g, HT.out.below (HB9.out.trans (hW.mono HB9.out.size)), HK9.out.below hW HK9.out.lt, HN9.out.below hW HN9.out.lt, HB9.out.trans (hW.mono HB9.out.size)⟩
      have HE1 : Hid (∀ W, Below W9.heap.size W9 W → Calls Tryz.prog 36 #[.pointer (some ⟨b, 0, none⟩)] W fun e w' => e = .returned (.string (⟨#[]⟩ ++ ByteArray.mk #[58, 32] ++ dText 1)) ∧ w'.cell? ⟨w7.heap.size, 0, none⟩ = some (.pointer (some ⟨b, 0, none⟩)) ∧ Hid (Below W9.heap.size W9 w')) := Lib.hid fun W hW => (badErr b ⟨#[]⟩ 1 (by omega) (by omega) W (HL9.out W hW).2.2.1 (by decide) (HL9.out W hW).2.1).mono fun e w' ⟨h1, h2⟩ => ⟨h1, (HL9.out w' (hW.trans (h2.mono hW.size))).1, Lib.hid (hW.trans (h2.mono hW.size))⟩
      have HE2 : Hid (∀ W, Below W9.heap.size W9 W → Calls Tryz.prog 37 #[.int .i64 1] W fun e w' => e = .returned (.string (dText 1)) ∧ w'.cell? ⟨w7.heap.size, 0, none⟩ = some (.pointer (some ⟨b, 0, none⟩)) ∧ Hid (Below W9.heap.size W9 w')) := Lib.hid fun W hW => (ErrnoError_any 1 W (by omega) (by omega) (HL9.out W hW).2.1).mono fun e w' ⟨h1, h2⟩ => ⟨h1, (HL9.out w' (hW.trans (h2.mono hW.size))).1, Lib.hid (hW.trans (h2.mono hW.size))⟩
      have HE3 : Hid (∀ W, Below W9.heap.size W9 W → Calls Tryz.prog 36 #[.pointer (some ⟨q2, 0, none⟩)] W fun e w' => e = .returned (.string (⟨#[]⟩ ++ ByteArray.mk #[58, 32])) ∧ Hid (Below W9.heap.size W9 w')) := Lib.hid fun W hW => (badErr0 q2 ⟨#[]⟩ W (HL9.out W hW).2.2.2.1 (by decide)).mono fun e w' ⟨h1, h2⟩ => ⟨h1, Lib.hid (hW.trans (h2.mono hW.size))⟩
      have HU1 : Hid (∀ W, Below W9.heap.size W9 W → Calls Tryz.prog 38 #[.pointer (some ⟨b, 0, none⟩)] W fun e w' => e = .returned (.iface 49 (.int .i64 1)) ∧ w' = W) := Lib.hid fun W hW => BadUnwrap_any b _ _ W (HL9.out W hW).2.2.1
      have HU2 : Hid (∀ W, Below W9.heap.size W9 W → Calls Tryz.prog 38 #[.pointer (some ⟨q2, 0, none⟩)] W fun e w' => e = .returned .nilIface ∧ w' = W) := Lib.hid fun W hW => BadUnwrap_any q2 _ _ W (HL9.out W hW).2.2.2.1
      have HR9 := Lib.hid (Below.refl W9.heap.size W9)
      have q3 : (⟨#[]⟩ : ByteArray).size ≤ 20 := by decide
      have q4 : (dText 1).size ≤ 31 := dText_size 1 (by omega) (by omega)
      have HAW9 : Hid (∀ W, Below W9.heap.size W9 W → Calls Tryz.prog 13 #[] W fun e w' => e = .returned (.bool true) ∧ Below w.heap.size w w') := Lib.hid fun W hW => (HAW.out W (HL9.out W hW).2.2.2.2).mono fun e w' ⟨h1, h2⟩ => ⟨h1, (HL9.out W hW).2.2.2.2.trans (h2.mono (HL9.out W hW).2.2.2.2.size)⟩
      clear HL9 HG9 HK9 HN9 HAW
      have q5 : ¬ 9223372036854775807 < (⟨#[]⟩ : ByteArray).size + 2 := by omega
      have q6 : ¬ 9223372036854775807 < (⟨#[]⟩ : ByteArray).size + 2 + (dText 1).size := by omega
      generalize dText 1 = T at *
      generalize w7.heap.size = q7 at *
      go_wp2_with (first
        | (go_at_call 36; refine (HE3.out _ HR11.out).mono ?_; rintro e w14 ⟨rfl, HR14⟩)
        | (go_at_call 36; refine (HE1.out _ HR9.out).mono ?_; rintro e w10 ⟨rfl, g10, HR10⟩)
        | (go_at_call 37; refine (HE2.out _ HR10.out).mono ?_; rintro e w11 ⟨rfl, g11, HR11⟩)
        | (go_at_call 38; refine (HU2.out _ HR14.out).mono ?_; rintro e w15 ⟨rfl, rfl⟩)
        | (go_at_call 38; refine (HU1.out _ HR11.out).mono ?_; rintro e w12 ⟨rfl, rfl⟩)
        | (go_at_call 35; refine (isNum_any 1 1 _).mono ?_; rintro e w13 ⟨rfl, rfl⟩)
        | (go_at_call 13; refine (HAW9.out _ HR14.out).mono ?_; rintro e w16 ⟨rfl, hb16⟩))
      go_ret
      exact ⟨rfl, hb16⟩
end Go.Proofs.YtnomicnmpllajaaGreatDoor
end

section
namespace Go.Proofs.YtnomicnmpllajaaGreatDoor.walBads
open Go Go.ChangeShapes Go.WideShapes Go.ChangeAt Go.RowKit
set_option linter.unusedVariables false

theorem u8_wf {n : Int} (h : (Lit.int .u8 n).wf = true) : 0 ≤ n ∧ n < 256 := by
  have e1 : IntKind.u8.min = 0 := by decide
  have e2 : IntKind.u8.max = 255 := by decide
  simp [Lit.wf] at h
  exact ⟨by omega, by omega⟩
theorem et : Tryz.prog.globalNamed "errors.errorType" = some 0 := by kernel_rfl
theorem rt : (Tryz.prog.cutTypes.find? (·.1 == "internal/reflectlite.rtype")).map (·.2) = some 152 := by kernel_rfl
theorem oneRow : ((List.range 241).filter fun t => Tryz.prog.rowNamed t [101, 114, 114, 111, 114]) = [30] := by kernel_rfl
theorem handles : (Rows.walBadsRow.laid.filter fun x => x.2.handleName?.isSome) = [("errors.errorType", Rows.laid_errors_errorType)] := by kernel_rfl
theorem types_size : Tryz.prog.types.size = 241 := by kernel_rfl
theorem handle_of_laid {W : World} (h : laidMetH Tryz.prog Rows.walBadsRow.laid W) : ErrType W := by
  have h' := (laidMetH_iff.1 h).2
  rw [handles] at h'
  obtain ⟨name, u, ty, e1, e2, e3, e4, e5⟩ := h' _ (List.mem_singleton.2 rfl)
  have en : name = [101, 114, 114, 111, 114] := (Option.some.inj e1).symm
  subst en
  obtain rfl := Option.some.inj (rt.symm.trans e2)
  have hm : ty ∈ (List.range 241).filter fun t => Tryz.prog.rowNamed t [101, 114, 114, 111, 114] := List.mem_filter.2 ⟨List.mem_range.2 (by rw [← types_size]; exact e3), e4⟩
  rw [oneRow] at hm
  obtain rfl := List.mem_singleton.1 hm
  have hh : typeHandle Tryz.prog 30 = .pointer (some ⟨5, 30, none⟩) := by kernel_rfl
  rw [hh] at e5
  unfold ErrType
  simpa using World.var?_cell et e5 0
theorem table : ((Rows.walBadsRow.laid.filter fun x => x.2.handleName?.isNone).filter fun x => x.1 == "internal/strconv.uint64pow10") = [("internal/strconv.uint64pow10", Lib.tabData .u64 Lib.pow10Tab)] := by kernel_rfl
theorem tab_of_laid {W : World} (h : laidMetH Tryz.prog Rows.walBadsRow.laid W) : Tab W := by
  have h' := ((laidMetH_iff.1 h).1).filter fun x => x.1 == "internal/strconv.uint64pow10"
  rw [table] at h'
  exact Lib.tabIs_of_head tab_global (t := 202) (by kernel_rfl) Tryz.underlying202 Tryz.underlying187 (by kernel_rfl) (by kernel_rfl) h'
theorem door_met (os : Os) (args : Array Value) : laidMetH Tryz.prog Rows.walBadsRow.laid ((World.doorLaid Tryz.prog 400 os).forCall (fun _ _ => 0) ⟨#[], args, []⟩).memory :=
  laidMetH_of_parts3 (fuel := 8) (laidMet_of_run' 8 (by kernel_rfl) (by kernel_rfl)) (by kernel_rfl) (by kernel_rfl)
set_option maxRecDepth 100000 in
theorem lifted (os : Os) (started : os.Started) (H : Type) (enc : TypeId × Value → H) :
    ReturnsInHanded {} Tryz.checked os 7 .any (fun w args => (Rows.walBadsSpec.pre enc Tryz.prog Tryz.f7 [] false w args ∧ laidMetH Tryz.prog Rows.walBadsRow.laid w) ∧ sizedMet enc Tryz.prog Tryz.f7 (OpenSpec.ofChange Rows.walBadsSpec) false w args)
      (Rows.walBadsSpec.post enc Tryz.prog Tryz.f7 false true false false) := by
  refine tied.handed (C := Tryz.checked) (X := fun w _ => laidMetH Tryz.prog Rows.walBadsRow.laid w) (fun _ _ _ hh h => h.of_heap hh) tied.own started (by kernel_rfl) Tryz.func7
    (ChangeSpec.witness_shaped (enc := enc) (C := Tryz.checked) (os := os) (X := fun w _ => laidMetH Tryz.prog Rows.walBadsRow.laid w) false (World.doorLaid Tryz.prog 400 os) #[.int .u8 0, .int .i64 0] 8 rfl (World.shaped_of_RefB (by kernel_rfl) (by kernel_rfl)) (by kernel_rfl) (by kernel_rfl) (by kernel_rfl) (door_met os _)) ?_
  intro W base args ds gs before hval0 hW _ hsz hL _
  have hval : ∀ (j : Nat) t v, Tryz.f7.params[j]? = some t → args[j]? = some v → Value.okWide Tryz.prog W .any base t v := hval0
  have hW' := hW
  obtain ⟨p, q, hA0, hV, rfl, hfz, hnd⟩ := hW
  have hA : DataW.TrodAll enc Tryz.prog W 0 (fun _ => true) true Tryz.f7.params.toList args.toList ds p := hA0
  rw [Tryz.params7] at hA hval
  obtain ⟨v0, vs0, d0, ds0, p0, q0, hargs, rfl, rfl, h0, r0⟩ := trodAll_cons hA
  obtain ⟨v1, vs1, d1, ds1, p1, q1, rfl, rfl, rfl, h1, r1⟩ := trodAll_cons r0
  obtain ⟨rfl, rfl, rfl⟩ := trodAll_nil r1
  obtain rfl : args = #[v0, v1] := by cases args; simp_all
  obtain ⟨rfl, rfl⟩ := trodVars_none hV
  obtain ⟨a0, rfl, rfl, rfl, w0⟩ := open_int Tryz.underlying5 (hval 0 5 v0 rfl rfl) h0
  obtain ⟨a1, rfl, rfl, rfl, w1⟩ := open_int Tryz.underlying3 (hval 1 3 v1 rfl rfl) h1
  clear hA0 hval0
  refine (walBads_any a0 a1 W (tab_of_laid hL) (handle_of_laid hL) (u8_wf w0)).mono fun e W' ⟨he, bel⟩ => ?_
  subst he
  exact ⟨_, rfl, _, _, _, [], _, [], hW', trodAll_mk1 (shut_bool Tryz.underlying4 _), (trodAll_cons_mk (shut_int Tryz.underlying5 w0) (trodAll_cons_mk (shut_int Tryz.underlying3 w1) trodAll_mk0)), rfl, bel.frame _, fun h => by cases h⟩

theorem over : Rows.walBadsRow.holds Tryz.pinned (OpenSpec.ofChange Rows.walBadsSpec) :=
  OpenClaim.holds_of_wide 7 Tryz.f7 rfl rfl rfl rfl rfl rfl rfl ⟨rfl, rfl, rfl, rfl, rfl⟩ rfl rfl rfl rfl rfl (by kernel_rfl) Tryz.func7 (by kernel_rfl)
    (of_decide_eq_true (by kernel_rfl)) (by unfold Func.isWrapper; first | (rw [if_pos (by decide +kernel)]; kernel_rfl) | (rw [if_neg (by decide +kernel)]; exact ⟨rfl, rfl⟩))
    (fun os started H enc _ => lifted os started H enc)

theorem proved : Rows.WalBadsCardSaid :=
  Claim7.holds_tied_plain_at .later [] _ _ _ _
    over (fun _ h => by cases h) (by kernel_rfl) (fun _ h => by cases h) walBads_row_tie rfl ⟨rfl, rfl⟩ (by kernel_rfl) rfl
    (fun f fn hf hfn => by
      obtain rfl : f = 7 := Option.some.inj ((show Tryz.prog.funcNamed "daisychain/daisychainlaw04.WalBads" = some 7 by kernel_rfl).symm.trans hf) |>.symm
      obtain rfl : fn = Tryz.f7 := (Option.some.inj (Tryz.func7.symm.trans hfn)).symm
      exact ⟨by kernel_rfl, fun j t ht => by
        rw [Tryz.params7] at ht
        have h3 : t = 5 ∨ t = 3 := by
          rcases j with _ | _ | j
          · simp at ht; simp [← ht]
          · simp at ht; simp [← ht]
          · simp at ht
        rcases h3 with rfl | rfl
        · exact (show Tryz.prog.wantsStandIn 5 = false by kernel_rfl)
        · exact (show Tryz.prog.wantsStandIn 3 = false by kernel_rfl)⟩)
    (by kernel_rfl)
end Go.Proofs.YtnomicnmpllajaaGreatDoor.walBads
end
