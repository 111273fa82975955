/- What is proved here: what cmd.Read hands to cmd.exactly: what a reader read, and the reader. -/
import Derived.Test.YtkdncnhjlgidnaaGreatDoorCExact
import Derived.Test.YtkdncnhjlgidnaaGreatDoorCChg
import Derived.Deep.AppendLies
namespace Go.Proofs.YtkdncnhjlgidnaaGreatDoor
open Go Go.RowKit Go.Maps

/-- A command of numbers and texts. -/
def CM.of (ns : List Nat) (ts : List (List Int)) (nn : Int) (ff : Bool) (bA : Option Addr) (bn bc : Nat) : CM :=
  ⟨(ns.getD 0 0 : Nat), (ns.getD 1 0 : Nat), (ns.getD 2 0 : Nat), strOfNums (ts.getD 0 []), (ns.getD 5 0 : Nat), (ns.getD 6 0 : Nat), (ns.getD 7 0 : Nat), (ns.getD 8 0 : Nat), (ns.getD 9 0 : Nat), strOfNums (ts.getD 1 []), ff,
    strOfNums (ts.getD 2 []), strOfNums (ts.getD 3 []), strOfNums (ts.getD 4 []), strOfNums (ts.getD 5 []), bA, bn, bc, nn, (ns.getD 4 0 : Nat)⟩
theorem CM.of_zero : (CM.of [] [] (([] : List Nat).getD 3 0 : Nat) false none 0 0).cells = CM.zero.cells := rfl
theorem fill_num (v : Nat) : ∀ (ns : List Nat), ns.length < 10 → (CM.of ns [] (ns.getD 3 0 : Nat) false none 0 0).cells.setIfInBounds (noff.getD ns.length 0) (.int .i64 v) = (CM.of (ns ++ [v]) [] ((ns ++ [v]).getD 3 0 : Nat) false none 0 0).cells
  | [], _ => rfl
  | [_], _ => rfl
  | [_, _], _ => rfl
  | [_, _, _], _ => rfl
  | [_, _, _, _], _ => rfl
  | [_, _, _, _, _], _ => rfl
  | [_, _, _, _, _, _], _ => rfl
  | [_, _, _, _, _, _, _], _ => rfl
  | [_, _, _, _, _, _, _, _], _ => rfl
  | [_, _, _, _, _, _, _, _, _], _ => rfl
  | _ :: _ :: _ :: _ :: _ :: _ :: _ :: _ :: _ :: _ :: _, h => absurd h (by simp only [List.length_cons]; omega)
theorem fill_text (ns : List Nat) (nn : Int) (ff : Bool) (v : List Int) : ∀ (ts : List (List Int)), ts.length < 6 → (CM.of ns ts nn ff none 0 0).cells.setIfInBounds (toff.getD ts.length 0) (.string (strOfNums v)) = (CM.of ns (ts ++ [v]) nn ff none 0 0).cells
  | [], _ => rfl
  | [_], _ => rfl
  | [_, _], _ => rfl
  | [_, _, _], _ => rfl
  | [_, _, _, _], _ => rfl
  | [_, _, _, _, _], _ => rfl
  | _ :: _ :: _ :: _ :: _ :: _ :: _, h => absurd h (by simp only [List.length_cons]; omega)
theorem fill_n (ns : List Nat) (x : Int) : (CM.of ns [] (ns.getD 3 0 : Nat) false none 0 0).cells.setIfInBounds 16 (.int .i64 x) = (CM.of ns [] x false none 0 0).cells := rfl
theorem fill_ff (ns : List Nat) (x : Int) (b : Bool) : (CM.of ns [] x false none 0 0).cells.setIfInBounds 10 (.bool b) = (CM.of ns [] x b none 0 0).cells := rfl
theorem fill_bs (ns : List Nat) (ts : List (List Int)) (x : Int) (b : Bool) (A A' : Option Addr) (n c n' c' : Nat) : (CM.of ns ts x b A n c).cells.setIfInBounds 15 (.slice A' n' c') = (CM.of ns ts x b A' n' c').cells := rfl

theorem goNum_lt (xs : List Int) (p why : Nat) : (goNum xs p why).1 < 9223372036854775808 := by
  unfold goNum
  by_cases h : why = 0
  · rw [if_pos h]
    rcases numF_is 9 0 0 (xs.drop p) (by simp) (by omega) with ⟨v, u, e, hv, hu0, hul⟩ | ⟨er, e, he⟩
    · rw [e, if_pos rfl]; exact hv
    · rw [e, if_neg (by show ¬ er = 0; omega)]; show 0 < _; omega
  · rw [if_neg h]; show 0 < _; omega
theorem rdN_lt (xs : List Int) (p why : Nat) : ∀ k, ∀ v ∈ (rdN xs p why k).1, v < 9223372036854775808
  | 0, v, hv => by simp [rdN] at hv
  | k + 1, v, hv => by
    simp only [rdN] at hv
    rcases List.mem_append.1 hv with hv | hv
    · exact rdN_lt xs p why k v hv
    · rw [List.mem_singleton.1 hv]; exact goNum_lt _ _ _

/-- A reader, the bytes of which lie in no block below one. -/
def RdrF (w : World) (lo g : Nat) (A : Option Addr) (n c : Nat) (xs : List Int) (p why : Nat) : Prop := Rdr w g A n c xs p why ∧ (∀ ad, A = some ad → lo ≤ ad.block)
theorem Rd.keepA {w w' : World} {B : Nat} {k : IntKind} {A : Option Addr} {n c : Nat} {xs : List Int} (h : Rd w B k A n c xs) (hk : ∀ ad, A = some ad → ad.block < B → w'.heap[ad.block]? = w.heap[ad.block]?) : Rd w' B k A n c xs :=
  ⟨h.len, h.cap, h.max, h.nil, fun j u hu => by
    obtain ⟨b, o, e, hb, hc⟩ := h.place j u hu
    have h1 : w'.cell? ⟨b, o + j, none⟩ = w.cell? ⟨b, o + j, none⟩ := World.cell?_of_block (hk ⟨b, o, none⟩ e hb)
    exact ⟨b, o, e, hb, h1.trans hc⟩⟩
theorem RdrF.chg {w w' : World} {lo g : Nat} {A : Option Addr} {n c : Nat} {xs : List Int} {p why : Nat} {Φ : Nat → Prop} (h : RdrF w lo g A n c xs p why) (hc : Chg Φ w w') (hg : ¬ Φ g) (hl : ∀ k, Φ k → k < lo ∨ g < k) : RdrF w' lo g A n c xs p why :=
  ⟨⟨hc.heap h.1.1 hg, h.1.2.keepA fun ad e hb => hc.block _ (Nat.lt_trans hb h.1.1.lt) fun hp => by have := h.2 ad e; have := hl _ hp; omega⟩, h.2⟩
theorem Blk.chg {w w' : World} {b : Nat} {t : TypeId} {cs : Array Value} {Φ : Nat → Prop} (h : Blk w b t cs) (hc : Chg Φ w w') (hn : ¬ Φ b) : Blk w' b t cs := hc.heap h hn

theorem chg_step {w2 wr w4 : World} {b g q : Nat} {v : Value} (h1 : Chg (fun k => k = b ∨ k = g) w2 wr) (h2 : Chg (fun k => some g = some k) wr w4) : Chg (fun k => k = b ∨ k = g) w2 (w4.setCell ⟨b, q, none⟩ v) :=
  (h1.trans h2 (fun _ _ e => .inr (Option.some.inj e).symm)).trans (Chg.set w4 b q v) (fun _ _ e => .inl e)
theorem RdrF.set {w : World} {lo g b q : Nat} {v : Value} {A : Option Addr} {n c : Nat} {xs : List Int} {p why : Nat} (h : RdrF w lo g A n c xs p why) (hb : b < lo) (hg : g ≠ b) : RdrF (w.setCell ⟨b, q, none⟩ v) lo g A n c xs p why :=
  h.chg (Chg.set w b q v) hg fun k e => .inl (by rw [e]; exact hb)
set_option maxHeartbeats 400000 in
theorem Of_far (A : Option Addr) (n c : Nat) (xs : List Int) (w : World) (h : Rd w w.heap.size .u8 A n c xs) (hn : n ≤ 1000000) :
    Calls Tryz.prog 15 #[.slice A n c] w fun e w' =>
      ∃ (g : Nat) (A' : Option Addr) (c' : Nat), e = .returned (.pointer (some ⟨g, 0, none⟩)) ∧ w.heap.size ≤ g ∧ RdrF w' w.heap.size g A' n c' xs 0 0 ∧ Below w.heap.size w w' := by
  obtain ⟨i0, hi, hz0, hz1, hz2⟩ := info_parts info_u8
  go_enter Tryz.func15, Tryz.ntmps15
  go_wp2_with (at_builtin
               refine wpList_append_src rfl _ _ 22 rfl w.heap.size 5 i0 _ 1 1 Tryz.underlying22 hi hz0 hz1 hz2 rfl (by omega) (.slice none 0 0) 0 [] rfl (World.ownsRow_nil _ _ _ _) A n c (xs.map (Value.int .u8)) rfl (by have := h.len; simpa using this) h.nil h.news (ints_oneCell _ _) (by unfold maxLen; omega) (by omega) (Nat.le_refl _) ?_
               intro v1 w1 hown1 hg1
               rw [Nat.zero_add, List.nil_append] at hown1
               have hb1 : Below w.heap.size w w1 := (Below.refl _ _).grown hg1 (Nat.le_refl _) (fun k hk => by simp [Value.ownBlock] at hk)
               obtain ⟨A1, c1, rfl, hrd⟩ := Rd.of_own hown1
               have hfar : ∀ ad, A1 = some ad → w.heap.size ≤ ad.block := fun ad e => by
                 rcases hown1.2 with ⟨e2, _⟩ | ⟨g, cap, cur, e2, hb, _⟩
                 · simp only [Value.slice.injEq] at e2
                   rw [e] at e2
                   cases e2.1
                 · simp only [Value.slice.injEq] at e2
                   rw [e] at e2
                   have := Option.some.inj e2.1
                   rw [this]; exact hb)
  go_ret
  exact ⟨w1.heap.size, A1, c1, rfl, hb1.size, ⟨⟨Blk.fresh _ _ _, hrd.alloc (Nat.le_refl _) _⟩, hfar⟩, hb1.alloc hb1.size _⟩

theorem RdrF.num {w w' : World} {lo g : Nat} {A : Option Addr} {n c : Nat} {xs : List Int} {p why p' why' : Nat} (h : RdrF w lo g A n c xs p why) (h' : Rdr w' g A n c xs p' why') : RdrF w' lo g A n c xs p' why' := ⟨h', h.2⟩
theorem own_chg {w w' : World} {base e size n : Nat} {v : Value} {xs : List Value} {Φ : Nat → Prop} (h : w.ownsRow base e size v n xs) (hc : Chg Φ w w') (hn : ∀ k, base ≤ k → ¬ Φ k) : w'.ownsRow base e size v n xs := hc.own h fun g hg => hn g (h.lt g hg).1
theorem info_string : (Tryz.prog.info? 9).map (fun i => (i.zero, i.size, i.bytes)) = some (some (.string ⟨#[]⟩), 1, 16) := by kernel_rfl

/-- What a call of exactly with what was read answers, is what Read answers. -/
def Handed (w : World) (A : Option Addr) (n d : Nat) (xs : List Int) (Post : CM → Value → World → Prop) : Prop :=
  ∀ (W : World) (g : Nat) (A2 : Option Addr) (d2 : Nat) (bA : Option Addr) (bn bc lo : Nat), Below w.heap.size w W → w.heap.size < lo → Rdr W g A2 n d2 xs (raw 11 6 xs).p (raw 11 6 xs).why →
    W.ownsRow lo 9 1 (.slice bA bn bc) bn (((raw 11 6 xs).bs.map strOfNums).map Value.string) →
    Calls Tryz.prog 37 #[.slice A n d, .pointer (some ⟨g, 0, none⟩), .agg (CM.of (raw 11 6 xs).ns (raw 11 6 xs).ts (((raw 11 6 xs).ns.getD 3 0 : Nat) - 1) (((raw 11 6 xs).ns.getD 10 0 : Nat) == (1 : Int)) bA bn bc).cells, .func (.func 12) #[] #[]] W fun e w' =>
      ∃ (c : CM) (er : Value), e = .returned (.tuple #[.agg c.cells, er]) ∧ Below W.heap.size W w' ∧ ∀ W', Chg (fun k => k = w.heap.size) w' W' → w'.heap[w.heap.size]? = some (.cells CM.zero.cells 50 (0, 0)) → Post c er W'

set_option maxHeartbeats 12800000 in
set_option maxRecDepth 100000 in
theorem Read_via (A : Option Addr) (n d : Nat) (xs : List Int) (w : World) (h : Rd w w.heap.size .u8 A n d xs) (hx : ∀ x ∈ xs, 0 ≤ x ∧ x < 256) (hn : n ≤ 1000000) (Post : CM → Value → World → Prop) (H : Handed w A n d xs Post) :
    Calls Tryz.prog 13 #[.slice A n d] w fun e w' => ∃ (c : CM) (er : Value), e = .returned (.tuple #[.agg c.cells, er]) ∧ Below w.heap.size w w' ∧ Post c er w' := by
  have hlen := h.len
  subst hlen
  have HH := Lib.hid H
  have HX := Lib.hid hx
  have HRD := Lib.hid h
  obtain ⟨cz, hcz⟩ : ∃ cz, cz = CM.zero.cells := ⟨_, rfl⟩
  have HCZ := Lib.hid hcz
  clear H hx h
  go_enter Tryz.func13, Tryz.ntmps13
  go_upto_region 2 with fail
  change Code.wp _ _ _ _ ((w.alloc (.cells CM.zero.cells 50)).alloc (.cells CM.zero.cells 50))
  rw [← hcz]
  clear hcz
  have hb2 : Blk ((w.alloc (.cells cz 50)).alloc (.cells cz 50)) w.heap.size 50 cz := (Blk.fresh w _ cz).alloc _
  have hb4 : Blk ((w.alloc (.cells cz 50)).alloc (.cells cz 50)) (w.heap.size + 1) 50 cz := by simpa using Blk.fresh (w.alloc (.cells cz 50)) 50 cz
  have hbel : Below w.heap.size w ((w.alloc (.cells cz 50)).alloc (.cells cz 50)) := ((Below.refl _ _).alloc (Nat.le_refl _) _).alloc (by simp) _
  have hsW : ((w.alloc (.cells cz 50)).alloc (.cells cz 50)).heap.size = w.heap.size + 2 := by simp
  generalize (w.alloc (.cells cz 50)).alloc (.cells cz 50) = W at *
  have HB2 := Lib.hid hb2; have HB4 := Lib.hid hb4; have HBEL := Lib.hid hbel; have HSW := Lib.hid hsW
  clear hb2 hb4 hbel hsW
  go_wp2_with (first
    | (go_at_call 15; refine (Of_far A _ d xs W ((HRD.out.below HBEL.out).more HBEL.out.size) hn).mono ?_; rintro e w1 ⟨g, A2, d2, rfl, hg, hrd, hb1⟩
       have HR1 := Lib.hid hrd; have HL1 := Lib.hid hb1; have HG1 : Hid (w.heap.size + 2 ≤ g ∧ g < w1.heap.size) := Lib.hid ⟨by rw [← HSW.out]; exact hg, hrd.1.1.lt⟩
       clear hg hrd hb1)
    | (go_at_call 31; refine (numbers_any (w.heap.size + 1) w1).mono ?_; rintro e w2 ⟨s1, rfl, hs1, hbk, hb2⟩
       have HR2 := Lib.hid (HR1.out.chg (Chg.of_below (Φ := fun _ => False) hb2) id fun _ h => h.elim)
       have HL2 := Lib.hid (HL1.out.trans (hb2.mono HL1.out.size)); have HK1 := Lib.hid hbk; have HS1 : Hid (s1 ≠ w.heap.size + 1 ∧ s1 ≠ g) := Lib.hid (by have := HG1.out; omega)
       clear hbk hb2 hs1))
  have HC4 := Lib.hid (HB4.out.below HL2.out HB4.out.lt)
  have HC2 := Lib.hid (HB2.out.below HL2.out HB2.out.lt)
  clear HB4 HB2 HR1 HL1
  go_loopw [14] (fun v14 wr => ∃ j : Nat, j ≤ 10 ∧ v14 = .int .i64 j ∧ Hid (Blk wr (w.heap.size + 1) 50 (CM.of (rdN xs 0 0 j).1 [] ((rdN xs 0 0 j).1.getD 3 0 : Nat) false none 0 0).cells) ∧ Hid (RdrF wr W.heap.size g A2 xs.length d2 xs (rdN xs 0 0 j).2.1 (rdN xs 0 0 j).2.2) ∧ Hid (Chg (fun k => k = w.heap.size + 1 ∨ k = g) w2 wr)) (fun i _ => 10 - (intOf i).toNat)
  case atStart => exact ⟨0, by omega, rfl, by rw [HCZ.out] at HC4; exact HC4, HR2, Lib.hid (Chg.refl _ _)⟩
  case round =>
    obtain ⟨j, hj, rfl, hc4, hrr, hch⟩ := hrel
    by_cases hlt : j < 10
    · have hjz : (j : Int) < 10 := by omega
      have hpt : wr.cell? ⟨s1, j, none⟩ = some (.pointer (some ⟨w.heap.size + 1, noff.getD j 0, none⟩)) := by
        rw [hch.out.cell (p := ⟨s1, j, none⟩) HK1.out.lt (by have := HS1.out; show ¬ (s1 = _ ∨ s1 = _); omega)]
        exact ptr_at (l := noff) HK1.out (Below.refl _ _) hlt
      have hok := rdN_ok (xs := xs) (p := 0) (why := 0) (Nat.zero_le _) (.inl rfl) j
      have hold := CM.num_at (CM.of (rdN xs 0 0 j).1 [] ((rdN xs 0 0 j).1.getD 3 0 : Nat) false none 0 0) j hlt
      have hfl := fill_num (goNum xs (rdN xs 0 0 j).2.1 (rdN xs 0 0 j).2.2).1 (rdN xs 0 0 j).1 (by rw [rdN_len]; exact hlt)
      rw [rdN_len] at hfl
      have hnx : rdN xs 0 0 (j + 1) = ((rdN xs 0 0 j).1 ++ [(goNum xs (rdN xs 0 0 j).2.1 (rdN xs 0 0 j).2.2).1], (goNum xs (rdN xs 0 0 j).2.1 (rdN xs 0 0 j).2.2).2) := rfl
      have HNX := Lib.hid hnx; have HFL := Lib.hid hfl; have HOLD := Lib.hid hold
      have HCALL := Lib.hid (ReaderNum_any g A2 xs.length d2 xs (rdN xs 0 0 j).2.1 (rdN xs 0 0 j).2.2 wr hrr.out.1 hok.2 HX.out hn hok.1)
      clear hnx hfl hold
      generalize hq : noff.getD j 0 = q at *
      clear hq
      go_wp2_with (go_at_call 16; refine HCALL.out.mono ?_; rintro e w4 ⟨rfl, hr4, hg4⟩
                   have HR4 := Lib.hid hr4; have HG4 := Lib.hid (Chg.of_grown hg4)
                   have HB4 := Lib.hid (hc4.out.grown hg4 (by have := HG1.out; intro e; injection e with e; omega))
                   have c4 := (HB4.out.cell q).trans HOLD.out
                   have f4 := HB4.out.free q
                   clear hr4 hg4)
      have hsg := HG1.out
      have hsw := HSW.out
      go_roundw
      case rel =>
        refine ⟨j + 1, by omega, by go_num, Lib.hid ?_, Lib.hid ((hrr.out.num HR4.out).set (by omega) (by omega)), Lib.hid (chg_step hch.out HG4.out)⟩
        have := HB4.out.set q (.int .i64 (goNum xs (rdN xs 0 0 j).2.1 (rdN xs 0 0 j).2.2).1)
        rw [HFL.out] at this
        exact this
      case measure => simp [intOf]; omega
    · obtain rfl : j = 10 := by omega
      have hsg := HG1.out
      have hsw := HSW.out
      have hns := rdN_lt xs 0 0 10
      have hok := rdN_ok (xs := xs) (p := 0) (why := 0) (Nat.zero_le _) (.inl rfl) 10
      have hlen10 := rdN_len xs 0 0 10
      have h11 : rawN 11 xs = ((rdN xs 0 0 10).1 ++ [(goNum xs (rdN xs 0 0 10).2.1 (rdN xs 0 0 10).2.2).1], (goNum xs (rdN xs 0 0 10).2.1 (rdN xs 0 0 10).2.2).2) := rfl
      have H11 := Lib.hid h11
      clear h11 HR2 HC4 HK1 HS1
      generalize hN : rdN xs 0 0 10 = N at *
      obtain ⟨ns, p, why⟩ := N
      clear hN
      dsimp only at hns hok hlen10 hrr hc4 H11
      have hx3 : ns.getD 3 0 < 9223372036854775808 := hns _ (by rw [List.getD_eq_getElem?_getD, List.getElem?_eq_getElem (show 3 < ns.length by omega)]; exact List.getElem_mem _)
      have hw : wrap64 (((ns.getD 3 0 : Nat) : Int) - 1) = ((ns.getD 3 0 : Nat) : Int) - 1 := IntWalk.wrap64_in _ (by omega)
      have c16 : wr.cell? ⟨w.heap.size + 1, 16, none⟩ = some (.int .i64 ((ns.getD 3 0 : Nat) : Int)) := hc4.out.cell 16
      have f16 := hc4.out.free 16
      have HB4 := Lib.hid (hc4.out.set 16 (.int .i64 (((ns.getD 3 0 : Nat) : Int) - 1)))
      have HRA := Lib.hid (hrr.out.set (b := w.heap.size + 1) (q := 16) (v := .int .i64 (((ns.getD 3 0 : Nat) : Int) - 1)) (by omega) (by omega))
      have HCHA := Lib.hid (hch.out.trans (Chg.set wr (w.heap.size + 1) 16 (.int .i64 (((ns.getD 3 0 : Nat) : Int) - 1))) (fun _ _ e => .inl e))
      rw [fill_n] at HB4
      clear hc4 hrr hch hns
      generalize hx3' : ns.getD 3 0 = x3 at *
      have HX3 := Lib.hid hx3'
      clear hx3'
      go_wp2_with fail
      generalize wr.setCell ⟨w.heap.size + 1, 16, none⟩ (.int .i64 ((x3 : Int) - 1)) = wa at *
      have HCALL := Lib.hid (ReaderNum_any g A2 xs.length d2 xs p why wa HRA.out.1 hok.2 HX.out hn hok.1)
      clear c16 f16 hw
      refine HCALL.out.mono ?_
      rintro e w4 ⟨rfl, hr4, hg4⟩
      have HR4 := Lib.hid (HRA.out.num hr4); have HG4 := Lib.hid (Chg.of_grown hg4)
      have HB5 := Lib.hid (HB4.out.grown hg4 (by intro e; injection e with e; omega))
      have c10 : w4.cell? ⟨w.heap.size + 1, 10, none⟩ = some (.bool false) := HB5.out.cell 10
      have f10 := HB5.out.free 10
      clear hr4 hg4 HB4 HRA HCALL
      have hok11 := rdN_ok (xs := xs) (p := 0) (why := 0) (Nat.zero_le _) (.inl rfl) 11
      generalize hT : goNum xs p why = T at *
      obtain ⟨x10, p11, why11⟩ := T
      dsimp only at H11
      have hok2 : p11 ≤ xs.length ∧ Ok3 why11 := by
        have h1 := H11.out
        unfold rawN at h1
        rw [h1] at hok11
        exact hok11
      clear hok11 hT
      go_wp2_with fail
      have HB6 := Lib.hid (HB5.out.set 10 (.bool ((x10 : Int) == 1)))
      rw [fill_ff] at HB6
      have HRB := Lib.hid (HR4.out.set (b := w.heap.size + 1) (q := 10) (v := .bool ((x10 : Int) == 1)) (by omega) (by omega))
      have HCHB := Lib.hid (chg_step (b := w.heap.size + 1) (q := 10) (v := .bool ((x10 : Int) == 1)) HCHA.out HG4.out)
      clear c10 f10 HB5 HR4 HG4 HCHA hok
      generalize w4.setCell ⟨w.heap.size + 1, 10, none⟩ (.bool ((x10 : Int) == 1)) = wb at *
      generalize hFF : ((x10 : Int) == 1) = ff at *
      have HFF := Lib.hid hFF
      clear hFF
      refine (texts_any (w.heap.size + 1) wb).mono ?_
      rintro e w5 ⟨s2, rfl, hs2, hbk, hb5⟩
      have HC4 := Lib.hid (HB6.out.below hb5 HB6.out.lt)
      have HR5 := Lib.hid (HRB.out.chg (Chg.of_below (Φ := fun _ => False) hb5) id fun _ h => h.elim)
      have HCH5 := Lib.hid (HCHB.out.trans (Chg.of_below (Φ := fun _ => False) hb5) fun _ _ h => h.elim)
      have HK2 := Lib.hid hbk
      have HS2 : Hid (s2 ≠ w.heap.size + 1 ∧ s2 ≠ g) := Lib.hid (by have h1 := HRB.out.1.1.lt; have h2 := HB6.out.lt; omega)
      clear hbk hb5 hs2 HB6 HRB HCHB
      go_wp2_with fail
      go_loopw [34] (fun v34 wr => ∃ j : Nat, j ≤ 6 ∧ v34 = .int .i64 j ∧ Hid (Blk wr (w.heap.size + 1) 50 (CM.of ns (rdT xs p11 why11 j).1 ((x3 : Int) - 1) ff none 0 0).cells) ∧ Hid (RdrF wr W.heap.size g A2 xs.length d2 xs (rdT xs p11 why11 j).2.1 (rdT xs p11 why11 j).2.2) ∧ Hid (Chg (fun k => k = w.heap.size + 1 ∨ k = g) w5 wr)) (fun i _ => 6 - (intOf i).toNat)
      case atStart => exact ⟨0, by omega, rfl, HC4, HR5, Lib.hid (Chg.refl _ _)⟩
      case round =>
        obtain ⟨j, hj, rfl, hc4, hrr, hch⟩ := hrel
        by_cases hlt : j < 6
        · have hjz : (j : Int) < 6 := by omega
          have hpt : wr.cell? ⟨s2, j, none⟩ = some (.pointer (some ⟨w.heap.size + 1, toff.getD j 0, none⟩)) := by
            rw [hch.out.cell (p := ⟨s2, j, none⟩) HK2.out.lt (by have := HS2.out; show ¬ (s2 = _ ∨ s2 = _); omega)]
            exact ptr_at (l := toff) HK2.out (Below.refl _ _) hlt
          have hok := rdT_ok (xs := xs) (p := p11) (why := why11) hok2.1 hok2.2 j
          have hold := CM.text_at (CM.of ns (rdT xs p11 why11 j).1 ((x3 : Int) - 1) ff none 0 0) j hlt
          have hfl := fill_text ns ((x3 : Int) - 1) ff (goText xs (rdT xs p11 why11 j).2.1 (rdT xs p11 why11 j).2.2 256).1 (rdT xs p11 why11 j).1 (by rw [rdT_len]; exact hlt)
          rw [rdT_len] at hfl
          have HFL := Lib.hid hfl; have HOLD := Lib.hid hold
          have HCALL := Lib.hid (ReaderText_any g A2 xs.length d2 xs (rdT xs p11 why11 j).2.1 (rdT xs p11 why11 j).2.2 wr hrr.out.1 hok.2 HX.out hn hok.1 256)
          clear hfl hold
          generalize hq : toff.getD j 0 = q at *
          clear hq
          go_wp2_with (go_at_call 36; refine HCALL.out.mono ?_; rintro e w4 ⟨rfl, hr4, hg4⟩
                       have HR4 := Lib.hid hr4; have HG4 := Lib.hid (Chg.of_grown hg4)
                       have HB4 := Lib.hid (hc4.out.grown hg4 (by have := HG1.out; intro e; injection e with e; omega))
                       have c4 := (HB4.out.cell q).trans HOLD.out
                       have f4 := HB4.out.free q
                       clear hr4 hg4)
          go_roundw
          case rel =>
            refine ⟨j + 1, by omega, by go_num, Lib.hid ?_, Lib.hid ((hrr.out.num HR4.out).set (by omega) (by omega)), Lib.hid (chg_step hch.out HG4.out)⟩
            have := HB4.out.set q (.string (strOfNums (goText xs (rdT xs p11 why11 j).2.1 (rdT xs p11 why11 j).2.2 256).1))
            rw [HFL.out] at this
            exact this
          case measure => simp [intOf]; omega
        · obtain rfl : j = 6 := by omega
          have hok := rdT_ok (xs := xs) (p := p11) (why := why11) hok2.1 hok2.2 6
          have h12 : rawT 11 6 xs = rdT xs p11 why11 6 := by unfold rawT; rw [H11.out]
          have H12 := Lib.hid h12
          clear h12 HC4 HR5 HK2 HS2
          generalize hT : rdT xs p11 why11 6 = T at *
          obtain ⟨ts, p17, why17⟩ := T
          clear hT
          dsimp only at hok hrr hc4 H12
          have HCALL := Lib.hid (ReaderNum_any g A2 xs.length d2 xs p17 why17 wr hrr.out.1 hok.2 HX.out hn hok.1)
          go_wp2_with fail
          refine HCALL.out.mono ?_
          rintro e w4 ⟨rfl, hr4, hg4⟩
          have HR6 := Lib.hid (hrr.out.num hr4)
          have HC6 := Lib.hid (hc4.out.grown hg4 (by intro e; injection e with e; omega))
          have HCH6 := Lib.hid (hch.out.trans (Chg.of_grown hg4) (fun _ _ e => .inr (Option.some.inj e).symm))
          have hok3 : (goNum xs p17 why17).2.1 ≤ xs.length ∧ Ok3 (goNum xs p17 why17).2.2 := ⟨goNum_le hok.1, goNum_ok3 hok.2⟩
          have hlt18 := goNum_lt xs p17 why17
          have h18 : rawM 11 6 xs = goNum xs p17 why17 := by unfold rawM; rw [H12.out]
          have H18 := Lib.hid h18
          clear h18 hr4 hg4 HCALL
          generalize goNum xs p17 why17 = M at *
          obtain ⟨many, p18, why18⟩ := M
          dsimp only at hok3 hlt18 H18 HR6
          obtain ⟨K, hK⟩ : ∃ K, K = min many 10 := ⟨_, rfl⟩
          have hmin : min (many : Int) 10 = (K : Int) := by omega
          have hK10 : K ≤ 10 := by omega
          have HKK := Lib.hid hK
          clear hK
          go_wp2_with fail
          clear hmin
          have c15 : w4.cell? ⟨w.heap.size + 1, 15, none⟩ = some (.slice none 0 0) := HC6.out.cell 15
          obtain ⟨i0, hi, hz0, hz1, hz2⟩ := info_parts info_string
          have hg4 : g < w4.heap.size := HR6.out.1.1.lt
          clear c15 hrr hc4 hch
          go_loopw [46] (fun v46 wr => ∃ (k : Nat) (bA : Option Addr) (c : Nat), k ≤ K ∧ v46 = .int .i64 k ∧ Hid (Blk wr (w.heap.size + 1) 50 (CM.of ns ts ((x3 : Int) - 1) ff bA k c).cells) ∧ Hid (wr.ownsRow w4.heap.size 9 1 (.slice bA k c) k (((rdT xs p18 why18 k).1.map strOfNums).map Value.string)) ∧ Hid (RdrF wr W.heap.size g A2 xs.length d2 xs (rdT xs p18 why18 k).2.1 (rdT xs p18 why18 k).2.2) ∧ Hid (Chg (fun k => k = w.heap.size + 1 ∨ k = g) w4 wr)) (fun i _ => K - (intOf i).toNat)
          case atStart => exact ⟨0, none, 0, Nat.zero_le _, rfl, HC6, Lib.hid (World.ownsRow_nil _ _ _ _), HR6, Lib.hid (Chg.refl _ _)⟩
          case round =>
            obtain ⟨k, bA, c, hk, rfl, hc4, hrow, hrr, hch⟩ := hrel
            by_cases hlt : k < K
            · have hkz : (k : Int) < K := by omega
              have hok := rdT_ok (xs := xs) (p := p18) (why := why18) hok3.1 hok3.2 k
              have c15 : wr.cell? ⟨w.heap.size + 1, 15, none⟩ = some (.slice bA k c) := hc4.out.cell 15
              have HCALL := Lib.hid (ReaderText_any g A2 xs.length d2 xs (rdT xs p18 why18 k).2.1 (rdT xs p18 why18 k).2.2 wr.drew (hrr.out.chg (Chg.drew (Φ := fun _ => False) wr) id fun _ h => h.elim).1 hok.2 HX.out hn hok.1 256)
              have hnx : rdT xs p18 why18 (k + 1) = ((rdT xs p18 why18 k).1 ++ [(goText xs (rdT xs p18 why18 k).2.1 (rdT xs p18 why18 k).2.2 256).1], (goText xs (rdT xs p18 why18 k).2.1 (rdT xs p18 why18 k).2.2 256).2) := rfl
              have HNX := Lib.hid hnx
              clear hnx
              generalize hT : goText xs (rdT xs p18 why18 k).2.1 (rdT xs p18 why18 k).2.2 256 = T at *
              clear hT
              go_upto_region 17 with fail
              refine wp_region_G (fun w' => w'.cell? ⟨w.heap.size + 1, 15, none⟩ = some (.slice bA k c)) 7 (by kernel_rfl) ?_
              have hS0 : wr.drew.cell? ⟨w.heap.size + 1, 15, none⟩ = some (.slice bA k c) := c15
              refine wpAnyG_take (i := 0) (oi := _) (v := ?_) rfl (by kernel_rfl) (by kernel_rfl) (by kernel_rfl) (by kernel_rfl) (fun _ _ _ h => h) (Or.inl ⟨by rfl, ?_⟩) hS0 ?_
              rotate_left
              · (intro wS hSw; go_simp; try with_reducible rfl)
              try simp only [Act.put]
              refine wpAnyG_take (i := 1) (oi := _) (v := ?_) rfl (by kernel_rfl) (by kernel_rfl) (by kernel_rfl) (by kernel_rfl) (fun _ _ _ h => h) (Or.inl ⟨by rfl, ?_⟩) hS0 ?_
              rotate_left
              · (intro wS hSw; go_simp; try with_reducible rfl)
              try simp only [Act.put]
              refine wpAnyG_take (i := 2) (oi := _) (v := ?_) rfl (by kernel_rfl) (by kernel_rfl) (by kernel_rfl) (by kernel_rfl) (fun _ _ _ h => h) (Or.inl ⟨by rfl, ?_⟩) hS0 ?_
              rotate_left
              · (intro wS hSw; go_simp; try with_reducible rfl)
              try simp only [Act.put]
              refine wpAnyG_one (i := 3) (o := ⟨some 51, _, _, _, _, _⟩) (by kernel_rfl) rfl (fun K hK => ?_)
              go_simp
              refine HCALL.out.mono ?_
              rintro e w5 ⟨rfl, hr5, hg5⟩
              have HG5 := Lib.hid ((Chg.drew (Φ := fun k => some g = some k) wr).trans (Chg.of_grown hg5) (fun _ _ e => e))
              have HR5 := Lib.hid (hrr.out.num hr5)
              have HC5 := Lib.hid (hc4.out.chg HG5.out (by intro e; injection e with e; omega))
              have HO5 := Lib.hid (own_chg hrow.out HG5.out (fun k hk e => by injection e with e; omega))
              have hs5 := HG5.out.size
              have hs4 := hch.out.size
              have hS5 : w5.cell? ⟨w.heap.size + 1, 15, none⟩ = some (.slice bA k c) := HC5.out.cell 15
              clear hr5 hg5 hS0 c15 HCALL
              dsimp only
              refine hK.out _ _ (fun _ => hS5) ?_
              clear hK K
              try simp only [Act.put]
              refine wpAnyG_one (i := 4) (o := ⟨some 52, _, _, _, _, _⟩) (by kernel_rfl) rfl (fun K hK => ?_)
              go_simp
              have HC6' := Lib.hid (HC5.out.alloc (.cells #[.string (strOfNums T.1)] 9))
              have HO6 := Lib.hid (HO5.out.alloc (.cells #[.string (strOfNums T.1)] 9))
              have hS6 : (w5.alloc (.cells #[.string (strOfNums T.1)] 9)).cell? ⟨w.heap.size + 1, 15, none⟩ = some (.slice bA k c) := HC6'.out.cell 15
              have HNW := Lib.hid (news_new w5 (.string (strOfNums T.1)) 9)
              refine hK.out _ _ (fun _ => hS6) ?_
              clear hK K
              try simp only [Act.put]
              refine wpAnyG_one (i := 5) (o := ⟨some 53, _, _, _, _, _⟩) (by kernel_rfl) rfl (fun K hK => ?_)
              refine step_append_where (o := ⟨some 53, _, _, _, _, _⟩) rfl (.tmp 49) (.tmp 52) 48 rfl w4.heap.size 9 i0 _ 1 16 Tryz.underlying48 hi hz0 hz1 hz2 rfl (by omega) _ k _ rfl HO6.out (some ⟨w5.heap.size, 0, none⟩) 1 1 [.string (strOfNums T.1)] rfl rfl (fun h => by cases h) HNW.out (by intro u hu; rw [List.mem_singleton.1 hu]; rfl) (by unfold maxLen; omega) (by omega) (by simp; omega) ?_
              intro v7 w7 ho7 hg7 _
              obtain ⟨gb, c7, rfl, hgb, _⟩ := ho7.form (by omega)
              have HO7 := Lib.hid ho7
              have HG7 := Lib.hid (Chg.of_grown hg7)
              have HQ : Hid (∀ q, (Value.slice bA k c).ownBlock = some q → w4.heap.size ≤ q) := Lib.hid fun q hq => (HO6.out.lt q hq).1
              have HC7 := Lib.hid (HC6'.out.chg HG7.out (fun e => by have := HQ.out _ e; have := HC6.out.lt; omega))
              have HCH7 := Lib.hid (((hch.out.trans HG5.out (fun _ _ e => .inr (Option.some.inj e).symm)).trans (Chg.alloc (Φ := fun _ => False) w5 (.cells #[.string (strOfNums T.1)] 9)) (fun _ _ h => h.elim)).trans HG7.out (fun q hq e => by have := HQ.out _ e; omega))
              have HR7 := Lib.hid ((HR5.out.chg (Chg.alloc (Φ := fun _ => False) w5 (.cells #[.string (strOfNums T.1)] 9)) id fun _ h => h.elim).chg (HG7.out.mono (Ψ := fun k => w4.heap.size ≤ k) fun q _ e => HQ.out q e) (by omega) (fun q hq => .inr (by omega)))
              have hS7 : w7.cell? ⟨w.heap.size + 1, 15, none⟩ = some (.slice bA k c) := HC7.out.cell 15
              have f7 := HC7.out.free 15
              clear ho7 hg7 HC5 HO5 HO6 HC6' HNW hS5 hS6 HG5 HG7 HR5
              refine hK.out _ _ (fun _ => hS7) ?_
              clear hK K
              try simp only [Act.put]
              refine wpAnyG_one (i := 6) (o := ⟨some 54, _, _, _, _, _⟩) (by kernel_rfl) rfl (fun K hK => ?_)
              go_simp
              refine hK.out _ _ (fun _ => hS7) ?_
              clear hK K
              try simp only [Act.put]
              refine wpAnyG_one (i := 7) (o := ⟨none, _, _, _, _, _⟩) (by kernel_rfl) rfl (fun K hK => ?_)
              go_simp
              refine hK.out _ _ (fun h => absurd h (by decide)) ?_
              clear hK K
              try simp only [Act.put]
              refine wpAnyG_done (by kernel_rfl) ?_ _
              have hc8 := HC7.out.set 15 (.slice (some ⟨gb, 0, none⟩) (k + 1) c7)
              rw [fill_bs] at hc8
              have HC8 := Lib.hid hc8
              have HO8 := Lib.hid (own_chg HO7.out (Chg.set w7 (w.heap.size + 1) 15 (.slice (some ⟨gb, 0, none⟩) (k + 1) c7)) (fun q hq e => by have := HC6.out.lt; omega))
              have HR8 := Lib.hid (HR7.out.set (b := w.heap.size + 1) (q := 15) (v := .slice (some ⟨gb, 0, none⟩) (k + 1) c7) (by omega) (by omega))
              have HCH8 := Lib.hid (HCH7.out.trans (Chg.set w7 (w.heap.size + 1) 15 (.slice (some ⟨gb, 0, none⟩) (k + 1) c7)) (fun _ _ e => .inl e))
              clear hc8 hS7 f7 HC7 HO7 HR7 HCH7
              go_wp2_with fail
              go_roundw
              case rel =>
                refine ⟨k + 1, some ⟨gb, 0, none⟩, c7, by omega, by go_num, HC8, ?_, ?_, HCH8⟩
                · rw [HNX.out]
                  dsimp only
                  rw [List.map_append, List.map_append]
                  exact HO8
                · rw [HNX.out]
                  exact HR8
              case measure => simp [intOf]; omega
            · obtain rfl : k = K := by omega
              have hd0 : decide ((k : Int) < (k : Int)) = false := decide_eq_false (by omega)
              have hbs : rawB 11 6 xs = rdT xs p18 why18 k := by unfold rawB; rw [H18.out, HKK.out]
              have hraw : raw 11 6 xs = ⟨ns ++ [x10], ts, many, (rdT xs p18 why18 k).1, (rdT xs p18 why18 k).2.1, (rdT xs p18 why18 k).2.2⟩ := by
                unfold raw; rw [H11.out, H12.out, H18.out, hbs]
              have hn3 : (ns ++ [x10]).getD 3 0 = x3 := by
                rw [← HX3.out, List.getD_eq_getElem?_getD, List.getD_eq_getElem?_getD, List.getElem?_append_left (by omega)]
              have hn10 : (ns ++ [x10]).getD 10 0 = x10 := by
                rw [List.getD_eq_getElem?_getD, List.getElem?_append_right (by omega), hlen10]; rfl
              have hcm : (CM.of (ns ++ [x10]) ts ((x3 : Int) - 1) ff bA k c) = CM.of ns ts ((x3 : Int) - 1) ff bA k c := by
                have hg : ∀ q, q < 10 → (ns ++ [x10]).getD q 0 = ns.getD q 0 := fun q hq => by
                  rw [List.getD_eq_getElem?_getD, List.getD_eq_getElem?_getD, List.getElem?_append_left (by omega)]
                unfold CM.of
                rw [hg 0 (by omega), hg 1 (by omega), hg 2 (by omega), hg 4 (by omega), hg 5 (by omega), hg 6 (by omega), hg 7 (by omega), hg 8 (by omega), hg 9 (by omega)]
              have hchain : Chg (fun k => k = w.heap.size + 1 ∨ k = g) w2 wr := (HCH5.out.trans HCH6.out fun _ _ e => e).trans hch.out fun _ _ e => e
              have hsz2 := HL2.out.size
              have hbelow : Below w.heap.size w wr := (HBEL.out.trans (HL2.out.mono (by omega))).trans (hchain.below (by omega) (fun i e => by omega))
              have HBW := Lib.hid hbelow
              have hH := HH.out wr g A2 d2 bA k c w4.heap.size hbelow (by have := HC6.out.lt; omega)
              rw [hraw] at hH
              dsimp only at hH
              rw [hn3, hn10, HFF.out, hcm] at hH
              have HCL := Lib.hid (hH hrr.out.1 hrow.out)
              have HC2' := Lib.hid (HC2.out.chg hchain (by omega))
              have HI := Lib.hid (CM.of ns ts ((x3 : Int) - 1) ff bA k c).info
              clear hH hbs hraw hn3 hn10 hcm hchain hbelow HC2 hrow hrr HC6 HR6 HCH6 HCH5 HBEL HL2
              generalize (CM.of ns ts ((x3 : Int) - 1) ff bA k c).cells = cc at *
              go_wp2_with (first
                | (go_at_call 37; refine HCL.out.mono ?_; rintro e w8 ⟨cO, er, rfl, hb8, hpost⟩
                   have HB8 := Lib.hid hb8; have HPOST := Lib.hid hpost; have HC28 := Lib.hid (HC2'.out.below hb8 HC2'.out.lt); have IO := Lib.hid cO.info; have OO := Lib.hid cO.ones; have SO := Lib.hid cO.size
                   generalize hcO : cO.cells = co at *
                   have HCO := Lib.hid hcO
                   clear hb8 hpost hcO)
                | (refine wpList_store_row (o := ⟨none, .store 50 (.tmp 2) (.tmp 60), _, _, _, _⟩) rfl 50 (.tmp 2) (.tmp 60) rfl _ co rfl rfl 50 cz HC28.out IO.out (by rw [SO.out, HCZ.out]; rfl) OO.out ?_)
                | (refine wpList_load_row (o := ⟨some 58, .load 50 (.tmp 4), _, _, _, _⟩) rfl 50 (.tmp 4) rfl _ rfl 50 cc (0, 0) _ hc4.out Tryz.underlying50 rfl HI.out ?_))
              refine bodyPost_ret (v := .tuple #[.agg co, er]) ?_ rfl ?_
              · refine Eq.trans (results_cell_row_tmp (p := 2) (u := 3) Tryz.results13 _ _ _ 50 co (0, 0) _ ?_ (HC28.out.row (cs' := co)) Tryz.underlying50 rfl IO.out) ?_
                · rfl
                · rfl
              · refine ⟨cO, er, by rw [HCO.out], below_setRow (HBW.out.trans (HB8.out.mono HBW.out.size)) (Nat.le_refl _) _, HPOST.out _ ?_ ?_⟩
                · exact ⟨rfl, rfl, rfl, by simp, fun q _ hq => setRow_other _ _ _ _ hq⟩
                · have := HC28.out
                  rw [HCZ.out] at this
                  exact this
end Go.Proofs.YtkdncnhjlgidnaaGreatDoor
