/- What is proved here: what the lanes' Copy leaves: while the groups are gone through. -/
import Derived.Test.YticmdeepfeiobaaOf
import Derived.Test.YticmdeepfeiobaaLib
import Derived.Deep.RegionHeld3
namespace Go.Proofs.Yticmdeepfeiobaa
open Go Go.RowKit Go.Maps Go.WideMaps

theorem grown_below {w w' : World} (h : Below w.heap.size w w') : w.grownBy w' none := ⟨h.os, h.tape, h.output, h.size, fun k hk _ => h.block k hk⟩
theorem grown_chg {w w' : World} {m : Nat} (h : Chg (fun i => i = m) w w') : w.grownBy w' (some m) := ⟨h.os, h.tape, h.output, h.size, fun k hk hne => h.block k hk fun e => hne (by rw [e])⟩
/-- While the groups are gone through. -/
structure CopyRel (w : World) (gm : Nat) (L : List Th) (Ng : Nat) (D : DataW Value) (r m2 : Nat) (wr : World) (left : Lit → Bool) (cnt n2 : Nat) (f2 : Lit → Option Value) : Prop where
  low : Below w.heap.size w wr
  rng : wr.ranges Try.prog 9 anyV gm r Ng D left cnt
  new : w.heap.size ≤ r ∧ w.heap.size ≤ m2 ∧ r ≠ m2
  map : MapV Try.prog 9 wr m2 n2 f2
  num : n2 + cnt ≤ Ng
  done : ∀ s, left (strK s) = false → ofG L s ≠ [] → ∃ v, f2 (strK s) = some v ∧ RowV wr v (ofG L s) (fun k => w.heap.size ≤ k)
  todo : ∀ s, left (strK s) = true ∨ ofG L s = [] → f2 (strK s) = none
  apart : ∀ s s' v v', s ≠ s' → f2 (strK s) = some v → f2 (strK s') = some v' → v.ownBlock ≠ v'.ownBlock
set_option maxHeartbeats 1600000 in
theorem copy_round {w wr w1 : World} {l gm pm N Ng r m2 cnt cnt1 n2 : Nat} {L : List Th} {fg fp f2 : Lit → Option Value} {Φ : Nat → Prop} {D : DataW Value} {left : Lit → Bool} (h : LaneL w l gm pm L N Ng fg fp Φ) (hD : ViewV D fg) (hL : L.length < 900000) (hN : Ng < 900000)
    (hrel : CopyRel w gm L Ng D r m2 wr left cnt n2 f2) {s : ByteArray} {c : Value} {kl : Lit} {y : DataW Value × List MemPlace} (hkey : keyOf Try.prog 9 (.string s) = some kl) (hv : anyV c = some y)
    (hat : ∀ z, D.atKey kl z = y.1) (hrg : w1.ranges Try.prog 9 anyV gm r Ng D (fun z => left z && !z.sameKey kl) cnt1) (hg : wr.grownBy w1 (some r)) (hlk : left kl = true) (hlt : cnt1 < cnt) :
    Calls Try.prog 27 #[c] w1 fun e w3 => ∃ A n cc w4, e = .returned (.slice A n cc) ∧ (Instr.mapUpdate 51 (.map (some m2)) (.string s) (.slice A n cc)).run Try.prog w3 = .ok () w4 ∧
      Hid (∃ n3 f3, CopyRel w gm L Ng D r m2 w4 (fun z => left z && !z.sameKey kl) cnt1 n3 f3) := by
  obtain ⟨rfl, hsl⟩ := str_key hkey
  have hc : fg (strK s) = some c := hD.at fun z => by rw [hat z, ← Option.some.inj hv]
  have hne : ofG L s ≠ [] := fun e => by rw [h.gn s e] at hc; cases hc
  obtain ⟨v', hv', rb, cap, rfl, ho, hΦ⟩ := h.gr _ hne
  rw [hv'] at hc
  obtain rfl := Option.some.inj hc
  have hb1 : Below w.heap.size w w1 := hrel.low.grown hg hrel.low.size fun k e => by cases e; exact hrel.new.1
  have hgl : (ofG L s).length ≤ L.length := ofG_length L _
  have hrl := (ho.lt rb rfl).2
  refine (Clone_any (own_below ho hb1) (by omega)).mono ?_
  rintro e w3 ⟨A, cc, rfl, how, hb3⟩
  obtain ⟨nb, nc, ee, hnb, _⟩ := how.form (List.length_pos_iff.2 hne)
  obtain ⟨rfl, rfl⟩ : A = some ⟨nb, 0, none⟩ ∧ cc = nc := by simpa using ee
  have hnb1 : w1.heap.size ≤ nb := (how.lt nb rfl).1
  have hm1 : MapV Try.prog 9 w1 m2 n2 f2 := hrel.map.keep (Chg.of_grown hg) (fun e => hrel.new.2.2 (Option.some.inj e))
  have hm3 := hm1.keep (Φ := fun _ => False) (Chg.of_below hb3) id
  have hml := hm1.lt
  have hnum := hrel.num
  obtain ⟨w4, hup, hm4, hcg⟩ := hm3.put keyed_str Try.underlying51 (by unfold maxLen; omega) (key_str hsl) (.slice (some ⟨nb, 0, none⟩) (ofG L s).length cc)
  have hf0 : f2 (strK s) = none := hrel.todo s (.inl hlk)
  rw [hf0] at hm4
  have hb3' : Below w.heap.size w w3 := hb1.trans (hb3.mono hb1.size)
  have hb4 : Below w.heap.size w w4 := hb3'.trans (hcg.below hb3'.size fun i hi => by rw [hi]; exact hrel.new.2.1)
  have keepRow : ∀ v xs, RowV wr v xs (fun k => w.heap.size ≤ k) → v.ownBlock ≠ some m2 ∧ (∀ g, v.ownBlock = some g → g < wr.heap.size) ∧ RowV w4 v xs (fun k => w.heap.size ≤ k) := fun v xs hr => by
    obtain ⟨rb2, cap2, rfl, ho2, hq⟩ := hr
    have hlt2 := (ho2.lt rb2 rfl).2
    have hne2 : rb2 ≠ m2 := fun e => by
      obtain ⟨es, ck, hb⟩ := hrel.map.blk
      obtain ⟨cur, hcu, _⟩ := own_cells ho2
      rw [e, hb] at hcu
      cases hcu
    have hne3 : rb2 ≠ r := fun e => by
      obtain ⟨_, _, since, seen, c0, _, _, _, _, hri, _⟩ := hrel.rng
      obtain ⟨cur, hcu, _⟩ := own_cells ho2
      rw [e, hri] at hcu
      cases hcu
    refine ⟨fun e => hne2 (by simpa [Value.ownBlock] using e), fun g hg => by simp [Value.ownBlock] at hg; omega, rb2, cap2, rfl, ?_, hq⟩
    exact hcg.own (own_below (ho2.kept hg (.inr (fun e => hne3 (by simpa [Value.ownBlock] using e)))) hb3) fun g hg => by simp [Value.ownBlock] at hg; omega
  refine ⟨_, _, _, w4, rfl, hup, Lib.hid ⟨_, _, hb4, (hrg.kept (grown_below hb3) (by simp) (by simp)).kept (grown_chg hcg) (fun e => ?_) (fun e => hrel.new.2.2 (Option.some.inj e)), hrel.new, hm4, ?_, ?_, ?_, ?_⟩⟩
  · have := h.grp.lt
    have := hrel.new.2.1
    have := Option.some.inj e
    omega
  · simp only [Option.isSome_none, Bool.false_eq_true, if_false]
    omega
  · intro s' hl hne'
    by_cases he : s' = s
    · subst he
      exact ⟨_, putV_same _ _ _, nb, cc, rfl, hcg.own (own_base how (Nat.zero_le _)) fun g hg => by simp [Value.ownBlock] at hg; omega, by have := hb1.size; omega⟩
    · have hk : strK s' ≠ strK s := fun e => he (strK_inj e)
      simp only [sameKey_ne hk, Bool.not_false, Bool.and_true] at hl
      obtain ⟨v, hv2, hr⟩ := hrel.done s' hl hne'
      exact ⟨v, by rw [putV_other _ _ hk]; exact hv2, (keepRow v _ hr).2.2⟩
  · intro s' hl
    have he : s' ≠ s := fun e => by
      subst e
      rcases hl with hl | hl
      · simp [strK, Lit.sameKey] at hl
      · exact hne hl
    have hk : strK s' ≠ strK s := fun e => he (strK_inj e)
    rw [putV_other _ _ hk]
    refine hrel.todo s' ?_
    simpa only [sameKey_ne hk, Bool.not_false, Bool.and_true] using hl
  · have hold : ∀ s' v, f2 (strK s') = some v → ∀ g, v.ownBlock = some g → g < wr.heap.size := fun s' v hv2 => by
      by_cases hcase : left (strK s') = true ∨ ofG L s' = []
      · rw [hrel.todo s' hcase] at hv2; cases hv2
      · rw [not_or] at hcase
        obtain ⟨v2, hv3, hr⟩ := hrel.done s' (by simpa using hcase.1) hcase.2
        rw [hv2] at hv3
        obtain rfl := Option.some.inj hv3
        exact (keepRow v _ hr).2.1
    have hws : wr.heap.size ≤ w1.heap.size := hg.size
    intro s1 s2 v1 v2 hs12 h1 h2
    by_cases e1 : s1 = s
    · subst e1
      rw [putV_same] at h1
      obtain rfl := Option.some.inj h1
      have hk : strK s2 ≠ strK s1 := fun e => hs12 (strK_inj e).symm
      rw [putV_other _ _ hk] at h2
      intro e
      have := hold s2 v2 h2 nb e.symm
      omega
    · have hk : strK s1 ≠ strK s := fun e => e1 (strK_inj e)
      rw [putV_other _ _ hk] at h1
      by_cases e2 : s2 = s
      · subst e2
        rw [putV_same] at h2
        obtain rfl := Option.some.inj h2
        intro e
        have := hold s1 v1 h1 nb e
        omega
      · have hk2 : strK s2 ≠ strK s := fun e => e2 (strK_inj e)
        rw [putV_other _ _ hk2] at h2
        exact hrel.apart s1 s2 v1 v2 hs12 h1 h2

/-- What Copy leaves. -/
def CopySaid (L : List Th) (N : Nat) (w : World) (e : Ending) (w' : World) : Prop :=
  ∃ b, e = .returned (.pointer (some ⟨b, 0, none⟩)) ∧ w.heap.size ≤ b ∧ LaneAt w' b L N (fun k => w.heap.size ≤ k) ∧ Below w.heap.size w w'
set_option maxHeartbeats 3200000 in
set_option maxRecDepth 100000 in
theorem Copy_any {w : World} {l N : Nat} {L : List Th} {Φ : Nat → Prop} (h : LaneAt w l L N Φ) (hN : N < 900000) (hL : L.length < 900000) :
    Calls Try.prog 14 #[.pointer (some ⟨l, 0, none⟩)] w (CopySaid L N w) := by
  obtain ⟨gm, pm, Ng, fg, fp, h⟩ := h
  obtain ⟨c0, c1, c2, _⟩ := three_cells h.blk
  have hll := lt_of_block h.blk
  have hng := h.ng
  obtain ⟨W, hW⟩ : ∃ W, W = w.alloc (.map #[] 0) := ⟨_, rfl⟩
  have hWs : W.heap.size = w.heap.size + 1 := by rw [hW]; simp
  have hbW : Below w.heap.size w W := by rw [hW]; exact (Below.refl _ _).alloc (Nat.le_refl _) _
  have hgW := h.grp.keep (w' := W) (Φ := fun _ => False) (Chg.of_below hbW) id
  have hlen := fun ty => h.grp.len Try.underlying51 ty
  obtain ⟨D, hM, hDs, hD⟩ := hgW
  have hW0 : W.cell? ⟨l, 0, none⟩ = some (.map (some gm)) := by rw [hbW.cell (p := ⟨l, 0, none⟩) hll]; exact c0
  have HST : Hid (∀ w1, w1.ranges Try.prog 9 anyV gm W.heap.size Ng D (Maps.has D) (Maps.size D) → W.grownBy w1 none → CopyRel w gm L Ng D W.heap.size w.heap.size w1 (Maps.has D) (Maps.size D) 0 fun _ => none) := Lib.hid (by
    intro w1 hr hg
    have hb1 : Below W.heap.size W w1 := ⟨hg.os, hg.tape, hg.output, hg.size, fun k hk => hg.block k hk (by simp)⟩
    refine ⟨hbW.trans (hb1.mono hbW.size), hr, ⟨hbW.size, Nat.le_refl _, by omega⟩, ?_, by omega, fun s hl hne => ?_, fun _ _ => rfl, fun _ _ _ _ _ e => by cases e⟩
    · have hm : MapV Try.prog 9 W w.heap.size 0 fun _ => none := by rw [hW]; exact MapV.made _ _ _
      exact hm.keep (Φ := fun _ => False) (Chg.of_below hb1) id
    · obtain ⟨v, hv, _⟩ := h.gr s hne
      rw [(hD _).1, hv] at hl
      cases hl)
  have HEND : Hid (∀ wr left cnt n2 f2, CopyRel w gm L Ng D W.heap.size w.heap.size wr left cnt n2 f2 → (∀ k, left k = false) → ∀ V mb, Below wr.heap.size wr V → MapV Try.prog 3 V mb L.length fp → wr.heap.size ≤ mb →
      CopySaid L N w (.returned (.pointer (some ⟨V.heap.size, 0, none⟩))) (V.alloc (.cells #[.map (some w.heap.size), .map (some mb), .int .i64 N] 54))) := Lib.hid (by
    intro wr left cnt n2 f2 hrel hl V mb hb hmp hmb
    have hbV : Below w.heap.size w V := hrel.low.trans (hb.mono hrel.low.size)
    have hbA : Below wr.heap.size wr (V.alloc (.cells #[.map (some w.heap.size), .map (some mb), .int .i64 N] 54)) := hb.alloc hb.size _
    have hml := hrel.map.lt
    have hnum := hrel.num
    refine ⟨_, rfl, hbV.size, ⟨w.heap.size, mb, n2, f2, fp, heap_alloc_new _ _, hrel.map.keep (Φ := fun _ => False) (Chg.of_below hbA) id, hmp.keep (Φ := fun _ => False) (Chg.alloc _ _) id, by omega, by omega, h.wf, h.nodup, h.rise, h.top, h.pl, fun s hs => hrel.todo s (.inr hs), fun s hs => ?_, hrel.apart, ⟨hbV.size, Nat.le_refl _, by have := hrel.low.size; omega⟩⟩, hbV.alloc hbV.size _⟩
    obtain ⟨v, hv, rb, cap, rfl, ho, hq⟩ := hrel.done s (hl _) hs
    exact ⟨_, hv, rb, cap, rfl, own_below ho hbA, hq⟩)
  have HC2 : Hid (∀ wr, Below w.heap.size w wr → ∀ V, Below wr.heap.size wr V → Calls Try.prog 28 #[.map (some pm)] V fun e w' => ∃ mb, e = .returned (.map (some mb)) ∧ w'.cell? ⟨l, 1, none⟩ = some (.map (some pm)) ∧ w'.cell? ⟨l, 2, none⟩ = some (.int .i64 N) ∧ Below wr.heap.size wr w' ∧
      Hid (wr.heap.size ≤ mb ∧ MapV Try.prog 3 w' mb L.length fp)) := Lib.hid fun wr h0 V hV => by
    have hbV : Below w.heap.size w V := h0.trans (hV.mono h0.size)
    obtain ⟨D2, hD2, h2, h3⟩ := h.plc.keep (Φ := fun _ => False) (Chg.of_below hbV) id
    have hcon := AnyW.maps_Clone_owns Try.cloneMap 3 _ pm L.length D2 V hD2
    change Calls Try.prog 28 _ _ _ at hcon
    refine hcon.mono ?_
    rintro e w' ⟨rfl, hD3, _, hb1⟩
    have hb2 := hV.trans (hb1.mono hV.size)
    have hb3 : Below w.heap.size w w' := h0.trans (hb2.mono h0.size)
    exact ⟨_, rfl, (hb3.cell (p := ⟨l, 1, none⟩) hll).trans c1, (hb3.cell (p := ⟨l, 2, none⟩) hll).trans c2, hb2, Lib.hid ⟨hV.size, D2, hD3, h2, h3⟩⟩
  have HKP : Hid (∀ wr, Below w.heap.size w wr → wr.cell? ⟨l, 1, none⟩ = some (.map (some pm)) ∧ wr.cell? ⟨l, 2, none⟩ = some (.int .i64 N)) := Lib.hid fun wr hb => ⟨(hb.cell (p := ⟨l, 1, none⟩) hll).trans c1, (hb.cell (p := ⟨l, 2, none⟩) hll).trans c2⟩
  have HH := Lib.hid h
  have HDv := Lib.hid hD
  have hNg : Ng < 900000 := by omega
  have HLN := Lib.hid hL
  have hmk : (Instr.makeMap 51 (some (.int .i64 (Ng : Int)))).run Try.prog w = .ok (.map (some w.heap.size)) W := by
    rw [hW]
    have hu := Try.underlying51
    simp [Instr.makeMap, run_underlying hu, asInt, asIntOf, Result.andThen]
  have HM := Lib.hid hM
  have HW := Lib.hid hW
  have HWS := Lib.hid hWs
  clear h hW hbW hM hDs hD hWs hng hN hL
  go_enter Try.func14, Try.ntmps14
  go_wp2_with (at_range; refine wpList_range_own _ rfl _ 51 rfl 9 34 keyed_str Try.underlying51 anyV gm Ng D rfl HM.out ?_; intro w1 hrg1 hg1 hs1; have HC := Lib.hid (HST.out w1 hrg1 hg1); clear hrg1 hg1 hs1)
  go_frame
  go_loopw [4] (fun _ wr => ∃ (left : Lit → Bool) (cnt n2 : Nat) (f2 : Lit → Option Value), Hid (CopyRel w gm L Ng D W.heap.size w.heap.size wr left cnt n2 f2)) (fun _ wr => wr.rangeLeft gm W.heap.size)
  case atStart => exact ⟨_, _, _, _, HC⟩
  case round =>
    clear HC c0 c1 c2 hW0 hlen hmk
    obtain ⟨left, cnt, n2, f2, HR⟩ := hrel
    go_wp2_with (at_next; refine wpList_next_ranges _ rfl _ rfl 9 keyed_str anyV Value.string id strV_inv (fun v _ _ => ⟨v, rfl⟩) gm W.heap.size Ng D left cnt rfl HR.out.rng ?_ ?_)
    · intro _ hl0
      have HE := Lib.hid (HEND.out wr left cnt n2 f2 HR.out hl0)
      have HC3 := Lib.hid (HC2.out wr HR.out.low)
      obtain ⟨c1, c2⟩ := HKP.out wr HR.out.low
      have HB0 : Hid (Below wr.heap.size wr wr.drew) := Lib.hid (Below.refl _ _).drew
      have HKQ : Hid (∀ V, Below wr.heap.size wr V → V.cell? ⟨l, 1, none⟩ = some (.map (some pm)) ∧ V.cell? ⟨l, 2, none⟩ = some (.int .i64 N) ∧ Below wr.heap.size wr V) := Lib.hid fun V hb => ⟨(HKP.out V (HR.out.low.trans (hb.mono HR.out.low.size))).1, (HKP.out V (HR.out.low.trans (hb.mono HR.out.low.size))).2, hb⟩
      clear hl0
      go_wp2_with fail
      go_region_held3 (fun w' => w'.cell? ⟨l, 1, none⟩ = some (.map (some pm)) ∧ w'.cell? ⟨l, 2, none⟩ = some (.int .i64 N) ∧ Below wr.heap.size wr w')
        (first | exact ⟨by assumption, by assumption, by assumption⟩ | exact HKQ.out _ (hbB.alloc hbB.size _) | exact HKQ.out _ HB0.out | exact ⟨c1, c2, HB0.out⟩)
        (first
          | (go_at_call 28; refine (HC3.out _ (by first | assumption | exact HB0.out)).mono ?_; rintro e wB ⟨mb, rfl, p2, p3, hbB, HB⟩))
      go_wp2_with fail
      go_ret
      exact HE.out wB mb hbB HB.out.2 HB.out.1
    · intro s cv kl ya yb w2 cnt2 hkey hlk hv hat hrg2 hlt hg2 hs2 hen
      have HCR := Lib.hid (copy_round HH.out HDv.out HLN.out hNg HR.out (y := (ya, yb)) hkey hv hat hrg2 hg2 hlk hlt)
      have HLT : Hid (cnt2 < wr.rangeLeft gm W.heap.size) := Lib.hid (by rw [HR.out.rng.left_eq]; exact hlt)
      clear hkey hlk hv hat hrg2 hlt hg2 hs2
      go_wp2_with (go_at_call 27; go_fit HCR.out; rintro e w3 ⟨A3, n3, c3, w4, rfl, hup, HX⟩)
      go_roundw
      case rel =>
        obtain ⟨n4, f4, hx⟩ := HX.out
        exact ⟨_, _, n4, f4, Lib.hid hx⟩
      case measure =>
        obtain ⟨n4, f4, hx⟩ := HX.out
        have h9 := hx.rng.left_eq
        have h10 := HLT.out
        omega
end Go.Proofs.Yticmdeepfeiobaa
