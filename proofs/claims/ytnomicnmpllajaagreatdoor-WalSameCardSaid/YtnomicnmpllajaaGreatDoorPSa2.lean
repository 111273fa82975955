/- What is proved here: the document's Append. -/
/- What is proved here: what the document's own log answers to each call, by what it says. -/
/- What is proved here: a log of which it is said in which blocks it lies; its calls; 'does'. -/
/- What is proved here: 'does': a call of a log and of the document's. -/
/- What is proved here: a region that draws its order: one operation is taken first, where the last ones wait for it by way of others; two may come up. -/
/- What is proved here: 'does' of a Cut; 'does' whatever the call. -/
/- What is proved here: plain facts: what a call makes of a log and of the document's, side by side. -/
/- What is proved here: plain facts: what a call makes of a log is one thing alone. -/
/- What is proved here: the calls of a log on a disk that has room, by its snapshot and records alone. -/
import Derived.Test.YtnomicnmpllajaaGreatDoorPSa1
import Derived.Test.YtnomicnmpllajaaGreatDoorPFu20
import Derived.Test.YtnomicnmpllajaaGreatDoorPFu11
section
namespace Go.Proofs.YtnomicnmpllajaaGreatDoor
open Go Go.RowKit Go.Maps
set_option linter.unusedVariables false

set_option maxHeartbeats 1600000 in
set_option maxRecDepth 100000 in
theorem RApp_no {w : World} {base : Int} {T : Option Addr} {tn tc : Nat} {syn size bytes here : Int} {A : Option Addr} {n c : Nat} {B : Option Addr} {bn bc : Nat} (hno : 4096 < bn) :
    Calls Tryz.prog 45 #[rlv base (.slice T tn tc) (.slice A n c) syn size bytes here, .slice B bn bc] w fun e w' => e = .returned (.tuple #[rlv base (.slice T tn tc) (.slice A n c) syn size bytes here, .int .i64 5]) ∧ Below w.heap.size w w' := by
  obtain ⟨hbW, hb1, hb2, hbs⟩ := boxedL_facts w base (.slice T tn tc) (.slice A n c) syn size bytes here
  obtain ⟨W0, hW0⟩ : ∃ W0, W0 = boxedL w base (.slice T tn tc) (.slice A n c) syn size bytes here := ⟨_, rfl⟩
  rw [← hW0] at hbW hb1 hb2 hbs
  have HF := Lib.hid (finL (base := base) (vT := .slice T tn tc) (vL := .slice A n c) (syn := syn) (size := size) (bytes := bytes) (here := here) hbW hb2)
  have HB1 := Lib.hid hb1
  have HB2 := Lib.hid hb2
  unfold boxedL bl at hW0
  have HW0 := Lib.hid hW0
  clear hW0 hbW hb1 hb2 hbs
  obtain ⟨e0, e1, e2, e3, e4, e5, e6, _⟩ := bl_cells HF.out.blk
  obtain ⟨c0, c1, c2, c3, c4, c5, c6, cf⟩ := bl_cells HB1.out
  obtain ⟨d0, d1, d2, d3, d4, d5, d6, df⟩ := bl_cells HB2.out
  have h3 : (4096 : Int) < bn := by omega
  unfold rlv
  unfold storedL at HF e0 e1 e2 e3 e4 e5 e6
  go_enter Tryz.func45, Tryz.ntmps45
  go_upto_region 1 with fail
  rw [← HW0.out]
  generalize hN : w.heap.size + 1 = b1 at *
  go_wp2_with fail
  generalize ((((((W0.setCell ⟨b1, 0, none⟩ (.int .i64 base)).setCell ⟨b1, 1, none⟩ (.slice T tn tc)).setCell ⟨b1, 2, none⟩ (.slice A n c)).setCell ⟨b1, 3, none⟩ (.int .i64 syn)).setCell ⟨b1, 4, none⟩ (.int .i64 size)).setCell ⟨b1, 5, none⟩ (.int .i64 bytes)).setCell ⟨b1, 6, none⟩ (.int .i64 here) = Wf at *
  exact bodyPost_ret (v := .tuple #[.agg #[.int .i64 base, .slice T tn tc, .slice A n c, .int .i64 syn, .int .i64 size, .int .i64 bytes, .int .i64 here], .int .i64 5]) (by simp [results, Tryz.results45, go_sem, e0, e1, e2, e3, e4, e5, e6]) rfl ⟨rfl, HF.out.bel⟩

/-- The values of a row of records, as the cells of a slice. -/
theorem RowsP.news {w : World} {P : Nat → Prop} {A : Option Addr} {n c : Nat} {l : List Part} (h : RowsP w P A n c l) : ∀ ad, A = some ad → ∀ j u, (l.map Part.val)[j]? = some u → w.cell? (ad.add j) = some u := fun ad had j u hu => by
  rw [List.getElem?_map] at hu
  obtain ⟨p, hp, rfl⟩ := Option.map_eq_some_iff.1 hu
  obtain ⟨b, o, e, _, _, hc⟩ := h.place j p hp
  rw [had] at e
  cases e
  rw [Addr.add_lit]
  exact hc
theorem own_form {w : World} {base e size n : Nat} {v : Value} {xs : List Value} (h : w.ownsRow base e size v n xs) : ∃ A c, v = .slice A n c := by
  rcases h.2 with ⟨rfl, rfl⟩ | ⟨g, cap, cur, rfl, _⟩
  · exact ⟨none, 0, rfl⟩
  · exact ⟨_, cap, rfl⟩
theorem own_off {w : World} {B e n b i : Nat} {v u : Value} {xs : List Value} (h : w.ownsRow B e 1 v n xs) (hb : b < B) : (w.setCell ⟨b, i, none⟩ u).ownsRow B e 1 v n xs := (Chg.set w b i u).own h fun g hg e => by
  have := (h.lt g hg).1
  omega
theorem vals_oneCell (l : List Part) : ∀ u ∈ l.map Part.val, u.oneCell' = true := fun u hu => by
  obtain ⟨p, _, rfl⟩ := List.mem_map.1 hu
  rfl

set_option maxHeartbeats 1600000 in
set_option maxRecDepth 100000 in
/-- A record of a segment that has none. -/
theorem RApp_first {w : World} {P : Nat → Prop} {base : Int} {T : Option Addr} {tn tc : Nat} {syn size bytes here : Int} {A : Option Addr} {n c : Nat} {l : List Part} {B : Option Addr} {bn bc : Nat} {xs : List Int} (hl : RowsP w P A n c l) (hn : n ≤ 1000000) (hx : Rd w w.heap.size .u8 B bn bc xs) (hbn : bn ≤ 4096)
    (hb : 0 ≤ bytes ∧ bytes ≤ 1000000000) (hf : bytes = 0) :
    Calls Tryz.prog 45 #[rlv base (.slice T tn tc) (.slice A n c) syn size bytes here, .slice B bn bc] w fun e w' => ∃ A' c' B' bc', e = .returned (.tuple #[rlv base (.slice T tn tc) (.slice A' (n + 1) c') syn size (6 + bn) here, .int .i64 0]) ∧ Below w.heap.size w w' ∧
      Hid (w'.ownsRow (w.heap.size + 2) 33 1 (.slice A' (n + 1) c') (n + 1) (l.map Part.val ++ [.slice B' bn bc'])) ∧ Hid (w'.ownsRow (w.heap.size + 2) 5 1 (.slice B' bn bc') bn (xs.map (Value.int .u8))) := by
  obtain ⟨hbW, hb1, hb2, hbs⟩ := boxedL_facts w base (.slice T tn tc) (.slice A n c) syn size bytes here
  obtain ⟨W0, hW0⟩ : ∃ W0, W0 = boxedL w base (.slice T tn tc) (.slice A n c) syn size bytes here := ⟨_, rfl⟩
  rw [← hW0] at hbW hb1 hb2 hbs
  have HB1 := Lib.hid hb1
  have HB2 := Lib.hid hb2
  have HBW := Lib.hid hbW
  have HBS := Lib.hid hbs
  have HX := Lib.hid hx
  have HL := Lib.hid hl
  have hnil : A = none → n = 0 ∧ c = 0 := fun e => by have h1 := hl.nil e; have h2 := hl.cap; exact ⟨by omega, h1⟩
  have hxn := hx.nil
  have hlen : (xs.map (Value.int .u8)).length = bn * 1 := by rw [List.length_map, hx.len, Nat.mul_one]
  have HLEN := Lib.hid hlen
  have hlen2 : (l.map Part.val).length = n * 1 := by rw [List.length_map, hl.len, Nat.mul_one]
  have HLEN2 := Lib.hid hlen2
  obtain ⟨i0, hi, hz0, hz1, hz2⟩ := info_parts info_u8
  obtain ⟨r0, hr, rz0, rz1, rz2⟩ := info_parts info_row
  have HO33 := Lib.hid (fun (W : World) => World.ownsRow_lit (e := 5) (size := 1) W #[] 0 (Nat.le_refl _) (by decide) rfl)
  have HO34 := Lib.hid (fun (W : World) => World.ownsRow_lit (e := 33) (size := 1) W #[] 0 (Nat.le_refl _) (by decide) rfl)
  unfold boxedL bl at hW0
  have HW0 := Lib.hid hW0
  clear hW0 hbW hb1 hb2 hbs hlen hlen2 hl
  obtain ⟨c0, c1, c2, c3, c4, c5, c6, cf⟩ := bl_cells HB1.out
  have n3 : ¬ (4096 : Int) < bn := by omega
  have u2 : IntKind.i64.wrap (6 + (bn : Int)) = 6 + bn := IntWalk.i64_in _ (by omega)
  subst hf
  have f1 : ¬ (0 : Int) < 0 := by omega
  unfold rlv
  go_enter Tryz.func45, Tryz.ntmps45
  go_upto_region 1 with fail
  rw [← HW0.out]
  generalize hN : w.heap.size + 1 = b1 at *
  have ne : b1 ≠ w.heap.size := by omega
  go_upto_region 6 with fail
  have q1 := HB1.out
  have q2 := HB2.out
  have q3 := HBW.out
  have q4 := Nat.le_of_eq HBS.out.symm
  generalize W0 = V at *
  have hx2 : Rd V w.heap.size .u8 B bn bc xs := HX.out.below q3
  have hl2 : RowsP V P A n c l := HL.out.keep q3.size fun k hk hP => ⟨q3.block k hk, hP⟩
  have HX2 := Lib.hid hx2
  have HL2 := Lib.hid hl2
  have HQ1 := Lib.hid q1
  have HQ2 := Lib.hid q2
  have HQ3 := Lib.hid q3
  have HQ4 := Lib.hid q4
  clear q1 q2 q3 q4 HB1 HB2 HBW HBS HW0 HX HL hx2 hl2 c0 c1 c2 c3 c4 c5 c6 cf
  have c2 : (V.alloc (.cells #[] 33)).cell? ⟨w.heap.size, 2, none⟩ = some (.slice A n c) := (bl_cells ((Chg.of_below (Φ := fun _ => False) ((Below.refl V.heap.size V).alloc (Nat.le_refl _) _)).heap HQ1.out id)).2.2.1
  go_upto_region 7 with (first
    | (
      at_builtin
      refine wpList_append_src (o := ⟨some 31, _, _, _, _, _⟩) rfl _ _ 34 rfl V.heap.size 33 r0 _ 1 24 Tryz.underlying34 hr rz0 rz1 rz2 rfl (by omega) _ 0 [] rfl (HO34.out V) A n c (l.map Part.val) rfl HLEN2.out hnil (HL2.out.keep (by simp) fun k hk hP => ⟨Below.heap_alloc _ _ _ hk, hP⟩ : RowsP (V.alloc (.cells #[] 33)) P A n c l).news (vals_oneCell l) (by unfold maxLen; omega) (by omega) (by simp) ?_
      intro v1 w1 hown1 hg1
      have hb1 := ((Below.refl V.heap.size V).alloc (Nat.le_refl _) (.cells #[] 33)).grown hg1 (by simp) (fun k hk => ((HO34.out V).lt k hk).1)
      rw [Nat.zero_add, List.nil_append] at hown1
      obtain ⟨A1, ca1, hv1⟩ := own_form hown1
      subst hv1
      have HO1 := Lib.hid hown1
      have HBB1 := Lib.hid hb1
      clear hown1 hg1 hb1)
    | (
      at_builtin
      refine wpList_append_src (o := ⟨some 34, _, _, _, _, _⟩) rfl _ _ 33 rfl w1.heap.size 5 i0 _ 1 1 Tryz.underlying33 hi hz0 hz1 hz2 rfl (by omega) _ 0 [] rfl (HO33.out w1) B bn bc (xs.map (Value.int .u8)) rfl HLEN.out hxn ((HX2.out.below (HBB1.out.mono (by have := HQ4.out; omega))).alloc (by have := HQ4.out; have := HBB1.out.size; omega) _).news (ints_oneCell _ _) (by unfold maxLen; omega) (by omega) (by simp) ?_
      intro v2 w2 hown2 hg2
      have hb2 := ((Below.refl w1.heap.size w1).alloc (Nat.le_refl _) (.cells #[] 5)).grown hg2 (by simp) (fun k hk => ((HO33.out w1).lt k hk).1)
      rw [Nat.zero_add, List.nil_append] at hown2
      obtain ⟨B2, cb2, hv2⟩ := own_form hown2
      subst hv2
      have HO2 := Lib.hid hown2
      have HBB2 := Lib.hid hb2
      clear hown2 hg2 hb2)
    | (
      at_builtin
      refine wpList_append_src (o := ⟨some 36, _, _, _, _, _⟩) rfl _ _ 34 rfl V.heap.size 33 r0 _ 1 24 Tryz.underlying34 hr rz0 rz1 rz2 rfl (by omega) _ n (l.map Part.val) rfl (((Chg.of_below (Φ := fun _ => False) HBB2.out).own HO1.out fun _ _ => id).alloc _) (some ⟨w2.heap.size, 0, none⟩) 1 1 [.slice B2 bn cb2] rfl rfl (fun h => by cases h) (news_new _ _ _) (fun u hu => by rw [List.mem_singleton.1 hu]; rfl) (by unfold maxLen; omega) (by omega) (by have h5 := HBB1.out.size; have h6 := HBB2.out.size; simp; omega) ?_
      intro v3 w3 hown3 hg3
      obtain ⟨A3, ca3, hv3⟩ := own_form hown3
      subst hv3
      have h5 := HBB1.out.size
      have h6 := HBB2.out.size
      have hb4 : Below V.heap.size V (w2.alloc (.cells #[.slice B2 bn cb2] 33)) := (HBB1.out.trans (HBB2.out.mono h5)).alloc (by omega) _
      have hb3 := hb4.grown hg3 (by simp; omega) (fun k hk => (HO1.out.lt k hk).1)
      have hO2 : w3.ownsRow w1.heap.size 5 1 (.slice B2 bn cb2) bn (xs.map (Value.int .u8)) := (Chg.of_grown hg3).own (HO2.out.alloc _) fun g hg e => by
        have h7 := (HO2.out.lt g hg).1
        have h8 := (HO1.out.lt g e).2
        omega
      have HO3 := Lib.hid hown3
      have HOB := Lib.hid hO2
      have HBB3 := Lib.hid hb3
      clear hown3 hg3 hb4 hb3 hO2 h5 h6 HO1 HO2 HBB2 c2
      obtain ⟨c0, c1, c2, c3, c4, c5, c6, cf⟩ := bl_cells ((Chg.of_below (Φ := fun _ => False) HBB3.out).heap HQ1.out id)))
  have q1 := bl_set2 ((Chg.of_below (Φ := fun _ => False) HBB3.out).heap HQ1.out id) (.slice A3 (n + 1) ca3)
  have q2 := heap_setCell_but ((Chg.of_below (Φ := fun _ => False) HBB3.out).heap HQ2.out id) ne 2 (.slice A3 (n + 1) ca3)
  have hq4 := HQ4.out
  have hb1s := HBB1.out.size
  have q3 := (HQ3.out.trans (HBB3.out.mono (by omega))).setCell (p := ⟨w.heap.size, 2, none⟩) (Nat.le_refl _) (.slice A3 (n + 1) ca3)
  have q5 := own_base HO3.out (show w.heap.size + 2 ≤ V.heap.size from hq4)
  have q6 := own_base HOB.out (show w.heap.size + 2 ≤ w1.heap.size by omega)
  replace q5 := own_off (b := w.heap.size) (i := 2) (u := .slice A3 (n + 1) ca3) q5 (by omega)
  replace q6 := own_off (b := w.heap.size) (i := 2) (u := .slice A3 (n + 1) ca3) q6 (by omega)
  generalize w3.setCell ⟨w.heap.size, 2, none⟩ (.slice A3 (n + 1) ca3) = W1 at *
  clear c0 c1 c2 c3 c4 c5 c6 cf hq4 hb1s
  obtain ⟨c0, c1, c2, c3, c4, c5, c6, cf⟩ := bl_cells q1
  go_upto_region 8 with fail
  replace q2 := heap_setCell_but q2 ne 5 (.int .i64 (6 + bn))
  replace q3 := q3.setCell (p := ⟨w.heap.size, 5, none⟩) (Nat.le_refl _) (.int .i64 (6 + bn))
  replace q1 := bl_set5 q1 (6 + bn)
  replace q5 := own_off (b := w.heap.size) (i := 5) (u := .int .i64 (6 + bn)) q5 (by omega)
  replace q6 := own_off (b := w.heap.size) (i := 5) (u := .int .i64 (6 + bn)) q6 (by omega)
  generalize W1.setCell ⟨w.heap.size, 5, none⟩ (.int .i64 (6 + bn)) = W4 at *
  clear c0 c1 c2 c3 c4 c5 c6 cf
  have HF := Lib.hid (finL (base := base) (vT := .slice T tn tc) (vL := .slice A3 (n + 1) ca3) (syn := syn) (size := size) (bytes := 6 + bn) (here := here) q3 (hN ▸ q2))
  have HF5 : Hid ((storedL W4 (w.heap.size + 1) base (.slice T tn tc) (.slice A3 (n + 1) ca3) syn size (6 + bn) here).ownsRow (w.heap.size + 2) 33 1 (.slice A3 (n + 1) ca3) (n + 1) (l.map Part.val ++ [.slice B2 bn cb2])) := Lib.hid (storedL_own q5 (by omega))
  have HF6 : Hid ((storedL W4 (w.heap.size + 1) base (.slice T tn tc) (.slice A3 (n + 1) ca3) syn size (6 + bn) here).ownsRow (w.heap.size + 2) 5 1 (.slice B2 bn cb2) bn (xs.map (Value.int .u8))) := Lib.hid (storedL_own q6 (by omega))
  obtain ⟨e0, e1, e2, e3, e4, e5, e6, ef⟩ := bl_cells HF.out.blk
  obtain ⟨c0, c1, c2, c3, c4, c5, c6, cf⟩ := bl_cells q1
  obtain ⟨d0, d1, d2, d3, d4, d5, d6, df⟩ := bl_cells q2
  rw [hN] at HF HF5 HF6 e0 e1 e2 e3 e4 e5 e6
  unfold storedL at HF HF5 HF6 e0 e1 e2 e3 e4 e5 e6
  clear q1 q2 q3 q5 q6 HQ1 HQ2 HQ3 HQ4 HO3 HOB HBB1 HBB3 HX2 HL2 ef
  go_wp2_with fail
  clear c0 c1 c2 c3 c4 c5 c6 cf d0 d1 d2 d3 d4 d5 d6 df
  generalize ((((((W4.setCell ⟨b1, 0, none⟩ (.int .i64 base)).setCell ⟨b1, 1, none⟩ (.slice T tn tc)).setCell ⟨b1, 2, none⟩ (.slice A3 (n + 1) ca3)).setCell ⟨b1, 3, none⟩ (.int .i64 syn)).setCell ⟨b1, 4, none⟩ (.int .i64 size)).setCell ⟨b1, 5, none⟩ (.int .i64 (6 + bn))).setCell ⟨b1, 6, none⟩ (.int .i64 here) = Wf at *
  exact bodyPost_ret (v := .tuple #[.agg #[.int .i64 base, .slice T tn tc, .slice A3 (n + 1) ca3, .int .i64 syn, .int .i64 size, .int .i64 (6 + bn), .int .i64 here], .int .i64 0]) (by simp [results, Tryz.results45, go_sem, e0, e1, e2, e3, e4, e5, e6]) rfl ⟨A3, ca3, rfl, HF.out.bel, B2, cb2, HF5, HF6⟩
set_option maxHeartbeats 1600000 in
set_option maxRecDepth 100000 in
/-- A record that fits into the last segment. -/
theorem RApp_on {w : World} {P : Nat → Prop} {base : Int} {T : Option Addr} {tn tc : Nat} {syn size bytes here : Int} {A : Option Addr} {n c : Nat} {l : List Part} {B : Option Addr} {bn bc : Nat} {xs : List Int} (hl : RowsP w P A n c l) (hn : n ≤ 1000000) (hx : Rd w w.heap.size .u8 B bn bc xs) (hbn : bn ≤ 4096)
    (hb : 0 ≤ bytes ∧ bytes ≤ 1000000000) (hf : 0 < bytes) (hf2 : bytes + 6 + bn ≤ size) :
    Calls Tryz.prog 45 #[rlv base (.slice T tn tc) (.slice A n c) syn size bytes here, .slice B bn bc] w fun e w' => ∃ A' c' B' bc', e = .returned (.tuple #[rlv base (.slice T tn tc) (.slice A' (n + 1) c') syn size (bytes + 6 + bn) here, .int .i64 0]) ∧ Below w.heap.size w w' ∧
      Hid (w'.ownsRow (w.heap.size + 2) 33 1 (.slice A' (n + 1) c') (n + 1) (l.map Part.val ++ [.slice B' bn bc'])) ∧ Hid (w'.ownsRow (w.heap.size + 2) 5 1 (.slice B' bn bc') bn (xs.map (Value.int .u8))) := by
  obtain ⟨hbW, hb1, hb2, hbs⟩ := boxedL_facts w base (.slice T tn tc) (.slice A n c) syn size bytes here
  obtain ⟨W0, hW0⟩ : ∃ W0, W0 = boxedL w base (.slice T tn tc) (.slice A n c) syn size bytes here := ⟨_, rfl⟩
  rw [← hW0] at hbW hb1 hb2 hbs
  have HB1 := Lib.hid hb1
  have HB2 := Lib.hid hb2
  have HBW := Lib.hid hbW
  have HBS := Lib.hid hbs
  have HX := Lib.hid hx
  have HL := Lib.hid hl
  have hnil : A = none → n = 0 ∧ c = 0 := fun e => by have h1 := hl.nil e; have h2 := hl.cap; exact ⟨by omega, h1⟩
  have hxn := hx.nil
  have hlen : (xs.map (Value.int .u8)).length = bn * 1 := by rw [List.length_map, hx.len, Nat.mul_one]
  have HLEN := Lib.hid hlen
  have hlen2 : (l.map Part.val).length = n * 1 := by rw [List.length_map, hl.len, Nat.mul_one]
  have HLEN2 := Lib.hid hlen2
  obtain ⟨i0, hi, hz0, hz1, hz2⟩ := info_parts info_u8
  obtain ⟨r0, hr, rz0, rz1, rz2⟩ := info_parts info_row
  have HO33 := Lib.hid (fun (W : World) => World.ownsRow_lit (e := 5) (size := 1) W #[] 0 (Nat.le_refl _) (by decide) rfl)
  have HO34 := Lib.hid (fun (W : World) => World.ownsRow_lit (e := 33) (size := 1) W #[] 0 (Nat.le_refl _) (by decide) rfl)
  unfold boxedL bl at hW0
  have HW0 := Lib.hid hW0
  clear hW0 hbW hb1 hb2 hbs hlen hlen2 hl
  obtain ⟨c0, c1, c2, c3, c4, c5, c6, cf⟩ := bl_cells HB1.out
  have n3 : ¬ (4096 : Int) < bn := by omega
  have u1 : IntKind.i64.wrap (bytes + 6) = bytes + 6 := IntWalk.i64_in _ (by omega)
  have u2 : IntKind.i64.wrap (bytes + 6 + (bn : Int)) = bytes + 6 + bn := IntWalk.i64_in _ (by omega)
  have f1 : ¬ size < bytes + 6 + bn := by omega
  unfold rlv
  go_enter Tryz.func45, Tryz.ntmps45
  go_upto_region 1 with fail
  rw [← HW0.out]
  generalize hN : w.heap.size + 1 = b1 at *
  have ne : b1 ≠ w.heap.size := by omega
  go_upto_region 6 with fail
  have q1 := HB1.out
  have q2 := HB2.out
  have q3 := HBW.out
  have q4 := Nat.le_of_eq HBS.out.symm
  generalize W0 = V at *
  have hx2 : Rd V w.heap.size .u8 B bn bc xs := HX.out.below q3
  have hl2 : RowsP V P A n c l := HL.out.keep q3.size fun k hk hP => ⟨q3.block k hk, hP⟩
  have HX2 := Lib.hid hx2
  have HL2 := Lib.hid hl2
  have HQ1 := Lib.hid q1
  have HQ2 := Lib.hid q2
  have HQ3 := Lib.hid q3
  have HQ4 := Lib.hid q4
  clear q1 q2 q3 q4 HB1 HB2 HBW HBS HW0 HX HL hx2 hl2 c0 c1 c2 c3 c4 c5 c6 cf
  have c2 : (V.alloc (.cells #[] 33)).cell? ⟨w.heap.size, 2, none⟩ = some (.slice A n c) := (bl_cells ((Chg.of_below (Φ := fun _ => False) ((Below.refl V.heap.size V).alloc (Nat.le_refl _) _)).heap HQ1.out id)).2.2.1
  go_upto_region 7 with (first
    | (
      at_builtin
      refine wpList_append_src (o := ⟨some 31, _, _, _, _, _⟩) rfl _ _ 34 rfl V.heap.size 33 r0 _ 1 24 Tryz.underlying34 hr rz0 rz1 rz2 rfl (by omega) _ 0 [] rfl (HO34.out V) A n c (l.map Part.val) rfl HLEN2.out hnil (HL2.out.keep (by simp) fun k hk hP => ⟨Below.heap_alloc _ _ _ hk, hP⟩ : RowsP (V.alloc (.cells #[] 33)) P A n c l).news (vals_oneCell l) (by unfold maxLen; omega) (by omega) (by simp) ?_
      intro v1 w1 hown1 hg1
      have hb1 := ((Below.refl V.heap.size V).alloc (Nat.le_refl _) (.cells #[] 33)).grown hg1 (by simp) (fun k hk => ((HO34.out V).lt k hk).1)
      rw [Nat.zero_add, List.nil_append] at hown1
      obtain ⟨A1, ca1, hv1⟩ := own_form hown1
      subst hv1
      have HO1 := Lib.hid hown1
      have HBB1 := Lib.hid hb1
      clear hown1 hg1 hb1)
    | (
      at_builtin
      refine wpList_append_src (o := ⟨some 34, _, _, _, _, _⟩) rfl _ _ 33 rfl w1.heap.size 5 i0 _ 1 1 Tryz.underlying33 hi hz0 hz1 hz2 rfl (by omega) _ 0 [] rfl (HO33.out w1) B bn bc (xs.map (Value.int .u8)) rfl HLEN.out hxn ((HX2.out.below (HBB1.out.mono (by have := HQ4.out; omega))).alloc (by have := HQ4.out; have := HBB1.out.size; omega) _).news (ints_oneCell _ _) (by unfold maxLen; omega) (by omega) (by simp) ?_
      intro v2 w2 hown2 hg2
      have hb2 := ((Below.refl w1.heap.size w1).alloc (Nat.le_refl _) (.cells #[] 5)).grown hg2 (by simp) (fun k hk => ((HO33.out w1).lt k hk).1)
      rw [Nat.zero_add, List.nil_append] at hown2
      obtain ⟨B2, cb2, hv2⟩ := own_form hown2
      subst hv2
      have HO2 := Lib.hid hown2
      have HBB2 := Lib.hid hb2
      clear hown2 hg2 hb2)
    | (
      at_builtin
      refine wpList_append_src (o := ⟨some 36, _, _, _, _, _⟩) rfl _ _ 34 rfl V.heap.size 33 r0 _ 1 24 Tryz.underlying34 hr rz0 rz1 rz2 rfl (by omega) _ n (l.map Part.val) rfl (((Chg.of_below (Φ := fun _ => False) HBB2.out).own HO1.out fun _ _ => id).alloc _) (some ⟨w2.heap.size, 0, none⟩) 1 1 [.slice B2 bn cb2] rfl rfl (fun h => by cases h) (news_new _ _ _) (fun u hu => by rw [List.mem_singleton.1 hu]; rfl) (by unfold maxLen; omega) (by omega) (by have h5 := HBB1.out.size; have h6 := HBB2.out.size; simp; omega) ?_
      intro v3 w3 hown3 hg3
      obtain ⟨A3, ca3, hv3⟩ := own_form hown3
      subst hv3
      have h5 := HBB1.out.size
      have h6 := HBB2.out.size
      have hb4 : Below V.heap.size V (w2.alloc (.cells #[.slice B2 bn cb2] 33)) := (HBB1.out.trans (HBB2.out.mono h5)).alloc (by omega) _
      have hb3 := hb4.grown hg3 (by simp; omega) (fun k hk => (HO1.out.lt k hk).1)
      have hO2 : w3.ownsRow w1.heap.size 5 1 (.slice B2 bn cb2) bn (xs.map (Value.int .u8)) := (Chg.of_grown hg3).own (HO2.out.alloc _) fun g hg e => by
        have h7 := (HO2.out.lt g hg).1
        have h8 := (HO1.out.lt g e).2
        omega
      have HO3 := Lib.hid hown3
      have HOB := Lib.hid hO2
      have HBB3 := Lib.hid hb3
      clear hown3 hg3 hb4 hb3 hO2 h5 h6 HO1 HO2 HBB2 c2
      obtain ⟨c0, c1, c2, c3, c4, c5, c6, cf⟩ := bl_cells ((Chg.of_below (Φ := fun _ => False) HBB3.out).heap HQ1.out id)))
  have q1 := bl_set2 ((Chg.of_below (Φ := fun _ => False) HBB3.out).heap HQ1.out id) (.slice A3 (n + 1) ca3)
  have q2 := heap_setCell_but ((Chg.of_below (Φ := fun _ => False) HBB3.out).heap HQ2.out id) ne 2 (.slice A3 (n + 1) ca3)
  have hq4 := HQ4.out
  have hb1s := HBB1.out.size
  have q3 := (HQ3.out.trans (HBB3.out.mono (by omega))).setCell (p := ⟨w.heap.size, 2, none⟩) (Nat.le_refl _) (.slice A3 (n + 1) ca3)
  have q5 := own_base HO3.out (show w.heap.size + 2 ≤ V.heap.size from hq4)
  have q6 := own_base HOB.out (show w.heap.size + 2 ≤ w1.heap.size by omega)
  replace q5 := own_off (b := w.heap.size) (i := 2) (u := .slice A3 (n + 1) ca3) q5 (by omega)
  replace q6 := own_off (b := w.heap.size) (i := 2) (u := .slice A3 (n + 1) ca3) q6 (by omega)
  generalize w3.setCell ⟨w.heap.size, 2, none⟩ (.slice A3 (n + 1) ca3) = W1 at *
  clear c0 c1 c2 c3 c4 c5 c6 cf hq4 hb1s
  obtain ⟨c0, c1, c2, c3, c4, c5, c6, cf⟩ := bl_cells q1
  go_upto_region 8 with fail
  replace q2 := heap_setCell_but q2 ne 5 (.int .i64 (bytes + 6 + bn))
  replace q3 := q3.setCell (p := ⟨w.heap.size, 5, none⟩) (Nat.le_refl _) (.int .i64 (bytes + 6 + bn))
  replace q1 := bl_set5 q1 (bytes + 6 + bn)
  replace q5 := own_off (b := w.heap.size) (i := 5) (u := .int .i64 (bytes + 6 + bn)) q5 (by omega)
  replace q6 := own_off (b := w.heap.size) (i := 5) (u := .int .i64 (bytes + 6 + bn)) q6 (by omega)
  generalize W1.setCell ⟨w.heap.size, 5, none⟩ (.int .i64 (bytes + 6 + bn)) = W4 at *
  clear c0 c1 c2 c3 c4 c5 c6 cf
  have HF := Lib.hid (finL (base := base) (vT := .slice T tn tc) (vL := .slice A3 (n + 1) ca3) (syn := syn) (size := size) (bytes := bytes + 6 + bn) (here := here) q3 (hN ▸ q2))
  have HF5 : Hid ((storedL W4 (w.heap.size + 1) base (.slice T tn tc) (.slice A3 (n + 1) ca3) syn size (bytes + 6 + bn) here).ownsRow (w.heap.size + 2) 33 1 (.slice A3 (n + 1) ca3) (n + 1) (l.map Part.val ++ [.slice B2 bn cb2])) := Lib.hid (storedL_own q5 (by omega))
  have HF6 : Hid ((storedL W4 (w.heap.size + 1) base (.slice T tn tc) (.slice A3 (n + 1) ca3) syn size (bytes + 6 + bn) here).ownsRow (w.heap.size + 2) 5 1 (.slice B2 bn cb2) bn (xs.map (Value.int .u8))) := Lib.hid (storedL_own q6 (by omega))
  obtain ⟨e0, e1, e2, e3, e4, e5, e6, ef⟩ := bl_cells HF.out.blk
  obtain ⟨c0, c1, c2, c3, c4, c5, c6, cf⟩ := bl_cells q1
  obtain ⟨d0, d1, d2, d3, d4, d5, d6, df⟩ := bl_cells q2
  rw [hN] at HF HF5 HF6 e0 e1 e2 e3 e4 e5 e6
  unfold storedL at HF HF5 HF6 e0 e1 e2 e3 e4 e5 e6
  clear q1 q2 q3 q5 q6 HQ1 HQ2 HQ3 HQ4 HO3 HOB HBB1 HBB3 HX2 HL2 ef
  go_wp2_with fail
  clear c0 c1 c2 c3 c4 c5 c6 cf d0 d1 d2 d3 d4 d5 d6 df
  generalize ((((((W4.setCell ⟨b1, 0, none⟩ (.int .i64 base)).setCell ⟨b1, 1, none⟩ (.slice T tn tc)).setCell ⟨b1, 2, none⟩ (.slice A3 (n + 1) ca3)).setCell ⟨b1, 3, none⟩ (.int .i64 syn)).setCell ⟨b1, 4, none⟩ (.int .i64 size)).setCell ⟨b1, 5, none⟩ (.int .i64 (bytes + 6 + bn))).setCell ⟨b1, 6, none⟩ (.int .i64 here) = Wf at *
  exact bodyPost_ret (v := .tuple #[.agg #[.int .i64 base, .slice T tn tc, .slice A3 (n + 1) ca3, .int .i64 syn, .int .i64 size, .int .i64 (bytes + 6 + bn), .int .i64 here], .int .i64 0]) (by simp [results, Tryz.results45, go_sem, e0, e1, e2, e3, e4, e5, e6]) rfl ⟨A3, ca3, rfl, HF.out.bel, B2, cb2, HF5, HF6⟩
set_option maxHeartbeats 1600000 in
set_option maxRecDepth 100000 in
/-- A record behind a full segment. -/
theorem RApp_next {w : World} {P : Nat → Prop} {base : Int} {T : Option Addr} {tn tc : Nat} {syn size bytes here : Int} {A : Option Addr} {n c : Nat} {l : List Part} {B : Option Addr} {bn bc : Nat} {xs : List Int} (hl : RowsP w P A n c l) (hn : n ≤ 1000000) (hx : Rd w w.heap.size .u8 B bn bc xs) (hbn : bn ≤ 4096)
    (hb : 0 ≤ bytes ∧ bytes ≤ 1000000000) (hf : 0 < bytes) (hf2 : size < bytes + 6 + bn) (hba : 0 ≤ base ∧ base ≤ 1000000000) :
    Calls Tryz.prog 45 #[rlv base (.slice T tn tc) (.slice A n c) syn size bytes here, .slice B bn bc] w fun e w' => ∃ A' c' B' bc', e = .returned (.tuple #[rlv base (.slice T tn tc) (.slice A' (n + 1) c') (base + n) size (6 + bn) here, .int .i64 0]) ∧ Below w.heap.size w w' ∧
      Hid (w'.ownsRow (w.heap.size + 2) 33 1 (.slice A' (n + 1) c') (n + 1) (l.map Part.val ++ [.slice B' bn bc'])) ∧ Hid (w'.ownsRow (w.heap.size + 2) 5 1 (.slice B' bn bc') bn (xs.map (Value.int .u8))) := by
  obtain ⟨hbW, hb1, hb2, hbs⟩ := boxedL_facts w base (.slice T tn tc) (.slice A n c) syn size bytes here
  obtain ⟨W0, hW0⟩ : ∃ W0, W0 = boxedL w base (.slice T tn tc) (.slice A n c) syn size bytes here := ⟨_, rfl⟩
  rw [← hW0] at hbW hb1 hb2 hbs
  have HB1 := Lib.hid hb1
  have HB2 := Lib.hid hb2
  have HBW := Lib.hid hbW
  have HBS := Lib.hid hbs
  have HX := Lib.hid hx
  have HL := Lib.hid hl
  have hnil : A = none → n = 0 ∧ c = 0 := fun e => by have h1 := hl.nil e; have h2 := hl.cap; exact ⟨by omega, h1⟩
  have hxn := hx.nil
  have hlen : (xs.map (Value.int .u8)).length = bn * 1 := by rw [List.length_map, hx.len, Nat.mul_one]
  have HLEN := Lib.hid hlen
  have hlen2 : (l.map Part.val).length = n * 1 := by rw [List.length_map, hl.len, Nat.mul_one]
  have HLEN2 := Lib.hid hlen2
  obtain ⟨i0, hi, hz0, hz1, hz2⟩ := info_parts info_u8
  obtain ⟨r0, hr, rz0, rz1, rz2⟩ := info_parts info_row
  have HO33 := Lib.hid (fun (W : World) => World.ownsRow_lit (e := 5) (size := 1) W #[] 0 (Nat.le_refl _) (by decide) rfl)
  have HO34 := Lib.hid (fun (W : World) => World.ownsRow_lit (e := 33) (size := 1) W #[] 0 (Nat.le_refl _) (by decide) rfl)
  unfold boxedL bl at hW0
  have HW0 := Lib.hid hW0
  clear hW0 hbW hb1 hb2 hbs hlen hlen2 hl
  obtain ⟨c0, c1, c2, c3, c4, c5, c6, cf⟩ := bl_cells HB1.out
  have n3 : ¬ (4096 : Int) < bn := by omega
  have u1 : IntKind.i64.wrap (bytes + 6) = bytes + 6 := IntWalk.i64_in _ (by omega)
  have u2 : IntKind.i64.wrap (bytes + 6 + (bn : Int)) = bytes + 6 + bn := IntWalk.i64_in _ (by omega)
  have u3 : IntKind.i64.wrap (6 + (bn : Int)) = 6 + bn := IntWalk.i64_in _ (by omega)
  have HLA := Lib.hid fun W => RLast_any (base := base) (vT := .slice T tn tc) (syn := syn) (size := size) (bytes := bytes) (here := here) (A := A) (n := n) (c := c) hba (by omega) W
  unfold rlv at HLA ⊢
  go_enter Tryz.func45, Tryz.ntmps45
  go_upto_region 1 with fail
  rw [← HW0.out]
  generalize hN : w.heap.size + 1 = b1 at *
  have ne : b1 ≠ w.heap.size := by omega
  go_upto_region 5 with (go_at_call 22; refine (HLA.out _).mono ?_; rintro e w9 ⟨rfl, hb9⟩; have HB9 := Lib.hid hb9; clear c0 c1 c2 c3 c4 c5 c6 cf hb9; obtain ⟨c0, c1, c2, c3, c4, c5, c6, cf⟩ := bl_cells ((Chg.of_below (Φ := fun _ => False) HB9.out).heap HB1.out id))
  have q1 := bl_set3 ((Chg.of_below (Φ := fun _ => False) HB9.out).heap HB1.out id) (base + n)
  have q2 := heap_setCell_but ((Chg.of_below (Φ := fun _ => False) HB9.out).heap HB2.out id) ne 3 (.int .i64 (base + n))
  have hbs := HBS.out
  have q3 := (HBW.out.trans (HB9.out.mono (by omega))).setCell (p := ⟨w.heap.size, 3, none⟩) (Nat.le_refl _) (.int .i64 (base + n))
  have q4 : w.heap.size + 2 ≤ (w9.setCell ⟨w.heap.size, 3, none⟩ (.int .i64 (base + n))).heap.size := by
    have := HB9.out.size
    rw [World.size_setCell]
    omega
  generalize w9.setCell ⟨w.heap.size, 3, none⟩ (.int .i64 (base + n)) = W1 at *
  clear c0 c1 c2 c3 c4 c5 c6 cf
  obtain ⟨c0, c1, c2, c3, c4, c5, c6, cf⟩ := bl_cells q1
  go_upto_region 6 with fail
  replace q2 := heap_setCell_but q2 ne 5 (.int .i64 0)
  replace q3 := q3.setCell (p := ⟨w.heap.size, 5, none⟩) (Nat.le_refl _) (.int .i64 0)
  replace q1 := bl_set5 q1 0
  replace q4 : w.heap.size + 2 ≤ (W1.setCell ⟨w.heap.size, 5, none⟩ (.int .i64 0)).heap.size := by
    rw [World.size_setCell]
    exact q4
  clear hbs HB9 HLA
  generalize W1.setCell ⟨w.heap.size, 5, none⟩ (.int .i64 0) = V at *
  have hx2 : Rd V w.heap.size .u8 B bn bc xs := HX.out.below q3
  have hl2 : RowsP V P A n c l := HL.out.keep q3.size fun k hk hP => ⟨q3.block k hk, hP⟩
  have HX2 := Lib.hid hx2
  have HL2 := Lib.hid hl2
  have HQ1 := Lib.hid q1
  have HQ2 := Lib.hid q2
  have HQ3 := Lib.hid q3
  have HQ4 := Lib.hid q4
  clear q1 q2 q3 q4 HB1 HB2 HBW HBS HW0 HX HL hx2 hl2 c0 c1 c2 c3 c4 c5 c6 cf
  have c2 : (V.alloc (.cells #[] 33)).cell? ⟨w.heap.size, 2, none⟩ = some (.slice A n c) := (bl_cells ((Chg.of_below (Φ := fun _ => False) ((Below.refl V.heap.size V).alloc (Nat.le_refl _) _)).heap HQ1.out id)).2.2.1
  go_upto_region 7 with (first
    | (
      at_builtin
      refine wpList_append_src (o := ⟨some 31, _, _, _, _, _⟩) rfl _ _ 34 rfl V.heap.size 33 r0 _ 1 24 Tryz.underlying34 hr rz0 rz1 rz2 rfl (by omega) _ 0 [] rfl (HO34.out V) A n c (l.map Part.val) rfl HLEN2.out hnil (HL2.out.keep (by simp) fun k hk hP => ⟨Below.heap_alloc _ _ _ hk, hP⟩ : RowsP (V.alloc (.cells #[] 33)) P A n c l).news (vals_oneCell l) (by unfold maxLen; omega) (by omega) (by simp) ?_
      intro v1 w1 hown1 hg1
      have hb1 := ((Below.refl V.heap.size V).alloc (Nat.le_refl _) (.cells #[] 33)).grown hg1 (by simp) (fun k hk => ((HO34.out V).lt k hk).1)
      rw [Nat.zero_add, List.nil_append] at hown1
      obtain ⟨A1, ca1, hv1⟩ := own_form hown1
      subst hv1
      have HO1 := Lib.hid hown1
      have HBB1 := Lib.hid hb1
      clear hown1 hg1 hb1)
    | (
      at_builtin
      refine wpList_append_src (o := ⟨some 34, _, _, _, _, _⟩) rfl _ _ 33 rfl w1.heap.size 5 i0 _ 1 1 Tryz.underlying33 hi hz0 hz1 hz2 rfl (by omega) _ 0 [] rfl (HO33.out w1) B bn bc (xs.map (Value.int .u8)) rfl HLEN.out hxn ((HX2.out.below (HBB1.out.mono (by have := HQ4.out; omega))).alloc (by have := HQ4.out; have := HBB1.out.size; omega) _).news (ints_oneCell _ _) (by unfold maxLen; omega) (by omega) (by simp) ?_
      intro v2 w2 hown2 hg2
      have hb2 := ((Below.refl w1.heap.size w1).alloc (Nat.le_refl _) (.cells #[] 5)).grown hg2 (by simp) (fun k hk => ((HO33.out w1).lt k hk).1)
      rw [Nat.zero_add, List.nil_append] at hown2
      obtain ⟨B2, cb2, hv2⟩ := own_form hown2
      subst hv2
      have HO2 := Lib.hid hown2
      have HBB2 := Lib.hid hb2
      clear hown2 hg2 hb2)
    | (
      at_builtin
      refine wpList_append_src (o := ⟨some 36, _, _, _, _, _⟩) rfl _ _ 34 rfl V.heap.size 33 r0 _ 1 24 Tryz.underlying34 hr rz0 rz1 rz2 rfl (by omega) _ n (l.map Part.val) rfl (((Chg.of_below (Φ := fun _ => False) HBB2.out).own HO1.out fun _ _ => id).alloc _) (some ⟨w2.heap.size, 0, none⟩) 1 1 [.slice B2 bn cb2] rfl rfl (fun h => by cases h) (news_new _ _ _) (fun u hu => by rw [List.mem_singleton.1 hu]; rfl) (by unfold maxLen; omega) (by omega) (by have h5 := HBB1.out.size; have h6 := HBB2.out.size; simp; omega) ?_
      intro v3 w3 hown3 hg3
      obtain ⟨A3, ca3, hv3⟩ := own_form hown3
      subst hv3
      have h5 := HBB1.out.size
      have h6 := HBB2.out.size
      have hb4 : Below V.heap.size V (w2.alloc (.cells #[.slice B2 bn cb2] 33)) := (HBB1.out.trans (HBB2.out.mono h5)).alloc (by omega) _
      have hb3 := hb4.grown hg3 (by simp; omega) (fun k hk => (HO1.out.lt k hk).1)
      have hO2 : w3.ownsRow w1.heap.size 5 1 (.slice B2 bn cb2) bn (xs.map (Value.int .u8)) := (Chg.of_grown hg3).own (HO2.out.alloc _) fun g hg e => by
        have h7 := (HO2.out.lt g hg).1
        have h8 := (HO1.out.lt g e).2
        omega
      have HO3 := Lib.hid hown3
      have HOB := Lib.hid hO2
      have HBB3 := Lib.hid hb3
      clear hown3 hg3 hb4 hb3 hO2 h5 h6 HO1 HO2 HBB2 c2
      obtain ⟨c0, c1, c2, c3, c4, c5, c6, cf⟩ := bl_cells ((Chg.of_below (Φ := fun _ => False) HBB3.out).heap HQ1.out id)))
  have q1 := bl_set2 ((Chg.of_below (Φ := fun _ => False) HBB3.out).heap HQ1.out id) (.slice A3 (n + 1) ca3)
  have q2 := heap_setCell_but ((Chg.of_below (Φ := fun _ => False) HBB3.out).heap HQ2.out id) ne 2 (.slice A3 (n + 1) ca3)
  have hq4 := HQ4.out
  have hb1s := HBB1.out.size
  have q3 := (HQ3.out.trans (HBB3.out.mono (by omega))).setCell (p := ⟨w.heap.size, 2, none⟩) (Nat.le_refl _) (.slice A3 (n + 1) ca3)
  have q5 := own_base HO3.out (show w.heap.size + 2 ≤ V.heap.size from hq4)
  have q6 := own_base HOB.out (show w.heap.size + 2 ≤ w1.heap.size by omega)
  replace q5 := own_off (b := w.heap.size) (i := 2) (u := .slice A3 (n + 1) ca3) q5 (by omega)
  replace q6 := own_off (b := w.heap.size) (i := 2) (u := .slice A3 (n + 1) ca3) q6 (by omega)
  generalize w3.setCell ⟨w.heap.size, 2, none⟩ (.slice A3 (n + 1) ca3) = W1 at *
  clear c0 c1 c2 c3 c4 c5 c6 cf hq4 hb1s
  obtain ⟨c0, c1, c2, c3, c4, c5, c6, cf⟩ := bl_cells q1
  go_upto_region 8 with fail
  replace q2 := heap_setCell_but q2 ne 5 (.int .i64 (6 + bn))
  replace q3 := q3.setCell (p := ⟨w.heap.size, 5, none⟩) (Nat.le_refl _) (.int .i64 (6 + bn))
  replace q1 := bl_set5 q1 (6 + bn)
  replace q5 := own_off (b := w.heap.size) (i := 5) (u := .int .i64 (6 + bn)) q5 (by omega)
  replace q6 := own_off (b := w.heap.size) (i := 5) (u := .int .i64 (6 + bn)) q6 (by omega)
  generalize W1.setCell ⟨w.heap.size, 5, none⟩ (.int .i64 (6 + bn)) = W4 at *
  clear c0 c1 c2 c3 c4 c5 c6 cf
  have HF := Lib.hid (finL (base := base) (vT := .slice T tn tc) (vL := .slice A3 (n + 1) ca3) (syn := (base + n)) (size := size) (bytes := 6 + bn) (here := here) q3 (hN ▸ q2))
  have HF5 : Hid ((storedL W4 (w.heap.size + 1) base (.slice T tn tc) (.slice A3 (n + 1) ca3) (base + n) size (6 + bn) here).ownsRow (w.heap.size + 2) 33 1 (.slice A3 (n + 1) ca3) (n + 1) (l.map Part.val ++ [.slice B2 bn cb2])) := Lib.hid (storedL_own q5 (by omega))
  have HF6 : Hid ((storedL W4 (w.heap.size + 1) base (.slice T tn tc) (.slice A3 (n + 1) ca3) (base + n) size (6 + bn) here).ownsRow (w.heap.size + 2) 5 1 (.slice B2 bn cb2) bn (xs.map (Value.int .u8))) := Lib.hid (storedL_own q6 (by omega))
  obtain ⟨e0, e1, e2, e3, e4, e5, e6, ef⟩ := bl_cells HF.out.blk
  obtain ⟨c0, c1, c2, c3, c4, c5, c6, cf⟩ := bl_cells q1
  obtain ⟨d0, d1, d2, d3, d4, d5, d6, df⟩ := bl_cells q2
  rw [hN] at HF HF5 HF6 e0 e1 e2 e3 e4 e5 e6
  unfold storedL at HF HF5 HF6 e0 e1 e2 e3 e4 e5 e6
  clear q1 q2 q3 q5 q6 HQ1 HQ2 HQ3 HQ4 HO3 HOB HBB1 HBB3 HX2 HL2 ef
  go_wp2_with fail
  clear c0 c1 c2 c3 c4 c5 c6 cf d0 d1 d2 d3 d4 d5 d6 df
  generalize ((((((W4.setCell ⟨b1, 0, none⟩ (.int .i64 base)).setCell ⟨b1, 1, none⟩ (.slice T tn tc)).setCell ⟨b1, 2, none⟩ (.slice A3 (n + 1) ca3)).setCell ⟨b1, 3, none⟩ (.int .i64 (base + n))).setCell ⟨b1, 4, none⟩ (.int .i64 size)).setCell ⟨b1, 5, none⟩ (.int .i64 (6 + bn))).setCell ⟨b1, 6, none⟩ (.int .i64 here) = Wf at *
  exact bodyPost_ret (v := .tuple #[.agg #[.int .i64 base, .slice T tn tc, .slice A3 (n + 1) ca3, .int .i64 (base + n), .int .i64 size, .int .i64 (6 + bn), .int .i64 here], .int .i64 0]) (by simp [results, Tryz.results45, go_sem, e0, e1, e2, e3, e4, e5, e6]) rfl ⟨A3, ca3, B2, cb2, rfl, HF.out.bel, HF5, HF6⟩
end Go.Proofs.YtnomicnmpllajaaGreatDoor
end

section
namespace Go.Proofs.YtnomicnmpllajaaGreatDoor
open Go Go.RowKit Go.Maps
set_option linter.unusedVariables false

/-- What Append makes. -/
def appR (r : RefM) (xs : List Int) : RefM × Int := if 4096 < xs.length then (r, 5) else if 0 < r.bytes ∧ r.size < r.bytes + 6 + xs.length then ({ r with recs := r.recs ++ [xs], syn := r.last, bytes := 6 + xs.length }, 0) else ({ r with recs := r.recs ++ [xs], bytes := r.bytes + 6 + xs.length }, 0)
def synR (r : RefM) : RefM := { r with syn := r.last }
/-- What is asked of it. -/
structure RefOk (r : RefM) : Prop where
  base : r.base ≤ 100000000
  recs : r.recs.length ≤ 1000000
  bytes : r.bytes ≤ 100000000
  syn : r.syn ≤ r.last

section
variable {w w' : World} {P : Nat → Prop} {A : Option Addr} {n c : Nat} {xs : List Int} {l : List Part} {r : RefM} {v : Value}
theorem RowP.of_own {B : Nat} (h : w.ownsRow B 5 1 (.slice A n c) n (xs.map (Value.int .u8))) (hP : ∀ k, B ≤ k → P k) (hx : ∀ x ∈ xs, 0 ≤ x ∧ x < 256) : RowP w P A n c xs := by
  obtain ⟨A', c', e, hr⟩ := Rd.of_own h
  cases e
  refine ⟨hr, fun a e hn => ?_, hx⟩
  subst e
  rcases h.2 with ⟨e2, _⟩ | ⟨g, cap, cur, e2, hg, _⟩
  · cases e2
  · cases e2
    exact hP _ hg
theorem RowsP.of_own {B : Nat} (h : w.ownsRow B 33 1 (.slice A n c) n (l.map Part.val)) (hP : ∀ k, B ≤ k → P k) (hok : ∀ p ∈ l, RowP w P p.adr p.len p.cap p.all) : RowsP w P A n c l := by
  have hlen : l.length = n := by
    have := h.1
    simpa using this
  rcases h.2 with ⟨e, e0⟩ | ⟨g, cap, cur, e, hg, hcur, hnc, hcm, hcs, htk⟩
  · cases e
    refine ⟨hlen, Nat.le_refl _, Nat.zero_le _, fun _ => rfl, fun j p hp => ?_, (fun a e => by cases e), hok⟩
    have := (List.getElem?_eq_some_iff.1 hp).1
    omega
  · cases e
    refine ⟨hlen, hnc, hcm, (fun e => by cases e), fun j p hp => ?_, (fun a e => by cases e; rfl), hok⟩
    have hj : (l.map Part.val)[j]? = some p.val := by rw [List.getElem?_map, hp]; rfl
    obtain ⟨g', e1, h1, h2, h3, _⟩ := own_at h hj
    cases e1
    exact ⟨g, 0, rfl, h2, hP _ h1, by rw [Nat.zero_add]; exact h3⟩
theorem RowsP.take (h : RowsP w P A n c l) (k : Nat) (hk : k ≤ n) : RowsP w P A k c (l.take k) :=
  ⟨by rw [List.length_take, h.len]; omega, Nat.le_trans hk h.cap, h.max, h.nil, (fun j p hp => by
    rw [List.getElem?_take] at hp
    split at hp
    · exact h.place j p hp
    · cases hp), h.spot, fun p hp => h.ok p (List.mem_of_mem_take hp)⟩
theorem RowsP.drop {a : Addr} (h : RowsP w P (some a) n c l) (k : Nat) (hk : k ≤ n) : RowsP w P (some (a.add k)) (n - k) (c - k) (l.drop k) := by
  obtain ⟨b, o, sp⟩ := a
  have hs : sp = none := h.spot _ rfl
  subst hs
  have hc := h.cap
  have hm := h.max
  refine ⟨by rw [List.length_drop, h.len], by omega, by omega, (fun e => by cases e), fun j p hp => ?_, (fun a e => by rw [Addr.add_lit] at e; cases e; rfl), fun p hp => h.ok p (List.mem_of_mem_drop hp)⟩
  rw [List.getElem?_drop] at hp
  obtain ⟨b', o', e, hb, hP, hcell⟩ := h.place _ p hp
  cases e
  exact ⟨b, o + k, congrArg some (Addr.add_lit ..), hb, hP, by rw [Nat.add_assoc]; exact hcell⟩
theorem RowsP.none_ (a : Option Addr) (hs : ∀ x, a = some x → x.spot = none) : RowsP w P a 0 0 [] :=
  ⟨rfl, Nat.le_refl _, Nat.zero_le _, fun _ => rfl, (fun j p hp => by simp at hp), hs, fun p hp => by cases hp⟩

theorem RNew_is (N : Nat) (w : World) : Calls Tryz.prog 16 #[.int .i64 N] w fun e w' => ∃ v, e = .returned v ∧ Below w.heap.size w w' ∧ RefIs w' P ⟨0, [], [], 0, N, 0⟩ v := by
  refine (RNew_any N w).mono ?_
  rintro e w' ⟨rfl, hb⟩
  exact ⟨_, rfl, hb, none, 0, none, 0, [], rfl, ⟨Rd.none_ _ _ _, (fun a e => by cases e), fun x hx => by cases hx⟩, RowsP.none_ _ (fun x e => by cases e), rfl⟩
theorem RSync_is (h : RefIs w P r v) (hr : RefOk r) : Calls Tryz.prog 46 #[v] w fun e w' => ∃ v', e = .returned v' ∧ Below w.heap.size w w' ∧ RefIs w' P (synR r) v' := by
  obtain ⟨tA, tc, rA, rc, l, rfl, h1, h2, h3⟩ := h
  have hb := hr.base
  have hn := hr.recs
  refine (RSync_any (base := (r.base : Int)) (by omega) (by omega) w).mono ?_
  rintro e w' ⟨rfl, hb⟩
  have hk : ∀ k, k < w.heap.size → P k → w'.heap[k]? = w.heap[k]? ∧ P k := fun k hk hP => ⟨hb.block k hk, hP⟩
  refine ⟨_, rfl, hb, tA, tc, rA, rc, l, ?_, h1.keep hb.size hk, h2.keep hb.size hk, h3⟩
  show rlv _ _ _ _ _ _ _ = rlv _ _ _ ((r.base + r.recs.length : Nat) : Int) _ _ _
  rw [Int.natCast_add]
  rfl
theorem RCut_is (h : RefIs w P r v) (hr : RefOk r) (k : Int) (m : Nat) : Calls Tryz.prog 48 #[v, .int .i64 k, .int .i64 m] w fun e w' => ∃ v', e = .returned (.tuple #[v', .int .i64 (cutR r k m).2]) ∧ Below w.heap.size w w' ∧ RefIs w' P (cutR r k m).1 v' := by
  have h0 := h
  obtain ⟨tA, tc, rA, rc, l, rfl, h1, h2, h3⟩ := h
  have hb := hr.base
  have hn := hr.recs
  have hl := h2.len
  unfold cutR
  by_cases c : k < r.base ∨ (r.last : Int) < k
  · rw [if_pos c]
    refine (RCut_no (base := (r.base : Int)) (by omega) (by omega) (by unfold RefM.last at c; omega)).mono ?_
    rintro e w' ⟨rfl, hb⟩
    exact ⟨_, rfl, hb, h0.below hb⟩
  · rw [if_neg c]
    unfold RefM.last at c
    obtain ⟨d, rfl⟩ : ∃ d : Nat, k = (r.base : Int) + d := ⟨(k - r.base).toNat, by omega⟩
    have e1 : ((r.base : Int) + d).toNat - r.base = d := by omega
    have e2 : (((r.base : Int) + d).toNat : Int) = (r.base : Int) + d := by omega
    have hd : d ≤ r.recs.length := by omega
    have hlt : (r.recs.take d).length = d := by rw [List.length_take]; omega
    have hmp : (l.take d).map Part.all = r.recs.take d := by rw [List.map_take, h3]
    rcases rA with _ | a
    · have hc0 := h2.nil rfl
      have hcc := h2.cap
      have hn0 : r.recs.length = 0 := by omega
      have hd0 : d = 0 := by omega
      subst hd0
      subst hc0
      refine (show Calls Tryz.prog 48 #[rlv r.base (.slice tA r.shot.length tc) (.slice none r.recs.length 0) r.syn r.size r.bytes 0, .int .i64 ((r.base : Int) + (0 : Nat)), .int .i64 m] w _ from ?_)
      rw [hn0, show (r.base : Int) + (0 : Nat) = r.base by omega]
      refine (RCut_go0 (base := (r.base : Int)) (by omega)).mono ?_
      rintro e w' ⟨rfl, hb⟩
      have hk : ∀ k, k < w.heap.size → P k → w'.heap[k]? = w.heap[k]? ∧ P k := fun k hk hP => ⟨hb.block k hk, hP⟩
      refine ⟨_, rfl, hb, tA, tc, none, 0, [], ?_, h1.keep hb.size hk, ?_, ?_⟩
      · show rlv _ _ _ _ _ _ _ = rlv _ _ (.slice none (r.recs.take _).length 0) ((_ : Nat) : Int) _ _ _
        rw [show ((r.base : Int)).toNat - r.base = 0 by omega, show (((r.base : Int)).toNat : Int) = r.base by omega]
        rfl
      · show RowsP _ _ _ (r.recs.take _).length _ _
        rw [show ((r.base : Int)).toNat - r.base = 0 by omega]
        exact RowsP.none_ _ fun x e => by cases e
      · show _ = r.recs.take _
        rw [show ((r.base : Int)).toNat - r.base = 0 by omega]
        rfl
    · refine (RCut_go (base := (r.base : Int)) (by omega) hd (by omega) h2.cap h2.max).mono ?_
      rintro e w' ⟨rfl, hb⟩
      have hk : ∀ k, k < w.heap.size → P k → w'.heap[k]? = w.heap[k]? ∧ P k := fun k hk hP => ⟨hb.block k hk, hP⟩
      refine ⟨_, rfl, hb, tA, tc, some a, rc, l.take d, ?_, h1.keep hb.size hk, ?_, ?_⟩
      · show rlv _ _ _ _ _ _ _ = rlv _ _ (.slice (some a) (r.recs.take _).length rc) ((_ : Nat) : Int) _ _ _
        rw [e1, hlt, e2]
      · show RowsP _ _ _ (r.recs.take _).length _ _
        rw [e1, hlt]
        exact (h2.keep hb.size hk).take d hd
      · show _ = r.recs.take _
        rw [e1]
        exact hmp
theorem RSnap_is (h : RefIs w P r v) (hr : RefOk r) (hP : ∀ k, w.heap.size ≤ k → P k) (k : Int) {B : Option Addr} {bn bc : Nat} (hx : Rd w w.heap.size .u8 B bn bc xs) (hb : ∀ x ∈ xs, 0 ≤ x ∧ x < 256) : Calls Tryz.prog 47 #[v, .int .i64 k, .slice B bn bc] w fun e w' => ∃ v', e = .returned (.tuple #[v', .int .i64 (snapR r k xs).2]) ∧ Below w.heap.size w w' ∧ RefIs w' P (snapR r k xs).1 v' := by
  have h0 := h
  obtain ⟨tA, tc, rA, rc, l, rfl, h1, h2, h3⟩ := h
  have hbs := hr.base
  have hn := hr.recs
  have hsy := hr.syn
  have hl := h2.len
  have hxl := hx.len
  unfold RefM.last at hsy
  unfold snapR
  by_cases c : k < r.base ∨ (r.syn : Int) < k
  · rw [if_pos c]
    refine (Snap_no (base := (r.base : Int)) (syn := (r.syn : Int)) (by omega)).mono ?_
    rintro e w' ⟨rfl, hb⟩
    rw [if_pos c]
    exact ⟨_, rfl, hb, h0.below hb⟩
  · rw [if_neg c]
    by_cases c2 : 4000 < xs.length
    · rw [if_pos c2]
      refine (Snap_no (base := (r.base : Int)) (syn := (r.syn : Int)) (by omega)).mono ?_
      rintro e w' ⟨rfl, hb⟩
      rw [if_neg c]
      exact ⟨_, rfl, hb, h0.below hb⟩
    · rw [if_neg c2]
      obtain ⟨d, rfl⟩ : ∃ d : Nat, k = (r.base : Int) + d := ⟨(k - r.base).toNat, by omega⟩
      have hd : d ≤ r.recs.length := by omega
      have e1 : ((r.base : Int) + d).toNat - r.base = d := by omega
      have e2 : (((r.base : Int) + d).toNat : Int) = (r.base : Int) + d := by omega
      have hld : (r.recs.drop d).length = r.recs.length - d := List.length_drop ..
      have hmp : (l.drop d).map Part.all = r.recs.drop d := by rw [List.map_drop, h3]
      have hkk : ∀ w', Below w.heap.size w w' → ∀ k, k < w.heap.size → P k → w'.heap[k]? = w.heap[k]? ∧ P k := fun w' hb k hk hP => ⟨hb.block k hk, hP⟩
      have hPb : ∀ k, w.heap.size + 2 ≤ k → P k := fun k hk => hP k (by omega)
      rcases rA with _ | a
      · have hc0 := h2.nil rfl
        have hcc := h2.cap
        have hn0 : r.recs.length = 0 := by omega
        have hd0 : d = 0 := by omega
        subst hd0
        subst hc0
        rw [hn0, show (r.base : Int) + (0 : Nat) = r.base by omega]
        refine (Snap_go0 (base := (r.base : Int)) (syn := (r.syn : Int)) (by omega) (by omega) hx (by omega)).mono ?_
        rintro e w' ⟨T', tc', rfl, hb2, ho⟩
        subst hxl
        refine ⟨_, rfl, hb2, T', tc', none, 0, [], ?_, RowP.of_own ho.out hPb hb, ?_, ?_⟩
        · show rlv _ _ _ _ _ _ _ = rlv ((_ : Nat) : Int) _ (.slice none (r.recs.drop _).length 0) _ _ _ _
          rw [show ((r.base : Int)).toNat - r.base = 0 by omega, show (((r.base : Int)).toNat : Int) = r.base by omega, List.drop_zero, hn0]
        · show RowsP _ _ _ (r.recs.drop _).length _ _
          rw [show ((r.base : Int)).toNat - r.base = 0 by omega, List.drop_zero, hn0]
          exact RowsP.none_ _ fun x e => by cases e
        · show _ = r.recs.drop _
          rw [show ((r.base : Int)).toNat - r.base = 0 by omega, List.drop_zero, List.eq_nil_of_length_eq_zero hn0]
          rfl
      · by_cases hcd : rc = d
        · have hcc := h2.cap
          have hnd : r.recs.length = d := by omega
          subst hcd
          rw [hnd]
          refine (Snap_goc (base := (r.base : Int)) (syn := (r.syn : Int)) (n := rc) (by omega) (by omega) (by omega) h2.max hx (by omega)).mono ?_
          rintro e w' ⟨T', tc', rfl, hb2, ho⟩
          subst hxl
          refine ⟨_, rfl, hb2, T', tc', some a, 0, [], ?_, RowP.of_own ho.out hPb hb, ?_, ?_⟩
          · show rlv _ _ _ _ _ _ _ = rlv ((_ : Nat) : Int) _ (.slice (some a) (r.recs.drop _).length 0) _ _ _ _
            rw [e1, hld, e2, hnd, Nat.sub_self]
          · show RowsP _ _ _ (r.recs.drop _).length _ _
            rw [e1, hld, hnd, Nat.sub_self]
            exact RowsP.none_ _ h2.spot
          · show _ = r.recs.drop _
            rw [e1, List.drop_of_length_le (by omega)]
            rfl
        · refine (Snap_go (base := (r.base : Int)) (syn := (r.syn : Int)) (by omega) (by omega) hd (by omega) h2.cap h2.max hx (by omega) hcd).mono ?_
          rintro e w' ⟨T', tc', rfl, hb2, ho⟩
          subst hxl
          refine ⟨_, rfl, hb2, T', tc', some (a.add d), rc - d, l.drop d, ?_, RowP.of_own ho.out hPb hb, ?_, ?_⟩
          · show rlv _ _ _ _ _ _ _ = rlv ((_ : Nat) : Int) _ (.slice (some (a.add d)) (r.recs.drop _).length (rc - d)) _ _ _ _
            rw [e1, hld, e2]
          · show RowsP _ _ _ (r.recs.drop _).length _ _
            rw [e1, hld]
            exact (h2.keep hb2.size (hkk _ hb2)).drop d hd
          · show _ = r.recs.drop _
            rw [e1]
            exact hmp
theorem app_rows (h2 : RowsP w P A n c l) (hb : Below w.heap.size w w') (hP : ∀ k, w.heap.size + 2 ≤ k → P k) {A' : Option Addr} {c' : Nat} {B' : Option Addr} {bc' : Nat} (ho : w'.ownsRow (w.heap.size + 2) 33 1 (.slice A' (n + 1) c') (n + 1) (l.map Part.val ++ [.slice B' xs.length bc'])) (hp : w'.ownsRow (w.heap.size + 2) 5 1 (.slice B' xs.length bc') xs.length (xs.map (Value.int .u8))) (hx : ∀ x ∈ xs, 0 ≤ x ∧ x < 256) :
    RowsP w' P A' (n + 1) c' (l ++ [⟨B', xs.length, bc', xs⟩]) := by
  refine RowsP.of_own (B := w.heap.size + 2) (by rw [List.map_append]; exact ho) hP fun p hp' => ?_
  rcases List.mem_append.1 hp' with hp' | hp'
  · exact (h2.ok p hp').keep hb.size fun k hk hP => ⟨hb.block k hk, hP⟩
  · rw [List.mem_singleton.1 hp']
    exact RowP.of_own hp hP hx
theorem RApp_is (h : RefIs w P r v) (hr : RefOk r) (hP : ∀ k, w.heap.size ≤ k → P k) {B : Option Addr} {bn bc : Nat} (hx : Rd w w.heap.size .u8 B bn bc xs) (hb : ∀ x ∈ xs, 0 ≤ x ∧ x < 256) : Calls Tryz.prog 45 #[v, .slice B bn bc] w fun e w' => ∃ v', e = .returned (.tuple #[v', .int .i64 (appR r xs).2]) ∧ Below w.heap.size w w' ∧ RefIs w' P (appR r xs).1 v' := by
  have h0 := h
  obtain ⟨tA, tc, rA, rc, l, rfl, h1, h2, h3⟩ := h
  have hbs := hr.base
  have hn := hr.recs
  have hby := hr.bytes
  have hxl := hx.len
  have hPb : ∀ k, w.heap.size + 2 ≤ k → P k := fun k hk => hP k (by omega)
  have hkk : ∀ w', Below w.heap.size w w' → ∀ k, k < w.heap.size → P k → w'.heap[k]? = w.heap[k]? ∧ P k := fun w' hb k hk hP => ⟨hb.block k hk, hP⟩
  unfold appR
  by_cases c : 4096 < xs.length
  · rw [if_pos c]
    refine (RApp_no (base := (r.base : Int)) (by omega)).mono ?_
    rintro e w' ⟨rfl, hb⟩
    exact ⟨_, rfl, hb, h0.below hb⟩
  · rw [if_neg c]
    subst hxl
    have hle : (r.recs ++ [xs]).length = r.recs.length + 1 := by simp
    have hmp : ∀ B' bc', (l ++ [(⟨B', xs.length, bc', xs⟩ : Part)]).map Part.all = r.recs ++ [xs] := fun B' bc' => by rw [List.map_append, h3]; rfl
    by_cases c2 : 0 < r.bytes ∧ r.size < r.bytes + 6 + xs.length
    · rw [if_pos c2]
      refine (RApp_next (base := (r.base : Int)) (bytes := (r.bytes : Int)) (size := (r.size : Int)) h2 (by omega) hx (by omega) (by omega) (by omega) (by omega) (by omega)).mono ?_
      rintro e w' ⟨A', c', B', bc', rfl, hb2, ho, hp⟩
      refine ⟨_, rfl, hb2, tA, tc, A', c', l ++ [⟨B', xs.length, bc', xs⟩], ?_, h1.keep hb2.size (hkk _ hb2), ?_, hmp _ _⟩
      · show rlv _ _ _ _ _ _ _ = rlv _ _ (.slice A' (r.recs ++ [xs]).length c') ((r.base + r.recs.length : Nat) : Int) _ ((6 + xs.length : Nat) : Int) _
        rw [hle, Int.natCast_add, Int.natCast_add]
        rfl
      · show RowsP _ _ _ (r.recs ++ [xs]).length _ _
        rw [hle]
        exact app_rows h2 hb2 hPb ho.out hp.out hb
    · rw [if_neg c2]
      by_cases c3 : r.bytes = 0
      · refine (RApp_first (base := (r.base : Int)) (bytes := (r.bytes : Int)) (size := (r.size : Int)) (syn := (r.syn : Int)) h2 (by omega) hx (by omega) (by omega) (by omega)).mono ?_
        rintro e w' ⟨A', c', B', bc', rfl, hb2, ho, hp⟩
        refine ⟨_, rfl, hb2, tA, tc, A', c', l ++ [⟨B', xs.length, bc', xs⟩], ?_, h1.keep hb2.size (hkk _ hb2), ?_, hmp _ _⟩
        · show rlv _ _ _ _ _ _ _ = rlv _ _ (.slice A' (r.recs ++ [xs]).length c') _ _ ((r.bytes + 6 + xs.length : Nat) : Int) _
          rw [hle, c3, Nat.zero_add, Int.natCast_add]
          rfl
        · show RowsP _ _ _ (r.recs ++ [xs]).length _ _
          rw [hle]
          exact app_rows h2 hb2 hPb ho.out hp.out hb
      · refine (RApp_on (base := (r.base : Int)) (bytes := (r.bytes : Int)) (size := (r.size : Int)) (syn := (r.syn : Int)) h2 (by omega) hx (by omega) (by omega) (by omega) (by omega)).mono ?_
        rintro e w' ⟨A', c', B', bc', rfl, hb2, ho, hp⟩
        refine ⟨_, rfl, hb2, tA, tc, A', c', l ++ [⟨B', xs.length, bc', xs⟩], ?_, h1.keep hb2.size (hkk _ hb2), ?_, hmp _ _⟩
        · show rlv _ _ _ _ _ _ _ = rlv _ _ (.slice A' (r.recs ++ [xs]).length c') _ _ ((r.bytes + 6 + xs.length : Nat) : Int) _
          rw [hle, Int.natCast_add, Int.natCast_add]
          rfl
        · show RowsP _ _ _ (r.recs ++ [xs]).length _ _
          rw [hle]
          exact app_rows h2 hb2 hPb ho.out hp.out hb
end
end Go.Proofs.YtnomicnmpllajaaGreatDoor
end

section
namespace Go.Proofs.YtnomicnmpllajaaGreatDoor
open Go Go.RowKit
set_option linter.unusedVariables false

/-- A log that is new since w, and lies in the blocks of F, as its disk does. -/
def LF (w : World) (F : Nat → Prop) (lb d : Nat) (R : Int) (S : List RF) (M : LogM) (W : World) : Prop :=
  (∃ V Φ Λ, LogAt W lb d M V Λ ∧ DiskAt W d R S Φ ∧ (∀ k, Φ k → ¬ Λ k) ∧ ∀ k, Φ k ∨ Λ k → F k) ∧ Below w.heap.size w W ∧ ∀ k, F k → w.heap.size ≤ k ∧ k < W.heap.size
section
variable {w W W' : World} {F F' : Nat → Prop} {lb d : Nat} {R : Int} {S S' : List RF} {M M' : LogM} {G : List SegR} {st : Nat}
theorem LF.lk (h : LF w F lb d R S M W) : LK w (fun k => k < W.heap.size ∧ ¬ F k) lb d R S M W := by
  obtain ⟨⟨V, Φ, Λ, h1, h2, h3, h4⟩, hb, hF⟩ := h
  refine ⟨⟨V, hb, Φ, Λ, h1, h2, h3, fun k hk => ?_⟩, fun k hk => hk.1, fun k hk => ⟨Nat.lt_of_lt_of_le hk hb.size, fun h5 => ?_⟩⟩
  · have h5 := h4 k hk
    exact ⟨(hF k h5).1, fun h6 => h6.2 h5, (hF k h5).2⟩
  · have := (hF k h5).1
    omega
theorem LK.lf (h : LK w (fun k => k < W.heap.size ∧ ¬ F k) lb d R S M W') (hs : W.heap.size ≤ W'.heap.size) (hF : ∀ k, F k → w.heap.size ≤ k ∧ k < W.heap.size) (hw : w.heap.size ≤ W.heap.size) : LF w (grow F W W') lb d R S M W' := by
  obtain ⟨⟨V, h⟩, _, _⟩ := h
  obtain ⟨Φ, Λ, h1, h2, h3, h4⟩ := h.ex
  refine ⟨⟨V, Φ, Λ, h1, h2, h3, fun k hk => ?_⟩, h.below, fun k hk => ?_⟩
  · obtain ⟨h5, h6, h7⟩ := h4 k hk
    by_cases c : F k
    · exact .inl c
    · exact .inr ⟨Nat.le_of_not_lt fun h8 => h6 ⟨h8, c⟩, h7⟩
  · rcases hk with hk | hk
    · exact ⟨(hF k hk).1, Nat.lt_of_lt_of_le (hF k hk).2 hs⟩
    · exact ⟨Nat.le_trans hw hk.1, hk.2⟩
theorem LF.below (h : LF w F lb d R S M W) : Below w.heap.size w W := h.2.1
theorem LF.later (h : LF w F lb d R S M W) (hb : Below W.heap.size W W') : LF w F lb d R S M W' := by
  obtain ⟨⟨V, Φ, Λ, h1, h2, h3, h4⟩, h5, h6⟩ := h
  exact ⟨⟨V, Φ, Λ, h1.later hb, h2.later hb, h3, h4⟩, h5.trans (hb.mono h5.size), fun k hk => ⟨(h6 k hk).1, Nat.lt_of_lt_of_le (h6 k hk).2 hb.size⟩⟩
/-- It stays where others are written. -/
theorem LF.keep (h : LF w F lb d R S M W) (hc : Chg F' W W') (ha : ∀ k, F k → ¬ F' k) (hb : Below w.heap.size w W') : LF w F lb d R S M W' := by
  obtain ⟨⟨V, Φ, Λ, h1, h2, h3, h4⟩, h5, h6⟩ := h
  exact ⟨⟨V, Φ, Λ, h1.keep hc fun k hk => ha k (h4 k (.inr hk)), by
    obtain ⟨m, L, e, hD⟩ := h2
    exact ⟨m, L, e, hD.keep hc fun k hk => ha k (h4 k (.inl hk))⟩, h3, h4⟩, hb, fun k hk => ⟨(h6 k hk).1, Nat.lt_of_lt_of_le (h6 k hk).2 hc.size⟩⟩
theorem LF.turn (h : LF w F lb d R S M W) (h2 : LK w (fun k => k < W.heap.size ∧ ¬ F k) lb d R S' M' W') (hK : Kept (fun k => k < W.heap.size ∧ ¬ F k) W W') : LF w (grow F W W') lb d R S' M' W' ∧ Chg F W W' := by
  obtain ⟨_, hb, hF⟩ := h
  refine ⟨h2.lf hK.2 hF hb.size, ?_⟩
  have hc := Chg.of_kept hb h2.below hK
  exact hc.mono fun k hk h3 => Classical.not_not.1 fun h4 => h3 ⟨hk, h4⟩
theorem LF.row (h : LF w F lb d R S M W) {A : Option Addr} {n c : Nat} {xs : List Int} (hr : Rd w w.heap.size .u8 A n c xs) : Rd W W.heap.size .u8 A n c xs ∧ ∀ a, A = some a → 0 < n → (a.block < W.heap.size ∧ ¬ F a.block) := by
  refine ⟨(hr.below h.below).more h.below.size, fun a e hn => ?_⟩
  have h1 := hr.blk a e hn
  exact ⟨Nat.lt_of_lt_of_le h1 h.below.size, fun h2 => by have := (h.2.2 _ h2).1; omega⟩
/-- What a call makes of a log, and what it answers. -/
def logTo (p : OpM) (S : List RF) (M : LogM) (S' : List RF) (M' : LogM) (e : Int) : Prop :=
  (p.kind = 0 ∧ ((p.b.length ≤ 4096 ∧ S' = (stepA S M p.b).1 ∧ M' = (stepA S M p.b).2 ∧ e = 0) ∨ (4096 < p.b.length ∧ S' = S ∧ M' = M ∧ e = 5))) ∨
  (p.kind = 1 ∧ S' = (stepS S M).1 ∧ M' = (stepS S M).2 ∧ e = 0) ∨
  (p.kind = 2 ∧ (((p.n < M.base ∨ (M.synced : Int) < p.n) ∧ S' = S ∧ M' = M ∧ e = 1) ∨ ∃ k : Nat, p.n = k ∧ M.base ≤ k ∧ k ≤ M.synced ∧ ((p.b.length ≤ 4000 ∧ S' = (stepP S M k p.b).1 ∧ M' = (stepP S M k p.b).2 ∧ e = 0) ∨ (4000 < p.b.length ∧ S' = S ∧ M' = M ∧ e = 5)))) ∨
  (p.kind ≠ 0 ∧ p.kind ≠ 1 ∧ p.kind ≠ 2 ∧ (((p.n < M.base ∨ (M.last : Int) < p.n) ∧ S' = S ∧ M' = M ∧ e = 1) ∨ ∃ k : Nat, p.n = k ∧ M.base ≤ k ∧ k ≤ M.last ∧ CutTo M k S M' S' ∧ e = 0))
/-- The same of the document's. -/
def refTo (r : RefM) (p : OpM) (n : Nat) : RefM × Int := if p.kind = 0 then appR r p.b else if p.kind = 1 then (synR r, 0) else if p.kind = 2 then snapR r p.n p.b else cutR r p.n n
/-- Where both stand. -/
def DoesAt (w : World) (F P : Nat → Prop) (lb d : Nat) (R : Int) (S : List RF) (M : LogM) (r : RefM) (v : Value) (B : Nat) (W W' : World) : Prop :=
  ∃ F', LF w F' lb d R S M W' ∧ Chg F W W' ∧ (∀ k, F' k → F k ∨ B ≤ k) ∧ RefIs W' (fun k => P k ∧ ¬ F' k) r v
variable {P : Nat → Prop} {r : RefM} {v : Value} {p : OpM}
theorem RefIs.turn (h : RefIs W P r v) (hc : Chg F W W') (hP : ∀ k, P k → ¬ F k) (hF : ∀ k, F' k → F k ∨ W.heap.size ≤ k) : RefIs W' (fun k => P k ∧ ¬ F' k) r v := h.keep hc.size fun k hk hp => ⟨hc.block k hk (hP k hp), hp, fun h1 => by
  rcases hF k h1 with h2 | h2
  · exact hP k hp h2
  · omega⟩
/-- In the middle of 'does': the log is as it was, and the document's beside it; F: where the log lies, P: where the document's rows may. -/
def Mid (w : World) (F P : Nat → Prop) (lb d : Nat) (S : List RF) (M : LogM) (r : RefM) (v : Value) (B : Nat) (W V : World) : Prop :=
  LF w F lb d 1048576 S M V ∧ Chg F W V ∧ RefIs V P r v ∧ (∀ k, P k → ¬ F k) ∧ (∀ k, V.heap.size ≤ k → P k) ∧ (∀ k, F k → k < W.heap.size) ∧ w.heap.size ≤ W.heap.size ∧ B ≤ V.heap.size
variable {V V1 : World} {b B : Nat}
theorem storedL_chg {V : World} {b : Nat} {base : Int} {vT vL : Value} {syn size bytes here : Int} : Chg (fun k => k = b) V (storedL V b base vT vL syn size bytes here) := by
  unfold storedL
  have h : ∀ (V' : World) (i : Nat) (u : Value), Chg (fun k => k = b) V V' → Chg (fun k => k = b) V (V'.setCell ⟨b, i, none⟩ u) := fun V' i u hV => hV.trans (Chg.set V' b i u) fun _ _ e => e
  exact h _ _ _ (h _ _ _ (h _ _ _ (h _ _ _ (h _ _ _ (h _ _ _ (h _ _ _ (Chg.refl _ _)))))))
theorem storedL_size {V : World} {b : Nat} {base : Int} {vT vL : Value} {syn size bytes here : Int} : (storedL V b base vT vL syn size bytes here).heap.size = V.heap.size := by
  unfold storedL
  simp only [World.size_setCell]
theorem Mid.box (h : Mid w F P lb d S M r v B W V) (hc : Chg (fun k => k = b) V V1) (hs : V1.heap.size = V.heap.size) (hb : W.heap.size ≤ b) (hP : ¬ P b) : Mid w F P lb d S M r v B W V1 := by
  obtain ⟨h1, h2, h3, h4, h5, h6, h7, h8⟩ := h
  have hFb : ¬ F b := fun h9 => by have := h6 b h9; omega
  have hw := h1.below
  exact ⟨h1.keep hc (fun k hk e => hFb (e ▸ hk)) (hw.trans (hc.below hw.size fun k e => by omega)), h2.trans hc fun k hk e => by omega, h3.keep (Nat.le_of_eq hs.symm) fun k hk hp => ⟨hc.block k hk fun e => hP (e ▸ hp), hp⟩, h4, fun k hk => h5 k (by omega), h6, h7, by omega⟩
theorem Mid.later (h : Mid w F P lb d S M r v B W V) (hb : Below V.heap.size V V1) : Mid w F P lb d S M r v B W V1 := by
  obtain ⟨h1, h2, h3, h4, h5, h6, h7, h8⟩ := h
  exact ⟨h1.later hb, h2.trans (Chg.of_below (Φ := F) hb) fun _ _ hk => hk, h3.below hb, h4, fun k hk => h5 k (Nat.le_trans hb.size hk), h6, h7, Nat.le_trans h8 hb.size⟩
theorem Mid.ref (h : Mid w F P lb d S M r v B W V) (hb : Below V.heap.size V V1) {r' : RefM} {v' : Value} (hr : RefIs V1 P r' v') : Mid w F P lb d S M r' v' B W V1 := by
  obtain ⟨h1, h2, h3, h4, h5, h6, h7⟩ := h.later hb
  exact ⟨h1, h2, hr, h4, h5, h6, h7⟩
theorem Mid.log (h : Mid w F P lb d S M r v B W V) (h2 : LK w (fun k => k < V.heap.size ∧ ¬ F k) lb d 1048576 S' M' V1) (h3 : Kept (fun k => k < V.heap.size ∧ ¬ F k) V V1) : DoesAt w F P lb d 1048576 S' M' r v B W V1 ∧ Chg F V V1 := by
  obtain ⟨h1, q2, q3, q4, q5, q6, q7, q8⟩ := h
  obtain ⟨h4, h5⟩ := h1.turn h2 h3
  refine ⟨⟨_, h4, q2.trans h5 fun _ _ hk => hk, fun k hk => ?_, q3.turn h5 q4 fun k hk => ?_⟩, h5⟩
  · rcases hk with hk | hk
    · exact .inl hk
    · exact .inr (Nat.le_trans q8 hk.1)
  · rcases hk with hk | hk
    · exact .inl hk
    · exact .inr hk.1
theorem DoesAt.box (h : DoesAt w F P lb d R S M r v B W V) (hF : ∀ k, F k → k < W.heap.size) (hw : w.heap.size ≤ W.heap.size) (hc : Chg (fun k => k = b) V V1) (hs : V1.heap.size = V.heap.size) (hb : W.heap.size ≤ b) (hbB : b < B) (hP : ¬ P b) : DoesAt w F P lb d R S M r v B W V1 := by
  obtain ⟨F', h1, h2, h3, h4⟩ := h
  have hFb : ¬ F' b := fun h5 => by
    rcases h3 b h5 with h6 | h6
    · have := hF b h6
      omega
    · omega
  have hbl := h1.below
  exact ⟨F', h1.keep hc (fun k hk e => hFb (e ▸ hk)) (hbl.trans (hc.below hbl.size fun k e => by omega)), h2.trans hc fun k hk e => by omega, h3, h4.keep (Nat.le_of_eq hs.symm) fun k hk hp => ⟨hc.block k hk fun e => hP (e ▸ hp.1), hp⟩⟩
theorem mid_app (h : Mid w F P lb d S M r v B W V) (hro : RefOk r) (hp : OpOk w w.heap.size p) :
    Calls Tryz.prog 45 #[v, .slice p.bA p.bn p.bc] V fun e V1 => ∃ v', e = .returned (.tuple #[v', .int .i64 (appR r p.b).2]) ∧ Below V.heap.size V V1 ∧ Hid (Mid w F P lb d S M (appR r p.b).1 v' B W V1) := by
  obtain ⟨hrow, hoff⟩ := h.1.row hp.rb
  refine (RApp_is h.2.2.1 hro h.2.2.2.2.1 hrow hp.byt).mono ?_
  rintro e V1 ⟨v', rfl, hb, hr1⟩
  exact ⟨v', rfl, hb, Lib.hid (h.ref hb hr1)⟩
theorem mid_sync (h : Mid w F P lb d S M r v B W V) (hro : RefOk r) :
    Calls Tryz.prog 46 #[v] V fun e V1 => ∃ v', e = .returned v' ∧ Below V.heap.size V V1 ∧ Hid (Mid w F P lb d S M (synR r) v' B W V1) := by
  refine (RSync_is h.2.2.1 hro).mono ?_
  rintro e V1 ⟨v', rfl, hb, hr1⟩
  exact ⟨v', rfl, hb, Lib.hid (h.ref hb hr1)⟩
theorem mid_snap (h : Mid w F P lb d S M r v B W V) (hro : RefOk r) (hp : OpOk w w.heap.size p) :
    Calls Tryz.prog 47 #[v, .int .i64 p.n, .slice p.bA p.bn p.bc] V fun e V1 => ∃ v', e = .returned (.tuple #[v', .int .i64 (snapR r p.n p.b).2]) ∧ Below V.heap.size V V1 ∧ Hid (Mid w F P lb d S M (snapR r p.n p.b).1 v' B W V1) := by
  obtain ⟨hrow, hoff⟩ := h.1.row hp.rb
  refine (RSnap_is h.2.2.1 hro h.2.2.2.2.1 p.n hrow hp.byt).mono ?_
  rintro e V1 ⟨v', rfl, hb, hr1⟩
  exact ⟨v', rfl, hb, Lib.hid (h.ref hb hr1)⟩
theorem mid_lapp (h : Mid w F P lb d S M r v B W V) (hL : LI S M G st) (ht : Tab w) (hp : OpOk w w.heap.size p) (hm : M.last + 1 < 900000) (hu : usedN S + (p.b.length + 20) ≤ 1048576) (hk : p.kind = 0) :
    Calls Tryz.prog 24 #[.pointer (some ⟨lb, 0, none⟩), .slice p.bA p.bn p.bc] V fun e V1 => ∃ el, e = .returned (.int .i64 el) ∧ Chg F V V1 ∧ Hid (∃ S' M', logTo p S M S' M' el ∧ DoesAt w F P lb d 1048576 S' M' r v B W V1) := by
  obtain ⟨hrow1, hoff1⟩ := h.1.row hp.rb
  by_cases c : p.b.length ≤ 4096
  · refine (h.1.lk.append hL ht hrow1 hoff1 hp.byt hm ⟨c, by omega⟩).mono ?_
    rintro e W' ⟨rfl, h2, h3⟩
    obtain ⟨q1, q2⟩ := h.log h2 h3
    exact ⟨0, rfl, q2, Lib.hid ⟨_, _, .inl ⟨hk, .inl ⟨c, rfl, rfl, rfl⟩⟩, q1⟩⟩
  · refine (h.1.lk.append_no hL ht hrow1 hoff1 hp.byt hm fun hf => c hf.1).mono ?_
    rintro e W' ⟨rfl, h2, h3⟩
    obtain ⟨q1, q2⟩ := h.log h2 h3
    exact ⟨5, rfl, q2, Lib.hid ⟨_, _, .inl ⟨hk, .inr ⟨by omega, rfl, rfl, rfl⟩⟩, q1⟩⟩
theorem mid_lsync (h : Mid w F P lb d S M r v B W V) (hL : LI S M G st) (ht : Tab w) (hk : p.kind = 1) :
    Calls Tryz.prog 25 #[.pointer (some ⟨lb, 0, none⟩)] V fun e V1 => e = .returned (.int .i64 0) ∧ Chg F V V1 ∧ Hid (∃ S' M', logTo p S M S' M' 0 ∧ DoesAt w F P lb d 1048576 S' M' r v B W V1) := by
  refine (h.1.lk.sync hL ht).mono ?_
  rintro e W' ⟨rfl, h2, h3⟩
  obtain ⟨q1, q2⟩ := h.log h2 h3
  exact ⟨rfl, q2, Lib.hid ⟨_, _, .inr (.inl ⟨hk, rfl, rfl, rfl⟩), q1⟩⟩
theorem mid_lsnap (h : Mid w F P lb d S M r v B W V) (hL : LI S M G st) (ht : Tab w) (hp : OpOk w w.heap.size p) (hu : usedN S + (p.b.length + 20) ≤ 1048576) (hk : p.kind = 2) :
    Calls Tryz.prog 29 #[.pointer (some ⟨lb, 0, none⟩), .int .i64 p.n, .slice p.bA p.bn p.bc] V fun e V1 => ∃ el, e = .returned (.int .i64 el) ∧ Chg F V V1 ∧ Hid (∃ S' M', logTo p S M S' M' el ∧ DoesAt w F P lb d 1048576 S' M' r v B W V1) := by
  obtain ⟨hrow1, hoff1⟩ := h.1.row hp.rb
  have hsy := hL.sync
  have hma := hL.many
  by_cases c : p.n < M.base ∨ (M.synced : Int) < p.n
  · refine (h.1.lk.snap_bad p.n _ _ _ c).mono ?_
    rintro e W' ⟨rfl, h2, h3⟩
    obtain ⟨q1, q2⟩ := h.log h2 h3
    exact ⟨1, rfl, q2, Lib.hid ⟨_, _, .inr (.inr (.inl ⟨hk, .inl ⟨c, rfl, rfl, rfl⟩⟩)), q1⟩⟩
  · obtain ⟨k, hkk⟩ : ∃ k : Nat, p.n = k := ⟨p.n.toNat, by omega⟩
    rw [hkk]
    have hen := enc_len9 (n := k) (by omega)
    by_cases c2 : p.b.length ≤ 4000
    · refine (h.1.lk.snap hL ht hrow1 hoff1 hp.byt (k := k) (by omega) (by omega) ⟨c2, ?_⟩).mono ?_
      · rw [sealF_length, List.length_append]
        omega
      · rintro e W' ⟨rfl, h2, h3⟩
        obtain ⟨q1, q2⟩ := h.log h2 h3
        exact ⟨0, rfl, q2, Lib.hid ⟨_, _, .inr (.inr (.inl ⟨hk, .inr ⟨k, hkk, by omega, by omega, .inl ⟨c2, rfl, rfl, rfl⟩⟩⟩)), q1⟩⟩
    · refine (h.1.lk.snap_no hL hrow1 hp.byt (k := k) (by omega) (by omega) fun hf => c2 hf.1).mono ?_
      rintro e W' ⟨rfl, h2, h3⟩
      obtain ⟨q1, q2⟩ := h.log h2 h3
      exact ⟨5, rfl, q2, Lib.hid ⟨_, _, .inr (.inr (.inl ⟨hk, .inr ⟨k, hkk, by omega, by omega, .inr ⟨by omega, rfl, rfl, rfl⟩⟩⟩)), q1⟩⟩
theorem mid_lcut (h : Mid w F P lb d S M r v B W V) (hL : LI S M G st) (ht : Tab w) (hk0 : p.kind ≠ 0) (hk1 : p.kind ≠ 1) (hk2 : p.kind ≠ 2) :
    Calls Tryz.prog 30 #[.pointer (some ⟨lb, 0, none⟩), .int .i64 p.n] V fun e V1 => ∃ el S' M' G' st', e = .returned (.int .i64 el) ∧ Chg F V V1 ∧ Hid (logTo p S M S' M' el ∧ LI S' M' G' st' ∧ DoesAt w F P lb d 1048576 S' M' r v B W V1) := by
  by_cases c : p.n < M.base ∨ (M.last : Int) < p.n
  · refine (h.1.lk.cut_no hL.ok p.n c).mono ?_
    rintro e W1 ⟨rfl, h2, h3⟩
    obtain ⟨q1, q2⟩ := h.log h2 h3
    exact ⟨1, S, M, G, st, rfl, q2, Lib.hid ⟨.inr (.inr (.inr ⟨hk0, hk1, hk2, .inl ⟨c, rfl, rfl, rfl⟩⟩)), hL, q1⟩⟩
  · obtain ⟨k, hkk⟩ : ∃ k : Nat, p.n = k := ⟨p.n.toNat, by omega⟩
    have hk1' : M.base ≤ k := by omega
    have hk2' : k ≤ M.last := by omega
    have hcut := h.1.lk.cut hL ht hk1' hk2'
    rw [← hkk] at hcut
    refine hcut.mono ?_
    rintro e W1 ⟨rfl, h2, h3⟩
    obtain ⟨S', M', h4, h5⟩ := h2.out
    obtain ⟨G', hL', _⟩ := hL.cut hk1' hk2' h5
    obtain ⟨q1, q2⟩ := h.log h4 h3
    exact ⟨0, S', M', G', _, rfl, q2, Lib.hid ⟨.inr (.inr (.inr ⟨hk0, hk1, hk2, .inr ⟨k, hkk, hk1', hk2', h5, rfl⟩⟩)), hL', q1⟩⟩
theorem does_seg (h : DoesAt w F P lb d 1048576 S M r v B W V) (hL : LI S M G st) :
    Calls Tryz.prog 49 #[.pointer (some ⟨d, 0, none⟩)] V fun e V1 => e = .returned (.int .i64 (segLen S)) ∧ Below V.heap.size V V1 := by
  obtain ⟨F', ⟨⟨Vv, Φ, Λ, h1, h2, h3⟩, _⟩, _⟩ := h
  exact segment_any h2 hL.few hL.name_len (hL.small hL.own_left hL.rise)
theorem does_cut (h : DoesAt w F P lb d 1048576 S M r v B W V) (hro : RefOk r) (k : Int) (n : Nat) :
    Calls Tryz.prog 48 #[v, .int .i64 k, .int .i64 n] V fun e V1 => ∃ v', e = .returned (.tuple #[v', .int .i64 (cutR r k n).2]) ∧ Below V.heap.size V V1 ∧ Hid (DoesAt w F P lb d 1048576 S M (cutR r k n).1 v' B W V1) := by
  obtain ⟨F', h1, h2, h3, h4⟩ := h
  refine (RCut_is h4 hro k n).mono ?_
  rintro e V1 ⟨v', rfl, hb, hr⟩
  exact ⟨v', rfl, hb, Lib.hid ⟨F', h1.later hb, h2.trans (Chg.of_below (Φ := F) hb) fun _ _ hk => hk, h3, hr⟩⟩
/-- The three boxes with which 'does' begins. -/
def boxedD (W : World) (r : RefM) (vT vL : Value) (p : OpM) : World := ((W.alloc (.cells (bl r.base vT vL r.syn r.size r.bytes 0) 36)).alloc (.cells #[.int .i64 p.kind, .int .i64 p.n, .slice p.bA p.bn p.bc] 39)).alloc (.cells (bl 0 (.slice none 0 0) (.slice none 0 0) 0 0 0 0) 36)
theorem boxedD_facts (W : World) (r : RefM) (vT vL : Value) (p : OpM) : Below W.heap.size W (boxedD W r vT vL p) ∧ (boxedD W r vT vL p).heap[W.heap.size]? = some (.cells (bl r.base vT vL r.syn r.size r.bytes 0) 36 (0, 0)) ∧ (boxedD W r vT vL p).heap[W.heap.size + 1]? = some (.cells #[.int .i64 p.kind, .int .i64 p.n, .slice p.bA p.bn p.bc] 39 (0, 0)) ∧ (boxedD W r vT vL p).heap[W.heap.size + 2]? = some (.cells (bl 0 (.slice none 0 0) (.slice none 0 0) 0 0 0 0) 36 (0, 0)) ∧ (boxedD W r vT vL p).heap.size = W.heap.size + 3 := by
  unfold boxedD
  generalize hA : W.alloc (.cells (bl r.base vT vL r.syn r.size r.bytes 0) 36) = A
  have sA : A.heap.size = W.heap.size + 1 := by rw [← hA]; simp
  have a1 : A.heap[W.heap.size]? = some (.cells (bl r.base vT vL r.syn r.size r.bytes 0) 36 (0, 0)) := by rw [← hA]; exact heap_alloc_new _ _
  have bA : Below W.heap.size W A := by rw [← hA]; exact (Below.refl _ _).alloc (Nat.le_refl _) _
  clear hA
  generalize hC : A.alloc (.cells #[.int .i64 p.kind, .int .i64 p.n, .slice p.bA p.bn p.bc] 39) = C
  have sC : C.heap.size = W.heap.size + 2 := by rw [← hC]; simp [sA]
  have bC : Below A.heap.size A C := by rw [← hC]; exact (Below.refl _ _).alloc (Nat.le_refl _) _
  have c1 : C.heap[W.heap.size + 1]? = some (.cells #[.int .i64 p.kind, .int .i64 p.n, .slice p.bA p.bn p.bc] 39 (0, 0)) := by rw [← hC, ← sA]; exact heap_alloc_new _ _
  clear hC
  have bE : Below C.heap.size C (C.alloc (.cells (bl 0 (.slice none 0 0) (.slice none 0 0) 0 0 0 0) 36)) := (Below.refl _ _).alloc (Nat.le_refl _) _
  refine ⟨(bA.trans (bC.mono (by omega))).trans (bE.mono (by omega)), ?_, ?_, ?_, by simp [sC]⟩
  · rw [bE.block _ (by omega), bC.block _ (by omega)]
    exact a1
  · rw [bE.block _ (by omega)]
    exact c1
  · rw [← sC]
    exact heap_alloc_new _ _
end
end Go.Proofs.YtnomicnmpllajaaGreatDoor
end

section
namespace Go.Proofs.YtnomicnmpllajaaGreatDoor
open Go Go.RowKit
set_option linter.unusedVariables false

section
variable {w W : World} {F P : Nat → Prop} {lb d : Nat} {S : List RF} {M : LogM} {G : List SegR} {st : Nat} {r : RefM} {v : Value} {p : OpM}
/-- Where 'does' begins. -/
theorem mid_begin (h : LF w F lb d 1048576 S M W) (hr : RefIs W P r v) (hP : ∀ k, W.heap.size ≤ k → P k) (hPF : ∀ k, P k → ¬ F k) {W0 : World} (hb : Below W.heap.size W W0) (hs : W0.heap.size = W.heap.size + 3) :
    Mid w F (fun k => P k ∧ (k < W.heap.size ∨ W.heap.size + 3 ≤ k)) lb d S M r v (W.heap.size + 3) W W0 :=
  ⟨h.later hb, (Chg.of_below (Φ := F) hb), hr.keep hb.size fun k hk hp => ⟨hb.block k hk, hp, .inl hk⟩, fun k hk => hPF k hk.1, fun k hk => ⟨hP k (by omega), .inr (by omega)⟩, fun k hk => (h.2.2 k hk).2, h.below.size, by omega⟩

set_option maxHeartbeats 3200000 in
set_option maxRecDepth 100000 in
theorem does_0 (h : LF w F lb d 1048576 S M W) (hL : LI S M G st) (ht : Tab w) (hr : RefIs W P r v) (hro : RefOk r) (hP : ∀ k, W.heap.size ≤ k → P k) (hPF : ∀ k, P k → ¬ F k) (hp : OpOk w w.heap.size p) (hm : M.last + 1 < 900000) (hu : usedN S + (p.b.length + 20) ≤ 1048576) (hk : p.kind = 0) :
    Calls Tryz.prog 17 #[.pointer (some ⟨d, 0, none⟩), .pointer (some ⟨lb, 0, none⟩), v, .agg #[.int .i64 p.kind, .int .i64 p.n, .slice p.bA p.bn p.bc]] W fun e W' => ∃ v' el S' M', e = .returned (.tuple #[v', .bool ((appR r p.b).2 == el)]) ∧ Hid (logTo p S M S' M' el ∧ DoesAt w F (fun k => P k ∧ (k < W.heap.size ∨ W.heap.size + 3 ≤ k)) lb d 1048576 S' M' (appR r p.b).1 v' (W.heap.size + 3) W W') := by
  obtain ⟨tA, tc, rA, rc, l, rfl, hr1, hr2, hr3⟩ := id hr
  obtain ⟨hbW, hb1, hb2, hb3, hbs⟩ := boxedD_facts W r (.slice tA r.shot.length tc) (.slice rA r.recs.length rc) p
  obtain ⟨W0, hW0⟩ : ∃ W0, W0 = boxedD W r (.slice tA r.shot.length tc) (.slice rA r.recs.length rc) p := ⟨_, rfl⟩
  rw [← hW0] at hbW hb1 hb2 hb3 hbs
  have HMID := Lib.hid (mid_begin h hr hP hPF hbW hbs)
  have H0 := Lib.hid (mid_app HMID.out hro hp)
  have HB1 := Lib.hid hb1
  have HB2 := Lib.hid hb2
  have HB3 : Hid (W0.heap[W.heap.size + 1 + 1]? = some (.cells (bl 0 (.slice none 0 0) (.slice none 0 0) 0 0 0 0) 36 (0, 0))) := Lib.hid hb3
  have HBS := Lib.hid hbs
  unfold boxedD bl at hW0
  have HW0 := Lib.hid hW0
  have HLI := Lib.hid hL
  have HT := Lib.hid ht
  have HP := Lib.hid hp
  have HU := Lib.hid hu
  have HK := Lib.hid hk
  rw [hk] at HW0 HB2
  unfold rlv at H0 ⊢
  rw [hk]
  clear h hL hr hro hp hu hr1 hr2 hr3 hP hPF ht hW0 hbW hb1 hb2 hb3 hbs hk
  go_enter Tryz.func17, Tryz.ntmps17
  go_upto_region 1 with fail
  rw [← HW0.out]
  obtain ⟨c0, c1, c2, c3, c4, c5, c6, cf⟩ := bl_cells HB1.out
  obtain ⟨d0, d1, d2, _⟩ := three_cells HB2.out
  generalize HR : (appR r p.b) = ra at *
  generalize hN2 : W.heap.size + 1 + 1 = b2 at *
  generalize hN1 : W.heap.size + 1 = b1 at *
  go_upto_region 8 with (
      go_at_call 45
      refine H0.out.mono ?_
      rintro e V1 ⟨v', rfl, hb1, HM1⟩
      obtain ⟨tB, tD, rB, rD, l', hv', _⟩ := id HM1.out.2.2.1
      subst hv'
      have HBV := Lib.hid hb1
      clear c0 c1 c2 c3 c4 c5 c6 cf d0 d1 d2 H0 hb1
      unfold rlv
      obtain ⟨c0, c1, c2, c3, c4, c5, c6, cf⟩ := bl_cells ((Chg.of_below (Φ := fun _ => False) HBV.out).heap HB1.out id)
      obtain ⟨d0, d1, d2, _⟩ := three_cells ((Chg.of_below (Φ := fun _ => False) HBV.out).heap HB2.out id))
  obtain ⟨V2, hV2⟩ : ∃ V2, V2 = storedL V1 W.heap.size ra.1.base (.slice tB ra.1.shot.length tD) (.slice rB ra.1.recs.length rD) ra.1.syn ra.1.size ra.1.bytes 0 := ⟨_, rfl⟩
  have hc2 : Chg (fun k => k = W.heap.size) V1 V2 := by rw [hV2]; exact storedL_chg
  have hs2 : V2.heap.size = V1.heap.size := by rw [hV2]; exact storedL_size
  have HM2 := Lib.hid (HM1.out.box hc2 hs2 (Nat.le_refl _) (by rintro ⟨_, h | h⟩ <;> omega))
  have q1 : V2.heap[W.heap.size]? = some (.cells (bl ra.1.base (.slice tB ra.1.shot.length tD) (.slice rB ra.1.recs.length rD) ra.1.syn ra.1.size ra.1.bytes 0) 36 (0, 0)) := by rw [hV2]; exact storedL_is ((Chg.of_below (Φ := fun _ => False) HBV.out).heap HB1.out id)
  have q2 := hc2.heap ((Chg.of_below (Φ := fun _ => False) HBV.out).heap HB2.out id) (show ¬ b1 = W.heap.size by omega)
  have q3 := hc2.heap ((Chg.of_below (Φ := fun _ => False) HBV.out).heap HB3.out id) (show ¬ b2 = W.heap.size by omega)
  unfold storedL at hV2
  rw [← hV2]
  have HAP := Lib.hid (mid_lapp HM2.out HLI.out HT.out HP.out hm HU.out HK.out)
  have hF := HM2.out.2.2.2.2.2.1
  have nF : ∀ k, W.heap.size ≤ k → ¬ F k := fun k hk hf => by
    have := hF k hf
    omega
  have HNF := Lib.hid nF
  have HFF := Lib.hid hF
  have HWW := Lib.hid HM2.out.2.2.2.2.2.2.1
  have HQ1 := Lib.hid q1
  have HQ3 := Lib.hid q3
  clear c0 c1 c2 c3 c4 c5 c6 cf d0 d1 d2 hc2 hs2 hF nF HM1 HM2 HMID
  obtain ⟨d0, d1, d2, _⟩ := three_cells q2
  clear q1 q2 q3 hV2
  go_upto_region 15 with (
      go_at_call 24
      refine HAP.out.mono ?_
      rintro e V3 ⟨el, rfl, hc3, HD3⟩
      have HC3 := Lib.hid hc3
      clear HAP hc3 d0 d1 d2)
  have q1 := HC3.out.heap HQ1.out (HNF.out _ (Nat.le_refl _))
  have q3 := HC3.out.heap HQ3.out (HNF.out _ (by omega))
  have HEND : Hid (∀ Vf, Vf = storedL V3 b2 ra.1.base (.slice tB ra.1.shot.length tD) (.slice rB ra.1.recs.length rD) ra.1.syn ra.1.size ra.1.bytes 0 → (∃ S' M', logTo p S M S' M' el ∧ DoesAt w F (fun k => P k ∧ (k < W.heap.size ∨ W.heap.size + 3 ≤ k)) lb d 1048576 S' M' ra.1 (rlv ra.1.base (.slice tB ra.1.shot.length tD) (.slice rB ra.1.recs.length rD) ra.1.syn ra.1.size ra.1.bytes 0) (W.heap.size + 3) W Vf) ∧ Vf.heap[b2]? = some (.cells (bl ra.1.base (.slice tB ra.1.shot.length tD) (.slice rB ra.1.recs.length rD) ra.1.syn ra.1.size ra.1.bytes 0) 36 (0, 0))) := Lib.hid fun Vf hf => by
    obtain ⟨S', M', h1, h2⟩ := HD3.out
    subst hf
    exact ⟨⟨S', M', h1, h2.box HFF.out HWW.out storedL_chg storedL_size (by omega) (by omega) (by rintro ⟨_, h | h⟩ <;> omega)⟩, storedL_is q3⟩
  obtain ⟨c0, c1, c2, c3, c4, c5, c6, cf⟩ := bl_cells q1
  obtain ⟨d0, d1, d2, d3, d4, d5, d6, df⟩ := bl_cells q3
  unfold storedL at HEND
  clear q1 q3
  go_wp2_with fail
  obtain ⟨hD, q⟩ := HEND.out _ rfl
  obtain ⟨S', M', hl, hd⟩ := hD
  have HLL := Lib.hid hl
  have HDD := Lib.hid hd
  obtain ⟨e0, e1, e2, e3, e4, e5, e6, _⟩ := bl_cells q
  clear c0 c1 c2 c3 c4 c5 c6 cf d0 d1 d2 d3 d4 d5 d6 df HEND hl hd q
  generalize ((((((V3.setCell ⟨b2, 0, none⟩ (.int .i64 ra.1.base)).setCell ⟨b2, 1, none⟩ (.slice tB ra.1.shot.length tD)).setCell ⟨b2, 2, none⟩ (.slice rB ra.1.recs.length rD)).setCell ⟨b2, 3, none⟩ (.int .i64 ra.1.syn)).setCell ⟨b2, 4, none⟩ (.int .i64 ra.1.size)).setCell ⟨b2, 5, none⟩ (.int .i64 ra.1.bytes)).setCell ⟨b2, 6, none⟩ (.int .i64 0) = Wf at *
  subst HR
  exact bodyPost_ret (v := .tuple #[.agg #[.int .i64 (appR r p.b).1.base, .slice tB (appR r p.b).1.shot.length tD, .slice rB (appR r p.b).1.recs.length rD, .int .i64 (appR r p.b).1.syn, .int .i64 (appR r p.b).1.size, .int .i64 (appR r p.b).1.bytes, .int .i64 0], .bool ((appR r p.b).2 == el)]) (by simp [results, Tryz.results17, go_sem, e0, e1, e2, e3, e4, e5, e6]) rfl ⟨_, el, S', M', rfl, Lib.hid ⟨HLL.out, HDD.out⟩⟩
set_option maxHeartbeats 3200000 in
set_option maxRecDepth 100000 in
theorem does_1 (h : LF w F lb d 1048576 S M W) (hL : LI S M G st) (ht : Tab w) (hr : RefIs W P r v) (hro : RefOk r) (hP : ∀ k, W.heap.size ≤ k → P k) (hPF : ∀ k, P k → ¬ F k) (hp : OpOk w w.heap.size p) (hm : M.last + 1 < 900000) (hu : usedN S + (p.b.length + 20) ≤ 1048576) (hk : p.kind = 1) :
    Calls Tryz.prog 17 #[.pointer (some ⟨d, 0, none⟩), .pointer (some ⟨lb, 0, none⟩), v, .agg #[.int .i64 p.kind, .int .i64 p.n, .slice p.bA p.bn p.bc]] W fun e W' => ∃ v' el S' M', e = .returned (.tuple #[v', .bool true]) ∧ Hid (logTo p S M S' M' el ∧ DoesAt w F (fun k => P k ∧ (k < W.heap.size ∨ W.heap.size + 3 ≤ k)) lb d 1048576 S' M' (synR r) v' (W.heap.size + 3) W W') := by
  obtain ⟨tA, tc, rA, rc, l, rfl, hr1, hr2, hr3⟩ := id hr
  obtain ⟨hbW, hb1, hb2, hb3, hbs⟩ := boxedD_facts W r (.slice tA r.shot.length tc) (.slice rA r.recs.length rc) p
  obtain ⟨W0, hW0⟩ : ∃ W0, W0 = boxedD W r (.slice tA r.shot.length tc) (.slice rA r.recs.length rc) p := ⟨_, rfl⟩
  rw [← hW0] at hbW hb1 hb2 hb3 hbs
  have HMID := Lib.hid (mid_begin h hr hP hPF hbW hbs)
  have H0 := Lib.hid (mid_sync HMID.out hro)
  have HB1 := Lib.hid hb1
  have HB2 := Lib.hid hb2
  have HB3 : Hid (W0.heap[W.heap.size + 1 + 1]? = some (.cells (bl 0 (.slice none 0 0) (.slice none 0 0) 0 0 0 0) 36 (0, 0))) := Lib.hid hb3
  have HBS := Lib.hid hbs
  unfold boxedD bl at hW0
  have HW0 := Lib.hid hW0
  have HLI := Lib.hid hL
  have HT := Lib.hid ht
  have HP := Lib.hid hp
  have HU := Lib.hid hu
  have HK := Lib.hid hk
  rw [hk] at HW0 HB2
  unfold rlv at H0 ⊢
  rw [hk]
  clear h hL hr hro hp hu hr1 hr2 hr3 hP hPF ht hW0 hbW hb1 hb2 hb3 hbs hk
  go_enter Tryz.func17, Tryz.ntmps17
  go_upto_region 1 with fail
  rw [← HW0.out]
  obtain ⟨c0, c1, c2, c3, c4, c5, c6, cf⟩ := bl_cells HB1.out
  obtain ⟨d0, d1, d2, _⟩ := three_cells HB2.out
  generalize HR : (synR r) = ra at *
  generalize hN2 : W.heap.size + 1 + 1 = b2 at *
  generalize hN1 : W.heap.size + 1 = b1 at *
  go_upto_region 11 with (
      go_at_call 46
      refine H0.out.mono ?_
      rintro e V1 ⟨v', rfl, hb1, HM1⟩
      obtain ⟨tB, tD, rB, rD, l', hv', _⟩ := id HM1.out.2.2.1
      subst hv'
      have HBV := Lib.hid hb1
      clear c0 c1 c2 c3 c4 c5 c6 cf d0 d1 d2 H0 hb1
      unfold rlv
      obtain ⟨c0, c1, c2, c3, c4, c5, c6, cf⟩ := bl_cells ((Chg.of_below (Φ := fun _ => False) HBV.out).heap HB1.out id)
      obtain ⟨d0, d1, d2, _⟩ := three_cells ((Chg.of_below (Φ := fun _ => False) HBV.out).heap HB2.out id))
  obtain ⟨V2, hV2⟩ : ∃ V2, V2 = storedL V1 W.heap.size ra.base (.slice tB ra.shot.length tD) (.slice rB ra.recs.length rD) ra.syn ra.size ra.bytes 0 := ⟨_, rfl⟩
  have hc2 : Chg (fun k => k = W.heap.size) V1 V2 := by rw [hV2]; exact storedL_chg
  have hs2 : V2.heap.size = V1.heap.size := by rw [hV2]; exact storedL_size
  have HM2 := Lib.hid (HM1.out.box hc2 hs2 (Nat.le_refl _) (by rintro ⟨_, h | h⟩ <;> omega))
  have q1 : V2.heap[W.heap.size]? = some (.cells (bl ra.base (.slice tB ra.shot.length tD) (.slice rB ra.recs.length rD) ra.syn ra.size ra.bytes 0) 36 (0, 0)) := by rw [hV2]; exact storedL_is ((Chg.of_below (Φ := fun _ => False) HBV.out).heap HB1.out id)
  have q2 := hc2.heap ((Chg.of_below (Φ := fun _ => False) HBV.out).heap HB2.out id) (show ¬ b1 = W.heap.size by omega)
  have q3 := hc2.heap ((Chg.of_below (Φ := fun _ => False) HBV.out).heap HB3.out id) (show ¬ b2 = W.heap.size by omega)
  unfold storedL at hV2
  rw [← hV2]
  have HAP := Lib.hid (mid_lsync HM2.out HLI.out HT.out HK.out)
  have hF := HM2.out.2.2.2.2.2.1
  have nF : ∀ k, W.heap.size ≤ k → ¬ F k := fun k hk hf => by
    have := hF k hf
    omega
  have HNF := Lib.hid nF
  have HFF := Lib.hid hF
  have HWW := Lib.hid HM2.out.2.2.2.2.2.2.1
  have HQ1 := Lib.hid q1
  have HQ3 := Lib.hid q3
  clear c0 c1 c2 c3 c4 c5 c6 cf d0 d1 d2 hc2 hs2 hF nF HM1 HM2 HMID
  obtain ⟨d0, d1, d2, _⟩ := three_cells q2
  clear q1 q2 q3 hV2
  go_upto_region 15 with (
      go_at_call 25
      refine HAP.out.mono ?_
      rintro e V3 ⟨rfl, hc3, HD3⟩
      have HC3 := Lib.hid hc3
      clear HAP hc3 d0 d1 d2)
  have q1 := HC3.out.heap HQ1.out (HNF.out _ (Nat.le_refl _))
  have q3 := HC3.out.heap HQ3.out (HNF.out _ (by omega))
  have HEND : Hid (∀ Vf, Vf = storedL V3 b2 ra.base (.slice tB ra.shot.length tD) (.slice rB ra.recs.length rD) ra.syn ra.size ra.bytes 0 → (∃ S' M', logTo p S M S' M' 0 ∧ DoesAt w F (fun k => P k ∧ (k < W.heap.size ∨ W.heap.size + 3 ≤ k)) lb d 1048576 S' M' ra (rlv ra.base (.slice tB ra.shot.length tD) (.slice rB ra.recs.length rD) ra.syn ra.size ra.bytes 0) (W.heap.size + 3) W Vf) ∧ Vf.heap[b2]? = some (.cells (bl ra.base (.slice tB ra.shot.length tD) (.slice rB ra.recs.length rD) ra.syn ra.size ra.bytes 0) 36 (0, 0))) := Lib.hid fun Vf hf => by
    obtain ⟨S', M', h1, h2⟩ := HD3.out
    subst hf
    exact ⟨⟨S', M', h1, h2.box HFF.out HWW.out storedL_chg storedL_size (by omega) (by omega) (by rintro ⟨_, h | h⟩ <;> omega)⟩, storedL_is q3⟩
  obtain ⟨c0, c1, c2, c3, c4, c5, c6, cf⟩ := bl_cells q1
  obtain ⟨d0, d1, d2, d3, d4, d5, d6, df⟩ := bl_cells q3
  unfold storedL at HEND
  clear q1 q3
  go_wp2_with fail
  obtain ⟨hD, q⟩ := HEND.out _ rfl
  obtain ⟨S', M', hl, hd⟩ := hD
  have HLL := Lib.hid hl
  have HDD := Lib.hid hd
  obtain ⟨e0, e1, e2, e3, e4, e5, e6, _⟩ := bl_cells q
  clear c0 c1 c2 c3 c4 c5 c6 cf d0 d1 d2 d3 d4 d5 d6 df HEND hl hd q
  generalize ((((((V3.setCell ⟨b2, 0, none⟩ (.int .i64 ra.base)).setCell ⟨b2, 1, none⟩ (.slice tB ra.shot.length tD)).setCell ⟨b2, 2, none⟩ (.slice rB ra.recs.length rD)).setCell ⟨b2, 3, none⟩ (.int .i64 ra.syn)).setCell ⟨b2, 4, none⟩ (.int .i64 ra.size)).setCell ⟨b2, 5, none⟩ (.int .i64 ra.bytes)).setCell ⟨b2, 6, none⟩ (.int .i64 0) = Wf at *
  subst HR
  exact bodyPost_ret (v := .tuple #[.agg #[.int .i64 (synR r).base, .slice tB (synR r).shot.length tD, .slice rB (synR r).recs.length rD, .int .i64 (synR r).syn, .int .i64 (synR r).size, .int .i64 (synR r).bytes, .int .i64 0], .bool true]) (by simp [results, Tryz.results17, go_sem, e0, e1, e2, e3, e4, e5, e6]) rfl ⟨_, 0, S', M', rfl, Lib.hid ⟨HLL.out, HDD.out⟩⟩
set_option maxHeartbeats 3200000 in
set_option maxRecDepth 100000 in
theorem does_2 (h : LF w F lb d 1048576 S M W) (hL : LI S M G st) (ht : Tab w) (hr : RefIs W P r v) (hro : RefOk r) (hP : ∀ k, W.heap.size ≤ k → P k) (hPF : ∀ k, P k → ¬ F k) (hp : OpOk w w.heap.size p) (hm : M.last + 1 < 900000) (hu : usedN S + (p.b.length + 20) ≤ 1048576) (hk : p.kind = 2) :
    Calls Tryz.prog 17 #[.pointer (some ⟨d, 0, none⟩), .pointer (some ⟨lb, 0, none⟩), v, .agg #[.int .i64 p.kind, .int .i64 p.n, .slice p.bA p.bn p.bc]] W fun e W' => ∃ v' el S' M', e = .returned (.tuple #[v', .bool ((snapR r p.n p.b).2 == el)]) ∧ Hid (logTo p S M S' M' el ∧ DoesAt w F (fun k => P k ∧ (k < W.heap.size ∨ W.heap.size + 3 ≤ k)) lb d 1048576 S' M' (snapR r p.n p.b).1 v' (W.heap.size + 3) W W') := by
  obtain ⟨tA, tc, rA, rc, l, rfl, hr1, hr2, hr3⟩ := id hr
  obtain ⟨hbW, hb1, hb2, hb3, hbs⟩ := boxedD_facts W r (.slice tA r.shot.length tc) (.slice rA r.recs.length rc) p
  obtain ⟨W0, hW0⟩ : ∃ W0, W0 = boxedD W r (.slice tA r.shot.length tc) (.slice rA r.recs.length rc) p := ⟨_, rfl⟩
  rw [← hW0] at hbW hb1 hb2 hb3 hbs
  have HMID := Lib.hid (mid_begin h hr hP hPF hbW hbs)
  have H0 := Lib.hid (mid_snap HMID.out hro hp)
  have HB1 := Lib.hid hb1
  have HB2 := Lib.hid hb2
  have HB3 : Hid (W0.heap[W.heap.size + 1 + 1]? = some (.cells (bl 0 (.slice none 0 0) (.slice none 0 0) 0 0 0 0) 36 (0, 0))) := Lib.hid hb3
  have HBS := Lib.hid hbs
  unfold boxedD bl at hW0
  have HW0 := Lib.hid hW0
  have HLI := Lib.hid hL
  have HT := Lib.hid ht
  have HP := Lib.hid hp
  have HU := Lib.hid hu
  have HK := Lib.hid hk
  rw [hk] at HW0 HB2
  unfold rlv at H0 ⊢
  rw [hk]
  clear h hL hr hro hp hu hr1 hr2 hr3 hP hPF ht hW0 hbW hb1 hb2 hb3 hbs hk
  go_enter Tryz.func17, Tryz.ntmps17
  go_upto_region 1 with fail
  rw [← HW0.out]
  obtain ⟨c0, c1, c2, c3, c4, c5, c6, cf⟩ := bl_cells HB1.out
  obtain ⟨d0, d1, d2, _⟩ := three_cells HB2.out
  generalize HR : (snapR r p.n p.b) = ra at *
  generalize hN2 : W.heap.size + 1 + 1 = b2 at *
  generalize hN1 : W.heap.size + 1 = b1 at *
  go_upto_region 14 with (
      go_at_call 47
      refine H0.out.mono ?_
      rintro e V1 ⟨v', rfl, hb1, HM1⟩
      obtain ⟨tB, tD, rB, rD, l', hv', _⟩ := id HM1.out.2.2.1
      subst hv'
      have HBV := Lib.hid hb1
      clear c0 c1 c2 c3 c4 c5 c6 cf d0 d1 d2 H0 hb1
      unfold rlv
      obtain ⟨c0, c1, c2, c3, c4, c5, c6, cf⟩ := bl_cells ((Chg.of_below (Φ := fun _ => False) HBV.out).heap HB1.out id)
      obtain ⟨d0, d1, d2, _⟩ := three_cells ((Chg.of_below (Φ := fun _ => False) HBV.out).heap HB2.out id))
  obtain ⟨V2, hV2⟩ : ∃ V2, V2 = storedL V1 W.heap.size ra.1.base (.slice tB ra.1.shot.length tD) (.slice rB ra.1.recs.length rD) ra.1.syn ra.1.size ra.1.bytes 0 := ⟨_, rfl⟩
  have hc2 : Chg (fun k => k = W.heap.size) V1 V2 := by rw [hV2]; exact storedL_chg
  have hs2 : V2.heap.size = V1.heap.size := by rw [hV2]; exact storedL_size
  have HM2 := Lib.hid (HM1.out.box hc2 hs2 (Nat.le_refl _) (by rintro ⟨_, h | h⟩ <;> omega))
  have q1 : V2.heap[W.heap.size]? = some (.cells (bl ra.1.base (.slice tB ra.1.shot.length tD) (.slice rB ra.1.recs.length rD) ra.1.syn ra.1.size ra.1.bytes 0) 36 (0, 0)) := by rw [hV2]; exact storedL_is ((Chg.of_below (Φ := fun _ => False) HBV.out).heap HB1.out id)
  have q2 := hc2.heap ((Chg.of_below (Φ := fun _ => False) HBV.out).heap HB2.out id) (show ¬ b1 = W.heap.size by omega)
  have q3 := hc2.heap ((Chg.of_below (Φ := fun _ => False) HBV.out).heap HB3.out id) (show ¬ b2 = W.heap.size by omega)
  unfold storedL at hV2
  rw [← hV2]
  have HAP := Lib.hid (mid_lsnap HM2.out HLI.out HT.out HP.out HU.out HK.out)
  have hF := HM2.out.2.2.2.2.2.1
  have nF : ∀ k, W.heap.size ≤ k → ¬ F k := fun k hk hf => by
    have := hF k hf
    omega
  have HNF := Lib.hid nF
  have HFF := Lib.hid hF
  have HWW := Lib.hid HM2.out.2.2.2.2.2.2.1
  have HQ1 := Lib.hid q1
  have HQ3 := Lib.hid q3
  clear c0 c1 c2 c3 c4 c5 c6 cf d0 d1 d2 hc2 hs2 hF nF HM1 HM2 HMID
  obtain ⟨d0, d1, d2, _⟩ := three_cells q2
  clear q1 q2 q3 hV2
  go_upto_region 15 with (
      go_at_call 29
      refine HAP.out.mono ?_
      rintro e V3 ⟨el, rfl, hc3, HD3⟩
      have HC3 := Lib.hid hc3
      clear HAP hc3 d0 d1 d2)
  have q1 := HC3.out.heap HQ1.out (HNF.out _ (Nat.le_refl _))
  have q3 := HC3.out.heap HQ3.out (HNF.out _ (by omega))
  have HEND : Hid (∀ Vf, Vf = storedL V3 b2 ra.1.base (.slice tB ra.1.shot.length tD) (.slice rB ra.1.recs.length rD) ra.1.syn ra.1.size ra.1.bytes 0 → (∃ S' M', logTo p S M S' M' el ∧ DoesAt w F (fun k => P k ∧ (k < W.heap.size ∨ W.heap.size + 3 ≤ k)) lb d 1048576 S' M' ra.1 (rlv ra.1.base (.slice tB ra.1.shot.length tD) (.slice rB ra.1.recs.length rD) ra.1.syn ra.1.size ra.1.bytes 0) (W.heap.size + 3) W Vf) ∧ Vf.heap[b2]? = some (.cells (bl ra.1.base (.slice tB ra.1.shot.length tD) (.slice rB ra.1.recs.length rD) ra.1.syn ra.1.size ra.1.bytes 0) 36 (0, 0))) := Lib.hid fun Vf hf => by
    obtain ⟨S', M', h1, h2⟩ := HD3.out
    subst hf
    exact ⟨⟨S', M', h1, h2.box HFF.out HWW.out storedL_chg storedL_size (by omega) (by omega) (by rintro ⟨_, h | h⟩ <;> omega)⟩, storedL_is q3⟩
  obtain ⟨c0, c1, c2, c3, c4, c5, c6, cf⟩ := bl_cells q1
  obtain ⟨d0, d1, d2, d3, d4, d5, d6, df⟩ := bl_cells q3
  unfold storedL at HEND
  clear q1 q3
  go_wp2_with fail
  obtain ⟨hD, q⟩ := HEND.out _ rfl
  obtain ⟨S', M', hl, hd⟩ := hD
  have HLL := Lib.hid hl
  have HDD := Lib.hid hd
  obtain ⟨e0, e1, e2, e3, e4, e5, e6, _⟩ := bl_cells q
  clear c0 c1 c2 c3 c4 c5 c6 cf d0 d1 d2 d3 d4 d5 d6 df HEND hl hd q
  generalize ((((((V3.setCell ⟨b2, 0, none⟩ (.int .i64 ra.1.base)).setCell ⟨b2, 1, none⟩ (.slice tB ra.1.shot.length tD)).setCell ⟨b2, 2, none⟩ (.slice rB ra.1.recs.length rD)).setCell ⟨b2, 3, none⟩ (.int .i64 ra.1.syn)).setCell ⟨b2, 4, none⟩ (.int .i64 ra.1.size)).setCell ⟨b2, 5, none⟩ (.int .i64 ra.1.bytes)).setCell ⟨b2, 6, none⟩ (.int .i64 0) = Wf at *
  subst HR
  exact bodyPost_ret (v := .tuple #[.agg #[.int .i64 (snapR r p.n p.b).1.base, .slice tB (snapR r p.n p.b).1.shot.length tD, .slice rB (snapR r p.n p.b).1.recs.length rD, .int .i64 (snapR r p.n p.b).1.syn, .int .i64 (snapR r p.n p.b).1.size, .int .i64 (snapR r p.n p.b).1.bytes, .int .i64 0], .bool ((snapR r p.n p.b).2 == el)]) (by simp [results, Tryz.results17, go_sem, e0, e1, e2, e3, e4, e5, e6]) rfl ⟨_, el, S', M', rfl, Lib.hid ⟨HLL.out, HDD.out⟩⟩
end
end Go.Proofs.YtnomicnmpllajaaGreatDoor
end

section
namespace Go.Proofs.YtnomicnmpllajaaGreatDoor
open Go Go.RowKit Go.Maps
set_option linter.unusedVariables false

section
variable {P : Program} {ops : Array Oper} {Q : Exit → Act → World → Prop} {md : Region.Mode} {S : World → Prop} {n : Nat} {listed : Array Bool} {i j : Nat}
/-- Of all that are listed, what they wait for is listed. -/
def Down (md : Region.Mode) (ops : Array Oper) (listed : Array Bool) : Prop := ∀ j oj, ops[j]? = some oj → listed.getD j false = true → ∀ e ∈ oj.after, Region.binds md e = true → listed.getD e.on false = true
def downB (md : Region.Mode) (ops : Array Oper) (listed : Array Bool) : Bool := (List.range ops.size).all fun j => !(listed.getD j false) || ((ops[j]?).map (·.after.all fun e => !Region.binds md e || listed.getD e.on false)).getD true
theorem downB_spec (h : downB md ops listed = true) : Down md ops listed := fun j oj ho hj e he hb => by
  have hlt : j < ops.size := (Array.getElem?_eq_some_iff.1 ho).1
  have h1 := List.all_eq_true.1 h j (List.mem_range.2 hlt)
  rw [hj, ho] at h1
  simp only [Bool.not_true, Bool.false_or, Option.map_some, Option.getD_some] at h1
  have h2 := (Array.all_eq_true_iff_forall_mem.1 h1) e he
  rw [hb] at h2
  simpa using h2
theorem Down.step (h : Down md ops listed) (hj : j ∈ Region.ready md ops listed) : Down md ops (listed.setIfInBounds j true) := fun k ok hk hl e he hb => by
  obtain ⟨_, oj, hoj, hall⟩ := mem_ready.1 hj
  refine getD_set_true ?_
  by_cases c : j = k
  · subst c
    rw [hoj] at hk
    cases hk
    exact hall e he hb
  · rw [getD_set_ne false c] at hl
    exact h k ok hk hl e he hb
/-- Does one wait for another, at once or by way of others? -/
def waitT (md : Region.Mode) (ops : Array Oper) : Nat → Nat → Nat → Bool
  | 0, j, i => Region.waitsFor md ops j i
  | f + 1, j, i => Region.waitsFor md ops j i || (List.range ops.size).any fun m => Region.waitsFor md ops j m && waitT md ops f m i
theorem Down.wait (h : Down md ops listed) : ∀ (f j i : Nat), listed.getD j false = true → waitT md ops f j i = true → listed.getD i false = true
  | 0, j, i, hj, hw => by
    obtain ⟨oj, ho, e, he, hb, rfl⟩ := Region.waitsFor_spec hw
    exact h j oj ho hj e he hb
  | f + 1, j, i, hj, hw => by
    unfold waitT at hw
    rw [Bool.or_eq_true] at hw
    rcases hw with hw | hw
    · obtain ⟨oj, ho, e, he, hb, rfl⟩ := Region.waitsFor_spec hw
      exact h j oj ho hj e he hb
    · obtain ⟨m, _, hm⟩ := List.any_eq_true.1 hw
      rw [Bool.and_eq_true] at hm
      obtain ⟨oj, ho, e, he, hb, rfl⟩ := Region.waitsFor_spec hm.1
      exact h.wait f e.on i (h j oj ho hj e he hb) hm.2
theorem ready_wait (h : Down md ops listed) (hj : j ∈ Region.ready md ops listed) (f : Nat) (hw : waitT md ops f j i = true) : listed.getD i false = true := by
  obtain ⟨_, oj, hoj, hall⟩ := mem_ready.1 hj
  have direct : ∀ m, Region.waitsFor md ops j m = true → listed.getD m false = true := fun m hm => by
    obtain ⟨oj', ho, e, he, hb, rfl⟩ := Region.waitsFor_spec hm
    rw [hoj] at ho
    cases ho
    exact hall e he hb
  cases f with
  | zero => exact direct i hw
  | succ f =>
    unfold waitT at hw
    rw [Bool.or_eq_true] at hw
    rcases hw with hw | hw
    · exact direct i hw
    · obtain ⟨m, _, hm⟩ := List.any_eq_true.1 hw
      rw [Bool.and_eq_true] at hm
      exact h.wait f m i (direct m hm.1) hm.2
def waitTB (md : Region.Mode) (ops : Array Oper) (n i : Nat) : Bool := (List.range ops.size).all fun j => decide (j < n) || waitT md ops 8 j i
theorem waitTB_spec (h : waitTB md ops n i = true) (hd : Down md ops listed) (hr : i ∈ Region.ready md ops listed) (hj : j ∈ Region.ready md ops listed) : j < n := by
  obtain ⟨_, oj, hoj, _⟩ := mem_ready.1 hj
  have hlt : j < ops.size := (Array.getElem?_eq_some_iff.1 hoj).1
  have h1 := List.all_eq_true.1 h j (List.mem_range.2 hlt)
  simp only [Bool.or_eq_true, decide_eq_true_eq] at h1
  rcases h1 with h1 | h1
  · exact h1
  · have h2 := ready_wait hd hj 8 h1
    rw [getD_both (mem_ready.1 hr).1] at h2
    cases h2
theorem wpAnyG_firstT {i : Nat} {oi : Oper} {v : Value} (hi : ops[i]? = some oi) (hsel : ∀ (j : Nat) (o : Oper) cs b, ops[j]? = some o → o.op ≠ .select cs b)
    (hQ : ∀ c a w, Q (.panic c) (a.put oi.dst v) w → Q (.panic c) a w) (hwt : waitTB md ops n i = true) :
    ∀ (fuel : Nat) (listed : Array Bool) (a : Act) (w : World), Down md ops listed →
      (∀ j oj, ops[j]? = some oj → j ≠ i → listed.getD j true = false → (∀ e ∈ oj.after, Region.binds md e = true → e.on ≠ i) → oi.apart ops oj = true) →
      i ∈ Region.ready md ops listed → YieldsIf P ops S oi v a → S w →
      wpAnyG P md ops Q S n fuel (listed.setIfInBounds i true) (a.put oi.dst v) w → wpAnyG P md ops Q S n (fuel + 1) listed a w := by
  intro fuel
  induction fuel with
  | zero =>
    intro listed a w _ _ hr hy hS H
    refine ⟨fun h => (by rw [h] at hr; cases hr), fun j hj => ?_⟩
    by_cases hji : j = i
    · subst hji; exact hy.wpOp hi hS ⟨fun _ => hS, H⟩
    · have := ready_mono hj hji
      rw [H.1] at this
      cases this
  | succ fuel ih =>
    intro listed a w hd hfree hr hy hS H
    refine ⟨fun h => (by rw [h] at hr; cases hr), fun j hj => ?_⟩
    by_cases hji : j = i
    · subst hji; exact hy.wpOp hi hS ⟨fun _ => hS, H⟩
    · have hjn := waitTB_spec hwt hd hr hj
      have h1 := H.2 j (ready_mono hj hji)
      obtain ⟨hjun, oj, hoj, hall⟩ := mem_ready.1 hj
      have hnot : ∀ e ∈ oj.after, Region.binds md e = true → e.on ≠ i := fun e he hb heq => by
        have h1 := hall e he hb
        rw [heq, getD_both (mem_ready.1 hr).1] at h1
        cases h1
      have h2 := wpOp_putIf hoj (hfree j oj hoj hji hjun hnot) (fun cs b => hsel i oi cs b hi) (fun cs b => hsel j oj cs b hoj) hQ hy h1
      have hfree' : ∀ k ok, ops[k]? = some ok → k ≠ i → (listed.setIfInBounds j true).getD k true = false →
          (∀ e ∈ ok.after, Region.binds md e = true → e.on ≠ i) → oi.apart ops ok = true := fun k ok hk hki hun hno => by
        refine hfree k ok hk hki ?_ hno
        by_cases hjk : j = k
        · subst hjk; exact hjun
        · rw [getD_set_ne true hjk] at hun; exact hun
      refine wpOp_mono (fun a' w' h3 => ⟨h3.2.1, ih (listed.setIfInBounds j true) a' w' (hd.step hj) hfree' (ready_mono hr (Ne.symm hji)) h3.1 (h3.2.1 hjn) ?_⟩) h2
      rw [Array.setIfInBounds_comm _ _ hji]
      exact h3.2.2
theorem wpAnyG_takeT {i : Nat} {oi : Oper} {v : Value} {fuel : Nat} {listed : Array Bool} {a : Act} {w : World} (hi : ops[i]? = some oi)
    (hs : Region.noSelect ops = true) (hf : Region.free md ops listed i = true) (hr : (Region.ready md ops listed).contains i = true) (hwt : waitTB md ops n i = true) (hd : downB md ops listed = true)
    (hQ : ∀ c a w, Q (.panic c) (a.put oi.dst v) w → Q (.panic c) a w) (hy : YieldsIf P ops S oi v a) (hS : S w)
    (h : wpAnyG P md ops Q S n fuel (listed.setIfInBounds i true) (a.put oi.dst v) w) : wpAnyG P md ops Q S n (fuel + 1) listed a w :=
  wpAnyG_firstT hi (Region.noSelect_spec hs) hQ hwt fuel listed a w (downB_spec hd) (Region.free_spec hi hf) (by simpa using hr) hy hS h
/-- Two may come up. -/
theorem wpAnyG_two {oi oj : Oper} {fuel : Nat} {a : Act} {w : World} (hr : Region.ready md ops listed = [i, j]) (hi : ops[i]? = some oi) (hj : ops[j]? = some oj)
    (h1 : ∀ K' : Act → World → Prop, Shut (∀ a w, (i < n → S w) → wpAnyG P md ops Q S n fuel (listed.setIfInBounds i true) a w → K' a w) → if Region.wanted oi (yielded ops a.tmps) = true then Oper.wp P oi a w K' Q else K' (a.put oi.dst undef) w)
    (h2 : ∀ K' : Act → World → Prop, Shut (∀ a w, (j < n → S w) → wpAnyG P md ops Q S n fuel (listed.setIfInBounds j true) a w → K' a w) → if Region.wanted oj (yielded ops a.tmps) = true then Oper.wp P oj a w K' Q else K' (a.put oj.dst undef) w) :
    wpAnyG P md ops Q S n (fuel + 1) listed a w := by
  refine ⟨fun h0 => (by rw [hr] at h0; cases h0), fun k hk => ?_⟩
  rw [hr] at hk
  rcases List.mem_cons.1 hk with rfl | hk
  · exact wpOp_step hi (fun K' hK => h1 K' (fun a w hS hW => hK a w ⟨hS, hW⟩))
  · obtain rfl := List.mem_singleton.1 hk
    exact wpOp_step hj (fun K' hK => h2 K' (fun a w hS hW => hK a w ⟨hS, hW⟩))
end
end Go.Proofs.YtnomicnmpllajaaGreatDoor
end

section
namespace Go.Proofs.YtnomicnmpllajaaGreatDoor
open Go Go.RowKit
set_option linter.unusedVariables false

section
variable {w W V V1 : World} {F P : Nat → Prop} {lb d : Nat} {R : Int} {S : List RF} {M : LogM} {G : List SegR} {st B : Nat} {r : RefM} {v : Value} {p : OpM}
theorem DoesAt.later (h : DoesAt w F P lb d R S M r v B W V) (hb : Below V.heap.size V V1) : DoesAt w F P lb d R S M r v B W V1 := by
  obtain ⟨F', h1, h2, h3, h4⟩ := h
  exact ⟨F', h1.later hb, h2.trans (Chg.of_below (Φ := F) hb) fun _ _ hk => hk, h3, h4.below hb⟩
set_option maxHeartbeats 3200000 in
set_option maxRecDepth 100000 in
theorem does_3 (h : LF w F lb d 1048576 S M W) (hL : LI S M G st) (ht : Tab w) (hr : RefIs W P r v) (hro : RefOk r) (hP : ∀ k, W.heap.size ≤ k → P k) (hPF : ∀ k, P k → ¬ F k) (hp : OpOk w w.heap.size p) (k0 : p.kind ≠ 0) (k1 : p.kind ≠ 1) (k2 : p.kind ≠ 2) :
    Calls Tryz.prog 17 #[.pointer (some ⟨d, 0, none⟩), .pointer (some ⟨lb, 0, none⟩), v, .agg #[.int .i64 p.kind, .int .i64 p.n, .slice p.bA p.bn p.bc]] W fun e W' => ∃ v' el S' M', e = .returned (.tuple #[v', .bool ((cutR r p.n (segLen S')).2 == el)]) ∧ Hid (logTo p S M S' M' el ∧ DoesAt w F (fun k => P k ∧ (k < W.heap.size ∨ W.heap.size + 3 ≤ k)) lb d 1048576 S' M' (cutR r p.n (segLen S')).1 v' (W.heap.size + 3) W W') := by
  obtain ⟨tA, tc, rA, rc, l, rfl, hr1, hr2, hr3⟩ := id hr
  obtain ⟨hbW, hb1, hb2, hb3, hbs⟩ := boxedD_facts W r (.slice tA r.shot.length tc) (.slice rA r.recs.length rc) p
  obtain ⟨W0, hW0⟩ : ∃ W0, W0 = boxedD W r (.slice tA r.shot.length tc) (.slice rA r.recs.length rc) p := ⟨_, rfl⟩
  rw [← hW0] at hbW hb1 hb2 hb3 hbs
  have HMID := Lib.hid (mid_begin h hr hP hPF hbW hbs)
  have HCU := Lib.hid (mid_lcut HMID.out hL ht k0 k1 k2)
  have HB1 := Lib.hid hb1
  have HB2 := Lib.hid hb2
  have HB3 : Hid (W0.heap[W.heap.size + 1 + 1]? = some (.cells (bl 0 (.slice none 0 0) (.slice none 0 0) 0 0 0 0) 36 (0, 0))) := Lib.hid hb3
  have HRO := Lib.hid hro
  have hF := HMID.out.2.2.2.2.2.1
  have nF : ∀ k, W.heap.size ≤ k → ¬ F k := fun k hk hf => by
    have := hF k hf
    omega
  have HNF := Lib.hid nF
  have HFF := Lib.hid hF
  have HWW := Lib.hid HMID.out.2.2.2.2.2.2.1
  unfold boxedD bl at hW0
  have HW0 := Lib.hid hW0
  unfold rlv at HMID HCU ⊢
  clear h hL hr hro hp hr1 hr2 hr3 hP hPF ht hW0 hbW hb1 hb2 hb3 hF nF
  have HBS := Lib.hid hbs
  clear hbs
  go_enter Tryz.func17, Tryz.ntmps17
  go_upto_region 1 with fail
  rw [← HW0.out]
  generalize hN2 : W.heap.size + 1 + 1 = b2 at *
  generalize hN1 : W.heap.size + 1 = b1 at *
  obtain ⟨d0, d1, d2, _⟩ := three_cells HB2.out
  have k0' : decide (p.kind = 0) = false := decide_eq_false k0
  have k1' : decide (p.kind = 1) = false := decide_eq_false k1
  have k2' : decide (p.kind = 2) = false := decide_eq_false k2
  go_upto_region 5 with (
      go_at_call 30
      refine HCU.out.mono ?_
      rintro e V1 ⟨el, S', M', G', st', rfl, hc1, HD1⟩
      have HC1 := Lib.hid hc1
      clear HCU hc1 d0 d1 d2)
  have hr1 := HC1.out.heap HB1.out (HNF.out _ (Nat.le_refl _))
  have ho1 := HC1.out.heap HB2.out (HNF.out _ (by omega))
  have hs1 := HC1.out.heap HB3.out (HNF.out _ (by omega))
  have HR1 := Lib.hid hr1
  have HO1 := Lib.hid ho1
  have HS1 := Lib.hid hs1
  have HSG := Lib.hid (does_seg HD1.out.2.2 HD1.out.2.1)
  have HRC : Hid (∀ V2, Below V1.heap.size V1 V2 → _) := Lib.hid fun V2 hb => does_cut (HD1.out.2.2.later hb) HRO.out p.n (segLen S')
  obtain ⟨c0, c1, c2, c3, c4, c5, c6, cf⟩ := bl_cells hr1
  obtain ⟨d0, d1, d2, _⟩ := three_cells ho1
  clear hr1 ho1 hs1 HB1 HB2 HB3 HW0 HMID HC1
  refine wp_region_G (fun w' => w'.heap[W.heap.size]? = some (.cells (bl r.base (.slice tA r.shot.length tc) (.slice rA r.recs.length rc) r.syn r.size r.bytes 0) 36 (0, 0)) ∧ w'.heap[b1]? = some (.cells #[.int .i64 p.kind, .int .i64 p.n, .slice p.bA p.bn p.bc] 39 (0, 0))) 8 (by kernel_rfl) ?_
  have hS0 : V1.drew.heap[W.heap.size]? = some (.cells (bl r.base (.slice tA r.shot.length tc) (.slice rA r.recs.length rc) r.syn r.size r.bytes 0) 36 (0, 0)) ∧ V1.drew.heap[b1]? = some (.cells #[.int .i64 p.kind, .int .i64 p.n, .slice p.bA p.bn p.bc] 39 (0, 0)) := ⟨HR1.out, HO1.out⟩
  clear c0 c1 c2 c3 c4 c5 c6 cf d0 d1 d2
  refine wpAnyG_takeT (i := 0) (oi := _) (v := ?_) rfl (by kernel_rfl) (by kernel_rfl) (by kernel_rfl) (by kernel_rfl) (by kernel_rfl) (fun _ _ _ h => h) (Or.inl ⟨by rfl, ?_⟩) hS0 ?_
  rotate_left
  · (intro wS hSw; obtain ⟨c0, c1, c2, c3, c4, c5, c6, cf⟩ := bl_cells hSw.1; obtain ⟨d0, d1, d2, _⟩ := three_cells hSw.2; clear hSw; go_simp; try with_reducible rfl)
  try simp only [Act.put]
  refine wpAnyG_takeT (i := 1) (oi := _) (v := ?_) rfl (by kernel_rfl) (by kernel_rfl) (by kernel_rfl) (by kernel_rfl) (by kernel_rfl) (fun _ _ _ h => h) (Or.inl ⟨by rfl, ?_⟩) hS0 ?_
  rotate_left
  · (intro wS hSw; obtain ⟨c0, c1, c2, c3, c4, c5, c6, cf⟩ := bl_cells hSw.1; obtain ⟨d0, d1, d2, _⟩ := three_cells hSw.2; clear hSw; go_simp; try with_reducible rfl)
  try simp only [Act.put]
  refine wpAnyG_takeT (i := 2) (oi := _) (v := ?_) rfl (by kernel_rfl) (by kernel_rfl) (by kernel_rfl) (by kernel_rfl) (by kernel_rfl) (fun _ _ _ h => h) (Or.inl ⟨by rfl, ?_⟩) hS0 ?_
  rotate_left
  · (intro wS hSw; obtain ⟨c0, c1, c2, c3, c4, c5, c6, cf⟩ := bl_cells hSw.1; obtain ⟨d0, d1, d2, _⟩ := three_cells hSw.2; clear hSw; go_simp; try with_reducible rfl)
  try simp only [Act.put]
  refine wpAnyG_takeT (i := 3) (oi := _) (v := ?_) rfl (by kernel_rfl) (by kernel_rfl) (by kernel_rfl) (by kernel_rfl) (by kernel_rfl) (fun _ _ _ h => h) (Or.inl ⟨by rfl, ?_⟩) hS0 ?_
  rotate_left
  · (intro wS hSw; obtain ⟨c0, c1, c2, c3, c4, c5, c6, cf⟩ := bl_cells hSw.1; obtain ⟨d0, d1, d2, _⟩ := three_cells hSw.2; clear hSw; go_simp; try with_reducible rfl)
  try simp only [Act.put]
  have hbd : Below V1.heap.size V1 V1.drew := (Below.refl _ _).drew
  have HSGD := Lib.hid (does_seg (HD1.out.2.2.later hbd) HD1.out.2.1)
  refine wpAnyG_one (i := 4) (o := ⟨some 23, _, _, _, _, _⟩) (by kernel_rfl) rfl (fun K hK => ?_)
  go_simp
  refine HSGD.out.mono ?_
  rintro e V2 ⟨rfl, hb2⟩
  have HBV2 : Hid (Below V1.heap.size V1 V2) := Lib.hid (hbd.trans hb2)
  clear hb2 hbd HSGD hS0
  have hS2 : V2.heap[W.heap.size]? = some (.cells (bl r.base (.slice tA r.shot.length tc) (.slice rA r.recs.length rc) r.syn r.size r.bytes 0) 36 (0, 0)) ∧ V2.heap[b1]? = some (.cells #[.int .i64 p.kind, .int .i64 p.n, .slice p.bA p.bn p.bc] 39 (0, 0)) := ⟨(Chg.of_below (Φ := fun _ => False) HBV2.out).heap HR1.out id, (Chg.of_below (Φ := fun _ => False) HBV2.out).heap HO1.out id⟩
  refine hK.out _ _ (fun _ => hS2) ?_
  clear hK K
  try simp only [Act.put]
  refine wpAnyG_one (i := 5) (o := ⟨some 24, _, _, _, _, _⟩) (by kernel_rfl) rfl (fun K hK => ?_)
  go_simp
  refine (HRC.out V2 HBV2.out).mono ?_
  generalize HR : cutR r p.n (segLen S') = ra at *
  rintro e V3 ⟨v', rfl, hb3, HD3⟩
  obtain ⟨F3, _, _, _, tB, tD, rB, rD, l', hv', _⟩ := id HD3.out
  subst hv'
  have HBV3 := Lib.hid hb3
  have hS3 : V3.heap[W.heap.size]? = some (.cells (bl r.base (.slice tA r.shot.length tc) (.slice rA r.recs.length rc) r.syn r.size r.bytes 0) 36 (0, 0)) ∧ V3.heap[b1]? = some (.cells #[.int .i64 p.kind, .int .i64 p.n, .slice p.bA p.bn p.bc] 39 (0, 0)) := ⟨(Chg.of_below (Φ := fun _ => False) hb3).heap hS2.1 id, (Chg.of_below (Φ := fun _ => False) hb3).heap hS2.2 id⟩
  refine hK.out _ _ (fun _ => hS3) ?_
  clear hK K hS2 hb3
  unfold rlv
  try simp only [Act.put]
  refine wpAnyG_one (i := 6) (o := ⟨some 18, _, _, _, _, _⟩) (by kernel_rfl) rfl (fun K hK => ?_)
  go_simp
  refine hK.out _ _ (fun _ => hS3) ?_
  clear hK K
  try simp only [Act.put]
  refine wpAnyG_two (i := 7) (j := 8) (oi := ⟨some 25, _, _, _, _, _⟩) (oj := ⟨some 26, _, _, _, _, _⟩) (by kernel_rfl) rfl rfl (fun K hK => ?_) (fun K hK => ?_)
  · go_simp
    refine hK.out _ _ (fun _ => hS3) ?_
    clear hK K
    try simp only [Act.put]
    refine wpAnyG_two (i := 8) (j := 9) (oi := ⟨some 26, _, _, _, _, _⟩) (oj := ⟨none, _, _, _, _, _⟩) (by kernel_rfl) rfl rfl (fun K hK => ?_) (fun K hK => ?_)
    · go_simp
      refine hK.out _ _ (fun h => absurd h (by decide)) ?_
      clear hK K
      try simp only [Act.put]
      refine wpAnyG_one (i := 9) (o := ⟨none, _, _, _, _, _⟩) (by kernel_rfl) rfl (fun K hK => ?_)
      obtain ⟨c0, c1, c2, c3, c4, c5, c6, cf⟩ := bl_cells hS3.1
      go_simp
      refine hK.out _ _ (fun h => absurd h (by decide)) ?_
      clear hK K
      clear c0 c1 c2 c3 c4 c5 c6 cf
      try simp only [Act.put]
      refine wpAnyG_one (i := 10) (o := ⟨some 10, _, _, _, _, _⟩) (by kernel_rfl) rfl (fun K hK => ?_)
      go_simp
      refine hK.out _ _ (fun h => absurd h (by decide)) ?_
      clear hK K
      try simp only [Act.put]
      refine wpAnyG_done (by kernel_rfl) ?_ _
      obtain ⟨V4, hV4⟩ : ∃ V4, V4 = storedL V3 W.heap.size ra.1.base (.slice tB ra.1.shot.length tD) (.slice rB ra.1.recs.length rD) ra.1.syn ra.1.size ra.1.bytes 0 := ⟨_, rfl⟩
      have hc4 : Chg (fun k => k = W.heap.size) V3 V4 := by rw [hV4]; exact storedL_chg
      have hs4 : V4.heap.size = V3.heap.size := by rw [hV4]; exact storedL_size
      have HD4 := Lib.hid (HD3.out.box HFF.out HWW.out hc4 hs4 (Nat.le_refl _) (by omega) (by rintro ⟨_, h | h⟩ <;> omega))
      have q1 : V4.heap[W.heap.size]? = some (.cells (bl ra.1.base (.slice tB ra.1.shot.length tD) (.slice rB ra.1.recs.length rD) ra.1.syn ra.1.size ra.1.bytes 0) 36 (0, 0)) := by rw [hV4]; exact storedL_is hS3.1
      have q3 := hc4.heap ((Chg.of_below (Φ := fun _ => False) (HBV2.out.trans (HBV3.out.mono HBV2.out.size))).heap HS1.out id) (show ¬ b2 = W.heap.size by omega)
      unfold storedL at hV4
      rw [← hV4]
      clear hc4 hs4 hS3 hV4
      have HEND : Hid (∀ Vf, Vf = storedL V4 b2 ra.1.base (.slice tB ra.1.shot.length tD) (.slice rB ra.1.recs.length rD) ra.1.syn ra.1.size ra.1.bytes 0 → DoesAt w F (fun k => P k ∧ (k < W.heap.size ∨ W.heap.size + 3 ≤ k)) lb d 1048576 S' M' ra.1 (rlv ra.1.base (.slice tB ra.1.shot.length tD) (.slice rB ra.1.recs.length rD) ra.1.syn ra.1.size ra.1.bytes 0) (W.heap.size + 3) W Vf ∧ Vf.heap[b2]? = some (.cells (bl ra.1.base (.slice tB ra.1.shot.length tD) (.slice rB ra.1.recs.length rD) ra.1.syn ra.1.size ra.1.bytes 0) 36 (0, 0))) := Lib.hid fun Vf hf => by
        subst hf
        exact ⟨HD4.out.box HFF.out HWW.out storedL_chg storedL_size (by omega) (by omega) (by rintro ⟨_, h | h⟩ <;> omega), storedL_is q3⟩
      obtain ⟨c0, c1, c2, c3, c4, c5, c6, cf⟩ := bl_cells q1
      obtain ⟨d0, d1, d2, d3, d4, d5, d6, df⟩ := bl_cells q3
      unfold storedL at HEND
      clear q1 q3
      go_wp2_with fail
      obtain ⟨hD, q⟩ := HEND.out _ rfl
      have HDD := Lib.hid hD
      obtain ⟨e0, e1, e2, e3, e4, e5, e6, _⟩ := bl_cells q
      clear c0 c1 c2 c3 c4 c5 c6 cf d0 d1 d2 d3 d4 d5 d6 df HEND hD q
      generalize ((((((V4.setCell ⟨b2, 0, none⟩ (.int .i64 ra.1.base)).setCell ⟨b2, 1, none⟩ (.slice tB ra.1.shot.length tD)).setCell ⟨b2, 2, none⟩ (.slice rB ra.1.recs.length rD)).setCell ⟨b2, 3, none⟩ (.int .i64 ra.1.syn)).setCell ⟨b2, 4, none⟩ (.int .i64 ra.1.size)).setCell ⟨b2, 5, none⟩ (.int .i64 ra.1.bytes)).setCell ⟨b2, 6, none⟩ (.int .i64 0) = Wf at *
      subst HR
      exact bodyPost_ret (v := .tuple #[.agg #[.int .i64 (cutR r p.n (segLen S')).1.base, .slice tB (cutR r p.n (segLen S')).1.shot.length tD, .slice rB (cutR r p.n (segLen S')).1.recs.length rD, .int .i64 (cutR r p.n (segLen S')).1.syn, .int .i64 (cutR r p.n (segLen S')).1.size, .int .i64 (cutR r p.n (segLen S')).1.bytes, .int .i64 0], .bool ((cutR r p.n (segLen S')).2 == el)]) (by simp [results, Tryz.results17, go_sem, e0, e1, e2, e3, e4, e5, e6]) rfl ⟨_, el, S', rfl, M', Lib.hid ⟨HD1.out.1, HDD.out⟩⟩
    · obtain ⟨c0, c1, c2, c3, c4, c5, c6, cf⟩ := bl_cells hS3.1
      go_simp
      refine hK.out _ _ (fun h => absurd h (by decide)) ?_
      clear hK K
      clear c0 c1 c2 c3 c4 c5 c6 cf
      try simp only [Act.put]
      refine wpAnyG_one (i := 8) (o := ⟨some 26, _, _, _, _, _⟩) (by kernel_rfl) rfl (fun K hK => ?_)
      go_simp
      refine hK.out _ _ (fun h => absurd h (by decide)) ?_
      clear hK K
      try simp only [Act.put]
      refine wpAnyG_one (i := 10) (o := ⟨some 10, _, _, _, _, _⟩) (by kernel_rfl) rfl (fun K hK => ?_)
      go_simp
      refine hK.out _ _ (fun h => absurd h (by decide)) ?_
      clear hK K
      try simp only [Act.put]
      refine wpAnyG_done (by kernel_rfl) ?_ _
      obtain ⟨V4, hV4⟩ : ∃ V4, V4 = storedL V3 W.heap.size ra.1.base (.slice tB ra.1.shot.length tD) (.slice rB ra.1.recs.length rD) ra.1.syn ra.1.size ra.1.bytes 0 := ⟨_, rfl⟩
      have hc4 : Chg (fun k => k = W.heap.size) V3 V4 := by rw [hV4]; exact storedL_chg
      have hs4 : V4.heap.size = V3.heap.size := by rw [hV4]; exact storedL_size
      have HD4 := Lib.hid (HD3.out.box HFF.out HWW.out hc4 hs4 (Nat.le_refl _) (by omega) (by rintro ⟨_, h | h⟩ <;> omega))
      have q1 : V4.heap[W.heap.size]? = some (.cells (bl ra.1.base (.slice tB ra.1.shot.length tD) (.slice rB ra.1.recs.length rD) ra.1.syn ra.1.size ra.1.bytes 0) 36 (0, 0)) := by rw [hV4]; exact storedL_is hS3.1
      have q3 := hc4.heap ((Chg.of_below (Φ := fun _ => False) (HBV2.out.trans (HBV3.out.mono HBV2.out.size))).heap HS1.out id) (show ¬ b2 = W.heap.size by omega)
      unfold storedL at hV4
      rw [← hV4]
      clear hc4 hs4 hS3 hV4
      have HEND : Hid (∀ Vf, Vf = storedL V4 b2 ra.1.base (.slice tB ra.1.shot.length tD) (.slice rB ra.1.recs.length rD) ra.1.syn ra.1.size ra.1.bytes 0 → DoesAt w F (fun k => P k ∧ (k < W.heap.size ∨ W.heap.size + 3 ≤ k)) lb d 1048576 S' M' ra.1 (rlv ra.1.base (.slice tB ra.1.shot.length tD) (.slice rB ra.1.recs.length rD) ra.1.syn ra.1.size ra.1.bytes 0) (W.heap.size + 3) W Vf ∧ Vf.heap[b2]? = some (.cells (bl ra.1.base (.slice tB ra.1.shot.length tD) (.slice rB ra.1.recs.length rD) ra.1.syn ra.1.size ra.1.bytes 0) 36 (0, 0))) := Lib.hid fun Vf hf => by
        subst hf
        exact ⟨HD4.out.box HFF.out HWW.out storedL_chg storedL_size (by omega) (by omega) (by rintro ⟨_, h | h⟩ <;> omega), storedL_is q3⟩
      obtain ⟨c0, c1, c2, c3, c4, c5, c6, cf⟩ := bl_cells q1
      obtain ⟨d0, d1, d2, d3, d4, d5, d6, df⟩ := bl_cells q3
      unfold storedL at HEND
      clear q1 q3
      go_wp2_with fail
      obtain ⟨hD, q⟩ := HEND.out _ rfl
      have HDD := Lib.hid hD
      obtain ⟨e0, e1, e2, e3, e4, e5, e6, _⟩ := bl_cells q
      clear c0 c1 c2 c3 c4 c5 c6 cf d0 d1 d2 d3 d4 d5 d6 df HEND hD q
      generalize ((((((V4.setCell ⟨b2, 0, none⟩ (.int .i64 ra.1.base)).setCell ⟨b2, 1, none⟩ (.slice tB ra.1.shot.length tD)).setCell ⟨b2, 2, none⟩ (.slice rB ra.1.recs.length rD)).setCell ⟨b2, 3, none⟩ (.int .i64 ra.1.syn)).setCell ⟨b2, 4, none⟩ (.int .i64 ra.1.size)).setCell ⟨b2, 5, none⟩ (.int .i64 ra.1.bytes)).setCell ⟨b2, 6, none⟩ (.int .i64 0) = Wf at *
      subst HR
      exact bodyPost_ret (v := .tuple #[.agg #[.int .i64 (cutR r p.n (segLen S')).1.base, .slice tB (cutR r p.n (segLen S')).1.shot.length tD, .slice rB (cutR r p.n (segLen S')).1.recs.length rD, .int .i64 (cutR r p.n (segLen S')).1.syn, .int .i64 (cutR r p.n (segLen S')).1.size, .int .i64 (cutR r p.n (segLen S')).1.bytes, .int .i64 0], .bool ((cutR r p.n (segLen S')).2 == el)]) (by simp [results, Tryz.results17, go_sem, e0, e1, e2, e3, e4, e5, e6]) rfl ⟨_, el, S', rfl, M', Lib.hid ⟨HD1.out.1, HDD.out⟩⟩
  · go_simp
    refine hK.out _ _ (fun h => absurd h (by decide)) ?_
    clear hK K
    try simp only [Act.put]
    refine wpAnyG_one (i := 7) (o := ⟨some 25, _, _, _, _, _⟩) (by kernel_rfl) rfl (fun K hK => ?_)
    go_simp
    refine hK.out _ _ (fun _ => hS3) ?_
    clear hK K
    try simp only [Act.put]
    refine wpAnyG_one (i := 9) (o := ⟨none, _, _, _, _, _⟩) (by kernel_rfl) rfl (fun K hK => ?_)
    obtain ⟨c0, c1, c2, c3, c4, c5, c6, cf⟩ := bl_cells hS3.1
    go_simp
    refine hK.out _ _ (fun h => absurd h (by decide)) ?_
    clear hK K
    clear c0 c1 c2 c3 c4 c5 c6 cf
    try simp only [Act.put]
    refine wpAnyG_one (i := 10) (o := ⟨some 10, _, _, _, _, _⟩) (by kernel_rfl) rfl (fun K hK => ?_)
    go_simp
    refine hK.out _ _ (fun h => absurd h (by decide)) ?_
    clear hK K
    try simp only [Act.put]
    refine wpAnyG_done (by kernel_rfl) ?_ _
    obtain ⟨V4, hV4⟩ : ∃ V4, V4 = storedL V3 W.heap.size ra.1.base (.slice tB ra.1.shot.length tD) (.slice rB ra.1.recs.length rD) ra.1.syn ra.1.size ra.1.bytes 0 := ⟨_, rfl⟩
    have hc4 : Chg (fun k => k = W.heap.size) V3 V4 := by rw [hV4]; exact storedL_chg
    have hs4 : V4.heap.size = V3.heap.size := by rw [hV4]; exact storedL_size
    have HD4 := Lib.hid (HD3.out.box HFF.out HWW.out hc4 hs4 (Nat.le_refl _) (by omega) (by rintro ⟨_, h | h⟩ <;> omega))
    have q1 : V4.heap[W.heap.size]? = some (.cells (bl ra.1.base (.slice tB ra.1.shot.length tD) (.slice rB ra.1.recs.length rD) ra.1.syn ra.1.size ra.1.bytes 0) 36 (0, 0)) := by rw [hV4]; exact storedL_is hS3.1
    have q3 := hc4.heap ((Chg.of_below (Φ := fun _ => False) (HBV2.out.trans (HBV3.out.mono HBV2.out.size))).heap HS1.out id) (show ¬ b2 = W.heap.size by omega)
    unfold storedL at hV4
    rw [← hV4]
    clear hc4 hs4 hS3 hV4
    have HEND : Hid (∀ Vf, Vf = storedL V4 b2 ra.1.base (.slice tB ra.1.shot.length tD) (.slice rB ra.1.recs.length rD) ra.1.syn ra.1.size ra.1.bytes 0 → DoesAt w F (fun k => P k ∧ (k < W.heap.size ∨ W.heap.size + 3 ≤ k)) lb d 1048576 S' M' ra.1 (rlv ra.1.base (.slice tB ra.1.shot.length tD) (.slice rB ra.1.recs.length rD) ra.1.syn ra.1.size ra.1.bytes 0) (W.heap.size + 3) W Vf ∧ Vf.heap[b2]? = some (.cells (bl ra.1.base (.slice tB ra.1.shot.length tD) (.slice rB ra.1.recs.length rD) ra.1.syn ra.1.size ra.1.bytes 0) 36 (0, 0))) := Lib.hid fun Vf hf => by
      subst hf
      exact ⟨HD4.out.box HFF.out HWW.out storedL_chg storedL_size (by omega) (by omega) (by rintro ⟨_, h | h⟩ <;> omega), storedL_is q3⟩
    obtain ⟨c0, c1, c2, c3, c4, c5, c6, cf⟩ := bl_cells q1
    obtain ⟨d0, d1, d2, d3, d4, d5, d6, df⟩ := bl_cells q3
    unfold storedL at HEND
    clear q1 q3
    go_wp2_with fail
    obtain ⟨hD, q⟩ := HEND.out _ rfl
    have HDD := Lib.hid hD
    obtain ⟨e0, e1, e2, e3, e4, e5, e6, _⟩ := bl_cells q
    clear c0 c1 c2 c3 c4 c5 c6 cf d0 d1 d2 d3 d4 d5 d6 df HEND hD q
    generalize ((((((V4.setCell ⟨b2, 0, none⟩ (.int .i64 ra.1.base)).setCell ⟨b2, 1, none⟩ (.slice tB ra.1.shot.length tD)).setCell ⟨b2, 2, none⟩ (.slice rB ra.1.recs.length rD)).setCell ⟨b2, 3, none⟩ (.int .i64 ra.1.syn)).setCell ⟨b2, 4, none⟩ (.int .i64 ra.1.size)).setCell ⟨b2, 5, none⟩ (.int .i64 ra.1.bytes)).setCell ⟨b2, 6, none⟩ (.int .i64 0) = Wf at *
    subst HR
    exact bodyPost_ret (v := .tuple #[.agg #[.int .i64 (cutR r p.n (segLen S')).1.base, .slice tB (cutR r p.n (segLen S')).1.shot.length tD, .slice rB (cutR r p.n (segLen S')).1.recs.length rD, .int .i64 (cutR r p.n (segLen S')).1.syn, .int .i64 (cutR r p.n (segLen S')).1.size, .int .i64 (cutR r p.n (segLen S')).1.bytes, .int .i64 0], .bool ((cutR r p.n (segLen S')).2 == el)]) (by simp [results, Tryz.results17, go_sem, e0, e1, e2, e3, e4, e5, e6]) rfl ⟨_, el, S', rfl, M', Lib.hid ⟨HD1.out.1, HDD.out⟩⟩
/-- Where a call of 'does' ends. -/
def DoesFin (w : World) (F P : Nat → Prop) (lb d : Nat) (S : List RF) (M : LogM) (r : RefM) (v : Value) (W W' : World) : Prop :=
  ∃ F', LF w F' lb d 1048576 S M W' ∧ Chg F W W' ∧ (∀ k, F' k → F k ∨ W.heap.size ≤ k) ∧ RefIs W' (fun k => P k ∧ ¬ F' k) r v
theorem DoesAt.fin {Q : Nat → Prop} (h : DoesAt w F (fun k => P k ∧ Q k) lb d 1048576 S M r v B W V) (hB : W.heap.size ≤ B) : DoesFin w F P lb d S M r v W V := by
  obtain ⟨F', h1, h2, h3, h4⟩ := h
  exact ⟨F', h1, h2, fun k hk => (h3 k hk).imp id fun h5 => Nat.le_trans hB h5, h4.keep (Nat.le_refl _) fun k _ hp => ⟨rfl, hp.1.1, hp.2⟩⟩
/-- 'does'. -/
theorem does_any (h : LF w F lb d 1048576 S M W) (hL : LI S M G st) (ht : Tab w) (hr : RefIs W P r v) (hro : RefOk r) (hP : ∀ k, W.heap.size ≤ k → P k) (hPF : ∀ k, P k → ¬ F k) (hp : OpOk w w.heap.size p) (hm : M.last + 1 < 900000) (hu : usedN S + (p.b.length + 20) ≤ 1048576) :
    Calls Tryz.prog 17 #[.pointer (some ⟨d, 0, none⟩), .pointer (some ⟨lb, 0, none⟩), v, .agg #[.int .i64 p.kind, .int .i64 p.n, .slice p.bA p.bn p.bc]] W fun e W' => ∃ v' el S' M', e = .returned (.tuple #[v', .bool ((refTo r p (segLen S')).2 == el)]) ∧ Hid (logTo p S M S' M' el ∧ DoesFin w F P lb d S' M' (refTo r p (segLen S')).1 v' W W') := by
  by_cases k0 : p.kind = 0
  · have e0 : ∀ n, refTo r p n = appR r p.b := fun n => by unfold refTo; rw [if_pos k0]
    refine (does_0 h hL ht hr hro hP hPF hp hm hu k0).mono ?_
    rintro e W' ⟨v', el, S', M', rfl, h1⟩
    refine ⟨v', el, S', M', by rw [e0], Lib.hid ⟨h1.out.1, ?_⟩⟩
    rw [e0]
    exact h1.out.2.fin (Nat.le_add_right _ _)
  · by_cases k1 : p.kind = 1
    · have e0 : ∀ n, refTo r p n = (synR r, 0) := fun n => by unfold refTo; rw [if_neg k0, if_pos k1]
      refine (does_1 h hL ht hr hro hP hPF hp hm hu k1).mono ?_
      rintro e W' ⟨v', el, S', M', rfl, h1⟩
      have hel : el = 0 := by rcases h1.out.1 with ⟨h, _⟩ | ⟨_, _, _, h⟩ | ⟨h, _⟩ | ⟨_, h, _⟩ <;> first | exact h | (exfalso; omega)
      subst hel
      refine ⟨v', 0, S', M', by rw [e0]; rfl, Lib.hid ⟨h1.out.1, ?_⟩⟩
      rw [e0]
      exact h1.out.2.fin (Nat.le_add_right _ _)
    · by_cases k2 : p.kind = 2
      · have e0 : ∀ n, refTo r p n = snapR r p.n p.b := fun n => by unfold refTo; rw [if_neg k0, if_neg k1, if_pos k2]
        refine (does_2 h hL ht hr hro hP hPF hp hm hu k2).mono ?_
        rintro e W' ⟨v', el, S', M', rfl, h1⟩
        refine ⟨v', el, S', M', by rw [e0], Lib.hid ⟨h1.out.1, ?_⟩⟩
        rw [e0]
        exact h1.out.2.fin (Nat.le_add_right _ _)
      · have e0 : ∀ n, refTo r p n = cutR r p.n n := fun n => by unfold refTo; rw [if_neg k0, if_neg k1, if_neg k2]
        refine (does_3 h hL ht hr hro hP hPF hp k0 k1 k2).mono ?_
        rintro e W' ⟨v', el, S', M', rfl, h1⟩
        refine ⟨v', el, S', M', by rw [e0], Lib.hid ⟨h1.out.1, ?_⟩⟩
        rw [e0]
        exact h1.out.2.fin (Nat.le_add_right _ _)
end
end Go.Proofs.YtnomicnmpllajaaGreatDoor
end

section
namespace Go.Proofs.YtnomicnmpllajaaGreatDoor
open Go Go.RowKit
set_option linter.unusedVariables false

/-- The document's log says what the log does. -/
structure Beside (r : RefM) (M : LogM) : Prop where
  base : r.base = M.base
  shot : r.shot = M.shot
  recs : r.recs = M.recs
  syn : r.syn = M.synced
  size : r.size = M.size
  bytes : r.bytes = seg0 M
section
variable {S S' : List RF} {M M' : LogM} {G G' : List SegR} {st st' : Nat} {r : RefM} {p : OpM} {el : Int}
theorem Beside.last (h : Beside r M) : r.last = M.last := by
  unfold RefM.last LogM.last
  rw [h.base, h.recs]
theorem LI.seg0_le (h : LI S M G st) : seg0 M ≤ 65536 := by
  unfold seg0
  rcases List.eq_nil_or_concat G with rfl | ⟨G0, g, rfl⟩
  · have e : M.segs.getLast? = none := by rw [h.segs]; rfl
    rw [e]
    exact Nat.zero_le _
  · rw [List.concat_eq_append] at h
    have e : M.segs.getLast? = some (g.k, (bytesR g.rs).length) := by rw [h.segs, segsR_last]
    rw [e]
    exact h.bytes g (List.mem_append.2 (.inr (List.mem_singleton.2 rfl)))
theorem Beside.ok (h : Beside r M) (hL : LI S M G st) : RefOk r := by
  have h1 := hL.sync
  have h2 := hL.many
  have h3 := hL.seg0_le
  have h4 : M.last = M.base + M.recs.length := rfl
  exact ⟨by rw [h.base]; omega, by rw [h.recs]; omega, by rw [h.bytes]; omega, by rw [h.syn, h.last]; exact h1.2.1⟩
theorem newM_beside (n : Nat) : Beside ⟨0, [], [], 0, n, 0⟩ (newM n) := ⟨rfl, rfl, rfl, rfl, rfl, rfl⟩
theorem LI.none_synced (h : LI S M G st) (hn : M.segs = []) : M.synced = M.last := by
  have hG : G = [] := by
    cases G with
    | nil => rfl
    | cons g G =>
      have := h.segs
      rw [hn] at this
      simp [segsR] at this
  subst hG
  have h1 : st = M.last + 1 := h.runs
  have h2 := h.start
  have h3 := h.sync
  omega
theorem stepA_beside (hL : LI S M G st) (h : Beside r M) (xs : List Int) (hx : xs.length ≤ 4096) : (appR r xs).2 = 0 ∧ Beside (appR r xs).1 (stepA S M xs).2 := by
  have hl := h.last
  unfold appR stepA
  rw [if_neg (by omega)]
  cases e : M.segs.getLast? with
  | none =>
    have hn : M.segs = [] := List.getLast?_eq_none_iff.1 e
    have h0 : seg0 M = 0 := by unfold seg0; rw [e]
    rw [if_neg (by rw [h.bytes]; omega)]
    refine ⟨rfl, h.base, h.shot, by show r.recs ++ [xs] = M.recs ++ [xs]; rw [h.recs], ?_, h.size, ?_⟩
    · show r.syn = M.last
      rw [h.syn]
      exact hL.none_synced hn
    · show r.bytes + 6 + xs.length = seg0 _
      rw [h.bytes, h0]
      unfold seg0
      simp
      omega
  | some s =>
    have h0 : seg0 M = s.2 := by unfold seg0; rw [e]
    simp only
    by_cases c : s.2 = 0 ∨ s.2 + (xs.length + 6) ≤ M.size
    · rw [if_pos c, if_neg (by rw [h.bytes, h.size]; omega)]
      refine ⟨rfl, h.base, h.shot, by show r.recs ++ [xs] = M.recs ++ [xs]; rw [h.recs], h.syn, h.size, ?_⟩
      show r.bytes + 6 + xs.length = seg0 _
      rw [h.bytes, h0]
      unfold seg0
      have hne : M.segs ≠ [] := fun e2 => by rw [e2] at e; cases e
      have hpos := List.length_pos_iff.2 hne
      rw [List.getLast?_eq_getElem?, List.length_set, List.getElem?_set_self (by omega)]
      simp only
      omega
    · rw [if_neg c, if_pos (by rw [h.bytes, h.size]; omega)]
      refine ⟨rfl, h.base, h.shot, by show r.recs ++ [xs] = M.recs ++ [xs]; rw [h.recs], ?_, h.size, ?_⟩
      · show r.last = M.last
        exact hl
      · show 6 + xs.length = seg0 _
        unfold seg0
        simp
        omega
theorem stepS_beside (h : Beside r M) : Beside (synR r) (stepS S M).2 := by
  have e0 : (stepS S M).2 = { M with synced := M.last } := by unfold stepS; split <;> rfl
  rw [e0]
  exact ⟨h.base, h.shot, h.recs, h.last, h.size, h.bytes⟩
theorem gone_last : ∀ (l : List (Nat × Nat)) (a : Nat), (l.drop (goneN l a)).getLast? = l.getLast?
  | [], _ => rfl
  | [x], a => by simp [goneN]
  | x :: y :: r, a => by
    unfold goneN
    split
    · rw [List.drop_succ_cons, gone_last (y :: r) a, List.getLast?_cons_cons]
    · rfl
theorem stepP_beside (hL : LI S M G st) (h : Beside r M) {k : Nat} (hk1 : M.base ≤ k) (hk2 : k ≤ M.synced) (xs : List Int) (hx : xs.length ≤ 4000) : (snapR r k xs).2 = 0 ∧ Beside (snapR r k xs).1 (stepP S M k xs).2 := by
  unfold snapR stepP
  rw [if_neg (by rw [h.base, h.syn]; omega), if_neg (by omega)]
  refine ⟨rfl, Int.toNat_natCast k, rfl, ?_, h.syn, h.size, ?_⟩
  · show r.recs.drop ((k : Int).toNat - r.base) = M.recs.drop (k - M.base)
    rw [h.recs, h.base, Int.toNat_natCast]
  · show r.bytes = seg0 _
    rw [h.bytes]
    unfold seg0
    simp only
    rw [gone_last]
/-- What a call leaves of a log keeps the invariant, and what it adds. -/
theorem log_step (hL : LI S M G st) (hl : logTo p S M S' M' el) (hx : ∀ x ∈ p.b, 0 ≤ x ∧ x < 256) (hm : M.last + 1 < 900000) : ∃ G' st', LI S' M' G' st' ∧ M'.last ≤ M.last + 1 ∧ usedN S' ≤ usedN S + (p.b.length + 20) ∧ M'.size = M.size := by
  have hsy := hL.sync
  have same : S' = S → M' = M → ∃ G' st', LI S' M' G' st' ∧ M'.last ≤ M.last + 1 ∧ usedN S' ≤ usedN S + (p.b.length + 20) ∧ M'.size = M.size := fun h1 h2 => by
    subst h1 h2
    exact ⟨G, st, hL, by omega, by omega, rfl⟩
  rcases hl with ⟨_, ⟨h1, h2, h3, _⟩ | ⟨_, h2, h3, _⟩⟩ | ⟨_, h2, h3, _⟩ | ⟨_, ⟨_, h2, h3, _⟩ | ⟨k, _, h4, h5, ⟨h1, h2, h3, _⟩ | ⟨_, h2, h3, _⟩⟩⟩ | ⟨_, _, _, ⟨_, h2, h3, _⟩ | ⟨k, _, h4, h5, h1, _⟩⟩
  · subst h2 h3
    obtain ⟨G', st', h4⟩ := hL.stepA hx h1 hm
    have h5 := hL.used_stepA p.b
    exact ⟨G', st', h4, by rw [stepA_last]; exact Nat.le_refl _, by omega, (stepA_recs S M p.b).2.2.2⟩
  · exact same h2 h3
  · subst h2 h3
    have h5 := hL.used_stepS
    have e0 : (stepS S M).2 = { M with synced := M.last } := by unfold stepS; split <;> rfl
    exact ⟨G, st, hL.stepS, by rw [stepS_last]; omega, by omega, by rw [e0]⟩
  · exact same h2 h3
  · subst h2 h3
    obtain ⟨G', st', h6⟩ := hL.stepP h4 h5 hx h1
    have h7 := hL.used_stepP k p.b
    have h8 := enc_len9 (n := k) (by have := hL.many; omega)
    rw [sealF_length, List.length_append] at h7
    exact ⟨G', st', h6, by rw [stepP_last _ _ _ h4 (by omega)]; omega, by omega, rfl⟩
  · exact same h2 h3
  · exact same h2 h3
  · obtain ⟨G', h6, r1, r2, r3, r4, r5⟩ := hL.cut h4 h5 h1
    have h7 := hL.used_cut h1
    refine ⟨G', _, h6, ?_, by omega, r4⟩
    unfold LogM.last at *
    rw [r1, r2, List.length_take]
    omega
/-- Both tell the same, and go on side by side. -/
theorem beside_step (hL : LI S M G st) (h : Beside r M) (hl : logTo p S M S' M' el) (hL' : LI S' M' G' st') : (refTo r p (segLen S')).2 = el ∧ Beside (refTo r p (segLen S')).1 M' := by
  have hla := h.last
  rcases hl with ⟨hk, hl⟩ | ⟨hk, h2, h3, h4⟩ | ⟨hk, hl⟩ | ⟨k0, k1, k2, hl⟩
  · have e0 : refTo r p (segLen S') = appR r p.b := by unfold refTo; rw [if_pos hk]
    rw [e0]
    rcases hl with ⟨h1, h2, h3, h4⟩ | ⟨h1, h2, h3, h4⟩
    · subst h3 h4
      exact stepA_beside hL h p.b h1
    · subst h3 h4
      unfold appR
      rw [if_pos h1]
      exact ⟨rfl, h⟩
  · have e0 : refTo r p (segLen S') = (synR r, 0) := by unfold refTo; rw [if_neg (by omega), if_pos hk]
    rw [e0]
    subst h3 h4
    exact ⟨rfl, stepS_beside h⟩
  · have e0 : refTo r p (segLen S') = snapR r p.n p.b := by unfold refTo; rw [if_neg (by omega), if_neg (by omega), if_pos hk]
    rw [e0]
    rcases hl with ⟨h1, h2, h3, h4⟩ | ⟨k, hk1, hk2, hk3, ⟨h1, h2, h3, h4⟩ | ⟨h1, h2, h3, h4⟩⟩
    · subst h3 h4
      unfold snapR
      rw [if_pos (by rw [h.base, h.syn]; exact h1)]
      exact ⟨rfl, h⟩
    · subst h3 h4
      rw [hk1]
      exact stepP_beside hL h hk2 hk3 p.b h1
    · subst h3 h4
      unfold snapR
      rw [if_neg (by rw [h.base, h.syn]; omega), if_pos h1]
      exact ⟨rfl, h⟩
  · have e0 : refTo r p (segLen S') = cutR r p.n (segLen S') := by unfold refTo; rw [if_neg k0, if_neg k1, if_neg k2]
    rw [e0]
    rcases hl with ⟨h1, h2, h3, h4⟩ | ⟨k, hk1, hk2, hk3, h1, h4⟩
    · subst h3 h4
      unfold cutR
      rw [if_pos (by rw [h.base, hla]; exact h1)]
      exact ⟨rfl, h⟩
    · subst h4
      obtain ⟨_, _, r1, r2, r3, r4, r5⟩ := hL.cut hk2 hk3 h1
      unfold cutR
      rw [if_neg (by rw [h.base, hla]; omega)]
      refine ⟨rfl, by show r.base = _; rw [h.base, r2], by show r.shot = _; rw [h.shot, r3], ?_, ?_, by show r.size = _; rw [h.size, r4], ?_⟩
      · show r.recs.take (p.n.toNat - r.base) = _
        rw [r1, h.recs, h.base, hk1, Int.toNat_natCast]
      · show p.n.toNat = _
        rw [r5, hk1, Int.toNat_natCast]
      · show segLen S' = _
        exact hL'.segLen
end
end Go.Proofs.YtnomicnmpllajaaGreatDoor
end

section
namespace Go.Proofs.YtnomicnmpllajaaGreatDoor
open Go Go.RowKit
set_option linter.unusedVariables false

section
variable {S S1 S2 : List RF} {M M1 M2 : LogM} {G : List SegR} {st k : Nat} {p : OpM} {e1 e2 : Int}
theorem segs_rise (h : LI S M G st) {i j : Nat} {s t : Nat × Nat} (hs : M.segs[i]? = some s) (ht : M.segs[j]? = some t) (hij : i < j) : s.1 ≤ t.1 := by
  rw [h.segs] at hs ht
  unfold segsR at hs ht
  rw [List.getElem?_map] at hs ht
  obtain ⟨x, hx, rfl⟩ := Option.map_eq_some_iff.1 hs
  obtain ⟨y, hy, rfl⟩ := Option.map_eq_some_iff.1 ht
  have e : G = G.take j ++ (y :: G.drop (j + 1)) := by
    obtain ⟨z1, z2⟩ := List.getElem?_eq_some_iff.1 hy
    rw [← z2, List.getElem_cons_drop, List.take_append_drop]
  have hr := h.runs
  rw [e] at hr
  obtain ⟨m, r1, r2, _⟩ := Runs.app.1 hr
  have hxm : x ∈ G.take j := by
    refine List.mem_of_getElem? (i := i) ?_
    rw [List.getElem?_take, if_pos hij]
    exact hx
  have := (r1.in_ x hxm).2
  show x.k ≤ y.k
  omega
theorem CutTo.uniq (h : LI S M G st) (h1 : CutTo M k S M1 S1) (h2 : CutTo M k S M2 S2) : S1 = S2 ∧ M1 = M2 := by
  obtain ⟨j1, a1, b1, c1⟩ := h1
  obtain ⟨j2, a2, b2, c2⟩ := h2
  have key : ∀ {i1 i2 : Nat} {s1 : Nat × Nat}, M.segs[i1]? = some s1 → s1.1 ≤ k → (∀ i s, i2 + 1 ≤ i → M.segs[i]? = some s → k < s.1) → i1 ≤ i2 := fun {i1 i2 s1} hs hk hb => by
    refine Nat.le_of_not_lt fun hlt => ?_
    have := hb i1 s1 hlt hs
    omega
  rcases c1 with ⟨rfl, rfl, rfl⟩ | ⟨i1, s1, n1, t1, rfl, d1, f1, g1, l1, rfl, rfl⟩
  · rcases c2 with ⟨rfl, rfl, rfl⟩ | ⟨i2, s2, n2, t2, rfl, d2, f2, g2, l2, rfl, rfl⟩
    · exact ⟨rfl, rfl⟩
    · have := b1 i2 s2 (Nat.zero_le _) d2
      omega
  · rcases c2 with ⟨rfl, rfl, rfl⟩ | ⟨i2, s2, n2, t2, rfl, d2, f2, g2, l2, rfl, rfl⟩
    · have := b2 i1 s1 (Nat.zero_le _) d1
      omega
    · have e1 : i1 ≤ i2 := Nat.le_of_not_lt fun hlt => by
        have := b2 i1 s1 hlt d1
        omega
      have e2 : i2 ≤ i1 := Nat.le_of_not_lt fun hlt => by
        have := b1 i2 s2 hlt d2
        omega
      obtain rfl : i1 = i2 := Nat.le_antisymm e1 e2
      rw [d1] at d2
      obtain rfl := Option.some.inj d2
      have et : t1 = t2 := by
        rcases g1 with ⟨x1, x2⟩ | ⟨s', x1, x2⟩
        · rcases g2 with ⟨y1, y2⟩ | ⟨s'', y1, y2⟩
          · omega
          · have := (List.getElem?_eq_some_iff.1 y1).1
            omega
        · rcases g2 with ⟨y1, y2⟩ | ⟨s'', y1, y2⟩
          · have := (List.getElem?_eq_some_iff.1 x1).1
            omega
          · rw [x1] at y1
            obtain rfl := Option.some.inj y1
            omega
      subst et
      obtain rfl : n1 = n2 := by omega
      exact ⟨rfl, rfl⟩
/-- A call makes one thing of a log. -/
theorem logTo.uniq (h : LI S M G st) (h1 : logTo p S M S1 M1 e1) (h2 : logTo p S M S2 M2 e2) : S1 = S2 ∧ M1 = M2 := by
  rcases h1 with ⟨hk, h1⟩ | ⟨hk, a1, a2, a3⟩ | ⟨hk, h1⟩ | ⟨k0, k1, k2, h1⟩
  · rcases h2 with ⟨_, h2⟩ | ⟨hk', _⟩ | ⟨hk', _⟩ | ⟨hk', _⟩ <;> first | (exfalso; omega) | skip
    rcases h1 with ⟨b1, b2, b3, _⟩ | ⟨b1, b2, b3, _⟩ <;> rcases h2 with ⟨c1, c2, c3, _⟩ | ⟨c1, c2, c3, _⟩ <;> first | (exfalso; omega) | exact ⟨b2.trans c2.symm, b3.trans c3.symm⟩
  · rcases h2 with ⟨hk', _⟩ | ⟨_, c1, c2, _⟩ | ⟨hk', _⟩ | ⟨_, hk', _⟩ <;> first | (exfalso; omega) | exact ⟨a1.trans c1.symm, a2.trans c2.symm⟩
  · rcases h2 with ⟨hk', _⟩ | ⟨hk', _⟩ | ⟨_, h2⟩ | ⟨_, _, hk', _⟩ <;> first | (exfalso; omega) | skip
    rcases h1 with ⟨b0, b2, b3, _⟩ | ⟨k, hn, b4, b5, ⟨b1, b2, b3, _⟩ | ⟨b1, b2, b3, _⟩⟩ <;> rcases h2 with ⟨c0, c2, c3, _⟩ | ⟨k', hn', c4, c5, ⟨c1, c2, c3, _⟩ | ⟨c1, c2, c3, _⟩⟩ <;> first | (exfalso; omega) | exact ⟨b2.trans c2.symm, b3.trans c3.symm⟩ | (obtain rfl : k = k' := (by omega); exact ⟨b2.trans c2.symm, b3.trans c3.symm⟩)
  · rcases h2 with ⟨hk', _⟩ | ⟨hk', _⟩ | ⟨hk', _⟩ | ⟨_, _, _, h3⟩
    · exact absurd hk' k0
    · exact absurd hk' k1
    · exact absurd hk' k2
    · rcases h1 with ⟨b0, b2, b3, _⟩ | ⟨k, hn, b4, b5, b1, _⟩
      · rcases h3 with ⟨c0, c2, c3, _⟩ | ⟨k', hn', c4, c5, c1, _⟩
        · exact ⟨b2.trans c2.symm, b3.trans c3.symm⟩
        · exfalso; omega
      · rcases h3 with ⟨c0, c2, c3, _⟩ | ⟨k', hn', c4, c5, c1, _⟩
        · exfalso; omega
        · obtain rfl : k = k' := by omega
          exact b1.uniq h c1
end
end Go.Proofs.YtnomicnmpllajaaGreatDoor
end

section
namespace Go.Proofs.YtnomicnmpllajaaGreatDoor
open Go Go.RowKit

/-- A log that says: segments of N bytes, a snapshot sh of the number B, these records; at least s are synced; the disk has U bytes. -/
def LSt (w : World) (Kp : Nat → Prop) (lb d N B : Nat) (sh : List Int) (recs : List (List Int)) (s U : Nat) (W : World) : Prop :=
  ∃ S M G st, LK w Kp lb d 1048576 S M W ∧ LI S M G st ∧ M.size = N ∧ M.base = B ∧ M.shot = sh ∧ M.recs = recs ∧ s ≤ M.synced ∧ usedN S = U
/-- A log of which queries alone are asked. -/
def LogSt (w : World) (lb d B : Nat) (sh : List Int) (recs : List (List Int)) (W : World) : Prop :=
  ∃ M Λ, LogIs w W lb d M Λ ∧ LogOk M ∧ M.base = B ∧ M.shot = sh ∧ M.recs = recs

section
variable {w W W' : World} {Kp : Nat → Prop} {lb d N B s U : Nat} {sh : List Int} {recs : List (List Int)}
theorem LSt.below (h : LSt w Kp lb d N B sh recs s U W) : Below w.heap.size w W := by
  obtain ⟨S, M, G, st, h1, _⟩ := h
  exact h1.below
theorem LSt.later (h : LSt w Kp lb d N B sh recs s U W) (hb : Below W.heap.size W W') : LSt w Kp lb d N B sh recs s U W' := by
  obtain ⟨S, M, G, st, h1, h2⟩ := h
  exact ⟨S, M, G, st, h1.later hb, h2⟩
theorem LSt.more (h : LSt w Kp lb d N B sh recs s U W) (hb : Below W.heap.size W W') : LSt w (fun k => Kp k ∨ (W.heap.size ≤ k ∧ k < W'.heap.size)) lb d N B sh recs s U W' := by
  obtain ⟨S, M, G, st, h1, h2⟩ := h
  exact ⟨S, M, G, st, h1.more hb, h2⟩
theorem LSt.less {Kp' : Nat → Prop} (h : LSt w Kp lb d N B sh recs s U W) (hK : ∀ k, Kp' k → Kp k) (h2 : ∀ k, k < w.heap.size → Kp' k) : LSt w Kp' lb d N B sh recs s U W := by
  obtain ⟨S, M, G, st, h1, h3⟩ := h
  exact ⟨S, M, G, st, h1.less hK h2, h3⟩
theorem LSt.keeps (h : LSt w Kp lb d N B sh recs s U W) (hb : Below W.heap.size W W') : Kept Kp W W' := by
  obtain ⟨S, M, G, st, h1, h2⟩ := h
  exact h1.kept hb
theorem LSt.log (h : LSt w Kp lb d N B sh recs s U W) : LogSt w lb d B sh recs W := by
  obtain ⟨S, M, G, st, h1, h2, h3, h4, h5, h6, _⟩ := h
  obtain ⟨Λ, h7, _⟩ := h1.log
  exact ⟨M, Λ, h7, h2.ok, h4, h5, h6⟩
/-- A row of bytes that was there ahead of all. -/
theorem row_in {A : Option Addr} {n c : Nat} {xs : List Int} (h : LSt w Kp lb d N B sh recs s U W) (hr : Rd w w.heap.size .u8 A n c xs) : Rd W W.heap.size .u8 A n c xs ∧ ∀ a, A = some a → 0 < n → Kp a.block := by
  obtain ⟨S, M, G, st, h1, h2⟩ := h
  exact ⟨(hr.below h1.below).more h1.below.size, fun a e hn => h1.2.2 _ (hr.blk a e hn)⟩
theorem LSt.append (h : LSt w Kp lb d N B sh recs s U W) (ht : Tab w) {A : Option Addr} {n c : Nat} {xs : List Int} (hr : Rd W W.heap.size .u8 A n c xs ∧ ∀ a, A = some a → 0 < n → Kp a.block) (hx : ∀ x ∈ xs, 0 ≤ x ∧ x < 256) (hn : xs.length ≤ 4096) (hm : B + recs.length + 1 < 900000) (hU : U + (xs.length + 6) ≤ 1048576) :
    Calls Tryz.prog 24 #[.pointer (some ⟨lb, 0, none⟩), .slice A n c] W fun e w' => e = .returned (.int .i64 0) ∧ LSt w Kp lb d N B sh (recs ++ [xs]) s (U + (xs.length + 6)) w' ∧ Kept Kp W w' := by
  obtain ⟨S, M, G, st, h1, h2, rfl, rfl, rfl, rfl, h7, rfl⟩ := h
  have hl : M.last + 1 < 900000 := hm
  refine (h1.append h2 ht hr.1 hr.2 hx hl ⟨hn, by omega⟩).mono ?_
  rintro e w' ⟨rfl, h3, h4⟩
  obtain ⟨G', st', h5⟩ := h2.stepA hx hn hl
  obtain ⟨r1, r2, r3, r4⟩ := stepA_recs S M xs
  refine ⟨rfl, ⟨_, _, G', st', h3, h5, r4, r2, r3, r1, ?_, ?_⟩, h4⟩
  · have h9 := h2.sync.2.1
    unfold Proofs.YtnomicnmpllajaaGreatDoor.stepA
    split
    · show s ≤ M.last
      omega
    · split
      · exact h7
      · show s ≤ M.last
        omega
  · have := h2.used_stepA xs
    omega
theorem LSt.sync (h : LSt w Kp lb d N B sh recs s U W) (ht : Tab w) : Calls Tryz.prog 25 #[.pointer (some ⟨lb, 0, none⟩)] W fun e w' => e = .returned (.int .i64 0) ∧ LSt w Kp lb d N B sh recs (B + recs.length) U w' ∧ Kept Kp W w' := by
  obtain ⟨S, M, G, st, h1, h2, rfl, rfl, rfl, rfl, h7, h8⟩ := h
  refine (h1.sync h2 ht).mono ?_
  rintro e w' ⟨rfl, h3, h4⟩
  have e0 : (stepS S M).2 = { M with synced := M.last } := by unfold stepS; split <;> rfl
  have h9 := h2.used_stepS
  have h10 := h2.stepS
  rw [e0] at h3 h10
  exact ⟨rfl, ⟨_, _, G, st, h3, h10, rfl, rfl, rfl, rfl, Nat.le_refl _, by omega⟩, h4⟩
theorem LSt.cut (h : LSt w Kp lb d N B sh recs s U W) (ht : Tab w) {k : Nat} (hk1 : B ≤ k) (hk2 : k ≤ B + recs.length) :
    Calls Tryz.prog 30 #[.pointer (some ⟨lb, 0, none⟩), .int .i64 k] W fun e w' => e = .returned (.int .i64 0) ∧ Hid (∃ U', U' ≤ U ∧ LSt w Kp lb d N B sh (recs.take (k - B)) k U' w') ∧ Kept Kp W w' := by
  obtain ⟨S, M, G, st, h1, h2, rfl, rfl, rfl, rfl, h7, h8⟩ := h
  refine (h1.cut h2 ht hk1 hk2).mono ?_
  rintro e w' ⟨rfl, h3, h4⟩
  obtain ⟨S', M', h5, h6⟩ := h3.out
  obtain ⟨G', hL', r1, r2, r3, r4, r5⟩ := h2.cut hk1 hk2 h6
  have := h2.used_cut h6
  exact ⟨rfl, Lib.hid ⟨_, by omega, _, _, _, _, h5, hL', r4, r2, r3, r1, by omega, rfl⟩, h4⟩
theorem LSt.cut_no (h : LSt w Kp lb d N B sh recs s U W) (k : Int) (hk : k < B ∨ ((B + recs.length : Nat) : Int) < k) :
    Calls Tryz.prog 30 #[.pointer (some ⟨lb, 0, none⟩), .int .i64 k] W fun e w' => e = .returned (.int .i64 1) ∧ LSt w Kp lb d N B sh recs s U w' ∧ Kept Kp W w' := by
  obtain ⟨S, M, G, st, h1, h2, rfl, rfl, rfl, rfl, h7, h8⟩ := h
  refine (h1.cut_no h2.ok k hk).mono ?_
  rintro e w' ⟨rfl, h3, h4⟩
  exact ⟨rfl, ⟨_, _, _, _, h3, h2, rfl, rfl, rfl, rfl, h7, h8⟩, h4⟩
theorem LSt.snap (h : LSt w Kp lb d N B sh recs s U W) (ht : Tab w) {A : Option Addr} {n c : Nat} {xs : List Int} (hr : Rd W W.heap.size .u8 A n c xs ∧ ∀ a, A = some a → 0 < n → Kp a.block) (hx : ∀ x ∈ xs, 0 ≤ x ∧ x < 256) (hn : xs.length ≤ 4000) {k : Nat} (hk1 : B ≤ k) (hk2 : k ≤ s) (hU : U + (sealF (enc k ++ xs)).length ≤ 1048576) :
    Calls Tryz.prog 29 #[.pointer (some ⟨lb, 0, none⟩), .int .i64 k, .slice A n c] W fun e w' => e = .returned (.int .i64 0) ∧ Hid (∃ U', U' ≤ U + (sealF (enc k ++ xs)).length ∧ LSt w Kp lb d N k xs (recs.drop (k - B)) s U' w') ∧ Kept Kp W w' := by
  obtain ⟨S, M, G, st, h1, h2, rfl, rfl, rfl, rfl, h7, h8⟩ := h
  refine (h1.snap h2 ht hr.1 hr.2 hx hk1 (by omega) ⟨hn, by omega⟩).mono ?_
  rintro e w' ⟨rfl, h3, h4⟩
  obtain ⟨G', st', h5⟩ := h2.stepP hk1 (by omega) hx hn
  have := h2.used_stepP k xs
  exact ⟨rfl, Lib.hid ⟨_, by omega, _, _, G', st', h3, h5, rfl, rfl, rfl, rfl, h7, rfl⟩, h4⟩
theorem LSt.snap_no (h : LSt w Kp lb d N B sh recs s U W) (k : Int) (A : Option Addr) (n c : Nat) (hk : k < B ∨ ((B + recs.length : Nat) : Int) < k) :
    Calls Tryz.prog 29 #[.pointer (some ⟨lb, 0, none⟩), .int .i64 k, .slice A n c] W fun e w' => e = .returned (.int .i64 1) ∧ LSt w Kp lb d N B sh recs s U w' ∧ Kept Kp W w' := by
  obtain ⟨S, M, G, st, h1, h2, rfl, rfl, rfl, rfl, h7, h8⟩ := h
  have hl : M.synced ≤ M.base + M.recs.length := h2.sync.2.1
  refine (h1.snap_bad k A n c (by omega)).mono ?_
  rintro e w' ⟨rfl, h3, h4⟩
  exact ⟨rfl, ⟨_, _, _, _, h3, h2, rfl, rfl, rfl, rfl, h7, h8⟩, h4⟩
/-- How many bytes the disk has. -/
theorem LSt.used_ (h : LSt w Kp lb d N B sh recs s U W) : Calls Tryz.prog 28 #[.pointer (some ⟨d, 0, none⟩)] W fun e w' => e = .returned (.int .i64 U) ∧ W = w' := by
  obtain ⟨S, M, G, st, h1, h2, h3, h4, h5, h6, h7, rfl⟩ := h
  exact h1.dk.used_
/-- Open, without a crash, on what all is synced. -/
theorem LSt.reopen (h : LSt w Kp lb d N B sh recs s U W) (hs : B + recs.length ≤ s) (ht : Tab w) :
    Calls Tryz.prog 15 #[.pointer (some ⟨d, 0, none⟩), .int .i64 N] W fun e w2 => ∃ lb2, e = .returned (.tuple #[.pointer (some ⟨lb2, 0, none⟩), .nilIface]) ∧ LogSt w lb2 d B sh recs w2 ∧ LogSt w lb d B sh recs w2 ∧ Below w.heap.size w w2 ∧ Kept Kp W w2 := by
  obtain ⟨S, M, G, st, h1, h2, rfl, rfl, rfl, rfl, h7, h8⟩ := h
  obtain ⟨Λ, hlog, hdk⟩ := h1.log
  obtain ⟨S2, M2, G2, t, p1, p2, p3, p4, p5, p6, p7, p8, p9, p10⟩ := hdk.opened h2 h2.own_left ht
  refine p10.mono ?_
  rintro e w2 ⟨lb2, rfl, h3, h4⟩
  obtain ⟨Λ2, hlog2, _⟩ := h3.log
  have et : t = M.recs.length := by omega
  rw [et, List.take_length] at p8
  exact ⟨lb2, rfl, ⟨M2, Λ2, hlog2, p1.ok, p3, p4, p8⟩, ⟨M, Λ, hlog.kept h4 (fun k hk => .inr hk) h3.below, h2.ok, rfl, rfl, rfl⟩, h3.below, fun k hk => h4.1 k (.inl hk), h4.2⟩
/-- A crash, and Open behind it. -/
theorem LSt.crash (h : LSt w Kp lb d N B sh recs s U W) (ht : Tab w) {A : Option Addr} {n c : Nat} {ks : List Int} (hr : Rd W W.heap.size .i64 A n c ks) (hA : ∀ a, A = some a → 0 < n → Kp a.block) (hks : ∀ z ∈ ks, -9223372036854775808 ≤ z ∧ z ≤ 9223372036854775807) :
    Calls Tryz.prog 20 #[.pointer (some ⟨d, 0, none⟩), .slice A n c] W fun e w1 => e = .returned (.tuple #[]) ∧ Kept Kp W w1 ∧ Below w.heap.size w w1 ∧ Hid (∃ t, t ≤ recs.length ∧ s ≤ B + t ∧
      Calls Tryz.prog 15 #[.pointer (some ⟨d, 0, none⟩), .int .i64 N] w1 fun e w2 => ∃ lb2, e = .returned (.tuple #[.pointer (some ⟨lb2, 0, none⟩), .nilIface]) ∧ Hid (∃ U', U' ≤ U ∧ LSt w Kp lb2 d N B sh (recs.take t) (B + t) U' w2) ∧ LogSt w lb d B sh recs w2 ∧ Kept Kp w1 w2) := by
  obtain ⟨S, M, G, st, h1, h2, rfl, rfl, rfl, rfl, h7, h8⟩ := h
  obtain ⟨Λ, hlog, hdk⟩ := h1.log
  refine (hdk.crash h2.few hr (fun a e hn => .inl (hA a e hn)) hks).mono ?_
  rintro e w1 ⟨rfl, h3, h4⟩
  have hlog1 := hlog.kept h4 (fun k hk => .inr hk) h3.1
  obtain ⟨S2, M2, G2, t, p1, p2, p3, p4, p5, p6, p7, p8, p9, p10⟩ := h3.opened h2 (crashF_left h2.rise ks) ht
  refine ⟨rfl, ⟨fun k hk => h4.1 k (.inl hk), h4.2⟩, h3.1, Lib.hid ⟨t, p7, by omega, p10.mono ?_⟩⟩
  rintro e w2 ⟨lb2, rfl, h5, h6⟩
  have hu := usedN_crash ks S
  have hM2 : M2.last = M.base + t := by
    unfold LogM.last
    rw [p3, p8, List.length_take]
    omega
  refine ⟨lb2, rfl, Lib.hid ⟨usedN S2, by omega, S2, M2, G2, st, h5.less (fun k hk => .inl hk) h1.2.2, p1, p2, p3, p4, p8, by omega, rfl⟩, ⟨M, Λ, hlog1.kept h6 (fun k hk => .inr hk) h5.below, h2.ok, rfl, rfl, rfl⟩, fun k hk => h6.1 k (.inl hk), h6.2⟩
theorem LogSt.later (h : LogSt w lb d B sh recs W) (hb : Below W.heap.size W W') : LogSt w lb d B sh recs W' := by
  obtain ⟨M, Λ, h1, h2⟩ := h
  exact ⟨M, Λ, h1.later hb, h2⟩
theorem LogSt.below (h : LogSt w lb d B sh recs W) : Below w.heap.size w W := by
  obtain ⟨M, Λ, h1, h2⟩ := h
  exact h1.2
theorem LogSt.base_ (h : LogSt w lb d B sh recs W) : Calls Tryz.prog 23 #[.pointer (some ⟨lb, 0, none⟩)] W fun e w' => e = .returned (.int .i64 B) ∧ W = w' := by
  obtain ⟨M, Λ, h1, h2, rfl, rfl, rfl⟩ := h
  exact h1.base_
theorem LogSt.last_ (h : LogSt w lb d B sh recs W) : Calls Tryz.prog 21 #[.pointer (some ⟨lb, 0, none⟩)] W fun e w' => e = .returned (.int .i64 ((B : Int) + recs.length)) ∧ ∃ q, w' = W.drewN q := by
  obtain ⟨M, Λ, h1, h2, rfl, rfl, rfl⟩ := h
  refine (h1.last_ h2).mono fun e w' h3 => ⟨?_, h3.2⟩
  rw [h3.1]
  unfold LogM.last
  rw [Int.natCast_add]
/-- A record that is there. -/
theorem LogSt.get (h : LogSt w lb d B sh recs W) {j : Nat} {xs : List Int} (hj : recs[j]? = some xs) {k : Int} (hk : k = (B : Int) + j + 1) : Calls Tryz.prog 26 #[.pointer (some ⟨lb, 0, none⟩), .int .i64 k] W fun e w' => ∃ A c, e = .returned (.tuple #[.slice A xs.length c, .bool true]) ∧ Below W.heap.size W w' ∧ Rd w' w'.heap.size .u8 A xs.length c xs := by
  obtain ⟨M, Λ, h1, h2, rfl, rfl, rfl⟩ := h
  have hjl := (List.getElem?_eq_some_iff.1 hj).1
  refine (h1.get h2 k).mono ?_
  rintro e w' ⟨hb, ⟨hn, _⟩ | ⟨i, ys, A, c, e1, e2, rfl, h3⟩⟩
  · refine absurd ?_ hn
    unfold LogM.last
    omega
  · obtain rfl : i = j := by omega
    rw [hj] at e2
    obtain rfl := Option.some.inj e2
    exact ⟨A, c, rfl, hb, h3⟩
/-- One that isn't. -/
theorem LogSt.get_no (h : LogSt w lb d B sh recs W) {k : Int} (hk : k ≤ B ∨ (B : Int) + recs.length < k) : Calls Tryz.prog 26 #[.pointer (some ⟨lb, 0, none⟩), .int .i64 k] W fun e w' => e = .returned (.tuple #[.slice none 0 0, .bool false]) ∧ Below W.heap.size W w' := by
  obtain ⟨M, Λ, h1, h2, rfl, rfl, rfl⟩ := h
  refine (h1.get h2 k).mono ?_
  rintro e w' ⟨hb, ⟨hn, rfl⟩ | ⟨i, ys, A, c, e1, e2, rfl, h3⟩⟩
  · exact ⟨rfl, hb⟩
  · have := (List.getElem?_eq_some_iff.1 e2).1
    omega
theorem LogSt.shot_ (h : LogSt w lb d B sh recs W) : Calls Tryz.prog 39 #[.pointer (some ⟨lb, 0, none⟩)] W fun e w' => ∃ A c, e = .returned (.slice A sh.length c) ∧ Below W.heap.size W w' ∧ Hid (Rd w' w'.heap.size .u8 A sh.length c sh) := by
  obtain ⟨M, Λ, h1, h2, rfl, rfl, rfl⟩ := h
  exact h1.shot
end
/-- A new disk that has room, and a log on it. -/
theorem open_st (w : World) (n : Nat) (h1 : 16 ≤ n) (h2 : n ≤ 65536) : Calls Tryz.prog 14 #[.int .i64 1048576] w fun e w1 => e = .returned (.pointer (some ⟨w.heap.size + 1, 0, none⟩)) ∧
    Hid (Calls Tryz.prog 15 #[.pointer (some ⟨w.heap.size + 1, 0, none⟩), .int .i64 n] w1 fun e w2 => ∃ lb, e = .returned (.tuple #[.pointer (some ⟨lb, 0, none⟩), .nilIface]) ∧ LSt w (fun k => k < w.heap.size) lb (w.heap.size + 1) n 0 [] [] 0 0 w2) := by
  refine (open_lw w 1048576 n h1 h2).mono ?_
  rintro e w1 ⟨rfl, h3⟩
  refine ⟨rfl, Lib.hid (h3.out.mono ?_)⟩
  rintro e w2 ⟨lb, rfl, h4⟩
  exact ⟨lb, rfl, [], newM n, [], 1, h4.lk, LI.new h1 h2, rfl, rfl, rfl, rfl, Nat.le_refl _, rfl⟩
theorem LSt.rebase {w W : World} {lb d N B s U q : Nat} {sh : List Int} {recs : List (List Int)} {Kp : Nat → Prop} (h : LSt (w.drewN q) Kp lb d N B sh recs s U W) : LSt w Kp lb d N B sh recs s U W := by
  obtain ⟨S, M, G, st, ⟨⟨V, h1⟩, h3, h4⟩, h2⟩ := h
  exact ⟨S, M, G, st, ⟨⟨V, (bdrewN (Below.refl _ _) q).trans h1.below, h1.ex⟩, h3, h4⟩, h2⟩
end Go.Proofs.YtnomicnmpllajaaGreatDoor
end
