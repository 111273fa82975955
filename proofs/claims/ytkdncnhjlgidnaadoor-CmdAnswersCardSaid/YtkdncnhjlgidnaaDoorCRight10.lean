/- What is proved here: the document's own Right says of a command what cmd.Right says. -/
import Derived.Test.YtkdncnhjlgidnaaDoorCWrite10
import Derived.Test.YtkdncnhjlgidnaaDoorCChg
import Derived.Deep.QuietTactic
import Derived.BigQuiet
namespace Go.Proofs.YtkdncnhjlgidnaaDoor
open Go Go.RowKit Go.Maps

theorem yields_row10 {P : Program} {o : Oper} {a : Act} {w : World} (ty : TypeId) (x : Operand) (ho : o.op = .load ty x)
    (g : Nat) (hx : a.eval x = .pointer (some ⟨g, 0, none⟩)) (t : TypeId) (cs : Array Value) (fr : Nat × Nat) (d : TypeDesc) (hg : w.heap[g]? = some (.cells cs t fr))
    (hu : P.underlying ty = some d) (hd : (match d with | .struct _ | .array _ _ => true | _ => false) = true) (hi : (P.info? ty).map (·.size) = some cs.size) :
    (execOp a.eval o).run P w = .ok (.value (.agg cs)) w := by
  unfold execOp
  simp only [ho, hx, Instr.loadAt, Instr.sureAddr, Sem.run_bind, Sem.run_pure, Result.andThen_ok, run_loadVar_row w g t ty cs fr d hg hu hd hi]
theorem drewn_below (w : World) (n : Nat) : Below w.heap.size w (w.drewN n) := ⟨rfl, rfl, rfl, Nat.le_refl _, fun _ _ => rfl⟩
set_option maxHeartbeats 400000 in
theorem most_any (w : World) : Calls Tryd.prog 32 #[] w fun e w' => e = .returned (.int .i64 4611686018427387904) ∧ w' = w := by
  go_enter Tryd.func32, Tryd.ntmps32
  go_wp2_with fail
  go_ret
  simp
theorem TRd.news {w : World} {B n c : Nat} {A : Option Addr} {L : List ByteArray} (h : TRd w B A n c L) : ∀ ad, A = some ad → ∀ j u, (L.map Value.string)[j]? = some u → w.cell? (ad.add j) = some u := by
  intro ad had j u hu
  rw [List.getElem?_map] at hu
  obtain ⟨s, hs, rfl⟩ := Option.map_eq_some_iff.1 hu
  obtain ⟨b, o, e, _, hc⟩ := h.place j s hs
  rw [had] at e
  obtain rfl := Option.some.inj e
  rw [Addr.add_lit]
  exact hc
theorem TRd.of_own2 {w : World} {base e n : Nat} {v : Value} {L : List ByteArray} (h : w.ownsRow base e 1 v n (L.map Value.string)) : ∃ A c, v = .slice A n c ∧ TRd w w.heap.size A n c L := by
  rcases h.2 with ⟨rfl, rfl⟩ | ⟨g, cap, cur, rfl, _⟩
  · exact ⟨none, 0, rfl, (TRd.of_own h).1⟩
  · exact ⟨_, _, rfl, (TRd.of_own h).1⟩
theorem own_of_blk {w : World} {s : Nat} {t : TypeId} {xs : List Value} (h : Blk w s t xs.toArray) (hl : xs.length ≤ maxLen) : w.ownsRow s t 1 (.slice (some ⟨s, 0, none⟩) xs.length xs.length) xs.length xs :=
  ⟨by simp, .inr ⟨s, xs.length, xs.toArray, rfl, Nat.le_refl _, h, Nat.le_refl _, hl, by simp, by simp⟩⟩
theorem info_str : (Tryd.prog.info? 9).map (fun i => (i.zero, i.size, i.bytes)) = some (some (.string ⟨#[]⟩), 1, 16) := by kernel_rfl
/-- The numbers fit just if the document's do. -/
theorem fits11 (c : CM) : c.shift.ns.all fitB = c.ns11.all fitB := by
  have e : c.ns11 = c.shift.ns ++ [if c.ff then 1 else 0] := rfl
  rw [e, List.all_append]
  have : fitB (if c.ff then 1 else 0) = true := by cases c.ff <;> rfl
  simp [this]
theorem right_low {c : CM} {L : List ByteArray} (hn : I64 c.n) (h : c.n < -1 ∨ 4611686018427387903 < c.n) : c.right L = false := by
  have hno : fitB (wrap64 (c.n + 1)) = false := by
    unfold fitB
    have hw : wrap64 (c.n + 1) = if c.n = 9223372036854775807 then -9223372036854775808 else c.n + 1 := by
      obtain ⟨h1, h2⟩ := hn
      unfold wrap64
      split <;> omega
    rw [hw]
    split
    · decide
    · rcases h with h | h
      · rw [decide_eq_false (by omega), Bool.false_and]
      · rw [decide_eq_false (show ¬ c.n + 1 ≤ 4611686018427387904 by omega), Bool.and_false]
  have hall : c.shift.ns.all fitB = false := by
    rw [List.all_eq_false]
    exact ⟨wrap64 (c.n + 1), by simp [CM.shift, CM.ns], by rw [hno]; simp⟩
  unfold CM.right
  rw [hall]
  simp
set_option maxHeartbeats 6400000 in
set_option maxRecDepth 100000 in
theorem Right10_any (c : CM) (L : List ByteArray) (w : World) (hL : TRd w w.heap.size c.bA c.bn c.bc L) (hn : I64 c.n) (hbn : c.bn ≤ 1000000) :
    Calls Tryd.prog 10 #[.agg c.cells] w fun e w' => e = .returned (.bool (c.right L)) ∧ Below w.heap.size w w' := by
  have hLn := hL.len
  have RL : Hid (c.n < -1 ∨ 4611686018427387903 < c.n → c.right L = false) := Lib.hid (right_low hn)
  have RB : Hid (10 < c.bn → c.right L = false) := Lib.hid fun h => by
    unfold CM.right
    rw [decide_eq_false (by omega)]
    simp
  have RN : Hid (∀ j, j < 11 → fitB (c.ns11.getD j 0) = false → c.right L = false) := Lib.hid fun j hj h => by
    have h2 : c.ns11.all fitB = false := by
      rw [List.all_eq_false]
      refine ⟨c.ns11.getD j 0, ?_, by rw [h]; simp⟩
      rw [List.getD_eq_getElem?_getD, List.getElem?_eq_getElem (show j < c.ns11.length from hj)]
      exact List.getElem_mem _
    unfold CM.right
    rw [fits11, h2]
    simp
  have RT : Hid (∀ j, j < 6 + c.bn → 256 < ((c.ts ++ L).getD j ⟨#[]⟩).size → c.right L = false) := Lib.hid fun j hj h => by
    have hlen : j < (c.ts ++ L).length := by rw [List.length_append, hLn]; exact hj
    have h2 : (c.ts ++ L).all (fun s => decide (s.size ≤ 256)) = false := by
      rw [List.all_eq_false]
      refine ⟨(c.ts ++ L).getD j ⟨#[]⟩, ?_, by rw [decide_eq_false (by omega)]; simp⟩
      rw [List.getD_eq_getElem?_getD, List.getElem?_eq_getElem hlen]
      exact List.getElem_mem _
    rw [List.all_append] at h2
    unfold CM.right
    rw [Bool.and_assoc, h2]
    simp
  have RY : Hid (c.bn ≤ 10 → (∀ j, j < 11 → fitB (c.ns11.getD j 0) = true) → (∀ j, j < 6 + c.bn → ((c.ts ++ L).getD j ⟨#[]⟩).size ≤ 256) → c.right L = true) := Lib.hid fun h1 h2 h3 => by
    have k2 : c.ns11.all fitB = true := by
      rw [List.all_eq_true]
      intro x hx
      obtain ⟨j, hj, rfl⟩ := List.getElem_of_mem hx
      have := h2 j hj
      rwa [List.getD_eq_getElem?_getD, List.getElem?_eq_getElem hj] at this
    have k3 : (c.ts ++ L).all (fun s => decide (s.size ≤ 256)) = true := by
      rw [List.all_eq_true]
      intro x hx
      obtain ⟨j, hj, rfl⟩ := List.getElem_of_mem hx
      have := h3 j (by rw [List.length_append, hLn] at hj; exact hj)
      rw [List.getD_eq_getElem?_getD, List.getElem?_eq_getElem hj] at this
      exact decide_eq_true this
    rw [List.all_append] at k3
    unfold CM.right
    rw [Bool.and_assoc, k3, fits11, k2, decide_eq_true h1]
    rfl
  generalize c.right L = q at RL RB RN RT RY ⊢
  obtain ⟨cs, hcs⟩ : ∃ cs, cs = c.cells := ⟨_, rfl⟩
  have i1 : (Tryd.prog.info? 37).map (·.size) = some cs.size := by rw [hcs]; exact info_ref
  have HNU : Hid (∀ W, Calls Tryd.prog 33 #[.agg cs] W fun e w' => ∃ s, e = .returned (.slice (some ⟨s, 0, none⟩) 11 11) ∧ Blk w' s 3 (c.ns11.map (Value.int .i64)).toArray ∧ Below W.heap.size W w') := Lib.hid (by rw [hcs]; exact refNumbers_any c)
  have HTU : Hid (∀ W, Calls Tryd.prog 34 #[.agg cs] W fun e w' => ∃ s, e = .returned (.slice (some ⟨s, 0, none⟩) 6 6) ∧ W.heap.size ≤ s ∧ Blk w' s 9 (c.ts.map Value.string).toArray ∧ Below W.heap.size W w') := Lib.hid (by rw [hcs]; exact refTexts_any c)
  have h15 : cs[15]? = some (.slice c.bA c.bn c.bc) := by rw [hcs]; rfl
  have h16 : cs[16]? = some (.int .i64 c.n) := by rw [hcs]; rfl
  rw [← hcs]
  have I1 := Lib.hid i1; have H15 := Lib.hid h15
  have HL := Lib.hid hL
  clear hcs i1 hL hn
  generalize c.bA = bA at *
  generalize c.bc = bc at *
  go_enter Tryd.func10, Tryd.ntmps10
  go_upto_region 1 with fail
  have hb1 : Blk (w.alloc (.cells cs 37)) w.heap.size 37 cs := Blk.fresh _ _ _
  have hbel : Below w.heap.size w (w.alloc (.cells cs 37)) := (Below.refl _ _).alloc (Nat.le_refl _) _
  generalize w.alloc (.cells cs 37) = W at *
  have y15 := (hb1.cell 15).trans h15
  have y16 := (hb1.cell 16).trans h16
  have HB1 := Lib.hid hb1; have HBEL := Lib.hid hbel
  have HDR : Hid (∀ n, Below w.heap.size w (W.drewN n) ∧ Blk (W.drewN n) w.heap.size 37 cs) := Lib.hid fun n => ⟨hbel.trans ((drewn_below W n).mono hbel.size), hb1⟩
  clear hb1 hbel h15 h16
  have hw0 : IntKind.i64.wrap (4611686018427387904 - 1) = 4611686018427387903 := by decide
  by_cases hA : c.n < -1
  · have HF := Lib.hid (RL.out (.inl hA))
    go_quiet ((go_at_call 32; exact Calls.quiet_of_same (most_any _)))
    go_wp2_with fail
    go_ret
    exact ⟨by rw [HF.out]; rfl, (HDR.out _).1⟩
  · have hdA : decide (c.n < -1) = false := decide_eq_false hA
    by_cases hB : 4611686018427387903 < c.n
    · have HF := Lib.hid (RL.out (.inr hB))
      go_quiet ((go_at_call 32; exact Calls.quiet_of_same (most_any _)))
      go_wp2_with fail
      go_ret
      exact ⟨by rw [HF.out]; rfl, (HDR.out _).1⟩
    · have hdB : decide (4611686018427387903 < c.n) = false := decide_eq_false hB
      by_cases hC : 10 < c.bn
      · have HF := Lib.hid (RB.out hC)
        have hCz : (10 : Int) < c.bn := by omega
        go_quiet ((go_at_call 32; exact Calls.quiet_of_same (most_any _)))
        go_wp2_with fail
        go_ret
        exact ⟨by rw [HF.out]; rfl, (HDR.out _).1⟩
      · have hdC : decide ((10 : Int) < c.bn) = false := decide_eq_false (by omega)
        go_quiet ((go_at_call 32; exact Calls.quiet_of_same (most_any _)))
        have HB2 := Lib.hid (HDR.out nq).2; have HBEL2 := Lib.hid (HDR.out nq).1
        clear HDR HB1 HBEL y15 y16 hdA hdB hdC RL RB
        generalize W.drewN nq = W2 at *
        go_wp2_with (first
          | (refine wpList_load_row (o := ⟨some 23, .load 37 (.tmp 1), _, _, _, _⟩) rfl 37 (.tmp 1) rfl w.heap.size rfl 37 cs (0, 0) _ HB2.out Tryd.underlying37 rfl I1.out ?_)
          | (go_at_call 33; refine (HNU.out W2).mono ?_; rintro e w2 ⟨s1, rfl, hk1, hbl1⟩
             have HK1 := Lib.hid hk1; have HB3 := Lib.hid (HB2.out.below hbl1 HB2.out.lt); have HBEL3 := Lib.hid (HBEL2.out.trans (hbl1.mono HBEL2.out.size)); clear hk1 hbl1))
        clear HB2 HBEL2
        have hz := HBEL3.out.size
        go_loopw [4] (fun v4 wr => ∃ (j : Nat), j ≤ 11 ∧ v4 = .int .i64 j ∧ Hid (∀ i, i < j → fitB (c.ns11.getD i 0) = true) ∧ Hid (Below w2.heap.size w2 wr)) (fun i _ => 11 - (intOf i).toNat)
        case atStart => exact ⟨0, by omega, rfl, Lib.hid (fun i hi => absurd hi (Nat.not_lt_zero _)), Lib.hid (Below.refl _ _)⟩
        case round =>
          obtain ⟨j, hj, rfl, hall, hbw⟩ := hrel
          by_cases hlt : j < 11
          · have hjz : (j : Int) < 11 := by omega
            have hcell : wr.cell? ⟨s1, j, none⟩ = some (.int .i64 (c.ns11.getD j 0)) := by
              rw [(HK1.out.below hbw.out HK1.out.lt).cell]
              simp [List.getD_eq_getElem?_getD, List.getElem?_eq_getElem (show j < c.ns11.length from hlt)]
            have HDR : Hid (∀ n, Below w2.heap.size w2 (wr.drewN n)) := Lib.hid fun n => hbw.out.trans ((drewn_below wr n).mono hbw.out.size)
            have HX : Hid (∀ x, c.ns11.getD j 0 = x → (x < 0 ∨ 4611686018427387904 < x → q = false) ∧ (0 ≤ x ∧ x ≤ 4611686018427387904 → ∀ i, i < j + 1 → fitB (c.ns11.getD i 0) = true)) := Lib.hid fun x hx => ⟨fun h => RN.out j hlt (by
              rw [hx]
              unfold fitB
              rcases h with h | h
              · rw [decide_eq_false (by omega), Bool.false_and]
              · rw [decide_eq_false (show ¬ x ≤ 4611686018427387904 by omega), Bool.and_false]), fun h i hi => by
              rcases Nat.lt_or_ge i j with h1 | h1
              · exact hall.out i h1
              · obtain rfl : i = j := by omega
                rw [hx]
                unfold fitB
                rw [decide_eq_true h.1, decide_eq_true h.2]
                rfl⟩
            generalize hx : c.ns11.getD j 0 = x at hcell
            have HXX := Lib.hid (HX.out x hx)
            clear hx HX hall
            by_cases h1 : x < 0
            · go_wp2_with fail
              go_quiet ((go_at_call 32; exact Calls.quiet_of_same (most_any _)))
              go_wp2_with fail
              go_ret
              exact ⟨by rw [HXX.out.1 (.inl h1)]; rfl, HBEL3.out.trans ((HDR.out _).mono hz)⟩
            · have hd1 : decide (x < 0) = false := decide_eq_false h1
              by_cases h2 : 4611686018427387904 < x
              · go_wp2_with fail
                go_quiet ((go_at_call 32; exact Calls.quiet_of_same (most_any _)))
                go_wp2_with fail
                go_ret
                exact ⟨by rw [HXX.out.1 (.inr h2)]; rfl, HBEL3.out.trans ((HDR.out _).mono hz)⟩
              · have hd2 : decide (4611686018427387904 < x) = false := decide_eq_false h2
                have HFIT := Lib.hid (HXX.out.2 ⟨by omega, by omega⟩)
                go_wp2_with fail
                go_quiet ((go_at_call 32; exact Calls.quiet_of_same (most_any _)))
                have HBQ := Lib.hid (HDR.out nq)
                generalize wr.drewN nq = wr2 at *
                clear hd1 hd2 h1 h2 hcell HXX
                go_wp2_with fail
                go_roundw
                case rel => exact ⟨j + 1, by omega, by go_num, HFIT, HBQ⟩
                case measure => simp [intOf]; omega
          · obtain rfl : j = 11 := by omega
            have HFA := Lib.hid hall.out
            have hS0 : Blk wr.drew w.heap.size 37 cs := HB3.out.below hbw.out.drew HB3.out.lt
            have HBd := Lib.hid (HBEL3.out.trans (hbw.out.drew.mono hz))
            clear hbw hall HK1 HNU RN HB3 HBEL3
            obtain ⟨i0, hi, hz0, hz1, hz2⟩ := info_parts info_str
            go_upto_region 9 with fail
            refine wp_region_G (fun w' => Blk w' w.heap.size 37 cs) 5 (by kernel_rfl) ?_
            generalize wr.drew = wd at *
            refine wpAnyG_take (i := 0) (oi := ⟨some 44, _, _, _, _, _⟩) (v := .agg cs) rfl (by kernel_rfl) (by kernel_rfl) (by kernel_rfl) (by kernel_rfl) (fun _ _ _ h => h) (Or.inl ⟨by rfl, ?_⟩) hS0 ?_
            · intro wS hSw
              exact yields_row10 37 (.tmp 1) rfl w.heap.size rfl 37 cs (0, 0) _ hSw Tryd.underlying37 rfl I1.out
            try simp only [Act.put]
            refine wpAnyG_take (i := 2) (oi := ⟨some 46, _, _, _, _, _⟩) (v := .pointer (some ⟨w.heap.size, 15, none⟩)) rfl (by kernel_rfl) (by kernel_rfl) (by kernel_rfl) (by kernel_rfl) (fun _ _ _ h => h) (Or.inl ⟨by rfl, ?_⟩) hS0 ?_
            · intro wS hSw
              clear hSw
              go_simp
              try rfl
            try simp only [Act.put]
            refine wpAnyG_take (i := 3) (oi := ⟨some 47, _, _, _, _, _⟩) (v := .slice bA c.bn bc) rfl (by kernel_rfl) (by kernel_rfl) (by kernel_rfl) (by kernel_rfl) (fun _ _ _ h => h) (Or.inl ⟨by rfl, ?_⟩) hS0 ?_
            · intro wS hSw
              have y15 : wS.cell? ⟨w.heap.size, 15, none⟩ = some (.slice bA c.bn bc) := (hSw.cell 15).trans H15.out
              clear hSw
              go_simp
              try rfl
            try simp only [Act.put]
            refine wpAnyG_one (i := 1) (o := ⟨some 45, _, _, _, _, _⟩) (by kernel_rfl) rfl (fun K hK => ?_)
            go_simp
            refine (HTU.out wd).mono ?_
            rintro e w5 ⟨s2, rfl, hsb, hk2, hbl2⟩
            have HK2 := Lib.hid hk2
            have hS1 : Blk w5 w.heap.size 37 cs := hS0.below hbl2 hS0.lt
            have HB5 := Lib.hid (HBd.out.trans (hbl2.mono HBd.out.size))
            have hsb2 : w.heap.size ≤ s2 := Nat.le_trans HBd.out.size hsb
            clear hsb hk2 hS0 hbl2
            have hS0 := hS1
            clear hS1
            dsimp only
            refine hK.out _ _ (fun _ => hS0) ?_
            clear hK K
            try simp only [Act.put]
            refine wpAnyG_one (i := 4) (o := ⟨some 48, _, _, _, _, _⟩) (by kernel_rfl) rfl (fun K hK => ?_)
            have HLw := Lib.hid (HL.out.below HB5.out)
            have hs2 := HK2.out.lt
            refine step_append_where rfl (.tmp 45) (.tmp 47) 24 rfl s2 9 i0 _ 1 16 Tryd.underlying24 hi hz0 hz1 hz2 rfl (by decide) _ 6 (c.ts.map Value.string) rfl (own_of_blk (xs := c.ts.map Value.string) HK2.out (by unfold maxLen; show 6 ≤ _; omega)) bA c.bn bc (L.map Value.string) rfl (by rw [List.length_map, hLn, Nat.mul_one]) HLw.out.nil HLw.out.news (fun u hu => by obtain ⟨s, _, rfl⟩ := List.mem_map.1 hu; rfl) (by unfold maxLen; omega) (by omega) (by omega) ?_
            intro v5 w6 hown6 hg6 _
            rw [← List.map_append] at hown6
            obtain ⟨A5, c5, rfl, ht5⟩ := TRd.of_own2 hown6
            have hne : w.heap.size ≠ s2 := fun he => by
              have h1 := HK2.out
              rw [← he] at h1
              have h2 := h1.symm.trans hS0
              simp at h2
            have hS1 : Blk w6 w.heap.size 37 cs := hS0.grown hg6 (fun h => hne (Option.some.inj h))
            have HT5 := Lib.hid ht5
            have HB6 : Hid (Below w.heap.size w w6) := Lib.hid (HB5.out.grown hg6 HB5.out.size (fun k hk => by have : s2 = k := Option.some.inj hk; omega))
            clear hown6 hg6 ht5 hS0
            refine hK.out _ _ (fun _ => hS1) ?_
            clear hK K hS1
            try simp only [Act.put]
            refine wpAnyG_one (i := 5) (o := ⟨some 5, _, _, _, _, _⟩) (by kernel_rfl) rfl (fun K hK => ?_)
            go_simp
            refine hK.out _ _ (fun h => absurd h (by decide)) ?_
            clear hK K
            try simp only [Act.put]
            refine wpAnyG_done (by kernel_rfl) ?_ _
            obtain ⟨N, hN⟩ : ∃ N, N = 6 + c.bn := ⟨_, rfl⟩
            rw [← hN] at HT5 RT RY ⊢
            clear HTU HLw HK2 hi hz0 hz1 hz2 H15 HL
            go_wp2_with fail
            go_loopw [6] (fun v6 wr => ∃ (j : Nat), j ≤ N ∧ v6 = .int .i64 j ∧ Hid (∀ i, i < j → ((c.ts ++ L).getD i ⟨#[]⟩).size ≤ 256) ∧ Hid (Below w6.heap.size w6 wr)) (fun i _ => N - (intOf i).toNat)
            case atStart => exact ⟨0, by omega, rfl, Lib.hid (fun i hi => absurd hi (Nat.not_lt_zero _)), Lib.hid (Below.refl _ _)⟩
            case round =>
              obtain ⟨j, hj, rfl, hall, hbw⟩ := hrel
              have HBr := Lib.hid (HB6.out.trans (hbw.out.mono HB6.out.size))
              by_cases hlt : j < N
              · have hjz : (j : Int) < N := by omega
                have hd1 : decide ((j : Int) < (N : Int)) = true := decide_eq_true hjz
                obtain ⟨b, o, rfl, hbl, hcell⟩ := (HT5.out.below hbw.out).cell hlt
                have HX : Hid (∀ x, (c.ts ++ L).getD j ⟨#[]⟩ = x → (256 < x.size → q = false) ∧ (x.size ≤ 256 → ∀ i, i < j + 1 → ((c.ts ++ L).getD i ⟨#[]⟩).size ≤ 256)) := Lib.hid fun x hx => ⟨fun h => RT.out j hlt (by rw [hx]; exact h), fun h i hi => by
                  rcases Nat.lt_or_ge i j with h1 | h1
                  · exact hall.out i h1
                  · obtain rfl : i = j := by omega
                    rw [hx]
                    exact h⟩
                generalize hx : (c.ts ++ L).getD j ⟨#[]⟩ = x at hcell
                have HXX := Lib.hid (HX.out x hx)
                clear hx HX hall
                by_cases h1 : 256 < x.size
                · have h1z : (256 : Int) < x.size := by omega
                  go_wp2_with fail
                  go_ret
                  exact ⟨by rw [HXX.out.1 h1]; rfl, HBr.out⟩
                · have hd2 : decide ((256 : Int) < x.size) = false := decide_eq_false (by omega)
                  have HFIT := Lib.hid (HXX.out.2 (by omega))
                  go_wp2_with fail
                  go_roundw
                  case rel => exact ⟨j + 1, by omega, by go_num, HFIT, hbw⟩
                  case measure => simp [intOf]; omega
              · have hjb : j = N := by omega
                have HQ : Hid (q = true) := Lib.hid (RY.out (by omega) HFA.out (by rw [← hjb]; exact hall.out))
                have hd0 : decide ((j : Int) < (N : Int)) = false := decide_eq_false (by omega)
                clear hjb
                go_wp2_with fail
                go_ret
                exact ⟨by rw [HQ.out]; rfl, HBr.out⟩
end Go.Proofs.YtkdncnhjlgidnaaDoor
