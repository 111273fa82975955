/- What is proved here: 'CmdEnds' returns true for any command, any place and any byte, whatever the memory in which it is called, and nothing that was there has changed. -/
import Derived.Test.YtjoifbfnkjbkhaaDoorCFew
import Derived.Test.YtjoifbfnkjbkhaaDoorCAs
import Derived.Great.BuildSlice
namespace Go.Proofs.YtjoifbfnkjbkhaaDoor
open Go Go.RowKit Go.Maps

theorem info_cmd2 : (Tryd.prog.info? 26).map (fun i => (i.size, i.zero)) = some (18, some (.agg CM.zero.cells)) := by kernel_rfl
set_option maxRecDepth 100000 in
theorem fill_one (c : CM) : Instr.fill (fun i => some (i * 18, 18)) ((Array.range (1 * 18)).map (fun x => (Value.agg CM.zero.cells).cells[x % (Value.agg CM.zero.cells).cells.size]!)) [(0, .agg c.cells)] = some c.cells := by kernel_rfl
theorem build_one {ops : Array Oper} {rest : List Oper} {o : Oper} {a : Act} {w : World} {Q : Exit → Act → World → Prop} (hg : o.guard = none) (x : Operand) (ho : o.op = .buildSlice 28 1 #[(0, x)]) (c : CM) (cs : Array Value) (hcs : cs = c.cells) (hx : a.eval x = .agg cs)
    (h : wpList Tryd.prog ops Q rest (a.put o.dst (.slice (some ⟨w.heap.size, 0, none⟩) 1 1)) (w.alloc (.cells cs 26))) : wpList Tryd.prog ops Q (o :: rest) a w := by
  obtain ⟨ie, hie, hi⟩ := Option.map_eq_some_iff.1 info_cmd2
  simp only [Prod.mk.injEq] at hi
  refine wpList_buildSlice hg _ 26 1 #[(0, x)] ho cs ie (.agg CM.zero.cells) Tryd.underlying28 hie hi.2 (by rw [hi.1]; decide) (by rw [hi.1]; decide) ?_ h
  rw [hi.1]
  have e : (#[(0, x)].map fun (i, x) => (i, a.eval x) : Array (Nat × Value)).toList = [(0, .agg c.cells)] := by simp [hx, hcs]
  rw [e, hcs]
  exact fill_one c

theorem Rd.take {w : World} {B : Nat} {k : IntKind} {A : Option Addr} {n c : Nat} {xs : List Int} (h : Rd w B k A n c xs) {m : Nat} (hm : m ≤ n) : Rd w B k A m c (xs.take m) :=
  ⟨by rw [List.length_take, h.len]; omega, by have := h.cap; omega, h.max, fun e => by have := h.nil e; omega, fun j u hu => by
    rw [List.getElem?_take] at hu
    split at hu
    · exact h.place j u hu
    · cases hu⟩
/-- A command stored in a block of its own. -/
theorem boxed_row (w : World) (cs : Array Value) : Blk ((w.alloc (.cells CM.zero.cells 26)).setRow w.heap.size cs) w.heap.size 26 cs ∧ Below w.heap.size w ((w.alloc (.cells CM.zero.cells 26)).setRow w.heap.size cs) :=
  ⟨setRow_heap _ _ _ cs _ _ (heap_alloc_new w (.cells CM.zero.cells 26)), below_setRow ((Below.refl _ _).alloc (Nat.le_refl _) _) (Nat.le_refl _) _⟩
theorem CM.Good.len {c : CM} {L : List ByteArray} (h : c.Good L) (hl : L.length = c.bn) : (c.bytes L).length ≤ 6000 := by
  rw [← c.e3_all L rfl]
  exact h.len3 (by rw [hl]; exact h.few) _
theorem WrapsC.iface {w : World} {e : Value} {n : Int} (h : WrapsC w e n) : ∃ u x, e = .iface u x := by
  rcases h with ⟨f, a, h, _⟩ | ⟨f, s, h, _⟩
  · exact ⟨_, _, h⟩
  · exact ⟨_, _, h⟩
theorem zero_info : (Tryd.prog.info? 26).map (·.size) = some CM.zero.cells.size := CM.zero.info

set_option maxHeartbeats 6400000 in
set_option maxRecDepth 100000 in
theorem ends_any (c : CM) (L : List ByteArray) (cut more : Int) (w : World) (hE : ErrType w) (hL : TRd w w.heap.size c.bA c.bn c.bc L) (hf : c.Fits L) (hcut : I64 cut) (hm : 0 ≤ more ∧ more < 256) :
    Calls Tryd.prog 6 #[.agg c.cells, .int .i64 cut, .int .u8 more] w fun e w' => e = .returned (.bool true) ∧ Below w.heap.size w w' := by
  obtain ⟨cs, hcs⟩ : ∃ cs, cs = c.cells := ⟨_, rfl⟩
  have i1 := c.info; have o1 := c.ones; have s1 := c.size
  rw [← hcs] at i1 o1 s1
  rw [← hcs]
  have I1 := Lib.hid i1; have O1 := Lib.hid o1; have S1 := Lib.hid s1; have HCS := Lib.hid hcs
  have HLL := Lib.hid hL; have HE := Lib.hid hE; have HF := Lib.hid hf
  unfold I64 at hcut
  clear i1 o1 s1 hcs hL hE hf
  go_enter Tryd.func6, Tryd.ntmps6
  go_upto_region 1 with fail
  have hb1 : Blk (w.alloc (.cells cs 26)) w.heap.size 26 cs := Blk.fresh _ _ _
  have hbel : Below w.heap.size w (w.alloc (.cells cs 26)) := (Below.refl _ _).alloc (Nat.le_refl _) _
  generalize w.alloc (.cells cs 26) = W at *
  have HB1 := Lib.hid hb1; have HBEL := Lib.hid hbel
  clear hb1 hbel
  go_wp2_with (first
    | (refine wpList_load_row (o := ⟨some 13, .load 26 (.tmp 3), _, _, _, _⟩) rfl 26 (.tmp 3) rfl w.heap.size rfl 26 cs (0, 0) _ HB1.out Tryd.underlying26 rfl I1.out ?_)
    | (refine build_one (o := ⟨some 14, .buildSlice 28 1 #[(0, .tmp 13)], _, _, _, _⟩) rfl (.tmp 13) rfl c cs HCS.out rfl ?_))
  have hbk : Blk (W.alloc (.cells cs 26)) W.heap.size 26 cs := Blk.fresh _ _ _
  have hbel : Below w.heap.size w (W.alloc (.cells cs 26)) := HBEL.out.alloc HBEL.out.size _
  have hb11 : Blk (W.alloc (.cells cs 26)) w.heap.size 26 cs := HB1.out.alloc _
  generalize W.alloc (.cells cs 26) = W1 at *
  have HBK := Lib.hid hbk; have HBEL1 := Lib.hid hbel; have HB11 := Lib.hid hb11
  clear hbk hbel hb11
  refine (Few_any W.heap.size c L W1 (by rw [← HCS.out]; exact HBK.out) ((HLL.out.below HBEL1.out).more HBEL1.out.size) HF.out).mono ?_
  rintro e w1 ⟨b, rfl, hbn, hbl⟩
  have HB2 := Lib.hid (HB11.out.below hbl HB11.out.lt)
  have HBEL2 := Lib.hid (HBEL1.out.trans (hbl.mono HBEL1.out.size))
  clear hbl HBK HB11
  rcases b with _ | _
  · go_wp2_with (go_at_call 8; refine (awake_any _).mono ?_; rintro e w2 ⟨rfl, hb2⟩; have HB := Lib.hid (HBEL2.out.trans (hb2.mono HBEL2.out.size)); clear hb2)
    go_ret
    exact ⟨rfl, HB.out⟩
  · have hbn := hbn rfl
    have HL1 := Lib.hid ((HLL.out.below HBEL2.out).more HBEL2.out.size)
    by_cases hr : c.right L = true
    · have HW : Hid (Calls Tryd.prog 9 #[.agg cs] w1 fun e w' => ∃ (A : Option Addr) (n d : Nat), e = .returned (.tuple #[.slice A n d, .nilIface]) ∧ Rd w' w'.heap.size .u8 A n d (c.bytes L) ∧ Below w1.heap.size w1 w') := Lib.hid (by rw [HCS.out]; exact Write_ok c L w1 HL1.out hr)
      have HRT := Lib.hid hr
      clear hr
      go_upto_region 4 with (first
        | (refine wpList_load_row (o := ⟨some 19, .load 26 (.tmp 3), _, _, _, _⟩) rfl 26 (.tmp 3) rfl w.heap.size rfl 26 cs (0, 0) _ HB2.out Tryd.underlying26 rfl I1.out ?_)
        | (go_at_call 9; refine HW.out.mono ?_; rintro e w2 ⟨A, n, d, rfl, hrd, hb2⟩
           have HRD := Lib.hid hrd; have HBEL3 := Lib.hid (HBEL2.out.trans (hb2.mono HBEL2.out.size)); clear hrd hb2))
      have hn6 : n ≤ 6000 := by rw [← HRD.out.len]; exact (CM.good HRT.out).len HL1.out.len
      have hnc := HRD.out.cap
      have hdm := HRD.out.max
      by_cases hneg : cut < 0
      · go_wp2_with (go_at_call 8; refine (awake_any _).mono ?_; rintro e w3 ⟨rfl, hb3⟩; have HB := Lib.hid (HBEL3.out.trans (hb3.mono HBEL3.out.size)); clear hb3)
        go_ret
        exact ⟨rfl, HB.out⟩
      · by_cases hge : (n : Int) ≤ cut
        · go_wp2_with (go_at_call 8; refine (awake_any _).mono ?_; rintro e w3 ⟨rfl, hb3⟩; have HB := Lib.hid (HBEL3.out.trans (hb3.mono HBEL3.out.size)); clear hb3)
          go_ret
          exact ⟨rfl, HB.out⟩
        · obtain ⟨k, rfl⟩ : ∃ k : Nat, cut = (k : Int) := ⟨cut.toNat, by omega⟩
          have hkn : k < n := by omega
          obtain ⟨b0, o0, rfl, _, _⟩ := HRD.out.cell (j := 0) (by omega)
          have hdm2 : d ≤ 9223372036854775807 := by unfold maxLen at hdm; omega
          have hkd : ¬ (d : Int) < (k : Int) := by omega
          have HEB : Hid (∀ x ∈ c.bytes L, 0 ≤ x ∧ x < 256) := Lib.hid (CM.bytes_ok c L)
          have hcut3 := read_cut HRT.out HL1.out.len (k := k) (by rw [HRD.out.len]; exact hkn)
          have hmore2 := read_more HRT.out HL1.out.len more
          have HC3 := Lib.hid hcut3; have HM2 := Lib.hid hmore2
          clear hcut3 hmore2
          go_wp2_with fail
          refine (Read_any (some ⟨b0, o0, none⟩) k d _ w2 (HRD.out.take (by omega)) (fun x hx => HEB.out x (List.mem_of_mem_take hx)) (by omega)).mono ?_
          rintro e w3 ⟨c1, er1, rfl, hb3, hp1⟩
          obtain ⟨rfl, hw1⟩ : c1 = CM.zero ∧ WrapsC w3 er1 3 := by
            rcases hp1 with ⟨_, h1, h2⟩ | ⟨h0, _⟩
            · have hc := HC3.out
              unfold noCmd at hc
              rw [hc] at h2
              exact ⟨h1, h2⟩
            · have hc := HC3.out
              unfold noCmd at hc
              rw [hc] at h0
              cases h0
          obtain ⟨u1, x1, rfl⟩ := hw1.iface
          have HW1 := Lib.hid hw1
          have HBEL4 := Lib.hid (HBEL3.out.trans (hb3.mono HBEL3.out.size))
          have HRD3 := Lib.hid (HRD.out.below hb3)
          have hs3 := hb3.size
          obtain ⟨cz, hcz⟩ : ∃ cz, cz = CM.zero.cells := ⟨_, rfl⟩
          have HCZ := Lib.hid hcz
          clear hp1 hw1 hb3
          rw [← hcz]
          clear hcz
          obtain ⟨hx1, hx2⟩ := boxed_row w3 cz
          go_upto_region 7 with (refine wpList_store_row (o := ⟨none, .store 26 (.tmp 9) (.tmp 41), _, _, _, _⟩) rfl 26 (.tmp 9) (.tmp 41) rfl w3.heap.size cz rfl rfl 26 CM.zero.cells (heap_alloc_new w3 _) (by rw [HCZ.out]; exact zero_info) (by rw [HCZ.out]) (by rw [HCZ.out]; exact CM.zero.ones) ?_)
          change Code.wp _ _ _ _ ((w3.alloc (.cells CM.zero.cells 26)).setRow w3.heap.size cz)
          generalize (w3.alloc (.cells CM.zero.cells 26)).setRow w3.heap.size cz = w4 at *
          have HBEL5 := Lib.hid (HBEL4.out.trans (hx2.mono HBEL4.out.size))
          have HRD4 := Lib.hid ((HRD3.out.below (hx2.mono hs3)).more (Nat.le_trans hs3 hx2.size))
          have HW4 := Lib.hid (HW1.out.below hx2)
          clear hx1 hx2
          obtain ⟨i0, hi, hz0, hz1, hz2⟩ := info_parts info_u8
          have hlit : (w4.alloc (.cells #[] 5)).ownsRow w4.heap.size 5 1 (.slice (some ⟨w4.heap.size, 0, none⟩) 0 0) 0 [] := World.ownsRow_lit (e := 5) (size := 1) w4 #[] 0 (Nat.le_refl _) (by decide) rfl
          have HLIT := Lib.hid hlit
          clear hlit
          have hlen := HRD4.out.len
          go_wp2_with (first
            | (at_builtin
               refine wpList_append_src rfl _ _ 30 rfl w4.heap.size 5 i0 _ 1 1 Tryd.underlying30 hi hz0 hz1 hz2 rfl (by omega) _ 0 [] rfl HLIT.out (some ⟨b0, o0, none⟩) n d ((c.bytes L).map (Value.int .u8)) rfl (by simpa using hlen) HRD4.out.nil (HRD4.out.alloc (Nat.le_refl _) _).news (ints_oneCell _ _) (by unfold maxLen; omega) (by omega) (by simp) ?_
               intro v5 w5 hown5 hg5
               rw [Nat.zero_add, List.nil_append] at hown5
               have HO5 := Lib.hid hown5
               have HB5 : Hid (Below w4.heap.size w4 w5) := Lib.hid (((Below.refl _ _).alloc (Nat.le_refl _) _).grown hg5 (by simp) (fun k hk => (HLIT.out.lt k hk).1))
               clear hg5 hown5)
            | (at_builtin
               refine wpList_append_src rfl _ _ 30 rfl w4.heap.size 5 i0 _ 1 1 Tryd.underlying30 hi hz0 hz1 hz2 rfl (by omega) _ n ((c.bytes L).map (Value.int .u8)) rfl (HO5.out.alloc _) (some ⟨w5.heap.size, 0, none⟩) 1 1 [.int .u8 more] rfl rfl (fun h => by cases h) (news_new _ _ _) (one_cell _ _) (by unfold maxLen; omega) (by omega) (by have := HB5.out.size; simp; omega) ?_
               intro v6 w6 hown6 hg6
               have HO6 := Lib.hid hown6
               have HB6 : Hid (Below w4.heap.size w4 w6) := Lib.hid ((HB5.out.alloc HB5.out.size _).grown hg6 (by have := HB5.out.size; simp; omega) (fun k hk => (HO5.out.lt k hk).1))
               clear hg6 hown6))
          have ho6 := HO6.out
          rw [show (c.bytes L).map (Value.int .u8) ++ [.int .u8 more] = (c.bytes L ++ [more]).map (Value.int .u8) by simp] at ho6
          obtain ⟨A6, n6, d6, rfl, hr6⟩ := Rd.of_own' ho6
          have hl6 := hr6.len
          rw [List.length_append, hlen, List.length_singleton] at hl6
          have HR6 := Lib.hid hr6
          have HBEL6 := Lib.hid (HBEL5.out.trans (HB6.out.mono HBEL5.out.size))
          have HW6 := Lib.hid (HW4.out.below HB6.out)
          clear ho6 hr6 HO6 HO5 HB5 HB6 HLIT HRD4 HRD3
          refine (Read_any A6 n6 d6 _ w6 HR6.out (by intro x hx; rcases List.mem_append.1 hx with hx | hx; exact HEB.out x hx; rw [List.mem_singleton.1 hx]; exact hm) (by omega)).mono ?_
          rintro e w7 ⟨c2, er2, rfl, hb7, hp2⟩
          obtain ⟨rfl, hw2⟩ : c2 = CM.zero ∧ WrapsC w7 er2 2 := by
            have hc := HM2.out
            unfold noCmd at hc
            rcases hp2 with ⟨_, h1, h2⟩ | ⟨h0, _⟩
            · rw [hc] at h2
              exact ⟨h1, h2⟩
            · rw [hc] at h0
              cases h0
          obtain ⟨u2, x2, rfl⟩ := hw2.iface
          have HW2 := Lib.hid hw2
          have HW1' := Lib.hid (HW6.out.below hb7)
          have HBEL7 := Lib.hid (HBEL6.out.trans (hb7.mono HBEL6.out.size))
          clear hp2 hw2 hb7
          rw [← HCZ.out]
          obtain ⟨hx1, hx2⟩ := boxed_row w7 cz
          go_upto_region 8 with (refine wpList_store_row (o := ⟨none, .store 26 (.tmp 11) (.tmp 51), _, _, _, _⟩) rfl 26 (.tmp 11) (.tmp 51) rfl w7.heap.size cz rfl rfl 26 CM.zero.cells (heap_alloc_new w7 _) (by rw [HCZ.out]; exact zero_info) (by rw [HCZ.out]) (by rw [HCZ.out]; exact CM.zero.ones) ?_)
          change Code.wp _ _ _ _ ((w7.alloc (.cells CM.zero.cells 26)).setRow w7.heap.size cz)
          generalize (w7.alloc (.cells CM.zero.cells 26)).setRow w7.heap.size cz = w8 at *
          have HBEL8 := Lib.hid (HBEL7.out.trans (hx2.mono HBEL7.out.size))
          have HW18 := Lib.hid (HW1'.out.below hx2)
          have HW28 := Lib.hid (HW2.out.below hx2)
          clear hx1 hx2
          go_wp2_with fail
          refine (Code_c 3 u1 x1 w8 (HE.out.below (HBEL8.out.mono (Nat.le_refl _))) HW18.out).mono ?_
          rintro e w9 ⟨rfl, hb9⟩
          have HBEL9 := Lib.hid (HBEL8.out.trans (hb9.mono HBEL8.out.size))
          have HW29 := Lib.hid (HW28.out.below hb9)
          clear hb9
          go_wp2_with fail
          refine (Code_c 2 u2 x2 w9 (HE.out.below (HBEL9.out.mono (Nat.le_refl _))) HW29.out).mono ?_
          rintro e w10 ⟨rfl, hb10⟩
          have HBEL10 := Lib.hid (HBEL9.out.trans (hb10.mono HBEL9.out.size))
          clear hb10
          go_wp2_with fail
          refine (awake_any w10).mono ?_
          rintro e w11 ⟨rfl, hb11⟩
          have HBEL11 := Lib.hid (HBEL10.out.trans (hb11.mono HBEL10.out.size))
          clear hb11
          go_wp2_with fail
          go_ret
          exact ⟨rfl, HBEL11.out⟩
    · have hrf := Bool.eq_false_iff.2 hr
      have HW : Hid (Calls Tryd.prog 9 #[.agg cs] w1 fun e w' => ∃ (f : Nat) (s : ByteArray), e = .returned (.tuple #[.slice none 0 0, .iface 70 (.pointer (some ⟨f, 0, none⟩))]) ∧ Blk w' f 72 #[.string s, .int .i64 1] ∧ Below w1.heap.size w1 w') := Lib.hid (by rw [HCS.out]; exact Write_no c L w1 HL1.out (by omega) hrf)
      clear hr hrf
      go_wp2_with (first
        | (go_at_call 9; refine HW.out.mono ?_; rintro e w2 ⟨f, st, rfl, _, hb2⟩
           have HBEL3 := Lib.hid (HBEL2.out.trans (hb2.mono HBEL2.out.size)); clear hb2)
        | (go_at_call 8; refine (awake_any _).mono ?_; rintro e w3 ⟨rfl, hb3⟩; have HB := Lib.hid (HBEL3.out.trans (hb3.mono HBEL3.out.size)); clear hb3)
        | (refine wpList_load_row (o := ⟨some 19, .load 26 (.tmp 3), _, _, _, _⟩) rfl 26 (.tmp 3) rfl w.heap.size rfl 26 cs (0, 0) _ HB2.out Tryd.underlying26 rfl I1.out ?_))
      go_ret
      exact ⟨rfl, HB.out⟩
end Go.Proofs.YtjoifbfnkjbkhaaDoor
