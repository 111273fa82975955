/- What is proved here: how an answer is read, compared and written anew, and what the law on answers returns. -/
import Derived.Test.YtkdncnhjlgidnaaDoorATook
import Derived.Test.YtkdncnhjlgidnaaDoorCOut
import Derived.Test.YtkdncnhjlgidnaaDoorCOne
import Derived.Test.YtkdncnhjlgidnaaDoorCRight10
import Derived.Test.YtkdncnhjlgidnaaDoorCArgs
import Derived.Test.YtkdncnhjlgidnaaDoorAWrite10
import Derived.Test.YtkdncnhjlgidnaaDoorARight10
import Derived.Test.YtkdncnhjlgidnaaDoorCWrites
namespace Go.Proofs.YtkdncnhjlgidnaaDoor
open Go Go.RowKit

theorem tkR_ok {xs : List Int} {p why : Nat} (hp : p ≤ xs.length) (hw : Ok3 why) : (tkR xs p why).2.1 ≤ xs.length ∧ Ok3 (tkR xs p why).2.2 := by
  have h1 : (goNum xs p why).2.1 ≤ xs.length ∧ Ok3 (goNum xs p why).2.2 := ⟨goNum_le hp, goNum_ok3 hw⟩
  have h2 : (goNum xs (goNum xs p why).2.1 (goNum xs p why).2.2).2.1 ≤ xs.length ∧ Ok3 (goNum xs (goNum xs p why).2.1 (goNum xs p why).2.2).2.2 := ⟨goNum_le h1.1, goNum_ok3 h1.2⟩
  have h3 := goText_ok3 (most := 256) h2.1 h2.2
  have h4 := goText_ok3 (most := 256) h3.2 h3.1
  have h5 := goText_ok3 (most := 256) h4.2 h4.1
  exact ⟨h5.2, h5.1⟩
/-- So many messages. -/
def rdK (xs : List Int) (p why : Nat) : Nat → List TK × Nat × Nat
  | 0 => ([], p, why)
  | k + 1 => ((rdK xs p why k).1 ++ [(tkR xs (rdK xs p why k).2.1 (rdK xs p why k).2.2).1], (tkR xs (rdK xs p why k).2.1 (rdK xs p why k).2.2).2)
theorem rdK_len (xs : List Int) (p why : Nat) : ∀ k, (rdK xs p why k).1.length = k
  | 0 => rfl
  | k + 1 => by rw [rdK, List.length_append, rdK_len xs p why k]; rfl
theorem rdK_ok {xs : List Int} {p why : Nat} (hp : p ≤ xs.length) (hw : Ok3 why) : ∀ k, (rdK xs p why k).2.1 ≤ xs.length ∧ Ok3 (rdK xs p why k).2.2
  | 0 => ⟨hp, hw⟩
  | k + 1 => by
    have h := rdK_ok hp hw k
    exact tkR_ok h.1 h.2
theorem goNums_ok {xs : List Int} {p why : Nat} {most : Int} (hp : p ≤ xs.length) (hw : Ok3 why) : (goNums xs p why most).2.1 ≤ xs.length ∧ Ok3 (goNums xs p why most).2.2 := by
  unfold goNums
  by_cases h : why = 0
  · rw [if_pos h]
    rcases numsR_is xs p most hp with ⟨bs, us, e, h1, h2⟩ | ⟨us, er, e, he⟩
    · rw [e, if_pos rfl]
      exact ⟨h2, .inl rfl⟩
    · rw [e, if_neg (by show ¬ er = 0; omega)]
      exact ⟨hp, .inr he⟩
  · rw [if_neg h]
    exact ⟨hp, hw⟩
/-- What is read of bytes as an answer. -/
structure ARaw where
  cd : Nat
  ids : List Int
  many : Nat
  tks : List TK
  p : Nat
  why : Nat
def araw (xs : List Int) : ARaw :=
  let c := goNum xs 0 0
  let i := goNums xs c.2.1 c.2.2 10
  let m := goNum xs i.2.1 i.2.2
  let t := rdK xs m.2.1 m.2.2 (min m.1 10)
  ⟨c.1, i.1, m.1, t.1, t.2.1, t.2.2⟩
theorem araw_is {xs I : List Int} {cd p1 y1 p2 y2 mv p3 y3 k : Nat} (h1 : goNum xs 0 0 = (cd, p1, y1)) (h2 : goNums xs p1 y1 10 = (I, p2, y2)) (h3 : goNum xs p2 y2 = (mv, p3, y3)) (hk : k = min mv 10) :
    araw xs = ⟨cd, I, mv, (rdK xs p3 y3 k).1, (rdK xs p3 y3 k).2.1, (rdK xs p3 y3 k).2.2⟩ := by
  unfold araw
  simp only [h1, h2, h3, ← hk]
/-- Why bytes are no answer; 0 if they are one. -/
def whyA (xs : List Int) (p why : Nat) (cd : Int) (I : List Int) (T : List TK) : Nat :=
  if why ≠ 0 then why else if p < xs.length then 2 else if aRight cd I T && decide (aBytes cd I T = xs) then 0 else 2
theorem aBytes_ok (cd : Int) (I : List Int) (T : List TK) : ∀ x ∈ aBytes cd I T, 0 ≤ x ∧ x < 256 := by
  have hT : ∀ s : ByteArray, ∀ x ∈ encT (nums s), 0 ≤ x ∧ x < 256 := fun s x hx => by
    rcases List.mem_append.1 hx with h | h
    · exact enc_bytes _ x h
    · exact nums_bytes s x h
  intro x hx
  unfold aBytes aHead at hx
  rcases List.mem_append.1 hx with hx | hx
  · rcases List.mem_append.1 hx with hx | hx
    · rcases List.mem_append.1 hx with hx | hx
      · exact enc_bytes _ x hx
      · rcases List.mem_append.1 hx with hx | hx
        · exact enc_bytes _ x hx
        · exact encAll_bytes I x hx
    · exact enc_bytes _ x hx
  · obtain ⟨t, _, hx⟩ := List.mem_flatMap.1 hx
    unfold tkB at hx
    rcases List.mem_append.1 hx with hx | hx
    · rcases List.mem_append.1 hx with hx | hx
      · rcases List.mem_append.1 hx with hx | hx
        · rcases List.mem_append.1 hx with hx | hx
          · exact enc_bytes _ x hx
          · exact enc_bytes _ x hx
        · exact hT _ x hx
      · exact hT _ x hx
    · exact hT _ x hx
/-- What exactly answers. -/
theorem aexact_any (A : Option Addr) (n d : Nat) (xs : List Int) (g : Nat) (A2 : Option Addr) (d2 : Nat) (p why : Nat) (I : List Int) (T : List TK) (c : AM) (w : World) (hb : Rd w w.heap.size .u8 A n d xs) (hr : Rdr w g A2 n d2 xs p why) (hn : n ≤ 1000000) (hp : p ≤ n) (hw : Ok3 why) (hI : Rd w w.heap.size .i64 c.iA c.iN c.iC I) (hT : KRd w w.heap.size c.tA c.tN c.tC T) (hbx : ∀ x ∈ xs, 0 ≤ x ∧ x < 256) :
    Calls Tryd.prog 58 #[.slice A n d, .pointer (some ⟨g, 0, none⟩), .agg c.cells, .func (.func 19) #[] #[]] w fun e w' =>
      ∃ (a : AM) (er : Value), e = .returned (.tuple #[.agg a.cells, er]) ∧ Below w.heap.size w w' ∧ ((whyA xs p why c.cd I T ≠ 0 ∧ a = AM.zero ∧ WrapsC w' er (whyA xs p why c.cd I T)) ∨ (whyA xs p why c.cd I T = 0 ∧ a = c ∧ er = .nilIface)) := by
  have hlen := hb.len
  have bad : ∀ {q : Int} {k : Nat}, k ≠ 0 → q = k → ∀ e w', (∃ er, e = Ending.returned (.tuple #[.agg AM.zero.cells, er]) ∧ WrapsC w' er q ∧ Below w.heap.size w w') →
      ∃ (a : AM) (er : Value), e = .returned (.tuple #[.agg a.cells, er]) ∧ Below w.heap.size w w' ∧ ((k ≠ 0 ∧ a = AM.zero ∧ WrapsC w' er k) ∨ (k = 0 ∧ a = c ∧ er = .nilIface)) :=
    fun hk hq e w' ⟨er, he, hwr, hbl⟩ => ⟨AM.zero, er, he, hbl, .inl ⟨hk, rfl, by rw [← hq]; exact hwr⟩⟩
  unfold whyA
  by_cases h0 : why = 0
  · have hno : ¬ (why ≠ 0) := by omega
    simp only [if_neg hno]
    subst h0
    by_cases hpl : p < xs.length
    · simp only [if_pos hpl]
      exact (aexact_more A n d xs g A2 d2 p c w hb hr hn (by omega)).mono (bad (by omega) rfl)
    · simp only [if_neg hpl]
      obtain rfl : p = n := by omega
      by_cases hyes : aRight c.cd I T = true
      · by_cases heq : aBytes c.cd I T = xs
        · rw [hyes, decide_eq_true heq]
          refine (aexact_ok A p d xs g A2 d2 I T c w hb hr hn hI hT hyes hbx heq).mono fun e w' ⟨he, hbl⟩ => ⟨c, .nilIface, he, hbl, .inr ⟨rfl, rfl, rfl⟩⟩
        · rw [hyes, decide_eq_false heq]
          exact (aexact_other A p d xs g A2 d2 I T c w hb hr hn hI hT hyes hbx (aBytes_ok _ _ _) heq).mono (bad (by simp) rfl)
      · have hyes' := Bool.eq_false_iff.2 hyes
        rw [hyes']
        exact (aexact_wrong A p d xs g A2 d2 I T c w hb hr hn hI hT hyes').mono (bad (by simp) rfl)
  · simp only [if_pos h0]
    have hw2 : why = 2 ∨ why = 3 := by rcases hw with h | h | h <;> omega
    exact (aexact_fault A n d xs g A2 d2 p why c w hb hr hn hw2).mono (bad h0 rfl)
end Go.Proofs.YtkdncnhjlgidnaaDoor

namespace Go.Proofs.YtkdncnhjlgidnaaDoor
open Go Go.RowKit Go.Maps

theorem info_tkz : (Tryd.prog.info? 57).map (fun i => (i.zero, i.size, i.bytes)) = some (some (.agg TK.zero.cells), 5, 64) := by kernel_rfl
theorem info_parts5 : ∃ i, Tryd.prog.info? 57 = some i ∧ i.zero = some (.agg TK.zero.cells) ∧ i.size = 5 ∧ i.bytes = 64 := by
  obtain ⟨i, h1, h2⟩ := Option.map_eq_some_iff.1 info_tkz
  simp only [Prod.mk.injEq] at h2
  exact ⟨i, h1, h2.1, h2.2.1, h2.2.2⟩
theorem WrapsC.ans {w : World} {q i : Nat} {v : Value} {cs : Array Value} {er : Value} {n : Int} (h : WrapsC w er n) (hq : Blk w q 55 cs) : WrapsC (w.setCell ⟨q, i, none⟩ v) er n := by
  rcases h with ⟨f, a, h, hf⟩ | ⟨f, s, h, hf⟩
  · refine .inl ⟨f, a, h, hf.other (p := ⟨q, i, none⟩) ?_ v⟩
    rintro rfl
    have := hf.symm.trans hq
    simp at this
  · refine .inr ⟨f, s, h, hf.other (p := ⟨q, i, none⟩) ?_ v⟩
    rintro rfl
    have := hf.symm.trans hq
    simp at this
/-- What ReadAnswer answers. -/
def APost (R : ARaw) (xs : List Int) (a : AM) (er : Value) (w : World) : Prop :=
  (whyA xs R.p R.why R.cd R.ids R.tks ≠ 0 ∧ a = AM.zero ∧ WrapsC w er (whyA xs R.p R.why R.cd R.ids R.tks)) ∨
  (whyA xs R.p R.why R.cd R.ids R.tks = 0 ∧ er = .nilIface ∧ a.cd = R.cd ∧ Rd w w.heap.size .i64 a.iA a.iN a.iC R.ids ∧ KRd w w.heap.size a.tA a.tN a.tC R.tks)

set_option maxHeartbeats 12800000 in
set_option maxRecDepth 100000 in
theorem ReadAnswer_any (A : Option Addr) (n d : Nat) (xs : List Int) (w : World) (h : Rd w w.heap.size .u8 A n d xs) (hx : ∀ x ∈ xs, 0 ≤ x ∧ x < 256) (hn : n ≤ 1000000) (R : ARaw) (hR : araw xs = R) :
    Calls Tryd.prog 23 #[.slice A n d] w fun e w' => ∃ (a : AM) (er : Value), e = .returned (.tuple #[.agg a.cells, er]) ∧ Below w.heap.size w w' ∧ APost R xs a er w' := by
  have hlen := h.len
  subst hlen
  have HX := Lib.hid hx
  have HRD := Lib.hid h
  have HR := Lib.hid hR
  clear hx h hR
  obtain ⟨i0, hi, hz0, hz1, hz2⟩ := info_parts5
  go_enter Tryd.func23, Tryd.ntmps23
  go_upto_region 2 with fail
  have hb2 : Blk ((w.alloc (.cells AM.zero.cells 55)).alloc (.cells AM.zero.cells 55)) w.heap.size 55 AM.zero.cells := (Blk.fresh w _ _).alloc _
  have hb4 : Blk ((w.alloc (.cells AM.zero.cells 55)).alloc (.cells AM.zero.cells 55)) (w.heap.size + 1) 55 AM.zero.cells := by simpa using Blk.fresh (w.alloc (.cells AM.zero.cells 55)) 55 AM.zero.cells
  have hbel : Below w.heap.size w ((w.alloc (.cells AM.zero.cells 55)).alloc (.cells AM.zero.cells 55)) := ((Below.refl _ _).alloc (Nat.le_refl _) _).alloc (by simp) _
  have hsW : ((w.alloc (.cells AM.zero.cells 55)).alloc (.cells AM.zero.cells 55)).heap.size = w.heap.size + 2 := by simp
  change Code.wp _ _ _ _ ((w.alloc (.cells AM.zero.cells 55)).alloc (.cells AM.zero.cells 55))
  generalize (w.alloc (.cells AM.zero.cells 55)).alloc (.cells AM.zero.cells 55) = W at *
  have HB2 := Lib.hid hb2; have HB4 := Lib.hid hb4; have HBEL := Lib.hid hbel; have HSW := Lib.hid hsW
  clear hb2 hb4 hbel hsW
  generalize hga : w.heap.size + 1 = ga at *
  have HGA := Lib.hid hga
  clear hga
  go_upto_region 3 with (go_at_call 43; refine (Of_far A _ d xs W ((HRD.out.below HBEL.out).more HBEL.out.size) hn).mono ?_; rintro e w1 ⟨g, A2, d2, rfl, hg, hrd, hb1⟩
                         have HR1 := Lib.hid hrd; have HL1 := Lib.hid hb1; have HG1 : Hid (w.heap.size + 2 ≤ g ∧ g < w1.heap.size) := Lib.hid ⟨by rw [← HSW.out]; exact hg, hrd.1.1.lt⟩
                         clear hg hrd hb1)
  have HLT : Hid (w.heap.size < ga ∧ ga < g ∧ ga < W.heap.size) := Lib.hid (by have := HGA.out; have := HG1.out; have := HSW.out; omega)
  have HA1 := Lib.hid (HB4.out.below HL1.out HB4.out.lt)
  -- the code
  have HN1 := Lib.hid (ReaderNum_any g A2 xs.length d2 xs 0 0 w1 HR1.out.1 (.inl rfl) HX.out hn (Nat.zero_le _))
  have hok1 : (goNum xs 0 0).2.1 ≤ xs.length ∧ Ok3 (goNum xs 0 0).2.2 := ⟨goNum_le (Nat.zero_le _), goNum_ok3 (.inl rfl)⟩
  obtain ⟨T1, hT1⟩ : ∃ T1, goNum xs 0 0 = T1 := ⟨_, rfl⟩
  rw [hT1] at HN1 hok1
  have HT1 := Lib.hid hT1
  clear hT1
  obtain ⟨cd, p1, y1⟩ := T1
  dsimp only at HN1 hok1
  go_upto_region 4 with (go_at_call 44; refine HN1.out.mono ?_; rintro e w2 ⟨rfl, hr, hg⟩
                         have HR2 := Lib.hid (HR1.out.num hr); have HG2 := Lib.hid (Chg.of_grown hg)
                         have hA2 : Blk w2 ga 55 AM.zero.cells := HA1.out.grown hg (by have := HLT.out; intro e; injection e with e; omega)
                         have z0 := hA2.cell 0
                         have f0 := hA2.free 0
                         have HA2 := Lib.hid hA2
                         clear hr hg hA2)
  have hA3 : Blk (w2.setCell ⟨ga, 0, none⟩ (.int .i64 cd)) ga 55 #[.int .i64 cd, .slice none 0 0, .slice none 0 0] := HA2.out.set 0 (.int .i64 cd)
  have hR3 := HR2.out.set (b := ga) (q := 0) (v := .int .i64 cd) HLT.out.2.2 (by have := HLT.out; omega)
  have hC3 : Chg (fun k => k = ga ∨ k = g) w1 (w2.setCell ⟨ga, 0, none⟩ (.int .i64 cd)) := chg_step (Chg.refl _ _) HG2.out
  generalize w2.setCell ⟨ga, 0, none⟩ (.int .i64 cd) = w3 at *
  have HA3 := Lib.hid hA3; have HR3 := Lib.hid hR3; have HC3 := Lib.hid hC3
  clear hA3 hR3 hC3 z0 f0 HA1 HA2 HN1 HR1 HR2 HG2
  -- the numbers
  have HN2 := Lib.hid (ReaderNums_any g A2 xs.length d2 xs p1 y1 w3 HR3.out.1 hok1.2 HX.out hn hok1.1 10)
  have hok2 := goNums_ok (most := 10) hok1.1 hok1.2
  obtain ⟨T2, hT2⟩ : ∃ T2, goNums xs p1 y1 10 = T2 := ⟨_, rfl⟩
  rw [hT2] at HN2 hok2
  have HT2 := Lib.hid hT2
  clear hT2
  obtain ⟨ids, p2, y2⟩ := T2
  dsimp only at HN2 hok2
  go_upto_region 5 with (go_at_call 56; refine HN2.out.mono ?_; rintro e w5 ⟨ri, rfl, hown, hr, hg⟩
                         obtain ⟨iA, iC, rfl, _⟩ := Rd.of_own hown
                         have HI5 := Lib.hid hown
                         have HR5 := Lib.hid (HR3.out.num hr); have HG5 := Lib.hid (Chg.of_grown hg)
                         have hA5 : Blk w5 ga 55 #[.int .i64 cd, .slice none 0 0, .slice none 0 0] := HA3.out.grown hg (by have := HLT.out; intro e; injection e with e; omega)
                         have z1 := hA5.cell 1
                         have f1 := hA5.free 1
                         have HA5 := Lib.hid hA5
                         clear hr hg hA5 hown)
  have hA6 : Blk (w5.setCell ⟨ga, 1, none⟩ (.slice iA ids.length iC)) ga 55 #[.int .i64 cd, .slice iA ids.length iC, .slice none 0 0] := HA5.out.set 1 (.slice iA ids.length iC)
  have hR6 := HR5.out.set (b := ga) (q := 1) (v := .slice iA ids.length iC) HLT.out.2.2 (by have := HLT.out; omega)
  have hI6 := own_chg HI5.out (Chg.set w5 ga 1 (.slice iA ids.length iC)) (fun q hq e => by have := HLT.out; omega)
  have hC6 : Chg (fun k => k = ga ∨ k = g) w1 (w5.setCell ⟨ga, 1, none⟩ (.slice iA ids.length iC)) := chg_step HC3.out HG5.out
  generalize w5.setCell ⟨ga, 1, none⟩ (.slice iA ids.length iC) = w6 at *
  have HA6 := Lib.hid hA6; have HR6 := Lib.hid hR6; have HC6 := Lib.hid hC6; have HI6 := Lib.hid hI6
  clear hA6 hR6 hC6 hI6 z1 f1 HA3 HA5 HN2 HR3 HR5 HG5 HI5 HC3
  -- how many
  have HN3 := Lib.hid (ReaderNum_any g A2 xs.length d2 xs p2 y2 w6 HR6.out.1 hok2.2 HX.out hn hok2.1)
  have hok3 : (goNum xs p2 y2).2.1 ≤ xs.length ∧ Ok3 (goNum xs p2 y2).2.2 := ⟨goNum_le hok2.1, goNum_ok3 hok2.2⟩
  have hlt3 := goNum_lt xs p2 y2
  obtain ⟨T3, hT3⟩ : ∃ T3, goNum xs p2 y2 = T3 := ⟨_, rfl⟩
  rw [hT3] at HN3 hok3 hlt3
  have HT3 := Lib.hid hT3
  clear hT3
  obtain ⟨mv, p3, y3⟩ := T3
  dsimp only at HN3 hok3 hlt3
  obtain ⟨K, hK⟩ : ∃ K, K = min mv 10 := ⟨_, rfl⟩
  have hmin : min (mv : Int) 10 = (K : Int) := by omega
  have hK10 : K ≤ 10 := by omega
  have HKK := Lib.hid hK
  clear hK
  go_wp2_with (go_at_call 44; refine HN3.out.mono ?_; rintro e w4 ⟨rfl, hr, hg⟩
               have HR4 := Lib.hid (HR6.out.num hr); have HG4 := Lib.hid (Chg.of_grown hg)
               have HA4 : Hid (Blk w4 ga 55 #[.int .i64 cd, .slice iA ids.length iC, .slice none 0 0]) := Lib.hid (HA6.out.grown hg (by have := HLT.out; intro e; injection e with e; omega))
               have HI4 := Lib.hid (own_chg HI6.out HG4.out (fun q hq e => by injection e with e; omega))
               have HC4 := Lib.hid (HC6.out.trans HG4.out (fun _ _ e => .inr (Option.some.inj e).symm))
               clear hr hg)
  clear hmin HN3 HR6 HA6 HI6 HC6 HG4
  go_loopw [17] (fun v17 wr => ∃ (k : Nat) (tA : Option Addr) (tC : Nat), k ≤ K ∧ v17 = .int .i64 k ∧ Hid (Blk wr ga 55 #[.int .i64 cd, .slice iA ids.length iC, .slice tA k tC]) ∧ Hid (wr.ownsRow w4.heap.size 57 5 (.slice tA k tC) k ((rdK xs p3 y3 k).1.flatMap TK.l)) ∧ Hid (RdrF wr W.heap.size g A2 xs.length d2 xs (rdK xs p3 y3 k).2.1 (rdK xs p3 y3 k).2.2) ∧ Hid (Chg (fun k => k = ga ∨ k = g) w4 wr) ∧ Hid (w4.heap.size ≤ wr.heap.size)) (fun i _ => K - (intOf i).toNat)
  case atStart => exact ⟨0, none, 0, Nat.zero_le _, rfl, HA4, Lib.hid (World.ownsRow_nil _ _ _ _), HR4, Lib.hid (Chg.refl _ _), Lib.hid (Nat.le_refl _)⟩
  case round =>
    obtain ⟨k, tA, tC, hk, rfl, hc4, hrow, hrr, hch, hz4⟩ := hrel
    have HLT4 : Hid (g < w4.heap.size) := Lib.hid HR4.out.1.1.lt
    have HLT : Hid ((w.heap.size < ga ∧ ga < g ∧ ga < W.heap.size) ∧ g < w4.heap.size) := Lib.hid ⟨HLT.out, HLT4.out⟩
    by_cases hlt : k < K
    · have hkz : (k : Int) < K := by omega
      have hok := rdK_ok (xs := xs) (p := p3) (why := y3) hok3.1 hok3.2 k
      have HCALL := Lib.hid (took_any g A2 d2 xs (rdK xs p3 y3 k).2.1 (rdK xs p3 y3 k).2.2 wr.drew (hrr.out.chg (Chg.drew (Φ := fun _ => False) wr) id fun _ h => h.elim).1 hok.2 HX.out hn hok.1)
      have HNX : Hid (rdK xs p3 y3 (k + 1) = ((rdK xs p3 y3 k).1 ++ [(tkR xs (rdK xs p3 y3 k).2.1 (rdK xs p3 y3 k).2.2).1], (tkR xs (rdK xs p3 y3 k).2.1 (rdK xs p3 y3 k).2.2).2)) := Lib.hid rfl
      generalize hT : tkR xs (rdK xs p3 y3 k).2.1 (rdK xs p3 y3 k).2.2 = T at *
      clear hT
      have hS0 : wr.drew.cell? ⟨ga, 2, none⟩ = some (.slice tA k tC) := hc4.out.cell 2
      go_upto_region 7 with fail
      refine wp_region_G (fun w' => w'.cell? ⟨ga, 2, none⟩ = some (.slice tA k tC)) 7 (by kernel_rfl) ?_
      refine wpAnyG_take (i := 0) (oi := ⟨some 19, _, _, _, _, _⟩) (v := .pointer (some ⟨ga, 2, none⟩)) rfl (by kernel_rfl) (by kernel_rfl) (by kernel_rfl) (by kernel_rfl) (fun _ _ _ h => h) (Or.inl ⟨by kernel_rfl, ?_⟩) hS0 ?_
      · intro wS hSw
        go_simp
        try rfl
      try simp only [Act.put]
      refine wpAnyG_take (i := 1) (oi := ⟨some 20, _, _, _, _, _⟩) (v := .slice tA k tC) rfl (by kernel_rfl) (by kernel_rfl) (by kernel_rfl) (by kernel_rfl) (fun _ _ _ h => h) (Or.inl ⟨by kernel_rfl, ?_⟩) hS0 ?_
      · intro wS hSw
        go_simp
        try rfl
      try simp only [Act.put]
      refine wpAnyG_take (i := 2) (oi := ⟨some 21, _, _, _, _, _⟩) (v := .pointer (some ⟨g, 0, none⟩)) rfl (by kernel_rfl) (by kernel_rfl) (by kernel_rfl) (by kernel_rfl) (fun _ _ _ h => h) (Or.inl ⟨by kernel_rfl, ?_⟩) hS0 ?_
      · intro wS hSw
        go_simp
        try rfl
      try simp only [Act.put]
      refine wpAnyG_one (i := 3) (o := ⟨some 22, _, _, _, _, _⟩) (by kernel_rfl) rfl (fun K hK => ?_)
      go_simp
      refine HCALL.out.mono ?_
      rintro e w5 ⟨rfl, hr5, hg5⟩
      have HG5 := Lib.hid ((Chg.drew (Φ := fun k => some g = some k) wr).trans (Chg.of_grown hg5) (fun _ _ e => e))
      have HR5 := Lib.hid (hrr.out.num hr5)
      have HC5 := Lib.hid (hc4.out.chg HG5.out (by have := HLT.out; intro e; injection e with e; omega))
      have HO5 := Lib.hid (own_chg hrow.out HG5.out (fun k hk e => by have := HLT.out; injection e with e; omega))
      have hs5 := HG5.out.size
      have hs4 := hch.out.size
      have hS5 : w5.cell? ⟨ga, 2, none⟩ = some (.slice tA k tC) := HC5.out.cell 2
      clear hr5 hg5 hS0 HCALL
      dsimp only
      refine hK.out _ _ (fun _ => hS5) ?_
      clear hK K
      try simp only [Act.put]
      refine wpAnyG_one (i := 4) (o := ⟨some 23, _, _, _, _, _⟩) (by kernel_rfl) rfl (fun K hK => ?_)
      go_simp
      have HC6' := Lib.hid (HC5.out.alloc (.cells T.1.cells 57))
      have HO6 := Lib.hid (HO5.out.alloc (.cells T.1.cells 57))
      have hS6 : (w5.alloc (.cells T.1.cells 57)).cell? ⟨ga, 2, none⟩ = some (.slice tA k tC) := HC6'.out.cell 2
      have HNW : Hid (∀ ad, some (⟨w5.heap.size, 0, none⟩ : Addr) = some ad → ∀ j u, T.1.l[j]? = some u → (w5.alloc (.cells T.1.cells 57)).cell? (ad.add j) = some u) := Lib.hid fun ad e j u hu => by
        rw [← Option.some.inj e, Addr.add_lit, Nat.zero_add, (Blk.fresh w5 57 T.1.cells).cell]
        have : T.1.cells = T.1.l.toArray := rfl
        rw [this, List.getElem?_toArray]
        exact hu
      refine hK.out _ _ (fun _ => hS6) ?_
      clear hK K
      try simp only [Act.put]
      refine wpAnyG_one (i := 5) (o := ⟨some 24, _, _, _, _, _⟩) (by kernel_rfl) rfl (fun K hK => ?_)
      refine step_append_where (o := ⟨some 24, _, _, _, _, _⟩) rfl (.tmp 20) (.tmp 23) 53 rfl w4.heap.size 57 i0 _ 5 64 Tryd.underlying53 hi hz0 hz1 hz2 rfl (by omega) _ k _ rfl HO6.out (some ⟨w5.heap.size, 0, none⟩) 1 1 T.1.l rfl rfl (fun h => by cases h) HNW.out (by intro u hu; unfold TK.l at hu; simp only [List.mem_cons, List.mem_nil_iff, or_false] at hu; rcases hu with rfl | rfl | rfl | rfl | rfl <;> rfl) (by unfold maxLen; omega) (by omega) (by have := hz4.out; simp; omega) ?_
      intro v7 w7 ho7 hg7 hx
      clear hx
      obtain ⟨gb, c7, rfl, hgb, _⟩ := ho7.form (by omega)
      have HO7 := Lib.hid ho7
      have HG7 := Lib.hid (Chg.of_grown hg7)
      have HQ : Hid (∀ q, (Value.slice tA k tC).ownBlock = some q → w4.heap.size ≤ q) := Lib.hid fun q hq => (HO6.out.lt q hq).1
      have HC7 := Lib.hid (HC6'.out.chg HG7.out (fun e => by have := HQ.out _ e; have := HLT.out; omega))
      have HCH7 := Lib.hid (((hch.out.trans HG5.out (fun _ _ e => .inr (Option.some.inj e).symm)).trans (Chg.alloc (Φ := fun _ => False) w5 (.cells T.1.cells 57)) (fun _ _ h => h.elim)).trans HG7.out (fun q hq e => by have := HQ.out _ e; omega))
      have HR7 := Lib.hid ((HR5.out.chg (Chg.alloc (Φ := fun _ => False) w5 (.cells T.1.cells 57)) id fun _ h => h.elim).chg (HG7.out.mono (Ψ := fun k => w4.heap.size ≤ k) fun q _ e => HQ.out q e) (by have := HLT.out; omega) (fun q hq => .inr (by have := HLT.out; omega)))
      have hS7 : w7.cell? ⟨ga, 2, none⟩ = some (.slice tA k tC) := HC7.out.cell 2
      have f7 := HC7.out.free 2
      clear ho7 hg7 HC5 HO5 HO6 HC6' HNW hS5 hS6 HG5 HG7 HR5
      refine hK.out _ _ (fun _ => hS7) ?_
      clear hK K
      try simp only [Act.put]
      refine wpAnyG_one (i := 6) (o := ⟨some 25, _, _, _, _, _⟩) (by kernel_rfl) rfl (fun K hK => ?_)
      go_simp
      refine hK.out _ _ (fun _ => hS7) ?_
      clear hK K
      try simp only [Act.put]
      refine wpAnyG_one (i := 7) (o := ⟨none, _, _, _, _, _⟩) (by kernel_rfl) rfl (fun K hK => ?_)
      go_simp
      refine hK.out _ _ (fun h => absurd h (by decide)) ?_
      clear hK K
      try simp only [Act.put]
      refine wpAnyG_done (by kernel_rfl) ?_ _
      have hc8 : Blk (w7.setCell ⟨ga, 2, none⟩ (.slice (some ⟨gb, 0, none⟩) (k + 1) c7)) ga 55 #[.int .i64 cd, .slice iA ids.length iC, .slice (some ⟨gb, 0, none⟩) (k + 1) c7] := HC7.out.set 2 (.slice (some ⟨gb, 0, none⟩) (k + 1) c7)
      have HC8 := Lib.hid hc8
      have HO8 := Lib.hid (own_chg HO7.out (Chg.set w7 ga 2 (.slice (some ⟨gb, 0, none⟩) (k + 1) c7)) (fun q hq e => by have := HLT.out; omega))
      have HR8 := Lib.hid (HR7.out.set (b := ga) (q := 2) (v := .slice (some ⟨gb, 0, none⟩) (k + 1) c7) HLT.out.1.2.2 (by have := HLT.out; omega))
      have HCH8 := Lib.hid (HCH7.out.trans (Chg.set w7 ga 2 (.slice (some ⟨gb, 0, none⟩) (k + 1) c7)) (fun _ _ e => .inl e))
      clear hc8 hS7 f7 HC7 HO7 HR7 HCH7
      go_wp2_with fail
      go_roundw
      case rel =>
        refine ⟨k + 1, some ⟨gb, 0, none⟩, c7, by omega, by go_num, HC8, ?_, ?_, HCH8, Lib.hid HCH8.out.size⟩
        · rw [HNX.out]
          dsimp only
          rw [List.flatMap_append]
          simpa using HO8
        · rw [HNX.out]
          exact HR8
      case measure => simp [intOf]; omega
    · obtain rfl : k = K := by omega
      have hok := rdK_ok (xs := xs) (p := p3) (why := y3) hok3.1 hok3.2 k
      have hkl := rdK_len xs p3 y3 k
      have HRAW : Hid (R = ⟨cd, ids, mv, (rdK xs p3 y3 k).1, (rdK xs p3 y3 k).2.1, (rdK xs p3 y3 k).2.2⟩) := Lib.hid (HR.out.symm.trans (araw_is HT1.out HT2.out HT3.out HKK.out))
      have hchain : Chg (fun k => k = ga ∨ k = g) w1 wr := HC4.out.trans hch.out (fun _ _ e => e)
      have hbw1 : Below w.heap.size w w1 := HBEL.out.trans (HL1.out.mono HBEL.out.size)
      have hbw : Below w.heap.size w wr := hbw1.trans (hchain.below hbw1.size (fun q e => by have := HLT.out; omega))
      have hI := own_chg HI4.out hch.out (fun q hq e => by have := HLT.out; omega)
      have hz2 : Blk wr w.heap.size 55 AM.zero.cells := (HB2.out.below HL1.out HB2.out.lt).chg hchain (by have := HLT.out; omega)
      obtain ⟨iA', iC', e1, hrdI⟩ := Rd.of_own hI
      obtain ⟨tA', tC', e2, hrdT, _⟩ := KRd.of_own hrow.out hkl
      obtain ⟨rfl, _, rfl⟩ := Value.slice.inj e1
      obtain ⟨rfl, _, rfl⟩ := Value.slice.inj e2
      have HEX := Lib.hid (aexact_any A xs.length d xs g A2 d2 (rdK xs p3 y3 k).2.1 (rdK xs p3 y3 k).2.2 ids (rdK xs p3 y3 k).1 ⟨cd, iA, ids.length, iC, tA, k, tC⟩ wr (HRD.out.later hbw) hrr.out.1 hn hok.1 hok.2 hrdI hrdT HX.out)
      have HOI := Lib.hid hI; have HOT := hrow; have HZ2 := Lib.hid hz2; have HBW := Lib.hid hbw
      have c0 := hc4.out.cell 0
      have c1 := hc4.out.cell 1
      have c2 := hc4.out.cell 2
      simp at c0 c1 c2
      have HKL := Lib.hid hkl
      clear hkl hchain hbw1 hbw hI hz2 e1 e2 hrdI hrdT hok hrow hch hrr hc4 HI4 HC4 HA4 HR4
      generalize (rdK xs p3 y3 k).2.1 = p at *
      generalize (rdK xs p3 y3 k).2.2 = why at *
      generalize (rdK xs p3 y3 k).1 = tks at *
      unfold AM.cells at HEX
      go_wp2_with (go_at_call 58; refine HEX.out.mono ?_; rintro e w8 ⟨a8, er, rfl, hb8, hpost⟩
                   have HPOST := Lib.hid hpost
                   have HOI8 := Lib.hid (own_below HOI.out hb8); have HOT8 := Lib.hid (own_below HOT.out hb8)
                   have hz8 := HZ2.out.below hb8 HZ2.out.lt
                   have HB8 := Lib.hid (HBW.out.trans (hb8.mono HBW.out.size))
                   have g0 := hz8.cell 0
                   have g1 := hz8.cell 1
                   have g2 := hz8.cell 2
                   have f0 := hz8.free 0
                   have f1 := hz8.free 1
                   have f2 := hz8.free 2
                   have HZ8 := Lib.hid hz8
                   unfold AM.zero AM.cells at g0 g1 g2
                   simp at g0 g1 g2
                   clear hb8 hpost hz8)
      have k1 := HZ8.out.set 0 (.int .i64 a8.cd)
      have k2 := k1.set 1 (.slice a8.iA a8.iN a8.iC)
      have k3 : Blk (((w8.setCell ⟨w.heap.size, 0, none⟩ (.int .i64 a8.cd)).setCell ⟨w.heap.size, 1, none⟩ (.slice a8.iA a8.iN a8.iC)).setCell ⟨w.heap.size, 2, none⟩ (.slice a8.tA a8.tN a8.tC)) w.heap.size 55 a8.cells := k2.set 2 (.slice a8.tA a8.tN a8.tC)
      refine bodyPost_ret (v := .tuple #[.agg a8.cells, er]) ?_ rfl ?_
      · refine Eq.trans (results_cell_row_tmp (p := 2) (u := 3) Tryd.results23 _ _ w.heap.size 55 a8.cells (0, 0) _ ?_ k3 Tryd.underlying55 rfl (AM.info a8)) ?_
        · rfl
        · rfl
      · refine ⟨a8, er, rfl, ((HB8.out.setCell (Nat.le_refl _) _).setCell (Nat.le_refl _) _).setCell (Nat.le_refl _) _, ?_⟩
        have hoi := own_chg (own_chg (own_chg HOI8.out (Chg.set w8 w.heap.size 0 (.int .i64 a8.cd)) (fun q hq e => by have := HLT.out; omega)) (Chg.set _ w.heap.size 1 (.slice a8.iA a8.iN a8.iC)) (fun q hq e => by have := HLT.out; omega)) (Chg.set _ w.heap.size 2 (.slice a8.tA a8.tN a8.tC)) (fun q hq e => by have := HLT.out; omega)
        have hot := own_chg (own_chg (own_chg HOT8.out (Chg.set w8 w.heap.size 0 (.int .i64 a8.cd)) (fun q hq e => by have := HLT.out; omega)) (Chg.set _ w.heap.size 1 (.slice a8.iA a8.iN a8.iC)) (fun q hq e => by have := HLT.out; omega)) (Chg.set _ w.heap.size 2 (.slice a8.tA a8.tN a8.tC)) (fun q hq e => by have := HLT.out; omega)
        unfold APost
        rw [HRAW.out]
        dsimp only
        rcases HPOST.out with ⟨n1, n2, n3⟩ | ⟨n1, rfl, rfl⟩
        · exact .inl ⟨n1, n2, ((n3.ans HZ8.out).ans k1).ans k2⟩
        · refine .inr ⟨n1, rfl, rfl, ?_, ?_⟩
          · obtain ⟨iA', iC', e1, hrdI⟩ := Rd.of_own hoi
            obtain ⟨rfl, _, rfl⟩ := Value.slice.inj e1
            exact hrdI
          · obtain ⟨tA', tC', e2, hrdT, _⟩ := KRd.of_own hot HKL.out
            obtain ⟨rfl, _, rfl⟩ := Value.slice.inj e2
            exact hrdT
end Go.Proofs.YtkdncnhjlgidnaaDoor

namespace Go.Proofs.YtkdncnhjlgidnaaDoor
open Go Go.RowKit Go.Maps

set_option maxHeartbeats 1600000 in
theorem Equal_i (A A2 : Option Addr) (n d d2 : Nat) (L : List Int) (w : World) (h1 : Rd w w.heap.size .i64 A n d L) (h2 : Rd w w.heap.size .i64 A2 n d2 L) (hn : n ≤ 1000000) :
    Calls Tryd.prog 60 #[.slice A n d, .slice A2 n d2] w fun e w' => e = .returned (.bool true) ∧ Below w.heap.size w w' := by
  have H1 := Lib.hid h1; have H2 := Lib.hid h2
  clear h1 h2
  go_enter Tryd.func60, Tryd.ntmps60
  go_wp2_with fail
  go_loopw [13] (fun v13 wr => ∃ (j : Nat), j ≤ n ∧ v13 = .int .i64 j ∧ Hid (Below w.heap.size w wr)) (fun i _ => n - (intOf i).toNat)
  case atStart => exact ⟨0, by omega, rfl, Lib.hid (Below.refl _ _)⟩
  case round =>
    obtain ⟨j, hj, rfl, hbw⟩ := hrel
    by_cases hlt : j < n
    · have hjz : (j : Int) < n := by omega
      obtain ⟨b, o, rfl, _, k0⟩ := (H1.out.below hbw.out).cell hlt
      obtain ⟨b2, o2, rfl, _, l0⟩ := (H2.out.below hbw.out).cell hlt
      have HDR : Hid (∀ m, Below w.heap.size w (wr.drewN m)) := Lib.hid fun m => hbw.out.trans ((drewn_below wr m).mono hbw.out.size)
      have w3 : IntKind.i64.wrap ((j : Int) + 1) = j + 1 := IntWalk.i64_in _ (by omega)
      generalize L.getD j 0 = x0 at *
      go_wp2_with fail
      go_quiet (fail)
      have HBQ := Lib.hid (HDR.out nq)
      generalize wr.drewN nq = wr3 at *
      go_wp2_with fail
      go_roundw
      case rel => exact ⟨j + 1, by omega, by go_num, HBQ⟩
      case measure => simp [intOf]; omega
    · have hje : ¬ (j : Int) < n := by omega
      go_wp2_with fail
      go_ret
      exact ⟨rfl, hbw.out⟩

set_option maxHeartbeats 1600000 in
theorem Equal_k (A A2 : Option Addr) (n d d2 : Nat) (L : List TK) (w : World) (h1 : KRd w w.heap.size A n d L) (h2 : KRd w w.heap.size A2 n d2 L) (hn : n ≤ 1000000) :
    Calls Tryd.prog 61 #[.slice A n d, .slice A2 n d2] w fun e w' => e = .returned (.bool true) ∧ Below w.heap.size w w' := by
  have H1 := Lib.hid h1; have H2 := Lib.hid h2
  clear h1 h2
  go_enter Tryd.func61, Tryd.ntmps61
  go_wp2_with fail
  go_loopw [13] (fun v13 wr => ∃ (j : Nat), j ≤ n ∧ v13 = .int .i64 j ∧ Hid (Below w.heap.size w wr)) (fun i _ => n - (intOf i).toNat)
  case atStart => exact ⟨0, by omega, rfl, Lib.hid (Below.refl _ _)⟩
  case round =>
    obtain ⟨j, hj, rfl, hbw⟩ := hrel
    by_cases hlt : j < n
    · have hjz : (j : Int) < n := by omega
      obtain ⟨b, o, rfl, _, k0, k1, k2, k3, k4⟩ := (H1.out.below hbw.out).cell hlt
      obtain ⟨b2, o2, rfl, _, l0, l1, l2, l3, l4⟩ := (H2.out.below hbw.out).cell hlt
      have HDR : Hid (∀ m, Below w.heap.size w (wr.drewN m)) := Lib.hid fun m => hbw.out.trans ((drewn_below wr m).mono hbw.out.size)
      have w3 : IntKind.i64.wrap ((j : Int) + 1) = j + 1 := IntWalk.i64_in _ (by omega)
      generalize (L.getD j TK.zero).id = x0 at *
      generalize (L.getD j TK.zero).ct = x1 at *
      generalize (L.getD j TK.zero).rc = x2 at *
      generalize (L.getD j TK.zero).bd = x3 at *
      generalize (L.getD j TK.zero).gr = x4 at *
      go_wp2_with fail
      go_quiet (fail)
      have HBQ := Lib.hid (HDR.out nq)
      generalize wr.drewN nq = wr3 at *
      go_wp2_with fail
      go_roundw
      case rel => exact ⟨j + 1, by omega, by go_num, HBQ⟩
      case measure => simp [intOf]; omega
    · have hje : ¬ (j : Int) < n := by omega
      go_wp2_with fail
      go_ret
      exact ⟨rfl, hbw.out⟩

set_option maxHeartbeats 1600000 in
theorem SameA_any (a b : AM) (I : List Int) (T : List TK) (w : World) (hc : a.cd = b.cd) (i1 : Rd w w.heap.size .i64 a.iA a.iN a.iC I) (i2 : Rd w w.heap.size .i64 b.iA b.iN b.iC I) (t1 : KRd w w.heap.size a.tA a.tN a.tC T) (t2 : KRd w w.heap.size b.tA b.tN b.tC T) (hi : a.iN ≤ 1000000) (ht : a.tN ≤ 1000000) :
    Calls Tryd.prog 25 #[.agg a.cells, .agg b.cells] w fun e w' => e = .returned (.bool true) ∧ Below w.heap.size w w' := by
  have en : b.iN = a.iN := by rw [← i1.len, ← i2.len]
  have et : b.tN = a.tN := by rw [← t1.len, ← t2.len]
  have HI : Hid (∀ W, Below w.heap.size w W → Calls Tryd.prog 60 #[.slice a.iA a.iN a.iC, .slice b.iA b.iN b.iC] W fun e w' => e = .returned (.bool true) ∧ Below W.heap.size W w') := Lib.hid fun W hW => by
    rw [en] at i2 ⊢
    exact Equal_i a.iA b.iA a.iN a.iC b.iC I W (i1.later hW) (i2.later hW) hi
  have HT : Hid (∀ W, Below w.heap.size w W → Calls Tryd.prog 61 #[.slice a.tA a.tN a.tC, .slice b.tA b.tN b.tC] W fun e w' => e = .returned (.bool true) ∧ Below W.heap.size W w') := Lib.hid fun W hW => by
    rw [et] at t2 ⊢
    exact Equal_k a.tA b.tA a.tN a.tC b.tC T W (t1.later hW) (t2.later hW) ht
  have HB : Hid (Below w.heap.size w ((w.alloc (.cells a.cells 55)).alloc (.cells b.cells 55))) := Lib.hid (((Below.refl _ _).alloc (Nat.le_refl _) _).alloc (by simp) _)
  have hb1 := two_blocks (Below.refl ((w.alloc (.cells a.cells 55)).alloc (.cells b.cells 55)).heap.size ((w.alloc (.cells a.cells 55)).alloc (.cells b.cells 55)))
  have HK := Lib.hid (And.intro hb1.1 hb1.2.1)
  clear en et i1 i2 t1 t2 hb1
  unfold AM.cells at *
  rw [← hc] at *
  generalize a.cd = cd at *
  generalize b.iA = jA at *
  generalize b.iN = jN at *
  generalize b.iC = jC at *
  generalize b.tA = uA at *
  generalize b.tN = uN at *
  generalize b.tC = uC at *
  generalize a.iA = iA at *
  generalize a.iN = iN at *
  generalize a.iC = iC at *
  generalize a.tA = tA at *
  generalize a.tN = tN at *
  generalize a.tC = tC at *
  clear hc
  go_enter Tryd.func25, Tryd.ntmps25
  go_wp2_with (first
    | (go_at_call 60; refine (HI.out _ HB.out).mono ?_; rintro e w1 ⟨rfl, hb⟩
       have HB1 := Lib.hid (HB.out.trans (hb.mono HB.out.size))
       have k1 := HK.out.1.below hb HK.out.1.lt
       have k2 := HK.out.2.below hb HK.out.2.lt
       have y1 := k1.cell 2
       have y2 := k2.cell 2
       simp at y1 y2
       clear hb k1 k2)
    | (go_at_call 61; refine (HT.out _ HB1.out).mono ?_; rintro e w2 ⟨rfl, hb⟩; have HB2 := Lib.hid (HB1.out.trans (hb.mono HB1.out.size)); clear hb))
  go_ret
  exact ⟨rfl, HB2.out⟩
end Go.Proofs.YtkdncnhjlgidnaaDoor

namespace Go.Proofs.YtkdncnhjlgidnaaDoor
open Go Go.RowKit Go.Maps

theorem info_rtk : (Tryd.prog.info? 111).map (fun i => (i.zero, i.size, i.bytes)) = some (some (.agg TK.zero.cells), 5, 64) := by kernel_rfl
theorem info_ref_ans : (Tryd.prog.info? 61).map (·.size) = some 3 := by kernel_rfl
theorem news_k (w : World) (x : TK) (t : TypeId) : ∀ ad, some (⟨w.heap.size, 0, none⟩ : Addr) = some ad → ∀ j u, x.l[j]? = some u → (w.alloc (.cells x.cells t)).cell? (ad.add j) = some u := fun ad e j u hu => by
  rw [← Option.some.inj e, Addr.add_lit, Nat.zero_add, (Blk.fresh w t x.cells).cell]
  have : x.cells = x.l.toArray := rfl
  rw [this, List.getElem?_toArray]
  exact hu
theorem ones_k (x : TK) : ∀ u ∈ x.l, u.oneCell' = true := by
  intro u hu
  unfold TK.l at hu
  simp only [List.mem_cons, List.mem_nil_iff, or_false] at hu
  rcases hu with rfl | rfl | rfl | rfl | rfl <;> rfl

set_option maxHeartbeats 6400000 in
set_option maxRecDepth 100000 in
theorem RefAns_any (a : AM) (T : List TK) (w : World) (hT : KRd w w.heap.size a.tA a.tN a.tC T) (ht : a.tN ≤ 1000) :
    Calls Tryd.prog 20 #[.agg a.cells] w fun e w' => ∃ (tA : Option Addr) (tC : Nat), e = .returned (.agg (AM.mk a.cd a.iA a.iN a.iC tA a.tN tC).cells) ∧ Below w.heap.size w w' ∧ KRd w' w'.heap.size tA a.tN tC T := by
  obtain ⟨i0, hi, hz⟩ := Option.map_eq_some_iff.1 info_rtk
  simp only [Prod.mk.injEq] at hz
  obtain ⟨hz0, hz1, hz2⟩ := hz
  have hlen := hT.len
  have HT := Lib.hid hT; have HLEN := Lib.hid hlen
  clear hT hlen
  unfold AM.cells
  dsimp only
  generalize a.cd = cd at *
  generalize a.iA = iA at *
  generalize a.iN = iN at *
  generalize a.iC = iC at *
  generalize a.tA = tA at *
  generalize a.tN = tN at *
  generalize a.tC = tC at *
  go_enter Tryd.func20, Tryd.ntmps20
  go_upto_region 2 with fail
  obtain ⟨k0, k1, k2, kb⟩ := three_blocks w #[.int .i64 cd, .slice iA iN iC, .slice tA tN tC] #[.int .i64 0, .slice none 0 0, .slice none 0 0] #[.int .i64 cd, .slice iA iN iC, .slice none 0 0] 55 61 61
  change Code.wp _ _ _ _ (((w.alloc (.cells #[.int .i64 cd, .slice iA iN iC, .slice tA tN tC] 55)).alloc (.cells #[.int .i64 0, .slice none 0 0, .slice none 0 0] 61)).alloc (.cells #[.int .i64 cd, .slice iA iN iC, .slice none 0 0] 61))
  generalize ((w.alloc (.cells #[.int .i64 cd, .slice iA iN iC, .slice tA tN tC] 55)).alloc (.cells #[.int .i64 0, .slice none 0 0, .slice none 0 0] 61)).alloc (.cells #[.int .i64 cd, .slice iA iN iC, .slice none 0 0] 61) = W at *
  generalize hga : w.heap.size + 1 = ga at *
  generalize hgc : ga + 1 = gc at *
  have y2 := k0.cell 2
  simp at y2
  have HK0 := Lib.hid k0; have HK1 := Lib.hid k1; have HK2 := Lib.hid k2; have HB := Lib.hid kb; have HG := Lib.hid (And.intro hga hgc)
  clear k0 k1 k2 kb hga hgc
  go_wp2_with fail
  go_loopw [14] (fun v14 wr => ∃ (j : Nat) (uA : Option Addr) (uC : Nat), j ≤ tN ∧ v14 = .int .i64 j ∧ Hid (Blk wr gc 61 #[.int .i64 cd, .slice iA iN iC, .slice uA j uC]) ∧ Hid (wr.ownsRow W.heap.size 111 5 (.slice uA j uC) j ((T.take j).flatMap TK.l)) ∧ Hid (Chg (fun k => k = gc) W wr)) (fun i _ => tN - (intOf i).toNat)
  case atStart => exact ⟨0, none, 0, by omega, rfl, HK2, Lib.hid (World.ownsRow_nil _ _ _ _), Lib.hid (Chg.refl _ _)⟩
  case round =>
    obtain ⟨j, uA, uC, hj, rfl, hk, hown, hch⟩ := hrel
    have HLT : Hid (gc < W.heap.size ∧ w.heap.size < ga ∧ ga < gc) := Lib.hid ⟨HK2.out.lt, by have := HG.out; omega, by have := HG.out; omega⟩
    have hbw : Below w.heap.size w wr := HB.out.trans (hch.out.below HB.out.size (fun q e => by have := HLT.out; omega))
    by_cases hlt : j < tN
    · have hjz : (j : Int) < tN := by omega
      have hjl : j < T.length := by rw [HLEN.out]; exact hlt
      obtain ⟨b, o, hbo, _, c0, c1, c2, c3, c4⟩ := (HT.out.below hbw).cell hlt
      have HNX : Hid ((T.take (j + 1)).flatMap TK.l = (T.take j).flatMap TK.l ++ (T.getD j TK.zero).l) := Lib.hid (by
        rw [List.take_succ_eq_append_getElem hjl, List.flatMap_append, List.getD_eq_getElem?_getD, List.getElem?_eq_getElem hjl, Option.getD_some]
        simp)
      have w3 : IntKind.i64.wrap ((j : Int) + 1) = j + 1 := IntWalk.i64_in _ (by omega)
      generalize hX : T.getD j TK.zero = x at *
      obtain ⟨x0, x1, x2, x3, x4⟩ := x
      dsimp only at c0 c1 c2 c3 c4
      clear hX hjl
      subst hbo
      go_upto_region 5 with fail
      have hx0 : Blk (wr.alloc (.cells (TK.mk x0 x1 x2 x3 x4).cells 57)) wr.heap.size 57 #[.int .i64 x0, .int .i64 x1, .string x2, .string x3, .string x4] := Blk.fresh _ _ _
      have hk2 := hk.out.alloc (.cells (TK.mk x0 x1 x2 x3 x4).cells 57)
      have ho2 := hown.out.alloc (.cells (TK.mk x0 x1 x2 x3 x4).cells 57)
      have hc2 : Chg (fun k => k = gc) W (wr.alloc (.cells (TK.mk x0 x1 x2 x3 x4).cells 57)) := hch.out.trans (Chg.alloc (Φ := fun _ => False) wr _) (fun _ _ h => h.elim)
      change Code.wp _ _ _ _ (wr.alloc (.cells (TK.mk x0 x1 x2 x3 x4).cells 57))
      generalize wr.alloc (.cells (TK.mk x0 x1 x2 x3 x4).cells 57) = w2 at *
      generalize wr.heap.size = gx at *
      have z0 := hx0.cell 0
      have z1 := hx0.cell 1
      have z2 := hx0.cell 2
      have z3 := hx0.cell 3
      have z4 := hx0.cell 4
      have q2 := hk2.cell 2
      simp at z0 z1 z2 z3 z4 q2
      have HK := Lib.hid hk2; have HO := Lib.hid ho2; have HC := Lib.hid hc2
      clear hx0 hk2 ho2 hc2 hk hown hch hbw c0 c1 c2 c3 c4
      go_wp2_with (at_builtin
                   refine wpList_append_src rfl (.tmp 19) (.tmp 31) 59 rfl W.heap.size 111 i0 _ 5 64 Tryd.underlying59 hi hz0 hz1 hz2 rfl (by omega) (.slice uA j uC) j _ rfl (HO.out.alloc _) (some ⟨w2.heap.size, 0, none⟩) 1 1 (TK.mk x0 x1 x2 x3 x4).l rfl rfl (fun h => by cases h) (news_k w2 ⟨x0, x1, x2, x3, x4⟩ _) (ones_k _) (by unfold maxLen; omega) (by omega) (by have := HC.out.size; simp; omega) ?_
                   intro v7 w7 ho7 hg7
                   have HQ : Hid (∀ q, (Value.slice uA j uC).ownBlock = some q → W.heap.size ≤ q) := Lib.hid fun q hq => (HO.out.lt q hq).1
                   have hk7 := (HK.out.alloc (.cells (TK.mk x0 x1 x2 x3 x4).cells 111)).chg (Chg.of_grown hg7) (fun e => by have := HQ.out _ e; have := HLT.out; omega)
                   have HC7 := Lib.hid ((HC.out.trans (Chg.alloc (Φ := fun _ => False) w2 (.cells (TK.mk x0 x1 x2 x3 x4).cells 111)) (fun _ _ h => h.elim)).trans (Chg.of_grown hg7) (fun q hq e => by have := HQ.out _ e; omega))
                   obtain ⟨g7, c7, rfl, hgb, _⟩ := ho7.form (by omega)
                   have HO7 := Lib.hid ho7; have HK7 := Lib.hid hk7
                   have q7 := hk7.cell 2
                   have f7 := hk7.free 2
                   simp at q7
                   clear ho7 hg7 hk7 hgb)
      go_roundw
      case rel =>
        refine ⟨j + 1, some ⟨g7, 0, none⟩, c7, by omega, by go_num, Lib.hid (HK7.out.set 2 (.slice (some ⟨g7, 0, none⟩) (j + 1) c7)), ?_, Lib.hid (HC7.out.trans (Chg.set w7 gc 2 (.slice (some ⟨g7, 0, none⟩) (j + 1) c7)) (fun _ _ e => e))⟩
        rw [HNX.out]
        exact Lib.hid (own_chg HO7.out (Chg.set w7 gc 2 (.slice (some ⟨g7, 0, none⟩) (j + 1) c7)) (fun q hq e => by have := HLT.out; omega))
      case measure => simp [intOf]; omega
    · have hje : j = tN := by omega
      have hd0 : ¬ (j : Int) < tN := by omega
      have hown2 : wr.ownsRow W.heap.size 111 5 (.slice uA tN uC) tN (T.flatMap TK.l) := by
        have h := hown.out
        rw [hje, ← HLEN.out, List.take_length] at h
        rw [← HLEN.out]
        exact h
      have hk3 : Blk wr gc 61 #[.int .i64 cd, .slice iA iN iC, .slice uA tN uC] := by rw [← hje]; exact hk.out
      have hz3 : Blk wr ga 61 #[.int .i64 0, .slice none 0 0, .slice none 0 0] := HK1.out.chg hch.out (by have := HLT.out; omega)
      have q0 := hk3.cell 0
      have q1 := hk3.cell 1
      have q2 := hk3.cell 2
      have r0 := hz3.cell 0
      have r1 := hz3.cell 1
      have r2 := hz3.cell 2
      have f0 := hz3.free 0
      have f1 := hz3.free 1
      have f2 := hz3.free 2
      simp at q0 q1 q2 r0 r1 r2
      have HZ3 := Lib.hid hz3; have HO3 := Lib.hid hown2; have HBW := Lib.hid hbw
      clear hz3 hk3 hown2 hk hown hch hbw hje
      go_wp2_with fail
      have k1 := HZ3.out.set 0 (.int .i64 cd)
      have k2 := k1.set 1 (.slice iA iN iC)
      have k3 : Blk (((wr.setCell ⟨ga, 0, none⟩ (.int .i64 cd)).setCell ⟨ga, 1, none⟩ (.slice iA iN iC)).setCell ⟨ga, 2, none⟩ (.slice uA tN uC)) ga 61 #[.int .i64 cd, .slice iA iN iC, .slice uA tN uC] := k2.set 2 (.slice uA tN uC)
      refine bodyPost_ret (v := .agg #[.int .i64 cd, .slice iA iN iC, .slice uA tN uC]) ?_ rfl ?_
      · exact results_cell_row (p := 2) Tryd.results20 _ _ ga 61 #[.int .i64 cd, .slice iA iN iC, .slice uA tN uC] (0, 0) _ rfl k3 Tryd.underlying61 rfl info_ref_ans
      · have hl : ∀ q, W.heap.size ≤ q → ¬ q = ga := fun q hq e => by have := HLT.out; omega
        have hot := own_chg (own_chg (own_chg HO3.out (Chg.set wr ga 0 (.int .i64 cd)) hl) (Chg.set _ ga 1 (.slice iA iN iC)) hl) (Chg.set _ ga 2 (.slice uA tN uC)) hl
        obtain ⟨tA', tC', e2, hrdT, _⟩ := KRd.of_own hot HLEN.out
        obtain ⟨rfl, _, rfl⟩ := Value.slice.inj e2
        exact ⟨uA, uC, rfl, ((HBW.out.setCell (by have := HLT.out; show _ ≤ ga; omega) _).setCell (by have := HLT.out; show _ ≤ ga; omega) _).setCell (by have := HLT.out; show _ ≤ ga; omega) _, hrdT⟩
end Go.Proofs.YtkdncnhjlgidnaaDoor

namespace Go.Proofs.YtkdncnhjlgidnaaDoor
open Go Go.RowKit

theorem goNums_write {xs a l r : List Int} {p : Nat} {most : Int} (hx : xs = a ++ ((enc l.length ++ encAll l) ++ r)) (hp : p = a.length) (hl : l.length ≤ 1000000) (hm : (l.length : Int) ≤ most) (h : ∀ x ∈ l, 0 ≤ x ∧ x ≤ 9223372036854775807) :
    goNums xs p 0 most = (l, (a ++ (enc l.length ++ encAll l)).length, 0) := by
  subst hx hp
  have hd : (a ++ ((enc l.length ++ encAll l) ++ r)).drop a.length = enc l.length ++ (encAll l ++ r) := by rw [List.drop_left, List.append_assoc]
  have hd2 : (a ++ ((enc l.length ++ encAll l) ++ r)).drop (a.length + (enc l.length).length) = encAll l ++ r := by
    rw [← List.drop_drop, hd, List.drop_left]
  have ht : numsR (a ++ ((enc l.length ++ encAll l) ++ r)) a.length most = (l, (enc l.length).length + (encAll l).length, 0) := by
    unfold numsR
    rw [hd, numF_enc9 l.length _ (by omega)]
    simp only [if_true]
    rw [if_neg (by omega), hd2, numsF_encAll l [] 0 r h]
    simp
  unfold goNums
  rw [ht, if_pos rfl, if_pos rfl]
  simp [List.length_append]
/-- A message that may be written. -/
def Fine (x : TK) : Prop := (0 ≤ x.id ∧ x.id ≤ 4611686018427387904) ∧ (0 ≤ x.ct ∧ x.ct ≤ 4611686018427387904) ∧ x.rc.size ≤ 256 ∧ x.bd.size ≤ 256 ∧ x.gr.size ≤ 256
theorem tkR_write {xs a r : List Int} {p : Nat} {x : TK} (hx : xs = a ++ (tkB x ++ r)) (hp : p = a.length) (hf : Fine x) : tkR xs p 0 = (x, (a ++ tkB x).length, 0) := by
  obtain ⟨f1, f2, f3, f4, f5⟩ := hf
  have e0 : goNum xs p 0 = (x.id.toNat, (a ++ enc x.id.toNat).length, 0) := goNum_write (r := enc x.ct.toNat ++ encT (nums x.rc) ++ encT (nums x.bd) ++ encT (nums x.gr) ++ r) (by rw [hx]; unfold tkB; simp only [List.append_assoc]) hp (by omega)
  have e1 : goNum xs (a ++ enc x.id.toNat).length 0 = (x.ct.toNat, (a ++ enc x.id.toNat ++ enc x.ct.toNat).length, 0) := goNum_write (r := encT (nums x.rc) ++ encT (nums x.bd) ++ encT (nums x.gr) ++ r) (by rw [hx]; unfold tkB; simp only [List.append_assoc]) rfl (by omega)
  have e2 : goText xs (a ++ enc x.id.toNat ++ enc x.ct.toNat).length 0 256 = (nums x.rc, (a ++ enc x.id.toNat ++ enc x.ct.toNat ++ encT (nums x.rc)).length, 0) := goText_write (r := encT (nums x.bd) ++ encT (nums x.gr) ++ r) (by rw [hx]; unfold tkB; simp only [List.append_assoc]) rfl (by rw [nums_length]; omega) (by rw [nums_length]; omega)
  have e3 : goText xs (a ++ enc x.id.toNat ++ enc x.ct.toNat ++ encT (nums x.rc)).length 0 256 = (nums x.bd, (a ++ enc x.id.toNat ++ enc x.ct.toNat ++ encT (nums x.rc) ++ encT (nums x.bd)).length, 0) := goText_write (r := encT (nums x.gr) ++ r) (by rw [hx]; unfold tkB; simp only [List.append_assoc]) rfl (by rw [nums_length]; omega) (by rw [nums_length]; omega)
  have e4 : goText xs (a ++ enc x.id.toNat ++ enc x.ct.toNat ++ encT (nums x.rc) ++ encT (nums x.bd)).length 0 256 = (nums x.gr, (a ++ enc x.id.toNat ++ enc x.ct.toNat ++ encT (nums x.rc) ++ encT (nums x.bd) ++ encT (nums x.gr)).length, 0) := goText_write (r := r) (by rw [hx]; unfold tkB; simp only [List.append_assoc]) rfl (by rw [nums_length]; omega) (by rw [nums_length]; omega)
  unfold tkR
  simp only [e0, e1, e2, e3, e4, strOfNums_nums, Int.toNat_of_nonneg f1.1, Int.toNat_of_nonneg f2.1]
  unfold tkB
  simp only [List.append_assoc]
theorem rdK_write {xs a r : List Int} {p : Nat} {T : List TK} (hx : xs = a ++ (T.flatMap tkB ++ r)) (hp : p = a.length) (hf : ∀ x ∈ T, Fine x) : ∀ k, k ≤ T.length → rdK xs p 0 k = (T.take k, (a ++ (T.take k).flatMap tkB).length, 0)
  | 0, _ => by simp [rdK, hp]
  | k + 1, hk => by
    have hk' : k < T.length := by omega
    have ih := rdK_write hx hp hf k (by omega)
    have hsp : T.flatMap tkB = (T.take k).flatMap tkB ++ (tkB T[k] ++ (T.drop (k + 1)).flatMap tkB) := by
      conv => lhs; rw [← List.take_append_drop k T]
      rw [List.flatMap_append, List.drop_eq_getElem_cons hk', List.flatMap_cons]
    have e := tkR_write (xs := xs) (a := a ++ (T.take k).flatMap tkB) (r := (T.drop (k + 1)).flatMap tkB ++ r) (x := T[k]) (by rw [hx, hsp]; simp only [List.append_assoc]) rfl (hf _ (List.getElem_mem _))
    rw [rdK, ih]
    simp only [e]
    rw [List.take_succ_eq_append_getElem hk', List.flatMap_append]
    simp [List.append_assoc]
/-- What was written is read as it was. -/
theorem araw_back {cd : Int} {I : List Int} {T : List TK} (h : aRight cd I T = true) : araw (aBytes cd I T) = ⟨cd.toNat, I, T.length, T, (aBytes cd I T).length, 0⟩ := by
  have g := aGood h
  have hc := g.code
  have hf := g.few
  obtain ⟨xs, hxs⟩ : ∃ xs, xs = aBytes cd I T := ⟨_, rfl⟩
  have hx2 : xs = enc cd.toNat ++ (enc I.length ++ encAll I) ++ enc T.length ++ T.flatMap tkB := hxs
  have e0 : goNum xs 0 0 = (cd.toNat, (enc cd.toNat).length, 0) := by
    have := goNum_write (xs := xs) (a := []) (r := (enc I.length ++ encAll I) ++ enc T.length ++ T.flatMap tkB) (v := cd.toNat) (p := 0) (by rw [hx2]; simp only [List.nil_append, List.append_assoc]) rfl (by omega)
    simpa using this
  have e1 : goNums xs (enc cd.toNat).length 0 10 = (I, (enc cd.toNat ++ (enc I.length ++ encAll I)).length, 0) := goNums_write (r := enc T.length ++ T.flatMap tkB) (by rw [hx2]; simp only [List.append_assoc]) rfl (by omega) (by omega) (fun x hx => by have := g.ids x hx; omega)
  have e2 : goNum xs (enc cd.toNat ++ (enc I.length ++ encAll I)).length 0 = (T.length, (enc cd.toNat ++ (enc I.length ++ encAll I) ++ enc T.length).length, 0) := goNum_write (r := T.flatMap tkB) (by rw [hx2]; simp only [List.append_assoc]) rfl (by omega)
  have e3 := rdK_write (xs := xs) (a := enc cd.toNat ++ (enc I.length ++ encAll I) ++ enc T.length) (r := []) (T := T) (by rw [hx2]; simp only [List.append_assoc, List.append_nil]) rfl g.tks T.length (Nat.le_refl _)
  rw [← hxs, araw_is e0 e1 e2 (show T.length = min T.length 10 by omega), e3, List.take_length, hx2]
theorem why_back {cd : Int} {I : List Int} {T : List TK} (h : aRight cd I T = true) : whyA (aBytes cd I T) (aBytes cd I T).length 0 ((cd.toNat : Nat) : Int) I T = 0 := by
  have hc := (aGood h).code
  unfold whyA
  rw [if_neg (by simp), if_neg (by omega), Int.toNat_of_nonneg hc.1, h, decide_eq_true rfl]
  rfl
end Go.Proofs.YtkdncnhjlgidnaaDoor

namespace Go.Proofs.YtkdncnhjlgidnaaDoor
open Go Go.RowKit Go.ChangeShapes Go.WideShapes Go.Deep

section
variable {H : Type} {enc : TypeId × Value → H} {w : World} {held : Bool} {base : Nat}
theorem add_form {a : Addr} {u : Value} (h : w.cell? (a.add 0) = some u) : a = ⟨a.block, a.off, none⟩ := by
  obtain ⟨b, o, sp⟩ := a
  cases sp with
  | none => rfl
  | some x =>
    exfalso
    unfold World.cell? at h
    simp [Addr.add] at h
    split at h
    · cases h
    · cases h
theorem five {α : Type} {l : List α} (h : l.length = 5) : ∃ a b c d e, l = [a, b, c, d, e] := by
  match l, h with
  | [a, b, c, d, e], _ => exact ⟨a, b, c, d, e, rfl⟩
theorem three {α : Type} {l : List α} (h : l.length = 3) : ∃ a b c, l = [a, b, c] := by
  match l, h with
  | [a, b, c], _ => exact ⟨a, b, c, rfl⟩
instance : Inhabited TK := ⟨TK.zero⟩
/-- A message's texts are no longer than memory allows. -/
def TKOk (x : TK) : Prop := x.rc.size ≤ 140737488355328 ∧ x.bd.size ≤ 140737488355328 ∧ x.gr.size ≤ 140737488355328
theorem tk_in {fuel : Nat} {cs : List Value} {x : DataW H × List MemPlace} (h : DataW.trod enc Tryd.prog w base (fun _ => true) held fuel 57 cs = some x) (hw : ∀ n ∈ x.1.weights Tryd.prog 57, n ≤ reachBytes) :
    ∃ p : TK, cs = p.l ∧ TKOk p := by
  have hu := Tryd.underlying57
  obtain ⟨xs, n, _, hx, hlen, hxl, hg⟩ := DataW.trod_struct hu h
  have hC : Tryd.prog.cellsOf 57 = 5 := by kernel_rfl
  obtain ⟨a0, a1, a2, a3, a4, rfl⟩ := five (hlen.trans hC)
  obtain ⟨y0, y1, y2, y3, y4, rfl⟩ := five hxl
  have k3 : Tryd.prog.cellsOf 3 = 1 := by kernel_rfl
  have k9 : Tryd.prog.cellsOf 9 = 1 := by kernel_rfl
  have g0 := hg 0 _ rfl
  have g1 := hg 1 _ rfl
  have g2 := hg 2 _ rfl
  have g3 := hg 3 _ rfl
  have g4 := hg 4 _ rfl
  simp [k3, k9] at g0 g1 g2 g3 g4
  have hmem : ∀ (j : Nat) (t : TypeId) (y : DataW H × List MemPlace), [3, 3, 9, 9, 9][j]? = some t → [y0, y1, y2, y3, y4][j]? = some y → ∀ k ∈ y.1.weights Tryd.prog t, k ≤ reachBytes := fun j t y ht hy k hk => by
    refine hw k ?_
    rw [hx]
    simp only [DataW.weights, hu]
    refine DataW.weights_mem_each (j := j) (t := t) (d := y.1) ht ?_ k hk
    rw [List.getElem?_map, hy]
    rfl
  obtain ⟨i, rfl, _⟩ := one_int Tryd.underlying3 g0
  obtain ⟨c, rfl, _⟩ := one_int Tryd.underlying3 g1
  obtain ⟨s1, rfl, z1⟩ := one_string Tryd.underlying9 g2 (hmem 2 _ _ rfl rfl)
  obtain ⟨s2, rfl, z2⟩ := one_string Tryd.underlying9 g3 (hmem 3 _ _ rfl rfl)
  obtain ⟨s3, rfl, z3⟩ := one_string Tryd.underlying9 g4 (hmem 4 _ _ rfl rfl)
  exact ⟨⟨i, c, s1, s2, s3⟩, rfl, z1, z2, z3⟩
theorem tks_in {fuel : Nat} {v : Value} {x : DataW H × List MemPlace} (h : DataW.trod enc Tryd.prog w base (fun _ => true) held fuel 53 [v] = some x) (hw : ∀ n ∈ x.1.weights Tryd.prog 53, n ≤ reachBytes) :
    ∃ A n c T, v = .slice A n c ∧ KRd w w.heap.size A n c T ∧ ∀ p ∈ T, TKOk p := by
  have hC : Tryd.prog.cellsOf 57 = 5 := by kernel_rfl
  rcases open_slice Tryd.underlying53 h with ⟨hcs, _⟩ | ⟨a, len, cap, m, n, D, Pl, hcs, _, hl, hm, hmm, hx, hi⟩
  · simp at hcs
    subst hcs
    exact ⟨none, 0, 0, [], rfl, KRd.none_ _ _, fun p hp => by cases hp⟩
  · simp at hcs
    subst hcs
    simp only [if_true] at hmm
    have key0 : ∀ i, i < len → ∃ p : TK, (∀ j u, p.l[j]? = some u → w.cell? (a.add (i * 5 + j)) = some u) ∧ TKOk p := by
      intro i hil
      obtain ⟨cs', hc, ht⟩ := hi i (by omega)
      obtain ⟨_, hcl, hat⟩ := World.cells?_some hc
      obtain ⟨p, hp, hok⟩ := tk_in ht (fun k hk => hw k (by
        rw [hx]
        simp only [DataW.weights, Tryd.underlying53]
        refine List.mem_cons_of_mem _ (List.mem_append.2 (.inl (weightsAll_mem ?_ k hk)))
        exact List.mem_map.2 ⟨i, List.mem_range.2 hil, rfl⟩))
      rw [hC] at hat
      have h5 : p.l.length = 5 := rfl
      refine ⟨p, fun j u hu => ?_, hok⟩
      have hj : j < 5 := by rw [← h5]; exact (List.getElem?_eq_some_iff.1 hu).1
      have := hat j hj
      rw [add_add, hp, hu] at this
      exact this
    have hform : 0 < len → a = ⟨a.block, a.off, none⟩ := fun h0 => by
      obtain ⟨p, hp, _⟩ := key0 0 h0
      exact add_form (hp 0 _ rfl)
    have key : ∀ i, i < len → ∃ p : TK, (a = ⟨a.block, a.off, none⟩ ∧ a.block < w.heap.size ∧ ∀ j u, p.l[j]? = some u → w.cell? ⟨a.block, a.off + i * 5 + j, none⟩ = some u) ∧ TKOk p := by
      intro i hil
      obtain ⟨p, hp, hok⟩ := key0 i hil
      have hfm := hform (by omega)
      have hcell : ∀ j u, p.l[j]? = some u → w.cell? ⟨a.block, a.off + i * 5 + j, none⟩ = some u := fun j u hu => by
        have := hp j u hu
        rw [hfm, Addr.add_lit] at this
        rw [Nat.add_assoc]
        exact this
      exact ⟨p, ⟨hfm, World.block_lt_of_cell? w ⟨a.block, a.off + i * 5 + 0, none⟩ (hcell 0 _ rfl), hcell⟩, hok⟩
    obtain ⟨f, hf⟩ := choose_lt key
    refine ⟨some a, len, cap, (List.range len).map f, rfl, ⟨by simp, hl, hm, (fun e => by cases e), fun j p hj => ?_⟩, fun p hp => ?_⟩
    · rw [List.getElem?_map] at hj
      obtain ⟨i, hi', rfl⟩ := Option.map_eq_some_iff.1 hj
      obtain ⟨h1, h2⟩ := List.getElem?_eq_some_iff.1 hi'
      simp at h1 h2
      subst h2
      obtain ⟨⟨e, hB, hc⟩, _⟩ := hf j h1
      exact ⟨a.block, a.off, by rw [← e], hB, hc 0 _ rfl, hc 1 _ rfl, hc 2 _ rfl, hc 3 _ rfl, hc 4 _ rfl⟩
    · obtain ⟨i, hi', rfl⟩ := List.mem_map.1 hp
      exact (hf i (List.mem_range.1 hi')).2
/-- A slice of numbers that came in. -/
theorem nums_in {fuel : Nat} {v : Value} {x : DataW H × List MemPlace} (h : DataW.trod enc Tryd.prog w base (fun _ => true) held fuel 52 [v] = some x) : ∃ A n c I, v = .slice A n c ∧ Rd w w.heap.size .i64 A n c I := by
  rcases open_ints Tryd.underlying52 Tryd.underlying3 (by kernel_rfl) h with ⟨hcs, _⟩ | ⟨a, l, c, zs, hcs, _, hl, hm, hz, hx, hcell, hwz⟩
  · simp at hcs
    subst hcs
    exact ⟨none, 0, 0, [], rfl, Rd.none_ _ _ _⟩
  · simp at hcs
    subst hcs
    simp only [if_true] at hz
    exact ⟨some a, l, c, zs.take l, rfl, (Rd.of_row (w := w) (k := .i64) (a := some a) (len := l) (cap := c) (zs := zs) (.inr ⟨a, rfl, hl, hm, by simpa using hz, hcell, hwz⟩)).1⟩
/-- An answer that came in. -/
theorem ans_in {fuel : Nat} {cs : List Value} {x : DataW H × List MemPlace} (h : DataW.trod enc Tryd.prog w base (fun _ => true) held fuel 55 cs = some x) (hw : ∀ n ∈ x.1.weights Tryd.prog 55, n ≤ reachBytes) :
    ∃ (a : AM) (I : List Int) (T : List TK), cs = a.cells.toList ∧ Rd w w.heap.size .i64 a.iA a.iN a.iC I ∧ KRd w w.heap.size a.tA a.tN a.tC T ∧ ∀ p ∈ T, TKOk p := by
  have hu := Tryd.underlying55
  obtain ⟨xs, n, _, hx, hlen, hxl, hg⟩ := DataW.trod_struct hu h
  have hC : Tryd.prog.cellsOf 55 = 3 := by kernel_rfl
  obtain ⟨a0, a1, a2, rfl⟩ := three (hlen.trans hC)
  obtain ⟨y0, y1, y2, rfl⟩ := three hxl
  have k3 : Tryd.prog.cellsOf 3 = 1 := by kernel_rfl
  have k4 : Tryd.prog.cellsOf 52 = 1 := by kernel_rfl
  have k5 : Tryd.prog.cellsOf 53 = 1 := by kernel_rfl
  have g0 := hg 0 _ rfl
  have g1 := hg 1 _ rfl
  have g2 := hg 2 _ rfl
  simp [k3, k4, k5] at g0 g1 g2
  have h2 : ∀ k ∈ y2.1.weights Tryd.prog 53, k ≤ reachBytes := fun k hk => by
    refine hw k ?_
    rw [hx]
    simp only [DataW.weights, hu]
    exact DataW.weights_mem_each (j := 2) (t := 53) (d := y2.1) rfl rfl k hk
  obtain ⟨cd, rfl, _⟩ := one_int Tryd.underlying3 g0
  obtain ⟨iA, iN, iC, I, rfl, hI⟩ := nums_in g1
  obtain ⟨tA, tN, tC, T, rfl, hT, hok⟩ := tks_in g2 h2
  exact ⟨⟨cd, iA, iN, iC, tA, tN, tC⟩, I, T, rfl, hI, hT, hok⟩
end
end Go.Proofs.YtkdncnhjlgidnaaDoor

namespace Go.Proofs.YtkdncnhjlgidnaaDoor
open Go Go.RowKit Go.Maps

/-- A box for an answer, filled. -/
theorem boxed_ans (w : World) (t : TypeId) (cs : Array Value) : Blk (w.alloc (.cells cs t)) w.heap.size t cs ∧ Below w.heap.size w (w.alloc (.cells cs t)) := ⟨Blk.fresh _ _ _, (Below.refl _ _).alloc (Nat.le_refl _) _⟩

theorem aBytes_few {cd : Int} {I : List Int} {T : List TK} (h : aRight cd I T = true) : (aBytes cd I T).length ≤ 1000000 := by
  have := aPart_len (aGood h) T.length
  rw [List.take_length] at this
  unfold aBytes
  omega

set_option maxHeartbeats 12800000 in
set_option maxRecDepth 100000 in
theorem answers_any (a : AM) (I : List Int) (T : List TK) (w : World) (hE : ErrType w) (hI : Rd w w.heap.size .i64 a.iA a.iN a.iC I) (hT : KRd w w.heap.size a.tA a.tN a.tC T) (hok : ∀ p ∈ T, TKOk p) :
    Calls Tryd.prog 5 #[.agg a.cells] w fun e w' => e = .returned (.bool true) ∧ Below w.heap.size w w' := by
  have HI := Lib.hid hI; have HT := Lib.hid hT; have HE := Lib.hid hE
  have HOK : Hid (∀ j, j < a.tN → TKOk (T.getD j TK.zero)) := Lib.hid fun j hj => by
    have hl : j < T.length := by rw [hT.len]; exact hj
    rw [List.getD_eq_getElem?_getD, List.getElem?_eq_getElem hl, Option.getD_some]
    exact hok _ (List.getElem_mem _)
  have HAA : Hid (∀ W, Below w.heap.size w W → Rd W W.heap.size .i64 a.iA a.iN a.iC I ∧ KRd W W.heap.size a.tA a.tN a.tC T) := Lib.hid fun W hW => ⟨hI.later hW, hT.later hW⟩
  clear hI hT hE hok
  obtain ⟨cs, hcs⟩ : ∃ cs, cs = a.cells := ⟨_, rfl⟩
  obtain ⟨cd, iA, iN, iC, tA, tN, tC⟩ := a
  dsimp only at HI HT HOK HAA
  have HCS := Lib.hid hcs
  unfold AM.cells at hcs ⊢
  dsimp only at hcs ⊢
  go_enter Tryd.func5, Tryd.ntmps5
  go_upto_region 1 with fail
  have hb1 : Blk (w.alloc (.cells #[.int .i64 cd, .slice iA iN iC, .slice tA tN tC] 55)) w.heap.size 55 #[.int .i64 cd, .slice iA iN iC, .slice tA tN tC] := Blk.fresh _ _ _
  have hbel : Below w.heap.size w (w.alloc (.cells #[.int .i64 cd, .slice iA iN iC, .slice tA tN tC] 55)) := (Below.refl _ _).alloc (Nat.le_refl _) _
  change Code.wp _ _ _ _ (w.alloc (.cells #[.int .i64 cd, .slice iA iN iC, .slice tA tN tC] 55))
  generalize w.alloc (.cells #[.int .i64 cd, .slice iA iN iC, .slice tA tN tC] 55) = W at *
  have HB1 := Lib.hid hb1; have HBEL := Lib.hid hbel
  have y1 := hb1.cell 1
  have y2 := hb1.cell 2
  simp at y1 y2
  clear hb1 hbel hcs
  by_cases h1 : 30 < iN
  · have h1z : (30 : Int) < iN := by omega
    go_wp2_with (go_at_call 7; refine (awake_any _).mono ?_; rintro e w2 ⟨rfl, hb⟩; have HB := Lib.hid (HBEL.out.trans (hb.mono HBEL.out.size)); clear hb)
    go_ret
    exact ⟨rfl, HB.out⟩
  have h1z : ¬ (30 : Int) < iN := by omega
  by_cases h2 : 30 < tN
  · have h2z : (30 : Int) < tN := by omega
    go_wp2_with (go_at_call 7; refine (awake_any _).mono ?_; rintro e w2 ⟨rfl, hb⟩; have HB := Lib.hid (HBEL.out.trans (hb.mono HBEL.out.size)); clear hb)
    go_ret
    exact ⟨rfl, HB.out⟩
  have h2z : ¬ (30 : Int) < tN := by omega
  go_wp2_with fail
  go_loopw [25] (fun v14 wr => ∃ (j : Nat), j ≤ tN ∧ v14 = .int .i64 j ∧ Hid (Below w.heap.size w wr) ∧ Hid (Below W.heap.size W wr)) (fun i _ => tN - (intOf i).toNat)
  case atStart => exact ⟨0, by omega, rfl, HBEL, Lib.hid (Below.refl _ _)⟩
  case round =>
    obtain ⟨j, hj, rfl, hbw, hbW⟩ := hrel
    by_cases hlt : j < tN
    · have hjz : (j : Int) < tN := by omega
      obtain ⟨b, o, hbo, _, c0, c1, c2, c3, c4⟩ := (HT.out.below hbw.out).cell hlt
      obtain ⟨s1, s2, s3⟩ := HOK.out j hlt
      have w9 : IntKind.i64.wrap ((j : Int) + 1) = j + 1 := IntWalk.i64_in _ (by omega)
      generalize T.getD j TK.zero = x at *
      obtain ⟨x0, x1, x2, x3, x4⟩ := x
      dsimp only at c0 c1 c2 c3 c4 s1 s2 s3
      subst hbo
      have w1 : IntKind.i64.wrap ((x2.size : Int) + x3.size) = x2.size + x3.size := IntWalk.i64_in _ (by omega)
      have w2 : IntKind.i64.wrap ((x2.size : Int) + x3.size + x4.size) = x2.size + x3.size + x4.size := IntWalk.i64_in _ (by omega)
      go_upto_region 6 with fail
      have hx0 : Blk (wr.alloc (.cells (TK.mk x0 x1 x2 x3 x4).cells 57)) wr.heap.size 57 #[.int .i64 x0, .int .i64 x1, .string x2, .string x3, .string x4] := Blk.fresh _ _ _
      change Code.wp _ _ _ _ (wr.alloc (.cells (TK.mk x0 x1 x2 x3 x4).cells 57))
      have hbw2 : Below w.heap.size w (wr.alloc (.cells (TK.mk x0 x1 x2 x3 x4).cells 57)) := hbw.out.alloc hbw.out.size _
      have hbW2 : Below W.heap.size W (wr.alloc (.cells (TK.mk x0 x1 x2 x3 x4).cells 57)) := hbW.out.alloc hbW.out.size _
      generalize wr.alloc (.cells (TK.mk x0 x1 x2 x3 x4).cells 57) = w5 at *
      generalize wr.heap.size = gx at *
      have z2 := hx0.cell 2
      have z3 := hx0.cell 3
      have z4 := hx0.cell 4
      simp at z2 z3 z4
      have HW5 := Lib.hid hbw2; have HV5 := Lib.hid hbW2
      clear hx0 hbw2 hbW2 hbw hbW c0 c1 c2 c3 c4
      by_cases h3 : 3000 < x2.size + x3.size + x4.size
      · have h3z : (3000 : Int) < (x2.size : Int) + x3.size + x4.size := by omega
        go_wp2_with (go_at_call 7; refine (awake_any _).mono ?_; rintro e w6 ⟨rfl, hb⟩; have HB := Lib.hid (HW5.out.trans (hb.mono HW5.out.size)); clear hb)
        go_ret
        exact ⟨rfl, HB.out⟩
      · have h3z : ¬ (3000 : Int) < (x2.size : Int) + x3.size + x4.size := by omega
        go_wp2_with fail
        go_roundw
        case rel => exact ⟨j + 1, by omega, by go_num, HW5, HV5⟩
        case measure => simp [intOf]; omega
    · have hje : j = tN := by omega
      have hd0 : ¬ (j : Int) < tN := by omega
      clear h1 h2 y1 y2
      have hbk := HB1.out.below hbW.out HB1.out.lt
      have HN : Hid (iN ≤ 30 ∧ tN ≤ 30) := Lib.hid ⟨by omega, by omega⟩
      have HB := hbw
      have y0 := hbk.cell 0
      have y1 := hbk.cell 1
      have y2 := hbk.cell 2
      simp at y0 y1 y2
      have HBK := Lib.hid hbk
      clear hbk hbw hbW HB1 HBEL HT HI HOK HCS
      obtain ⟨q, hq⟩ : ∃ q, q = aRight cd I T := ⟨_, rfl⟩
      have HQ := Lib.hid hq
      clear hq
      have HRT : Hid (∀ W, Below w.heap.size w W → Calls Tryd.prog 22 #[.agg (AM.mk cd iA iN iC tA tN tC).cells] W fun e w' => e = .returned (.bool q) ∧ Below W.heap.size W w') := Lib.hid fun W hW => by rw [HQ.out]; exact RightAnswer_any _ I T W (HAA.out W hW).1 (HAA.out W hW).2
      have HLA : Hid (∀ W, Below w.heap.size w W → Calls Tryd.prog 20 #[.agg (AM.mk cd iA iN iC tA tN tC).cells] W fun e w' => ∃ (tA' : Option Addr) (tC' : Nat), e = .returned (.agg (AM.mk cd iA iN iC tA' tN tC').cells) ∧ Below W.heap.size W w' ∧ KRd w' w'.heap.size tA' tN tC' T) := Lib.hid fun W hW => RefAns_any (AM.mk cd iA iN iC tA tN tC) T W (HAA.out W hW).2 (by have := HN.out; show tN ≤ 1000; omega)
      rcases q with _ | _
      · have HWA : Hid (∀ W, Below w.heap.size w W → Calls Tryd.prog 19 #[.agg (AM.mk cd iA iN iC tA tN tC).cells] W fun e w' => ∃ (f : Nat) (s : ByteArray), e = .returned (.tuple #[.slice none 0 0, .iface 69 (.pointer (some ⟨f, 0, none⟩))]) ∧ Blk w' f 71 #[.string s, .int .i64 1] ∧ Below W.heap.size W w') := Lib.hid fun W hW => WriteAnswer_no _ I T W (HAA.out W hW).1 (HAA.out W hW).2 HQ.out.symm
        go_upto_region 11 with (first
          | (go_at_call 19; refine (HWA.out _ HB.out).mono ?_; rintro e w2 ⟨f, s, rfl, hf, hb⟩
             have HFB := Lib.hid hf; have HB2 := Lib.hid (HB.out.trans (hb.mono HB.out.size)); have hk2 := HBK.out.below hb HBK.out.lt; have HBK2 := Lib.hid hk2; have y0 := hk2.cell 0; have y1 := hk2.cell 1; have y2 := hk2.cell 2; simp at y0 y1 y2; clear hf hb hk2)
          | (go_at_call 20; refine (HLA.out _ HB2.out).mono ?_; rintro e w3 ⟨tA', tC', rfl, hb, hK⟩
             have HK3 := Lib.hid hK; have HFB3 := Lib.hid (HFB.out.below hb HFB.out.lt); have HB3 := Lib.hid (HB2.out.trans (hb.mono HB2.out.size)); have HBK3 := Lib.hid (HBK2.out.below hb HBK2.out.lt); unfold AM.cells; dsimp only; clear hb hK))
        obtain ⟨hx1, hx2⟩ := boxed_ans w3 61 #[.int .i64 cd, .slice iA iN iC, .slice tA' tN tC']
        change Code.wp _ _ _ _ (w3.alloc (.cells #[.int .i64 cd, .slice iA iN iC, .slice tA' tN tC'] 61))
        generalize w3.alloc (.cells #[.int .i64 cd, .slice iA iN iC, .slice tA' tN tC'] 61) = w4 at *
        have HFB4 := Lib.hid (HFB3.out.below hx2 HFB3.out.lt); have HB4 := Lib.hid (HB3.out.trans (hx2.mono HB3.out.size)); have hk4 := HBK3.out.below hx2 HBK3.out.lt; have HBK4 := Lib.hid hk4
        have HW4 : Hid (Calls Tryd.prog 21 #[.agg (AM.mk cd iA iN iC tA' tN tC').cells] w4 fun e w' => e = .returned (.bool false) ∧ Below w4.heap.size w4 w') := Lib.hid (by rw [HQ.out]; exact RightAnswer10_any (AM.mk cd iA iN iC tA' tN tC') I T w4 (HAA.out w4 HB4.out).1 (HK3.out.later hx2))
        have q0 := hx1.cell 0
        have q1 := hx1.cell 1
        have q2 := hx1.cell 2
        simp at q0 q1 q2
        clear hx1 hx2 hk4 y0 y1 y2
        generalize w3.heap.size = p3 at *
        go_wp2_with (first
          | (go_at_call 21; refine HW4.out.mono ?_; rintro e w5 ⟨rfl, hb⟩
             have HFB5 := Lib.hid (HFB4.out.below hb HFB4.out.lt); have HB5 := Lib.hid (HB4.out.trans (hb.mono HB4.out.size)); have hk5 := HBK4.out.below hb HBK4.out.lt; have y0 := hk5.cell 0; have y1 := hk5.cell 1; have y2 := hk5.cell 2; simp at y0 y1 y2; clear hb hk5)
          | (go_at_call 22; refine (HRT.out w5 HB5.out).mono ?_; rintro e w6 ⟨rfl, hb⟩
             have HFB6 := Lib.hid (HFB5.out.below hb HFB5.out.lt); have HB6 := Lib.hid (HB5.out.trans (hb.mono HB5.out.size)); clear hb)
          | (go_at_call 12; refine (Code_c 1 _ _ w6 (HE.out.below (HB6.out.mono (Nat.le_refl _))) (.inr ⟨f, s, rfl, HFB6.out⟩)).mono ?_; rintro e w7 ⟨rfl, hb⟩
             have HB7 := Lib.hid (HB6.out.trans (hb.mono HB6.out.size)); clear hb)
          | (go_at_call 7; refine (awake_any _).mono ?_; rintro e w8 ⟨rfl, hb⟩; have HB8 := Lib.hid (HB7.out.trans (hb.mono HB7.out.size)); clear hb))
        go_ret
        exact ⟨rfl, HB8.out⟩
      · have HWO : Hid (∀ W, Below w.heap.size w W → Calls Tryd.prog 19 #[.agg (AM.mk cd iA iN iC tA tN tC).cells] W fun e w' => ∃ (A : Option Addr) (n d : Nat), e = .returned (.tuple #[.slice A n d, .nilIface]) ∧ Rd w' w'.heap.size .u8 A n d (aBytes cd I T) ∧ Below W.heap.size W w') := Lib.hid fun W hW => WriteAnswer_ok _ I T W (HAA.out W hW).1 (HAA.out W hW).2 HQ.out.symm
        obtain ⟨xs, hxs⟩ : ∃ xs, xs = aBytes cd I T := ⟨_, rfl⟩
        rw [← hxs] at HWO
        have HXB : Hid (∀ x ∈ xs, 0 ≤ x ∧ x < 256) := Lib.hid (by rw [hxs]; exact aBytes_ok cd I T)
        have HRB : Hid (araw xs = ⟨cd.toNat, I, T.length, T, xs.length, 0⟩) := Lib.hid (by rw [hxs]; exact araw_back HQ.out.symm)
        have HWB : Hid (whyA xs xs.length 0 ((cd.toNat : Nat) : Int) I T = 0) := Lib.hid (by rw [hxs]; exact why_back HQ.out.symm)
        have HXS := Lib.hid hxs
        have HLE : Hid (xs.length ≤ 1000000) := Lib.hid (by rw [hxs]; exact aBytes_few HQ.out.symm)
        have HCD : Hid (((cd.toNat : Nat) : Int) = cd) := Lib.hid (Int.toNat_of_nonneg (aGood HQ.out.symm).code.1)
        clear hxs
        go_upto_region 11 with (first
          | (go_at_call 19; refine (HWO.out _ HB.out).mono ?_; rintro e w2 ⟨A, n, d, rfl, hrd, hb⟩
             have HRD := Lib.hid hrd; have HB2 := Lib.hid (HB.out.trans (hb.mono HB.out.size)); have hk2 := HBK.out.below hb HBK.out.lt; have HBK2 := Lib.hid hk2; have y0 := hk2.cell 0; have y1 := hk2.cell 1; have y2 := hk2.cell 2; simp at y0 y1 y2; clear hrd hb hk2)
          | (go_at_call 20; refine (HLA.out _ HB2.out).mono ?_; rintro e w3 ⟨tA', tC', rfl, hb, hK⟩
             have HK3 := Lib.hid hK; have HRD3 := Lib.hid (HRD.out.later hb); have HB3 := Lib.hid (HB2.out.trans (hb.mono HB2.out.size)); have HBK3 := Lib.hid (HBK2.out.below hb HBK2.out.lt); unfold AM.cells; dsimp only; clear hb hK))
        obtain ⟨hx1, hx2⟩ := boxed_ans w3 61 #[.int .i64 cd, .slice iA iN iC, .slice tA' tN tC']
        change Code.wp _ _ _ _ (w3.alloc (.cells #[.int .i64 cd, .slice iA iN iC, .slice tA' tN tC'] 61))
        generalize w3.alloc (.cells #[.int .i64 cd, .slice iA iN iC, .slice tA' tN tC'] 61) = w4 at *
        have HRD4 := Lib.hid (HRD3.out.later hx2); have HB4 := Lib.hid (HB3.out.trans (hx2.mono HB3.out.size)); have hk4 := HBK3.out.below hx2 HBK3.out.lt; have HBK4 := Lib.hid hk4
        have HK4 := Lib.hid (HK3.out.later hx2)
        have HW4 : Hid (Calls Tryd.prog 21 #[.agg (AM.mk cd iA iN iC tA' tN tC').cells] w4 fun e w' => e = .returned (.bool true) ∧ Below w4.heap.size w4 w') := Lib.hid (by rw [HQ.out]; exact RightAnswer10_any (AM.mk cd iA iN iC tA' tN tC') I T w4 (HAA.out w4 HB4.out).1 HK4.out)
        have q0 := hx1.cell 0
        have q1 := hx1.cell 1
        have q2 := hx1.cell 2
        simp at q0 q1 q2
        have HX4 := Lib.hid hx1
        clear hx1 hx2 hk4 y0 y1 y2 HWO HLA HBK HBK2 HBK3 HRD HRD3 HK3 HB2 HB3
        generalize w3.heap.size = p3 at *
        go_upto_region 16 with (first
          | (go_at_call 21; refine HW4.out.mono ?_; rintro e w5 ⟨rfl, hb⟩
             have HRD5 := Lib.hid (HRD4.out.later hb); have HK5 := Lib.hid (HK4.out.later hb); have HB5 := Lib.hid (HB4.out.trans (hb.mono HB4.out.size)); have hk5 := HBK4.out.below hb HBK4.out.lt; have HBK5 := Lib.hid hk5; have HX5 := Lib.hid (HX4.out.below hb HX4.out.lt); have y0 := hk5.cell 0; have y1 := hk5.cell 1; have y2 := hk5.cell 2; simp at y0 y1 y2; clear hb hk5)
          | (go_at_call 22; refine (HRT.out w5 HB5.out).mono ?_; rintro e w6 ⟨rfl, hb⟩
             have HRD6 := Lib.hid (HRD5.out.later hb); have HK6 := Lib.hid (HK5.out.later hb); have HBK6 := Lib.hid (HBK5.out.below hb HBK5.out.lt); have HX6 := Lib.hid (HX5.out.below hb HX5.out.lt); have HB6 := Lib.hid (HB5.out.trans (hb.mono HB5.out.size)); clear hb))
        clear HW4 HRD4 HRD5 HK4 HK5 HX4 HX5 HBK4 HBK5 HB4 HB5 HRT
        have hnl := HRD6.out.len
        go_upto_region 17 with (first
          | (go_at_call 23; refine (ReadAnswer_any A n d xs w6 HRD6.out HXB.out (by have := HLE.out; omega) _ HRB.out).mono ?_; rintro e w7 ⟨a7, er7, rfl, hb, hp⟩
             obtain ⟨rfl, hcd, hI7, hT7⟩ : er7 = .nilIface ∧ a7.cd = cd ∧ Rd w7 w7.heap.size .i64 a7.iA a7.iN a7.iC I ∧ KRd w7 w7.heap.size a7.tA a7.tN a7.tC T := by
               rcases hp with ⟨h, _⟩ | ⟨_, h2, h3, h4, h5⟩
               · exact absurd HWB.out h
               · exact ⟨h2, h3.trans HCD.out, h4, h5⟩
             obtain ⟨dcd, dA, dN, dC, eA, eN, eC⟩ := a7
             dsimp only at hcd hI7 hT7
             subst hcd
             have HI7 := Lib.hid hI7; have HT7 := Lib.hid hT7
             have HRD7 := Lib.hid (HRD6.out.later hb); have HK7 := Lib.hid (HK6.out.later hb); have HBK7 := Lib.hid (HBK6.out.below hb HBK6.out.lt); have HX7 := Lib.hid (HX6.out.below hb HX6.out.lt); have HB7 := Lib.hid (HB6.out.trans (hb.mono HB6.out.size))
             unfold AM.cells; dsimp only
             clear hb hp hI7 hT7))
        obtain ⟨hx1, hx2⟩ := boxed_ans w7 55 #[.int .i64 dcd, .slice dA dN dC, .slice eA eN eC]
        change Code.wp _ _ _ _ (w7.alloc (.cells #[.int .i64 dcd, .slice dA dN dC, .slice eA eN eC] 55))
        generalize w7.alloc (.cells #[.int .i64 dcd, .slice dA dN dC, .slice eA eN eC] 55) = w8 at *
        have HP0 : Hid (Blk w8 w.heap.size 55 #[.int .i64 dcd, .slice iA iN iC, .slice tA tN tC]) := Lib.hid (HBK7.out.below hx2 HBK7.out.lt)
        have HP3 : Hid (Blk w8 p3 61 #[.int .i64 dcd, .slice iA iN iC, .slice tA' tN tC']) := Lib.hid (HX7.out.below hx2 HX7.out.lt)
        have HP7 := Lib.hid hx1
        have HB8 : Hid (Below w.heap.size w w8) := Lib.hid (HB7.out.trans (hx2.mono HB7.out.size))
        have HV : Hid (Below w7.heap.size w7 w8) := Lib.hid hx2
        have HRD8 := Lib.hid (HRD7.out.later HV.out); have HK8 := Lib.hid (HK7.out.later HV.out)
        clear hx1 hx2 HRD6 HRD7 HK6 HK7 HBK6 HBK7 HX6 HX7 HB6 HB7 y0 y1 y2 q0 q1 q2 hnl
        have HW10 : Hid (Calls Tryd.prog 24 #[.agg #[.int .i64 dcd, .slice iA iN iC, .slice tA' tN tC']] w8 fun e w' => ∃ v, e = .returned v ∧ Own10 w' w8.heap.size v xs ∧ Below w8.heap.size w8 w') := Lib.hid (by
          have h := WriteAnswer10_any (AM.mk dcd iA iN iC tA' tN tC') I T w8 (HAA.out w8 HB8.out).1 HK8.out HQ.out.symm
          rw [← HXS.out] at h
          exact h)
        have HSM : Hid (∀ W, Below w.heap.size w W → Below w7.heap.size w7 W → Calls Tryd.prog 25 #[.agg #[.int .i64 dcd, .slice iA iN iC, .slice tA tN tC], .agg #[.int .i64 dcd, .slice dA dN dC, .slice eA eN eC]] W fun e w' => e = .returned (.bool true) ∧ Below W.heap.size W w') := Lib.hid fun W h1 h2 => SameA_any (AM.mk dcd iA iN iC tA tN tC) (AM.mk dcd dA dN dC eA eN eC) I T W rfl (HAA.out W h1).1 (HI7.out.later h2) (HAA.out W h1).2 (HT7.out.later h2) (by have := HN.out; show iN ≤ 1000000; omega) (by have := HN.out; show tN ≤ 1000000; omega)
        go_wp2_with (first
          | (with_reducible refine at_dst (o := ⟨some 82, _, _, _, _, _⟩) (some 82) rfl ?_
             refine load_row_g (by kernel_rfl) 61 (.tmp 7) rfl p3 rfl 61 #[.int .i64 dcd, .slice iA iN iC, .slice tA' tN tC'] (0, 0) _ HP3.out Tryd.underlying61 rfl info_ref_ans ?_)
          | (with_reducible refine at_dst (o := ⟨some 87, _, _, _, _, _⟩) (some 87) rfl ?_
             refine load_row_g (by kernel_rfl) 55 (.tmp 1) rfl w.heap.size rfl 55 #[.int .i64 dcd, .slice iA iN iC, .slice tA tN tC] (0, 0) _ HP09.out Tryd.underlying55 rfl info_ans ?_)
          | (with_reducible refine at_dst (o := ⟨some 88, _, _, _, _, _⟩) (some 88) rfl ?_
             refine load_row_g (by kernel_rfl) 55 (.tmp 9) rfl w7.heap.size rfl 55 #[.int .i64 dcd, .slice dA dN dC, .slice eA eN eC] (0, 0) _ HP79.out Tryd.underlying55 rfl info_ans ?_)
          | (go_at_call 24; refine HW10.out.mono ?_; rintro e w9 ⟨v9, rfl, hown, hb⟩
             have HB9 := Lib.hid (HB8.out.trans (hb.mono HB8.out.size)); have HV9 := Lib.hid (HV.out.trans (hb.mono HV.out.size)); have HRD9 := Lib.hid (HRD8.out.later hb); have HP09 := Lib.hid (HP0.out.below hb HP0.out.lt); have HP79 := Lib.hid (HP7.out.below hb HP7.out.lt)
             obtain ⟨A9, d9, rfl, hr9⟩ := Rd.of_own hown
             have HR9 := Lib.hid hr9
             clear hown hr9 hb)
          | (go_at_call 14; refine (Equal_any A A9 n d _ d9 _ _ xs xs w9 HRD9.out HR9.out HXB.out HXB.out).mono ?_; rw [decide_eq_true rfl]; rintro e w10 ⟨rfl, rfl⟩)
          | (go_at_call 25; refine (HSM.out w9 HB9.out HV9.out).mono ?_; rintro e w11 ⟨rfl, hb⟩; have HB11 := Lib.hid (HB9.out.trans (hb.mono HB9.out.size)); clear hb)
          | (go_at_call 7; refine (awake_any _).mono ?_; rintro e w12 ⟨rfl, hb⟩; have HB12 := Lib.hid (HB11.out.trans (hb.mono HB11.out.size)); clear hb))
        go_ret
        exact ⟨rfl, HB12.out⟩
end Go.Proofs.YtkdncnhjlgidnaaDoor
