/- What is proved here: what isName, strings.Clone, bytes.Clone and the file's own methods return. -/
import Derived.Test.YtpolkhippblcmaaDisk
import Derived.Test.YtpolkhippblcmaaShelf
import Derived.Deep.QuietTactic
import Derived.BigQuiet
import Derived.Deep.DeepCutAuto
import Derived.Deep.RegionWith
import Derived.StillTailTactics
import Derived.WalkSmall
import Derived.WalkLawsBesides
namespace Go.Proofs.Ytpolkhippblcmaa
open Go Go.RowKit

/-- May a name be? -/
def nameOk (k : List UInt8) : Bool := !k.isEmpty && decide (k.length ≤ 32) && !k.contains 10

theorem indexByte_lt (k : List UInt8) (c : UInt8) : decide (Lib.indexByte k c < 0) = !k.contains c := by
  induction k with
  | nil => rfl
  | cons x r ih =>
    unfold Lib.indexByte
    have h1 := Lib.indexByte_ge r c
    by_cases hx : x = c
    · subst hx
      simp
    · have hx' : (x == c) = false := by simpa using hx
      have hcx : (c == x) = false := by simpa using fun e => hx e.symm
      rw [List.contains_cons, hcx, Bool.false_or, ← ih]
      simp only [hx', Bool.false_eq_true, if_false]
      by_cases h2 : Lib.indexByte r c = -1
      · rw [h2]; rfl
      · have h3 : (Lib.indexByte r c == -1) = false := by simpa using h2
        simp only [h3, Bool.false_eq_true, if_false]
        rw [decide_eq_false (by omega), decide_eq_false (by omega)]

set_option maxHeartbeats 400000 in
theorem isName_any (s : ByteArray) (w : World) (hs : s.size ≤ maxLen) :
    Calls Try.prog 35 #[.string s] w fun e w' => e = .returned (.bool (nameOk s.data.toList)) ∧ w = w' := by
  unfold maxLen at hs
  have HI := Lib.hid (indexByte_lt s.data.toList 10)
  have hge := Lib.indexByte_ge s.data.toList 10
  go_enter Try.func35, Try.ntmps35
  go_wp2_with (go_at_call 42; refine (Try.strings_IndexByte s 10 _).mono ?_; rintro e w' ⟨rfl, rfl⟩)
  · have h : s.toList = [] := by assumption
    go_ret
    refine ⟨?_, rfl⟩
    rw [ByteArray.toList_eq] at h
    unfold nameOk
    rw [h]
    rfl
  · have h : ¬ s.toList = [] := by assumption
    have h2 : (s.size : Int) ≤ 32 := by assumption
    go_ret
    refine ⟨?_, rfl⟩
    rw [ByteArray.toList_eq] at h ⊢
    unfold nameOk
    have h3 : s.data.toList.length ≤ 32 := by rw [Array.length_toList]; exact (by omega : s.size ≤ 32)
    rw [HI.out, decide_eq_true h3, Bool.and_true]
    rfl
  · have h : ¬ s.toList = [] := by assumption
    have h2 : 32 < (s.size : Int) := by assumption
    go_ret
    refine ⟨?_, rfl⟩
    unfold nameOk
    have h3 : ¬ s.data.toList.length ≤ 32 := by rw [Array.length_toList]; exact (by omega : ¬ s.size ≤ 32)
    rw [decide_eq_false h3, Bool.and_false, Bool.false_and]
    rfl

set_option maxHeartbeats 400000 in
theorem sClone_any (s : ByteArray) (w : World) (hs : s.size ≤ 1000000) :
    Calls Try.prog 43 #[.string s] w fun e w' => e = .returned (.string s) ∧ Below w.heap.size w w' := by
  go_enter Try.func43, Try.ntmps43
  go_wp2_with (go_at_call 49; refine (Try.stringslite_Clone s _ (by omega)).mono ?_; rintro e w1 ⟨rfl, hb⟩)
  go_ret
  exact ⟨rfl, hb⟩

set_option maxHeartbeats 400000 in
theorem Clone_any (A : Option Addr) (n c : Nat) (xs : List Int) (w : World) (h : Rd w w.heap.size .u8 A n c xs) (hn : n ≤ 2000000) :
    Calls Try.prog 31 #[.slice A n c] w fun e w' =>
      ∃ v, e = .returned v ∧ w'.ownsRow w.heap.size 5 1 v n (xs.map (Value.int .u8)) ∧ Below w.heap.size w w' := by
  obtain ⟨i0, hi, hz0, hz1, hz2⟩ := info_parts info_u8
  rcases A with _ | a
  · obtain ⟨rfl, rfl⟩ := h.nil rfl
    have hx : xs = [] := List.eq_nil_of_length_eq_zero h.len
    subst hx
    have hq := @Lib.run_eql_slice_nil Try.prog
    go_enter Try.func31, Try.ntmps31
    go_wp2
    go_ret
    exact ⟨_, rfl, World.ownsRow_nil _ _ _ _, Below.refl _ _⟩
  · have hq := @Lib.run_eql_slice_nil Try.prog
    have hl := h.len
    have hown0 := fun (W : World) => World.ownsRow_lit (e := 5) (size := 1) W #[] 0 (Nat.le_refl _) (by decide) rfl
    have HO := Lib.hid hown0
    clear hown0
    go_enter Try.func31, Try.ntmps31
    go_wp2_with (at_builtin
                 refine wpList_append_src rfl _ _ 31 rfl w.heap.size 5 i0 _ 1 1 Try.underlying31 hi hz0 hz1 hz2 rfl (by omega) _ 0 [] rfl (HO.out w) (some a) n c (xs.map (Value.int .u8)) rfl (by simpa using hl) h.nil (h.alloc (Nat.le_refl _) _).news (ints_oneCell _ _) (by unfold maxLen; omega) (by omega) (by simp) ?_
                 intro v2 w2 hown2 hg2)
    go_ret
    refine ⟨v2, rfl, by simpa using hown2, ((Below.refl _ _).alloc (Nat.le_refl _) _).grown hg2 (by simp) (fun k hk => ((HO.out w).lt k hk).1)⟩

theorem Clone_sl (A : Option Addr) (n c : Nat) (xs : List Int) (w : World) (h : Rd w w.heap.size .u8 A n c xs) (hn : n ≤ 2000000) :
    Calls Try.prog 31 #[.slice A n c] w fun e w' =>
      ∃ A' c', e = .returned (.slice A' n c') ∧ w'.ownsRow w.heap.size 5 1 (.slice A' n c') n (xs.map (Value.int .u8)) ∧ Below w.heap.size w w' := by
  refine (Clone_any A n c xs w h hn).mono ?_
  rintro e w' ⟨v, rfl, h1, h2⟩
  obtain ⟨A', c', rfl, _⟩ := Rd.of_own h1
  exact ⟨A', c', rfl, h1, h2⟩

/-- A slice's first elements. -/
theorem Rd.take {w : World} {B : Nat} {k : IntKind} {A : Option Addr} {n c : Nat} {xs : List Int} (h : Rd w B k A n c xs) {m : Nat} (hm : m ≤ n) : Rd w B k A m c (xs.take m) :=
  ⟨by rw [List.length_take, h.len]; omega, by have := h.cap; omega, h.max, fun e => by have := h.nil e; omega, fun j u hu => by
    rw [List.getElem?_take] at hu
    split at hu
    · exact h.place j u hu
    · cases hu⟩

theorem FileAt.lens {w : World} {x : Fil} (h : FileAt w x) : ∃ A c, x.v = .slice A x.f.b.length c ∧ Rd w w.heap.size .u8 A x.f.b.length c x.f.b := Rd.of_own h.own

set_option maxHeartbeats 400000 in
theorem loose_any (x : Fil) (w : World) (h : FileAt w x) :
    Calls Try.prog 34 #[.pointer (some ⟨x.p, 0, none⟩)] w fun e w' => e = .returned (.int .i64 ((x.f.b.length - x.f.s : Nat) : Int)) ∧ ∃ n, w' = w.drewN n := by
  obtain ⟨A, c, hv, hr⟩ := h.lens
  have hm := h.syn
  have hc := hr.cap
  have hx := hr.max
  unfold maxLen at hx
  obtain ⟨c0, c1, _, _⟩ := two_cells h.blk
  rw [hv] at c0
  have HS : Hid (((x.f.b.length : Nat) : Int) - (x.f.s : Int) = ((x.f.b.length - x.f.s : Nat) : Int)) := Lib.hid (by omega)
  generalize x.f.b.length = N at *
  generalize x.f.s = M at *
  clear h hr hv
  go_enter Try.func34, Try.ntmps34
  go_wp2
  go_quiet (fail)
  go_wp2
  go_ret
  exact ⟨by rw [HS.out]; rfl, _, rfl⟩

/-- A slot of a file is set. -/
theorem sync_any (p n : Nat) (v : Value) (s : Int) (xs : List Value) (w : World) (hb : w.heap[p]? = some (.cells #[v, .int .i64 s] 69 (0, 0))) (ho : w.ownsRow 0 5 1 v n xs) :
    Calls Try.prog 37 #[.pointer (some ⟨p, 0, none⟩)] w fun e w' => e = .returned (.tuple #[]) ∧ w' = w.setCell ⟨p, 1, none⟩ (.int .i64 n) := by
  obtain ⟨A, c, rfl, hc, hx⟩ : ∃ A c, v = .slice A n c ∧ n ≤ c ∧ c ≤ maxLen := by
    rcases ho.2 with ⟨rfl, rfl⟩ | ⟨g, cap, cur, rfl, _, _, h1, h2, _⟩
    · exact ⟨none, 0, rfl, Nat.le_refl _, Nat.zero_le _⟩
    · exact ⟨_, cap, rfl, h1, h2⟩
  unfold maxLen at hx
  obtain ⟨c0, c1, f0, f1⟩ := two_cells hb
  clear ho hb
  go_enter Try.func37, Try.ntmps37
  go_wp2
  go_end0
  exact ⟨rfl, rfl⟩

theorem own_take {w : World} {base e N n : Nat} {v : Value} {xs : List Value} (h : w.ownsRow base e 1 v N xs) (hn : n ≤ N) :
    ∃ A c, v = .slice A N c ∧ w.ownsRow base e 1 (.slice A n c) n (xs.take n) ∧ N ≤ c ∧ c ≤ maxLen ∧ ((A = none ∧ N = 0 ∧ c = 0) ∨ ∃ g, A = some ⟨g, 0, none⟩) := by
  have hl : xs.length = N := by simpa using h.1
  rcases h.2 with ⟨rfl, rfl⟩ | ⟨g, cap, cur, rfl, hb, hg, hnc, hcm, hcs, ht⟩
  · obtain rfl : n = 0 := by omega
    exact ⟨none, 0, rfl, by simpa using World.ownsRow_nil w base e 1, Nat.le_refl _, by unfold maxLen; omega, .inl ⟨rfl, rfl, rfl⟩⟩
  · refine ⟨_, cap, rfl, ⟨by simp; omega, .inr ⟨g, cap, cur, rfl, hb, hg, by omega, hcm, hcs, ?_⟩⟩, hnc, hcm, .inr ⟨g, rfl⟩⟩
    rw [← ht, List.take_take, Nat.mul_one, Nat.mul_one, Nat.min_eq_left hn]

/-- What 'keep' does. -/
def KeepSaid (x : Fil) (n : Nat) (w : World) (e : Ending) (w' : World) : Prop :=
  e = .returned (.tuple #[]) ∧ Chg (fun k => k = x.p) w w' ∧ ∃ v, w'.heap[x.p]? = some (.cells #[v, .int .i64 x.f.s] 69 (0, 0)) ∧
    w'.ownsRow 0 5 1 v n ((x.f.b.take n).map (Value.int .u8)) ∧ ∀ g, v.ownBlock = some g → x.v.ownBlock = some g ∨ (w.heap.size ≤ g ∧ g < w'.heap.size)

set_option maxHeartbeats 800000 in
theorem keep_any (x : Fil) (n : Nat) (w : World) (h : FileAt w x) (hn : n ≤ x.f.b.length) (hbig : x.f.b.length ≤ 2000000) :
    Calls Try.prog 44 #[.pointer (some ⟨x.p, 0, none⟩), .int .i64 n] w (KeepSaid x n w) := by
  obtain ⟨A, c, hv, hown, hc, hm, hA⟩ := own_take h.own hn
  unfold maxLen at hm
  rw [← List.map_take] at hown
  obtain ⟨c0, c1, f0, f1⟩ := two_cells h.blk
  have hblk := h.blk
  have hp := lt_of_block hblk
  rw [hv] at c0 hblk
  have hvp : ∀ g, A = some ⟨g, 0, none⟩ → g ≠ x.p := fun g e e2 => by
    obtain ⟨cur, hg⟩ := h.row (g := g) (by rw [hv, e]; rfl)
    rw [e2, h.blk] at hg
    simp at hg
  have hW : (w.setCell ⟨x.p, 0, none⟩ (.slice A n c)).heap[x.p]? = some (.cells #[.slice A n c, .int .i64 x.f.s] 69 (0, 0)) := two_set0 hblk _
  have HC : Chg (fun k => k = x.p) w (w.setCell ⟨x.p, 0, none⟩ (.slice A n c)) := Chg.set w _ _ _
  have hownW := HC.own hown fun g hg => by
    rcases A with _ | a
    · cases hg
    · simp [Value.ownBlock] at hg
      rcases hA with ⟨e, _⟩ | ⟨g', e⟩
      · cases e
      · cases e
        exact hvp _ (by rw [← hg])
  have hnc : (n : Int) ≤ c := by omega
  have hN : (n : Int) ≤ x.f.b.length := by omega
  have HVV : Hid (x.v = .slice A x.f.b.length c) := Lib.hid hv
  have HB := Lib.hid hblk
  have HOW := Lib.hid hownW
  have HHW := Lib.hid hW
  generalize hM : x.f.s = M at *
  generalize hNN : x.f.b.length = N at *
  have HN := Lib.hid hNN
  have HM := Lib.hid hM
  clear hNN hM hblk hv hownW hW hown h
  by_cases hk : (n : Int) < (c : Int) / 2
  · have hk1 := hk
    rcases A with _ | a
    · obtain ⟨_, rfl, rfl⟩ : _ ∧ N = 0 ∧ c = 0 := by
        rcases hA with hA | ⟨g, e⟩
        · exact hA
        · cases e
      omega
    · obtain ⟨g, rfl⟩ : ∃ g, a = ⟨g, 0, none⟩ := by
        rcases hA with ⟨e, _⟩ | ⟨g, e⟩
        · cases e
        · exact ⟨g, Option.some.inj e⟩
      obtain ⟨A', c', e, hr⟩ := Rd.of_own HOW.out
      cases e
      have hcl := (Clone_sl _ _ _ _ _ hr (by omega)).mono (R' := fun e w1 => ∃ A' c', e = .returned (.slice A' n c') ∧
          (w1.ownsRow (w.setCell ⟨x.p, 0, none⟩ (.slice (some ⟨g, 0, none⟩) n c)).heap.size 5 1 (.slice A' n c') n ((x.f.b.take n).map (Value.int .u8)) ∧ Below (w.setCell ⟨x.p, 0, none⟩ (.slice (some ⟨g, 0, none⟩) n c)).heap.size (w.setCell ⟨x.p, 0, none⟩ (.slice (some ⟨g, 0, none⟩) n c)) w1 ∧
            w1.heap[x.p]? = some (.cells #[.slice (some ⟨g, 0, none⟩) n c, .int .i64 M] 69 (0, 0))) ∧ w1.frozen? ⟨x.p, 0, none⟩ = false ∧ w1.cell? ⟨x.p, 0, none⟩ = some (.slice (some ⟨g, 0, none⟩) n c)) (by
        rintro e w1 ⟨A', c', rfl, h1, h2⟩
        have h3 := (h2.block x.p (by simp [World.setCell]; exact hp)).trans HHW.out
        obtain ⟨q0, _, q2, _⟩ := two_cells h3
        exact ⟨A', c', rfl, ⟨h1, h2, h3⟩, q2, q0⟩)
      clear hr
      have HCL := Lib.hid hcl
      have hgp := hvp g rfl
      clear hcl hvp hA
      go_enter Try.func44, Try.ntmps44
      go_wp2_with (go_at_call 31; refine HCL.out.mono ?_; rintro e w1 ⟨A2, c2, rfl, hx1, q1, q2⟩; have HX1 := Lib.hid hx1; clear hx1)
      go_end0
      obtain ⟨h1, h2, h3⟩ := HX1.out
      refine ⟨rfl, ?_, .slice A2 n c2, ?_, ?_, ?_⟩
      · exact (HC.trans (Chg.of_below h2) (fun _ _ h => h)).trans (Chg.set _ _ _ _) fun _ _ h => h
      · rw [HM.out]; exact two_set0 h3 _
      · have h4 := own_base h1 (Nat.zero_le _)
        exact (Chg.set _ _ _ _).own h4 fun g' hg' => by
          have := (h1.lt g' hg').1
          simp [World.setCell] at this
          omega
      · intro g' hg'
        have := h1.lt g' hg'
        have h5 := h2.size
        simp [World.setCell] at this h5 ⊢
        omega
  · have hk1 : (c : Int) / 2 ≤ n := by omega
    clear hvp
    have hfin : ∀ e, e = Ending.returned (.tuple #[]) → KeepSaid x n w e (w.setCell ⟨x.p, 0, none⟩ (.slice A n c)) := fun e he =>
      ⟨he, HC, _, by rw [HM.out]; exact HHW.out, HOW.out, fun g hg => .inl (by
        rw [HVV.out]
        rcases A with _ | a
        · cases hg
        · exact hg)⟩
    have HFIN := Lib.hid hfin
    clear hfin HC
    rcases hA with ⟨rfl, rfl, rfl⟩ | ⟨g, rfl⟩
    · obtain rfl : n = 0 := by omega
      go_enter Try.func44, Try.ntmps44
      go_wp2_with fail
      go_end0
      exact HFIN.out _ rfl
    · go_enter Try.func44, Try.ntmps44
      go_wp2_with fail
      go_end0
      exact HFIN.out _ rfl
end Go.Proofs.Ytpolkhippblcmaa
