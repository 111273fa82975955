/- What is proved here: what isName, strings.Clone, bytes.Clone and the file's own methods return. -/
/- What is proved here: what the disk's Used, Loose, Read and New return. -/
/- What is proved here: what becomes of a disk when one of its files is written, and what the methods that write return. -/
/- What is proved here: what 'put' does. -/
import Derived.Test.YtnomicnmpllajaaGreatDoorPFu1
import Derived.Test.YtnomicnmpllajaaGreatDoorShelf
import Derived.Deep.QuietTactic
import Derived.BigQuiet
import Derived.Deep.DeepCutAuto
import Derived.Deep.RegionWith
import Derived.StillTailTactics
import Derived.WalkSmall
import Derived.WalkLawsBesides
import Derived.RegionTactic
import Derived.ChangeAlike
import Derived.IntWalk
import Derived.Deep.RegionHeld3
import Derived.Deep.RegionLaw
import Derived.Maps.OwnOps
section
namespace Go.Proofs.YtnomicnmpllajaaGreatDoor
open Go Go.RowKit

/-- May a name be? -/
def nameOk (k : List UInt8) : Bool := !k.isEmpty && decide (k.length ≤ 32) && !k.contains 10

theorem indexByte_lt (k : List UInt8) (c : UInt8) : decide (Lib.indexByte k c < 0) = !k.contains c := by
  induction k with
  | nil => rfl
  | cons x r ih =>
    unfold Lib.indexByte
    have h1 := Lib.indexByte_ge r c
    by_cases hx : x = c
    · subst hx
      simp
    · have hx' : (x == c) = false := by simpa using hx
      have hcx : (c == x) = false := by simpa using fun e => hx e.symm
      rw [List.contains_cons, hcx, Bool.false_or, ← ih]
      simp only [hx', Bool.false_eq_true, if_false]
      by_cases h2 : Lib.indexByte r c = -1
      · rw [h2]; rfl
      · have h3 : (Lib.indexByte r c == -1) = false := by simpa using h2
        simp only [h3, Bool.false_eq_true, if_false]
        rw [decide_eq_false (by omega), decide_eq_false (by omega)]

set_option maxHeartbeats 400000 in
theorem isName_any (s : ByteArray) (w : World) (hs : s.size ≤ maxLen) :
    Calls Tryz.prog 66 #[.string s] w fun e w' => e = .returned (.bool (nameOk s.data.toList)) ∧ w = w' := by
  unfold maxLen at hs
  have HI := Lib.hid (indexByte_lt s.data.toList 10)
  have hge := Lib.indexByte_ge s.data.toList 10
  go_enter Tryz.func66, Tryz.ntmps66
  go_wp2_with (go_at_call 92; refine (Tryz.strings_IndexByte s 10 _).mono ?_; rintro e w' ⟨rfl, rfl⟩)
  · have h : s.toList = [] := by assumption
    go_ret
    refine ⟨?_, rfl⟩
    rw [ByteArray.toList_eq] at h
    unfold nameOk
    rw [h]
    rfl
  · have h : ¬ s.toList = [] := by assumption
    have h2 : (s.size : Int) ≤ 32 := by assumption
    go_ret
    refine ⟨?_, rfl⟩
    rw [ByteArray.toList_eq] at h ⊢
    unfold nameOk
    have h3 : s.data.toList.length ≤ 32 := by rw [Array.length_toList]; exact (by omega : s.size ≤ 32)
    rw [HI.out, decide_eq_true h3, Bool.and_true]
    rfl
  · have h : ¬ s.toList = [] := by assumption
    have h2 : 32 < (s.size : Int) := by assumption
    go_ret
    refine ⟨?_, rfl⟩
    unfold nameOk
    have h3 : ¬ s.data.toList.length ≤ 32 := by rw [Array.length_toList]; exact (by omega : ¬ s.size ≤ 32)
    rw [decide_eq_false h3, Bool.and_false, Bool.false_and]
    rfl

set_option maxHeartbeats 400000 in
theorem sClone_any (s : ByteArray) (w : World) (hs : s.size ≤ 1000000) :
    Calls Tryz.prog 93 #[.string s] w fun e w' => e = .returned (.string s) ∧ Below w.heap.size w w' := by
  go_enter Tryz.func93, Tryz.ntmps93
  go_wp2_with (go_at_call 109; refine (Tryz.stringslite_Clone s _ (by omega)).mono ?_; rintro e w1 ⟨rfl, hb⟩)
  go_ret
  exact ⟨rfl, hb⟩

set_option maxHeartbeats 400000 in
theorem Clone_any (A : Option Addr) (n c : Nat) (xs : List Int) (w : World) (h : Rd w w.heap.size .u8 A n c xs) (hn : n ≤ 2000000) :
    Calls Tryz.prog 55 #[.slice A n c] w fun e w' =>
      ∃ v, e = .returned v ∧ w'.ownsRow w.heap.size 5 1 v n (xs.map (Value.int .u8)) ∧ Below w.heap.size w w' := by
  obtain ⟨i0, hi, hz0, hz1, hz2⟩ := info_parts info_u8
  rcases A with _ | a
  · obtain ⟨rfl, rfl⟩ := h.nil rfl
    have hx : xs = [] := List.eq_nil_of_length_eq_zero h.len
    subst hx
    have hq := @Lib.run_eql_slice_nil Tryz.prog
    go_enter Tryz.func55, Tryz.ntmps55
    go_wp2
    go_ret
    exact ⟨_, rfl, World.ownsRow_nil _ _ _ _, Below.refl _ _⟩
  · have hq := @Lib.run_eql_slice_nil Tryz.prog
    have hl := h.len
    have hown0 := fun (W : World) => World.ownsRow_lit (e := 5) (size := 1) W #[] 0 (Nat.le_refl _) (by decide) rfl
    have HO := Lib.hid hown0
    clear hown0
    go_enter Tryz.func55, Tryz.ntmps55
    go_wp2_with (at_builtin
                 refine wpList_append_src rfl _ _ 33 rfl w.heap.size 5 i0 _ 1 1 Tryz.underlying33 hi hz0 hz1 hz2 rfl (by omega) _ 0 [] rfl (HO.out w) (some a) n c (xs.map (Value.int .u8)) rfl (by simpa using hl) h.nil (h.alloc (Nat.le_refl _) _).news (ints_oneCell _ _) (by unfold maxLen; omega) (by omega) (by simp) ?_
                 intro v2 w2 hown2 hg2)
    go_ret
    refine ⟨v2, rfl, by simpa using hown2, ((Below.refl _ _).alloc (Nat.le_refl _) _).grown hg2 (by simp) (fun k hk => ((HO.out w).lt k hk).1)⟩

theorem Clone_sl (A : Option Addr) (n c : Nat) (xs : List Int) (w : World) (h : Rd w w.heap.size .u8 A n c xs) (hn : n ≤ 2000000) :
    Calls Tryz.prog 55 #[.slice A n c] w fun e w' =>
      ∃ A' c', e = .returned (.slice A' n c') ∧ w'.ownsRow w.heap.size 5 1 (.slice A' n c') n (xs.map (Value.int .u8)) ∧ Below w.heap.size w w' := by
  refine (Clone_any A n c xs w h hn).mono ?_
  rintro e w' ⟨v, rfl, h1, h2⟩
  obtain ⟨A', c', rfl, _⟩ := Rd.of_own h1
  exact ⟨A', c', rfl, h1, h2⟩

/-- A slice's first elements. -/
theorem Rd.take {w : World} {B : Nat} {k : IntKind} {A : Option Addr} {n c : Nat} {xs : List Int} (h : Rd w B k A n c xs) {m : Nat} (hm : m ≤ n) : Rd w B k A m c (xs.take m) :=
  ⟨by rw [List.length_take, h.len]; omega, by have := h.cap; omega, h.max, fun e => by have := h.nil e; omega, fun j u hu => by
    rw [List.getElem?_take] at hu
    split at hu
    · exact h.place j u hu
    · cases hu⟩

theorem FileAt.lens {w : World} {x : Fil} (h : FileAt w x) : ∃ A c, x.v = .slice A x.f.b.length c ∧ Rd w w.heap.size .u8 A x.f.b.length c x.f.b := Rd.of_own h.own

set_option maxHeartbeats 400000 in
theorem loose_any (x : Fil) (w : World) (h : FileAt w x) :
    Calls Tryz.prog 51 #[.pointer (some ⟨x.p, 0, none⟩)] w fun e w' => e = .returned (.int .i64 ((x.f.b.length - x.f.s : Nat) : Int)) ∧ ∃ n, w' = w.drewN n := by
  obtain ⟨A, c, hv, hr⟩ := h.lens
  have hm := h.syn
  have hc := hr.cap
  have hx := hr.max
  unfold maxLen at hx
  obtain ⟨c0, c1, _, _⟩ := two_cells h.blk
  rw [hv] at c0
  have HS : Hid (((x.f.b.length : Nat) : Int) - (x.f.s : Int) = ((x.f.b.length - x.f.s : Nat) : Int)) := Lib.hid (by omega)
  generalize x.f.b.length = N at *
  generalize x.f.s = M at *
  clear h hr hv
  go_enter Tryz.func51, Tryz.ntmps51
  go_wp2
  go_quiet (fail)
  go_wp2
  go_ret
  exact ⟨by rw [HS.out]; rfl, _, rfl⟩

/-- A slot of a file is set. -/
theorem sync_any (p n : Nat) (v : Value) (s : Int) (xs : List Value) (w : World) (hb : w.heap[p]? = some (.cells #[v, .int .i64 s] 95 (0, 0))) (ho : w.ownsRow 0 5 1 v n xs) :
    Calls Tryz.prog 89 #[.pointer (some ⟨p, 0, none⟩)] w fun e w' => e = .returned (.tuple #[]) ∧ w' = w.setCell ⟨p, 1, none⟩ (.int .i64 n) := by
  obtain ⟨A, c, rfl, hc, hx⟩ : ∃ A c, v = .slice A n c ∧ n ≤ c ∧ c ≤ maxLen := by
    rcases ho.2 with ⟨rfl, rfl⟩ | ⟨g, cap, cur, rfl, _, _, h1, h2, _⟩
    · exact ⟨none, 0, rfl, Nat.le_refl _, Nat.zero_le _⟩
    · exact ⟨_, cap, rfl, h1, h2⟩
  unfold maxLen at hx
  obtain ⟨c0, c1, f0, f1⟩ := two_cells hb
  clear ho hb
  go_enter Tryz.func89, Tryz.ntmps89
  go_wp2
  go_end0
  exact ⟨rfl, rfl⟩

theorem own_take {w : World} {base e N n : Nat} {v : Value} {xs : List Value} (h : w.ownsRow base e 1 v N xs) (hn : n ≤ N) :
    ∃ A c, v = .slice A N c ∧ w.ownsRow base e 1 (.slice A n c) n (xs.take n) ∧ N ≤ c ∧ c ≤ maxLen ∧ ((A = none ∧ N = 0 ∧ c = 0) ∨ ∃ g, A = some ⟨g, 0, none⟩) := by
  have hl : xs.length = N := by simpa using h.1
  rcases h.2 with ⟨rfl, rfl⟩ | ⟨g, cap, cur, rfl, hb, hg, hnc, hcm, hcs, ht⟩
  · obtain rfl : n = 0 := by omega
    exact ⟨none, 0, rfl, by simpa using World.ownsRow_nil w base e 1, Nat.le_refl _, by unfold maxLen; omega, .inl ⟨rfl, rfl, rfl⟩⟩
  · refine ⟨_, cap, rfl, ⟨by simp; omega, .inr ⟨g, cap, cur, rfl, hb, hg, by omega, hcm, hcs, ?_⟩⟩, hnc, hcm, .inr ⟨g, rfl⟩⟩
    rw [← ht, List.take_take, Nat.mul_one, Nat.mul_one, Nat.min_eq_left hn]

/-- What 'keep' does. -/
def KeepSaid (x : Fil) (n : Nat) (w : World) (e : Ending) (w' : World) : Prop :=
  e = .returned (.tuple #[]) ∧ Chg (fun k => k = x.p) w w' ∧ ∃ v, w'.heap[x.p]? = some (.cells #[v, .int .i64 x.f.s] 95 (0, 0)) ∧
    w'.ownsRow 0 5 1 v n ((x.f.b.take n).map (Value.int .u8)) ∧ ∀ g, v.ownBlock = some g → x.v.ownBlock = some g ∨ (w.heap.size ≤ g ∧ g < w'.heap.size)

set_option maxHeartbeats 800000 in
theorem keep_any (x : Fil) (n : Nat) (w : World) (h : FileAt w x) (hn : n ≤ x.f.b.length) (hbig : x.f.b.length ≤ 2000000) :
    Calls Tryz.prog 88 #[.pointer (some ⟨x.p, 0, none⟩), .int .i64 n] w (KeepSaid x n w) := by
  obtain ⟨A, c, hv, hown, hc, hm, hA⟩ := own_take h.own hn
  unfold maxLen at hm
  rw [← List.map_take] at hown
  obtain ⟨c0, c1, f0, f1⟩ := two_cells h.blk
  have hblk := h.blk
  have hp := lt_of_block hblk
  rw [hv] at c0 hblk
  have hvp : ∀ g, A = some ⟨g, 0, none⟩ → g ≠ x.p := fun g e e2 => by
    obtain ⟨cur, hg⟩ := h.row (g := g) (by rw [hv, e]; rfl)
    rw [e2, h.blk] at hg
    simp at hg
  have hW : (w.setCell ⟨x.p, 0, none⟩ (.slice A n c)).heap[x.p]? = some (.cells #[.slice A n c, .int .i64 x.f.s] 95 (0, 0)) := two_set0 hblk _
  have HC : Chg (fun k => k = x.p) w (w.setCell ⟨x.p, 0, none⟩ (.slice A n c)) := Chg.set w _ _ _
  have hownW := HC.own hown fun g hg => by
    rcases A with _ | a
    · cases hg
    · simp [Value.ownBlock] at hg
      rcases hA with ⟨e, _⟩ | ⟨g', e⟩
      · cases e
      · cases e
        exact hvp _ (by rw [← hg])
  have hnc : (n : Int) ≤ c := by omega
  have hN : (n : Int) ≤ x.f.b.length := by omega
  have HVV : Hid (x.v = .slice A x.f.b.length c) := Lib.hid hv
  have HB := Lib.hid hblk
  have HOW := Lib.hid hownW
  have HHW := Lib.hid hW
  generalize hM : x.f.s = M at *
  generalize hNN : x.f.b.length = N at *
  have HN := Lib.hid hNN
  have HM := Lib.hid hM
  clear hNN hM hblk hv hownW hW hown h
  by_cases hk : (n : Int) < (c : Int) / 2
  · have hk1 := hk
    rcases A with _ | a
    · obtain ⟨_, rfl, rfl⟩ : _ ∧ N = 0 ∧ c = 0 := by
        rcases hA with hA | ⟨g, e⟩
        · exact hA
        · cases e
      omega
    · obtain ⟨g, rfl⟩ : ∃ g, a = ⟨g, 0, none⟩ := by
        rcases hA with ⟨e, _⟩ | ⟨g, e⟩
        · cases e
        · exact ⟨g, Option.some.inj e⟩
      obtain ⟨A', c', e, hr⟩ := Rd.of_own HOW.out
      cases e
      have hcl := (Clone_sl _ _ _ _ _ hr (by omega)).mono (R' := fun e w1 => ∃ A' c', e = .returned (.slice A' n c') ∧
          (w1.ownsRow (w.setCell ⟨x.p, 0, none⟩ (.slice (some ⟨g, 0, none⟩) n c)).heap.size 5 1 (.slice A' n c') n ((x.f.b.take n).map (Value.int .u8)) ∧ Below (w.setCell ⟨x.p, 0, none⟩ (.slice (some ⟨g, 0, none⟩) n c)).heap.size (w.setCell ⟨x.p, 0, none⟩ (.slice (some ⟨g, 0, none⟩) n c)) w1 ∧
            w1.heap[x.p]? = some (.cells #[.slice (some ⟨g, 0, none⟩) n c, .int .i64 M] 95 (0, 0))) ∧ w1.frozen? ⟨x.p, 0, none⟩ = false ∧ w1.cell? ⟨x.p, 0, none⟩ = some (.slice (some ⟨g, 0, none⟩) n c)) (by
        rintro e w1 ⟨A', c', rfl, h1, h2⟩
        have h3 := (h2.block x.p (by simp [World.setCell]; exact hp)).trans HHW.out
        obtain ⟨q0, _, q2, _⟩ := two_cells h3
        exact ⟨A', c', rfl, ⟨h1, h2, h3⟩, q2, q0⟩)
      clear hr
      have HCL := Lib.hid hcl
      have hgp := hvp g rfl
      clear hcl hvp hA
      go_enter Tryz.func88, Tryz.ntmps88
      go_wp2_with (go_at_call 55; refine HCL.out.mono ?_; rintro e w1 ⟨A2, c2, rfl, hx1, q1, q2⟩; have HX1 := Lib.hid hx1; clear hx1)
      go_end0
      obtain ⟨h1, h2, h3⟩ := HX1.out
      refine ⟨rfl, ?_, .slice A2 n c2, ?_, ?_, ?_⟩
      · exact (HC.trans (Chg.of_below h2) (fun _ _ h => h)).trans (Chg.set _ _ _ _) fun _ _ h => h
      · rw [HM.out]; exact two_set0 h3 _
      · have h4 := own_base h1 (Nat.zero_le _)
        exact (Chg.set _ _ _ _).own h4 fun g' hg' => by
          have := (h1.lt g' hg').1
          simp [World.setCell] at this
          omega
      · intro g' hg'
        have := h1.lt g' hg'
        have h5 := h2.size
        simp [World.setCell] at this h5 ⊢
        omega
  · have hk1 : (c : Int) / 2 ≤ n := by omega
    clear hvp
    have hfin : ∀ e, e = Ending.returned (.tuple #[]) → KeepSaid x n w e (w.setCell ⟨x.p, 0, none⟩ (.slice A n c)) := fun e he =>
      ⟨he, HC, _, by rw [HM.out]; exact HHW.out, HOW.out, fun g hg => .inl (by
        rw [HVV.out]
        rcases A with _ | a
        · cases hg
        · exact hg)⟩
    have HFIN := Lib.hid hfin
    clear hfin HC
    rcases hA with ⟨rfl, rfl, rfl⟩ | ⟨g, rfl⟩
    · obtain rfl : n = 0 := by omega
      go_enter Tryz.func88, Tryz.ntmps88
      go_wp2_with fail
      go_end0
      exact HFIN.out _ rfl
    · go_enter Tryz.func88, Tryz.ntmps88
      go_wp2_with fail
      go_end0
      exact HFIN.out _ rfl
end Go.Proofs.YtnomicnmpllajaaGreatDoor
end

section
namespace Go.Proofs.YtnomicnmpllajaaGreatDoor
open Go Go.RowKit

/-- The file of a name. -/
def findN (S : List RF) (k : List UInt8) : Option RF := S.find? fun f => f.nm == k
theorem findN_map (L : List Fil) (k : List UInt8) : findN (L.map Fil.f) k = (L.find? fun x => x.nm == k).map Fil.f := by
  unfold findN
  rw [List.find?_map]
  rfl
theorem findN_none {S : List RF} {k : List UInt8} (h : findN S k = none) : ∀ f ∈ S, f.nm ≠ k := fun f hf => by
  simpa using List.find?_eq_none.1 h f hf
theorem findN_mem {S : List RF} {k : List UInt8} {f : RF} (h : findN S k = some f) : f ∈ S ∧ f.nm = k :=
  ⟨List.mem_of_find?_eq_some h, by simpa using List.find?_some h⟩
theorem findN_some {S : List RF} (h : Rising RF.nm S) {f : RF} (hf : f ∈ S) : findN S f.nm = some f := by
  cases e : findN S f.nm with
  | none => exact absurd rfl (findN_none e f hf)
  | some g => rw [h.one (findN_mem e).1 hf (findN_mem e).2]

section
variable {w : World} {d m : Nat} {room : Int} {L : List Fil} {Φ : Nat → Prop}
/-- There is a file of that name, or there is none. -/
theorem DiskL.cases (_h : DiskL w d m room L Φ) (k : List UInt8) :
    (findN (L.map Fil.f) k = none ∧ ptrTo L k = .pointer none ∧ ∀ x ∈ L, x.nm ≠ k) ∨
    ∃ x ∈ L, x.nm = k ∧ findN (L.map Fil.f) k = some x.f ∧ ptrTo L k = .pointer (some ⟨x.p, 0, none⟩) := by
  rw [findN_map]
  cases e : L.find? (fun x => x.nm == k) with
  | none =>
    refine .inl ⟨rfl, by unfold ptrTo; rw [e], fun x hx => by simpa using List.find?_eq_none.1 e x hx⟩
  | some x => exact .inr ⟨x, List.mem_of_find?_eq_some e, by simpa using List.find?_some e, rfl, by unfold ptrTo; rw [e]⟩
end

theorem Used_any {w : World} {d : Nat} {room : Int} {S : List RF} {Φ : Nat → Prop} (h : DiskAt w d room S Φ) :
    Calls Tryz.prog 28 #[.pointer (some ⟨d, 0, none⟩)] w fun e w' => e = .returned (.int .i64 (usedN S)) ∧ w = w' := by
  obtain ⟨m, L, rfl, h⟩ := h
  obtain ⟨c0, c1, c2, _⟩ := three_cells h.blk
  clear h
  go_enter Tryz.func28, Tryz.ntmps28
  go_wp2
  go_ret
  exact ⟨rfl, rfl⟩

def looseF (S : List RF) (k : List UInt8) : Nat := match findN S k with | some f => f.b.length - f.s | none => 0

/-- What Read returns. -/
def ReadSaid (S : List RF) (k : List UInt8) (w : World) (e : Ending) (w' : World) : Prop :=
  Below w.heap.size w w' ∧ ((findN S k = none ∧ e = .returned (.tuple #[.slice none 0 0, .int .i64 6])) ∨
    ∃ f A c, findN S k = some f ∧ e = .returned (.tuple #[.slice A f.b.length c, .int .i64 0]) ∧ w'.ownsRow w.heap.size 5 1 (.slice A f.b.length c) f.b.length (f.b.map (Value.int .u8)))

theorem FileAt.rd {w : World} {x : Fil} (h : FileAt w x) : ∃ A c, x.v = .slice A x.f.b.length c ∧ Rd w w.heap.size .u8 A x.f.b.length c x.f.b := Rd.of_own h.own

set_option maxHeartbeats 400000 in
theorem Read_any {w : World} {d : Nat} {room : Int} {S : List RF} {Φ : Nat → Prop} (h : DiskAt w d room S Φ) (s : ByteArray) (hs : s.size ≤ maxLen) :
    Calls Tryz.prog 41 #[.pointer (some ⟨d, 0, none⟩), .string s] w (ReadSaid S s.data.toList w) := by
  obtain ⟨m, L, rfl, h⟩ := h
  obtain ⟨c0, c1, c2, _⟩ := three_cells h.blk
  have hlk := h.map.look s hs
  rcases h.cases s.data.toList with ⟨h1, h2, _⟩ | ⟨x, hx, _, h1, h2⟩
  · have HF : ∀ e, e = .returned (.tuple #[.slice none 0 0, .int .i64 6]) → ReadSaid (L.map Fil.f) s.data.toList w e w := fun e he => ⟨Below.refl _ _, .inl ⟨h1, he⟩⟩
    have HF' := Lib.hid HF
    rw [h2] at hlk
    clear h h1 h2 HF
    go_enter Tryz.func41, Tryz.ntmps41
    go_wp2
    go_ret2
    exact HF'.out _ rfl
  · have hf := h.file x hx
    obtain ⟨A, c, hv, hr⟩ := hf.rd
    obtain ⟨q0, _⟩ := two_cells hf.blk
    rw [hv] at q0
    have hbig : x.f.b.length ≤ 2000000 := by
      have h3 := usedN_mem (List.mem_map_of_mem (f := Fil.f) hx)
      have h4 := h.used
      have h5 := h.rm
      omega
    have hcl := Clone_sl _ _ _ _ _ hr hbig
    have HF : ∀ e w1, (∃ A' c', e = .returned (.tuple #[.slice A' x.f.b.length c', .int .i64 0]) ∧ w1.ownsRow w.heap.size 5 1 (.slice A' x.f.b.length c') x.f.b.length (x.f.b.map (Value.int .u8)) ∧ Below w.heap.size w w1) → ReadSaid (L.map Fil.f) s.data.toList w e w1 := by
      rintro e w1 ⟨A', c', he, ho, hb⟩
      exact ⟨hb, .inr ⟨x.f, A', c', h1, he, ho⟩⟩
    have HF' := Lib.hid HF
    have HCL := Lib.hid hcl
    rw [h2] at hlk
    generalize x.f.b.length = N at *
    clear h h1 h2 HF hcl hf hr hv hx
    go_enter Tryz.func41, Tryz.ntmps41
    go_wp2_with (go_at_call 55; refine HCL.out.mono ?_; rintro e w1 ⟨A', c', rfl, ho, hb⟩)
    go_ret2
    exact HF'.out _ _ ⟨A', c', rfl, ho, hb⟩

theorem New_math (w : World) (room : Int) (h : 0 ≤ room ∧ room ≤ 1048576) :
    DiskAt ((w.alloc (.map #[] 0)).alloc (.cells #[.int .i64 room, .int .i64 0, .map (some w.heap.size)] 79)) (w.heap.size + 1) room [] (fun k => w.heap.size ≤ k ∧ k < w.heap.size + 2) := by
  refine ⟨w.heap.size, [], rfl, ?_, ?_, ?_, List.Pairwise.nil, List.Pairwise.nil, h, ?_, ?_⟩
  · have := heap_alloc_new (w.alloc (.map #[] 0)) (.cells #[.int .i64 room, .int .i64 0, .map (some w.heap.size)] 79)
    simpa [usedN] using this
  · exact (World.ownsMap_made w Tryz.prog 9 ptrElem).alloc _
  · intro x hx; cases hx
  · simpa [usedN] using h.1
  · exact ⟨by omega, by omega, fun x hx => by cases hx⟩

def clampR (n : Int) : Int := min (max n 0) 1048576
theorem clampR_in (n : Int) : 0 ≤ clampR n ∧ clampR n ≤ 1048576 := by unfold clampR; omega
set_option maxHeartbeats 400000 in
theorem New_any (n : Int) (w : World) :
    Calls Tryz.prog 14 #[.int .i64 n] w fun e w' => e = .returned (.pointer (some ⟨w.heap.size + 1, 0, none⟩)) ∧ Below w.heap.size w w' ∧ w'.heap.size = w.heap.size + 2 ∧
      DiskAt w' (w.heap.size + 1) (clampR n) [] (fun k => w.heap.size ≤ k ∧ k < w.heap.size + 2) := by
  have HM := Lib.hid (New_math w (clampR n) (clampR_in n))
  have hmm := @run_makeMap Tryz.prog
  go_enter Tryz.func14, Tryz.ntmps14
  go_wp2
  go_ret
  refine ⟨by simp, ((Below.refl _ _).alloc (Nat.le_refl _) _).alloc (by simp) _, by simp, ?_⟩
  have := HM.out
  unfold clampR at this ⊢
  simpa using this
end Go.Proofs.YtnomicnmpllajaaGreatDoor
end

section
namespace Go.Proofs.YtnomicnmpllajaaGreatDoor
open Go Go.RowKit

/-- What speaks of a disk's blocks goes on to speak of them, and of all new ones. -/
def grow (Φ : Nat → Prop) (w w' : World) (k : Nat) : Prop := Φ k ∨ (w.heap.size ≤ k ∧ k < w'.heap.size)
/-- Of a disk all but one file's blocks, and its own, stay. -/
def foot (d : Nat) (x : Fil) (k : Nat) : Prop := k = d ∨ k = x.p ∨ x.v.ownBlock = some k

section
variable {w w' : World} {d m : Nat} {room : Int} {L : List Fil} {Φ : Nat → Prop}
theorem fil_name (x : Fil) : RF.nm (Fil.f x) = Fil.nm x := rfl
theorem DiskL.touch (h : DiskL w d m room L Φ) {x x' : Fil} (hx : x ∈ L) (hp : x'.p = x.p) (hn : x'.f.nm = x.f.nm) (hc : Chg (foot d x) w w') {U : Nat}
    (hd : w'.heap[d]? = some (.cells #[.int .i64 room, .int .i64 U, .map (some m)] 79 (0, 0)))
    (hU : U + x.f.b.length = usedN (L.map Fil.f) + x'.f.b.length) (hf : FileAt w' x')
    (hv : ∀ g, x'.v.ownBlock = some g → x.v.ownBlock = some g ∨ (w.heap.size ≤ g ∧ g < w'.heap.size)) (hu : (U : Int) ≤ room) :
    DiskL w' d m room (putN Fil.nm x' L) (grow Φ w w') := by
  have hnm : x.nm = x'.nm := hn.symm
  have hrep := putN_replace h.srt hx hnm
  have huse : usedN ((putN Fil.nm x' L).map Fil.f) = U := by
    rw [map_putN fil_name]
    have := usedN_put (h.srt.map (g := Fil.f) fil_name) (List.mem_map_of_mem (f := Fil.f) hx) (y := x'.f) hnm
    omega
  have hone : ∀ z ∈ L, z.nm = x'.nm → z = x := fun z hz e => h.srt.one hz hx (e.trans hn)
  have hm_foot : ¬ foot d x m := by
    rintro (e | e | e)
    · exact h.m_d e
    · exact h.m_p hx e.symm
    · exact h.v_m hx e
  have hother : ∀ y ∈ L, y.nm ≠ x'.nm → Apart x y ∧ ¬ foot d x y.p ∧ ∀ g, y.v.ownBlock = some g → ¬ foot d x g := fun y hy hne => by
    have hap := h.two hx hy (fun e => hne (e.symm.trans hnm))
    refine ⟨hap, ?_, fun g hg => ?_⟩
    · rintro (e | e | e)
      · exact h.d_p hy e
      · exact hap.1 e.symm
      · exact h.v_p hx hy e
    · rintro (e | e | e)
      · exact h.v_d hy (by rw [hg, e])
      · exact h.v_p hy hx (by rw [hg, e])
      · exact hap.2 g e hg
  refine ⟨?_, ?_, fun y hy => ?_, h.srt.putN x', ?_, h.rm, ?_, .inl h.inn.1, .inl h.inn.2.1, fun y hy => ?_⟩
  · rw [huse]; exact hd
  · have e1 : datOf (putN Fil.nm x' L) = datOf L := by
      unfold datOf
      rw [hrep, List.map_map]
      congr 1
      apply List.map_congr_left
      intro z hz
      show entryOf (if z.nm == x'.nm then x' else z) = entryOf z
      split
      · rename_i e
        rw [hone z hz (by simpa using e)]
        unfold entryOf
        rw [hp]
        show (Lit.string x'.f.nm, _) = (Lit.string x.f.nm, _)
        rw [hn]
      · rfl
    have e2 : (putN Fil.nm x' L).length = L.length := by rw [hrep, List.length_map]
    show w'.ownsMap _ _ _ _ _ _
    rw [e1, e2]
    exact h.map.keep hc hm_foot
  · rcases mem_putN.1 hy with rfl | ⟨hy, hne⟩
    · exact hf
    · obtain ⟨_, h1, h2⟩ := hother y hy hne
      exact (h.file y hy).keep hc h1 h2
  · rw [hrep]
    refine List.pairwise_map.2 ((List.Pairwise.and h.srt h.apart).imp_of_mem fun {a b} ha hb hab => ?_)
    obtain ⟨hab1, hab2⟩ := hab
    have hne : a.nm ≠ b.nm := fun e => by rw [e, WideAt.bytes_irrefl] at hab1; cases hab1
    have key : ∀ z ∈ L, z.nm ≠ x'.nm → Apart x' z := fun z hz hz2 => by
      obtain ⟨h1, _, _⟩ := hother z hz hz2
      refine ⟨by rw [hp]; exact h1.1, fun g hg e => ?_⟩
      rcases hv g hg with h3 | h3
      · exact h1.2 g h3 e
      · have := ((h.file z hz).own.lt g e).2
        omega
    by_cases h1 : a.nm = x'.nm
    · have h2 : b.nm ≠ x'.nm := fun e => hne (h1.trans e.symm)
      rw [if_pos (by simp [h1]), if_neg (by simp [h2])]
      exact key b hb h2
    · by_cases h2 : b.nm = x'.nm
      · rw [if_neg (by simp [h1]), if_pos (by simp [h2])]
        exact (key a ha h1).symm
      · rw [if_neg (by simp [h1]), if_neg (by simp [h2])]
        exact hab2
  · rw [huse]; exact hu
  · rcases mem_putN.1 hy with rfl | ⟨hy, _⟩
    · refine ⟨.inl (by rw [hp]; exact (h.inn.2.2 x hx).1), fun g hg => ?_⟩
      rcases hv g hg with h3 | h3
      · exact .inl ((h.inn.2.2 x hx).2 g h3)
      · exact .inr h3
    · exact ⟨.inl (h.inn.2.2 y hy).1, fun g hg => .inl ((h.inn.2.2 y hy).2 g hg)⟩
end

section
variable {w : World} {x : Fil}
theorem FileAt.set (h : FileAt w x) {d : Nat} (hp : x.p ≠ d) (hv : x.v.ownBlock ≠ some d) (i : Nat) (u : Value) : FileAt (w.setCell ⟨d, i, none⟩ u) x :=
  h.keep (Chg.set w d i u) hp fun _ hg e => hv (by rw [hg, e])
theorem FileAt.drew (h : FileAt w x) : FileAt w.drew x := h.keep (Φ := fun _ => False) (Chg.drew w) id fun _ _ => id
end

/-- What is a file's with its first n bytes, all synced. -/
def cutRF (f : RF) (n : Nat) : RF := ⟨f.nm, f.b.take n, n⟩
def ShortSaid (d m : Nat) (room : Int) (L : List Fil) (Φ : Nat → Prop) (x : Fil) (n : Nat) (w : World) (e : Ending) (w' : World) : Prop :=
  e = .returned (.tuple #[]) ∧ Chg (foot d x) w w' ∧ ∃ x' : Fil, x'.p = x.p ∧ x'.f = cutRF x.f n ∧ DiskL w' d m room (putN Fil.nm x' L) (grow Φ w w')

set_option maxHeartbeats 800000 in
set_option maxRecDepth 100000 in
theorem shorten_any {w : World} {d m : Nat} {room : Int} {L : List Fil} {Φ : Nat → Prop} (h : DiskL w d m room L Φ) {x : Fil} (hx : x ∈ L) (n : Nat) (hn : n ≤ x.f.b.length) :
    Calls Tryz.prog 52 #[.pointer (some ⟨d, 0, none⟩), .pointer (some ⟨x.p, 0, none⟩), .int .i64 n] w (ShortSaid d m room L Φ x n w) := by
  have hf := h.file x hx
  obtain ⟨A, c, hv, hr⟩ := hf.rd
  obtain ⟨q0, _⟩ := two_cells hf.blk
  obtain ⟨c0, c1, c2, f0, f1, f2⟩ := three_cells h.blk
  rw [hv] at q0
  have h3 := usedN_mem (List.mem_map_of_mem (f := Fil.f) hx)
  have h4 := h.used
  have h5 := h.rm
  have hbig : x.f.b.length ≤ 2000000 := by omega
  have hdp := h.d_p hx
  have hvd := h.v_d hx
  obtain ⟨U, hU⟩ : ∃ U, U = usedN (L.map Fil.f) - (x.f.b.length - n) := ⟨_, rfl⟩
  have HU : Hid ((usedN (L.map Fil.f) : Int) - ((x.f.b.length : Int) - (n : Int)) = (U : Int)) := Lib.hid (by omega)
  have hW := h.blk
  have HK := Lib.hid fun (W : World) (hW : FileAt W x) => keep_any x n W hW hn hbig
  have hmid : FileAt ((w.setCell ⟨d, 1, none⟩ (.int .i64 U)).drew) x := (hf.set hdp hvd 1 _).drew
  have hend : ∀ w2 v, Chg (fun k => k = x.p) (w.setCell ⟨d, 1, none⟩ (.int .i64 U)).drew w2 → w2.heap[x.p]? = some (.cells #[v, .int .i64 x.f.s] 95 (0, 0)) →
      w2.ownsRow 0 5 1 v n ((x.f.b.take n).map (Value.int .u8)) → (∀ g, v.ownBlock = some g → x.v.ownBlock = some g ∨ ((w.setCell ⟨d, 1, none⟩ (.int .i64 U)).drew.heap.size ≤ g ∧ g < w2.heap.size)) →
      ShortSaid d m room L Φ x n w (.returned (.tuple #[])) (w2.setCell ⟨x.p, 1, none⟩ (.int .i64 n)) := by
    intro w2 v hc2 hb2 ho2 hv2
    have hc1 : Chg (fun k => k = d) w (w.setCell ⟨d, 1, none⟩ (.int .i64 U)).drew := (Chg.set w d 1 _).trans (Chg.drew (Φ := fun k => k = d) _) fun _ _ e => e
    have hc3 := Chg.set w2 x.p 1 (.int .i64 (n : Int))
    have hcc : Chg (foot d x) w (w2.setCell ⟨x.p, 1, none⟩ (.int .i64 n)) := by
      refine Chg.trans (Φ := foot d x) (Chg.trans (Φ := foot d x) (hc1.mono fun i _ e => .inl e) hc2 fun i _ e => .inr (.inl e)) hc3 fun i _ e => .inr (.inl e)
    have hsz : w.heap.size = (w.setCell ⟨d, 1, none⟩ (.int .i64 (U : Int))).drew.heap.size := by simp [World.setCell, World.drew]
    have hl : (x.f.b.take n).length = n := by rw [List.length_take]; omega
    have hvp : v.ownBlock ≠ some x.p := fun e => by
      rcases ho2.2 with ⟨e2, _⟩ | ⟨g', _, cur, e2, _, hg', _⟩
      · rw [e2] at e; cases e
      · rw [e2] at e
        obtain rfl : g' = x.p := by simpa [Value.ownBlock] using e
        rw [hb2] at hg'
        simp at hg'
    have ho3 := hc3.own ho2 fun g hg e => hvp (by rw [hg, e])
    refine ⟨rfl, hcc, ⟨cutRF x.f n, x.p, v⟩, rfl, rfl, ?_⟩
    refine h.touch hx rfl rfl hcc (U := U) ?_ ?_ ⟨two_set1 hb2 _, ?_, ?_, fun y hy => hf.byt y (List.mem_of_mem_take hy), hf.len⟩ (fun g hg => ?_) (by omega)
    · have a1 := three_set1 hW (.int .i64 (U : Int))
      exact hc3.heap (hc2.heap (k := d) a1 fun e => hdp e.symm) fun e => hdp e.symm
    · show U + _ = _ + (x.f.b.take n).length
      omega
    · show (w2.setCell _ _).ownsRow 0 _ 1 v (x.f.b.take n).length ((x.f.b.take n).map _)
      rw [hl]; exact ho3
    · show n ≤ (x.f.b.take n).length
      omega
    · rcases hv2 g hg with e | e
      · exact .inl e
      · refine .inr ⟨by omega, ?_⟩
        simp [World.setCell]
        exact e.2
  have HE := Lib.hid hend
  have HMID := Lib.hid hmid
  have hc := hr.cap
  have hm := hr.max
  unfold maxLen at hm
  generalize usedN (L.map Fil.f) = V at *
  generalize x.f.b.length = N at *
  clear hf hr hend hmid hU hW
  go_enter Tryz.func52, Tryz.ntmps52
  go_wp2_with fail
  have hu : (U : Int) ≤ 9223372036854775807 ∧ (0 : Int) ≤ (U : Int) := by have := HU.out; omega
  obtain ⟨hw1, hw2⟩ : IntKind.i64.wrap ((N : Int) - (n : Int)) = (N : Int) - (n : Int) ∧ IntKind.i64.wrap ((V : Int) - ((N : Int) - (n : Int))) = (U : Int) := ⟨IntWalk.i64_in _ (by omega), by rw [HU.out]; exact IntWalk.i64_in _ (by omega)⟩
  go_still_tail 14, (by kernel_rfl)
  change wpList _ _ _ _ _ w.drew
  clear hw1 hw2
  go_wp2_with (first
    | (go_at_call 88; refine (HK.out _ HMID.out).mono ?_; rintro e w2 ⟨rfl, hc2, v, hb2, ho2, hv2⟩; have HX := Lib.hid (HE.out w2 v hc2 hb2 ho2 hv2); have HB2 := Lib.hid hb2; have HO2 := Lib.hid ho2; clear hc2 hb2 ho2 hv2)
    | (go_at_call 89; refine (sync_any _ _ _ _ _ _ HB2.out HO2.out).mono ?_; rintro e w3 ⟨rfl, rfl⟩))
  go_end0
  exact HX.out
end Go.Proofs.YtnomicnmpllajaaGreatDoor
end

section
namespace Go.Proofs.YtnomicnmpllajaaGreatDoor
open Go Go.RowKit Go.Maps

set_option maxHeartbeats 800000 in
set_option maxRecDepth 100000 in
theorem put_any {w : World} {d m : Nat} {u0 u1 : Value} {L : List Fil} (hb : w.heap[d]? = some (.cells #[u0, u1, .map (some m)] 79 (0, 0))) (hm : DMap w m L) (hl : L.length ≤ 1000000) (x : Fil) (s : ByteArray) (hs : s.data.toList = x.nm) (hs2 : s.size ≤ 1000000) :
    Calls Tryz.prog 67 #[.pointer (some ⟨d, 0, none⟩), .string s, .pointer (some ⟨x.p, 0, none⟩)] w fun e w' => e = .returned (.tuple #[]) ∧ DMap w' m (putN Fil.nm x L) ∧ Chg (fun k => k = m) w w' := by
  obtain ⟨c0, c1, c2, _⟩ := three_cells hb
  have hd := lt_of_block hb
  have hkey : keyOf Tryz.prog 9 (.string s) = some (.string s.data.toList) := Go.WideMaps.keyOf_string_mk Tryz.underlying9 (by unfold maxLen; omega)
  have HCL : Hid (Calls Tryz.prog 93 #[.string s] w.drew fun e w' => ∃ w'', e = .returned (.string s) ∧ w'.cell? ⟨d, 2, none⟩ = some (.map (some m)) ∧
      (Instr.mapUpdate 77 (.map (some m)) (.string s) (.pointer (some ⟨x.p, 0, none⟩))).run Tryz.prog w' = .ok () w'' ∧ Hid (DMap w'' m (putN Fil.nm x L) ∧ Chg (fun k => k = m) w w'')) := Lib.hid ((sClone_any s w.drew hs2).mono (by
    rintro e w' ⟨rfl, h1⟩
    have h2 : Below w.heap.size w w' := (Below.refl w.heap.size w).drew.trans h1
    have h3 := hm.keep (Φ := fun _ => False) (Chg.of_below h2) id
    obtain ⟨w'', hrun, r1, r2⟩ := World.ownsMap.store h3 keyed_str Tryz.underlying77 (by unfold maxLen; omega) hkey (ptrElem_at x.p)
    refine ⟨w'', rfl, ?_, hrun, Lib.hid ?_⟩
    · rw [h2.cell (p := ⟨d, 2, none⟩) hd]
      exact c2
    · have h4 := ownsMap_tight r1
      rw [hs, dat_put, dat_size] at h4
      exact ⟨h4, (Chg.of_below h2).trans (Chg.of_turned r2) fun _ _ e => e⟩))
  clear hb hm hkey hs hs2 hl
  go_enter Tryz.func67, Tryz.ntmps67
  go_wp2_with fail
  go_region_with (go_at_call 93; refine HCL.out.mono ?_; rintro e w1 ⟨w2, rfl, hc1, hr1, HX⟩)
  all_goals
    go_end0
    exact ⟨rfl, HX.out⟩
end Go.Proofs.YtnomicnmpllajaaGreatDoor
end
