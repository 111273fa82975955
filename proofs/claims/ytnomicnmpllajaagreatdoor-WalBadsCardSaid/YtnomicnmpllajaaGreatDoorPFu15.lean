/- What is proved here: plain facts on the segments of a disk: what a file's frames are, and the segments one behind the other. -/
/- What is proved here: which names a log asks for, and what slices.DeleteFunc leaves of a row of names. -/
/- What is proved here: what readSegments does of a disk whose segments stand one behind the other. -/
/- What is proved here: what settle does: each segment is synced, the last one cut, the snapshot synced, and an unfinished one removed. -/
import Derived.Test.YtnomicnmpllajaaGreatDoorPFu14
import Derived.Test.YtnomicnmpllajaaGreatDoorLibW
import Derived.Sort.OwnSorted
section
namespace Go.Proofs.YtnomicnmpllajaaGreatDoor
open Go Go.RowKit

theorem chain_same : ∀ (l l' : List (List Int)) (b : List Int) (u u' : Nat), Chain l b u → Chain l' b u' → whyF (b.drop u) ≠ 0 → whyF (b.drop u') ≠ 0 → l = l' ∧ u = u'
  | [], [], b, u, u', h, h', _, _ => ⟨rfl, (show u = 0 from h).trans (show u' = 0 from h').symm⟩
  | [], y :: ys, b, u, u', h, h', h1, _ => by
    have h0 : u = 0 := h
    subst h0
    exact absurd h'.1 (by simpa using h1)
  | y :: ys, [], b, u, u', h, h', _, h1 => by
    have h0 : u' = 0 := h'
    subst h0
    exact absurd h.1 (by simpa using h1)
  | y :: ys, z :: zs, b, u, u', ⟨_, h2, v, h3, h4⟩, ⟨_, g2, v', g3, g4⟩, h1, h1' => by
    have e : b.drop u = (b.drop (6 + sizeF b)).drop v := by rw [List.drop_drop, h3]
    have e' : b.drop u' = (b.drop (6 + sizeF b)).drop v' := by rw [List.drop_drop, g3]
    rw [e] at h1
    rw [e'] at h1'
    obtain ⟨k1, k2⟩ := chain_same ys zs _ v v' h4 g4 h1 h1'
    subst k1 k2
    exact ⟨by rw [h2, g2], h3.trans g3.symm⟩
theorem whyF_nil : whyF [] ≠ 0 := by decide
/-- Which frames some bytes begin with, and how many bytes these have. -/
structure Parsed (b : List Int) (l : List (List Int)) (u : Nat) : Prop where
  chain : Chain l b u
  le : u ≤ b.length
  why : u < b.length → whyF (b.drop u) ≠ 0
theorem Parsed.stop {b : List Int} {l : List (List Int)} {u : Nat} (h : Parsed b l u) : whyF (b.drop u) ≠ 0 := by
  rcases Nat.lt_or_ge u b.length with h1 | h1
  · exact h.why h1
  · rw [List.drop_of_length_le h1]
    exact whyF_nil
theorem Parsed.same {b : List Int} {l l' : List (List Int)} {u u' : Nat} (h : Parsed b l u) (h' : Parsed b l' u') : l = l' ∧ u = u' := chain_same l l' b u u' h.chain h'.chain h.stop h'.stop
/-- A segment: its first number, its records, how many bytes these have. -/
structure SegF where
  k : Nat
  l : List (List Int)
  u : Nat
/-- Segments, one behind the other, over a snapshot's number. -/
structure SegsAt (S : List RF) (B : Nat) (P : List SegF) : Prop where
  names : (S.map RF.nm).filter (fun s => s.take 3 == [108, 111, 103]) = P.map fun s => segName s.k
  each : ∀ (i : Nat) (s : SegF), P[i]? = some s → s.k < 100000000 ∧ ∃ f, findN S (segName s.k) = some f ∧ Parsed f.b s.l s.u ∧ (i + 1 < P.length → s.u = f.b.length) ∧ ((P.take i).flatMap SegF.l).length + f.b.length ≤ 1000000
  next : ∀ (i : Nat) (s t : SegF), P[i]? = some s → P[i + 1]? = some t → t.k = s.k + s.l.length
  first : ∀ s, P[0]? = some s → 0 < s.k ∧ s.k ≤ B + 1
  last : ∀ (i : Nat) (s : SegF), P[i]? = some s → i + 1 = P.length → B < s.k + s.l.length
/-- The number behind the segments seen so far. -/
def nextN (P : List SegF) : Nat → Nat
  | 0 => 0
  | i + 1 => match P[i]? with
    | some s => s.k + s.l.length
    | none => 0
def segsP (P : List SegF) : List (Nat × Nat) := P.map fun s => (s.k, s.u)
def recsP (B : Nat) (P : List SegF) : List (List Int) := P.flatMap fun s => s.l.drop (B + 1 - s.k)
theorem segsP_more {P : List SegF} {i : Nat} {s : SegF} (h : P[i]? = some s) : segsP (P.take (i + 1)) = segsP (P.take i) ++ [(s.k, s.u)] := by
  have hi := (List.getElem?_eq_some_iff.1 h)
  rw [List.take_succ_eq_append_getElem hi.1]
  unfold segsP
  rw [List.map_append, hi.2]
  rfl
theorem recsP_more {P : List SegF} {B i : Nat} {s : SegF} (h : P[i]? = some s) : recsP B (P.take (i + 1)) = recsP B (P.take i) ++ s.l.drop (B + 1 - s.k) := by
  have hi := (List.getElem?_eq_some_iff.1 h)
  rw [List.take_succ_eq_append_getElem hi.1]
  unfold recsP
  rw [List.flatMap_append, hi.2]
  simp
theorem recsP_le (B : Nat) (P : List SegF) : (recsP B P).length ≤ (P.flatMap SegF.l).length := by
  induction P with
  | nil => simp [recsP]
  | cons s P ih =>
    unfold recsP at ih ⊢
    rw [List.flatMap_cons, List.flatMap_cons, List.length_append, List.length_append, List.length_drop]
    omega
end Go.Proofs.YtnomicnmpllajaaGreatDoor
end

section
namespace Go.Proofs.YtnomicnmpllajaaGreatDoor
open Go Go.RowKit Go.Maps Go.Shelf Go.Lib Go.Sort

/-- Does a name begin as those of segments do? -/
def isLog (s : List UInt8) : Bool := s.take 3 == [108, 111, 103]
theorem take3 (s : ByteArray) : (s.extract 0 3).data.toList = s.data.toList.take 3 := by simp
set_option maxHeartbeats 800000 in
theorem slPrefix_any (s : ByteArray) (w : World) : Calls Tryz.prog 106 #[.string s, .string ⟨#[108, 111, 103]⟩] w fun e w' => e = .returned (.bool (isLog s.data.toList)) ∧ ∃ q, w' = w.drewN q := by
  by_cases h : 3 ≤ s.size
  · have hz : (3 : Int) ≤ s.size := by omega
    have hq : ((s.extract 0 3).toList == [108, 111, 103]) = isLog s.data.toList := by
      unfold isLog
      rw [← take3, ← ByteArray.toList_eq]
    generalize isLog s.data.toList = q at *
    go_enter Tryz.func106, Tryz.ntmps106
    go_wp2_with fail
    go_ret
    exact ⟨rfl, 0, rfl⟩
  · have hz : ¬ (3 : Int) ≤ s.size := by omega
    have hq : isLog s.data.toList = false := by
      unfold isLog
      have hl : s.data.toList.length = s.size := by simp
      cases hb : (s.data.toList.take 3 == [108, 111, 103])
      · rfl
      · have := congrArg List.length (eq_of_beq hb)
        rw [List.length_take, hl] at this
        simp at this
        omega
    rw [hq]
    clear hq
    go_enter Tryz.func106, Tryz.ntmps106
    go_wp2_with fail
    go_ret
    exact ⟨rfl, 0, rfl⟩
set_option maxHeartbeats 800000 in
theorem prefix_any (s : ByteArray) (w : World) : Calls Tryz.prog 85 #[.string s, .string ⟨#[108, 111, 103]⟩] w fun e w' => e = .returned (.bool (isLog s.data.toList)) ∧ ∃ q, w' = w.drewN q := by
  have H := Lib.hid (slPrefix_any s w)
  generalize isLog s.data.toList = q at *
  go_enter Tryz.func85, Tryz.ntmps85
  go_wp2_with (go_at_call 106; refine H.out.mono ?_; rintro e w1 ⟨rfl, m, rfl⟩)
  go_ret
  exact ⟨rfl, m, rfl⟩
theorem closure_log (s : List UInt8) (W : World) : FnGives Tryz.prog 84 #[] #[encStr s] (.bool (!isLog s)) W := by
  show Calls Tryz.prog 84 #[.string ⟨s.toArray⟩] W _
  have H := Lib.hid (prefix_any ⟨s.toArray⟩ W)
  have e : (ByteArray.mk s.toArray).data.toList = s := by simp
  rw [e] at H
  generalize isLog s = q at *
  go_enter Tryz.func84, Tryz.ntmps84
  go_wp2_with (go_at_call 85; refine H.out.mono ?_; rintro e w1 ⟨rfl, m, rfl⟩)
  go_ret
  exact ⟨rfl, m, rfl⟩
theorem zero_str (w : World) : (zeroValue 9).run Tryz.prog w = .ok (encStr []) w := by kernel_rfl
/-- What stays of a row of names. -/
def logN (ns : List (List UInt8)) : List (List UInt8) := ns.filter isLog
theorem delNames {w : World} {rb cap base : Nat} {ns : List (List UInt8)} (hbase : base ≤ rb) (ho : w.ownsRow base 9 1 (.slice (some ⟨rb, 0, none⟩) ns.length cap) ns.length (ns.map encStr)) :
    Calls Tryz.prog 83 #[.slice (some ⟨rb, 0, none⟩) ns.length cap, .func (.func 84) #[] #[]] w fun e w' =>
      e = .returned (.slice (some ⟨rb, 0, none⟩) (logN ns).length cap) ∧ w'.ownsRow base 9 1 (.slice (some ⟨rb, 0, none⟩) (logN ns).length cap) (logN ns).length ((logN ns).map encStr) ∧ Chg (fun i => i = rb) w w' := by
  obtain ⟨cur, hb, hle, hm, h3, h4⟩ : ∃ cur, w.heap[rb]? = some (.cells cur 9 (0, 0)) ∧ ns.length ≤ cap ∧ cap ≤ 9223372036854775807 ∧ cur.size = cap * 1 ∧ cur.toList.take ns.length = ns.map encStr := by
    rcases ho.2 with ⟨e1, _⟩ | ⟨g, cap', cur', e1, _, hg, h1, h2, h3, h4⟩
    · cases e1
    · cases e1
      unfold maxLen at h2
      exact ⟨cur', hg, h1, by omega, h3, by simpa using h4⟩
  have hct : cur.size = cap * 1 ∧ cur.toList.take ns.length = ns.map encStr := ⟨h3, h4⟩
  have hH : Holds encStr w rb 0 ns.toArray := holds_of_block hb hct.2
  have eg : ∀ args w, (callFunc 84 args).run Tryz.prog w = .ok (.enter 84 args) w := enters_of Tryz.func84 (by kernel_rfl) rfl
  have hcon := AnyE.slices_DeleteFunc Tryz.delFunc encStr (fun _ => rfl) (fun x => !isLog x) 84 #[] eg [] zero_str rb 0 cap ns.toArray w
    (fun W x hb => closure_log x W)
    (fun n os dk x _ => closure_log x _) hH (by simp; omega) (by simpa using hle)
  rw [List.size_toArray] at hcon
  have hf : (ns.toArray.toList.filter fun x => !(!isLog x)) = logN ns := by
    unfold logN
    simp
  rw [hf] at hcon
  change Calls Tryz.prog 83 _ _ _ at hcon
  refine hcon.mono ?_
  rintro e w' ⟨rfl, q, hw⟩
  have hfl : (logN ns).length ≤ ns.length := List.length_filter_le _ _
  have hl : ((logN ns) ++ List.replicate (ns.length - (logN ns).length) ([] : List UInt8)).length = ns.length := by simp; omega
  have hw2 : w' = Go.Sort.grow (putRow encStr (Sort.ahead w q) rb 0 ((logN ns) ++ List.replicate (ns.length - (logN ns).length) ([] : List UInt8)).toArray) #[] := by
    rw [Go.Sort.grow_empty]
    exact hw
  refine ⟨rfl, ?_, ?_⟩
  · have h1 := ownsRow_sorted (n := q) (os := #[]) (base := base) (ts := (logN ns) ++ List.replicate (ns.length - (logN ns).length) ([] : List UInt8)) hl hbase hb hle (by unfold maxLen; omega) hct.1
    rw [← hw2, List.map_append] at h1
    have h2 : ns.length = (logN ns).length + (ns.length - (logN ns).length) := by omega
    rw [h2] at h1
    exact own_less h1 (by simp)
  · rw [hw2]
    exact (Chg.of_grown (grownBy_sorted _)).mono fun i _ e => (Option.some.inj e).symm
end Go.Proofs.YtnomicnmpllajaaGreatDoor
end

section
namespace Go.Proofs.YtnomicnmpllajaaGreatDoor
open Go Go.RowKit

section
variable {w0 w w' : World} {Kp : Nat → Prop} {lb d : Nat} {R : Int} {S : List RF} {M : LogM} {V : LogV}
/-- The names of segments, in a row. -/
def NmRow (P : List SegF) (A : Option Addr) (W : World) : Prop := ∀ (i : Nat) (s : SegF), P[i]? = some s → ∃ rb o, A = some ⟨rb, o, none⟩ ∧ rb < W.heap.size ∧ W.cell? ⟨rb, o + i, none⟩ = some (.string (nameS s.k))
def RowK (Kp : Nat → Prop) (A : Option Addr) (k : Nat) : Prop := Kp k ∨ ∃ a, A = some a ∧ a.block = k
theorem NmRow.kept {P : List SegF} {A : Option Addr} {W W' : World} (h : NmRow P A W) (hk : Kept (RowK Kp A) W W') : NmRow P A W' := fun i s hs => by
  obtain ⟨rb, o, e, h1, h2⟩ := h i s hs
  exact ⟨rb, o, e, Nat.lt_of_lt_of_le h1 hk.2, (World.cell?_of_block (hk.1 rb (.inr ⟨_, e, rfl⟩))).trans h2⟩
/-- The names that readSegments goes through. -/
def NamesGot (w0 : World) (Kp : Nat → Prop) (lb d : Nat) (R : Int) (S : List RF) (M : LogM) (V : LogV) (P : List SegF) (w : World) (A : Option Addr) (w3 : World) : Prop :=
  WPair w0 (RowK Kp A) lb d R S M V w3 ∧ Kept Kp w w3 ∧ (∀ k, RowK Kp A k → k < w3.heap.size) ∧ NmRow P A w3
theorem names_calls (h : WPair w0 Kp lb d R S M V w) (hKp : ∀ k, Kp k → k < w.heap.size) (hS : S.length ≤ 1000000) {P : List SegF} (hP : (S.map RF.nm).filter (fun s => s.take 3 == [108, 111, 103]) = P.map fun s => segName s.k) :
    Calls Tryz.prog 40 #[.pointer (some ⟨d, 0, none⟩)] w fun e w2 => ∃ A c, e = .returned (.slice A S.length c) ∧
      Hid (Calls Tryz.prog 83 #[.slice A S.length c, .func (.func 84) #[] #[]] w2 fun e w3 => ∃ A' c', e = .returned (.slice A' P.length c') ∧ P.length ≤ c' ∧ c' ≤ 9223372036854775807 ∧ Hid (NamesGot w0 Kp lb d R S M V P w A' w3)) := by
  have hl : (logN (S.map RF.nm)).length = P.length := by
    have : logN (S.map RF.nm) = P.map fun s => segName s.k := hP
    rw [this, List.length_map]
  have hPl : logN (S.map RF.nm) = P.map fun s => segName s.k := hP
  have hd : Calls Tryz.prog 40 #[.pointer (some ⟨d, 0, none⟩)] w (NamesSaid S w) := by
    obtain ⟨Φ, Λ, _, hd, _⟩ := h.ex
    exact Names_any hd hS
  refine hd.mono ?_
  rintro e w2 ⟨A, c, rfl, ho, hb⟩
  refine ⟨A, c, rfl, Lib.hid ?_⟩
  have h2 := h.later hb
  have k2 : Kept Kp w w2 := Kept.of_below hb hKp
  rcases ho.2 with ⟨e1, e2⟩ | ⟨g, cap, cur, e1, hg0, hg, hcap, hmax, _⟩
  · obtain ⟨rfl, _, rfl⟩ := Value.slice.inj e1
    have hS0 : S = [] := List.eq_nil_of_length_eq_zero e2
    subst hS0
    obtain rfl : P = [] := by
      have : ([] : List (List UInt8)) = P.map fun s => segName s.k := hPl
      simpa using this.symm
    refine (delEmpty none 0 _ w2).mono ?_
    rintro e w3 ⟨rfl, rfl⟩
    refine ⟨none, 0, rfl, Nat.le_refl _, by omega, Lib.hid ⟨h2.keepK fun k _ hk => ?_, k2, fun k hk => ?_, fun i s hs => by simp at hs⟩⟩
    · rcases hk with hk | ⟨a, e, _⟩
      · exact hk
      · cases e
    · rcases hk with hk | ⟨a, e, _⟩
      · exact Nat.lt_of_lt_of_le (hKp k hk) hb.size
      · cases e
  · obtain ⟨rfl, _, rfl⟩ := Value.slice.inj e1
    have ho' : w2.ownsRow w.heap.size 9 1 (.slice (some ⟨g, 0, none⟩) (S.map RF.nm).length c) (S.map RF.nm).length ((S.map RF.nm).map encStr) := by
      rw [List.length_map, List.map_map]
      exact ho
    have hdel := delNames hg0 ho'
    rw [List.length_map] at hdel
    refine hdel.mono ?_
    rintro e w3 ⟨rfl, ho3, hc3⟩
    rw [hl] at ho3 ⊢
    unfold maxLen at hmax
    have hgw : w.heap.size ≤ g := hg0
    have hglt : g < w2.heap.size := (Array.getElem?_eq_some_iff.1 hg).1
    have hPl' : P.length ≤ c := by
      rcases ho3.2 with ⟨e3, _⟩ | ⟨_, _, _, e3, _, _, h5, _⟩
      · cases e3
      · cases e3; exact h5
    refine ⟨some ⟨g, 0, none⟩, c, rfl, hPl', by omega, Lib.hid ⟨?_, ?_, fun k hk => ?_, fun i s hs => ⟨g, 0, rfl, by have := hc3.size; omega, ?_⟩⟩⟩
    · obtain ⟨Φ, Λ, q1, q2, q3, q4⟩ := h.ex
      have hne : ∀ k, Φ k ∨ Λ k → k ≠ g := fun k hk e => by have := (q4 k hk).2.2; omega
      have hb0 := h.below.size
      have hbs := hb.size
      have hcs := hc3.size
      refine ⟨h2.below.trans (hc3.below h2.below.size fun k e => by rw [show k = g from e]; omega), Φ, Λ, (q1.later hb).keep hc3 fun k hk e => hne k (.inr hk) e, (q2.later hb).keep hc3 fun k hk e => hne k (.inl hk) e, q3, fun k hk => ⟨(q4 k hk).1, ?_, by have := (q4 k hk).2.2; omega⟩⟩
      rintro (h5 | ⟨a, e, h5⟩)
      · exact (q4 k hk).2.1 h5
      · cases e
        exact hne k hk h5.symm
    · exact k2.trans ⟨fun k hk => hc3.block k (by have := hKp k hk; have := hb.size; omega) (fun e => by have := hKp k hk; have e' : k = g := e; omega), hc3.size⟩
    · have hcs := hc3.size
      rcases hk with hk | ⟨a, e, h5⟩
      · have := hKp k hk; have := hb.size; omega
      · cases e
        have h6 : g = k := h5
        omega
    · have := ho3.cells (g := g) rfl i (encStr (segName s.k)) (by rw [hPl, List.map_map, List.getElem?_map, hs]; rfl)
      rw [Addr.add_lit] at this
      exact this
theorem firstSeg_any {k : Nat} (hk : k < 100000000) (W : World) : Calls Tryz.prog 86 #[.string (nameS k)] W fun e w' => e = .returned (.tuple #[.int .i64 k, .bool true]) ∧ Below W.heap.size W w' := by
  have h := firstOf_any (nameS k) W (by rw [nameS_size]; omega) (by rw [nameS_size]; omega)
  rw [nameS_list] at h
  have e : firstF ((segName k).drop 3) = (k, true) := firstF_pad hk
  rw [e] at h
  exact h
/-- The log behind so many of the segments. -/
def segM (M : LogM) (P : List SegF) (i : Nat) : LogM := { M with segs := segsP (P.take i), recs := recsP M.base (P.take i) }
theorem segM_ok {P : List SegF} {i : Nat} (hk : LogOk M) (hP : SegsAt S M.base P) (hn : P.length ≤ 1000000) (hrec : (P.flatMap SegF.l).length ≤ 1000000) (hb : ∀ f ∈ S, f.b.length ≤ 1000000) : LogOk (segM M P i) := by
  refine ⟨hk.size, ?_, ?_, hk.base, fun x hx => ?_, hk.synced⟩
  · show (segsP (P.take i)).length ≤ _
    unfold segsP
    rw [List.length_map, List.length_take]
    omega
  · show (recsP M.base (P.take i)).length ≤ _
    refine Nat.le_trans (recsP_le _ _) (Nat.le_trans ?_ hrec)
    conv => rhs; rw [← List.take_append_drop i P]
    rw [List.flatMap_append, List.length_append]
    omega
  · obtain ⟨s, hs, rfl⟩ := List.mem_map.1 (show x ∈ (P.take i).map fun s => (s.k, s.u) from hx)
    obtain ⟨j, hj⟩ := List.mem_iff_getElem?.1 (List.mem_of_mem_take hs)
    obtain ⟨h1, f, hf, h2, _, _⟩ := hP.each j s hj
    have := h2.le
    have := hb f (findN_mem hf).1
    exact ⟨h1, by show s.u ≤ _; omega⟩
/-- One segment more. -/
theorem seg_round {P : List SegF} (ht : Tab w0) (hk : LogOk M) (hP : SegsAt S M.base P) (hn : P.length < 1000000) (hrec : (P.flatMap SegF.l).length ≤ 1000000) (hb : ∀ f ∈ S, f.b.length ≤ 1000000) {i : Nat} {s : SegF} (hs : P[i]? = some s) {W : World} {V' : LogV} (h : WPair w0 Kp lb d R S (segM M P i) V' W) (hKp : ∀ k, Kp k → k < W.heap.size) :
    Calls Tryz.prog 87 #[.pointer (some ⟨lb, 0, none⟩), .agg #[.int .i64 s.k, .int .i64 0]] W fun e w' => ∃ er : Nat, e = .returned (.tuple #[.int .i64 s.l.length, .int .i64 er]) ∧ (i + 1 < P.length → er = 0) ∧ Hid (∃ V2, WPair w0 Kp lb d R S (segM M P (i + 1)) V2 w' ∧ Kept Kp W w') := by
  obtain ⟨h1, f, hf, h2, h3, h4⟩ := hP.each i s hs
  have hil := (List.getElem?_eq_some_iff.1 hs).1
  have hfb := hb f (findN_mem hf).1
  refine (readSegment_any h hKp ht (segM_ok hk hP (by omega) hrec hb) h1 hf hfb ?_ ?_).mono ?_
  · show (segsP (P.take i)).length < _
    unfold segsP
    rw [List.length_map, List.length_take]
    omega
  · show (recsP M.base (P.take i)).length + _ ≤ _
    have := recsP_le M.base (P.take i)
    omega
  · rintro e w' ⟨l, u, g1, g2, g3, rfl, V2, g4, g5⟩
    obtain ⟨rfl, rfl⟩ := (show Parsed f.b l u from ⟨g1, g2, g3⟩).same h2
    refine ⟨_, rfl, fun hi => by rw [if_pos (h3 hi)], Lib.hid ⟨V2, ?_, g5⟩⟩
    have e1 : segM M P (i + 1) = { segM M P i with segs := (segM M P i).segs ++ [(s.k, s.u)], recs := (segM M P i).recs ++ s.l.drop ((segM M P i).base + 1 - s.k) } := by
      unfold segM
      rw [segsP_more hs, recsP_more hs]
    rw [e1]
    exact g4
/-- What readSegments leaves. -/
def SegsSaid (w0 : World) (Kp : Nat → Prop) (lb d : Nat) (R : Int) (S : List RF) (M : LogM) (P : List SegF) (w w' : World) : Prop := ∃ V', WPair w0 Kp lb d R S (segM M P P.length) V' w' ∧ Kept Kp w w'
set_option maxHeartbeats 6400000 in
set_option maxRecDepth 100000 in
theorem readSegments_any (h : WPair w0 Kp lb d R S M V w) (hKp : ∀ k, Kp k → k < w.heap.size) (ht : Tab w0) (hk : LogOk M) (hM : M.segs = [] ∧ M.recs = []) (hS : S.length ≤ 1000000) {P : List SegF} (hP : SegsAt S M.base P) (hn : P.length < 1000000) (hrec : (P.flatMap SegF.l).length ≤ 1000000) (hb : ∀ f ∈ S, f.b.length ≤ 1000000) :
    Calls Tryz.prog 43 #[.pointer (some ⟨lb, 0, none⟩)] w fun e w' => e = .returned (.tuple #[.string ⟨#[]⟩, .int .i64 0]) ∧ SegsSaid w0 Kp lb d R S M P w w' := by
  have HN := Lib.hid (names_calls h hKp hS hP.names)
  have HF : Hid (∀ k, k < 100000000 → ∀ W, Calls Tryz.prog 86 #[.string (nameS k)] W fun e w' => e = .returned (.tuple #[.int .i64 k, .bool true]) ∧ Below W.heap.size W w') := Lib.hid fun k hk W => firstSeg_any hk W
  have HP := Lib.hid hP
  have HR : Hid (∀ (Kq : Nat → Prop) (i : Nat) (s : SegF), P[i]? = some s → ∀ (W : World) (V' : LogV), WPair w0 Kq lb d R S (segM M P i) V' W → (∀ k, Kq k → k < W.heap.size) → Calls Tryz.prog 87 #[.pointer (some ⟨lb, 0, none⟩), .agg #[.int .i64 s.k, .int .i64 0]] W fun e w' => ∃ er : Nat, e = .returned (.tuple #[.int .i64 s.l.length, .int .i64 er]) ∧ (i + 1 < P.length → er = 0) ∧ Hid (∃ V2, WPair w0 Kq lb d R S (segM M P (i + 1)) V2 w' ∧ Kept Kq W w')) := Lib.hid fun Kq i s hs W V' hW hKq => seg_round ht hk hP hn hrec hb hs hW hKq
  have hM0 : segM M P 0 = M := by
    obtain ⟨z, sg, bs, sh, rc, sy⟩ := M
    obtain ⟨h1, h2⟩ := hM
    dsimp only at h1 h2
    subst h1 h2
    rfl
  have HM0 := Lib.hid hM0
  have HBASE := Lib.hid hk.base
  have HLL : Hid (∀ s ∈ P, s.l.length ≤ 1000000) := Lib.hid fun s hs => by
    refine Nat.le_trans ?_ hrec
    obtain ⟨a, b, rfl⟩ := List.append_of_mem hs
    rw [List.flatMap_append, List.flatMap_cons, List.length_append, List.length_append]
    omega
  obtain ⟨_, l0, _⟩ := h.cells
  clear h hKp ht hk hM hS hP hrec hb hM0
  obtain ⟨n, hn'⟩ : ∃ n, n = P.length := ⟨_, rfl⟩
  rw [← hn'] at hn HN HR
  have HPN := Lib.hid hn'
  clear hn'
  go_enter Tryz.func43, Tryz.ntmps43
  go_wp2_with (first
    | (go_at_call 40; refine HN.out.mono ?_; rintro e w2 ⟨A, c, rfl, HD⟩)
    | (go_at_call 83; refine HD.out.mono ?_; rintro e w3 ⟨A', c', rfl, hc1, hc2, HG⟩))
  clear l0 HN HD
  go_loopw [5, 20] (fun v5 v20 wr => ∃ (i : Nat) (V' : LogV), i ≤ n ∧ v20 = .int .i64 i ∧ v5 = .int .i64 (nextN P i) ∧ Hid (WPair w0 (RowK Kp A') lb d R S (segM M P i) V' wr ∧ Kept (RowK Kp A') w3 wr)) (fun _ v _ => n - (intOf v).toNat)
  case atStart => exact ⟨0, V, Nat.zero_le _, rfl, rfl, Lib.hid ⟨by rw [HM0.out]; exact HG.out.1, fun _ _ => rfl, Nat.le_refl _⟩⟩
  case round =>
    obtain ⟨i, V', hi, rfl, rfl, hst⟩ := hrel
    by_cases hlt : i < n
    · have hiz : (i : Int) < n := by omega
      obtain ⟨s, hs⟩ : ∃ s, P[i]? = some s := ⟨P[i]'(by rw [← HPN.out]; exact hlt), List.getElem?_eq_getElem _⟩
      have HS := Lib.hid hs
      obtain ⟨rb, o, rfl, _, c0⟩ := (HG.out.2.2.2.kept hst.out.2) i s hs
      have HK : Hid (s.k < 100000000 ∧ s.l.length ≤ 1000000 ∧ (i = 0 → 0 < s.k ∧ s.k ≤ M.base + 1) ∧ (0 < i → nextN P i = s.k) ∧ nextN P (i + 1) = s.k + s.l.length) := Lib.hid (by
        refine ⟨(HP.out.each i s hs).1, HLL.out s (List.mem_of_getElem? hs), fun e => ?_, fun e => ?_, by simp [nextN, hs]⟩
        · subst e; exact HP.out.first s hs
        · obtain ⟨j, rfl⟩ : ∃ j, i = j + 1 := ⟨i - 1, by omega⟩
          have hj : j < P.length := by rw [← HPN.out]; omega
          have := HP.out.next j _ s (List.getElem?_eq_getElem hj) hs
          simp only [nextN, List.getElem?_eq_getElem hj]
          exact this.symm)
      have HFC := Lib.hid (HF.out s.k HK.out.1)
      have HRC := Lib.hid (HR.out (RowK Kp (some ⟨rb, o, none⟩)) i s hs)
      have w3i : IntKind.i64.wrap ((i : Int) + 1) = i + 1 := IntWalk.i64_in _ (by omega)
      have hkz : s.k < 100000000 := HK.out.1
      have hlz : s.l.length ≤ 1000000 := HK.out.2.1
      have wk : IntKind.i64.wrap ((s.k : Int) + s.l.length) = s.k + s.l.length := IntWalk.i64_in _ (by omega)
      have wn : IntKind.i64.wrap ((n : Int) - 1) = n - 1 := IntWalk.i64_in _ (by omega)
      clear hs hkz hlz
      have HST := hst
      have HCALLS : Hid (∀ w5, Below wr.heap.size wr w5 → w5.cell? ⟨lb, 3, none⟩ = some (.int .i64 M.base) ∧ Calls Tryz.prog 87 #[.pointer (some ⟨lb, 0, none⟩), .agg #[.int .i64 s.k, .int .i64 0]] w5 fun e w' => ∃ er : Nat, e = .returned (.tuple #[.int .i64 s.l.length, .int .i64 er]) ∧ (i + 1 < n → er = 0) ∧ Hid (∃ V2, WPair w0 (RowK Kp (some ⟨rb, o, none⟩)) lb d R S (segM M P (i + 1)) V2 w' ∧ Kept (RowK Kp (some ⟨rb, o, none⟩)) w3 w')) := Lib.hid fun w5 hb5 => by
        have h5 := HST.out.1.later hb5
        have hKw : ∀ k, RowK Kp (some ⟨rb, o, none⟩) k → k < wr.heap.size := fun k hk => Nat.lt_of_lt_of_le (HG.out.2.2.1 k hk) HST.out.2.2
        have k5 : Kept (RowK Kp (some ⟨rb, o, none⟩)) w3 w5 := HST.out.2.trans (Kept.of_below hb5 hKw)
        refine ⟨h5.cells.2.2.2.2.1, (HRC.out w5 V' h5 fun k hk => Nat.lt_of_lt_of_le (hKw k hk) hb5.size).mono ?_⟩
        rintro e w' ⟨er, h1, h2, h3⟩
        refine ⟨er, h1, h2, Lib.hid ?_⟩
        obtain ⟨V2, g1, g2⟩ := h3.out
        exact ⟨V2, g1, k5.trans g2⟩
      clear HST HRC hst HR
      rcases Nat.eq_zero_or_pos i with hi0 | hpos
      · have hq := HK.out.2.2.1 hi0
        have d1 : ((s.k : Int) == 0) = false := by
          rw [beq_eq_false_iff_ne]
          omega
        have wb : IntKind.i64.wrap ((M.base : Int) + 1) = (M.base : Int) + 1 := IntWalk.i64_in _ (by have := HBASE.out; omega)
        have d2 : decide ((M.base : Int) + 1 < s.k) = false := decide_eq_false (by omega)
        have d3 : ((i : Int) == 0) = true := by rw [hi0]; rfl
        have d4 : decide ((0 : Int) < (i : Int)) = false := decide_eq_false (by omega)
        have d5 : decide (0 < i) = false := decide_eq_false (by omega)
        have HI0 := Lib.hid hi0
        clear hq hi0
        go_upto_region 10 with (first
          | (go_at_call 86; refine (HFC.out _).mono ?_; rintro e w5 ⟨rfl, hb5⟩
             obtain ⟨b3, hRS⟩ := HCALLS.out w5 hb5
             have HRS := Lib.hid hRS
             clear hRS hb5)
          | (go_at_call 87; refine HRS.out.mono ?_; rintro e w6 ⟨er, rfl, her, HG6⟩))
        have HER := Lib.hid her
        clear her
        by_cases he0 : er = 0
        · subst he0
          go_wp2_with fail
          go_roundw
          case rel =>
            obtain ⟨V2, g1, g2⟩ := HG6.out
            exact ⟨i + 1, V2, by omega, by go_num, by rw [HK.out.2.2.2.2]; go_num, Lib.hid ⟨g1, g2⟩⟩
          case measure => simp [intOf]; omega
        · have hin : ¬ i + 1 < n := fun h => he0 (HER.out h)
          have de : ((er : Int) == 0) = false := by simpa using he0
          have dl : decide ((i : Int) < (n : Int) - 1) = false := decide_eq_false (by omega)
          have dl2 : ¬ (i : Int) < (n : Int) - 1 := by omega
          clear hin
          go_wp2_with fail
          go_roundw
          case rel =>
            obtain ⟨V2, g1, g2⟩ := HG6.out
            exact ⟨i + 1, V2, by omega, by go_num, by rw [HK.out.2.2.2.2]; go_num, Lib.hid ⟨g1, g2⟩⟩
          case measure => simp [intOf]; omega
      · have hq := HK.out.2.2.2.1 hpos
        rw [hq]
        have d3 : ((i : Int) == 0) = false := by
          rw [beq_eq_false_iff_ne]
          omega
        have d4 : decide ((0 : Int) < (i : Int)) = true := decide_eq_true (by omega)
        clear hq
        go_upto_region 10 with (first
          | (go_at_call 86; refine (HFC.out _).mono ?_; rintro e w5 ⟨rfl, hb5⟩
             obtain ⟨b3, hRS⟩ := HCALLS.out w5 hb5
             have HRS := Lib.hid hRS
             clear hRS hb5)
          | (go_at_call 87; refine HRS.out.mono ?_; rintro e w6 ⟨er, rfl, her, HG6⟩))
        have HER := Lib.hid her
        clear her
        by_cases he0 : er = 0
        · subst he0
          go_wp2_with fail
          go_roundw
          case rel =>
            obtain ⟨V2, g1, g2⟩ := HG6.out
            exact ⟨i + 1, V2, by omega, by go_num, by rw [HK.out.2.2.2.2]; go_num, Lib.hid ⟨g1, g2⟩⟩
          case measure => simp [intOf]; omega
        · have hin : ¬ i + 1 < n := fun h => he0 (HER.out h)
          have de : ((er : Int) == 0) = false := by simpa using he0
          have dl : decide ((i : Int) < (n : Int) - 1) = false := decide_eq_false (by omega)
          have dl2 : ¬ (i : Int) < (n : Int) - 1 := by omega
          clear hin
          go_wp2_with fail
          go_roundw
          case rel =>
            obtain ⟨V2, g1, g2⟩ := HG6.out
            exact ⟨i + 1, V2, by omega, by go_num, by rw [HK.out.2.2.2.2]; go_num, Lib.hid ⟨g1, g2⟩⟩
          case measure => simp [intOf]; omega
    · obtain rfl : i = n := by omega
      have HW : Hid (WPair w0 Kp lb d R S (segM M P P.length) V' wr ∧ Kept Kp w wr) := Lib.hid (by
        obtain ⟨g1, g2⟩ := hst.out
        rw [← HPN.out]
        exact ⟨g1.keepK fun k _ hk => .inl hk, HG.out.2.1.trans ⟨fun k hk => g2.1 k (.inl hk), g2.2⟩⟩)
      have b3 : wr.cell? ⟨lb, 3, none⟩ = some (.int .i64 M.base) := hst.out.1.cells.2.2.2.2.1
      rcases Nat.eq_zero_or_pos i with hi0 | hpos
      · have d1 : decide ((0 : Int) < (i : Int)) = false := decide_eq_false (by omega)
        have d2 : ¬ (0 : Int) < (i : Int) := by omega
        clear hi0 hst
        go_wp2_with fail
        go_ret2
        exact ⟨rfl, V', HW.out⟩
      · have HLS : Hid (M.base < nextN P i ∧ nextN P i ≤ 200000000) := Lib.hid (by
          obtain ⟨j, rfl⟩ : ∃ j, i = j + 1 := ⟨i - 1, by omega⟩
          have hj : j < P.length := by rw [← HPN.out]; omega
          have h1 := HP.out.last j _ (List.getElem?_eq_getElem hj) HPN.out
          have h2 := (HP.out.each j _ (List.getElem?_eq_getElem hj)).1
          have h3 := HLL.out _ (List.getElem_mem hj)
          simp only [nextN, List.getElem?_eq_getElem hj]
          omega)
        generalize nextN P i = nx at *
        have h5 := HLS.out
        have d1 : decide ((0 : Int) < (i : Int)) = true := decide_eq_true (by omega)
        have wx : IntKind.i64.wrap ((nx : Int) - 1) = nx - 1 := IntWalk.i64_in _ (by omega)
        have d2 : decide ((nx : Int) - 1 < M.base) = false := decide_eq_false (by omega)
        have d3 : ¬ (nx : Int) - 1 < M.base := by omega
        clear h5 hst
        go_wp2_with fail
        go_ret2
        exact ⟨rfl, V', HW.out⟩
end
end Go.Proofs.YtnomicnmpllajaaGreatDoor
end

section
namespace Go.Proofs.YtnomicnmpllajaaGreatDoor
open Go Go.RowKit

section
variable {w0 w w' : World} {Kp : Nat → Prop} {lb d : Nat} {R : Int} {S : List RF} {M : LogM} {V : LogV}
/-- The files behind a Sync of each of these segments. -/
def syncAll (S : List RF) (l : List (Nat × Nat)) : List RF := l.foldl (fun S s => (syncF S (segName s.1)).1) S
theorem syncAll_more {l : List (Nat × Nat)} {i : Nat} {s : Nat × Nat} (h : l[i]? = some s) : syncAll S (l.take (i + 1)) = (syncF (syncAll S (l.take i)) (segName s.1)).1 := by
  have hi := List.getElem?_eq_some_iff.1 h
  unfold syncAll
  rw [List.take_succ_eq_append_getElem hi.1, List.foldl_append, hi.2]
  rfl
/-- The files behind settle. -/
def settleF (S : List RF) (l : List (Nat × Nat)) : List RF :=
  (removeF (syncF (match l.getLast? with | none => syncAll S l | some s => (cutF (syncAll S l) (segName s.1) s.2).1) snapN).1 newN).1
/-- The calls of one round of settle, behind the box of its segment. -/
theorem WPair.syncCalls (h : WPair w0 Kp lb d R S M V w) (hKp : ∀ k, Kp k → k < w.heap.size) (ht : Tab w0) {k b : Nat} (hk1 : k < 100000000) {W2 : World} (hW2 : W2 = (w.alloc (.cells #[.int .i64 k, .int .i64 b] 99)).drew) :
    W2.cell? ⟨lb, 0, none⟩ = some (.pointer (some ⟨d, 0, none⟩)) ∧ W2.cell? ⟨w.heap.size, 0, none⟩ = some (.int .i64 k) ∧ W2.cell? ⟨w.heap.size, 1, none⟩ = some (.int .i64 b) ∧
    Calls Tryz.prog 54 #[.agg #[.int .i64 k, .int .i64 b]] W2 fun e w5 => e = .returned (.string (nameS k)) ∧ w5.cell? ⟨lb, 0, none⟩ = some (.pointer (some ⟨d, 0, none⟩)) ∧ w5.cell? ⟨w.heap.size, 0, none⟩ = some (.int .i64 k) ∧ w5.cell? ⟨w.heap.size, 1, none⟩ = some (.int .i64 b) ∧
      Hid (Calls Tryz.prog 56 #[.pointer (some ⟨d, 0, none⟩), .string (nameS k)] w5 fun e w6 => ∃ r : Int, e = .returned (.int .i64 r) ∧ w6.cell? ⟨lb, 0, none⟩ = some (.pointer (some ⟨d, 0, none⟩)) ∧ w6.cell? ⟨w.heap.size, 0, none⟩ = some (.int .i64 k) ∧ w6.cell? ⟨w.heap.size, 1, none⟩ = some (.int .i64 b) ∧
        Hid (WPair w0 Kp lb d R (syncF S (segName k)).1 M V w6 ∧ Kept Kp w w6)) := by
  obtain ⟨tb, htb⟩ : ∃ tb, tb = w.heap.size := ⟨_, rfl⟩
  rw [← htb]
  have hbW2 : Below w.heap.size w W2 := by rw [hW2]; exact ((Below.refl _ _).alloc (Nat.le_refl _) _).drew
  have hbox : W2.heap[tb]? = some (.cells #[.int .i64 k, .int .i64 b] 99 (0, 0)) := by rw [hW2, htb]; exact heap_alloc_new w _
  have hsz2 : tb < W2.heap.size := lt_of_block hbox
  have hP2 : WPair w0 (fun i => Kp i ∨ i = tb) lb d R S M V W2 := (h.keepK fun i h1 h2 => by rcases h2 with h2 | h2; exact h2; omega).later hbW2
  have hKp2 : ∀ i, (Kp i ∨ i = tb) → i < W2.heap.size := fun i hi => by
    rcases hi with hi | hi
    · have := hKp i hi; omega
    · omega
  have hcells : ∀ w', Kept (fun i => Kp i ∨ i = tb) W2 w' → w'.cell? ⟨tb, 0, none⟩ = some (.int .i64 k) ∧ w'.cell? ⟨tb, 1, none⟩ = some (.int .i64 b) := fun w' hK => by
    have h1 : w'.heap[tb]? = _ := (hK.1 tb (.inr rfl)).trans hbox
    obtain ⟨c0, c1, _⟩ := two_cells h1
    exact ⟨c0, c1⟩
  obtain ⟨t0, t1⟩ := hcells W2 ⟨fun _ _ => rfl, Nat.le_refl _⟩
  refine ⟨hP2.cells.2.1, t0, t1, ?_⟩
  refine (hP2.name_ ht k b hk1).mono ?_
  rintro e w5 ⟨rfl, h5, hb5⟩
  have hK5 := Kept.of_below hb5 hKp2
  obtain ⟨x0, x1⟩ := hcells w5 hK5
  refine ⟨rfl, h5.cells.2.1, x0, x1, Lib.hid ?_⟩
  refine (h5.dsync (fun i hi => Nat.lt_of_lt_of_le (hKp2 i hi) hK5.2) (nameS k) (by rw [nameS_size]; unfold maxLen; omega)).mono ?_
  rintro e w6 ⟨rfl, h6, k6⟩
  rw [nameS_list] at h6
  have hK6 := hK5.trans k6
  obtain ⟨v0, v1⟩ := hcells w6 hK6
  exact ⟨_, rfl, h6.cells.2.1, v0, v1, Lib.hid ⟨h6.keepK fun i _ hi => .inl hi, (Kept.of_below hbW2 hKp).trans ⟨fun i hi => hK6.1 i (.inl hi), hK6.2⟩⟩⟩
/-- The calls on the last segment. -/
theorem WPair.cutCalls (h : WPair w0 Kp lb d R S M V w) (hKp : ∀ k, Kp k → k < w.heap.size) (ht : Tab w0) {i g : Nat} {s : Nat × Nat} (hs : M.segs[i]? = some s) (hg : V.sA = some ⟨g, 0, none⟩) (hk1 : s.1 < 100000000) {W2 : World} (hW2 : Below w.heap.size w W2) :
    W2.cell? ⟨lb, 0, none⟩ = some (.pointer (some ⟨d, 0, none⟩)) ∧ W2.cell? ⟨g, i * 2, none⟩ = some (.int .i64 s.1) ∧ W2.cell? ⟨g, i * 2 + 1, none⟩ = some (.int .i64 s.2) ∧
    Calls Tryz.prog 54 #[.agg #[.int .i64 s.1, .int .i64 s.2]] W2 fun e w5 => e = .returned (.string (nameS s.1)) ∧ w5.cell? ⟨lb, 0, none⟩ = some (.pointer (some ⟨d, 0, none⟩)) ∧ w5.cell? ⟨g, i * 2, none⟩ = some (.int .i64 s.1) ∧ w5.cell? ⟨g, i * 2 + 1, none⟩ = some (.int .i64 s.2) ∧
      Hid (∀ w5', Below w5.heap.size w5 w5' → Calls Tryz.prog 60 #[.pointer (some ⟨d, 0, none⟩), .string (nameS s.1), .int .i64 s.2] w5' fun e w6 => ∃ r : Int, e = .returned (.int .i64 r) ∧ w6.cell? ⟨lb, 0, none⟩ = some (.pointer (some ⟨d, 0, none⟩)) ∧ w6.cell? ⟨g, i * 2, none⟩ = some (.int .i64 s.1) ∧ w6.cell? ⟨g, i * 2 + 1, none⟩ = some (.int .i64 s.2) ∧
        Hid (WPair w0 Kp lb d R (cutF S (segName s.1) s.2).1 M V w6 ∧ Kept Kp w w6)) := by
  have hP2 := h.later hW2
  have cl : ∀ {S' : List RF} {W : World}, WPair w0 Kp lb d R S' M V W → W.cell? ⟨lb, 0, none⟩ = some (.pointer (some ⟨d, 0, none⟩)) ∧ W.cell? ⟨g, i * 2, none⟩ = some (.int .i64 s.1) ∧ W.cell? ⟨g, i * 2 + 1, none⟩ = some (.int .i64 s.2) := fun hW => by
    obtain ⟨_, q1, q2, _⟩ := hW.seg hs hg
    exact ⟨hW.cells.2.1, q1, q2⟩
  obtain ⟨a0, a1, a2⟩ := cl hP2
  refine ⟨a0, a1, a2, ?_⟩
  refine (hP2.name_ ht s.1 s.2 hk1).mono ?_
  rintro e w5 ⟨rfl, h5, hb5⟩
  obtain ⟨b0, b1, b2⟩ := cl h5
  refine ⟨rfl, b0, b1, b2, Lib.hid fun w5' hb5' => ?_⟩
  have hk5 : Kept Kp w w5' := Kept.of_below ((hW2.trans (hb5.mono hW2.size)).trans (hb5'.mono (Nat.le_trans hW2.size hb5.size))) hKp
  refine ((h5.later hb5').dcut (fun i hi => Nat.lt_of_lt_of_le (hKp i hi) hk5.2) (nameS s.1) (by rw [nameS_size]; unfold maxLen; omega) s.2).mono ?_
  rintro e w6 ⟨rfl, h6, k6⟩
  rw [nameS_list] at h6
  obtain ⟨c0, c1, c2⟩ := cl h6
  exact ⟨_, rfl, c0, c1, c2, Lib.hid ⟨h6, hk5.trans k6⟩⟩
/-- The last calls of settle. -/
theorem WPair.tailCalls {w1 : World} {S1 : List RF} (h : WPair w0 Kp lb d R S1 M V w1) (hKp : ∀ k, Kp k → k < w.heap.size) (hk1 : Kept Kp w w1) :
    w1.cell? ⟨lb, 0, none⟩ = some (.pointer (some ⟨d, 0, none⟩)) ∧
    Calls Tryz.prog 56 #[.pointer (some ⟨d, 0, none⟩), .string ⟨#[115, 110, 97, 112]⟩] w1 fun e w3 => ∃ r : Int, e = .returned (.int .i64 r) ∧ w3.cell? ⟨lb, 0, none⟩ = some (.pointer (some ⟨d, 0, none⟩)) ∧
      Hid (Calls Tryz.prog 59 #[.pointer (some ⟨d, 0, none⟩), .string ⟨#[115, 110, 97, 112, 46, 110, 101, 119]⟩] w3 fun e w4 => ∃ r : Int, e = .returned (.int .i64 r) ∧ Hid (WPair w0 Kp lb d R (removeF (syncF S1 snapN).1 newN).1 M V w4 ∧ Kept Kp w w4)) := by
  have hlt : ∀ W, Kept Kp w W → ∀ i, Kp i → i < W.heap.size := fun W hW i hi => Nat.lt_of_lt_of_le (hKp i hi) hW.2
  refine ⟨h.cells.2.1, ?_⟩
  refine (h.dsync (hlt _ hk1) ⟨#[115, 110, 97, 112]⟩ (by show (4 : Nat) ≤ maxLen; unfold maxLen; omega)).mono ?_
  rintro e w3 ⟨rfl, h3, k3⟩
  have hk3 := hk1.trans k3
  refine ⟨_, rfl, h3.cells.2.1, Lib.hid ?_⟩
  refine (h3.dremove (hlt _ hk3) ⟨#[115, 110, 97, 112, 46, 110, 101, 119]⟩ (by show (8 : Nat) ≤ maxLen; unfold maxLen; omega)).mono ?_
  rintro e w4 ⟨rfl, h4, k4⟩
  exact ⟨_, rfl, Lib.hid ⟨h4, hk3.trans k4⟩⟩
/-- What settle leaves. -/
def SettleSaid (w0 : World) (Kp : Nat → Prop) (lb d : Nat) (R : Int) (S : List RF) (M : LogM) (V : LogV) (w w' : World) : Prop := WPair w0 Kp lb d R (settleF S M.segs) { M with synced := M.last } V w' ∧ Kept Kp w w'
set_option maxHeartbeats 6400000 in
set_option maxRecDepth 100000 in
theorem settle_any (h : WPair w0 Kp lb d R S M V w) (hKp : ∀ k, Kp k → k < w.heap.size) (ht : Tab w0) (hk : LogOk M) :
    Calls Tryz.prog 44 #[.pointer (some ⟨lb, 0, none⟩)] w fun e w' => e = .returned (.tuple #[]) ∧ SettleSaid w0 Kp lb d R S M V w w' := by
  have HKP : Hid (∀ W, Kept Kp w W → ∀ i, Kp i → i < W.heap.size) := Lib.hid fun W hW i hi => Nat.lt_of_lt_of_le (hKp i hi) hW.2
  have HK := Lib.hid hk
  have HT := Lib.hid ht
  have H0 : Hid (WPair w0 Kp lb d R S M V w ∧ Kept Kp w w) := Lib.hid ⟨h, fun _ _ => rfl, Nat.le_refl _⟩
  obtain ⟨n, hn⟩ : ∃ n, n = M.segs.length := ⟨_, rfl⟩
  obtain ⟨_, l0, _, l2, _⟩ := h.cells
  rw [← hn] at l2
  have hnn : n ≤ 1000000 := by rw [hn]; exact hk.segn
  have HN := Lib.hid hn
  clear h hKp ht hk hn
  go_enter Tryz.func44, Tryz.ntmps44
  go_wp2_with fail
  clear l0 l2
  go_loopw [3, 10] (fun _ v10 wr => ∃ (i : Nat), i ≤ n ∧ v10 = .int .i64 i ∧ Hid (WPair w0 Kp lb d R (syncAll S (M.segs.take i)) M V wr ∧ Kept Kp w wr)) (fun _ v _ => n - (intOf v).toNat)
  case atStart => exact ⟨0, Nat.zero_le _, rfl, H0⟩
  case round =>
    obtain ⟨i, hi, rfl, hst⟩ := hrel
    by_cases hlt : i < n
    · have hiz : (i : Int) < n := by omega
      obtain ⟨s, hs⟩ : ∃ s, M.segs[i]? = some s := ⟨M.segs[i]'(by rw [← HN.out]; exact hlt), List.getElem?_eq_getElem _⟩
      obtain ⟨g, hg⟩ := hst.out.1.row hs
      obtain ⟨_, c0, c1, _⟩ := hst.out.1.seg hs hg
      have hs1 := (HK.out.segs s (List.mem_of_getElem? hs)).1
      have w3i : IntKind.i64.wrap ((i : Int) + 1) = i + 1 := IntWalk.i64_in _ (by omega)
      have HS : Hid (syncAll S (M.segs.take (i + 1)) = (syncF (syncAll S (M.segs.take i)) (segName s.1)).1) := Lib.hid (syncAll_more hs)
      have HC := Lib.hid (hst.out.1.syncCalls (HKP.out _ hst.out.2) HT.out hs1 (b := s.2) rfl)
      obtain ⟨k, b⟩ := s
      dsimp only at c0 c1 HC HS
      rw [hg]
      clear hs hs1 hg
      go_upto_region 3 with fail
      obtain ⟨t0, t1, t2, hnm⟩ := HC.out
      have HNM := Lib.hid hnm
      clear hnm HC c0 c1
      go_region_held3 (fun w' => w'.cell? ⟨lb, 0, none⟩ = some (.pointer (some ⟨d, 0, none⟩)) ∧ w'.cell? ⟨wr.heap.size, 0, none⟩ = some (.int .i64 k) ∧ w'.cell? ⟨wr.heap.size, 1, none⟩ = some (.int .i64 b))
        (first | exact ⟨by assumption, by assumption, by assumption⟩ | exact ⟨t0, t1, t2⟩)
        (first
          | (go_at_call 54; refine (HNM.out).mono ?_; rintro e w5 ⟨rfl, x0, x1, x2, HRD⟩)
          | (go_at_call 56; refine (HRD.out).mono ?_; rintro e w6 ⟨r, rfl, v0, v1, v2, HG⟩))
      all_goals
        have HG2 := Lib.hid (And.intro (show WPair w0 Kp lb d R (syncAll S (M.segs.take (i + 1))) M V w6 from by rw [HS.out]; exact HG.out.1) (hst.out.2.trans HG.out.2))
        clear t0 t1 t2 x0 x1 x2 v0 v1 v2 HG HRD HNM
        go_wp2_with fail
        go_roundw
        case rel => exact ⟨i + 1, by omega, by go_num, HG2⟩
        case measure => simp [intOf]; omega
    · obtain rfl : i = n := by omega
      have HST : Hid (WPair w0 Kp lb d R (syncAll S M.segs) M V wr ∧ Kept Kp w wr) := Lib.hid (by
        have := hst.out
        rwa [HN.out, List.take_length] at this)
      clear hst
      rcases Nat.eq_zero_or_pos i with hi0 | hpos
      · have hs0 : M.segs = [] := List.eq_nil_of_length_eq_zero (by rw [← HN.out]; exact hi0)
        have HL : Hid (Calls Tryz.prog 53 #[.pointer (some ⟨lb, 0, none⟩)] wr fun e w2 => e = .returned (.pointer none) ∧ w2.cell? ⟨lb, 0, none⟩ = some (.pointer (some ⟨d, 0, none⟩)) ∧ Hid (Calls Tryz.prog 56 #[.pointer (some ⟨d, 0, none⟩), .string ⟨#[115, 110, 97, 112]⟩] w2 fun e w3 => ∃ r : Int, e = .returned (.int .i64 r) ∧ w3.cell? ⟨lb, 0, none⟩ = some (.pointer (some ⟨d, 0, none⟩)) ∧
            Hid (Calls Tryz.prog 59 #[.pointer (some ⟨d, 0, none⟩), .string ⟨#[115, 110, 97, 112, 46, 110, 101, 119]⟩] w3 fun e w4 => ∃ r : Int, e = .returned (.int .i64 r) ∧ Hid (WPair w0 Kp lb d R (settleF S M.segs) M V w4 ∧ Kept Kp w w4)))) := Lib.hid (by
          refine (HST.out.1.last0_ hs0).mono ?_
          rintro e w2 ⟨rfl, h2, hb2⟩
          obtain ⟨q0, hc⟩ := h2.tailCalls (HKP.out w ⟨fun _ _ => rfl, Nat.le_refl _⟩) (HST.out.2.trans (Kept.of_below hb2 (HKP.out _ HST.out.2)))
          refine ⟨rfl, q0, Lib.hid ?_⟩
          have e : settleF S M.segs = (removeF (syncF (syncAll S M.segs) snapN).1 newN).1 := by unfold settleF; rw [hs0]; rfl
          rw [e]
          exact hc)
        clear hs0 hi0
        go_upto_region 6 with (go_at_call 53; refine HL.out.mono ?_; rintro e w2 ⟨rfl, q2, HSN⟩)
        go_wp2_with (first
            | (go_at_call 56; refine HSN.out.mono ?_; rintro e w3 ⟨r1, rfl, q3, HR⟩)
            | (go_at_call 59; refine HR.out.mono ?_; rintro e w4 ⟨r2, rfl, HW⟩)
            | (go_at_call 21; refine (HW.out.1.Last_ HK.out).mono ?_; rintro e w5 ⟨rfl, h5, hb5⟩; have HP5 := Lib.hid h5; have HK5 := Lib.hid (HW.out.2.trans (Kept.of_below hb5 (HKP.out _ HW.out.2))); clear h5 hb5; obtain ⟨_, _, _, _, _, _, _, z6, zf⟩ := HP5.out.cells))
        obtain ⟨h9, k9⟩ := HP5.out.setSynced M.last
        have HP9 := Lib.hid h9
        have HK9 := Lib.hid (HK5.out.trans k9)
        clear h9 k9
        go_end0
        exact ⟨rfl, by exact HP9.out, HK9.out⟩
      · obtain ⟨k, rfl⟩ : ∃ k, i = k + 1 := ⟨i - 1, by omega⟩
        obtain ⟨s, hs⟩ : ∃ s, M.segs[k]? = some s := ⟨M.segs[k]'(by rw [← HN.out]; omega), List.getElem?_eq_getElem _⟩
        obtain ⟨g, hg⟩ := HST.out.1.row hs
        have HL : Hid (Calls Tryz.prog 53 #[.pointer (some ⟨lb, 0, none⟩)] wr fun e w2 => e = .returned (.pointer (some ⟨g, k * 2, none⟩)) ∧ Hid (WPair w0 Kp lb d R (syncAll S M.segs) M V w2 ∧ Kept Kp w w2)) := Lib.hid (by
          refine (HST.out.1.last_ HK.out HN.out.symm hg).mono ?_
          rintro e w2 ⟨rfl, h2, hb2⟩
          exact ⟨rfl, Lib.hid ⟨h2, HST.out.2.trans (Kept.of_below hb2 (HKP.out _ HST.out.2))⟩⟩)
        have HCC : Hid (∀ w2, WPair w0 Kp lb d R (syncAll S M.segs) M V w2 ∧ Kept Kp w w2 → _) := Lib.hid fun w2 hw => hw.1.cutCalls (HKP.out _ hw.2) HT.out hs hg (HK.out.segs s (List.mem_of_getElem? hs)).1 (W2 := w2.drew) (Below.refl _ _).drew
        have HSF : Hid (settleF S M.segs = (removeF (syncF (cutF (syncAll S M.segs) (segName s.1) s.2).1 snapN).1 newN).1) := Lib.hid (by
          unfold settleF
          have : M.segs.getLast? = some s := by rw [List.getLast?_eq_getElem?, ← HN.out]; exact hs
          rw [this])
        have HTL : Hid (∀ W S1, WPair w0 Kp lb d R S1 M V W → Kept Kp w W → _) := Lib.hid fun W S1 hW hkW => hW.tailCalls (HKP.out w ⟨fun _ _ => rfl, Nat.le_refl _⟩) hkW
        obtain ⟨sk, sb⟩ := s
        dsimp only at HCC HSF
        clear hs hg HST
        go_upto_region 7 with (go_at_call 53; refine HL.out.mono ?_; rintro e w2 ⟨rfl, HW2⟩)
        obtain ⟨t0, t1, t2, hnm⟩ := HCC.out w2 HW2.out
        have HNM := Lib.hid hnm
        clear hnm HCC
        go_region_held3 (fun w' => w'.cell? ⟨lb, 0, none⟩ = some (.pointer (some ⟨d, 0, none⟩)) ∧ w'.cell? ⟨g, k * 2, none⟩ = some (.int .i64 sk) ∧ w'.cell? ⟨g, k * 2 + 1, none⟩ = some (.int .i64 sb))
          (first | exact ⟨by assumption, by assumption, by assumption⟩ | exact ⟨t0, t1, t2⟩)
          (first
            | (go_at_call 54; refine (HNM.out).mono ?_; rintro e w5 ⟨rfl, x0, x1, x2, HRD⟩)
            | (go_at_call 60; refine (HRD.out _ (Below.refl _ _)).mono ?_; rintro e w6 ⟨r, rfl, v0, v1, v2, HG⟩))
        all_goals
          obtain ⟨_, hsn⟩ := HTL.out w6 _ HG.out.1 (HW2.out.2.trans HG.out.2)
          have HSN := Lib.hid hsn
          clear t0 t1 t2 x0 x1 x2 v1 v2 hsn
          go_wp2_with (first
            | (go_at_call 56; refine HSN.out.mono ?_; rintro e w3 ⟨r1, rfl, q3, HR⟩)
            | (go_at_call 59; refine HR.out.mono ?_; rintro e w4 ⟨r2, rfl, HW⟩)
            | (go_at_call 21; refine (HW.out.1.Last_ HK.out).mono ?_; rintro e w5 ⟨rfl, h5, hb5⟩; have HP5 := Lib.hid h5; have HK5 := Lib.hid (HW.out.2.trans (Kept.of_below hb5 (HKP.out _ HW.out.2))); clear h5 hb5; obtain ⟨_, _, _, _, _, _, _, z6, zf⟩ := HP5.out.cells))
          obtain ⟨h9, k9⟩ := HP5.out.setSynced M.last
          have HP9 := Lib.hid h9
          have HK9 := Lib.hid (HK5.out.trans k9)
          clear h9 k9
          go_end0
          exact ⟨rfl, by rw [HSF.out]; exact HP9.out, HK9.out⟩
end
end Go.Proofs.YtnomicnmpllajaaGreatDoor
end
