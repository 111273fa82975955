/- What is proved here: 'DiskKeeps' returns true at all arguments. -/
import Derived.Test.YtlpodamjehdmhaaTwo
namespace Go.Proofs.Ytlpodamjehdmhaa
open Go Go.RowKit Go.Maps

/-- The files behind calls. -/
def runF (room : Int) (l : List OpM) : List RF := l.foldl (fun S p => (doF room S p).1) []
theorem runF_snoc (room : Int) (l : List OpM) (p : OpM) : runF room (l ++ [p]) = (doF room (runF room l) p).1 := by simp [runF]
theorem crashF_len (ks : List Int) (S : List RF) : (crashF ks S).length = S.length := by unfold crashF; rw [List.length_mapIdx]
theorem doF_len (room : Int) (S : List RF) (p : OpM) : (doF room S p).1.length ≤ S.length + 1 := by
  have hp : ∀ x : RF, (putN RF.nm x S).length ≤ S.length + 1 := fun x => length_putN x S
  have hd : ∀ k, (delN RF.nm k S).length ≤ S.length := fun k => length_delN k S
  unfold doF
  split
  · unfold appendF
    split
    · simp
    · split
      · simp
      · exact hp _
  · split
    · unfold syncF
      split
      · simp
      · exact hp _
    · split
      · unfold cutF
        split
        · simp
        · split
          · simp
          · exact hp _
      · split
        · unfold removeF
          split
          · simp
          · have := hd p.nm.data.toList; show (delN RF.nm _ S).length ≤ _; omega
        · split
          · show (crashF p.ks S).length ≤ _
            rw [crashF_len]; omega
          · unfold renameF
            split
            · simp
            · split
              · simp
              · split
                · simp
                · refine Nat.le_trans (length_putN (nm := RF.nm) _ _) ?_
                  have := hd p.nm.data.toList
                  omega
theorem runF_len (room : Int) (l : List OpM) : (runF room l).length ≤ l.length := by
  have : ∀ (l : List OpM) (S : List RF), (l.foldl (fun S p => (doF room S p).1) S).length ≤ S.length + l.length := by
    intro l
    induction l with
    | nil => intro S; simp
    | cons p r ih =>
      intro S
      have h1 := ih (doF room S p).1
      have h2 := doF_len room S p
      simp only [List.foldl_cons, List.length_cons]
      omega
  have := this l []
  simpa [runF] using this

theorem fewF_len {l : List OpM} (h : fewF l = true) : l.length ≤ 60 := by
  unfold fewF at h
  simp only [Bool.and_eq_true, decide_eq_true_eq] at h
  exact h.1

theorem do_st {w wi : World} {d : Nat} {room : Int} {S : List RF} (h : St w d room S wi) (p : OpM) (hp : OpOk w w.heap.size p) (hL : S.length ≤ 1000000) :
    Calls Try.prog 15 #[.pointer (some ⟨d, 0, none⟩), .agg #[.int .i64 p.kind, .string p.nm, .string p.tn, .slice p.bA p.bn p.bc, .int .i64 p.n, .slice p.kA p.kn p.kc]] wi fun e w' => e = .returned (.int .i64 (doF room S p).2) ∧ St w d room (doF room S p).1 w' :=
  (Do_any h.disk p (hp.below h.below) h.below.size (fun b hb hc => by omega) hL).mono fun _ _ ho => h.op ho

theorem St.undrew {w wi : World} {d q : Nat} {room : Int} {S : List RF} (h : St (w.drewN q) d room S wi) : St w d room S wi :=
  ⟨⟨h.below.os, h.below.tape, h.below.output, h.below.size, h.below.block⟩, h.disk⟩
/-- Where the first loop stands. -/
def LoopSt (w : World) (R : Int) (l : List OpM) (k : Nat) (wr : World) : Prop := St w (w.heap.size + 1) R (runF R (l.take k)) wr
theorem LoopSt.step {w wr : World} {R : Int} {l : List OpM} {k n c : Nat} {A : Option Addr} (h : LoopSt w R l k wr) (hl : OpsRd w w.heap.size A n c l) (hn : n ≤ 60) {p : OpM} (hp : l[k]? = some p) (o : Obj) :
    Calls Try.prog 15 #[.pointer (some ⟨w.heap.size + 1, 0, none⟩), .agg #[.int .i64 p.kind, .string p.nm, .string p.tn, .slice p.bA p.bn p.bc, .int .i64 p.n, .slice p.kA p.kn p.kc]] (wr.alloc o) fun e w' => (∃ r, e = .returned (.int .i64 r)) ∧ LoopSt w R l (k + 1) w' := by
  have hlen := hl.len
  have h1 := runF_len R (l.take k)
  have h2 : (l.take k).length ≤ k := List.length_take_le _ _
  have hk : k < l.length := (List.getElem?_eq_some_iff.1 hp).1
  refine (do_st (h.alloc o) p (hl.ok p (List.mem_of_getElem? hp)) (by omega)).mono ?_
  rintro e w' ⟨rfl, hs⟩
  refine ⟨⟨_, rfl⟩, ?_⟩
  unfold LoopSt
  rw [List.take_add_one, hp]
  show St w _ R (runF R (l.take k ++ [p])) w'
  rw [runF_snoc]
  exact hs

set_option maxHeartbeats 3200000 in
set_option maxRecDepth 100000 in
theorem keeps_walk (a0 : Int) (A1 : Option Addr) (n1 c1 : Nat) (A2 : Option Addr) (n2 c2 : Nat) (l : List OpM) (ks : List Int) (w : World) (hl : OpsRd w w.heap.size A1 n1 c1 l) (hk : Rd w w.heap.size .i64 A2 n2 c2 ks) (kb : ∀ z ∈ ks, -9223372036854775808 ≤ z ∧ z ≤ 9223372036854775807)
    (hf : fewF l = true) :
    Calls Try.prog 4 #[.int .i64 a0, .slice A1 n1 c1, .slice A2 n2 c2] w fun e w' => e = .returned (.bool true) ∧ Below w.heap.size w w' := by
  have HAW := Lib.hid fun W => awake_any W
  obtain ⟨R, hR⟩ : ∃ R, R = clampR a0 := ⟨_, rfl⟩
  have HNEW : Hid (∀ q, Calls Try.prog 12 #[.int .i64 a0] (w.drewN q) fun e w' => e = .returned (.pointer (some ⟨w.heap.size + 1, 0, none⟩)) ∧ Hid (LoopSt w R l 0 w')) := Lib.hid fun q => (New_st a0 (w.drewN q)).mono (by
    rintro e w' ⟨rfl, h1, _⟩
    rw [← hR] at h1
    exact ⟨rfl, Lib.hid h1.undrew⟩)
  have hlen := hl.len
  have hn60 : n1 ≤ 60 := by have := fewF_len hf; omega
  have hc1 := hl.cap
  have hm1 := hl.max
  unfold maxLen at hm1
  have HFEW := Lib.hid (few_any hl)
  rw [hf] at HFEW
  have HL := Lib.hid hl
  have HK := Lib.hid hk
  have HKB := Lib.hid kb
  have HLEN := Lib.hid hlen
  clear hl hk kb hf hlen hR
  go_enter Try.func4, Try.ntmps4
  go_wp2_with (first
    | (go_at_call 10; refine HFEW.out.mono ?_; rintro e w0 ⟨rfl, q, rfl⟩)
    | (go_at_call 12; refine (HNEW.out _).mono ?_; rintro e w1 ⟨rfl, h1⟩))
  go_loopw [28] (fun t wr => ∃ k : Nat, t = .int .i64 k ∧ k ≤ n1 ∧ Hid (LoopSt w R l k wr)) (fun t _ => n1 - (intOf t).toNat)
  case atStart => exact ⟨0, rfl, Nat.zero_le _, h1⟩
  case round =>
    obtain ⟨k, rfl, hk, HS⟩ := hrel
    by_cases hkn : k < n1
    · obtain ⟨p, b, o, hp, hpm, rfl, hbB, hcell, hok⟩ := HL.out.at hkn
      have hb := HS.out.below
      have cc : ∀ i u, p.vals[i]? = some u → wr.cell? ⟨b, o + k * 6 + i, none⟩ = some u := fun i u hu => by
        rw [hb.cell (p := ⟨b, o + k * 6 + i, none⟩) hbB, Nat.add_assoc]
        exact hcell i u hu
      have e0 := cc 0 _ rfl
      have e1 := cc 1 _ rfl
      have e2 := cc 2 _ rfl
      have e3 := cc 3 _ rfl
      have e4 := cc 4 _ rfl
      have e5 := cc 5 _ rfl
      have HSTEP := Lib.hid fun o => HS.out.step HL.out hn60 hp o
      have hkn' : (k : Int) < n1 := by omega
      rw [Nat.add_zero] at e0
      clear hcell hok hpm hp hb cc
      go_wp2_with (go_at_call 15; refine (HSTEP.out _).mono ?_; rintro e w2 ⟨⟨r, rfl⟩, h2⟩; have HS2 := Lib.hid h2; clear h2)
      go_roundw
      case rel => exact ⟨k + 1, by go_num, by omega, HS2⟩
      case measure => simp [intOf]; omega
    · obtain rfl : k = n1 := by omega
      have hs := HS.out
      unfold LoopSt at hs
      have hL60 : (runF R (l.take k)).length ≤ 60 := by
        have h1 := runF_len R (l.take k)
        have h2 : (l.take k).length ≤ k := List.length_take_le _ _
        omega
      generalize runF R (l.take k) = S at hs hL60
      have hLb : S.length ≤ 1000000 := by omega
      have HCP := Lib.hid (Two.copy hs hLb)
      have HRI := Lib.hid hs.disk.rising
      have HEA := Lib.hid hs.disk.each
      have hL60' : (S.length : Int) ≤ 60 := by omega
      -- the first Crash
      have HC1 := Lib.hid fun d2 N M V (hT : Two w (w.heap.size + 1) d2 R S S N M V) => Two.crash hT (Below.refl _ _) A2 n2 c2 ks ((HK.out.below hT.below).more hT.below.size) (fun b o e hn => .inl (by
        obtain ⟨b', o', e', hb', _⟩ := HK.out.cell hn
        rw [e] at e'
        cases e'
        exact hb')) HKB.out hLb
      have hLc : (crashF ks S).length ≤ 1000000 := by rw [crashF_len]; exact hLb
      have HN1 := Lib.hid fun d2 N M V (hT : Two w (w.heap.size + 1) d2 R (crashF ks S) S N M V) => Two.names2 hT hLb
      have HN2 := Lib.hid fun d2 N M V (hT : Two w (w.heap.size + 1) d2 R (crashF ks S) S N M V) => by
        have := Two.names1 hT hLc
        unfold NamesSaid at this
        rwa [crashF_len] at this
      have HU := Lib.hid fun d2 N M V (hT : Two w (w.heap.size + 1) d2 R (crashF ks S) S N M V) => Used_any hT.one
      have HC2 := Lib.hid fun d2 N M V (hT : Two w (w.heap.size + 1) d2 R (crashF ks S) S N M V) => by
        have := Two.crash hT ((Below.refl V.heap.size V).alloc (Nat.le_refl _) (.cells #[.int .i64 1, .int .i64 2, .int .i64 3] 3)) (some ⟨V.heap.size, 0, none⟩) 3 3 [1, 2, 3] ((Rd.lit V .i64 3 [1, 2, 3] (by decide)).more (by simp)) (fun b o e _ => .inr (by cases e; exact Nat.le_refl _)) (by decide) hLc
        rwa [crash_twice (fun f hf => (HEA.out f hf).1)] at this
      clear hs
      go_wp2_with (first
        | (go_at_call 17; refine HCP.out.mono ?_; rintro e w3 ⟨d2, rfl, hT3⟩)
        | (go_at_call 18; (with_reducible refine (HC1.out _ _ _ _ hT3).mono ?_); rintro e w4 ⟨rfl, hT4⟩; clear hT3)
        | (go_at_call 19; (with_reducible refine (HN1.out _ _ _ _ hT4).mono ?_); rintro e w5 ⟨A5, c5, rfl, ho5, hb5⟩; have hT5 := hT4.later hb5; clear hT4 hb5))
      have HT5 := Lib.hid hT5
      have HO5 := Lib.hid ho5
      have hc5 : S.length ≤ c5 := by
        rcases ho5.2 with ⟨_, e2⟩ | ⟨g, cap, cur, e1, _, _, e3, _⟩
        · omega
        · cases e1; exact e3
      clear ho5 hT5
      go_loopw [46] (fun t wq => ∃ j : Nat, t = .int .i64 j ∧ j ≤ S.length ∧ Hid (Below w5.heap.size w5 wq)) (fun t _ => S.length - (intOf t).toNat)
      case atStart => exact ⟨0, rfl, Nat.zero_le _, Lib.hid (Below.refl _ _)⟩
      case round =>
        obtain ⟨j, rfl, hj, HBQ⟩ := hrel
        have hT := HT5.out.later HBQ.out
        by_cases hjn : j < S.length
        · obtain ⟨f, hf⟩ : ∃ f, S[j]? = some f := ⟨_, List.getElem?_eq_getElem hjn⟩
          obtain ⟨hsy, hnl, hby, hbig⟩ := HEA.out f (List.mem_of_getElem? hf)
          obtain ⟨g, rfl, hg1, hg2, hcn⟩ := own_cell (k := j) (u := nameV f.nm) HO5.out (by rw [List.getElem?_map, hf]; rfl)
          have hcn' : wr.cell? ⟨g, j, none⟩ = some (nameV f.nm) := by
            rw [Nat.zero_add] at hcn
            rw [HBQ.out.cell (p := ⟨g, j, none⟩) hg2]
            exact hcn
          obtain ⟨sn, hsn, hsn2⟩ : ∃ sn : ByteArray, nameV f.nm = .string sn ∧ sn.data.toList = f.nm := ⟨⟨f.nm.toArray⟩, rfl, by simp⟩
          rw [hsn] at hcn'
          have hsz : sn.size ≤ maxLen := by
            have : sn.data.toList.length ≤ 32 := by rw [hsn2]; exact hnl
            rw [Array.length_toList] at this
            unfold maxLen
            exact Nat.le_trans this (by omega)
          have hle := survN_le ks j f
          obtain ⟨mm, hmm⟩ : ∃ mm, mm = f.s + survN ks j f := ⟨_, rfl⟩
          have hfb : (crashRF ks j f).b = f.b.take mm := by rw [hmm]; rfl
          have hfl : (crashRF ks j f).b.length = mm := by rw [hfb, List.length_take]; omega
          have hfs : (crashRF ks j f).s = mm := by rw [hmm]; rfl
          have hR2 := hT.read2 hsz (f := f) (by rw [hsn2]; exact findN_some HRI.out (List.mem_of_getElem? hf))
          have HR1 := Lib.hid fun d2 N M V (hT : Two w (w.heap.size + 1) d2 R (crashF ks S) S N M V) => by
            have := hT.read1 hsz (f := crashRF ks j f) (by rw [hsn2]; exact crashF_find HRI.out hf ks)
            rwa [hfl, hfb] at this
          have HL2 := Lib.hid fun d2 N M V (hT : Two w (w.heap.size + 1) d2 R (crashF ks S) S N M V) => by
            have := Loose_any hT.two sn hsz
            rwa [show looseF S sn.data.toList = f.b.length - f.s by unfold looseF; rw [hsn2, findN_some HRI.out (List.mem_of_getElem? hf)]] at this
          have HL1 := Lib.hid fun d2 N M V (hT : Two w (w.heap.size + 1) d2 R (crashF ks S) S N M V) => by
            have := Loose_any hT.one sn hsz
            rwa [show looseF (crashF ks S) sn.data.toList = 0 by unfold looseF; rw [hsn2, crashF_find HRI.out hf ks]; show (crashRF ks j f).b.length - (crashRF ks j f).s = 0; omega] at this
          have HEQ := Lib.hid fun (V : World) A c A' c' N N' (o1 : V.ownsRow N 5 1 (.slice A mm c) mm ((f.b.take mm).map (Value.int .u8))) (o2 : V.ownsRow N' 5 1 (.slice A' f.b.length c') f.b.length (f.b.map (Value.int .u8))) => by
            obtain ⟨B1, q1, e1, r1⟩ := Rd.of_own o1
            obtain ⟨B2, q2, e2, r2⟩ := Rd.of_own o2
            cases e1
            cases e2
            have := Equal_any A A' _ c _ c' _ _ _ _ V r1 (r2.take (m := mm) (by omega)) (fun x hx => hby x (List.mem_of_mem_take hx)) (fun x hx => hby x (List.mem_of_mem_take hx))
            rwa [decide_eq_true rfl] at this
          have hmN : mm ≤ f.b.length := by omega
          have HR2 := Lib.hid (hR2.mono (R' := fun e w' => ∃ A c, e = .returned (.tuple #[.slice A f.b.length c, .int .i64 0]) ∧ w'.ownsRow wr.heap.size 5 1 (.slice A f.b.length c) f.b.length (f.b.map (Value.int .u8)) ∧ Below wr.heap.size wr w' ∧ mm ≤ c) (by
            rintro e w' ⟨A, c, h1, h2, h3⟩
            exact ⟨A, c, h1, h2, h3, Nat.le_trans hmN (own_cap h2)⟩))
          generalize hN : f.b.length = NN at *
          obtain ⟨lo, hlo⟩ : ∃ lo, lo = NN - f.s := ⟨_, rfl⟩
          rw [← hlo] at HL2
          have hd1 : (NN : Int) - (lo : Int) ≤ mm := by omega
          have hd2 : (mm : Int) ≤ NN := by omega
          have hlo2 : (lo : Int) ≤ NN := by omega
          have hjn' : (j : Int) < S.length := by omega
          have hc5' : (S.length : Int) ≤ c5 := by omega
          clear hf hsn hsn2 hnl hby hfb hfl hfs hle hmm hR2 hcn hlo
          go_wp2_with (first
            | (go_at_call 20; (with_reducible refine HR2.out.mono ?_); rintro e w6 ⟨A6, c6, rfl, ho6, hb6, hcap2⟩; have hT6 := hT.later hb6; have hbz6 := HBQ.out.trans (hb6.mono HBQ.out.size); clear hT hb6)
            | (go_at_call 20; (with_reducible refine (HR1.out _ _ _ _ hT6).mono ?_); rintro e w7 ⟨A7, c7, rfl, ho7, hb7⟩; have hT7 := hT6.later hb7; have ho6' := own_below ho6 hb7; have hbz7 := hbz6.trans (hb7.mono hbz6.size); clear hT6 hb7 ho6 hbz6)
            | (go_at_call 21; (with_reducible refine (HEQ.out _ _ _ _ _ _ _ ho7 ho6').mono ?_); rintro e w8 ⟨rfl, rfl⟩; clear ho7 ho6')
            | (go_at_call 22; (with_reducible refine (HL2.out _ _ _ _ hT7).mono ?_); rintro e w9 ⟨rfl, q9, rfl⟩; have hT9 := hT7.drewN q9; clear hT7)
            | (go_at_call 22; (with_reducible refine (HL1.out _ _ _ _ hT9).mono ?_); rintro e w10 ⟨rfl, q10, rfl⟩; clear hT9))
          go_roundw
          case rel => exact ⟨j + 1, by go_num, by omega, Lib.hid (below_draws hbz7 _)⟩
          case measure => simp [intOf]; omega
        · obtain rfl : j = S.length := by omega
          go_wp2_with (first
            | (go_at_call 23; (with_reducible refine (HU.out _ _ _ _ hT).mono ?_); rintro e w6 ⟨rfl, rfl⟩)
            | (go_at_call 18; (with_reducible refine (HC2.out _ _ _ _ hT).mono ?_); rintro e w7 ⟨rfl, hT7⟩; clear hT)
            | (go_at_call 23; (with_reducible refine (HU.out _ _ _ _ hT7).mono ?_); rintro e w8 ⟨rfl, rfl⟩)
            | (go_at_call 19; (with_reducible refine (HN2.out _ _ _ _ hT7).mono ?_); rintro e w9 ⟨A9, c9, rfl, -, hb9⟩; have hT9 := hT7.later hb9; clear hT7 hb9)
            | (go_at_call 19; (with_reducible refine (HN1.out _ _ _ _ hT9).mono ?_); rintro e w10 ⟨A10, c10, rfl, -, hb10⟩; have hTb := (hT9.later hb10).below; clear hT9 hb10)
            | (go_at_call 11; refine (HAW.out _).mono ?_; rintro e w11 ⟨rfl, hb11⟩))
          go_ret
          exact ⟨rfl, hTb.trans (hb11.mono hTb.size)⟩

set_option maxHeartbeats 1600000 in
set_option maxRecDepth 100000 in
theorem keeps_no (a0 : Int) (A1 : Option Addr) (n1 c1 : Nat) (A2 : Option Addr) (n2 c2 : Nat) (l : List OpM) (w : World) (hl : OpsRd w w.heap.size A1 n1 c1 l) (hf : fewF l = false) :
    Calls Try.prog 4 #[.int .i64 a0, .slice A1 n1 c1, .slice A2 n2 c2] w fun e w' => e = .returned (.bool true) ∧ Below w.heap.size w w' := by
  have HAW : Hid (∀ q, Calls Try.prog 11 #[] (w.drewN q) fun e w' => e = .returned (.bool true) ∧ Below w.heap.size w w') := Lib.hid fun q => (awake_any (w.drewN q)).mono (by
    rintro e w' ⟨rfl, hb⟩
    exact ⟨rfl, hb.os, hb.tape, hb.output, hb.size, hb.block⟩)
  have HFEW := Lib.hid (few_any hl)
  rw [hf] at HFEW
  clear hl hf
  go_enter Try.func4, Try.ntmps4
  go_wp2_with (first
    | (go_at_call 10; refine HFEW.out.mono ?_; rintro e w0 ⟨rfl, q, rfl⟩)
    | (go_at_call 11; refine (HAW.out _).mono ?_; rintro e w11 ⟨rfl, hb11⟩))
  go_ret
  exact ⟨rfl, hb11⟩

theorem keeps_any (a0 : Int) (A1 : Option Addr) (n1 c1 : Nat) (A2 : Option Addr) (n2 c2 : Nat) (l : List OpM) (ks : List Int) (w : World) (hl : OpsRd w w.heap.size A1 n1 c1 l) (hk : Rd w w.heap.size .i64 A2 n2 c2 ks) (kb : ∀ z ∈ ks, -9223372036854775808 ≤ z ∧ z ≤ 9223372036854775807) :
    Calls Try.prog 4 #[.int .i64 a0, .slice A1 n1 c1, .slice A2 n2 c2] w fun e w' => e = .returned (.bool true) ∧ Below w.heap.size w w' := by
  by_cases hf : fewF l = true
  · exact keeps_walk a0 A1 n1 c1 A2 n2 c2 l ks w hl hk kb hf
  · exact keeps_no a0 A1 n1 c1 A2 n2 c2 l w hl (by simpa using hf)
end Go.Proofs.Ytlpodamjehdmhaa
