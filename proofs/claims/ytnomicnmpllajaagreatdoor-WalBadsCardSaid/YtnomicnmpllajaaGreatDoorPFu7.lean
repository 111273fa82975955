/- What is proved here: what the disk's Crash does. -/
/- What is proved here: what bytes.Clone and frame.first return. -/
/- What is proved here: what frame.Seal and frame.Next return, in new memory; none that was there is changed. -/
/- What is proved here: what frame.All returns, in new memory; none that was there is changed. -/
import Derived.Test.YtnomicnmpllajaaGreatDoorPFu6
import Derived.LoopTactic
import Derived.Deep.DeepCutAuto
import Derived.Test.YtnomicnmpllajaaGreatDoorPFu3
import Derived.Test.YtnomicnmpllajaaGreatDoorPFu5
import Derived.Deep.QuietTactic
import Derived.BigQuiet
import Derived.Deep.RegionWith
import Derived.WalkSmall
section
namespace Go.Proofs.YtnomicnmpllajaaGreatDoor
open Go Go.RowKit Go.Maps

/-- How many bytes that are not synced survive. -/
def survN (ks : List Int) (i : Nat) (f : RF) : Nat := if i < ks.length ∧ 0 < ks.getD i 0 then (ks.getD i 0 % (((f.b.length - f.s : Nat) : Int) + 1)).toNat else 0
def crashRF (ks : List Int) (i : Nat) (f : RF) : RF := cutRF f (f.s + survN ks i f)
/-- The files, of which the first k are torn. -/
def crashTo (ks : List Int) (k : Nat) (S : List RF) : List RF := S.mapIdx fun i f => if i < k then crashRF ks i f else f
def crashF (ks : List Int) (S : List RF) : List RF := S.mapIdx fun i f => crashRF ks i f
theorem survN_le (ks : List Int) (i : Nat) (f : RF) : survN ks i f ≤ f.b.length - f.s := by
  unfold survN
  split
  · rename_i h
    have h1 := Int.emod_lt_of_pos (ks.getD i 0) (show (0 : Int) < ((f.b.length - f.s : Nat) : Int) + 1 by omega)
    have h2 := Int.emod_nonneg (ks.getD i 0) (show (((f.b.length - f.s : Nat) : Int) + 1) ≠ 0 by omega)
    omega
  · omega
theorem crashTo_zero (ks : List Int) (S : List RF) : crashTo ks 0 S = S := by
  unfold crashTo
  apply List.ext_getElem?
  intro i
  simp
theorem crashTo_all (ks : List Int) (S : List RF) : crashTo ks S.length S = crashF ks S := by
  unfold crashTo crashF
  apply List.ext_getElem?
  intro i
  rw [List.getElem?_mapIdx, List.getElem?_mapIdx]
  by_cases h : i < S.length
  · simp [h]
  · simp [List.getElem?_eq_none (by omega : S.length ≤ i)]
theorem crashTo_len (ks : List Int) (k : Nat) (S : List RF) : (crashTo ks k S).length = S.length := by unfold crashTo; rw [List.length_mapIdx]
theorem crashTo_get (ks : List Int) (k i : Nat) (S : List RF) : (crashTo ks k S)[i]? = (S[i]?).map fun f => if i < k then crashRF ks i f else f := by
  unfold crashTo
  rw [List.getElem?_mapIdx]
theorem crash_nm (ks : List Int) (i : Nat) (f : RF) : (crashRF ks i f).nm = f.nm := rfl
theorem crashTo_rising {S : List RF} (h : Rising RF.nm S) (ks : List Int) (k : Nat) : Rising RF.nm (crashTo ks k S) := by
  refine List.pairwise_iff_getElem.2 fun i j hi hj hij => ?_
  rw [crashTo_len] at hi hj
  have := List.pairwise_iff_getElem.1 h i j hi hj hij
  have e : ∀ a (ha : a < S.length) (ha' : a < (crashTo ks k S).length), (crashTo ks k S)[a].nm = S[a].nm := fun a ha ha' => by
    have h1 := crashTo_get ks k a S
    rw [List.getElem?_eq_getElem ha', List.getElem?_eq_getElem ha] at h1
    simp only [Option.map_some, Option.some.injEq] at h1
    rw [h1]
    split <;> rfl
  rw [e i hi, e j hj]
  exact this
theorem crashTo_succ {S : List RF} (h : Rising RF.nm S) (ks : List Int) {k : Nat} {f : RF} (hf : S[k]? = some f) : putN RF.nm (crashRF ks k f) (crashTo ks k S) = crashTo ks (k + 1) S := by
  have hmem : f ∈ crashTo ks k S := by
    have := crashTo_get ks k k S
    rw [hf] at this
    simp at this
    exact List.mem_of_getElem? this
  rw [putN_replace (crashTo_rising h ks k) hmem (crash_nm ks k f).symm]
  apply List.ext_getElem?
  intro i
  rw [List.getElem?_map, crashTo_get, crashTo_get]
  cases hi : S[i]? with
  | none => rfl
  | some g =>
    simp only [Option.map_some, Option.some.injEq]
    by_cases hik : i = k
    · subst hik
      rw [hf] at hi
      obtain rfl := Option.some.inj hi
      simp [crash_nm]
    · have hne : ¬ (if i < k then crashRF ks i g else g).nm = f.nm := fun e => hik (h.irrefl hi hf (by
        split at e
        · exact e
        · exact e))
      rw [if_neg (by simpa [crash_nm] using hne)]
      by_cases hlt : i < k
      · rw [if_pos hlt, if_pos (by omega)]
      · rw [if_neg hlt, if_neg (by omega)]

/-- Where the loop stands. -/
def CrashRel (d : Nat) (room : Int) (S : List RF) (ks : List Int) (Φ : Nat → Prop) (w1 : World) (k : Nat) (wr : World) : Prop :=
  DiskAt wr d room (crashTo ks k S) (grow Φ w1 wr) ∧ Chg Φ w1 wr

/-- What one round of it needs. -/
theorem crash_round {d : Nat} {room : Int} {S : List RF} {ks : List Int} {Φ : Nat → Prop} {w1 wr : World} {k : Nat} (hS : Rising RF.nm S) (h : CrashRel d room S ks Φ w1 k wr) {f : RF} (hf : S[k]? = some f) :
    ∃ m p A c, wr.cell? ⟨d, 2, none⟩ = some (.map (some m)) ∧
      (f.nm.length ≤ 32 → ∀ q, (Instr.lookup 77 (.map (some m)) (nameV f.nm) false).run Tryz.prog (wr.drewN q) = .ok (.pointer (some ⟨p, 0, none⟩)) (wr.drewN q)) ∧ f.nm.length ≤ 32 ∧
      wr.cell? ⟨p, 0, none⟩ = some (.slice A f.b.length c) ∧ wr.cell? ⟨p, 1, none⟩ = some (.int .i64 f.s) ∧ f.s ≤ f.b.length ∧ f.b.length ≤ 1048576 ∧
      (∀ q, Calls Tryz.prog 51 #[.pointer (some ⟨p, 0, none⟩)] (wr.drewN q) fun e w' => e = .returned (.int .i64 ((f.b.length - f.s : Nat) : Int)) ∧ ∃ n, w' = (wr.drewN q).drewN n) ∧
      (∀ q, Calls Tryz.prog 52 #[.pointer (some ⟨d, 0, none⟩), .pointer (some ⟨p, 0, none⟩), .int .i64 ((f.s + survN ks k f : Nat) : Int)] (wr.drewN q) fun e w2 => e = .returned (.tuple #[]) ∧ Hid (CrashRel d room S ks Φ w1 (k + 1) w2)) := by
  obtain ⟨⟨m, L, hL, hD⟩, hc⟩ := h
  have hget : (L.map Fil.f)[k]? = some f := by
    rw [hL, crashTo_get, hf]
    simp
  rw [List.getElem?_map] at hget
  obtain ⟨x, hx, hxf⟩ := Option.map_eq_some_iff.1 hget
  have hxL := List.mem_of_getElem? hx
  have hfile := hD.file x hxL
  obtain ⟨_, _, q2, _⟩ := three_cells hD.blk
  obtain ⟨A, c, hv, hr⟩ := hfile.rd
  obtain ⟨a0, a1, _⟩ := two_cells hfile.blk
  have h3 := usedN_mem (List.mem_map_of_mem (f := Fil.f) hxL)
  have h4 := hD.used
  have h5 := hD.rm
  have hsyn := hfile.syn
  have hlen := hfile.len
  have hq : ∀ q, DiskL (wr.drewN q) d m room L (grow Φ w1 wr) := fun q => hD.keep (Chg.drewN (Φ := fun _ => False) wr q) fun _ _ => id
  rw [hv] at a0
  subst hxf
  refine ⟨m, x.p, A, c, q2, fun hl q => ?_, hlen, a0, a1, hsyn, by omega, fun q => loose_any x _ ((hq q).file x hxL), fun q => ?_⟩
  · have := (hq q).map.look ⟨x.f.nm.toArray⟩ (by show x.f.nm.toArray.size ≤ _; simp; unfold maxLen; omega)
    have e : (⟨x.f.nm.toArray⟩ : ByteArray).data.toList = x.nm := by simp
    rw [e, ptrTo_some hD.srt hxL] at this
    exact this
  · have hle := survN_le ks k x.f
    refine (shorten_any (hq q) hxL (x.f.s + survN ks k x.f) (by omega)).mono ?_
    rintro e w2 ⟨rfl, hc2, x', _, hxf', hD2⟩
    refine ⟨rfl, Lib.hid ⟨⟨m, _, ?_, hD2.mono fun i hi hg => ?_⟩, ?_⟩⟩
    · rw [map_putN fil_name, hL, hxf']
      exact crashTo_succ hS ks hf
    · have hsz := hc.size
      have hsz2 : wr.heap.size ≤ w2.heap.size := hc2.size
      rcases hg with (hg | hg) | hg
      · exact .inl hg
      · exact .inr ⟨hg.1, hi⟩
      · exact .inr ⟨by have : wr.heap.size ≤ i := hg.1; omega, hi⟩
    · refine hc.trans (b := wr) ((Chg.drewN (Φ := foot d x) wr q).trans hc2 fun _ _ e => e) fun i hi hfi => ?_
      rcases hD.foot_in hxL i hfi with hg | hg
      · exact hg
      · omega

theorem own_cell {w : World} {base e n k : Nat} {A : Option Addr} {c : Nat} {xs : List Value} {u : Value} (h : w.ownsRow base e 1 (.slice A n c) n xs) (hk : xs[k]? = some u) : ∃ g, A = some ⟨g, 0, none⟩ ∧ base ≤ g ∧ g < w.heap.size ∧ w.cell? ⟨g, 0 + k, none⟩ = some u := by
  have hl : xs.length = n := by simpa using h.1
  have hkn : k < n := by rw [← hl]; exact (List.getElem?_eq_some_iff.1 hk).1
  obtain ⟨g, cap, hv, hb, hg, hcell⟩ := own_place h (by omega)
  cases hv
  have := hcell k u hk
  rw [Addr.add_lit] at this
  exact ⟨g, rfl, hb, hg, this⟩

set_option maxHeartbeats 4000000 in
set_option maxRecDepth 100000 in
theorem Crash_any {w : World} {d : Nat} {room : Int} {S : List RF} {Φ : Nat → Prop} (h : DiskAt w d room S Φ) (A : Option Addr) (n c : Nat) (ks : List Int) (hr : Rd w w.heap.size .i64 A n c ks) (hkA : ∀ b o, A = some ⟨b, o, none⟩ → 0 < n → ¬ Φ b)
    (hks : ∀ z ∈ ks, -9223372036854775808 ≤ z ∧ z ≤ 9223372036854775807) (hL : S.length ≤ 1000000) :
    Calls Tryz.prog 20 #[.pointer (some ⟨d, 0, none⟩), .slice A n c] w fun e w' => e = .returned (.tuple #[]) ∧ Chg Φ w w' ∧ DiskAt w' d room (crashF ks S) (grow Φ w w') := by
  have hS : Rising RF.nm S := by
    obtain ⟨m, L, rfl, hD⟩ := h
    exact hD.srt.map (g := Fil.f) fil_name
  obtain ⟨Ψ, hΨ⟩ : ∃ Ψ : Nat → Prop, Ψ = fun k => Φ k ∧ k < w.heap.size := ⟨_, rfl⟩
  have h0 : DiskAt w d room S Ψ := by
    obtain ⟨m, L, e, hD⟩ := h
    exact ⟨m, L, e, by rw [hΨ]; exact hD.mono fun _ h1 h2 => ⟨h2, h1⟩⟩
  have HNM : Hid (Calls Tryz.prog 40 #[.pointer (some ⟨d, 0, none⟩)] w fun e w1 => ∃ A1 c1, e = .returned (.slice A1 S.length c1) ∧ Hid (w1.ownsRow w.heap.size 9 1 (.slice A1 S.length c1) S.length (S.map fun f => nameV f.nm)) ∧ Hid (Below w.heap.size w w1) ∧ Hid (CrashRel d room S ks Ψ w1 0 w1) ∧ S.length ≤ c1) := Lib.hid ((Names_any h0 hL).mono (by
    rintro e w1 ⟨A1, c1, rfl, h1, h2⟩
    have hr1 : S.length ≤ c1 := by
      rcases h1.2 with ⟨_, e2⟩ | ⟨g, cap, cur, e1, _, _, e3, _⟩
      · omega
      · cases e1; exact e3
    refine ⟨A1, c1, rfl, Lib.hid h1, Lib.hid h2, Lib.hid ⟨?_, Chg.refl _ _⟩, hr1⟩
    rw [crashTo_zero]
    obtain ⟨m, L, e, hD⟩ := h0
    have hD1 : DiskL w1 d m room L Ψ := hD.keep (Ψ := fun _ => False) (Chg.of_below h2) fun _ _ => id
    exact ⟨m, L, e, hD1.mono fun _ _ => .inl⟩))
  have HEND : Hid (∀ w1 wr, Below w.heap.size w w1 → CrashRel d room S ks Ψ w1 S.length wr → Chg Φ w wr ∧ DiskAt wr d room (crashF ks S) (grow Φ w wr)) := Lib.hid (by
    rintro w1 wr h1 ⟨⟨m, L, e, hD⟩, h3⟩
    rw [crashTo_all] at e
    refine ⟨(Chg.of_below (Φ := Φ) h1).trans h3 fun i _ hi => by rw [hΨ] at hi; exact hi.1, m, L, e, hD.mono fun k hk hg => ?_⟩
    have hsz := h1.size
    rcases hg with hg | hg
    · rw [hΨ] at hg; exact .inl hg.1
    · exact .inr ⟨by omega, hk⟩)
  have HKEEP : Hid (∀ w1 wr k, Below w.heap.size w w1 → Chg Ψ w1 wr → k < n → ∃ b o, A = some ⟨b, o, none⟩ ∧ ∀ q, (wr.drewN q).cell? ⟨b, o + k, none⟩ = some (.int .i64 (ks.getD k 0))) := Lib.hid (by
    intro w1 wr k h1 h2 hk
    obtain ⟨b, o, e, hb, hcell⟩ := hr.cell hk
    refine ⟨b, o, e, fun q => ?_⟩
    have hnb : ¬ Ψ b := by rw [hΨ]; exact fun hh => hkA b o e (by omega) hh.1
    have hsz := h1.size
    show wr.cell? _ = _
    rw [h2.cell (p := ⟨b, o + k, none⟩) (by show b < _; omega) hnb, h1.cell (p := ⟨b, o + k, none⟩) hb]
    exact hcell)
  have HNAME : Hid (∀ (w1 wr : World) A1 c1 k f, w1.ownsRow w.heap.size 9 1 (.slice A1 S.length c1) S.length (S.map fun f => nameV f.nm) → Chg Ψ w1 wr → S[k]? = some f → ∃ g, A1 = some ⟨g, 0, none⟩ ∧ wr.cell? ⟨g, 0 + k, none⟩ = some (nameV f.nm)) := Lib.hid (by
    intro w1 wr A1 c1 k f h1 h2 hf
    obtain ⟨g, e, hg1, hg2, hcell⟩ := own_cell (k := k) (u := nameV f.nm) h1 (by rw [List.getElem?_map, hf]; rfl)
    refine ⟨g, e, ?_⟩
    rw [h2.cell (p := ⟨g, 0 + k, none⟩) hg2 (by rw [hΨ]; exact fun hh => by have : g < w.heap.size := hh.2; omega)]
    exact hcell)
  have HLEN := Lib.hid hr.len
  have HKS := Lib.hid hks
  have hc := hr.cap
  have hmx := hr.max
  unfold maxLen at hmx
  have HS := Lib.hid hS
  clear h hr hks hS hkA h0 hΨ
  go_enter Tryz.func20, Tryz.ntmps20
  go_wp2_with (go_at_call 40; refine HNM.out.mono ?_; rintro e w1 ⟨A1, c1, rfl, HO, HB, HR, hc1⟩)
  go_loopw [11] (fun t wr => ∃ k : Nat, t = .int .i64 k ∧ k ≤ S.length ∧ Hid (CrashRel d room S ks Ψ w1 k wr)) (fun t _ => S.length - (intOf t).toNat)
  case atStart => exact ⟨0, rfl, Nat.zero_le _, HR⟩
  case round =>
    obtain ⟨k, rfl, hk, HRk⟩ := hrel
    by_cases hlt : k < S.length
    · obtain ⟨f, hf⟩ : ∃ f, S[k]? = some f := ⟨_, List.getElem?_eq_getElem hlt⟩
      obtain ⟨m, p, A2, c2, q2, hlk, hl32, a0, a1, hsyn, hbig, hloose, hshort⟩ := crash_round HS.out HRk.out hf
      replace hlk := hlk hl32
      obtain ⟨g, rfl, hcn⟩ := HNAME.out w1 wr A1 c1 k f HO.out HRk.out.2 hf
      have HSH := Lib.hid hshort
      have HLO := Lib.hid hloose
      have hnv : nameV f.nm = .string ⟨f.nm.toArray⟩ := rfl
      rw [hnv] at hlk hcn
      rw [Nat.zero_add] at hcn
      generalize (⟨f.nm.toArray⟩ : ByteArray) = sn at hlk hcn
      replace hlk := hlk 0
      change (Instr.lookup 77 (.map (some m)) (.string sn) false).run Tryz.prog wr = .ok (.pointer (some ⟨p, 0, none⟩)) wr at hlk
      clear hnv
      have hlt2 : (k : Int) < S.length := by omega
      have hc1' : (S.length : Int) ≤ c1 := by omega
      by_cases hkn : k < n
      · obtain ⟨b, o, rfl, hck⟩ := HKEEP.out w1 wr k HB.out HRk.out.2 hkn
        have hck0 := hck 0
        change wr.cell? ⟨b, o + k, none⟩ = _ at hck0
        have hkn2 : (k : Int) < n := by omega
        have hz := HKS.out (ks.getD k 0) (by rw [List.getD_eq_getElem?_getD, List.getElem?_eq_getElem (by rw [HLEN.out]; exact hkn)]; exact List.getElem_mem _)
        by_cases hpos : 0 < ks.getD k 0
        · have hsv : survN ks k f = (ks.getD k 0 % (((f.b.length - f.s : Nat) : Int) + 1)).toNat := by unfold survN; rw [if_pos ⟨by rw [HLEN.out]; exact hkn, hpos⟩]
          have hm1 := Int.emod_lt_of_pos (ks.getD k 0) (show (0 : Int) < ((f.b.length - f.s : Nat) : Int) + 1 by omega)
          have hm2 := Int.emod_nonneg (ks.getD k 0) (show (((f.b.length - f.s : Nat) : Int) + 1) ≠ 0 by omega)
          have HSH2 : Hid (∀ q, Calls Tryz.prog 52 #[.pointer (some ⟨d, 0, none⟩), .pointer (some ⟨p, 0, none⟩), .int .i64 ((f.s : Int) + ks.getD k 0 % (((f.b.length - f.s : Nat) : Int) + 1))] (wr.drewN q) fun e w2 => e = .returned (.tuple #[]) ∧ Hid (CrashRel d room S ks Ψ w1 (k + 1) w2)) := Lib.hid fun q => by
            have := hshort q
            rwa [show ((f.s + survN ks k f : Nat) : Int) = (f.s : Int) + ks.getD k 0 % (((f.b.length - f.s : Nat) : Int) + 1) by omega] at this
          clear hshort HSH hloose hsv
          generalize ks.getD k 0 = z at *
          generalize hl : f.b.length - f.s = l at *
          have hl2 : l ≤ 1048576 := by omega
          clear hl
          go_upto_region 6 with fail
          obtain ⟨hw1, htm⟩ : IntKind.i64.wrap ((l : Int) + 1) = (l : Int) + 1 ∧ z.tmod ((l : Int) + 1) = z % ((l : Int) + 1) := ⟨IntWalk.i64_in _ (by omega), Int.tmod_eq_emod_of_nonneg (by omega)⟩
          go_quiet ((go_at_call 51; exact Calls.quiet_of (HLO.out _)))
          clear hw1 htm
          go_wp2_with (go_at_call 52; refine (HSH2.out _).mono ?_; rintro e w2 ⟨rfl, HX⟩)
          go_roundw
          case rel => exact ⟨k + 1, by go_num, by omega, HX⟩
          case measure => simp [intOf]; omega
        · have hsv : survN ks k f = 0 := by unfold survN; rw [if_neg fun e => hpos e.2]
          have HSH2 : Hid (∀ q, Calls Tryz.prog 52 #[.pointer (some ⟨d, 0, none⟩), .pointer (some ⟨p, 0, none⟩), .int .i64 (f.s : Int)] (wr.drewN q) fun e w2 => e = .returned (.tuple #[]) ∧ Hid (CrashRel d room S ks Ψ w1 (k + 1) w2)) := Lib.hid fun q => by
            have := hshort q
            rwa [hsv, Nat.add_zero] at this
          clear hshort HSH hloose hsv
          generalize ks.getD k 0 = z at *
          go_wp2_with (go_at_call 52; refine (HSH2.out 0).mono ?_; rintro e w2 ⟨rfl, HX⟩)
          go_roundw
          case rel => exact ⟨k + 1, by go_num, by omega, HX⟩
          case measure => simp [intOf]; omega
      · have hsv : survN ks k f = 0 := by unfold survN; rw [if_neg fun e => by have := e.1; rw [HLEN.out] at this; omega]
        have hkn2 : (n : Int) ≤ k := by omega
        have HSH2 : Hid (∀ q, Calls Tryz.prog 52 #[.pointer (some ⟨d, 0, none⟩), .pointer (some ⟨p, 0, none⟩), .int .i64 (f.s : Int)] (wr.drewN q) fun e w2 => e = .returned (.tuple #[]) ∧ Hid (CrashRel d room S ks Ψ w1 (k + 1) w2)) := Lib.hid fun q => by
          have := hshort q
          rwa [hsv, Nat.add_zero] at this
        clear hshort HSH hloose hsv
        go_wp2_with (go_at_call 52; refine (HSH2.out 0).mono ?_; rintro e w2 ⟨rfl, HX⟩)
        go_roundw
        case rel => exact ⟨k + 1, by go_num, by omega, HX⟩
        case measure => simp [intOf]; omega
    · obtain rfl : k = S.length := by omega
      go_wp2_with fail
      go_end0
      exact ⟨rfl, HEND.out w1 wr HB.out HRk.out⟩
end Go.Proofs.YtnomicnmpllajaaGreatDoor
end

section
namespace Go.Proofs.YtnomicnmpllajaaGreatDoor
open Go Go.RowKit

set_option maxHeartbeats 400000 in
theorem first_short (A : Option Addr) (n c : Nat) (xs : List Int) (B : Nat) (w : World) (h : Rd w B .u8 A n c xs) (hn : n < 6) :
    Calls Tryz.prog 101 #[.slice A n c] w fun e w' => e = .returned (.tuple #[.slice none 0 0, .int .i64 0, .int .i64 3]) ∧ w = w' := by
  have hm := h.max
  have hc := h.cap
  unfold maxLen at hm
  have hn' : (n : Int) < 6 := by omega
  go_enter Tryz.func101, Tryz.ntmps101
  go_wp2
  go_ret3
  exact ⟨rfl, rfl⟩
/-- What is behind a slice's first elements. -/
theorem Rd.drop {w : World} {B : Nat} {k : IntKind} {b o n c : Nat} {xs : List Int} (h : Rd w B k (some ⟨b, o, none⟩) n c xs) {m : Nat} (hm : m ≤ n) : Rd w B k (some ⟨b, o + m, none⟩) (n - m) (c - m) (xs.drop m) :=
  ⟨by rw [List.length_drop, h.len], by have := h.cap; omega, by have := h.max; omega, (fun e => by cases e), fun j u hu => by
    rw [List.getElem?_drop] at hu
    obtain ⟨b', o', e, hb, hc⟩ := h.place _ _ hu
    obtain ⟨rfl, rfl⟩ : b = b' ∧ o = o' := by simpa using e
    exact ⟨b, o + m, rfl, hb, by rw [Nat.add_assoc]; exact hc⟩⟩
theorem Rd.empty {w : World} {B : Nat} {k : IntKind} (a : Addr) : Rd w B k (some a) 0 0 [] := ⟨rfl, Nat.le_refl _, Nat.zero_le _, (fun e => by cases e), fun j u hu => by simp at hu⟩

theorem sumOf_two (A1 A2 : Option Addr) (n1 c1 n2 c2 g : Nat) (xs ys : List Int) (w : World) (h1 : w.cell? ⟨g, 0, none⟩ = some (.slice A1 n1 c1)) (h2 : w.cell? ⟨g, 1, none⟩ = some (.slice A2 n2 c2)) (hg : g < w.heap.size)
    (r1 : Rd w w.heap.size .u8 A1 n1 c1 xs) (r2 : Rd w w.heap.size .u8 A2 n2 c2 ys) (b1 : ∀ x ∈ xs, 0 ≤ x ∧ x < 256) (b2 : ∀ x ∈ ys, 0 ≤ x ∧ x < 256) (k1 : n1 ≤ 1000000) (k2 : n2 ≤ 1000000) :
    Calls Tryz.prog 63 #[.slice (some ⟨g, 0, none⟩) 2 2] w fun e w' => e = .returned (.int .u32 (sumL (xs ++ ys))) ∧ Below w.heap.size w w' := by
  have HS := sumOf_any g 0 2 2 [⟨A1, n1, c1, xs⟩, ⟨A2, n2, c2, ys⟩] w rfl (by omega) (by omega) (fun j p hj => by
      rcases j with _ | _ | j
      · simp at hj; subst hj; exact h1
      · simp at hj; subst hj; exact h2
      · simp at hj) hg (fun p hp => by
      simp at hp
      rcases hp with rfl | rfl
      · exact ⟨⟨r1, b1⟩, k1⟩
      · exact ⟨⟨r2, b2⟩, k2⟩)
  rwa [show bytesOf [⟨A1, n1, c1, xs⟩, ⟨A2, n2, c2, ys⟩] = xs ++ ys by unfold bytesOf; simp] at HS

theorem take_bytes {xs : List Int} (h : ∀ x ∈ xs, 0 ≤ x ∧ x < 256) (k : Nat) : ∀ x ∈ xs.take k, 0 ≤ x ∧ x < 256 := fun x hx => h x (List.mem_of_mem_take hx)
theorem drop_bytes {xs : List Int} (h : ∀ x ∈ xs, 0 ≤ x ∧ x < 256) (k : Nat) : ∀ x ∈ xs.drop k, 0 ≤ x ∧ x < 256 := fun x hx => h x (List.mem_of_mem_drop hx)

/-- The number that a frame's first two bytes are. -/
def sizeF (xs : List Int) : Nat := lowN (xs.take 2)
/-- Does the sum say what the rest is? -/
def sumF (xs : List Int) : Bool := decide (lowN ((xs.drop 2).take 4) = sumL (xs.take 2 ++ (xs.drop 6).take (sizeF xs)))
/-- Why no frame begins here: 0 where one does. -/
def whyF (xs : List Int) : Nat :=
  if xs.length < 6 then 3 else if 4096 < sizeF xs then 2 else if xs.length - 6 < sizeF xs then 3 else if sumF xs then 0 else 4

theorem neq_nat (a b : Nat) : ((a : Int) != (b : Int)) = !decide (a = b) := by
  by_cases h : a = b
  · subst h; simp
  · rw [decide_eq_false h, Bool.not_false, bne_iff_ne]; omega
/-- What 'first' answers. -/
def FirstSaid (w : World) (n : Nat) (xs : List Int) (e : Ending) (w' : World) : Prop :=
  Below w.heap.size w w' ∧ ((whyF xs ≠ 0 ∧ e = .returned (.tuple #[.slice none 0 0, .int .i64 0, .int .i64 (whyF xs)])) ∨
    (whyF xs = 0 ∧ ∃ A c, e = .returned (.tuple #[.slice A (sizeF xs) c, .int .i64 ((6 + sizeF xs : Nat) : Int), .int .i64 0]) ∧ Rd w' w.heap.size .u8 A (sizeF xs) c ((xs.drop 6).take (sizeF xs)) ∧ 6 + sizeF xs ≤ n))
theorem FirstSaid.bad {w w' : World} {n : Nat} {xs : List Int} {e : Ending} {er : Nat} (hw : whyF xs = er) (h0 : er ≠ 0) (he : e = .returned (.tuple #[.slice none 0 0, .int .i64 0, .int .i64 er])) (hb : Below w.heap.size w w') : FirstSaid w n xs e w' :=
  ⟨hb, .inl ⟨by rw [hw]; exact h0, by rw [hw]; exact he⟩⟩

set_option maxHeartbeats 1600000 in
set_option maxRecDepth 100000 in
theorem first_long (b o n c : Nat) (xs : List Int) (w : World) (h : Rd w w.heap.size .u8 (some ⟨b, o, none⟩) n c xs) (hx : ∀ x ∈ xs, 0 ≤ x ∧ x < 256) (hn : 6 ≤ n) (hn2 : n ≤ 1000000) :
    Calls Tryz.prog 101 #[.slice (some ⟨b, o, none⟩) n c] w (FirstSaid w n xs) := by
  have hm := h.max
  have hc := h.cap
  unfold maxLen at hm
  have hn' : (6 : Int) ≤ n := by omega
  have hc' : (6 : Int) ≤ c := by omega
  have hc2 : (n : Int) ≤ c := by omega
  have hs := lowN_lt _ (take_bytes hx 2)
  have HL := Lib.hid h.len
  have HX := Lib.hid hx
  clear hx
  rw [List.length_take, HL.out, Nat.min_eq_left (by omega)] at hs
  have HSZ : Hid (lowN (xs.take 2) = sizeF xs) := Lib.hid rfl
  rw [HSZ.out] at hs
  have hlow1 : ∀ W, (∀ p, W.cell? p = w.cell? p) → Calls Tryz.prog 114 #[.slice (some ⟨b, o, none⟩) 2 c] W fun e w' => e = .returned (.int .u32 (sizeF xs)) ∧ W = w' := fun W hW => by
    have := low_any _ _ _ _ _ W ((h.keep (w' := W) fun p _ => hW p).take (m := 2) (by omega)) (take_bytes HX.out 2) (by omega)
    rwa [HSZ.out] at this
  have HL1 := Lib.hid hlow1
  have HD := Lib.hid h
  clear hlow1 h
  go_enter Tryz.func101, Tryz.ntmps101
  go_upto_region 3 with fail
  go_cut [5, 6] (fun s5 s6 wx => ∃ (A6 : Option Addr), s5 = .slice (some ⟨b, o, none⟩) 6 c ∧ s6 = .slice A6 (n - 6) (c - 6) ∧ Hid (∀ p, wx.cell? p = w.cell? p) ∧ Below w.heap.size w wx ∧ Hid (Rd w w.heap.size .u8 A6 (n - 6) (c - 6) (xs.drop 6)))
  case first =>
    by_cases hc6 : c = 6
    · subst hc6
      have hn6 : n = 6 := by omega
      subst hn6
      go_quiet (fail)
      go_wp2_with fail
      go_meet
      case rel =>
        refine ⟨_, rfl, rfl, Lib.hid fun p => rfl, below_drewN (Below.refl _ _) _, Lib.hid ?_⟩
        rw [List.drop_of_length_le (by rw [HL.out]; omega)]
        exact Rd.empty _
    · have hc7 : (c = 6) = False := by simpa using hc6
      go_quiet (fail)
      go_wp2_with fail
      go_meet
      case rel =>
        exact ⟨_, rfl, rfl, Lib.hid fun p => rfl, below_drewN (Below.refl _ _) _, Lib.hid (HD.out.drop (by omega))⟩
  case rest =>
    obtain ⟨A6, rfl, rfl, HW0, hb, HR⟩ := hcut
    go_wp2_with fail
    refine (HL1.out wc HW0.out).mono ?_
    rintro e w1 ⟨rfl, rfl⟩
    by_cases h1 : 4096 < sizeF xs
    · have HW : Hid (whyF xs = 2) := Lib.hid (by unfold whyF; rw [if_neg (by rw [HL.out]; omega), if_pos h1])
      generalize sizeF xs = N at *
      go_wp2_with fail
      go_ret3
      exact FirstSaid.bad HW.out (by omega) rfl hb
    · by_cases h2 : n - 6 < sizeF xs
      · have HW : Hid (whyF xs = 3) := Lib.hid (by unfold whyF; rw [if_neg (by rw [HL.out]; omega), if_neg h1, HL.out, if_pos h2])
        generalize sizeF xs = N at *
        go_wp2_with fail
        go_ret3
        exact FirstSaid.bad HW.out (by omega) rfl hb
      · have hlow2 : ∀ V, Below wc.heap.size wc V → Calls Tryz.prog 114 #[.slice (some ⟨b, o + 2, none⟩) 4 (c - 2)] V fun e w' => e = .returned (.int .u32 (lowN ((xs.drop 2).take 4))) ∧ V = w' := fun V hV => by
          have hD2 := ((HD.out.drop (m := 2) (by omega)).take (m := 4) (by omega)).below (hb.trans (hV.mono hb.size))
          exact low_any _ _ _ _ _ V hD2 (take_bytes (drop_bytes HX.out 2) 4) (by omega)
        have hsum : ∀ V, Below wc.heap.size wc V → wc.heap.size < V.heap.size → V.cell? ⟨wc.heap.size, 0, none⟩ = some (.slice (some ⟨b, o, none⟩) 2 c) → V.cell? ⟨wc.heap.size, 1, none⟩ = some (.slice A6 (sizeF xs) (c - 6)) →
            Calls Tryz.prog 63 #[.slice (some ⟨wc.heap.size, 0, none⟩) 2 2] V fun e w' => e = .returned (.int .u32 (sumL (xs.take 2 ++ (xs.drop 6).take (sizeF xs)))) ∧ Below w.heap.size w w' := fun V hV hs1 hc1 hc2 => by
          have hbV := hb.trans (hV.mono hb.size)
          refine (sumOf_two _ _ _ _ _ _ wc.heap.size _ _ V hc1 hc2 hs1 (((HD.out.take (m := 2) (by omega)).below hbV).more hbV.size) (((HR.out.take (m := sizeF xs) (by omega)).below hbV).more hbV.size) (take_bytes HX.out 2) (take_bytes (drop_bytes HX.out 6) _) (by omega) (by omega)).mono ?_
          rintro e w' ⟨rfl, hw'⟩
          exact ⟨rfl, hbV.trans (hw'.mono hbV.size)⟩
        have HE : Hid ((((lowN ((xs.drop 2).take 4) : Nat) : Int) != ((sumL (xs.take 2 ++ (xs.drop 6).take (sizeF xs)) : Nat) : Int)) = !sumF xs) := Lib.hid (neq_nat _ _)
        have HLOW := Lib.hid hlow2
        have HSUM := Lib.hid hsum
        clear hlow2 hsum
        have hbc := hb.size
        have hne : ¬ (c = 2) := by omega
        go_upto_region 10 with fail
        go_cut [36] (fun s36 wx => s36 = .bool (!sumF xs) ∧ Below w.heap.size w wx)
        case first =>
          go_region_with (first
            | (go_at_call 114; refine (HLOW.out _ (by repeat (first | exact Below.refl _ _ | refine Below.drew ?_ | refine Below.alloc ?_ (by simp) _))).mono ?_; rintro e w1 ⟨rfl, rfl⟩)
            | (go_at_call 63; refine (HSUM.out _ (by repeat (first | exact Below.refl _ _ | refine Below.drew ?_ | refine Below.alloc ?_ (by simp) _)) (by simp) (by simp [go_sem]) (by simp [go_sem])).mono ?_; rintro e w1 ⟨rfl, hb1⟩))
          all_goals
            go_wp2_with fail
            go_meet
            case rel => exact ⟨congrArg Value.bool HE.out, hb1⟩
        case rest =>
          obtain ⟨rfl, hb2⟩ := hcut
          by_cases hsf : sumF xs = true
          · have HW : Hid (whyF xs = 0) := Lib.hid (by unfold whyF; rw [if_neg (by rw [HL.out]; omega), if_neg h1, HL.out, if_neg h2, if_pos hsf])
            have HR2 := Lib.hid ((HR.out.take (m := sizeF xs) (by omega)).below hb2)
            rw [hsf]
            clear hsf HE
            generalize hN : sizeF xs = N at *
            have HN := Lib.hid hN
            clear hN
            go_wp2_with fail
            go_ret3
            have hN := HN.out
            subst hN
            exact ⟨hb2, .inr ⟨HW.out, A6, c - 6, rfl, HR2.out, by omega⟩⟩
          · have hsf' : sumF xs = false := by simpa using hsf
            have HW : Hid (whyF xs = 4) := Lib.hid (by unfold whyF; rw [if_neg (by rw [HL.out]; omega), if_neg h1, HL.out, if_neg h2, if_neg hsf])
            rw [hsf']
            clear hsf hsf' HE
            generalize sizeF xs = N at *
            go_wp2_with fail
            go_ret3
            exact FirstSaid.bad HW.out (by omega) rfl hb2
end Go.Proofs.YtnomicnmpllajaaGreatDoor
end

section
namespace Go.Proofs.YtnomicnmpllajaaGreatDoor
open Go Go.RowKit

theorem first_any (A : Option Addr) (n c : Nat) (xs : List Int) (w : World) (h : Rd w w.heap.size .u8 A n c xs) (hx : ∀ x ∈ xs, 0 ≤ x ∧ x < 256) (hn2 : n ≤ 1000000) :
    Calls Tryz.prog 101 #[.slice A n c] w (FirstSaid w n xs) := by
  by_cases hn : n < 6
  · refine (first_short A n c xs _ w h hn).mono ?_
    rintro e w' ⟨rfl, rfl⟩
    exact FirstSaid.bad (er := 3) (by unfold whyF; rw [if_pos (by rw [h.len]; exact hn)]) (by omega) rfl (Below.refl _ _)
  · obtain ⟨b, o, rfl, _⟩ := h.cell (j := 0) (by omega)
    exact first_long b o n c xs w h hx (by omega) hn2

/-- The first two bytes, and a frame. -/
def headF (xs : List Int) : List Int := lowB 2 xs.length
def sealF (xs : List Int) : List Int := headF xs ++ lowB 4 (sumL (headF xs ++ xs)) ++ xs
theorem headF_length (xs : List Int) : (headF xs).length = 2 := lowB_length _ _
theorem sealF_length (xs : List Int) : (sealF xs).length = xs.length + 6 := by
  unfold sealF
  rw [List.length_append, List.length_append, headF_length, lowB_length]
  omega
theorem bytes_app {xs ys : List Int} (hx : ∀ x ∈ xs, 0 ≤ x ∧ x < 256) (hy : ∀ x ∈ ys, 0 ≤ x ∧ x < 256) : ∀ x ∈ xs ++ ys, 0 ≤ x ∧ x < 256 := app_bytes hx hy
theorem sealF_bytes {xs : List Int} (hx : ∀ x ∈ xs, 0 ≤ x ∧ x < 256) : ∀ x ∈ sealF xs, 0 ≤ x ∧ x < 256 := bytes_app (bytes_app (lowB_bytes _ _) (lowB_bytes _ _)) hx

set_option maxHeartbeats 400000 in
theorem Seal_no (A : Option Addr) (n c : Nat) (xs : List Int) (B : Nat) (w : World) (h : Rd w B .u8 A n c xs) (hn : 4096 < n) :
    Calls Tryz.prog 31 #[.slice A n c] w fun e w' => e = .returned (.tuple #[.slice none 0 0, .int .i64 5]) ∧ w = w' := by
  have hm := h.max
  have hc := h.cap
  unfold maxLen at hm
  have hn' : (4096 : Int) < n := by omega
  go_enter Tryz.func31, Tryz.ntmps31
  go_wp2
  go_ret2
  exact ⟨rfl, rfl⟩

set_option maxHeartbeats 1600000 in
set_option maxRecDepth 100000 in
theorem Seal_any (A : Option Addr) (n c : Nat) (xs : List Int) (w : World) (h : Rd w w.heap.size .u8 A n c xs) (hx : ∀ x ∈ xs, 0 ≤ x ∧ x < 256) (hn : n ≤ 4096) :
    Calls Tryz.prog 31 #[.slice A n c] w fun e w' =>
      ∃ v, e = .returned (.tuple #[v, .int .i64 0]) ∧ w'.ownsRow w.heap.size 5 1 v (n + 6) ((sealF xs).map (Value.int .u8)) ∧ Below w.heap.size w w' := by
  obtain ⟨i0, hi, hz0, hz1, hz2⟩ := info_parts info_u8
  have hn' : ¬ ((4096 : Int) < n) := by omega
  have HL := Lib.hid h.len
  have HX := Lib.hid hx
  have HH : Hid (lowB 2 n = headF xs) := by unfold headF; rw [HL.out]; exact Lib.hid rfl
  have HHL := Lib.hid (headF_length xs)
  clear hx
  go_enter Tryz.func31, Tryz.ntmps31
  go_wp2_with (at_make
               refine wpList_make_own _ rfl _ _ 33 rfl w.heap.size 5 i0 _ 1 Tryz.underlying33 hi hz0 hz1 _ _ _ (6 + n) rfl rfl (by omega) (by rw [hz2]; omega) (by unfold maxLen; omega) (Nat.le_refl _) ?_
               intro w1 hown1 hg1
               have hb1 : Below w.heap.size w w1 := (Below.refl _ _).grown hg1 (Nat.le_refl _) (fun k hk => by cases hk))
  refine (appendLow_any w.heap.size _ [] n 2 w1 hown1 hb1.size (by simp) (by omega) (by omega)).mono ?_
  rintro e w2 ⟨v1, rfl, hown2, hb2⟩
  rw [List.nil_append, HH.out, HHL.out] at hown2
  obtain ⟨A1, c1, rfl, hr1⟩ := Rd.of_own hown2
  have hbw2 := hb1.trans hb2
  clear hown1 hb1 hg1 hb2
  have hr0 := h.below hbw2
  have hb3 : Below w2.heap.size w2 (w2.alloc (.cells #[.slice A1 2 c1, .slice A n c] 33)) := (Below.refl _ _).alloc (Nat.le_refl _) _
  have HS := sumOf_two A1 A 2 c1 n c w2.heap.size _ xs (w2.alloc (.cells #[.slice A1 2 c1, .slice A n c] 33)) (by rw [World.cell?_alloc_at _ _ _ _ rfl]; rfl) (by rw [World.cell?_alloc_at _ _ _ _ rfl]; rfl) (by simp)
    ((hr1.below hb3).more hb3.size) ((hr0.below (hb3.mono hbw2.size)).more (by have := hbw2.size; simp; omega)) (by rw [← HH.out]; exact lowB_bytes _ _) HX.out (by omega) (by omega)
  have HSUM := Lib.hid HS
  have hown3 := own_below hown2 hb3
  have hlt := sumL_lt (headF xs ++ xs) (bytes_app (by rw [← HH.out]; exact lowB_bytes _ _) HX.out)
  clear HS hr1 hown2
  go_wp2_with fail
  refine HSUM.out.mono ?_
  rintro e w3 ⟨rfl, hb4⟩
  have hown4 := own_below hown3 hb4
  clear hown3 HSUM
  have hbw3 := hbw2.trans ((hb3.trans (hb4.mono hb3.size)).mono hbw2.size)
  clear hb3 hb4 hbw2 hr0
  have HB4 := Lib.hid (lowB_length 4 (sumL (headF xs ++ xs)))
  go_wp2_with fail
  refine (appendLow_any w.heap.size _ (headF xs) (sumL (headF xs ++ xs)) 4 w3 (by rw [HHL.out]; exact hown4) hbw3.size (by rw [HHL.out]; omega) (by omega) (by omega)).mono ?_
  rintro e w4 ⟨v4, rfl, hown5, hb5⟩
  rw [List.length_append, HHL.out, HB4.out] at hown5
  have hbw4 := hbw3.trans hb5
  have hrn := h.below hbw4
  have hlen : (xs.map (Value.int .u8)).length = n * 1 := by rw [List.length_map, HL.out, Nat.mul_one]
  have HLEN := Lib.hid hlen
  clear hlen hown4 hb5 hbw3
  go_wp2_with (at_builtin
               refine wpList_append_src rfl _ _ 33 rfl w.heap.size 5 i0 _ 1 1 Tryz.underlying33 hi hz0 hz1 hz2 rfl (by omega) _ 6 _ rfl hown5 A n c (xs.map (Value.int .u8)) rfl HLEN.out h.nil hrn.news (ints_oneCell _ _) (by unfold maxLen; omega) (by omega) hbw4.size ?_
               intro v6 w6 hown6 hg6)
  go_ret2
  refine ⟨v6, rfl, ?_, hbw4.grown hg6 hbw4.size (fun k hk => (hown5.lt k hk).1)⟩
  rw [Nat.add_comm]
  unfold sealF
  rw [List.map_append]
  exact hown6

/-- What 'Next' answers. -/
def NextSaid (w : World) (xs : List Int) (e : Ending) (w' : World) : Prop :=
  Below w.heap.size w w' ∧ ((whyF xs ≠ 0 ∧ e = .returned (.tuple #[.slice none 0 0, .slice none 0 0, .int .i64 (whyF xs)])) ∨
    (whyF xs = 0 ∧ 6 + sizeF xs ≤ xs.length ∧ ∃ A1 c1 A2 c2, e = .returned (.tuple #[.slice A1 (sizeF xs) c1, .slice A2 (xs.length - (6 + sizeF xs)) c2, .int .i64 0]) ∧
      Rd w' w'.heap.size .u8 A1 (sizeF xs) c1 ((xs.drop 6).take (sizeF xs)) ∧ Rd w' w'.heap.size .u8 A2 (xs.length - (6 + sizeF xs)) c2 (xs.drop (6 + sizeF xs))))

set_option maxHeartbeats 1600000 in
set_option maxRecDepth 100000 in
theorem Next_any (A : Option Addr) (n c : Nat) (xs : List Int) (w : World) (h : Rd w w.heap.size .u8 A n c xs) (hx : ∀ x ∈ xs, 0 ≤ x ∧ x < 256) (hn2 : n ≤ 1000000) :
    Calls Tryz.prog 78 #[.slice A n c] w (NextSaid w xs) := by
  have hm := h.max
  have hc := h.cap
  unfold maxLen at hm
  have HL := Lib.hid h.len
  have HF := Lib.hid (first_any A n c xs w h hx hn2)
  clear hx
  go_enter Tryz.func78, Tryz.ntmps78
  go_wp2_with fail
  refine HF.out.mono ?_
  rintro e w1 ⟨hb1, ⟨hw, rfl⟩ | ⟨hw, A1, c1, rfl, hr1, hle⟩⟩
  · have HW := Lib.hid hw
    have hwb : (((whyF xs : Nat) : Int) != 0) = true := by rw [bne_iff_ne]; omega
    clear hw
    generalize hq : whyF xs = q at *
    have HQ := Lib.hid hq
    clear hq
    go_wp2_with fail
    go_ret3
    have hq := HQ.out
    subst hq
    exact ⟨hb1, .inl ⟨HW.out, rfl⟩⟩
  · have HW := Lib.hid hw
    clear hw
    have hlt6 : 6 ≤ n := by omega
    obtain ⟨b, o, rfl, _⟩ := h.cell (j := 0) (by omega)
    have hr0 := h.below hb1
    have hone : ∀ V, Below w1.heap.size w1 V → Calls Tryz.prog 55 #[.slice A1 (sizeF xs) c1] V fun e w' => ∃ A c, e = .returned (.slice A (sizeF xs) c) ∧ Rd w' w'.heap.size .u8 A (sizeF xs) c ((xs.drop 6).take (sizeF xs)) ∧ Below V.heap.size V w' := fun V hV => by
      refine (Clone_any _ _ _ _ V ((hr1.below (hV.mono hb1.size)).more (by have := hV.size; have := hb1.size; omega)) (by omega)).mono ?_
      rintro e w' ⟨v, rfl, hown, hb⟩
      obtain ⟨A, c, rfl, hr⟩ := Rd.of_own hown
      exact ⟨A, c, rfl, hr, hb⟩
    have htwo : ∀ V A2 m2 c2, Rd w1 w.heap.size .u8 A2 m2 c2 (xs.drop (6 + sizeF xs)) → m2 ≤ n → Below w1.heap.size w1 V → Calls Tryz.prog 55 #[.slice A2 m2 c2] V fun e w' => ∃ A c, e = .returned (.slice A m2 c) ∧ Rd w' w'.heap.size .u8 A m2 c (xs.drop (6 + sizeF xs)) ∧ Below V.heap.size V w' := fun V A2 m2 c2 hr2 hm2 hV => by
      refine (Clone_any _ _ _ _ V ((hr2.below (hV.mono hb1.size)).more (by have := hV.size; have := hb1.size; omega)) (by omega)).mono ?_
      rintro e w' ⟨v, rfl, hown, hb⟩
      obtain ⟨A, c, rfl, hr⟩ := Rd.of_own hown
      exact ⟨A, c, rfl, hr, hb⟩
    have H1 := Lib.hid hone
    have H2 := Lib.hid htwo
    have hNi : ((6 : Int) + (sizeF xs : Nat)) ≤ n := by omega
    clear hone htwo hr1 h
    by_cases hcN : c = 6 + sizeF xs
    · have hnN : n = 6 + sizeF xs := by omega
      have h0 : xs.drop (6 + sizeF xs) = [] := List.drop_of_length_le (by rw [HL.out]; omega)
      have H0 := Lib.hid h0
      have HR2 : Hid (Rd w1 w.heap.size .u8 (some ⟨b, o, none⟩) 0 0 (xs.drop (6 + sizeF xs))) := Lib.hid (by rw [h0]; exact Rd.empty _)
      clear h0 hr0
      generalize hN : sizeF xs = N at *
      have HN := Lib.hid hN
      clear hN
      subst hcN
      subst hnN
      go_wp2_with fail
      go_region_with (first
        | (go_at_call_of 55 (Value.slice A1 N c1); refine (H1.out _ ((Below.refl _ _).drew)).mono ?_; rintro e wa ⟨Aa, ca, rfl, hra, hba⟩)
        | (go_at_call_of 55 (Value.slice (some ⟨b, o, none⟩) 0 0); refine (H2.out wa _ _ _ HR2.out (by omega) (((Below.refl _ _).drew).trans hba)).mono ?_; rintro e wb ⟨Ab, cb, rfl, hrb, hbb⟩))
      all_goals
        go_wp2_with fail
        go_ret3
        have hN := HN.out
        subst hN
        have hl := HL.out
        refine ⟨hb1.trans ((((Below.refl _ _).drew).trans (hba.trans (hbb.mono hba.size))).mono hb1.size), .inr ⟨HW.out, by omega, Aa, ca, Ab, cb, ?_, (hra.below hbb).more hbb.size, ?_⟩⟩
        · rw [show xs.length - (6 + sizeF xs) = 0 by omega]; rfl
        · rw [show xs.length - (6 + sizeF xs) = 0 by omega]; exact hrb
    · have HR2 := Lib.hid (hr0.drop hle)
      clear hr0
      generalize hN : sizeF xs = N at *
      have HN := Lib.hid hN
      clear hN
      go_wp2_with fail
      go_region_with (first
        | (go_at_call_of 55 (Value.slice A1 N c1); refine (H1.out _ ((Below.refl _ _).drew)).mono ?_; rintro e wa ⟨Aa, ca, rfl, hra, hba⟩)
        | (go_at_call 55; refine (H2.out wa _ _ _ HR2.out (by omega) (((Below.refl _ _).drew).trans hba)).mono ?_; rintro e wb ⟨Ab, cb, rfl, hrb, hbb⟩))
      all_goals
        go_wp2_with fail
        go_ret3
        have hN := HN.out
        subst hN
        have hl := HL.out
        subst hl
        exact ⟨hb1.trans ((((Below.refl _ _).drew).trans (hba.trans (hbb.mono hba.size))).mono hb1.size), .inr ⟨HW.out, hle, Aa, ca, Ab, cb, rfl, (hra.below hbb).more hbb.size, hrb⟩⟩
end Go.Proofs.YtnomicnmpllajaaGreatDoor
end

section
namespace Go.Proofs.YtnomicnmpllajaaGreatDoor
open Go Go.RowKit

/-- So many frames, one behind the other, and how many bytes they have. -/
def Chain : List (List Int) → List Int → Nat → Prop
  | [], _, u => u = 0
  | y :: ys, xs, u => whyF xs = 0 ∧ y = (xs.drop 6).take (sizeF xs) ∧ ∃ u', u = 6 + sizeF xs + u' ∧ Chain ys (xs.drop (6 + sizeF xs)) u'
theorem Chain.snoc : ∀ (ys : List (List Int)) (xs : List Int) (u : Nat), Chain ys xs u → whyF (xs.drop u) = 0 → Chain (ys ++ [((xs.drop u).drop 6).take (sizeF (xs.drop u))]) xs (u + (6 + sizeF (xs.drop u)))
  | [], xs, u, h, hw => by
    have h0 : u = 0 := h
    subst h0
    rw [List.drop_zero] at hw ⊢
    exact ⟨hw, rfl, 0, by omega, rfl⟩
  | y :: ys, xs, u, ⟨h1, h2, u', h3, h4⟩, hw => by
    have e : xs.drop u = (xs.drop (6 + sizeF xs)).drop u' := by rw [List.drop_drop, h3]
    rw [e] at hw ⊢
    exact ⟨h1, h2, _, by omega, Chain.snoc ys _ u' h4 hw⟩

theorem own_apart {w : World} {b1 b2 e1 e2 s1 s2 n1 n2 : Nat} {v1 v2 : Value} {xs ys : List Value} (h1 : w.ownsRow b1 e1 s1 v1 n1 xs) (h2 : w.ownsRow b2 e2 s2 v2 n2 ys) (he : e1 ≠ e2) : v1.ownBlock = none ∨ v1.ownBlock ≠ v2.ownBlock := by
  rcases h1.2 with ⟨rfl, _⟩ | ⟨g, cap, cur, rfl, hb, hg, _⟩
  · exact .inl rfl
  · refine .inr ?_
    rcases h2.2 with ⟨rfl, _⟩ | ⟨g', cap', cur', rfl, hb', hg', _⟩
    · simp [Value.ownBlock]
    · simp only [Value.ownBlock, ne_eq, Option.some.injEq]
      intro e
      subst e
      rw [hg] at hg'
      simp only [Option.some.injEq, Obj.cells.injEq] at hg'
      exact he hg'.2.1

theorem one_slice (A : Option Addr) (n c : Nat) : ∀ u ∈ [Value.slice A n c], u.oneCell' = true := by
  intro u hu
  simp at hu
  subst hu
  rfl
theorem info_row : (Tryz.prog.info? 33).map (fun i => (i.zero, i.size, i.bytes)) = some (some (.slice none 0 0), 1, 24) := by kernel_rfl

/-- What 'All' answers. -/
def AllSaid (w : World) (n : Nat) (xs : List Int) (e : Ending) (w' : World) : Prop :=
  ∃ (l : List Part) (v : Value) (u : Nat), Chain (l.map Part.all) xs u ∧ u ≤ n ∧ l.length ≤ n ∧ (u < n → whyF (xs.drop u) ≠ 0) ∧ e = .returned (.tuple #[v, .int .i64 u, .int .i64 ((if u = n then 0 else whyF (xs.drop u) : Nat) : Int)]) ∧
    w'.ownsRow w.heap.size 33 1 v l.length (l.map Part.val) ∧ (∀ p ∈ l, w'.ownsRow w.heap.size 5 1 p.val p.len (p.all.map (Value.int .u8))) ∧ Below w.heap.size w w'

set_option maxHeartbeats 1600000 in
set_option maxRecDepth 100000 in
theorem All_any (A : Option Addr) (n c : Nat) (xs : List Int) (w : World) (h : Rd w w.heap.size .u8 A n c xs) (hx : ∀ x ∈ xs, 0 ≤ x ∧ x < 256) (hn2 : n ≤ 1000000) :
    Calls Tryz.prog 107 #[.slice A n c] w (AllSaid w n xs) := by
  obtain ⟨i0, hi, hz0, hz1, hz2⟩ := info_parts info_row
  have hm := h.max
  have hc := h.cap
  unfold maxLen at hm
  have HL := Lib.hid h.len
  have HX := Lib.hid hx
  clear hx
  go_enter Tryz.func107, Tryz.ntmps107
  go_wp2_with fail
  go_loopw [2, 3] (fun v i wr => ∃ (l : List Part) (u N : Nat), i = .int .i64 u ∧ u ≤ n ∧ Hid (N = l.length) ∧ N ≤ u ∧ Hid (Chain (l.map Part.all) xs u) ∧ wr.ownsRow w.heap.size 33 1 v N (l.map Part.val) ∧ Hid (∀ p ∈ l, wr.ownsRow w.heap.size 5 1 p.val p.len (p.all.map (Value.int .u8))) ∧ Below w.heap.size w wr)
    (fun _ i _ => n - (intOf i).toNat)
  case atStart => exact ⟨[], 0, 0, rfl, Nat.zero_le _, Lib.hid rfl, Nat.le_refl _, Lib.hid rfl, World.ownsRow_nil _ _ _ _, Lib.hid (fun p hp => by cases hp), Below.refl _ _⟩
  case round =>
    obtain ⟨l, u, N, rfl, hu, HN, hN, HCH, hown, HP, hb⟩ := hrel
    have hbz := hb.size
    by_cases hun : u < n
    · obtain ⟨b, o, rfl, _⟩ := h.cell (j := 0) (by omega)
      have hcu : ¬ (c = u) := by omega
      have hr1 := ((h.drop (m := u) (by omega)).below hb).more hbz
      have HF := Lib.hid (first_any _ _ _ _ wr hr1 (drop_bytes HX.out u) (by omega))
      clear hr1
      go_wp2_with fail
      refine HF.out.mono ?_
      rintro e w1 ⟨hb1, ⟨hw, rfl⟩ | ⟨hw, A1, c1, rfl, hr1, hle⟩⟩
      · have HW := Lib.hid hw
        have hwb : (((whyF (xs.drop u) : Nat) : Int) != 0) = true := by rw [bne_iff_ne]; omega
        have hown1 := own_below hown hb1
        clear hw HF hown
        generalize hq : whyF (xs.drop u) = q at *
        have HQ := Lib.hid hq
        clear hq
        go_wp2_with fail
        go_ret3
        have hN2 := HN.out
        subst hN2
        refine ⟨l, _, u, HCH.out, hu, by omega, fun _ => by rw [HQ.out]; exact HW.out, ?_, hown1, fun p hp => own_below (HP.out p hp) hb1, hb.trans (hb1.mono hbz)⟩
        rw [if_neg (by omega), HQ.out]
        rfl
      · have HW := Lib.hid hw
        have hchain := Chain.snoc _ _ _ HCH.out hw
        have HCH2 := Lib.hid hchain
        have hz01 := hb1.size
        have hr1' := hr1.more (B' := w1.heap.size) hz01
        clear hw HF hchain HCH hr1
        generalize hbody : ((xs.drop u).drop 6).take (sizeF (xs.drop u)) = body at *
        generalize sizeF (xs.drop u) = M at *
        have hown1 := own_below hown hb1
        have HP1 : Hid (∀ p ∈ l, w1.ownsRow w.heap.size 5 1 p.val p.len (p.all.map (Value.int .u8))) := Lib.hid fun p hp => own_below (HP.out p hp) hb1
        have hbw1 := hb.trans (hb1.mono hbz)
        have hbz1 := hbw1.size
        clear hown HP hb hb1 hbody
        go_wp2_with fail
        refine (Clone_any _ _ _ _ w1 hr1' (by omega)).mono ?_
        rintro e w2 ⟨v2, rfl, hown2, hb2⟩
        have hown3 := own_below hown1 hb2
        have HP2 : Hid (∀ p ∈ l, w2.ownsRow w.heap.size 5 1 p.val p.len (p.all.map (Value.int .u8))) := Lib.hid fun p hp => own_below (HP1.out p hp) hb2
        have hown2' := own_base hown2 hbz1
        have hbw2 := hbw1.trans (hb2.mono hbz1)
        have hbz2 := hbw2.size
        obtain ⟨A2, c2, rfl, _⟩ := Rd.of_own hown2'
        have HOW := Lib.hid hown2'
        clear hown1 HP1 hown2 hown2' hb2 hbw1
        go_wp2_with (at_builtin; refine wpList_append_src rfl _ _ 34 rfl w.heap.size 33 i0 _ 1 24 Tryz.underlying34 hi hz0 hz1 hz2 rfl (by omega) _ N (l.map Part.val) rfl (hown3.alloc _) (some ⟨w2.heap.size, 0, none⟩) 1 1 [.slice A2 M c2] rfl rfl (fun h => by cases h) (news_new _ _ _) (one_slice _ _ _) (by unfold maxLen; omega) (by omega) (by simp; omega) ?_; intro v6 w6 hown6 hg6)
        have hb6 : Below w.heap.size w w6 := (hbw2.alloc hbz2 _).grown hg6 (by simp; omega) (fun k hk => (hown3.lt k hk).1)
        have HP6 : Hid (∀ p ∈ l ++ [⟨A2, M, c2, body⟩], w6.ownsRow w.heap.size 5 1 p.val p.len (p.all.map (Value.int .u8))) := Lib.hid fun p hp => by
          rcases List.mem_append.1 hp with hp | hp
          · have h1 := HP2.out p hp
            exact (h1.alloc _).kept hg6 (own_apart h1 hown3 (by decide))
          · simp at hp
            subst hp
            exact (HOW.out.alloc _).kept hg6 (own_apart HOW.out hown3 (by decide))
        go_roundw
        case rel =>
          refine ⟨l ++ [⟨A2, M, c2, body⟩], u + (6 + M), N + 1, by go_num, by omega, Lib.hid ?_, by omega, Lib.hid ?_, ?_, HP6, hb6⟩
          · rw [HN.out]; simp
          · simpa using HCH2.out
          · simpa [Part.val] using hown6
        case measure => simp [intOf]; omega
    · go_wp2_with fail
      go_ret3
      have hN2 := HN.out
      subst hN2
      have hun' : u = n := by omega
      subst hun'
      exact ⟨l, _, u, HCH.out, Nat.le_refl _, hN, fun hh => absurd hh (Nat.lt_irrefl _), by rw [if_pos rfl]; rfl, hown, HP.out, hb⟩
end Go.Proofs.YtnomicnmpllajaaGreatDoor
end
