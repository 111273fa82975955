/- What is proved here: what the disk's Crash does. -/
import Derived.Test.YtpolkhippblcmaaNames
import Derived.LoopTactic
import Derived.Deep.DeepCutAuto
namespace Go.Proofs.Ytpolkhippblcmaa
open Go Go.RowKit Go.Maps

/-- How many bytes that are not synced survive. -/
def survN (ks : List Int) (i : Nat) (f : RF) : Nat := if i < ks.length ∧ 0 < ks.getD i 0 then (ks.getD i 0 % (((f.b.length - f.s : Nat) : Int) + 1)).toNat else 0
def crashRF (ks : List Int) (i : Nat) (f : RF) : RF := cutRF f (f.s + survN ks i f)
/-- The files, of which the first k are torn. -/
def crashTo (ks : List Int) (k : Nat) (S : List RF) : List RF := S.mapIdx fun i f => if i < k then crashRF ks i f else f
def crashF (ks : List Int) (S : List RF) : List RF := S.mapIdx fun i f => crashRF ks i f
theorem survN_le (ks : List Int) (i : Nat) (f : RF) : survN ks i f ≤ f.b.length - f.s := by
  unfold survN
  split
  · rename_i h
    have h1 := Int.emod_lt_of_pos (ks.getD i 0) (show (0 : Int) < ((f.b.length - f.s : Nat) : Int) + 1 by omega)
    have h2 := Int.emod_nonneg (ks.getD i 0) (show (((f.b.length - f.s : Nat) : Int) + 1) ≠ 0 by omega)
    omega
  · omega
theorem crashTo_zero (ks : List Int) (S : List RF) : crashTo ks 0 S = S := by
  unfold crashTo
  apply List.ext_getElem?
  intro i
  simp
theorem crashTo_all (ks : List Int) (S : List RF) : crashTo ks S.length S = crashF ks S := by
  unfold crashTo crashF
  apply List.ext_getElem?
  intro i
  rw [List.getElem?_mapIdx, List.getElem?_mapIdx]
  by_cases h : i < S.length
  · simp [h]
  · simp [List.getElem?_eq_none (by omega : S.length ≤ i)]
theorem crashTo_len (ks : List Int) (k : Nat) (S : List RF) : (crashTo ks k S).length = S.length := by unfold crashTo; rw [List.length_mapIdx]
theorem crashTo_get (ks : List Int) (k i : Nat) (S : List RF) : (crashTo ks k S)[i]? = (S[i]?).map fun f => if i < k then crashRF ks i f else f := by
  unfold crashTo
  rw [List.getElem?_mapIdx]
theorem crash_nm (ks : List Int) (i : Nat) (f : RF) : (crashRF ks i f).nm = f.nm := rfl
theorem crashTo_rising {S : List RF} (h : Rising RF.nm S) (ks : List Int) (k : Nat) : Rising RF.nm (crashTo ks k S) := by
  refine List.pairwise_iff_getElem.2 fun i j hi hj hij => ?_
  rw [crashTo_len] at hi hj
  have := List.pairwise_iff_getElem.1 h i j hi hj hij
  have e : ∀ a (ha : a < S.length) (ha' : a < (crashTo ks k S).length), (crashTo ks k S)[a].nm = S[a].nm := fun a ha ha' => by
    have h1 := crashTo_get ks k a S
    rw [List.getElem?_eq_getElem ha', List.getElem?_eq_getElem ha] at h1
    simp only [Option.map_some, Option.some.injEq] at h1
    rw [h1]
    split <;> rfl
  rw [e i hi, e j hj]
  exact this
theorem crashTo_succ {S : List RF} (h : Rising RF.nm S) (ks : List Int) {k : Nat} {f : RF} (hf : S[k]? = some f) : putN RF.nm (crashRF ks k f) (crashTo ks k S) = crashTo ks (k + 1) S := by
  have hmem : f ∈ crashTo ks k S := by
    have := crashTo_get ks k k S
    rw [hf] at this
    simp at this
    exact List.mem_of_getElem? this
  rw [putN_replace (crashTo_rising h ks k) hmem (crash_nm ks k f).symm]
  apply List.ext_getElem?
  intro i
  rw [List.getElem?_map, crashTo_get, crashTo_get]
  cases hi : S[i]? with
  | none => rfl
  | some g =>
    simp only [Option.map_some, Option.some.injEq]
    by_cases hik : i = k
    · subst hik
      rw [hf] at hi
      obtain rfl := Option.some.inj hi
      simp [crash_nm]
    · have hne : ¬ (if i < k then crashRF ks i g else g).nm = f.nm := fun e => hik (h.irrefl hi hf (by
        split at e
        · exact e
        · exact e))
      rw [if_neg (by simpa [crash_nm] using hne)]
      by_cases hlt : i < k
      · rw [if_pos hlt, if_pos (by omega)]
      · rw [if_neg hlt, if_neg (by omega)]

/-- Where the loop stands. -/
def CrashRel (d : Nat) (room : Int) (S : List RF) (ks : List Int) (Φ : Nat → Prop) (w1 : World) (k : Nat) (wr : World) : Prop :=
  DiskAt wr d room (crashTo ks k S) (grow Φ w1 wr) ∧ Chg Φ w1 wr

/-- What one round of it needs. -/
theorem crash_round {d : Nat} {room : Int} {S : List RF} {ks : List Int} {Φ : Nat → Prop} {w1 wr : World} {k : Nat} (hS : Rising RF.nm S) (h : CrashRel d room S ks Φ w1 k wr) {f : RF} (hf : S[k]? = some f) :
    ∃ m p A c, wr.cell? ⟨d, 2, none⟩ = some (.map (some m)) ∧
      (f.nm.length ≤ 32 → ∀ q, (Instr.lookup 55 (.map (some m)) (nameV f.nm) false).run Try.prog (wr.drewN q) = .ok (.pointer (some ⟨p, 0, none⟩)) (wr.drewN q)) ∧ f.nm.length ≤ 32 ∧
      wr.cell? ⟨p, 0, none⟩ = some (.slice A f.b.length c) ∧ wr.cell? ⟨p, 1, none⟩ = some (.int .i64 f.s) ∧ f.s ≤ f.b.length ∧ f.b.length ≤ 1048576 ∧
      (∀ q, Calls Try.prog 34 #[.pointer (some ⟨p, 0, none⟩)] (wr.drewN q) fun e w' => e = .returned (.int .i64 ((f.b.length - f.s : Nat) : Int)) ∧ ∃ n, w' = (wr.drewN q).drewN n) ∧
      (∀ q, Calls Try.prog 38 #[.pointer (some ⟨d, 0, none⟩), .pointer (some ⟨p, 0, none⟩), .int .i64 ((f.s + survN ks k f : Nat) : Int)] (wr.drewN q) fun e w2 => e = .returned (.tuple #[]) ∧ Hid (CrashRel d room S ks Φ w1 (k + 1) w2)) := by
  obtain ⟨⟨m, L, hL, hD⟩, hc⟩ := h
  have hget : (L.map Fil.f)[k]? = some f := by
    rw [hL, crashTo_get, hf]
    simp
  rw [List.getElem?_map] at hget
  obtain ⟨x, hx, hxf⟩ := Option.map_eq_some_iff.1 hget
  have hxL := List.mem_of_getElem? hx
  have hfile := hD.file x hxL
  obtain ⟨_, _, q2, _⟩ := three_cells hD.blk
  obtain ⟨A, c, hv, hr⟩ := hfile.rd
  obtain ⟨a0, a1, _⟩ := two_cells hfile.blk
  have h3 := usedN_mem (List.mem_map_of_mem (f := Fil.f) hxL)
  have h4 := hD.used
  have h5 := hD.rm
  have hsyn := hfile.syn
  have hlen := hfile.len
  have hq : ∀ q, DiskL (wr.drewN q) d m room L (grow Φ w1 wr) := fun q => hD.keep (Chg.drewN (Φ := fun _ => False) wr q) fun _ _ => id
  rw [hv] at a0
  subst hxf
  refine ⟨m, x.p, A, c, q2, fun hl q => ?_, hlen, a0, a1, hsyn, by omega, fun q => loose_any x _ ((hq q).file x hxL), fun q => ?_⟩
  · have := (hq q).map.look ⟨x.f.nm.toArray⟩ (by show x.f.nm.toArray.size ≤ _; simp; unfold maxLen; omega)
    have e : (⟨x.f.nm.toArray⟩ : ByteArray).data.toList = x.nm := by simp
    rw [e, ptrTo_some hD.srt hxL] at this
    exact this
  · have hle := survN_le ks k x.f
    refine (shorten_any (hq q) hxL (x.f.s + survN ks k x.f) (by omega)).mono ?_
    rintro e w2 ⟨rfl, hc2, x', _, hxf', hD2⟩
    refine ⟨rfl, Lib.hid ⟨⟨m, _, ?_, hD2.mono fun i hi hg => ?_⟩, ?_⟩⟩
    · rw [map_putN fil_name, hL, hxf']
      exact crashTo_succ hS ks hf
    · have hsz := hc.size
      have hsz2 : wr.heap.size ≤ w2.heap.size := hc2.size
      rcases hg with (hg | hg) | hg
      · exact .inl hg
      · exact .inr ⟨hg.1, hi⟩
      · exact .inr ⟨by have : wr.heap.size ≤ i := hg.1; omega, hi⟩
    · refine hc.trans (b := wr) ((Chg.drewN (Φ := foot d x) wr q).trans hc2 fun _ _ e => e) fun i hi hfi => ?_
      rcases hD.foot_in hxL i hfi with hg | hg
      · exact hg
      · omega

theorem own_cell {w : World} {base e n k : Nat} {A : Option Addr} {c : Nat} {xs : List Value} {u : Value} (h : w.ownsRow base e 1 (.slice A n c) n xs) (hk : xs[k]? = some u) : ∃ g, A = some ⟨g, 0, none⟩ ∧ base ≤ g ∧ g < w.heap.size ∧ w.cell? ⟨g, 0 + k, none⟩ = some u := by
  have hl : xs.length = n := by simpa using h.1
  have hkn : k < n := by rw [← hl]; exact (List.getElem?_eq_some_iff.1 hk).1
  obtain ⟨g, cap, hv, hb, hg, hcell⟩ := own_place h (by omega)
  cases hv
  have := hcell k u hk
  rw [Addr.add_lit] at this
  exact ⟨g, rfl, hb, hg, this⟩

set_option maxHeartbeats 4000000 in
set_option maxRecDepth 100000 in
theorem Crash_any {w : World} {d : Nat} {room : Int} {S : List RF} {Φ : Nat → Prop} (h : DiskAt w d room S Φ) (A : Option Addr) (n c : Nat) (ks : List Int) (hr : Rd w w.heap.size .i64 A n c ks) (hkA : ∀ b o, A = some ⟨b, o, none⟩ → 0 < n → ¬ Φ b)
    (hks : ∀ z ∈ ks, -9223372036854775808 ≤ z ∧ z ≤ 9223372036854775807) (hL : S.length ≤ 1000000) :
    Calls Try.prog 20 #[.pointer (some ⟨d, 0, none⟩), .slice A n c] w fun e w' => e = .returned (.tuple #[]) ∧ Chg Φ w w' ∧ DiskAt w' d room (crashF ks S) (grow Φ w w') := by
  have hS : Rising RF.nm S := by
    obtain ⟨m, L, rfl, hD⟩ := h
    exact hD.srt.map (g := Fil.f) fil_name
  obtain ⟨Ψ, hΨ⟩ : ∃ Ψ : Nat → Prop, Ψ = fun k => Φ k ∧ k < w.heap.size := ⟨_, rfl⟩
  have h0 : DiskAt w d room S Ψ := by
    obtain ⟨m, L, e, hD⟩ := h
    exact ⟨m, L, e, by rw [hΨ]; exact hD.mono fun _ h1 h2 => ⟨h2, h1⟩⟩
  have HNM : Hid (Calls Try.prog 14 #[.pointer (some ⟨d, 0, none⟩)] w fun e w1 => ∃ A1 c1, e = .returned (.slice A1 S.length c1) ∧ Hid (w1.ownsRow w.heap.size 9 1 (.slice A1 S.length c1) S.length (S.map fun f => nameV f.nm)) ∧ Hid (Below w.heap.size w w1) ∧ Hid (CrashRel d room S ks Ψ w1 0 w1) ∧ S.length ≤ c1) := Lib.hid ((Names_any h0 hL).mono (by
    rintro e w1 ⟨A1, c1, rfl, h1, h2⟩
    have hr1 : S.length ≤ c1 := by
      rcases h1.2 with ⟨_, e2⟩ | ⟨g, cap, cur, e1, _, _, e3, _⟩
      · omega
      · cases e1; exact e3
    refine ⟨A1, c1, rfl, Lib.hid h1, Lib.hid h2, Lib.hid ⟨?_, Chg.refl _ _⟩, hr1⟩
    rw [crashTo_zero]
    obtain ⟨m, L, e, hD⟩ := h0
    have hD1 : DiskL w1 d m room L Ψ := hD.keep (Ψ := fun _ => False) (Chg.of_below h2) fun _ _ => id
    exact ⟨m, L, e, hD1.mono fun _ _ => .inl⟩))
  have HEND : Hid (∀ w1 wr, Below w.heap.size w w1 → CrashRel d room S ks Ψ w1 S.length wr → Chg Φ w wr ∧ DiskAt wr d room (crashF ks S) (grow Φ w wr)) := Lib.hid (by
    rintro w1 wr h1 ⟨⟨m, L, e, hD⟩, h3⟩
    rw [crashTo_all] at e
    refine ⟨(Chg.of_below (Φ := Φ) h1).trans h3 fun i _ hi => by rw [hΨ] at hi; exact hi.1, m, L, e, hD.mono fun k hk hg => ?_⟩
    have hsz := h1.size
    rcases hg with hg | hg
    · rw [hΨ] at hg; exact .inl hg.1
    · exact .inr ⟨by omega, hk⟩)
  have HKEEP : Hid (∀ w1 wr k, Below w.heap.size w w1 → Chg Ψ w1 wr → k < n → ∃ b o, A = some ⟨b, o, none⟩ ∧ ∀ q, (wr.drewN q).cell? ⟨b, o + k, none⟩ = some (.int .i64 (ks.getD k 0))) := Lib.hid (by
    intro w1 wr k h1 h2 hk
    obtain ⟨b, o, e, hb, hcell⟩ := hr.cell hk
    refine ⟨b, o, e, fun q => ?_⟩
    have hnb : ¬ Ψ b := by rw [hΨ]; exact fun hh => hkA b o e (by omega) hh.1
    have hsz := h1.size
    show wr.cell? _ = _
    rw [h2.cell (p := ⟨b, o + k, none⟩) (by show b < _; omega) hnb, h1.cell (p := ⟨b, o + k, none⟩) hb]
    exact hcell)
  have HNAME : Hid (∀ (w1 wr : World) A1 c1 k f, w1.ownsRow w.heap.size 9 1 (.slice A1 S.length c1) S.length (S.map fun f => nameV f.nm) → Chg Ψ w1 wr → S[k]? = some f → ∃ g, A1 = some ⟨g, 0, none⟩ ∧ wr.cell? ⟨g, 0 + k, none⟩ = some (nameV f.nm)) := Lib.hid (by
    intro w1 wr A1 c1 k f h1 h2 hf
    obtain ⟨g, e, hg1, hg2, hcell⟩ := own_cell (k := k) (u := nameV f.nm) h1 (by rw [List.getElem?_map, hf]; rfl)
    refine ⟨g, e, ?_⟩
    rw [h2.cell (p := ⟨g, 0 + k, none⟩) hg2 (by rw [hΨ]; exact fun hh => by have : g < w.heap.size := hh.2; omega)]
    exact hcell)
  have HLEN := Lib.hid hr.len
  have HKS := Lib.hid hks
  have hc := hr.cap
  have hmx := hr.max
  unfold maxLen at hmx
  have HS := Lib.hid hS
  clear h hr hks hS hkA h0 hΨ
  go_enter Try.func20, Try.ntmps20
  go_wp2_with (go_at_call 14; refine HNM.out.mono ?_; rintro e w1 ⟨A1, c1, rfl, HO, HB, HR, hc1⟩)
  go_loopw [11] (fun t wr => ∃ k : Nat, t = .int .i64 k ∧ k ≤ S.length ∧ Hid (CrashRel d room S ks Ψ w1 k wr)) (fun t _ => S.length - (intOf t).toNat)
  case atStart => exact ⟨0, rfl, Nat.zero_le _, HR⟩
  case round =>
    obtain ⟨k, rfl, hk, HRk⟩ := hrel
    by_cases hlt : k < S.length
    · obtain ⟨f, hf⟩ : ∃ f, S[k]? = some f := ⟨_, List.getElem?_eq_getElem hlt⟩
      obtain ⟨m, p, A2, c2, q2, hlk, hl32, a0, a1, hsyn, hbig, hloose, hshort⟩ := crash_round HS.out HRk.out hf
      replace hlk := hlk hl32
      obtain ⟨g, rfl, hcn⟩ := HNAME.out w1 wr A1 c1 k f HO.out HRk.out.2 hf
      have HSH := Lib.hid hshort
      have HLO := Lib.hid hloose
      have hnv : nameV f.nm = .string ⟨f.nm.toArray⟩ := rfl
      rw [hnv] at hlk hcn
      rw [Nat.zero_add] at hcn
      generalize (⟨f.nm.toArray⟩ : ByteArray) = sn at hlk hcn
      replace hlk := hlk 0
      change (Instr.lookup 55 (.map (some m)) (.string sn) false).run Try.prog wr = .ok (.pointer (some ⟨p, 0, none⟩)) wr at hlk
      clear hnv
      have hlt2 : (k : Int) < S.length := by omega
      have hc1' : (S.length : Int) ≤ c1 := by omega
      by_cases hkn : k < n
      · obtain ⟨b, o, rfl, hck⟩ := HKEEP.out w1 wr k HB.out HRk.out.2 hkn
        have hck0 := hck 0
        change wr.cell? ⟨b, o + k, none⟩ = _ at hck0
        have hkn2 : (k : Int) < n := by omega
        have hz := HKS.out (ks.getD k 0) (by rw [List.getD_eq_getElem?_getD, List.getElem?_eq_getElem (by rw [HLEN.out]; exact hkn)]; exact List.getElem_mem _)
        by_cases hpos : 0 < ks.getD k 0
        · have hsv : survN ks k f = (ks.getD k 0 % (((f.b.length - f.s : Nat) : Int) + 1)).toNat := by unfold survN; rw [if_pos ⟨by rw [HLEN.out]; exact hkn, hpos⟩]
          have hm1 := Int.emod_lt_of_pos (ks.getD k 0) (show (0 : Int) < ((f.b.length - f.s : Nat) : Int) + 1 by omega)
          have hm2 := Int.emod_nonneg (ks.getD k 0) (show (((f.b.length - f.s : Nat) : Int) + 1) ≠ 0 by omega)
          have HSH2 : Hid (∀ q, Calls Try.prog 38 #[.pointer (some ⟨d, 0, none⟩), .pointer (some ⟨p, 0, none⟩), .int .i64 ((f.s : Int) + ks.getD k 0 % (((f.b.length - f.s : Nat) : Int) + 1))] (wr.drewN q) fun e w2 => e = .returned (.tuple #[]) ∧ Hid (CrashRel d room S ks Ψ w1 (k + 1) w2)) := Lib.hid fun q => by
            have := hshort q
            rwa [show ((f.s + survN ks k f : Nat) : Int) = (f.s : Int) + ks.getD k 0 % (((f.b.length - f.s : Nat) : Int) + 1) by omega] at this
          clear hshort HSH hloose hsv
          generalize ks.getD k 0 = z at *
          generalize hl : f.b.length - f.s = l at *
          have hl2 : l ≤ 1048576 := by omega
          clear hl
          go_upto_region 6 with fail
          obtain ⟨hw1, htm⟩ : IntKind.i64.wrap ((l : Int) + 1) = (l : Int) + 1 ∧ z.tmod ((l : Int) + 1) = z % ((l : Int) + 1) := ⟨IntWalk.i64_in _ (by omega), Int.tmod_eq_emod_of_nonneg (by omega)⟩
          go_quiet ((go_at_call 34; exact Calls.quiet_of (HLO.out _)))
          clear hw1 htm
          go_wp2_with (go_at_call 38; refine (HSH2.out _).mono ?_; rintro e w2 ⟨rfl, HX⟩)
          go_roundw
          case rel => exact ⟨k + 1, by go_num, by omega, HX⟩
          case measure => simp [intOf]; omega
        · have hsv : survN ks k f = 0 := by unfold survN; rw [if_neg fun e => hpos e.2]
          have HSH2 : Hid (∀ q, Calls Try.prog 38 #[.pointer (some ⟨d, 0, none⟩), .pointer (some ⟨p, 0, none⟩), .int .i64 (f.s : Int)] (wr.drewN q) fun e w2 => e = .returned (.tuple #[]) ∧ Hid (CrashRel d room S ks Ψ w1 (k + 1) w2)) := Lib.hid fun q => by
            have := hshort q
            rwa [hsv, Nat.add_zero] at this
          clear hshort HSH hloose hsv
          generalize ks.getD k 0 = z at *
          go_wp2_with (go_at_call 38; refine (HSH2.out 0).mono ?_; rintro e w2 ⟨rfl, HX⟩)
          go_roundw
          case rel => exact ⟨k + 1, by go_num, by omega, HX⟩
          case measure => simp [intOf]; omega
      · have hsv : survN ks k f = 0 := by unfold survN; rw [if_neg fun e => by have := e.1; rw [HLEN.out] at this; omega]
        have hkn2 : (n : Int) ≤ k := by omega
        have HSH2 : Hid (∀ q, Calls Try.prog 38 #[.pointer (some ⟨d, 0, none⟩), .pointer (some ⟨p, 0, none⟩), .int .i64 (f.s : Int)] (wr.drewN q) fun e w2 => e = .returned (.tuple #[]) ∧ Hid (CrashRel d room S ks Ψ w1 (k + 1) w2)) := Lib.hid fun q => by
          have := hshort q
          rwa [hsv, Nat.add_zero] at this
        clear hshort HSH hloose hsv
        go_wp2_with (go_at_call 38; refine (HSH2.out 0).mono ?_; rintro e w2 ⟨rfl, HX⟩)
        go_roundw
        case rel => exact ⟨k + 1, by go_num, by omega, HX⟩
        case measure => simp [intOf]; omega
    · obtain rfl : k = S.length := by omega
      go_wp2_with fail
      go_end0
      exact ⟨rfl, HEND.out w1 wr HB.out HRk.out⟩
end Go.Proofs.Ytpolkhippblcmaa
