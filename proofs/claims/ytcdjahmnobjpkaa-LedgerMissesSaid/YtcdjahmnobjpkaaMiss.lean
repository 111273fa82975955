/- What is proved here: that of what is not known there is no value, and no time (LedgerMisses). -/
import Derived.Test.YtcdjahmnobjpkaaArgs
namespace Go.Proofs.Ytcdjahmnobjpkaa
open Go Go.RowKit Go.Maps Go.WideMaps

theorem put_lenS (room : Nat) (L : List En) (hR : Rising En.nm L) (x : En) : (putR room L x).length ≤ L.length + 1 := by
  unfold putR
  have := length_put hR x
  split
  · omega
  · rw [this]; split <;> omega
/-- What is known of a key. -/
def Kn (L : List En) (s : ByteArray) (kn : Bool) : Prop := if kn then ∃ t, findE L s = some ⟨s, .string ⟨#[120]⟩, t⟩ else findE L s = none
theorem Kn.put {L : List En} {s k : ByteArray} {kn : Bool} {t : Int} (hR : Rising En.nm L) (h : Kn L s kn) (hl : L.length < 100) : Kn (putR 100 L ⟨k, .string ⟨#[120]⟩, t⟩) s (kn || decide (k = s)) := by
  have : full 100 L k = false := by unfold full; simp; intro _; omega
  unfold putR
  rw [this]
  unfold Kn at h ⊢
  by_cases e : k = s
  · subst e
    simp only [decide_true, Bool.or_true, if_true]
    exact ⟨t, find_put_same hR ⟨k, .string ⟨#[120]⟩, t⟩⟩
  · simp only [e, decide_false, Bool.or_false]
    simp only [Bool.false_eq_true, if_false]
    rw [find_put_other hR fun e2 => e e2.symm]
    exact h
theorem Kn.drop {L : List En} {s k : ByteArray} {kn : Bool} (hR : Rising En.nm L) (h : Kn L s kn) : Kn (dropE L k) s (kn && !decide (k = s)) := by
  unfold Kn at h ⊢
  by_cases e : k = s
  · subst e
    simp only [decide_true, Bool.not_true, Bool.and_false, Bool.false_eq_true, if_false]
    exact find_drop_same L k
  · simp only [e, decide_false, Bool.not_false, Bool.and_true]
    rw [find_drop_other hR fun e2 => e e2.symm]
    exact h

set_option maxHeartbeats 6400000 in
set_option maxRecDepth 100000 in
theorem ledgerMisses_any {w : World} {A : Option Addr} {n c : Nat} {ops : List OpM} (hops : OpsRd w w.heap.size A n c ops) (s : ByteArray) (hs : s.size ≤ maxLen) :
    Calls Try.prog 4 #[.slice A n c, .string s] w fun e w' => e = .returned (.bool true) ∧ Below w.heap.size w w' := by
  have HAW := Lib.hid fun W => awake_any W
  have hcm := hops.max
  have hcc := hops.cap
  unfold maxLen at hcm
  have HK := Lib.hid hops
  have HN := Lib.hid (LGS.new (Below.refl w.heap.size w) (rm := 100) (by omega))
  have HS := Lib.hid hs
  clear hops hs
  by_cases h60 : 60 < n
  · have h60' : (60 : Int) < n := by omega
    go_enter Try.func4, Try.ntmps4
    go_wp2_with (go_at_call 8; refine (HAW.out _).mono ?_; rintro e w1 ⟨rfl, hb⟩; have HB := Lib.hid hb; clear hb)
    go_ret
    exact ⟨rfl, HB.out⟩
  · have h60' : ¬ (60 : Int) < n := by omega
    have hn60 : n ≤ 60 := by omega
    clear h60
    go_enter Try.func4, Try.ntmps4
    go_wp2_with (go_at_call 20; refine HN.out.mono ?_; rintro e w1 ⟨l, rfl, HT00⟩; have HT0 : Hid (LGS w w1 l 100 []) := Lib.hid HT00.out.1; clear HN HT00)
    go_loopw [6, 22] (fun q i wr => ∃ (k : Nat) (L : List En) (kn : Bool), q = .bool kn ∧ i = .int .i64 k ∧ k ≤ n ∧ Hid (LGS w wr l 100 L ∧ L.length ≤ k ∧ Kn L s kn)) (fun _ i _ => n - (intOf i).toNat)
    case atStart => exact ⟨0, [], false, rfl, rfl, Nat.zero_le _, Lib.hid ⟨HT0.out, by simp, rfl⟩⟩
    case round =>
      clear HT0
      obtain ⟨k, L, kn, rfl, rfl, hkn, HT⟩ := hrel
      by_cases hlt : k < n
      · skip
        obtain ⟨p, b, o, hok, hpl, hA, r0, r1, r2, r3⟩ := HK.out.op HT.out.1.2 hlt
        subst hA
        have hlt' : (k : Int) < n := by omega
        obtain ⟨v0, v1, v2, v3⟩ := box_cells wr p
        have HLOW : Hid (Below w.heap.size w (wr.alloc (opBox p))) := Lib.hid (HT.out.1.2.trans ((below_box wr p).mono HT.out.1.2.size))
        have HTV : Hid (∀ V, V = wr.alloc (opBox p) → Below wr.heap.size wr V) := Lib.hid fun V e => by rw [e]; exact below_box wr p
        have hsz : wr.heap.size < (wr.alloc (opBox p)).heap.size := by simp
        obtain ⟨V, hV⟩ : ∃ V, V = wr.alloc (opBox p) := ⟨_, rfl⟩
        have HBV := Lib.hid (HTV.out V hV)
        have HV := Lib.hid hV
        rw [← hV] at HLOW v0 v1 v2 v3 hsz
        have HSZ := Lib.hid hsz
        have HPL := Lib.hid hpl
        clear hV hpl hsz HTV
        have HLN := Lib.hid HT.out.2.1
        have HC3 : Hid (¬ 20 < p.k.size → _) := Lib.hid fun h20 => HT.out.1.putK HBV.out (by have := HT.out.2.1; omega) (k := p.k) (by unfold maxLen; omega) ⟨#[120]⟩ p.t
        have HC4 : Hid (¬ 20 < p.k.size → _) := Lib.hid fun h20 => HT.out.1.dropK HBV.out (k := p.k) (by unfold maxLen; omega)
        have HPN : Hid ((putR 100 L ⟨p.k, .string ⟨#[120]⟩, p.t⟩).length ≤ k + 1 ∧ Kn (putR 100 L ⟨p.k, .string ⟨#[120]⟩, p.t⟩) s (kn || decide (p.k = s))) := Lib.hid ⟨by
          have h1 := put_lenS 100 L HT.out.1.1.ok.srt ⟨p.k, .string ⟨#[120]⟩, p.t⟩
          have h2 := HT.out.2.1
          omega, HT.out.2.2.put HT.out.1.1.ok.srt (by have := HT.out.2.1; omega)⟩
        have HDN : Hid ((dropE L p.k).length ≤ k + 1 ∧ Kn (dropE L p.k) s (kn && !decide (p.k = s))) := Lib.hid ⟨by
          have h1 : (dropE L p.k).length ≤ L.length := length_delN _ _
          have h2 := HT.out.2.1
          omega, HT.out.2.2.drop HT.out.1.1.ok.srt⟩
        have hse := str_eq p.k s
        go_upto_region 10 with fail
        rw [← HV.out]
        clear r0 r1 r2 r3
        generalize wr.heap.size = bx at *
        by_cases h20 : 20 < p.k.size
        · have h20' : (20 : Int) < p.k.size := by omega
          go_wp2_with (go_at_call 8; refine (HAW.out _).mono ?_; rintro e w1 ⟨rfl, hb⟩; have HB := Lib.hid (HLOW.out.trans (hb.mono HLOW.out.size)); clear hb)
          go_ret
          exact ⟨rfl, HB.out⟩
        · have h20' : ¬ (20 : Int) < p.k.size := by omega
          have HC5 := Lib.hid (HC3.out h20)
          have HC6 := Lib.hid (HC4.out h20)
          by_cases hk1 : p.kind = 1
          · have hkb : (p.kind == 1) = true := by simpa using hk1
            generalize dropE L p.k = L3 at *
            generalize (findE L p.k).isSome = e3 at *
            clear HC3 HC4 HC5 HPN
            cases kn with
            | true =>
              go_wp2_with (go_at_call 21; refine HC6.out.mono ?_; rintro e w4 ⟨rfl, HX4⟩; have u3 := (HX4.out.2 ⟨bx, 3, none⟩ (Nat.le_refl _) HSZ.out).trans v3; clear HC6 v0 v1 v2 v3)
              go_roundw
              case rel => exact ⟨k + 1, L3, !decide (p.k = s), by first | rfl | (rw [hse]) | (simp [hse]), by go_num, by omega, Lib.hid ⟨HX4.out.1, HDN.out.1, by simpa using HDN.out.2⟩⟩
              case measure => simp [intOf]; omega
            | false =>
              go_wp2_with (go_at_call 21; refine HC6.out.mono ?_; rintro e w4 ⟨rfl, HX4⟩; clear HC6 v0 v1 v2 v3)
              go_roundw
              case rel => exact ⟨k + 1, L3, false, rfl, by go_num, by omega, Lib.hid ⟨HX4.out.1, HDN.out.1, by simpa using HDN.out.2⟩⟩
              case measure => simp [intOf]; omega
          · have hkb : (p.kind == 1) = false := beq_eq_false_iff_ne.2 hk1
            generalize putR 100 L ⟨p.k, .string ⟨#[120]⟩, p.t⟩ = L3 at *
            generalize putA 100 L p.k = e3 at *
            clear HC3 HC4 HC6 HDN
            cases kn with
            | true =>
              go_wp2_with (go_at_call 22; refine HC5.out.mono ?_; rintro e w4 ⟨rfl, HX4⟩; clear HC5 v0 v1 v2 v3)
              go_roundw
              case rel => exact ⟨k + 1, L3, true, rfl, by go_num, by omega, Lib.hid ⟨HX4.out.1, HPN.out.1, by simpa using HPN.out.2⟩⟩
              case measure => simp [intOf]; omega
            | false =>
              go_wp2_with (go_at_call 22; refine HC5.out.mono ?_; rintro e w4 ⟨rfl, HX4⟩; have u3 := (HX4.out.2 ⟨bx, 3, none⟩ (Nat.le_refl _) HSZ.out).trans v3; clear HC5 v0 v1 v2 v3)
              go_roundw
              case rel => exact ⟨k + 1, L3, decide (p.k = s), by first | rfl | (rw [hse]) | (simp [hse]), by go_num, by omega, Lib.hid ⟨HX4.out.1, HPN.out.1, by simpa using HPN.out.2⟩⟩
              case measure => simp [intOf]; omega
      · obtain rfl : k = n := by omega
        have hlt' : ¬ (k : Int) < (k : Int) := by omega
        have hsm : s.size ≤ maxLen := HS.out
        have hkn2 := HT.out.2.2
        have C2 := Lib.hid (HT.out.1.get hsm)
        have C3 : Hid (∀ w2, LGS w w2 l 100 L → _) := Lib.hid fun w2 (h : LGS w w2 l 100 L) => h.until hsm
        cases kn with
        | true =>
          obtain ⟨t, ht⟩ := hkn2
          rw [ht] at C2 C3
          have D2 : Hid (Calls Try.prog 23 #[.pointer (some ⟨l, 0, none⟩), .string s] wr fun e w' => e = .returned (.tuple #[.string ⟨#[120]⟩, .bool true]) ∧ Hid (LGS w w' l 100 L ∧ Below wr.heap.size wr w')) := C2
          have D3 : Hid (∀ w2, LGS w w2 l 100 L → Calls Try.prog 24 #[.pointer (some ⟨l, 0, none⟩), .string s] w2 fun e w' => e = .returned (.tuple #[.int .i64 t, .bool true]) ∧ Hid (LGS w w' l 100 L ∧ Below w2.heap.size w2 w')) := C3
          clear C2 C3 ht hsm
          go_wp2_with (first
            | (go_at_call 23; refine D2.out.mono ?_; rintro e w3 ⟨rfl, H3⟩; clear D2)
            | (go_at_call 24; refine (D3.out _ H3.out.1).mono ?_; rintro e w4 ⟨rfl, H4⟩; clear D3)
            | (go_at_call 8; refine (HAW.out _).mono ?_; rintro e w7 ⟨rfl, hb⟩; have HB := Lib.hid (H4.out.1.2.trans (hb.mono H4.out.1.2.size)); clear hb))
          go_ret
          exact ⟨rfl, HB.out⟩
        | false =>
          have ht : findE L s = none := hkn2
          clear hkn2
          rw [ht] at C2 C3
          have D2 : Hid (Calls Try.prog 23 #[.pointer (some ⟨l, 0, none⟩), .string s] wr fun e w' => e = .returned (.tuple #[.string ⟨#[]⟩, .bool false]) ∧ Hid (LGS w w' l 100 L ∧ Below wr.heap.size wr w')) := C2
          have D3 : Hid (∀ w2, LGS w w2 l 100 L → Calls Try.prog 24 #[.pointer (some ⟨l, 0, none⟩), .string s] w2 fun e w' => e = .returned (.tuple #[.int .i64 0, .bool false]) ∧ Hid (LGS w w' l 100 L ∧ Below w2.heap.size w2 w')) := C3
          clear C2 C3 ht hsm
          go_wp2_with (first
            | (go_at_call 23; refine D2.out.mono ?_; rintro e w3 ⟨rfl, H3⟩; clear D2)
            | (go_at_call 24; refine (D3.out _ H3.out.1).mono ?_; rintro e w4 ⟨rfl, H4⟩; clear D3)
            | (go_at_call 8; refine (HAW.out _).mono ?_; rintro e w7 ⟨rfl, hb⟩; have HB := Lib.hid (H4.out.1.2.trans (hb.mono H4.out.1.2.size)); clear hb))
          go_ret
          exact ⟨rfl, HB.out⟩
end Go.Proofs.Ytcdjahmnobjpkaa
