/- What is proved here: that there is never more than there is room for (LedgerRoom). -/
import Derived.Test.YtcdjahmnobjpkaaArgs
namespace Go.Proofs.Ytcdjahmnobjpkaa
open Go Go.RowKit Go.Maps Go.WideMaps

theorem LG.getB {w0 w : World} {l room : Nat} {L : List En} (h : LG w0 w l room L) {k : ByteArray} (hk : k.size ≤ maxLen) :
    Calls Try.prog 26 #[.pointer (some ⟨l, 0, none⟩), .string k] w fun e w' => ∃ v : Value, e = .returned (.tuple #[v, .bool (findE L k).isSome]) ∧ Hid (LG w0 w' l room L ∧ Below w.heap.size w w') :=
  (h.get hk).mono fun _ _ ⟨he, hx⟩ => ⟨_, he, hx⟩
/-- What Put does to the number of values. -/
theorem put_cases (room : Nat) (L : List En) (hR : Rising En.nm L) (x : En) :
    ((findE L x.k).isSome = true ∧ putA room L x.k = 0 ∧ (putR room L x).length = L.length) ∨
    ((findE L x.k).isSome = false ∧ L.length < room ∧ putA room L x.k = 0 ∧ (putR room L x).length = L.length + 1) ∨
    ((findE L x.k).isSome = false ∧ room ≤ L.length ∧ putA room L x.k = 5 ∧ (putR room L x).length = L.length) := by
  unfold putA putR full
  have hp := length_put hR x
  cases hf : findE L x.k with
  | some y =>
    rw [hf] at hp
    exact .inl ⟨rfl, by simp, by simpa using hp⟩
  | none =>
    rw [hf] at hp
    by_cases h : room ≤ L.length
    · exact .inr (.inr ⟨rfl, h, by simp [h], by simp [h]⟩)
    · exact .inr (.inl ⟨rfl, by omega, by simp [h], by simpa [h] using hp⟩)

set_option maxHeartbeats 6400000 in
set_option maxRecDepth 100000 in
theorem ledgerRoom_any {w : World} {A : Option Addr} {n c : Nat} {ops : List OpM} (hops : OpsRd w w.heap.size A n c ops) (room : Int) (hroom : -9223372036854775808 ≤ room ∧ room ≤ 9223372036854775807) :
    Calls Try.prog 6 #[.int .i64 room, .slice A n c] w fun e w' => e = .returned (.bool true) ∧ Below w.heap.size w w' := by
  have HAW := Lib.hid fun W => awake_any W
  have hcm := hops.max
  have hcc := hops.cap
  unfold maxLen at hcm
  have HK := Lib.hid hops
  have HN := Lib.hid (LG.new (Below.refl w.heap.size w) hroom)
  clear hops hroom
  by_cases h60 : 60 < n
  · have h60' : (60 : Int) < n := by omega
    go_enter Try.func6, Try.ntmps6
    go_wp2_with (go_at_call 8; refine (HAW.out _).mono ?_; rintro e w1 ⟨rfl, hb⟩; have HB := Lib.hid hb; clear hb)
    go_ret
    exact ⟨rfl, HB.out⟩
  · have h60' : ¬ (60 : Int) < n := by omega
    have hn60 : n ≤ 60 := by omega
    go_enter Try.func6, Try.ntmps6
    go_wp2_with (go_at_call 9; refine HN.out.mono ?_; rintro e w1 ⟨l, rfl, HT00⟩; have HT0 := Lib.hid HT00.out.1; clear HN HT00)
    clear h60
    go_loopw [22] (fun i wr => ∃ (k : Nat) (L : List En), i = .int .i64 k ∧ k ≤ n ∧ Hid (LG w wr l room.toNat L ∧ L.length ≤ k ∧ L.length ≤ room.toNat)) (fun i _ => n - (intOf i).toNat)
    case atStart => exact ⟨0, [], rfl, Nat.zero_le _, Lib.hid ⟨HT0.out, by simp, by simp⟩⟩
    case round =>
      clear HT0
      obtain ⟨k, L, rfl, hkn, HT⟩ := hrel
      by_cases hlt : k < n
      · obtain ⟨p, b, o, hok, hpl, hA, r0, r1, r2, r3⟩ := HK.out.op HT.out.1.2 hlt
        subst hA
        have hlt' : (k : Int) < n := by omega
        obtain ⟨v0, v1, v2, v3⟩ := box_cells wr p
        have HLOW : Hid (Below w.heap.size w (wr.alloc (opBox p))) := Lib.hid (HT.out.1.2.trans ((below_box wr p).mono HT.out.1.2.size))
        have HTV : Hid (LG w (wr.alloc (opBox p)) l room.toNat L) := Lib.hid (HT.out.1.later (below_box wr p))
        obtain ⟨V, hV⟩ : ∃ V, V = wr.alloc (opBox p) := ⟨_, rfl⟩
        have HSZ : Hid (wr.heap.size < V.heap.size) := Lib.hid (by rw [hV]; simp)
        have HV := Lib.hid hV
        rw [← hV] at HLOW HTV v0 v1 v2 v3
        clear hV hpl
        go_upto_region 9 with fail
        rw [← HV.out]
        clear r0 r1 r2 r3
        generalize wr.heap.size = bx at *
        by_cases h20 : 20 < p.k.size
        · have h20' : (20 : Int) < p.k.size := by omega
          go_wp2_with (go_at_call 8; refine (HAW.out _).mono ?_; rintro e w1 ⟨rfl, hb⟩; have HB := Lib.hid (HLOW.out.trans (hb.mono HLOW.out.size)); clear hb)
          go_ret
          exact ⟨rfl, HB.out⟩
        · have h20' : ¬ (20 : Int) < p.k.size := by omega
          have HC1 := Lib.hid (HTV.out.getB (k := p.k) (by unfold maxLen; omega))
          have HC2 : Hid (∀ V2, LG w V2 l room.toNat L → Calls Try.prog 28 #[.pointer (some ⟨l, 0, none⟩)] V2 fun e w' => e = .returned (.int .i64 L.length) ∧ V2 = w') := Lib.hid fun V2 h => h.len
          have HC3 : Hid (∀ V2, LG w V2 l room.toNat L → Calls Try.prog 11 #[.pointer (some ⟨l, 0, none⟩), .string p.k, .int .i64 p.v, .int .i64 p.t] V2 fun e w' => e = .returned (.int .i64 (putA room.toNat L p.k)) ∧ Hid (LG w w' l room.toNat (putR room.toNat L ⟨p.k, .int .i64 p.v, p.t⟩))) := Lib.hid fun V2 h => h.put (by have := HT.out.2.1; omega) (by unfold maxLen; omega) p.v p.t
          have HPC := put_cases room.toNat L HT.out.1.1.ok.srt ⟨p.k, .int .i64 p.v, p.t⟩
          simp only at HPC
          have HC4 : Hid (∀ V2, LG w V2 l room.toNat (putR room.toNat L ⟨p.k, .int .i64 p.v, p.t⟩) → Calls Try.prog 28 #[.pointer (some ⟨l, 0, none⟩)] V2 fun e w' => e = .returned (.int .i64 (putR room.toNat L ⟨p.k, .int .i64 p.v, p.t⟩).length) ∧ V2 = w') := Lib.hid fun V2 h => h.len
          have hnk := HT.out.2.1
          have hnr := HT.out.2.2
          generalize putR room.toNat L ⟨p.k, .int .i64 p.v, p.t⟩ = L3 at *
          generalize putA room.toNat L p.k = e3 at *
          generalize (findE L p.k).isSome = had at *
          have HNR : Hid (∃ m, m = L.length) := Lib.hid ⟨_, rfl⟩
          obtain ⟨m, hm⟩ := HNR.out
          obtain ⟨m3, hm3⟩ : ∃ m, m = L3.length := ⟨_, rfl⟩
          have HM3 := Lib.hid hm3
          have HM := Lib.hid hm
          rw [← hm] at HC2 HPC hnk hnr
          rw [← hm3] at HC4 HPC
          clear hm hm3 HNR
          have hq : m3 ≤ room.toNat ∧ m3 ≤ k + 1 := by rcases HPC with ⟨_, _, h3⟩ | ⟨_, _, _, h3⟩ | ⟨_, _, _, h3⟩ <;> omega
          have HQ : Hid (m3 ≤ room.toNat ∧ m3 ≤ k + 1) := Lib.hid hq
          rcases HPC with ⟨rfl, rfl, rfl⟩ | ⟨rfl, h4, rfl, rfl⟩ | ⟨rfl, h4, rfl, rfl⟩
          · go_wp2_with (first
              | (go_at_call 26; refine HC1.out.mono ?_; rintro e w2 ⟨gv, rfl, HX2⟩; have u1 := (HX2.out.2.cell (p := ⟨bx, 1, none⟩) HSZ.out).trans v1; have u2 := (HX2.out.2.cell (p := ⟨bx, 2, none⟩) HSZ.out).trans v2; have u3 := (HX2.out.2.cell (p := ⟨bx, 3, none⟩) HSZ.out).trans v3; clear HC1 v1 v2 v3)
              | (go_at_call 28; refine (HC2.out _ HX2.out.1).mono ?_; rintro e w3 ⟨rfl, rfl⟩; clear HC2)
              | (go_at_call 11; refine (HC3.out _ HX2.out.1).mono ?_; rintro e w4 ⟨rfl, HX4⟩; clear HC3)
              | (go_at_call 28; refine (HC4.out _ HX4.out).mono ?_; rintro e w5 ⟨rfl, rfl⟩))
            all_goals
              go_roundw
              case rel => exact ⟨k + 1, L3, by go_num, by omega, Lib.hid ⟨HX4.out, by rw [← HM3.out]; exact HQ.out.2, by rw [← HM3.out]; exact HQ.out.1⟩⟩
              case measure => simp [intOf]; omega
          · have hlr : (m : Int) < room := by omega
            go_wp2_with (first
              | (go_at_call 26; refine HC1.out.mono ?_; rintro e w2 ⟨gv, rfl, HX2⟩; have u1 := (HX2.out.2.cell (p := ⟨bx, 1, none⟩) HSZ.out).trans v1; have u2 := (HX2.out.2.cell (p := ⟨bx, 2, none⟩) HSZ.out).trans v2; have u3 := (HX2.out.2.cell (p := ⟨bx, 3, none⟩) HSZ.out).trans v3; clear HC1 v1 v2 v3)
              | (go_at_call 28; refine (HC2.out _ HX2.out.1).mono ?_; rintro e w3 ⟨rfl, rfl⟩; clear HC2)
              | (go_at_call 11; refine (HC3.out _ HX2.out.1).mono ?_; rintro e w4 ⟨rfl, HX4⟩; clear HC3)
              | (go_at_call 28; refine (HC4.out _ HX4.out).mono ?_; rintro e w5 ⟨rfl, rfl⟩))
            all_goals
              go_roundw
              case rel => exact ⟨k + 1, L3, by go_num, by omega, Lib.hid ⟨HX4.out, by rw [← HM3.out]; exact HQ.out.2, by rw [← HM3.out]; exact HQ.out.1⟩⟩
              case measure => simp [intOf]; omega
          · have hlr : ¬ (m3 : Int) < room := by omega
            go_wp2_with (first
              | (go_at_call 26; refine HC1.out.mono ?_; rintro e w2 ⟨gv, rfl, HX2⟩; have u1 := (HX2.out.2.cell (p := ⟨bx, 1, none⟩) HSZ.out).trans v1; have u2 := (HX2.out.2.cell (p := ⟨bx, 2, none⟩) HSZ.out).trans v2; have u3 := (HX2.out.2.cell (p := ⟨bx, 3, none⟩) HSZ.out).trans v3; clear HC1 v1 v2 v3)
              | (go_at_call 28; refine (HC2.out _ HX2.out.1).mono ?_; rintro e w3 ⟨rfl, rfl⟩; clear HC2)
              | (go_at_call 11; refine (HC3.out _ HX2.out.1).mono ?_; rintro e w4 ⟨rfl, HX4⟩; clear HC3)
              | (go_at_call 28; refine (HC4.out _ HX4.out).mono ?_; rintro e w5 ⟨rfl, rfl⟩))
            all_goals
              go_roundw
              case rel => exact ⟨k + 1, L3, by go_num, by omega, Lib.hid ⟨HX4.out, by rw [← HM3.out]; exact HQ.out.2, by rw [← HM3.out]; exact HQ.out.1⟩⟩
              case measure => simp [intOf]; omega
      · obtain rfl : k = n := by omega
        have hlt' : ¬ (k : Int) < (k : Int) := by omega
        go_wp2_with (go_at_call 8; refine (HAW.out _).mono ?_; rintro e w1 ⟨rfl, hb⟩; have HB := Lib.hid (HT.out.1.2.trans (hb.mono HT.out.1.2.size)); clear hb)
        go_ret
        exact ⟨rfl, HB.out⟩
end Go.Proofs.Ytcdjahmnobjpkaa
