/- What is proved here: that of one key the value, and the time, that were put last are known (LedgerLast). -/
import Derived.Test.YtcdjahmnobjpkaaArgs
namespace Go.Proofs.Ytcdjahmnobjpkaa
open Go Go.RowKit Go.Maps Go.WideMaps

theorem put_len (room : Nat) (L : List En) (hR : Rising En.nm L) (x : En) : (putR room L x).length ≤ L.length + 1 := by
  unfold putR
  have := length_put hR x
  split
  · omega
  · rw [this]; split <;> omega
theorem put_there {room : Nat} {L : List En} (x : En) (h : L.length < room) : putA room L x.k = 0 ∧ putR room L x = putE L x := by
  have : full room L x.k = false := by unfold full; simp; intro _; omega
  unfold putA putR
  rw [this]
  exact ⟨rfl, rfl⟩

set_option maxHeartbeats 6400000 in
set_option maxRecDepth 100000 in
theorem ledgerLast_any {w : World} {A : Option Addr} {n c : Nat} {ops : List OpM} (hops : OpsRd w w.heap.size A n c ops) (s : ByteArray) (hs : s.size ≤ maxLen) (vl tl : Int) :
    Calls Try.prog 7 #[.slice A n c, .string s, .int .i64 vl, .int .i64 tl] w fun e w' => e = .returned (.bool true) ∧ Below w.heap.size w w' := by
  have HAW := Lib.hid fun W => awake_any W
  have hcm := hops.max
  have hcc := hops.cap
  unfold maxLen at hcm
  have HK := Lib.hid hops
  have HN := Lib.hid (LG.new (Below.refl w.heap.size w) (rm := 100) (by omega))
  have HS := Lib.hid hs
  clear hops hs
  by_cases h60 : 60 < n ∨ 20 < s.size
  · have h60' : (60 : Int) < n ∨ (20 : Int) < s.size := by omega
    by_cases h61 : (60 : Int) < n
    · clear h60 h60'
      go_enter Try.func7, Try.ntmps7
      go_wp2_with (go_at_call 8; refine (HAW.out _).mono ?_; rintro e w1 ⟨rfl, hb⟩; have HB := Lib.hid hb; clear hb)
      go_ret
      exact ⟨rfl, HB.out⟩
    · have h62 : (20 : Int) < s.size := by omega
      clear h60 h60'
      go_enter Try.func7, Try.ntmps7
      go_wp2_with (go_at_call 8; refine (HAW.out _).mono ?_; rintro e w1 ⟨rfl, hb⟩; have HB := Lib.hid hb; clear hb)
      go_ret
      exact ⟨rfl, HB.out⟩
  · have h60' : ¬ (60 : Int) < n := by omega
    have h62 : ¬ (20 : Int) < s.size := by omega
    have hn60 : n ≤ 60 := by omega
    clear h60
    go_enter Try.func7, Try.ntmps7
    go_wp2_with (go_at_call 9; refine HN.out.mono ?_; rintro e w1 ⟨l, rfl, HT00⟩; have HT0 : Hid (LG w w1 l 100 []) := Lib.hid HT00.out.1; clear HN HT00)
    go_loopw [30] (fun i wr => ∃ (k : Nat) (L : List En), i = .int .i64 k ∧ k ≤ n ∧ Hid (LG w wr l 100 L ∧ L.length ≤ k ∧ True)) (fun i _ => n - (intOf i).toNat)
    case atStart => exact ⟨0, [], rfl, Nat.zero_le _, Lib.hid ⟨HT0.out, by simp, trivial⟩⟩
    case round =>
      clear HT0
      obtain ⟨k, L, rfl, hkn, HT⟩ := hrel
      by_cases hlt : k < n
      · skip
        obtain ⟨p, b, o, hok, hpl, hA, r0, r1, r2, r3⟩ := HK.out.op HT.out.1.2 hlt
        subst hA
        have hlt' : (k : Int) < n := by omega
        obtain ⟨v0, v1, v2, v3⟩ := box_cells wr p
        have HLOW : Hid (Below w.heap.size w (wr.alloc (opBox p))) := Lib.hid (HT.out.1.2.trans ((below_box wr p).mono HT.out.1.2.size))
        have HTV : Hid (∀ V, V = wr.alloc (opBox p) → Below wr.heap.size wr V) := Lib.hid fun V e => by rw [e]; exact below_box wr p
        have hsz : wr.heap.size < (wr.alloc (opBox p)).heap.size := by simp
        obtain ⟨V, hV⟩ : ∃ V, V = wr.alloc (opBox p) := ⟨_, rfl⟩
        have HBV := Lib.hid (HTV.out V hV)
        have HV := Lib.hid hV
        rw [← hV] at HLOW v0 v1 v2 v3 hsz
        have HSZ := Lib.hid hsz
        have HPL := Lib.hid hpl
        clear hV hpl hsz HTV
        have HLN := Lib.hid HT.out.2.1
        have HC3 : Hid (¬ 20 < p.k.size → _) := Lib.hid fun h20 => HT.out.1.putK HBV.out (by have := HT.out.2.1; omega) (k := p.k) (by unfold maxLen; omega) p.v p.t
        have HPN : Hid ((putR 100 L ⟨p.k, .int .i64 p.v, p.t⟩).length ≤ k + 1) := Lib.hid (by
          have h1 := put_len 100 L HT.out.1.1.ok.srt ⟨p.k, .int .i64 p.v, p.t⟩
          have h2 := HT.out.2.1
          omega)
        go_upto_region 9 with fail
        rw [← HV.out]
        clear r0 r1 r2 r3
        generalize wr.heap.size = bx at *
        by_cases h20 : 20 < p.k.size
        · have h20' : (20 : Int) < p.k.size := by omega
          go_wp2_with (go_at_call 8; refine (HAW.out _).mono ?_; rintro e w1 ⟨rfl, hb⟩; have HB := Lib.hid (HLOW.out.trans (hb.mono HLOW.out.size)); clear hb)
          go_ret
          exact ⟨rfl, HB.out⟩
        · have h20' : ¬ (20 : Int) < p.k.size := by omega
          have HC4 := Lib.hid (HC3.out h20)
          generalize putR 100 L ⟨p.k, .int .i64 p.v, p.t⟩ = L3 at *
          generalize putA 100 L p.k = e3 at *
          go_wp2_with (go_at_call 11; refine HC4.out.mono ?_; rintro e w4 ⟨rfl, HX4⟩)
          go_roundw
          case rel => exact ⟨k + 1, L3, by go_num, by omega, Lib.hid ⟨HX4.out.1, HPN.out, trivial⟩⟩
          case measure => simp [intOf]; omega
      · obtain rfl : k = n := by omega
        have hlt' : ¬ (k : Int) < (k : Int) := by omega
        have hpt := put_there (room := 100) (L := L) ⟨s, .int .i64 vl, tl⟩ (by have := HT.out.2.1; omega)
        have hsm : s.size ≤ maxLen := HS.out
        have hfe : findE (putE L ⟨s, .int .i64 vl, tl⟩) s = some ⟨s, .int .i64 vl, tl⟩ := find_put_same HT.out.1.1.ok.srt ⟨s, .int .i64 vl, tl⟩
        have C1 : Hid (Calls Try.prog 11 #[.pointer (some ⟨l, 0, none⟩), .string s, .int .i64 vl, .int .i64 tl] wr fun e w' => e = .returned (.int .i64 0) ∧ Hid (LG w w' l 100 (putE L ⟨s, .int .i64 vl, tl⟩))) := Lib.hid (by
          have := HT.out.1.put (by have := HT.out.2.1; omega) hsm vl tl
          rw [hpt.1, hpt.2] at this
          exact this)
        have C2 : Hid (∀ w2, LG w w2 l 100 (putE L ⟨s, .int .i64 vl, tl⟩) → Calls Try.prog 26 #[.pointer (some ⟨l, 0, none⟩), .string s] w2 fun e w' => e = .returned (.tuple #[.int .i64 vl, .bool true]) ∧ Hid (LG w w' l 100 (putE L ⟨s, .int .i64 vl, tl⟩) ∧ Below w2.heap.size w2 w')) := Lib.hid fun w2 h => by
          have := h.get hsm
          rw [hfe] at this
          exact this
        have C3 : Hid (∀ w2, LG w w2 l 100 (putE L ⟨s, .int .i64 vl, tl⟩) → Calls Try.prog 25 #[.pointer (some ⟨l, 0, none⟩), .string s] w2 fun e w' => e = .returned (.tuple #[.int .i64 tl, .bool true]) ∧ Hid (LG w w' l 100 (putE L ⟨s, .int .i64 vl, tl⟩) ∧ Below w2.heap.size w2 w')) := Lib.hid fun w2 h => by
          have := h.until hsm
          rw [hfe] at this
          exact this
        have C4 : Hid (∀ w2, LG w w2 l 100 (putE L ⟨s, .int .i64 vl, tl⟩) → Calls Try.prog 13 #[.pointer (some ⟨l, 0, none⟩), .string s] w2 fun e w' => e = .returned (.bool true) ∧ Hid (LG w w' l 100 (dropE (putE L ⟨s, .int .i64 vl, tl⟩) s))) := Lib.hid fun w2 h => by
          have := h.drop hsm
          rw [hfe] at this
          exact this
        have C5 : Hid (∀ w2, LG w w2 l 100 (dropE (putE L ⟨s, .int .i64 vl, tl⟩) s) → Calls Try.prog 13 #[.pointer (some ⟨l, 0, none⟩), .string s] w2 fun e w' => e = .returned (.bool false) ∧ Hid (Below w.heap.size w w')) := Lib.hid fun w2 h => by
          have := h.drop hsm
          rw [find_drop_same] at this
          exact this.mono fun e w' ⟨he, hx⟩ => ⟨he, Lib.hid hx.out.2⟩
        clear hpt hfe hsm
        go_wp2_with (first
          | (go_at_call 11; refine C1.out.mono ?_; rintro e w2 ⟨rfl, H2⟩; have D2 := Lib.hid (C2.out _ H2.out); clear C1)
          | (go_at_call 26; refine D2.out.mono ?_; rintro e w3 ⟨rfl, H3⟩; have D3 := Lib.hid (C3.out _ H3.out.1); clear D2)
          | (go_at_call 25; refine D3.out.mono ?_; rintro e w4 ⟨rfl, H4⟩; have D4 := Lib.hid (C4.out _ H4.out.1); clear D3)
          | (go_at_call 13; refine D4.out.mono ?_; rintro e w5 ⟨rfl, H5⟩; have D5 := Lib.hid (C5.out _ H5.out); clear D4)
          | (go_at_call 13; refine D5.out.mono ?_; rintro e w6 ⟨rfl, H6⟩; clear D5)
          | (go_at_call 8; refine (HAW.out _).mono ?_; rintro e w7 ⟨rfl, hb⟩; have HB := Lib.hid (H6.out.trans (hb.mono H6.out.size)); clear hb))
        go_ret
        exact ⟨rfl, HB.out⟩
end Go.Proofs.Ytcdjahmnobjpkaa
