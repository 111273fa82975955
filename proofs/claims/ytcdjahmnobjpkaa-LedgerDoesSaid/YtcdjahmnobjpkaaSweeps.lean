/- What is proved here: that what was swept was known until then, and what is left is known longer (LedgerSweeps). -/
import Derived.Test.YtcdjahmnobjpkaaArgs
import Derived.Test.YtcdjahmnobjpkaaKeys
import Derived.Test.YtcdjahmnobjpkaaSrtN
namespace Go.Proofs.Ytcdjahmnobjpkaa
open Go Go.RowKit Go.Maps Go.WideMaps

/-- A row of keys in memory. -/
def RowK (w : World) (A : Option Addr) (n c : Nat) (ys : List En) : Prop := w.ownsRow 0 9 1 (.slice A n c) n (ys.map keyV)
section
variable {w w' : World} {A : Option Addr} {n c : Nat} {ys : List En}
theorem RowK.below (h : RowK w A n c ys) (hb : Below w.heap.size w w') : RowK w' A n c ys := own_below h hb
theorem RowK.len (h : RowK w A n c ys) : ys.length = n := by
  have := h.1
  simpa using this
theorem RowK.caps (h : RowK w A n c ys) : n ≤ c ∧ c ≤ 9223372036854775807 := by
  rcases h.2 with ⟨e1, _⟩ | ⟨g, cap, cur, e1, _, hg, h1, h2, _⟩
  · cases e1
    exact ⟨Nat.le_refl _, Nat.zero_le _⟩
  · cases e1
    unfold maxLen at h2
    exact ⟨h1, by omega⟩
theorem RowK.cell (h : RowK w A n c ys) {j : Nat} (hj : j < n) : ∃ (b : Nat) (y : En), ys[j]? = some y ∧ A = some ⟨b, 0, none⟩ ∧ w.cell? ⟨b, j, none⟩ = some (.string y.k) := by
  have hjl : j < ys.length := by rw [h.len]; exact hj
  obtain ⟨b, cap, e, _⟩ := h.form (by omega)
  obtain ⟨rfl, rfl⟩ : A = some ⟨b, 0, none⟩ ∧ c = cap := by simpa using e
  have := h.cellAt j (by omega)
  rw [List.getElem?_map, List.getElem?_eq_getElem hjl] at this
  exact ⟨b, ys[j], List.getElem?_eq_getElem hjl, rfl, this⟩
end
theorem past_left (L : List En) (now : Int) : (pastE L now).length + (leftE L now).length = L.length := by
  unfold pastE leftE
  induction L with
  | nil => rfl
  | cons x r ih =>
    by_cases h : x.t ≤ now
    · simp only [List.filter_cons, h, decide_true, if_true, Bool.not_true, Bool.false_eq_true, if_false, List.length_cons]; omega
    · simp only [List.filter_cons, h, decide_false, if_true, Bool.not_false, Bool.false_eq_true, if_false, List.length_cons]; omega
theorem past_of_left (L : List En) (now : Int) : pastE (leftE L now) now = [] := by
  unfold pastE leftE
  rw [List.filter_filter, List.filter_eq_nil_iff]
  intro x _
  simp
theorem left_none {L : List En} (hR : Rising En.nm L) {now : Int} {y : En} (hy : y ∈ pastE L now) : findE (leftE L now) y.k = none := by
  obtain ⟨h1, h2⟩ := mem_past.1 hy
  refine findE_none.2 fun x hx e => ?_
  obtain ⟨h3, h4⟩ := mem_left.1 hx
  rw [keyE_one hR h3 h1 e] at h4
  exact h4 h2
theorem sort_any (n : Nat) (hn : n < 900000) (l : List En) (hl : l.length = n) : l = [] ∨ SortOK l.length := by
  by_cases h : l = []
  · exact .inl h
  · exact .inr (sortN (List.length_pos_iff.2 h) (by omega))
theorem left_len (L : List En) (now : Int) : (leftE L now).length ≤ L.length := List.length_filter_le _ _
theorem past_len (L : List En) (now : Int) : (pastE L now).length ≤ L.length := List.length_filter_le _ _

/-- The ledger, its copy, and the row of what was swept. -/
structure SwS (w wr : World) (l b : Nat) (L : List En) (now : Int) (A : Option Addr) (q c : Nat) (ys : List En) : Prop where
  cur : LG w wr l 100 (leftE L now)
  was : LG w wr b 100 L
  row : RowK wr A q c ys
  perm : ys.Perm (pastE L now)
  srt : ys.Pairwise fun a b => ¬ befE b a
theorem SwS.later {w wr w' : World} {l b : Nat} {L : List En} {now : Int} {A : Option Addr} {q c : Nat} {ys : List En} (h : SwS w wr l b L now A q c ys) (hb : Below wr.heap.size wr w') : SwS w w' l b L now A q c ys :=
  ⟨h.cur.later hb, h.was.later hb, h.row.below hb, h.perm, h.srt⟩
/-- A copy, and then a Sweep of the first. -/
theorem copy_sweep {w wr : World} {l : Nat} {L : List En} (h : LG w wr l 100 L) (hL : L.length < 900000) (now : Int) :
    Calls Try.prog 18 #[.pointer (some ⟨l, 0, none⟩)] wr fun e w2 => ∃ b : Nat, e = .returned (.pointer (some ⟨b, 0, none⟩)) ∧
      Hid (Calls Try.prog 17 #[.pointer (some ⟨l, 0, none⟩), .int .i64 now] w2 fun e w3 => ∃ A q c ys, e = .returned (.slice A q c) ∧ Hid (SwS w w3 l b L now A q c ys)) := by
  refine (Copy_any h.1).mono ?_
  rintro e w2 ⟨b, rfl, hwb, hc, hb2⟩
  refine ⟨b, rfl, Lib.hid ?_⟩
  have h1 := h.atK hb2
  refine (Sweep_any h1 hL (sort_any _ (by have := past_len L now; omega) _ rfl)).mono ?_
  rintro e w3 ⟨A, c, ys, rfl, hp, hs, ho, hl, hg⟩
  have hsz := hb2.size
  have hT := (h.turnedK hb2 hl hg).1
  have hw0 := h.2.size
  refine ⟨A, _, c, ys, rfl, Lib.hid ⟨hT, ⟨(((hc.mono fun k hk hp => (⟨hp, hk⟩ : wr.heap.size ≤ k ∧ k < w2.heap.size)).keep hg fun k hk hp => by have := hp.2; omega).mono fun k _ hk => by have := hk.1; omega), hT.2⟩, own_base ho (Nat.zero_le _), hp, hs⟩⟩
section
variable {w wr : World} {l b : Nat} {L : List En} {now : Int} {A : Option Addr} {q c : Nat} {ys : List En}
/-- What is asked of one that was swept. -/
theorem SwS.ask (h : SwS w wr l b L now A q c ys) {j : Nat} {y : En} (hy : ys[j]? = some y) : y.t ≤ now ∧
    Calls Try.prog 25 #[.pointer (some ⟨b, 0, none⟩), .string y.k] wr fun e w2 => e = .returned (.tuple #[.int .i64 y.t, .bool true]) ∧
      Hid (Calls Try.prog 26 #[.pointer (some ⟨l, 0, none⟩), .string y.k] w2 fun e w3 => e = .returned (.tuple #[.int .i64 0, .bool false]) ∧ Hid (SwS w w3 l b L now A q c ys)) := by
  have hm : y ∈ pastE L now := h.perm.mem_iff.1 (List.mem_of_getElem? hy)
  obtain ⟨h1, h2⟩ := mem_past.1 hm
  have hok := h.was.1.ok
  have hk := hok.wf y h1
  refine ⟨h2, ?_⟩
  refine (h.was.until hk).mono ?_
  rintro e w2 ⟨rfl, hx⟩
  rw [findE_mem hok.srt h1]
  refine ⟨rfl, Lib.hid ?_⟩
  have h3 := h.later hx.out.2
  refine (h3.cur.get hk).mono ?_
  rintro e w3 ⟨rfl, hx2⟩
  rw [left_none hok.srt hm]
  exact ⟨rfl, Lib.hid (h3.later hx2.out.2)⟩
/-- .. and of one that is left. -/
theorem SwS.askLeft (h : SwS w wr l b L now A q c ys) {j : Nat} {y : En} (hy : (leftE L now)[j]? = some y) : ¬ y.t ≤ now ∧
    Calls Try.prog 25 #[.pointer (some ⟨l, 0, none⟩), .string y.k] wr fun e w2 => e = .returned (.tuple #[.int .i64 y.t, .bool true]) ∧ Hid (SwS w w2 l b L now A q c ys ∧ Below wr.heap.size wr w2) := by
  have hm : y ∈ leftE L now := List.mem_of_getElem? hy
  obtain ⟨h1, h2⟩ := mem_left.1 hm
  have hok := h.cur.1.ok
  refine ⟨h2, (h.cur.until (hok.wf y hm)).mono ?_⟩
  rintro e w2 ⟨rfl, hx⟩
  rw [findE_mem hok.srt hm]
  exact ⟨rfl, Lib.hid ⟨h.later hx.out.2, hx.out.2⟩⟩
theorem SwS.next (h : SwS w wr l b L now A q c ys) {j : Nat} {y z : En} (hy : ys[j]? = some y) (hz : ys[j + 1]? = some z) : y.t ≤ z.t := by
  obtain ⟨h1, e1⟩ := List.getElem?_eq_some_iff.1 hy
  obtain ⟨h2, e2⟩ := List.getElem?_eq_some_iff.1 hz
  have := List.pairwise_iff_getElem.1 h.srt j (j + 1) h1 h2 (by omega)
  rw [e1, e2] at this
  by_cases hlt : y.t ≤ z.t
  · exact hlt
  · exact absurd (.inl (by omega)) this
end
theorem put_len2 (room : Nat) (L : List En) (hR : Rising En.nm L) (x : En) : (putR room L x).length ≤ L.length + 1 := by
  unfold putR
  have := length_put hR x
  split
  · omega
  · rw [this]; split <;> omega

set_option maxHeartbeats 12800000 in
set_option maxRecDepth 100000 in
theorem ledgerSweeps_any {w : World} {A : Option Addr} {n c : Nat} {ops : List OpM} (hops : OpsRd w w.heap.size A n c ops) (now : Int) :
    Calls Try.prog 5 #[.slice A n c, .int .i64 now] w fun e w' => e = .returned (.bool true) ∧ Below w.heap.size w w' := by
  have HAW := Lib.hid fun W => awake_any W
  have hcm := hops.max
  have hcc := hops.cap
  unfold maxLen at hcm
  have HK := Lib.hid hops
  have HN := Lib.hid (LG.new (Below.refl w.heap.size w) (rm := 100) (by omega))
  clear hops
  by_cases h60 : 60 < n
  · have h60' : (60 : Int) < n := by omega
    go_enter Try.func5, Try.ntmps5
    go_wp2_with (go_at_call 8; refine (HAW.out _).mono ?_; rintro e w1 ⟨rfl, hb⟩; have HB := Lib.hid hb; clear hb)
    go_ret
    exact ⟨rfl, HB.out⟩
  · have h60' : ¬ (60 : Int) < n := by omega
    have hn60 : n ≤ 60 := by omega
    clear h60
    go_enter Try.func5, Try.ntmps5
    go_wp2_with (go_at_call 9; refine HN.out.mono ?_; rintro e w1 ⟨l, rfl, HT00⟩; have HT0 : Hid (LG w w1 l 100 []) := Lib.hid HT00.out.1; clear HN HT00)
    go_loopw [31] (fun i wr => ∃ (k : Nat) (L : List En), i = .int .i64 k ∧ k ≤ n ∧ Hid (LG w wr l 100 L ∧ L.length ≤ k ∧ True)) (fun i _ => n - (intOf i).toNat)
    case atStart => exact ⟨0, [], rfl, Nat.zero_le _, Lib.hid ⟨HT0.out, by simp, trivial⟩⟩
    case round =>
      clear HT0
      obtain ⟨k, L, rfl, hkn, HT⟩ := hrel
      by_cases hlt : k < n
      · skip
        obtain ⟨p, b, o, hok, hpl, hA, r0, r1, r2, r3⟩ := HK.out.op HT.out.1.2 hlt
        subst hA
        have hlt' : (k : Int) < n := by omega
        obtain ⟨v0, v1, v2, v3⟩ := box_cells wr p
        have HLOW : Hid (Below w.heap.size w (wr.alloc (opBox p))) := Lib.hid (HT.out.1.2.trans ((below_box wr p).mono HT.out.1.2.size))
        have HTV : Hid (∀ V, V = wr.alloc (opBox p) → Below wr.heap.size wr V) := Lib.hid fun V e => by rw [e]; exact below_box wr p
        have hsz : wr.heap.size < (wr.alloc (opBox p)).heap.size := by simp
        obtain ⟨V, hV⟩ : ∃ V, V = wr.alloc (opBox p) := ⟨_, rfl⟩
        have HBV := Lib.hid (HTV.out V hV)
        have HV := Lib.hid hV
        rw [← hV] at HLOW v0 v1 v2 v3 hsz
        have HSZ := Lib.hid hsz
        have HPL := Lib.hid hpl
        clear hV hpl hsz HTV
        have HLN := Lib.hid HT.out.2.1
        have HC3 : Hid (¬ 20 < p.k.size → _) := Lib.hid fun h20 => HT.out.1.putK HBV.out (by have := HT.out.2.1; omega) (k := p.k) (by unfold maxLen; omega) p.v p.t
        have HPN : Hid ((putR 100 L ⟨p.k, .int .i64 p.v, p.t⟩).length ≤ k + 1) := Lib.hid (by
          have h1 := put_len2 100 L HT.out.1.1.ok.srt ⟨p.k, .int .i64 p.v, p.t⟩
          have h2 := HT.out.2.1
          omega)
        go_upto_region 9 with fail
        rw [← HV.out]
        clear r0 r1 r2 r3
        generalize wr.heap.size = bx at *
        by_cases h20 : 20 < p.k.size
        · have h20' : (20 : Int) < p.k.size := by omega
          go_wp2_with (go_at_call 8; refine (HAW.out _).mono ?_; rintro e w1 ⟨rfl, hb⟩; have HB := Lib.hid (HLOW.out.trans (hb.mono HLOW.out.size)); clear hb)
          go_ret
          exact ⟨rfl, HB.out⟩
        · have h20' : ¬ (20 : Int) < p.k.size := by omega
          have HC4 := Lib.hid (HC3.out h20)
          generalize putR 100 L ⟨p.k, .int .i64 p.v, p.t⟩ = L3 at *
          generalize putA 100 L p.k = e3 at *
          go_wp2_with (go_at_call 11; refine HC4.out.mono ?_; rintro e w4 ⟨rfl, HX4⟩)
          go_roundw
          case rel => exact ⟨k + 1, L3, by go_num, by omega, Lib.hid ⟨HX4.out.1, HPN.out, trivial⟩⟩
          case measure => simp [intOf]; omega
      · obtain rfl : k = n := by omega
        have hlt' : ¬ (k : Int) < (k : Int) := by omega
        have HL60 : Hid (L.length ≤ 60) := Lib.hid (by have := HT.out.2.1; omega)
        have HCS := Lib.hid (copy_sweep HT.out.1 (by have := HT.out.2.1; omega) now)
        have HPL := Lib.hid (past_left L now)
        clear HT
        go_upto_region 18 with (first
          | (go_at_call 18; refine HCS.out.mono ?_; rintro e w2 ⟨b, rfl, HSP⟩; clear HCS)
          | (go_at_call 17; refine HSP.out.mono ?_; rintro e w3 ⟨A5, q, c5, ys, rfl, HS⟩; clear HSP))
        have hq : q ≤ 60 := by
          have h1 := HS.out.row.len
          have h2 := HS.out.perm.length_eq
          have h3 := past_len L now
          have h4 := HL60.out
          omega
        obtain ⟨hqc, hcm5⟩ := HS.out.row.caps
        go_wp2_with fail
        go_loopw [10, 11, 58] (fun la fi i wr => ∃ (j : Nat) (lv : Int) (fv : Bool), la = .int .i64 lv ∧ fi = .bool fv ∧ i = .int .i64 j ∧ j ≤ q ∧ Hid (SwS w wr l b L now A5 q c5 ys ∧ (fv = false → ∀ y, ys[j]? = some y → lv ≤ y.t))) (fun _ _ i _ => q - (intOf i).toNat)
        case atStart => exact ⟨0, 0, true, rfl, rfl, rfl, Nat.zero_le _, Lib.hid ⟨HS.out, fun h => by cases h⟩⟩
        case round =>
          clear HS
          obtain ⟨j, lv, fv, rfl, rfl, rfl, hjq, HS⟩ := hrel
          by_cases hj : j < q
          · obtain ⟨b5, y, hy, hA5, r0⟩ := HS.out.1.row.cell hj
            subst hA5
            have hj' : (j : Int) < q := by omega
            obtain ⟨hyt, hask⟩ := HS.out.1.ask hy
            have HAS := Lib.hid hask
            have HNX : Hid (∀ z, ys[j + 1]? = some z → y.t ≤ z.t) := Lib.hid fun z hz => HS.out.1.next hy hz
            have HLV : Hid (fv = false → lv ≤ y.t) := Lib.hid fun h => HS.out.2 h y hy
            have hyt' : ¬ now < y.t := by omega
            clear hask hy HS
            cases fv with
            | true =>
              clear HLV
              go_wp2_with (first
                | (go_at_call 25; refine HAS.out.mono ?_; rintro e w4 ⟨rfl, HG⟩; clear HAS)
                | (go_at_call 26; refine HG.out.mono ?_; rintro e w5 ⟨rfl, HS5⟩; clear HG))
              go_roundw
              case rel => exact ⟨j + 1, y.t, false, rfl, rfl, by go_num, by omega, Lib.hid ⟨HS5.out, fun _ => HNX.out⟩⟩
              case measure => simp [intOf]; omega
            | false =>
              have hlv : ¬ y.t < lv := by have := HLV.out rfl; omega
              clear HLV
              go_wp2_with (first
                | (go_at_call 25; refine HAS.out.mono ?_; rintro e w4 ⟨rfl, HG⟩; clear HAS)
                | (go_at_call 26; refine HG.out.mono ?_; rintro e w5 ⟨rfl, HS5⟩; clear HG))
              go_roundw
              case rel => exact ⟨j + 1, y.t, false, rfl, rfl, by go_num, by omega, Lib.hid ⟨HS5.out, fun _ => HNX.out⟩⟩
              case measure => simp [intOf]; omega
          · have hj' : ¬ (j : Int) < q := by omega
            have HS2 := Lib.hid HS.out.1
            have HKY : Hid (Calls Try.prog 27 #[.pointer (some ⟨l, 0, none⟩)] wr fun e w2 => ∃ A6 q6 c6, e = .returned (.slice A6 q6 c6) ∧ Hid (RowK w2 A6 q6 c6 (leftE L now) ∧ SwS w w2 l b L now A5 q c5 ys)) := Lib.hid (by
              have := left_len L now
              have := HL60.out
              refine (Keys_any HS2.out.cur.1 (by omega)).mono ?_
              rintro e w2 ⟨A6, c6, rfl, ho, hb⟩
              exact ⟨A6, _, c6, rfl, Lib.hid ⟨own_base ho (Nat.zero_le _), HS2.out.later hb⟩⟩)
            clear HS
            go_upto_region 28 with (go_at_call 27; refine HKY.out.mono ?_; rintro e w4 ⟨A6, q6, c6, rfl, HX⟩; clear HKY)
            have hq6 : q6 ≤ 60 := by
              have h1 := HX.out.1.len
              have h3 := left_len L now
              have h4 := HL60.out
              omega
            obtain ⟨hqc6, hcm6⟩ := HX.out.1.caps
            clear HS2
            go_loopw [98] (fun i wr => ∃ (j : Nat), i = .int .i64 j ∧ j ≤ q6 ∧ Hid (RowK wr A6 q6 c6 (leftE L now) ∧ SwS w wr l b L now A5 q c5 ys)) (fun i _ => q6 - (intOf i).toNat)
            case atStart => exact ⟨0, rfl, Nat.zero_le _, HX⟩
            case round =>
              clear HX
              obtain ⟨j6, rfl, hjq6, HX⟩ := hrel
              by_cases hj6 : j6 < q6
              · obtain ⟨b6, y, hy, hA6, r0⟩ := HX.out.1.cell hj6
                subst hA6
                have hj6' : (j6 : Int) < q6 := by omega
                obtain ⟨hyt, hask⟩ := HX.out.2.askLeft hy
                have HAS := Lib.hid hask
                have HR6 := Lib.hid HX.out.1
                clear hask hy HX
                go_wp2_with (go_at_call 25; refine HAS.out.mono ?_; rintro e w5 ⟨rfl, HS5⟩; clear HAS)
                go_roundw
                case rel => exact ⟨j6 + 1, by go_num, by omega, Lib.hid ⟨HR6.out.below HS5.out.2, HS5.out.1⟩⟩
                case measure => simp [intOf]; omega
              · have hj6' : ¬ (j6 : Int) < q6 := by omega
                have HS := Lib.hid HX.out.2
                obtain ⟨nl, hnl⟩ : ∃ x, x = (leftE L now).length := ⟨_, rfl⟩
                obtain ⟨nL, hnL⟩ : ∃ x, x = L.length := ⟨_, rfl⟩
                have hsum : q + nl = nL := by
                  have h1 := HS.out.row.len
                  have h2 := HS.out.perm.length_eq
                  have h3 := HPL.out
                  omega
                have hnL60 : nL ≤ 60 := by rw [hnL]; exact HL60.out
                have C1 : Hid (Calls Try.prog 28 #[.pointer (some ⟨l, 0, none⟩)] wr fun e w' => e = .returned (.int .i64 nl) ∧ wr = w') := Lib.hid (by rw [hnl]; exact HS.out.cur.len)
                have C2 : Hid (Calls Try.prog 28 #[.pointer (some ⟨b, 0, none⟩)] wr fun e w' => e = .returned (.int .i64 nL) ∧ wr = w') := Lib.hid (by rw [hnL]; exact HS.out.was.len)
                have C3 : Hid (Calls Try.prog 17 #[.pointer (some ⟨l, 0, none⟩), .int .i64 now] wr fun e w' => ∃ A7 c7, e = .returned (.slice A7 0 c7) ∧ Hid (Below w.heap.size w w')) := Lib.hid (by
                  refine (HS.out.cur.sweep (now := now) (by omega) (.inl (past_of_left L now))).mono ?_
                  rintro e w' ⟨A7, c7, zs, rfl, hx⟩
                  have hz := hx.out.1
                  rw [past_of_left] at hz
                  obtain rfl := hz.eq_nil
                  exact ⟨A7, c7, rfl, Lib.hid hx.out.2.2.2.2⟩)
                have hsumz : (q : Int) + (nl : Int) = (nL : Int) := by omega
                clear hnl hnL hsum HX HS
                go_wp2_with (first
                  | (go_at_call 28; go_fit C1.out; rintro e w5 ⟨rfl, rfl⟩; clear C1)
                  | (go_at_call 28; go_fit C2.out; rintro e w5 ⟨rfl, rfl⟩; clear C2)
                  | (go_at_call 17; refine C3.out.mono ?_; rintro e w6 ⟨A7, c7, rfl, HB6⟩; clear C3)
                  | (go_at_call 8; refine (HAW.out _).mono ?_; rintro e w7 ⟨rfl, hb⟩; have HB := Lib.hid (HB6.out.trans (hb.mono HB6.out.size)); clear hb))
                go_ret
                exact ⟨rfl, HB.out⟩
end Go.Proofs.Ytcdjahmnobjpkaa
