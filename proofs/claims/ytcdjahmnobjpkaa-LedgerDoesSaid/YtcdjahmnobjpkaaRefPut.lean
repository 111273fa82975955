/- What is proved here: what the document's Put answers. Written by mkref.py. -/
import Derived.Test.YtcdjahmnobjpkaaRef
import Derived.Test.YtcdjahmnobjpkaaCmp
namespace Go.Proofs.Ytcdjahmnobjpkaa
open Go Go.RowKit Go.Maps Go.WideMaps

def ltK (k : ByteArray) (x : En) : Bool := Op.bytesLess x.k.toList k.toList
def gtK (k : ByteArray) (x : En) : Bool := !(Op.bytesLess x.k.toList k.toList || (x.k.toList == k.toList))
theorem ltK_eq (k : ByteArray) (x : En) : ltK k x = bytesBefore x.nm k.data.toList := by
  unfold ltK
  rw [less_before, toL, toL]
  rfl
theorem gtK_eq {k : ByteArray} {x : En} (h : x.k ≠ k) : gtK k x = bytesBefore k.data.toList x.nm := by
  unfold gtK
  rw [str_eq, show decide (x.k = k) = false by simpa using h, Bool.or_false]
  show (!ltK k x) = _
  rw [ltK_eq]
  cases hb : bytesBefore x.nm k.data.toList with
  | true =>
    cases hc : bytesBefore k.data.toList x.nm with
    | false => rfl
    | true => 
      have := WideShapes.bytes_trans _ _ _ hb hc
      rw [WideAt.bytes_irrefl] at this
      cases this
  | false =>
    rcases WideAt.bytes_total x.nm k.data.toList (fun e => h (nm_eq.1 e)) with h1 | h1
    · rw [hb] at h1; cases h1
    · rw [h1]; rfl
theorem put_parts {L : List En} (hR : Rising En.nm L) (x : En) : (dropE L x.k).filter (ltK x.k) ++ [x] ++ (dropE L x.k).filter (gtK x.k) = putE L x := by
  have hD := rise_drop hR x.k
  have hne : ∀ y ∈ dropE L x.k, y.k ≠ x.k := fun y hy => (mem_drop.1 hy).2
  refine Rising.ext ?_ (rise_put hR x) fun y => ?_
  · refine List.pairwise_append.2 ⟨List.pairwise_append.2 ⟨hD.filter _, by simp, fun a ha b hb => ?_⟩, hD.filter _, fun a ha b hb => ?_⟩
    · obtain ⟨h1, h2⟩ := List.mem_filter.1 ha
      simp at hb
      subst hb
      rw [ltK_eq] at h2
      exact h2
    · obtain ⟨h3, h4⟩ := List.mem_filter.1 hb
      rw [gtK_eq (hne b h3)] at h4
      rcases List.mem_append.1 ha with ha | ha
      · obtain ⟨h1, h2⟩ := List.mem_filter.1 ha
        rw [ltK_eq] at h2
        exact WideShapes.bytes_trans _ _ _ h2 h4
      · simp at ha
        subst ha
        exact h4
  · rw [mem_put, List.mem_append, List.mem_append, List.mem_filter, List.mem_filter, List.mem_singleton]
    constructor
    · rintro ((⟨h1, _⟩ | h) | ⟨h1, _⟩)
      · exact .inr (mem_drop.1 h1)
      · exact .inl h
      · exact .inr (mem_drop.1 h1)
    · rintro (h | ⟨h1, h2⟩)
      · exact .inl (.inr h)
      · have hy : y ∈ dropE L x.k := mem_drop.2 ⟨h1, h2⟩
        rcases WideAt.bytes_total y.nm x.nm (fun e => h2 (nm_eq.1 e)) with h3 | h3
        · exact .inl (.inl ⟨hy, by rw [ltK_eq]; exact h3⟩)
        · exact .inr ⟨hy, by rw [gtK_eq h2]; exact h3⟩
theorem filter_more {L : List En} {j : Nat} {x : En} (p : En → Bool) (hx : L[j]? = some x) : (L.take (j + 1)).filter p = if p x then (L.take j).filter p ++ [x] else (L.take j).filter p := by
  rw [take_more hx, List.filter_append]
  cases h : p x <;> simp [h]

/-- What Put answers. -/
def PutSaid (o : Option Nat) (base : Nat) (a : Int) (L : List En) (w : World) (e : Ending) (w' : World) : Prop :=
  ∃ A n c, e = .returned (.tuple #[.slice A n c, .int .i64 a]) ∧ Hid (RRow w' base A n c L ∧ Below w.heap.size w w' ∧ ∀ g, (Value.slice A n c).ownBlock = some g → o = some g ∨ w.heap.size ≤ g)
set_option maxHeartbeats 6400000 in
set_option maxRecDepth 100000 in
theorem refPut_any {w : World} {base n c : Nat} {A : Option Addr} {L : List En} (h : RRow w base A n c L) (hb : base ≤ w.heap.size) (hn : n < 800000) (hR : Rising En.nm L) {room : Int} (hr : -9223372036854775808 ≤ room ∧ room ≤ 9223372036854775807) (x : En) (v : Int) (hv : x.v = .int .i64 v) :
    Calls Try.prog 10 #[.slice A n c, .int .i64 room, .agg #[.string x.k, .int .i64 v, .int .i64 x.t]] w (PutSaid (Value.slice A n c).ownBlock base (putA room.toNat L x.k) (putR room.toNat L x) w) := by
  obtain ⟨W, hW⟩ : ∃ W, W = w.alloc (.cells #[.string x.k, .int .i64 v, .int .i64 x.t] 33) := ⟨_, rfl⟩
  have hbW : Below w.heap.size w W := by rw [hW]; exact (Below.refl _ _).alloc (Nat.le_refl _) _
  have v0 : W.cell? ⟨w.heap.size, 0, none⟩ = some (.string x.k) := by rw [hW]; simp
  have v1 : W.cell? ⟨w.heap.size, 1, none⟩ = some (.int .i64 v) := by rw [hW]; simp
  have v2 : W.cell? ⟨w.heap.size, 2, none⟩ = some (.int .i64 x.t) := by rw [hW]; simp
  have hsz : w.heap.size < W.heap.size := by rw [hW]; simp
  have hRW := h.below hbW
  have HAT := Lib.hid (refAt_any hRW (by omega) x.k)
  have HDR := Lib.hid (refDrop_any hRW (by omega) x.k)
  have hl := h.len
  obtain ⟨hnc, hcm⟩ := h.caps
  have hfull : full room.toNat L x.k = ((findE L x.k).isNone && decide (room ≤ (n : Int))) := by
    unfold full
    rw [hl, Bool.eq_iff_iff]
    simp
  have HKP : Hid (∀ V, Below W.heap.size W V → V.cell? ⟨w.heap.size, 0, none⟩ = some (.string x.k) ∧ V.cell? ⟨w.heap.size, 1, none⟩ = some (.int .i64 v) ∧ V.cell? ⟨w.heap.size, 2, none⟩ = some (.int .i64 x.t)) := Lib.hid fun V hV => ⟨(hV.cell (p := ⟨w.heap.size, 0, none⟩) hsz).trans v0, (hV.cell (p := ⟨w.heap.size, 1, none⟩) hsz).trans v1, (hV.cell (p := ⟨w.heap.size, 2, none⟩) hsz).trans v2⟩
  have HW := Lib.hid hW
  have HBW := Lib.hid hbW
  have HB := Lib.hid hb
  cases hfk : full room.toNat L x.k with
  | true =>
    have HE : Hid (PutSaid (Value.slice A n c).ownBlock base (putA room.toNat L x.k) (putR room.toNat L x) w (.returned (.tuple #[.slice A n c, .int .i64 5])) W) := Lib.hid (by
      unfold putA putR
      rw [hfk]
      exact ⟨A, n, c, rfl, Lib.hid ⟨hRW, hbW, fun g hg => .inl hg⟩⟩)
    rw [hfull, Bool.and_eq_true] at hfk
    obtain ⟨h1, h2⟩ := hfk
    have hge : room ≤ (n : Int) := by simpa using h2
    have HA2 : Hid (∀ e, AtSaid L x.k e → e = .returned (.int .i64 (-1))) := Lib.hid fun e he => by
      rcases he with ⟨h3, _⟩ | ⟨j, y, _, _, h3⟩
      · exact h3
      · rw [h3] at h1; cases h1
    clear h h1 h2 hfull hW hRW hl hR hbW hb hsz HDR
    go_enter Try.func10, Try.ntmps10
    go_upto_region 1 with fail
    rw [← HW.out]
    go_wp2_with (go_at_call 12; refine HAT.out.mono ?_; rintro e w1 ⟨he, rfl⟩; obtain rfl := HA2.out e he; clear he)
    go_ret2
    exact HE.out
  | false =>
    have hpa : putA room.toNat L x.k = 0 := by unfold putA; rw [hfk]; rfl
    have hpr : putR room.toNat L x = putE L x := by unfold putR; rw [hfk]; rfl
    rw [hpa, hpr, ← put_parts hR x]
    have HDL : Hid ((dropE L x.k).length ≤ n) := Lib.hid (by rw [← hl]; exact length_delN _ _)
    have HA2 : Hid ((∀ e, AtSaid L x.k e → ∃ j : Nat, e = .returned (.int .i64 j)) ∨ ((∀ e, AtSaid L x.k e → e = .returned (.int .i64 (-1))) ∧ (n : Int) < room)) := Lib.hid (by
      cases hq : findE L x.k with
      | some y =>
        refine .inl fun e he => ?_
        rcases he with ⟨_, h4⟩ | ⟨j, _, h3, _, _⟩
        · rw [hq] at h4; cases h4
        · exact ⟨j, h3⟩
      | none =>
        refine .inr ⟨fun e he => ?_, ?_⟩
        · rcases he with ⟨h3, _⟩ | ⟨j, y, _, _, h4⟩
          · exact h3
          · rw [hq] at h4; cases h4
        · rw [hfull, hq] at hfk
          simpa using hfk)
    show Calls _ _ _ _ (PutSaid _ _ _ ((dropE L x.k).filter (ltK x.k) ++ [x] ++ (dropE L x.k).filter (gtK x.k)) w)
    obtain ⟨i0, hi, hz0, hz1, hz2⟩ := info_parts info_entry
    have hsz0 := hsz
    have hl0 := hl
    generalize dropE L x.k = D at *
    clear h hfull hfk hW hRW hl hR hbW hb hsz hpa hpr
    have HSZ := Lib.hid hsz0
    clear hsz0
    have hvx := hv
    have HVX := Lib.hid hvx
    have HL0 := Lib.hid hl0
    clear hv hvx hl0
    rcases HA2.out with ha | ⟨ha, hlt⟩
    · clear HA2
      have HA3 := Lib.hid ha
      clear ha
      go_enter Try.func10, Try.ntmps10
      go_upto_region 1 with fail
      rw [← HW.out]
      generalize hbx : w.heap.size = bx
      rw [hbx] at v0 v1 v2 HKP
      clear hbx
      go_wp2_with (first
        | (go_at_call 12; refine HAT.out.mono ?_; rintro e w1 ⟨he, rfl⟩; obtain ⟨j0, rfl⟩ := HA3.out e he; clear he)
        | (go_at_call 14; refine HDR.out.mono ?_; rintro e wd ⟨A1, n1, c1, rfl, HM1⟩; clear HDR HAT v0 v1 v2))
      have hn1 : n1 ≤ n := by
        have h1 := HM1.out.1.len
        have h2 := HDL.out
        omega
      obtain ⟨hnc1, hcm1⟩ := HM1.out.1.caps
      clear hnc hcm
      go_loopw [8, 9] (fun u i wr => ∃ (j n2 : Nat) (A2 : Option Addr) (c2 : Nat), i = .int .i64 j ∧ u = .slice A2 n2 c2 ∧ j ≤ n1 ∧ n2 ≤ j ∧ Hid (Making wd ((D.take j).filter (ltK x.k)) A2 n2 c2 wr)) (fun _ i _ => n1 - (intOf i).toNat)
      case atStart => exact ⟨0, 0, none, 0, rfl, rfl, Nat.zero_le _, Nat.le_refl _, Lib.hid (Making.start wd)⟩
      case round =>
        obtain ⟨j, n2, A2, c2, rfl, rfl, hj, hn2j, HM⟩ := hrel
        obtain ⟨k0, k1, k2⟩ := HKP.out wr (HM1.out.2.trans (HM.out.2.mono HM1.out.2.size))
        by_cases hjn : j < n1
        · obtain ⟨y, hy⟩ : ∃ y, D[j]? = some y := ⟨_, List.getElem?_eq_getElem (by rw [HM1.out.1.len]; exact hjn)⟩
          obtain ⟨b, yv, hA, hyv, r0, r1, r2⟩ := (HM1.out.1.below HM.out.2).cell hy
          subst hA
          have HYV := Lib.hid hyv
          have hjn' : (j : Int) < n1 := by omega
          have HF := Lib.hid (filter_more (ltK x.k) hy)
          cases hl : ltK x.k y with
          | true =>
            have hb1 : Op.bytesLess y.k.toList x.k.toList = true := hl
            rw [hl, if_pos rfl] at HF
            clear hl hy hyv
            go_wp2_with fail
            go_quiet (fail)
            have HM4 := Lib.hid (HM.out.later (w' := wr.drewN nq) ⟨rfl, rfl, rfl, Nat.le_refl _, fun _ _ => rfl⟩)
            have s0 : (wr.drewN nq).cell? ⟨b, j * 3, none⟩ = some (.string y.k) := r0
            have s1 : (wr.drewN nq).cell? ⟨b, j * 3 + 1, none⟩ = some (.int .i64 yv) := r1
            have s2 : (wr.drewN nq).cell? ⟨b, j * 3 + 2, none⟩ = some (.int .i64 y.t) := r2
            clear r0 r1 r2 k0 k1 k2 HM
            generalize wr.drewN nq = W3 at *
            generalize (D.take j).filter (ltK x.k) = O at *
            go_wp2_with (at_builtin; refine wpList_append_src (o := ⟨some 51, _, _, _, _, _⟩) rfl (.tmp 45) (.tmp 50) 26 rfl wd.heap.size 33 i0 _ 3 32 Try.underlying26 hi hz0 hz1 hz2 rfl (by omega) _ n2 (flatE O) rfl (HM4.out.1.1.alloc _) (some ⟨W3.heap.size, 0, none⟩) 1 1 [.string y.k, .int .i64 yv, .int .i64 y.t] rfl rfl (fun e => by cases e) (news_entry W3 y yv _) (one_entry y yv) (by unfold maxLen; omega) (by omega) (by have := HM4.out.2.size; simp; omega) ?_; intro v2 w2 ho2 hg2; obtain ⟨A3, c3, rfl, HM3⟩ := HM4.out.app HYV.out ho2 hg2; clear ho2 hg2)
            go_roundw
            case rel => exact ⟨j + 1, n2 + 1, A3, c3, by go_num, rfl, by omega, by omega, Lib.hid (by rw [HF.out]; exact HM3.out)⟩
            case measure => simp [intOf]; omega
          | false =>
            have hb1 : Op.bytesLess y.k.toList x.k.toList = false := hl
            rw [hl, if_neg (by decide)] at HF
            clear hl hy hyv
            go_wp2_with fail
            go_quiet (fail)
            have HM4 := Lib.hid (HM.out.later (w' := wr.drewN nq) ⟨rfl, rfl, rfl, Nat.le_refl _, fun _ _ => rfl⟩)
            clear r0 r1 r2 k0 k1 k2 HM
            generalize wr.drewN nq = W3 at *
            go_wp2
            go_roundw
            case rel => exact ⟨j + 1, n2, A2, c2, by go_num, rfl, by omega, by omega, Lib.hid (by rw [HF.out]; exact HM4.out)⟩
            case measure => simp [intOf]; omega
        · obtain rfl : j = n1 := by omega
          have hd0 : decide ((j : Int) < (j : Int)) = false := decide_eq_false (by omega)
          have HTK : Hid (D.take j = D) := Lib.hid (List.take_of_length_le (by rw [HM1.out.1.len]; exact Nat.le_refl _))
          rw [HTK.out] at HM
          generalize hO : D.filter (ltK x.k) = O at *
          have HO := Lib.hid hO
          clear hO
          go_wp2_with (at_builtin; refine wpList_append_src (o := ⟨some 55, _, _, _, _, _⟩) rfl (.tmp 52) (.tmp 54) 26 rfl wd.heap.size 33 i0 _ 3 32 Try.underlying26 hi hz0 hz1 hz2 rfl (by omega) _ n2 (flatE O) rfl (HM.out.1.1.alloc _) (some ⟨wr.heap.size, 0, none⟩) 1 1 [.string x.k, .int .i64 v, .int .i64 x.t] rfl rfl (fun e => by cases e) (news_entry wr x v _) (one_entry x v) (by unfold maxLen; omega) (by omega) (by have := HM.out.2.size; simp; omega) ?_; intro v2 w2 ho2 hg2; obtain ⟨A3, c3, rfl, HM3⟩ := HM.out.app HVX.out ho2 hg2; clear ho2 hg2)
          have hq : n2 + 1 ≤ j + 1 := by omega
          generalize n2 + 1 = q at *
          clear k0 k1 k2 HM hn2j
          go_loopw [8, 10] (fun u i wr => ∃ (j6 n2 : Nat) (A2 : Option Addr) (c2 : Nat), i = .int .i64 j6 ∧ u = .slice A2 n2 c2 ∧ j6 ≤ j ∧ n2 ≤ q + j6 ∧ Hid (Making wd (O ++ [x] ++ (D.take j6).filter (gtK x.k)) A2 n2 c2 wr)) (fun _ i _ => j - (intOf i).toNat)
          case atStart => exact ⟨0, q, A3, c3, rfl, rfl, Nat.zero_le _, Nat.le_refl _, Lib.hid (by rw [List.take_zero, List.filter_nil, List.append_nil]; exact HM3.out)⟩
          case round =>
            clear HM3
            obtain ⟨j6, n3, A4, c4, rfl, rfl, hj6, hn3j, HM⟩ := hrel
            obtain ⟨k0, k1, k2⟩ := HKP.out wr (HM1.out.2.trans (HM.out.2.mono HM1.out.2.size))
            by_cases hjn6 : j6 < j
            · obtain ⟨y, hy⟩ : ∃ y, D[j6]? = some y := ⟨_, List.getElem?_eq_getElem (by rw [HM1.out.1.len]; exact hjn6)⟩
              obtain ⟨b, yv, hA, hyv, r0, r1, r2⟩ := (HM1.out.1.below HM.out.2).cell hy
              subst hA
              have HYV := Lib.hid hyv
              have hjn' : (j6 : Int) < j := by omega
              have HF := Lib.hid (filter_more (gtK x.k) hy)
              cases hl : gtK x.k y with
              | true =>
                have hb1 : (!(Op.bytesLess y.k.toList x.k.toList || (y.k.toList == x.k.toList))) = true := hl
                have hb2 : (Op.bytesLess y.k.toList x.k.toList || (y.k.toList == x.k.toList)) = false := by simpa using hb1
                obtain ⟨hb3, hb4⟩ := Bool.or_eq_false_iff.1 hb2
                rw [hl, if_pos rfl] at HF
                clear hl hy hyv hb1 hb2
                go_wp2_with fail
                go_quiet (fail)
                have HM4 := Lib.hid (HM.out.later (w' := wr.drewN nq) ⟨rfl, rfl, rfl, Nat.le_refl _, fun _ _ => rfl⟩)
                have s0 : (wr.drewN nq).cell? ⟨b, j6 * 3, none⟩ = some (.string y.k) := r0
                have s1 : (wr.drewN nq).cell? ⟨b, j6 * 3 + 1, none⟩ = some (.int .i64 yv) := r1
                have s2 : (wr.drewN nq).cell? ⟨b, j6 * 3 + 2, none⟩ = some (.int .i64 y.t) := r2
                clear r0 r1 r2 k0 k1 k2 HM
                generalize wr.drewN nq = W3 at *
                generalize hO2 : O ++ [x] ++ (D.take j6).filter (gtK x.k) = O2 at *
                have HO2 := Lib.hid hO2
                clear hO2
                go_wp2_with (at_builtin; refine wpList_append_src (o := ⟨some 76, _, _, _, _, _⟩) rfl (.tmp 70) (.tmp 75) 26 rfl wd.heap.size 33 i0 _ 3 32 Try.underlying26 hi hz0 hz1 hz2 rfl (by omega) _ n3 (flatE O2) rfl (HM4.out.1.1.alloc _) (some ⟨W3.heap.size, 0, none⟩) 1 1 [.string y.k, .int .i64 yv, .int .i64 y.t] rfl rfl (fun e => by cases e) (news_entry W3 y yv _) (one_entry y yv) (by unfold maxLen; omega) (by omega) (by have := HM4.out.2.size; simp; omega) ?_; intro v2 w2 ho2 hg2; obtain ⟨A3, c3, rfl, HM3⟩ := HM4.out.app HYV.out ho2 hg2; clear ho2 hg2)
                go_roundw
                case rel => exact ⟨j6 + 1, n3 + 1, A3, c3, by go_num, rfl, by omega, by omega, Lib.hid (by rw [HF.out, ← List.append_assoc, HO2.out]; exact HM3.out)⟩
                case measure => simp [intOf]; omega
              | false =>
                have hb1 : (!(Op.bytesLess y.k.toList x.k.toList || (y.k.toList == x.k.toList))) = false := hl
                have hb2 : (Op.bytesLess y.k.toList x.k.toList || (y.k.toList == x.k.toList)) = true := by
                  cases hq : (Op.bytesLess y.k.toList x.k.toList || (y.k.toList == x.k.toList)) with
                  | true => rfl
                  | false => rw [hq] at hb1; exact absurd hb1 (by decide)
                rw [hl, if_neg (by decide)] at HF
                have hj6i : (j6 : Int) < j := hjn'
                clear hl hy hyv
                go_wp2_with fail
                go_quiet (fail)
                have HM4 := Lib.hid (HM.out.later (w' := wr.drewN nq) ⟨rfl, rfl, rfl, Nat.le_refl _, fun _ _ => rfl⟩)
                clear r0 r1 r2 k0 k1 k2 HM
                generalize wr.drewN nq = W3 at *
                go_wp2
                go_roundw
                case rel => exact ⟨j6 + 1, n3, A4, c4, by go_num, rfl, by omega, by omega, Lib.hid (by rw [HF.out]; exact HM4.out)⟩
                case measure => simp [intOf]; omega
            · obtain rfl : j6 = j := by omega
              have hd1 : decide ((j6 : Int) < (j6 : Int)) = false := decide_eq_false (by omega)
              have HE : Hid (PutSaid (Value.slice A n c).ownBlock base 0 (O ++ [x] ++ D.filter (gtK x.k)) w (.returned (.tuple #[.slice A4 n3 c4, .int .i64 0])) wr) := Lib.hid (by
                have h1 := HM.out
                rw [HTK.out] at h1
                have h2 := HM1.out.2
                have h3 := HBW.out
                refine ⟨A4, n3, c4, rfl, Lib.hid ⟨h1.1.rebase (Nat.le_trans HB.out (Nat.le_trans h3.size h2.size)), h3.trans ((h2.trans (h1.2.mono h2.size)).mono h3.size), fun g hg => .inr ?_⟩⟩
                have := (h1.1.lt g hg).1
                have := h2.size
                have := h3.size
                omega)
              clear k0 k1 k2
              go_wp2
              go_ret2
              exact HE.out
    · clear HA2
      have HA3 := Lib.hid ha
      clear ha
      have hlt2 : ¬ room ≤ (n : Int) := by omega
      have hr1 : ¬ room < 1 := by omega
      go_enter Try.func10, Try.ntmps10
      go_upto_region 1 with fail
      rw [← HW.out]
      generalize hbx : w.heap.size = bx
      rw [hbx] at v0 v1 v2 HKP
      clear hbx
      go_wp2_with (first
        | (go_at_call 12; refine HAT.out.mono ?_; rintro e w1 ⟨he, rfl⟩; obtain rfl := HA3.out e he; clear he)
        | (go_at_call 14; refine HDR.out.mono ?_; rintro e wd ⟨A1, n1, c1, rfl, HM1⟩; clear HDR HAT v0 v1 v2))
      have hn1 : n1 ≤ n := by
        have h1 := HM1.out.1.len
        have h2 := HDL.out
        omega
      obtain ⟨hnc1, hcm1⟩ := HM1.out.1.caps
      clear hnc hcm
      go_loopw [8, 9] (fun u i wr => ∃ (j n2 : Nat) (A2 : Option Addr) (c2 : Nat), i = .int .i64 j ∧ u = .slice A2 n2 c2 ∧ j ≤ n1 ∧ n2 ≤ j ∧ Hid (Making wd ((D.take j).filter (ltK x.k)) A2 n2 c2 wr)) (fun _ i _ => n1 - (intOf i).toNat)
      case atStart => exact ⟨0, 0, none, 0, rfl, rfl, Nat.zero_le _, Nat.le_refl _, Lib.hid (Making.start wd)⟩
      case round =>
        obtain ⟨j, n2, A2, c2, rfl, rfl, hj, hn2j, HM⟩ := hrel
        obtain ⟨k0, k1, k2⟩ := HKP.out wr (HM1.out.2.trans (HM.out.2.mono HM1.out.2.size))
        by_cases hjn : j < n1
        · obtain ⟨y, hy⟩ : ∃ y, D[j]? = some y := ⟨_, List.getElem?_eq_getElem (by rw [HM1.out.1.len]; exact hjn)⟩
          obtain ⟨b, yv, hA, hyv, r0, r1, r2⟩ := (HM1.out.1.below HM.out.2).cell hy
          subst hA
          have HYV := Lib.hid hyv
          have hjn' : (j : Int) < n1 := by omega
          have HF := Lib.hid (filter_more (ltK x.k) hy)
          cases hl : ltK x.k y with
          | true =>
            have hb1 : Op.bytesLess y.k.toList x.k.toList = true := hl
            rw [hl, if_pos rfl] at HF
            clear hl hy hyv
            go_wp2_with fail
            go_quiet (fail)
            have HM4 := Lib.hid (HM.out.later (w' := wr.drewN nq) ⟨rfl, rfl, rfl, Nat.le_refl _, fun _ _ => rfl⟩)
            have s0 : (wr.drewN nq).cell? ⟨b, j * 3, none⟩ = some (.string y.k) := r0
            have s1 : (wr.drewN nq).cell? ⟨b, j * 3 + 1, none⟩ = some (.int .i64 yv) := r1
            have s2 : (wr.drewN nq).cell? ⟨b, j * 3 + 2, none⟩ = some (.int .i64 y.t) := r2
            clear r0 r1 r2 k0 k1 k2 HM
            generalize wr.drewN nq = W3 at *
            generalize (D.take j).filter (ltK x.k) = O at *
            go_wp2_with (at_builtin; refine wpList_append_src (o := ⟨some 51, _, _, _, _, _⟩) rfl (.tmp 45) (.tmp 50) 26 rfl wd.heap.size 33 i0 _ 3 32 Try.underlying26 hi hz0 hz1 hz2 rfl (by omega) _ n2 (flatE O) rfl (HM4.out.1.1.alloc _) (some ⟨W3.heap.size, 0, none⟩) 1 1 [.string y.k, .int .i64 yv, .int .i64 y.t] rfl rfl (fun e => by cases e) (news_entry W3 y yv _) (one_entry y yv) (by unfold maxLen; omega) (by omega) (by have := HM4.out.2.size; simp; omega) ?_; intro v2 w2 ho2 hg2; obtain ⟨A3, c3, rfl, HM3⟩ := HM4.out.app HYV.out ho2 hg2; clear ho2 hg2)
            go_roundw
            case rel => exact ⟨j + 1, n2 + 1, A3, c3, by go_num, rfl, by omega, by omega, Lib.hid (by rw [HF.out]; exact HM3.out)⟩
            case measure => simp [intOf]; omega
          | false =>
            have hb1 : Op.bytesLess y.k.toList x.k.toList = false := hl
            rw [hl, if_neg (by decide)] at HF
            clear hl hy hyv
            go_wp2_with fail
            go_quiet (fail)
            have HM4 := Lib.hid (HM.out.later (w' := wr.drewN nq) ⟨rfl, rfl, rfl, Nat.le_refl _, fun _ _ => rfl⟩)
            clear r0 r1 r2 k0 k1 k2 HM
            generalize wr.drewN nq = W3 at *
            go_wp2
            go_roundw
            case rel => exact ⟨j + 1, n2, A2, c2, by go_num, rfl, by omega, by omega, Lib.hid (by rw [HF.out]; exact HM4.out)⟩
            case measure => simp [intOf]; omega
        · obtain rfl : j = n1 := by omega
          have hd0 : decide ((j : Int) < (j : Int)) = false := decide_eq_false (by omega)
          have HTK : Hid (D.take j = D) := Lib.hid (List.take_of_length_le (by rw [HM1.out.1.len]; exact Nat.le_refl _))
          rw [HTK.out] at HM
          generalize hO : D.filter (ltK x.k) = O at *
          have HO := Lib.hid hO
          clear hO
          go_wp2_with (at_builtin; refine wpList_append_src (o := ⟨some 55, _, _, _, _, _⟩) rfl (.tmp 52) (.tmp 54) 26 rfl wd.heap.size 33 i0 _ 3 32 Try.underlying26 hi hz0 hz1 hz2 rfl (by omega) _ n2 (flatE O) rfl (HM.out.1.1.alloc _) (some ⟨wr.heap.size, 0, none⟩) 1 1 [.string x.k, .int .i64 v, .int .i64 x.t] rfl rfl (fun e => by cases e) (news_entry wr x v _) (one_entry x v) (by unfold maxLen; omega) (by omega) (by have := HM.out.2.size; simp; omega) ?_; intro v2 w2 ho2 hg2; obtain ⟨A3, c3, rfl, HM3⟩ := HM.out.app HVX.out ho2 hg2; clear ho2 hg2)
          have hq : n2 + 1 ≤ j + 1 := by omega
          generalize n2 + 1 = q at *
          clear k0 k1 k2 HM hn2j
          go_loopw [8, 10] (fun u i wr => ∃ (j6 n2 : Nat) (A2 : Option Addr) (c2 : Nat), i = .int .i64 j6 ∧ u = .slice A2 n2 c2 ∧ j6 ≤ j ∧ n2 ≤ q + j6 ∧ Hid (Making wd (O ++ [x] ++ (D.take j6).filter (gtK x.k)) A2 n2 c2 wr)) (fun _ i _ => j - (intOf i).toNat)
          case atStart => exact ⟨0, q, A3, c3, rfl, rfl, Nat.zero_le _, Nat.le_refl _, Lib.hid (by rw [List.take_zero, List.filter_nil, List.append_nil]; exact HM3.out)⟩
          case round =>
            clear HM3
            obtain ⟨j6, n3, A4, c4, rfl, rfl, hj6, hn3j, HM⟩ := hrel
            obtain ⟨k0, k1, k2⟩ := HKP.out wr (HM1.out.2.trans (HM.out.2.mono HM1.out.2.size))
            by_cases hjn6 : j6 < j
            · obtain ⟨y, hy⟩ : ∃ y, D[j6]? = some y := ⟨_, List.getElem?_eq_getElem (by rw [HM1.out.1.len]; exact hjn6)⟩
              obtain ⟨b, yv, hA, hyv, r0, r1, r2⟩ := (HM1.out.1.below HM.out.2).cell hy
              subst hA
              have HYV := Lib.hid hyv
              have hjn' : (j6 : Int) < j := by omega
              have HF := Lib.hid (filter_more (gtK x.k) hy)
              cases hl : gtK x.k y with
              | true =>
                have hb1 : (!(Op.bytesLess y.k.toList x.k.toList || (y.k.toList == x.k.toList))) = true := hl
                have hb2 : (Op.bytesLess y.k.toList x.k.toList || (y.k.toList == x.k.toList)) = false := by simpa using hb1
                obtain ⟨hb3, hb4⟩ := Bool.or_eq_false_iff.1 hb2
                rw [hl, if_pos rfl] at HF
                clear hl hy hyv hb1 hb2
                go_wp2_with fail
                go_quiet (fail)
                have HM4 := Lib.hid (HM.out.later (w' := wr.drewN nq) ⟨rfl, rfl, rfl, Nat.le_refl _, fun _ _ => rfl⟩)
                have s0 : (wr.drewN nq).cell? ⟨b, j6 * 3, none⟩ = some (.string y.k) := r0
                have s1 : (wr.drewN nq).cell? ⟨b, j6 * 3 + 1, none⟩ = some (.int .i64 yv) := r1
                have s2 : (wr.drewN nq).cell? ⟨b, j6 * 3 + 2, none⟩ = some (.int .i64 y.t) := r2
                clear r0 r1 r2 k0 k1 k2 HM
                generalize wr.drewN nq = W3 at *
                generalize hO2 : O ++ [x] ++ (D.take j6).filter (gtK x.k) = O2 at *
                have HO2 := Lib.hid hO2
                clear hO2
                go_wp2_with (at_builtin; refine wpList_append_src (o := ⟨some 76, _, _, _, _, _⟩) rfl (.tmp 70) (.tmp 75) 26 rfl wd.heap.size 33 i0 _ 3 32 Try.underlying26 hi hz0 hz1 hz2 rfl (by omega) _ n3 (flatE O2) rfl (HM4.out.1.1.alloc _) (some ⟨W3.heap.size, 0, none⟩) 1 1 [.string y.k, .int .i64 yv, .int .i64 y.t] rfl rfl (fun e => by cases e) (news_entry W3 y yv _) (one_entry y yv) (by unfold maxLen; omega) (by omega) (by have := HM4.out.2.size; simp; omega) ?_; intro v2 w2 ho2 hg2; obtain ⟨A3, c3, rfl, HM3⟩ := HM4.out.app HYV.out ho2 hg2; clear ho2 hg2)
                go_roundw
                case rel => exact ⟨j6 + 1, n3 + 1, A3, c3, by go_num, rfl, by omega, by omega, Lib.hid (by rw [HF.out, ← List.append_assoc, HO2.out]; exact HM3.out)⟩
                case measure => simp [intOf]; omega
              | false =>
                have hb1 : (!(Op.bytesLess y.k.toList x.k.toList || (y.k.toList == x.k.toList))) = false := hl
                have hb2 : (Op.bytesLess y.k.toList x.k.toList || (y.k.toList == x.k.toList)) = true := by
                  cases hq : (Op.bytesLess y.k.toList x.k.toList || (y.k.toList == x.k.toList)) with
                  | true => rfl
                  | false => rw [hq] at hb1; exact absurd hb1 (by decide)
                rw [hl, if_neg (by decide)] at HF
                have hj6i : (j6 : Int) < j := hjn'
                clear hl hy hyv
                go_wp2_with fail
                go_quiet (fail)
                have HM4 := Lib.hid (HM.out.later (w' := wr.drewN nq) ⟨rfl, rfl, rfl, Nat.le_refl _, fun _ _ => rfl⟩)
                clear r0 r1 r2 k0 k1 k2 HM
                generalize wr.drewN nq = W3 at *
                go_wp2
                go_roundw
                case rel => exact ⟨j6 + 1, n3, A4, c4, by go_num, rfl, by omega, by omega, Lib.hid (by rw [HF.out]; exact HM4.out)⟩
                case measure => simp [intOf]; omega
            · obtain rfl : j6 = j := by omega
              have hd1 : decide ((j6 : Int) < (j6 : Int)) = false := decide_eq_false (by omega)
              have HE : Hid (PutSaid (Value.slice A n c).ownBlock base 0 (O ++ [x] ++ D.filter (gtK x.k)) w (.returned (.tuple #[.slice A4 n3 c4, .int .i64 0])) wr) := Lib.hid (by
                have h1 := HM.out
                rw [HTK.out] at h1
                have h2 := HM1.out.2
                have h3 := HBW.out
                refine ⟨A4, n3, c4, rfl, Lib.hid ⟨h1.1.rebase (Nat.le_trans HB.out (Nat.le_trans h3.size h2.size)), h3.trans ((h2.trans (h1.2.mono h2.size)).mono h3.size), fun g hg => .inr ?_⟩⟩
                have := (h1.1.lt g hg).1
                have := h2.size
                have := h3.size
                omega)
              clear k0 k1 k2
              go_wp2
              go_ret2
              exact HE.out
end Go.Proofs.Ytcdjahmnobjpkaa
