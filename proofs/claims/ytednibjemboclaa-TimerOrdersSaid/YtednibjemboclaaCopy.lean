/- What is proved here: what slices.Clone returns at things; what the timer's Copy and All do. -/
import Derived.Test.YtednibjemboclaaSet
import Derived.Test.YtednibjemboclaaLib
import Derived.Deep.RegionHeld3
namespace Go.Proofs.Ytednibjemboclaa
open Go Go.RowKit Go.Maps Go.Sort

theorem own_empty (w : World) : (w.alloc (.cells #[] 41)).ownsRow w.heap.size 41 2 (.slice (some ⟨w.heap.size, 0, none⟩) 0 0) 0 [] :=
  ⟨rfl, .inr ⟨w.heap.size, 0, #[], rfl, Nat.le_refl _, heap_alloc_new w _, Nat.le_refl _, Nat.zero_le _, rfl, rfl⟩⟩
/-- What Clone returns: the same things, in new memory. -/
def CloneSaid (H : List It) (w : World) (e : Ending) (w' : World) : Prop :=
  ∃ A c, e = .returned (.slice A H.length c) ∧ w'.ownsRow w.heap.size 41 2 (.slice A H.length c) H.length (flat H) ∧ Below w.heap.size w w'
set_option maxHeartbeats 800000 in
theorem Clone_any {w : World} {v : Value} {H : List It} (h : w.ownsRow 0 41 2 v H.length (flat H)) (hn : H.length < 900000) :
    Calls Try.prog 26 #[v] w (CloneSaid H w) := by
  have h0 := h
  obtain ⟨A, c, rfl, hcm, hcn, hA⟩ := own_isSlice h
  unfold maxLen at hcm
  rcases hA with rfl | ⟨gb, rfl, hgl, _⟩
  · have hz : H.length = 0 ∧ c = 0 := by
      rcases h.2 with ⟨e1, e⟩ | ⟨_, _, _, e, _⟩
      · exact ⟨e, (Value.slice.inj e1).2.2⟩
      · cases e
    obtain ⟨hz, rfl⟩ := hz
    obtain rfl : H = [] := List.eq_nil_of_length_eq_zero hz
    have HE : Hid (CloneSaid [] w (.returned (.slice none 0 0)) w) := Lib.hid ⟨none, 0, rfl, World.ownsRow_nil _ _ _ _, Below.refl _ _⟩
    have hq : (binOp .eql 35 (.slice none 0 0) (.slice none 0 0)).run Try.prog w = .ok (.bool true) w := by rw [Lib.run_eql_slice_nil (P := Try.prog) w 35 41 none 0 0 0 0 Try.underlying35]; rfl
    clear h h0 hz
    go_enter Try.func26, Try.ntmps26
    go_wp2
    go_ret
    exact HE.out
  · have HE := Lib.hid (own_empty w)
    have hnews : ∀ ad, some (⟨gb, 0, none⟩ : Addr) = some ad → ∀ j u, (flat H)[j]? = some u → (w.alloc (.cells #[] 41)).cell? (ad.add j) = some u := fun ad had j u hu => by
      obtain rfl := Option.some.inj had
      have h1 := (h.alloc (.cells #[] 41)).cells (g := gb) rfl j u hu
      exact h1
    have HN := Lib.hid hnews
    have HF : Hid ((flat H).length = H.length * 2) := Lib.hid (flat_len H)
    have H1 : Hid (∀ u ∈ flat H, u.oneCell' = true) := Lib.hid fun u hu => by
      unfold flat at hu
      obtain ⟨y, _, hy⟩ := List.mem_flatMap.1 hu
      exact one_cell2 _ _ u hy
    have HX : Hid (∀ v2 w2, w2.ownsRow w.heap.size 41 2 v2 (0 + H.length) ([] ++ flat H) → (w.alloc (.cells #[] 41)).grownBy w2 (Value.slice (some ⟨w.heap.size, 0, none⟩) 0 0).ownBlock → CloneSaid H w (.returned v2) w2) := Lib.hid fun v2 w2 ho hg => by
      rw [Nat.zero_add, List.nil_append] at ho
      obtain ⟨A2, c2, rfl, _⟩ := own_isSlice ho
      exact ⟨A2, c2, rfl, ho, ((Below.refl w.heap.size w).alloc (Nat.le_refl _) _).grown hg (by simp) (fun k hk => by simp [Value.ownBlock] at hk; omega)⟩
    obtain ⟨i0, hi, hz0, hz1, hz2⟩ := info_parts info_item
    have hq := Lib.run_eql_slice_nil (P := Try.prog) w 35 41 (some ⟨gb, 0, none⟩) H.length c 0 0 Try.underlying35
    have hq2 : (binOp .eql 35 (.slice (some ⟨gb, 0, none⟩) H.length c) (.slice none 0 0)).run Try.prog w = .ok (.bool false) w := by rw [hq]; rfl
    clear h h0 hnews hq
    generalize flat H = F at *
    generalize hL : H.length = n at *
    have HL := Lib.hid hL
    clear hL
    go_enter Try.func26, Try.ntmps26
    go_wp2_with (at_builtin; refine wpList_append_src (o := ⟨some 7, _, _, _, _, _⟩) rfl (.tmp 5) (.tmp 6) 35 rfl w.heap.size 41 i0 _ 2 16 Try.underlying35 hi hz0 hz1 hz2 rfl (by omega) _ 0 [] rfl HE.out (some ⟨gb, 0, none⟩) n c F rfl HF.out (fun e => by cases e) HN.out H1.out (by unfold maxLen; omega) (by omega) (by simp) ?_; intro v2 w2 ho2 hg2; have HR := Lib.hid (HX.out v2 w2 ho2 hg2); clear ho2 hg2)
    go_ret
    exact HR.out

/-- What Copy returns. -/
def CopySaid (R : List It) (w : World) (e : Ending) (w' : World) : Prop :=
  ∃ t', e = .returned (.pointer (some ⟨t', 0, none⟩)) ∧ w.heap.size ≤ t' ∧ TimerAt w' t' R (fun k => w.heap.size ≤ k) ∧ Below w.heap.size w w'
set_option maxHeartbeats 1600000 in
set_option maxRecDepth 100000 in
theorem Copy_any {w : World} {t : Nat} {R : List It} {Φ : Nat → Prop} (h : TimerAt w t R Φ) (hn : R.length < 900000) :
    Calls Try.prog 18 #[.pointer (some ⟨t, 0, none⟩)] w (CopySaid R w) := by
  obtain ⟨ho, m, v, H, f, hp, hl⟩ := h
  have hlen : H.length < 900000 := by have := hp.length_eq; omega
  obtain ⟨c0, c1⟩ := two_cells' hl.blk
  have htl := lt_of_block hl.blk
  have HC1 : Hid (∀ V, Below w.heap.size w V → Calls Try.prog 26 #[v] V fun e w' => ∃ A c, e = .returned (.slice A H.length c) ∧ w'.cell? ⟨t, 0, none⟩ = some v ∧ w'.cell? ⟨t, 1, none⟩ = some (.map (some m)) ∧ Below w.heap.size w w' ∧
      Hid (w'.ownsRow w.heap.size 41 2 (.slice A H.length c) H.length (flat H) ∧ Below V.heap.size V w')) := Lib.hid fun V hV => (Clone_any (own_below hl.row hV) hlen).mono (by
    rintro e w' ⟨A, c, rfl, ho1, hb1⟩
    have hb2 := hV.trans (hb1.mono hV.size)
    exact ⟨A, c, rfl, (hb2.cell (p := ⟨t, 0, none⟩) htl).trans c0, (hb2.cell (p := ⟨t, 1, none⟩) htl).trans c1, hb2, Lib.hid ⟨own_base ho1 hV.size, hb1⟩⟩)
  have HC2 : Hid (∀ V, Below w.heap.size w V → Calls Try.prog 27 #[.map (some m)] V fun e w' => ∃ mb, e = .returned (.map (some mb)) ∧ w'.cell? ⟨t, 0, none⟩ = some v ∧ w'.cell? ⟨t, 1, none⟩ = some (.map (some m)) ∧ Below w.heap.size w w' ∧
      Hid (w.heap.size ≤ mb ∧ Places w' mb f H.length ∧ Below V.heap.size V w')) := Lib.hid fun V hV => by
    obtain ⟨D, hD, h2, h3⟩ := hl.map.keep (Φ := fun _ => False) (Chg.of_below hV) id
    have hcon := AnyW.maps_Clone_owns Try.cloneMap 3 _ m H.length D V hD
    change Calls Try.prog 27 _ _ _ at hcon
    refine hcon.mono ?_
    rintro e w' ⟨rfl, hD2, _, hb1⟩
    have hb2 := hV.trans (hb1.mono hV.size)
    exact ⟨_, rfl, (hb2.cell (p := ⟨t, 0, none⟩) htl).trans c0, (hb2.cell (p := ⟨t, 1, none⟩) htl).trans c1, hb2, Lib.hid ⟨hV.size, ⟨D, hD2, h2, h3⟩, hb1⟩⟩
  have HEND : Hid (∀ V2 A c mb, Below w.heap.size w V2 → V2.ownsRow w.heap.size 41 2 (.slice A H.length c) H.length (flat H) → Places V2 mb f H.length → w.heap.size ≤ mb →
      CopySaid R w (.returned (.pointer (some ⟨V2.heap.size, 0, none⟩))) (V2.alloc (.cells #[.slice A H.length c, .map (some mb)] 55))) := Lib.hid fun V2 A c mb hb ho2 hpl hmb => by
    refine ⟨_, rfl, hb.size, ⟨ho, mb, _, H, f, hp, heap_alloc_new _ _, ?_, hpl.keep (Chg.alloc (Φ := fun _ => False) _ _) id, hl.heap, hl.tells, hl.wf, hb.size, hmb, fun g hg => (ho2.lt g hg).1⟩, hb.alloc hb.size _⟩
    exact own_base (ho2.alloc _) (Nat.zero_le _)
  have HB0 : Hid (Below w.heap.size w w.drew) := Lib.hid (Below.refl _ _).drew
  have HK : Hid (∀ V, Below w.heap.size w V → V.cell? ⟨t, 0, none⟩ = some v ∧ V.cell? ⟨t, 1, none⟩ = some (.map (some m)) ∧ Below w.heap.size w V) := Lib.hid fun V hb => ⟨(hb.cell (p := ⟨t, 0, none⟩) htl).trans c0, (hb.cell (p := ⟨t, 1, none⟩) htl).trans c1, hb⟩
  obtain ⟨A0, cc, rfl, _⟩ := own_isSlice hl.row
  clear hl hp ho
  go_enter Try.func18, Try.ntmps18
  go_wp2_with fail
  go_region_held3 (fun w' => w'.cell? ⟨t, 0, none⟩ = some (.slice A0 H.length cc) ∧ w'.cell? ⟨t, 1, none⟩ = some (.map (some m)) ∧ Below w.heap.size w w')
    (first | exact ⟨by assumption, by assumption, by assumption⟩ | exact HK.out _ (hbB.alloc hbB.size _) | exact HK.out _ (hbA.alloc hbA.size _) | exact ⟨c0, c1, HB0.out⟩)
    (first
      | (go_at_call 26; refine (HC1.out _ (by first | assumption | exact HB0.out)).mono ?_; rintro e wA ⟨A', c', rfl, p0, p1, hbA, HA⟩)
      | (go_at_call 27; refine (HC2.out _ (by first | assumption | exact HB0.out)).mono ?_; rintro e wB ⟨mb, rfl, p2, p3, hbB, HB⟩))
  go_wp2_with fail
  go_ret
  exact HEND.out wB A' c' mb hbB (own_below HA.out.1 HB.out.2.2) HB.out.2.1 HB.out.1

theorem SWO_item : SWO (ltOf cmpf) where
  irrefl x := by
    unfold ltOf
    exact decide_eq_false fun h => bef_irrefl x ((cmpf_neg _ _).1 h)
  trans x y z h1 h2 := by
    unfold ltOf at *
    exact decide_eq_true ((cmpf_neg _ _).2 (bef_trans ((cmpf_neg _ _).1 (of_decide_eq_true h1)) ((cmpf_neg _ _).1 (of_decide_eq_true h2))))
  ntrans x y z h1 h2 := by
    unfold ltOf at *
    refine decide_eq_false fun h => ?_
    have k1 : le y x := fun e => of_decide_eq_false h1 ((cmpf_neg _ _).2 e)
    have k2 : le z y := fun e => of_decide_eq_false h2 ((cmpf_neg _ _).2 e)
    exact le_trans k2 k1 ((cmpf_neg _ _).1 h)
theorem cmpLays (blk off size : Nat) (w : World) : CmpLays Try.prog 29 #[] cells2 2 cmpf blk off size w := fun _ _ _ _ x y => compare_any x y _
theorem flatK_flat (H : List It) (t : Nat) (ht : t < H.length * 2) : (flatK cells2 2 H.toArray)[t]? = (flat H)[t]? := by
  have e1 : t / 2 < H.length := by omega
  have e2 : H.toArray[t / 2]! = g H (t / 2) := by
    rw [getElem!_pos H.toArray (t / 2) (by simpa using e1)]
    simp [← g_get e1]
  obtain ⟨h1, h2⟩ := flat_at e1
  have e3 : (flatK cells2 2 H.toArray)[t]? = some ((cells2 H.toArray[t / 2]!)[t % 2]!) := by
    rw [← get_flatK cells2 2 H.toArray t (by simpa using ht)]
    rw [getElem!_pos (flatK cells2 2 H.toArray) t (by simpa using ht)]
    exact Array.getElem?_eq_getElem _
  rw [e3, e2]
  have hm : t % 2 = 0 ∨ t % 2 = 1 := by omega
  rcases hm with hm | hm
  · rw [hm]
    have : t / 2 * 2 = t := by omega
    rw [this] at h1
    rw [h1]
    rfl
  · rw [hm]
    have : t / 2 * 2 + 1 = t := by omega
    rw [this] at h2
    rw [h2]
    rfl
theorem own_of_cells {w : World} {base gb cap n : Nat} {cur : Array Value} {L : List It} (hb : w.heap[gb]? = some (.cells cur 41 (0, 0))) (hg : base ≤ gb) (hs : cur.size = cap * 2) (hn : n ≤ cap) (hm : cap ≤ maxLen) (hL : L.length = n)
    (hc : ∀ j, j < n * 2 → w.cell? ⟨gb, j, none⟩ = (flat L)[j]?) : w.ownsRow base 41 2 (.slice (some ⟨gb, 0, none⟩) n cap) n (flat L) := by
  refine ⟨by rw [flat_len, hL], .inr ⟨gb, cap, cur, rfl, hg, hb, hn, hm, hs, ?_⟩⟩
  apply List.ext_getElem?
  intro j
  by_cases hj : j < n * 2
  · have h1 := hc j hj
    rw [cell_of_row _ _ _ _ _ _ hb] at h1
    rw [List.getElem?_take, if_pos hj, ← h1]
    simp
  · rw [List.getElem?_eq_none (by rw [List.length_take]; omega), List.getElem?_eq_none (by rw [flat_len, hL]; omega)]
theorem heap_sorted {w : World} {gb n : Nat} {d' : Array It} {os : Array Obj} (hg : gb < w.heap.size) {cur : Array Value} {e : TypeId} {fr : Nat × Nat} (hb : w.heap[gb]? = some (.cells cur e fr)) :
    (∃ cur', (sortWorldK cells2 2 w gb 0 n d' os).heap[gb]? = some (.cells cur' e fr) ∧ cur'.size = cur.size) ∧ Chg (fun k => k = gb) w (sortWorldK cells2 2 w gb 0 n d' os) := by
  unfold sortWorldK putRowK putRow mapBlock
  refine ⟨⟨putCells id 0 (flatK cells2 2 d') cur, ?_, by simp [putCells]⟩, rfl, rfl, rfl, ?_, fun k hk hne => ?_⟩
  · rw [heap_grow_old _ _ (by simpa [ahead] using hg)]
    show (w.heap.modify gb (onCells (putCells id 0 (flatK cells2 2 d'))))[gb]? = _
    rw [Array.getElem?_modify, if_pos rfl, hb]
    rfl
  · simp
  · rw [heap_grow_old _ _ (by simpa [ahead] using hk)]
    show (w.heap.modify gb (onCells (putCells id 0 (flatK cells2 2 d'))))[k]? = _
    rw [Array.getElem?_modify, if_neg (fun e => hne e.symm)]

/-- What All returns. -/
def AllSaid (R : List It) (w : World) (e : Ending) (w' : World) : Prop :=
  ∃ A c, e = .returned (.slice A R.length c) ∧ w'.ownsRow w.heap.size 41 2 (.slice A R.length c) R.length (flat R) ∧ Below w.heap.size w w'
/-- The sort, behind the copy. -/
theorem Sort_any {w w1 : World} {A : Option Addr} {c : Nat} {H R : List It} (ho : Ord R) (hp : H.Perm R) (hn : R.length < 900000) (h1 : w1.ownsRow w.heap.size 41 2 (.slice A H.length c) H.length (flat H)) (hb : Below w.heap.size w w1) :
    Calls Try.prog 28 #[.slice A H.length c, .func (.func 29) #[] #[]] w1 fun e w' => e = .returned (.tuple #[]) ∧ Hid (AllSaid R w (.returned (.slice A H.length c)) w') := by
  have hlen := hp.length_eq
  by_cases hz : H.length = 0
  · have hcon := AnyF.slices_SortFunc_none Try.sortItem A c (.func (.func 29) #[] #[]) w1
    change Calls Try.prog 28 _ _ _ at hcon
    obtain rfl : H = [] := List.eq_nil_of_length_eq_zero hz
    obtain rfl : R = [] := List.eq_nil_of_length_eq_zero (by rw [← hlen]; rfl)
    exact hcon.mono fun e w' ⟨he, hw⟩ => ⟨he, Lib.hid ⟨A, c, rfl, by rw [hw]; exact h1, by rw [hw]; exact hb⟩⟩
  · rcases h1.2 with ⟨_, e⟩ | ⟨gb, cap, cur, e, hbase, hblk, hnc, hcm, hcs, htake⟩
    · omega
    · obtain ⟨rfl, _, rfl⟩ := Value.slice.inj e
      have hglt := lt_of_block hblk
      have hH : HoldsK cells2 2 w1 gb 0 H.toArray := fun j hj => by
        rw [size_flatK] at hj
        have hj' : j < H.length * 2 := by simpa using hj
        refine ⟨?_, ?_⟩
        · rw [Nat.zero_add, h1.cellAt j hj', ← flatK_flat H j hj', getElem!_pos _ j (by rw [size_flatK]; exact hj)]
          exact Array.getElem?_eq_getElem _
        · rw [Nat.zero_add]
          exact h1.frozenAt j
      have eg : ∀ args w, (callFunc 29 args).run Try.prog w = .ok (.enter 29 args) w := enters_of Try.func29 (by kernel_rfl) rfl
      have hcon := AnyQ.slices_SortFunc Try.sortItem 2 Try.isAgg41 Try.sizeOf41 cells2 (fun _ => rfl) (fun x v hv => one_cell2 _ _ v hv) cmpf SWO_item 29 #[] gb 0 c H.toArray w1 eg (cmpLays gb 0 H.toArray.size w1) hH hglt (by simp; omega)
      change Calls Try.prog 28 _ _ _ at hcon
      rw [List.size_toArray] at hcon
      refine hcon.mono ?_
      rintro e w' ⟨he, d', n, os, ⟨hsz0, _, hperm⟩, hsort, rfl⟩
      have hsz : d'.size = H.length := by rw [hsz0]; simp
      have hD : d'.toList.Perm H := by
        have h2 : (d'.extract 0 H.length) = d' := by rw [← hsz]; simp
        have h3 : (H.toArray.extract 0 H.length) = H.toArray := by simp
        rw [h2, h3] at hperm
        simpa using hperm
      have hDl : d'.toList.length = H.length := hD.length_eq
      have hget : ∀ i, i < H.length → d'[i]! = g d'.toList i := fun i hi => by
        rw [getElem!_pos d' i (by omega), ← g_get (by omega : i < d'.toList.length)]
        simp
      have hpw : d'.toList.Pairwise le := List.pairwise_iff_getElem.2 fun i j hi hj hij => by
        rw [g_get, g_get, ← hget i (by omega), ← hget j (by omega)]
        have h4 := hsort i j (Nat.zero_le _) hij (by omega)
        unfold ltOf at h4
        exact fun hb => of_decide_eq_false h4 ((cmpf_neg _ _).2 hb)
      have hDR : d'.toList = R := ord_eq (hD.trans hp) hpw ho
      obtain ⟨⟨cur', hb', hs'⟩, hc⟩ := heap_sorted (n := n) (d' := d') (os := os) hglt hblk
      have hholds : HoldsK cells2 2 (sortWorldK cells2 2 w1 gb 0 n d' os) gb 0 d' := SWK.holds (d0 := H.toArray) ⟨n, os, rfl⟩ hglt hH hsz0
      refine ⟨he, Lib.hid ⟨some ⟨gb, 0, none⟩, c, by rw [hlen], ?_, ?_⟩⟩
      · rw [← hlen]
        refine own_of_cells hb' hbase (by rw [hs', hcs]) hnc hcm hlen.symm fun j hj => ?_
        have h5 := (hholds j (by rw [size_flatK, hsz]; exact hj)).1
        rw [Nat.zero_add] at h5
        have h6 := flatK_flat d'.toList j (by omega)
        rw [hDR] at h6
        have h7 : d'.toList.toArray = d' := by simp
        rw [← hDR, h7] at h6
        rw [h5, ← hDR, ← h6, getElem!_pos _ j (by rw [size_flatK, hsz]; exact hj)]
        exact (Array.getElem?_eq_getElem _).symm
      · exact hb.trans (hc.below hb.size fun i hi => by rw [hi]; exact hbase)

set_option maxHeartbeats 800000 in
theorem All_any {w : World} {t : Nat} {R : List It} {Φ : Nat → Prop} (h : TimerAt w t R Φ) (hn : R.length < 900000) :
    Calls Try.prog 20 #[.pointer (some ⟨t, 0, none⟩)] w (AllSaid R w) := by
  obtain ⟨ho, m, v, H, f, hp, hl⟩ := h
  have hlen : H.length < 900000 := by have := hp.length_eq; omega
  obtain ⟨c0, c1⟩ := two_cells' hl.blk
  have HC := Lib.hid (Clone_any hl.row hlen)
  have HS : Hid (∀ A c w1, w1.ownsRow w.heap.size 41 2 (.slice A H.length c) H.length (flat H) → Below w.heap.size w w1 → _) := Lib.hid fun A c w1 h1 h2 => Sort_any (w := w) (A := A) (c := c) ho hp hn h1 h2
  obtain ⟨A0, cc, rfl, _⟩ := own_isSlice hl.row
  clear hl hp ho
  go_enter Try.func20, Try.ntmps20
  go_wp2_with (first
    | (go_at_call 26; refine HC.out.mono ?_; rintro e w1 ⟨A, c, rfl, ho1, hb1⟩; have HS1 := Lib.hid (HS.out A c w1 ho1 hb1); clear ho1 hb1)
    | (go_at_call 28; refine HS1.out.mono ?_; rintro e w2 ⟨rfl, HX⟩))
  go_ret
  exact HX.out
end Go.Proofs.Ytednibjemboclaa
