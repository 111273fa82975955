/- What is proved here: a row of things as a row of the sort, outside the walk: the order by turns; what the sorted row is in memory. -/
/- What is proved here: slices.SortFunc with the lanes' own comparison sorts a row of things, of whatever length. -/
import Derived.Test.YtdjieapobodakaaGreatDoorPEx11
import Derived.Sort.AssemblyPlain
import Derived.Test.YtdjieapobodakaaGreatDoorPEx14
import Derived.Test.YtdjieapobodakaaGreatDoorLibS
section
namespace Go.Proofs.YtdjieapobodakaaGreatDoor.Lan
open Go Go.RowKit Go.Maps Go.WideMaps Go.Shelf Go.Lib Go.Sort
set_option maxRecDepth 100000

/-- The ids of L. -/
abbrev InL (L : List Th) (x : Int) : Prop := ∃ t ∈ L, t.id = x
/-- The thing of an id. -/
def thOf (L : List Th) (t0 : Th) (x : Int) : Th := (at_ L x).getD t0
theorem thOf_spec {L : List Th} (t0 : Th) {x : Int} (h : InL L x) : thOf L t0 x ∈ L ∧ (thOf L t0 x).id = x := by
  unfold thOf
  cases ha : at_ L x with
  | none =>
    obtain ⟨t, ht, e⟩ := h
    exact absurd e (at_none.1 ha t ht)
  | some y => exact at_some ha
theorem thOf_id {L : List Th} (t0 : Th) (hn : (ids L).Nodup) {t : Th} (ht : t ∈ L) : thOf L t0 t.id = t := by
  obtain ⟨h1, h2⟩ := thOf_spec t0 (⟨t, ht, rfl⟩ : InL L t.id)
  exact nodup_id hn h1 ht h2
def cfL (L : List Th) (t0 : Th) (x y : W64 (InL L)) : Int := cmp1 (thOf L t0 x.val).tn (thOf L t0 y.val).tn
theorem ltL (L : List Th) (t0 : Th) (x y : W64 (InL L)) : ltOf (cfL L t0) x y = decide ((thOf L t0 x.val).tn < (thOf L t0 y.val).tn) := by
  show decide (cfL L t0 x y < 0) = _
  unfold cfL cmp1
  by_cases h : (thOf L t0 x.val).tn < (thOf L t0 y.val).tn
  · rw [if_pos (by omega)]; simp [h]
  · rw [if_neg (by omega)]
    split <;> simp [h]
theorem swoL (L : List Th) (t0 : Th) : SWO (ltOf (cfL L t0)) where
  irrefl x := by rw [ltL]; simp
  trans x y z h1 h2 := by
    rw [ltL, decide_eq_true_eq] at h1 h2 ⊢
    omega
  ntrans x y z h1 h2 := by
    rw [ltL, decide_eq_false_iff_not] at h1 h2 ⊢
    omega

section
variable {G : Int → Prop} [Inhabited (W64 G)] {w W : World} {rb : Nat} {dk : Array (W64 G)}
theorem sw_chg (S : SW encW w rb 0 dk W) : Chg (fun i => i = rb) w W := by
  have hle := S.le
  obtain ⟨n, os, rfl⟩ := S
  refine ⟨rfl, rfl, rfl, hle, fun k hk hne => ?_⟩
  show (grow (putRow encW (Sort.ahead w n) rb 0 dk) os).heap[k]? = _
  rw [heap_grow_old _ _ (by simpa [putRow, mapBlock, Sort.ahead] using hk)]
  have : rb ≠ k := fun e => hne e.symm
  simp [putRow, mapBlock, Sort.ahead, Array.getElem?_modify, this]
theorem sw_heap (S : SW encW w rb 0 dk W) {cur : Array Value} {e : TypeId} (hb : w.heap[rb]? = some (.cells cur e (0, 0))) : W.heap[rb]? = some (.cells (putCells encW 0 dk cur) e (0, 0)) := by
  obtain ⟨n, os, rfl⟩ := S
  have hg : rb < w.heap.size := (Array.getElem?_eq_some_iff.1 hb).1
  show (grow (putRow encW (Sort.ahead w n) rb 0 dk) os).heap[rb]? = _
  rw [heap_grow_old _ _ (by simpa [putRow, mapBlock, Sort.ahead] using hg)]
  simp [putRow, mapBlock, Sort.ahead, Array.getElem?_modify, hb, onCells]
theorem take_put (cur : Array Value) (ts : List (W64 G)) (h : ts.length ≤ cur.size) : (putCells encW 0 ts.toArray cur).toList.take ts.length = ts.map encW := by
  apply List.ext_getElem?
  intro j
  by_cases hj : j < ts.length
  · rw [List.getElem?_take_of_lt hj, Array.getElem?_toList]
    simp [putCells, hj, show j < cur.size by omega]
  · rw [List.getElem?_take_eq_none (by omega), List.getElem?_eq_none (by simp; omega)]
end

def mkW (L : List Th) (hw : ∀ x ∈ L, wfk x.id) (xs : List Th) (hx : ∀ x ∈ xs, x ∈ L) : List (W64 (InL L)) := xs.pmap (fun t ht => ⟨t.id, hw t ht, t, ht, rfl⟩) hx
theorem mkW_val (L : List Th) (hw : ∀ x ∈ L, wfk x.id) (xs : List Th) (hx : ∀ x ∈ xs, x ∈ L) : (mkW L hw xs hx).map (fun x => x.val) = xs.map Th.id := by
  unfold mkW
  rw [List.map_pmap]
  simp
theorem mkW_th (L : List Th) (t0 : Th) (hn : (ids L).Nodup) (hw : ∀ x ∈ L, wfk x.id) (xs : List Th) (hx : ∀ x ∈ xs, x ∈ L) : (mkW L hw xs hx).map (fun x => thOf L t0 x.val) = xs := by
  rw [show (fun x : W64 (InL L) => thOf L t0 x.val) = (thOf L t0) ∘ (fun x => x.val) from rfl, ← List.map_map, mkW_val, List.map_map]
  apply List.ext_getElem (by simp)
  intro i h1 h2
  simp only [List.getElem_map, Function.comp]
  exact thOf_id t0 hn (hx _ (List.getElem_mem h2))

end Go.Proofs.YtdjieapobodakaaGreatDoor.Lan
end

section
namespace Go.Proofs.YtdjieapobodakaaGreatDoor.Lan
open Go Go.RowKit Go.Maps Go.WideMaps Go.Shelf Go.Lib Go.Sort
set_option maxRecDepth 100000

set_option maxHeartbeats 1600000 in
set_option maxRecDepth 100000 in
theorem sortN {n : Nat} (h0 : 0 < n) (hb : n < 1000000) : SortOK n := by
  intro w l N L Φ rb cap xs h hn hL hrb ho
  obtain ⟨t0, ht0⟩ : ∃ t, t ∈ xs := by
    cases xs with
    | nil => simp at hn; omega
    | cons t r => exact ⟨t, by simp⟩
  have hwf : ∀ x ∈ L, wfk x.id := by
    obtain ⟨_, _, _, _, _, h'⟩ := h
    exact fun x hx => (h'.wf x hx).1
  have hnd : (ids L).Nodup := by
    obtain ⟨_, _, _, _, _, h'⟩ := h
    exact h'.nodup
  haveI : Inhabited (W64 (InL L)) := ⟨⟨t0.id, hwf t0 (hL t0 ht0), t0, hL t0 ht0, rfl⟩⟩
  obtain ⟨ts, hts⟩ : ∃ ts, mkW L hwf xs hL = ts := ⟨_, rfl⟩
  have hval := mkW_val L hwf xs hL
  have hth := mkW_th L t0 hnd hwf xs hL
  rw [hts] at hval hth
  have hlen : ts.length = xs.length := by have := congrArg List.length hval; simpa using this
  have hvals : ts.map encW = (xs.map Th.id).map (Value.int .i64) := by rw [← hval, List.map_map]; rfl
  rcases ho.2 with ⟨e1, _⟩ | ⟨g, cap', cur, e1, hbase, hheap, hle, hcap, hsz, htk⟩
  · cases e1
  cases e1
  have hblk : rb < w.heap.size := (Array.getElem?_eq_some_iff.1 hheap).1
  have hH : Holds encW w rb 0 ts.toArray := by
    intro j hj
    have hj' : j < ts.length := by simpa using hj
    refine ⟨?_, by simp [World.frozen?, hheap]⟩
    have hc := ho.cellAt j (by simp; omega)
    rw [Nat.zero_add, hc]
    have : ((xs.map Th.id).map (Value.int .i64))[j]? = (ts.map encW)[j]? := by rw [hvals]
    simp [hj', hlen ▸ hj'] at this ⊢
    exact this
  have SR : Srt (cfL L t0) l rb cap ts.toArray w := by
    refine ⟨⟨fun x => rfl, hH, hblk⟩, fun dk W hs S x y => ?_, by simp; omega, by simp; omega⟩
    have hk := h.keep (sw_chg S) (fun i hi e => hrb (e ▸ hi))
    obtain ⟨hx1, hx2⟩ := thOf_spec t0 x.property.2
    obtain ⟨hy1, hy2⟩ := thOf_spec t0 y.property.2
    have hc := compare_any hk hx1 hy1
    rw [hx2, hy2] at hc
    exact hc
  have hnn : n = ts.toArray.size := by simp; omega
  have HP := Lib.hid (pdq_any SR (swoL L t0) hnn (n + 1) 0 n (Lib.bitLen n) ts.toArray w (by omega) rfl (SW.start hH) (Nat.zero_le _) (Nat.le_refl _) (Nat.lt_of_le_of_lt (Lib.bitLen_le n 62 (by omega) (by omega)) (by omega)) (Or.inl rfl))
  have HBL : Hid (∀ w, Calls Tryz.prog 93 #[.int .u64 (n : Int)] w fun e w' => e = .returned (.int .i64 (Lib.bitLen n : Nat)) ∧ w' = w) := Lib.hid fun w => by
    have h := Any.bits_Len (SlLaysF0.n15.bits (P := Tryz.prog) { Tryz.sortInts with }) (n : Int) w (by omega) (by omega)
    rwa [Int.toNat_natCast] at h
  have hps := pdq_sorts (ltOf (cfL L t0)) (swoL L t0) ts.toArray 0 n (Lib.bitLen n) true true (Nat.zero_le _) (by simp; omega) (Or.inl rfl)
  have HEND : Hid (∀ w', SW encW w rb 0 (pdq (ltOf (cfL L t0)) ts.toArray 0 n (Lib.bitLen n) true true) w' → SortSaid rb cap xs w (.returned (.tuple #[])) w') := Lib.hid (by
    generalize pdq (ltOf (cfL L t0)) ts.toArray 0 n (Lib.bitLen n) true true = d' at *
    intro w' S
    obtain ⟨us, rfl⟩ : ∃ us : List (W64 (InL L)), d' = us.toArray := ⟨d'.toList, by simp⟩
    obtain ⟨⟨p1, _, p3⟩, hso⟩ := hps
    have hul : us.length = ts.length := by simpa using p1
    have hperm : us.Perm ts := by
      have e1 : (us.toArray.extract 0 n).toList = us := by simp; exact List.take_of_length_le (by omega)
      have e2 : (ts.toArray.extract 0 n).toList = ts := by simp; exact List.take_of_length_le (by omega)
      rwa [e1, e2] at p3
    refine ⟨rfl, us.map (fun x => thOf L t0 x.val), ?_, ?_, ?_, sw_chg S⟩
    · rw [← hth]
      exact hperm.map _
    · rw [List.pairwise_iff_getElem]
      intro i j hi hj hij
      simp only [List.length_map] at hi hj
      have := hso i j (Nat.zero_le _) hij (by omega)
      rw [ltL, decide_eq_false_iff_not] at this
      simp [hi, hj] at this ⊢
      omega
    · have e3 : ((us.map (fun x => thOf L t0 x.val)).map Th.id).map (Value.int .i64) = us.map encW := by
        rw [List.map_map, List.map_map]
        apply List.map_congr_left
        intro x _
        show Value.int .i64 (thOf L t0 x.val).id = encW x
        rw [(thOf_spec t0 x.property.2).2]
        rfl
      rw [e3]
      refine ⟨by simp; omega, .inr ⟨rb, cap, _, rfl, hbase, sw_heap S hheap, hle, hcap, by simp [putCells, hsz], ?_⟩⟩
      rw [Nat.mul_one, show xs.length = us.length by omega]
      exact take_put cur us (by omega))
  rw [hn]
  clear hps hH SR hval hth hts hvals hnd hwf hL h ho hheap htk hsz hbase hnn hrb
  go_enter Tryz.func109, Tryz.ntmps109
  go_wp2_with (first
    | (go_at_call 93; go_fit (HBL.out _); rintro e w1 ⟨rfl, rfl⟩)
    | (go_at_call 149; go_fit HP.out; rintro e w2 HY; obtain rfl := HY.1; have HZ := HY.2; clear HY))
  go_end0
  exact HEND.out _ HZ.out
end Go.Proofs.YtdjieapobodakaaGreatDoor.Lan
end
