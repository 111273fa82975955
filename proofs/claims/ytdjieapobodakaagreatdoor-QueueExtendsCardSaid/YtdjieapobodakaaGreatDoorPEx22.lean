/- What is proved here: slices.SortFunc with a ledger's own comparison sorts a row of keys, of whatever length. -/
import Derived.Test.YtdjieapobodakaaGreatDoorPEx21
import Derived.Test.YtdjieapobodakaaGreatDoorLibS
section
namespace Go.Proofs.YtdjieapobodakaaGreatDoor.Led
open Go Go.RowKit Go.Maps Go.WideMaps Go.Shelf Go.Lib Go.Sort
set_option maxRecDepth 100000

set_option maxHeartbeats 1600000 in
set_option maxRecDepth 100000 in
theorem sortN {n : Nat} (h0 : 0 < n) (hb : n < 1000000) : SortOK n := by
  intro w l room L Φ rb cap xs h hn hL hrb ho
  obtain ⟨t0, ht0⟩ : ∃ t, t ∈ xs := by
    cases xs with
    | nil => simp at hn; omega
    | cons t r => exact ⟨t, by simp⟩
  have hwf : ∀ x ∈ L, x.k.size ≤ maxLen := h.ok.wf
  have hnd : Rising En.nm L := h.ok.srt
  haveI : Inhabited (W64 (InL L)) := ⟨⟨t0.k, hwf t0 (hL t0 ht0), t0, hL t0 ht0, rfl⟩⟩
  obtain ⟨ts, hts⟩ : ∃ ts, mkW L hwf xs hL = ts := ⟨_, rfl⟩
  have hval := mkW_val L hwf xs hL
  have hth := mkW_en L t0 hnd hwf xs hL
  rw [hts] at hval hth
  have hlen : ts.length = xs.length := by have := congrArg List.length hval; simpa using this
  have hvals : ts.map encW = xs.map keyV := by
    have e : xs.map keyV = (xs.map En.k).map Value.string := by rw [List.map_map]; rfl
    rw [e, ← hval, List.map_map]
    rfl
  rcases ho.2 with ⟨e1, _⟩ | ⟨g, cap', cur, e1, hbase, hheap, hle, hcap, hsz, htk⟩
  · cases e1
  cases e1
  have hblk : rb < w.heap.size := (Array.getElem?_eq_some_iff.1 hheap).1
  have hH : Holds encW w rb 0 ts.toArray := by
    intro j hj
    have hj' : j < ts.length := by simpa using hj
    refine ⟨?_, by simp [World.frozen?, hheap]⟩
    have hc := ho.cellAt j (by simp; omega)
    rw [Nat.zero_add, hc]
    have : (xs.map keyV)[j]? = (ts.map encW)[j]? := by rw [hvals]
    simp [hj', hlen ▸ hj'] at this ⊢
    exact this
  have SR : Srt (cfL L t0) l rb cap ts.toArray w := by
    refine ⟨⟨fun x => rfl, hH, hblk⟩, fun dk W hs S x y => ?_, by simp; omega, by simp; omega⟩
    have hk := h.keep (sw_chg S) (fun i hi e => hrb (e ▸ hi))
    obtain ⟨hx1, hx2⟩ := enOf_spec t0 x.property.2
    obtain ⟨hy1, hy2⟩ := enOf_spec t0 y.property.2
    have hc := compare_any hk hx1 hy1
    rw [hx2, hy2] at hc
    exact hc
  have hnn : n = ts.toArray.size := by simp; omega
  have HP := Lib.hid (pdq_any SR (swoL L t0) hnn (n + 1) 0 n (Lib.bitLen n) ts.toArray w (by omega) rfl (SW.start hH) (Nat.zero_le _) (Nat.le_refl _) (Nat.lt_of_le_of_lt (Lib.bitLen_le n 62 (by omega) (by omega)) (by omega)) (Or.inl rfl))
  have HBL : Hid (∀ w, Calls Tryz.prog 93 #[.int .u64 (n : Int)] w fun e w' => e = .returned (.int .i64 (Lib.bitLen n : Nat)) ∧ w' = w) := Lib.hid fun w => by
    have h := Any.bits_Len (SlLaysF0.n15.bits (P := Tryz.prog) { Tryz.sortStrs with }) (n : Int) w (by omega) (by omega)
    rwa [Int.toNat_natCast] at h
  have hps := pdq_sorts (ltOf (cfL L t0)) (swoL L t0) ts.toArray 0 n (Lib.bitLen n) true true (Nat.zero_le _) (by simp; omega) (Or.inl rfl)
  have HEND : Hid (∀ w', SW encW w rb 0 (pdq (ltOf (cfL L t0)) ts.toArray 0 n (Lib.bitLen n) true true) w' → SortSaid rb cap xs w (.returned (.tuple #[])) w') := Lib.hid (by
    generalize pdq (ltOf (cfL L t0)) ts.toArray 0 n (Lib.bitLen n) true true = d' at *
    intro w' S
    obtain ⟨us, rfl⟩ : ∃ us : List (W64 (InL L)), d' = us.toArray := ⟨d'.toList, by simp⟩
    obtain ⟨⟨p1, _, p3⟩, hso⟩ := hps
    have hul : us.length = ts.length := by simpa using p1
    have hperm : us.Perm ts := by
      have e1 : (us.toArray.extract 0 n).toList = us := by simp; exact List.take_of_length_le (by omega)
      have e2 : (ts.toArray.extract 0 n).toList = ts := by simp; exact List.take_of_length_le (by omega)
      rwa [e1, e2] at p3
    refine ⟨rfl, us.map (fun x => enOf L t0 x.val), ?_, ?_, ?_, sw_chg S⟩
    · rw [← hth]
      exact hperm.map _
    · rw [List.pairwise_iff_getElem]
      intro i j hi hj hij
      simp only [List.length_map] at hi hj
      have := hso i j (Nat.zero_le _) hij (by omega)
      rw [ltL, decide_eq_false_iff_not] at this
      simp [hi, hj] at this ⊢
      exact this
    · have e3 : (us.map (fun x => enOf L t0 x.val)).map keyV = us.map encW := by
        rw [List.map_map]
        apply List.map_congr_left
        intro x _
        show Value.string (enOf L t0 x.val).k = encW x
        rw [(enOf_spec t0 x.property.2).2]
        rfl
      rw [e3]
      refine ⟨by simp; omega, .inr ⟨rb, cap, _, rfl, hbase, sw_heap S hheap, hle, hcap, by simp [putCells, hsz], ?_⟩⟩
      rw [Nat.mul_one, show xs.length = us.length by omega]
      exact take_put cur us (by omega))
  rw [hn]
  clear hps hH SR hval hth hts hvals hnd hwf hL h ho hheap htk hsz hbase hnn hrb
  go_enter Tryz.func74, Tryz.ntmps74
  go_wp2_with (first
    | (go_at_call 93; go_fit (HBL.out _); rintro e w1 ⟨rfl, rfl⟩)
    | (go_at_call 94; go_fit HP.out; rintro e w2 HY; obtain rfl := HY.1; have HZ := HY.2; clear HY))
  go_end0
  exact HEND.out _ HZ.out
end Go.Proofs.YtdjieapobodakaaGreatDoor.Led
end
