/- What is proved here: what a ledger's Keys and Copy answer. -/
import Derived.Test.YtcdjahmnobjpkaaAwake
import Derived.Test.YtcdjahmnobjpkaaIter
import Derived.Test.YtcdjahmnobjpkaaLib
namespace Go.Proofs.Ytcdjahmnobjpkaa
open Go Go.RowKit Go.Maps Go.WideMaps Go.Sort Go.Shelf

/-- A new row of keys. -/
def KeysSaid (L : List En) (w : World) (e : Ending) (w' : World) : Prop :=
  ∃ A c, e = .returned (.slice A L.length c) ∧ w'.ownsRow w.heap.size 9 1 (.slice A L.length c) L.length (L.map keyV) ∧ Below w.heap.size w w'
theorem enc_key (x : En) : encStr x.nm = keyV x := by
  unfold keyV En.nm encStr
  rw [Array.toArray_toList]
theorem map_keys {w : World} {l m room : Nat} {L : List En} {f : Lit → Option Value} {Φ : Nat → Prop} (h : LedL w l m room L f Φ) : ∃ D : DataW Value, w.ownsMap Try.prog 9 anyV m L.length D ∧ Maps.size D = L.length ∧ (L.map En.nm).Perm (strKeys D) := by
  obtain ⟨D, hM, hs, hv⟩ := h.mp
  refine ⟨D, hM, hs, ?_⟩
  refine Collected.perm (left := fun _ => false) ⟨?_, fun x => ?_⟩ hM keyed_str Try.underlying9 fun _ => rfl
  · refine List.pairwise_map.2 (h.ok.srt.imp fun {a b} hab e => ?_)
    rw [e, WideAt.bytes_irrefl] at hab
    cases hab
  · have hk : strK ⟨x.toArray⟩ = .string x := by simp [strK]
    have h1 := (hv (.string x)).1
    rw [← hk, h.pl, Option.isSome_map] at h1
    rw [← hk, h1]
    constructor
    · intro hx
      obtain ⟨y, hy, rfl⟩ := List.mem_map.1 hx
      have : (⟨y.nm.toArray⟩ : ByteArray) = y.k := by unfold En.nm; rw [Array.toArray_toList]
      rw [this, findE_mem h.ok.srt hy]
      exact ⟨rfl, rfl⟩
    · rintro ⟨hx, _⟩
      obtain ⟨y, hy⟩ := Option.isSome_iff_exists.1 hx
      obtain ⟨hyL, hyk⟩ := findE_some hy
      refine List.mem_map.2 ⟨y, hyL, ?_⟩
      unfold En.nm
      rw [hyk]

set_option maxHeartbeats 1000000 in
theorem Keys_any {w : World} {l room : Nat} {L : List En} {Φ : Nat → Prop} (h : LedAt w l room L Φ) (hL : L.length ≤ 1000000) :
    Calls Try.prog 27 #[.pointer (some ⟨l, 0, none⟩)] w (KeysSaid L w) := by
  obtain ⟨m, f, h⟩ := h
  obtain ⟨c0, c1⟩ := two_cells' h.blk
  obtain ⟨D, hown, hsz, hperm⟩ := map_keys h
  have hmax : Maps.size D ≤ maxLen := by rw [hsz]; unfold maxLen; omega
  have hbytes : Maps.size D * 16 ≤ 140737488355328 := by rw [hsz]; omega
  have HE : Hid (∀ (v : Value) (ss : List (List UInt8)) (w1 : World), ss.Perm (strKeys D) → w1.ownsRow (w.alloc (.cells #[.map (some m)] 58)).heap.size 9 1 v ss.length ((ss.mergeSort (fun x y => decide (x ≤ y))).map encStr) →
      Below (w.alloc (.cells #[.map (some m)] 58)).heap.size (w.alloc (.cells #[.map (some m)] 58)) w1 → KeysSaid L w (.returned v) w1) := Lib.hid (by
    intro v ss w1 hp ho hb
    have hp2 : ss.Perm (L.map En.nm) := hp.trans hperm.symm
    have hsr : Rising id (L.map En.nm) := Rising.map (g := En.nm) (nm' := id) (fun _ => rfl) h.ok.srt
    rw [sorted_names hp2 hsr] at ho
    have hlen : ss.length = L.length := by rw [hp2.length_eq]; simp
    rw [hlen] at ho
    obtain ⟨A, c, e⟩ := own_slice ho
    subst e
    refine ⟨A, c, rfl, ?_, ((Below.refl _ w).alloc (Nat.le_refl _) _).trans (hb.mono (by simp))⟩
    have := own_base ho (base' := w.heap.size) (by simp)
    rw [List.map_map] at this
    rw [show L.map keyV = L.map (encStr ∘ En.nm) from List.map_congr_left fun x _ => (enc_key x).symm]
    exact this)
  clear h hL hperm hsz
  refine (callsIn_wide (n := 6)).1 ?_
  have hfK : Fence.wide.fn 33 := trivial
  have hfS : Fence.wide.fn 32 := trivial
  refine callsIn_of_wp Try.func27 rfl trivial ?_ rfl
  simp only [Try.ntmps27, List.size_toArray, List.length_cons, List.length_nil, Nat.reduceAdd, Nat.reduceSub, Array.replicate_succ, Array.replicate_zero, List.push_toArray, List.append_toArray, List.nil_append, List.cons_append]
  gi_wp2_with (first
    | (gi_at_call 33; refine (Try.maps_Keys_33 _ _).mono ?_; rintro e w' ⟨rfl, rfl⟩)
    | (gi_at_call 32; refine (Try.slices_Sorted_keys_32_33 m _ _ _ w hown hmax hbytes).mono ?_; rintro e w' ⟨v, ss, rfl, hS, hrow, hnil, hb⟩; have HX := Lib.hid (HE.out v ss w' hS hrow hb); clear hS hrow hnil hb))
  go_ret
  exact HX.out

/-- What Copy leaves. -/
def CopySaid (room : Nat) (L : List En) (w : World) (e : Ending) (w' : World) : Prop :=
  ∃ b : Nat, e = .returned (.pointer (some ⟨b, 0, none⟩)) ∧ w.heap.size ≤ b ∧ LedAt w' b room L (fun k => w.heap.size ≤ k) ∧ Below w.heap.size w w'
set_option maxHeartbeats 1600000 in
set_option maxRecDepth 100000 in
theorem Copy_any {w : World} {l room : Nat} {L : List En} {Φ : Nat → Prop} (h : LedAt w l room L Φ) :
    Calls Try.prog 18 #[.pointer (some ⟨l, 0, none⟩)] w (CopySaid room L w) := by
  obtain ⟨m, f, h⟩ := h
  obtain ⟨c0, c1⟩ := two_cells' h.blk
  have hll := lt_of_block h.blk
  have HC2 : Hid (∀ V, Below w.heap.size w V → Calls Try.prog 31 #[.map (some m)] V fun e w' => ∃ mb, e = .returned (.map (some mb)) ∧ w'.cell? ⟨l, 0, none⟩ = some (.int .i64 room) ∧ w'.cell? ⟨l, 1, none⟩ = some (.map (some m)) ∧ Below w.heap.size w w' ∧
      Hid (w.heap.size ≤ mb ∧ MapV Try.prog 9 w' mb L.length f)) := Lib.hid fun V hV => by
    obtain ⟨D, hD, h2, h3⟩ := h.mp.keep (Φ := fun _ => False) (Chg.of_below hV) id
    have hcon := AnyW.maps_Clone_owns Try.cloneMap 9 _ m L.length D V hD
    change Calls Try.prog 31 _ _ _ at hcon
    refine hcon.mono ?_
    rintro e w' ⟨rfl, hD2, _, hb1⟩
    have hb2 := hV.trans (hb1.mono hV.size)
    exact ⟨_, rfl, (hb2.cell (p := ⟨l, 0, none⟩) hll).trans c0, (hb2.cell (p := ⟨l, 1, none⟩) hll).trans c1, hb2, Lib.hid ⟨hV.size, D, hD2, h2, h3⟩⟩
  have HEND : Hid (∀ V2 mb, Below w.heap.size w V2 → MapV Try.prog 9 V2 mb L.length f → w.heap.size ≤ mb →
      CopySaid room L w (.returned (.pointer (some ⟨V2.heap.size, 0, none⟩))) (V2.alloc (.cells #[.int .i64 room, .map (some mb)] 60))) := Lib.hid fun V2 mb hb hm hmb =>
    ⟨_, rfl, hb.size, ⟨mb, f, heap_alloc_new _ _, hm.keep (Φ := fun _ => False) (Chg.alloc _ _) id, h.ok, h.pl, h.vs, h.roomB, hb.size, hmb⟩, hb.alloc hb.size _⟩
  have HB0 : Hid (Below w.heap.size w w.drew) := Lib.hid (Below.refl _ _).drew
  have HK : Hid (∀ V, Below w.heap.size w V → V.cell? ⟨l, 0, none⟩ = some (.int .i64 room) ∧ V.cell? ⟨l, 1, none⟩ = some (.map (some m)) ∧ Below w.heap.size w V) := Lib.hid fun V hb => ⟨(hb.cell (p := ⟨l, 0, none⟩) hll).trans c0, (hb.cell (p := ⟨l, 1, none⟩) hll).trans c1, hb⟩
  clear h
  go_enter Try.func18, Try.ntmps18
  go_wp2_with fail
  go_region_held3 (fun w' => w'.cell? ⟨l, 0, none⟩ = some (.int .i64 room) ∧ w'.cell? ⟨l, 1, none⟩ = some (.map (some m)) ∧ Below w.heap.size w w')
    (first | exact ⟨by assumption, by assumption, by assumption⟩ | exact HK.out _ (hbB.alloc hbB.size _) | exact ⟨c0, c1, HB0.out⟩)
    (first
      | (go_at_call 31; refine (HC2.out _ (by first | assumption | exact HB0.out)).mono ?_; rintro e wB ⟨mb, rfl, p2, p3, hbB, HB⟩))
  go_wp2_with fail
  go_ret
  exact HEND.out wB mb hbB HB.out.2 HB.out.1
end Go.Proofs.Ytcdjahmnobjpkaa
