/- What is proved here: what was written is read as it was; and 'awake' is true. -/
import Derived.Test.YtkdncnhjlgidnaaGreatDoorCAwk
namespace Go.Proofs.YtkdncnhjlgidnaaGreatDoor
open Go Go.RowKit Go.Maps

/-- The same command, its bodies elsewhere. -/
def CM.at_ (c : CM) (bA : Option Addr) (bc : Nat) : CM := { c with bA := bA, bc := bc }
theorem shift_n {n : Int} (hn : I64 n) (h : 0 ≤ wrap64 (n + 1) ∧ wrap64 (n + 1) ≤ 4611686018427387904) : wrap64 (n + 1) = n + 1 := by
  by_cases h1 : n + 1 ≤ 9223372036854775807
  · exact IntWalk.wrap64_in _ (by unfold I64 at hn; omega)
  · exfalso
    have e : n = 9223372036854775807 := by unfold I64 at hn; omega
    subst e
    have e2 : wrap64 (9223372036854775807 + 1) = -9223372036854775808 := by kernel_rfl
    rw [e2] at h
    omega
theorem raw_bytes {c : CM} {L : List ByteArray} (hg : c.Good L) (hl : L.length = c.bn) (r : List Int) : raw 11 6 (c.bytes L ++ r) = ⟨c.rns, c.rts, L.length, L.map nums, (c.bytes L).length, 0⟩ := by
  have h := raw_write (K := 11) (L := 6) c.rns c.rts (L.map nums) r rfl rfl (by rw [List.length_map, hl]; exact hg.few) (fun v hv => by have := hg.rns v hv; omega) hg.rts hg.rbs
  rw [List.length_map] at h
  exact h
theorem got_same {c : CM} {L : List ByteArray} (hg : c.Good L) (hl : L.length = c.bn) (hn : I64 c.n) (R : Raw) (hR : R.ns = c.rns ∧ R.ts = c.rts ∧ R.bs = L.map nums) (bA : Option Addr) (bc : Nat) : CM.gotR R bA bc = c.at_ bA bc ∧ gotLR R = L := by
  obtain ⟨h1, h2, h3⟩ := hR
  refine ⟨?_, ?_⟩
  · have hs := hg.ns
    have q0 := hs c.cl (by simp [CM.ns, CM.shift])
    have q1 := hs c.rq (by simp [CM.ns, CM.shift])
    have q2 := hs c.kd (by simp [CM.ns, CM.shift])
    have q3 := hs (wrap64 (c.n + 1)) (by simp [CM.ns, CM.shift])
    have q4 := hs c.m (by simp [CM.ns, CM.shift])
    have q5 := hs c.vi (by simp [CM.ns, CM.shift])
    have q6 := hs c.re (by simp [CM.ns, CM.shift])
    have q7 := hs c.de (by simp [CM.ns, CM.shift])
    have q8 := hs c.wi (by simp [CM.ns, CM.shift])
    have q9 := hs c.mx (by simp [CM.ns, CM.shift])
    have qn := shift_n hn q3
    unfold CM.gotR CM.of CM.at_
    rw [h1, h2, h3, List.length_map, hl]
    have e0 : c.rns.getD 0 0 = c.cl.toNat := rfl
    have e1 : c.rns.getD 1 0 = c.rq.toNat := rfl
    have e2 : c.rns.getD 2 0 = c.kd.toNat := rfl
    have e3 : c.rns.getD 3 0 = (wrap64 (c.n + 1)).toNat := rfl
    have e4 : c.rns.getD 4 0 = c.m.toNat := rfl
    have e5 : c.rns.getD 5 0 = c.vi.toNat := rfl
    have e6 : c.rns.getD 6 0 = c.re.toNat := rfl
    have e7 : c.rns.getD 7 0 = c.de.toNat := rfl
    have e8 : c.rns.getD 8 0 = c.wi.toNat := rfl
    have e9 : c.rns.getD 9 0 = c.mx.toNat := rfl
    have e10 : c.rns.getD 10 0 = if c.ff then 1 else 0 := rfl
    have f0 : c.rts.getD 0 [] = nums c.qn := rfl
    have f1 : c.rts.getD 1 [] = nums c.dd := rfl
    have f2 : c.rts.getD 2 [] = nums c.bo := rfl
    have f3 : c.rts.getD 3 [] = nums c.gr := rfl
    have f4 : c.rts.getD 4 [] = nums c.ky := rfl
    have f5 : c.rts.getD 5 [] = nums c.rc := rfl
    rw [e0, e1, e2, e3, e4, e5, e6, e7, e8, e9, e10, f0, f1, f2, f3, f4, f5]
    simp only [strOfNums_nums]
    rw [Int.toNat_of_nonneg q0.1, Int.toNat_of_nonneg q1.1, Int.toNat_of_nonneg q2.1, Int.toNat_of_nonneg q3.1, Int.toNat_of_nonneg q4.1, Int.toNat_of_nonneg q5.1, Int.toNat_of_nonneg q6.1, Int.toNat_of_nonneg q7.1, Int.toNat_of_nonneg q8.1, Int.toNat_of_nonneg q9.1, qn]
    have eff : (((if c.ff then 1 else 0 : Nat) : Int) == 1) = c.ff := by cases c.ff <;> rfl
    rw [eff, show c.n + 1 - 1 = c.n by omega]
  · unfold gotLR
    rw [h3, List.map_map]
    conv => rhs; rw [← List.map_id L]
    apply List.map_congr_left
    intro s _
    exact strOfNums_nums s
/-- What was written is read as it was. -/
theorem read_back {c : CM} {L : List ByteArray} (hr : c.right L = true) (hl : L.length = c.bn) (hn : I64 c.n) : noCmd (c.bytes L) = 0 ∧ (∀ bA bc, CM.got (c.bytes L) bA bc = c.at_ bA bc) ∧ gotL (c.bytes L) = L ∧ (raw 11 6 (c.bytes L)).bs.length = c.bn := by
  have hg := CM.good hr
  have hR := raw_bytes hg hl []
  rw [List.append_nil] at hR
  unfold noCmd CM.got gotL
  generalize raw 11 6 (c.bytes L) = R at *
  have hs := fun bA bc => got_same hg hl hn R (by rw [hR]; exact ⟨rfl, rfl, rfl⟩) bA bc
  refine ⟨?_, fun bA bc => (hs bA bc).1, (hs none 0).2, by rw [hR]; simpa using hl⟩
  unfold noCmdR
  rw [(hs none 0).1, (hs none 0).2, hR]
  rw [if_neg (by simp), if_neg (by simp), if_pos]
  have h1 : (c.at_ none 0).right L = true := hr
  have h2 : (c.at_ none 0).bytes L = c.bytes L := rfl
  rw [h1, h2, decide_eq_true rfl]
  rfl
/-- Bytes that end sooner end too soon. -/
theorem read_cut {c : CM} {L : List ByteArray} (hr : c.right L = true) (hl : L.length = c.bn) {k : Nat} (hk : k < (c.bytes L).length) : noCmd ((c.bytes L).take k) = 3 := by
  have hR := raw_bytes (CM.good hr) hl []
  rw [List.append_nil] at hR
  have hc := raw_cut 11 6 (c.bytes L) k
  have ho := (raw_ok 11 6 ((c.bytes L).take k)).1
  unfold noCmd
  generalize raw 11 6 ((c.bytes L).take k) = R at *
  rw [hR] at hc
  rw [List.length_take] at ho
  have h3 : R.why = 3 := by
    rcases hc with h | h
    · simp only [Prod.mk.injEq] at h
      omega
    · exact h
  unfold noCmdR
  rw [if_pos (by omega), h3]
/-- Bytes that go on are none. -/
theorem read_more {c : CM} {L : List ByteArray} (hr : c.right L = true) (hl : L.length = c.bn) (x : Int) : noCmd (c.bytes L ++ [x]) = 2 := by
  have hR := raw_bytes (CM.good hr) hl [x]
  unfold noCmd
  generalize hxs : c.bytes L ++ [x] = xs at *
  generalize raw 11 6 xs = R at *
  unfold noCmdR
  rw [hR]
  rw [if_neg (by simp), if_pos]
  rw [← hxs]
  simp

/-- A Tick of 5. -/
def tick : CM := { CM.zero with n := 5 }
theorem tick_right : tick.right [] = true := by kernel_rfl
theorem tick_bytes : tick.bytes [] = [0, 0, 0, 6, 0, 0, 0, 0, 0, 0, 0, 0, 0, 0, 0, 0, 0, 0] := by
  have e0 : enc 0 = [0] := enc_small (by decide)
  have e6 : enc 6 = [6] := enc_small (by decide)
  have h1 : tick.rns = [0, 0, 0, 6, 0, 0, 0, 0, 0, 0, 0] := by kernel_rfl
  have h2 : tick.rts = [[], [], [], [], [], []] := by kernel_rfl
  unfold CM.bytes encRaw
  rw [h1, h2]
  simp [encN, encTs, encT, e0, e6]

set_option maxHeartbeats 3200000 in
set_option maxRecDepth 100000 in
theorem awake_any (w : World) : Calls Tryz.prog 4 #[] w fun e w' => e = .returned (.bool true) ∧ Below w.heap.size w w' := by
  obtain ⟨rb1, rb2, _, _⟩ := read_back tick_right rfl (by unfold I64; decide)
  rw [tick_bytes] at rb1 rb2
  have RB1 := Lib.hid rb1; have RB2 := Lib.hid rb2
  clear rb1 rb2
  have by18 : ∀ x ∈ ([0, 0, 0, 6, 0, 0, 0, 0, 0, 0, 0, 0, 0, 0, 0, 0, 0, 0] : List Int), 0 ≤ x ∧ x < 256 := by decide
  have by3 : ∀ x ∈ ([6, 0, 0] : List Int), 0 ≤ x ∧ x < 256 := by decide
  have BY18 := Lib.hid by18; have BY3 := Lib.hid by3
  clear by18 by3
  go_enter Tryz.func4, Tryz.ntmps4
  go_wp2_with fail
  refine (Write_ok tick [] w (TRd.none_ _ _) tick_right).mono ?_
  rintro e w1 ⟨A1, n1, d1, rfl, hr1, hb1⟩
  rw [tick_bytes] at hr1
  obtain rfl : n1 = 18 := hr1.len.symm
  have HR1 := Lib.hid hr1; have HB1 := Lib.hid hb1
  clear hr1 hb1
  go_wp2_with fail
  refine (Read_any A1 18 d1 _ w1 HR1.out BY18.out (by omega)).mono ?_
  rintro e w2 ⟨c, er, rfl, hb2, hp⟩
  have hcn : ∃ bA bc, c = tick.at_ bA bc ∧ er = .nilIface := by
    rcases hp with ⟨hne, _⟩ | ⟨_, bA, bc, hc, he, _⟩
    · exact absurd RB1.out hne
    · exact ⟨bA, bc, by rw [hc]; exact RB2.out bA bc, he⟩
  obtain ⟨bA, bc, rfl, rfl⟩ := hcn
  have HB2 := Lib.hid (HB1.out.trans (hb2.mono HB1.out.size))
  have HR2 := Lib.hid (HR1.out.below hb2)
  have hs1 := hb2.size
  have io := (tick.at_ bA bc).info
  have oo := (tick.at_ bA bc).ones
  have so := (tick.at_ bA bc).size
  have h16 : (tick.at_ bA bc).cells[16]? = some (.int .i64 5) := rfl
  generalize (tick.at_ bA bc).cells = co at *
  have IO := Lib.hid io; have OO := Lib.hid oo; have SO := Lib.hid so; have H16 := Lib.hid h16
  clear hp hb2 io oo so h16
  go_upto_region 3 with (refine wpList_store_row (o := ⟨none, .store 50 (.tmp 3) (.tmp 15), _, _, _, _⟩) rfl 50 (.tmp 3) (.tmp 15) rfl w2.heap.size co rfl rfl 50 CM.zero.cells (heap_alloc_new w2 _) IO.out (by rw [SO.out]; rfl) OO.out ?_)
  have hc3 : ((w2.alloc (.cells CM.zero.cells 50)).setRow w2.heap.size co).cell? ⟨w2.heap.size, 16, none⟩ = some (.int .i64 5) := by
    rw [cell_of_row _ _ _ _ _ _ (setRow_heap _ _ _ co _ _ (heap_alloc_new w2 (.cells CM.zero.cells 50)))]
    exact H16.out
  have hb3 : Below w2.heap.size w2 ((w2.alloc (.cells CM.zero.cells 50)).setRow w2.heap.size co) := below_setRow ((Below.refl _ _).alloc (Nat.le_refl _) _) (Nat.le_refl _) _
  have hs3 : ((w2.alloc (.cells CM.zero.cells 50)).setRow w2.heap.size co).heap.size = w2.heap.size + 1 := by simp
  change Code.wp _ _ _ _ ((w2.alloc (.cells CM.zero.cells 50)).setRow w2.heap.size co)
  generalize (w2.alloc (.cells CM.zero.cells 50)).setRow w2.heap.size co = w3 at *
  have HB3 := Lib.hid (HB2.out.trans (hb3.mono HB2.out.size))
  have HR3 := Lib.hid (HR2.out.below (hb3.mono hs1))
  clear hb3
  go_wp2_with fail
  refine (WriteAns6 w3).mono ?_
  rintro e w4 ⟨A4, d4, rfl, hr4, hb4⟩
  have HB4 := Lib.hid (HB3.out.trans (hb4.mono HB3.out.size))
  have HR4 := Lib.hid (HR3.out.below (hb4.mono (by omega)))
  have HA4 := Lib.hid hr4
  have hc4 := (hb4.cell (p := ⟨w2.heap.size, 16, none⟩) (by show w2.heap.size < _; omega)).trans hc3
  have hs4 := hb4.size
  clear hr4 hb4 hc3
  go_wp2_with fail
  have HL1 : Hid (Rd (w4.alloc (.cells #[.int .u8 0, .int .u8 0, .int .u8 0, .int .u8 6, .int .u8 0, .int .u8 0, .int .u8 0, .int .u8 0, .int .u8 0, .int .u8 0, .int .u8 0, .int .u8 0, .int .u8 0, .int .u8 0, .int .u8 0, .int .u8 0, .int .u8 0, .int .u8 0] 5)) (w4.heap.size + 1) .u8 (some ⟨w4.heap.size, 0, none⟩) 18 18 [0, 0, 0, 6, 0, 0, 0, 0, 0, 0, 0, 0, 0, 0, 0, 0, 0, 0]) := Lib.hid (Rd.lit w4 .u8 5 [0, 0, 0, 6, 0, 0, 0, 0, 0, 0, 0, 0, 0, 0, 0, 0, 0, 0] (by decide))
  have HR5 := Lib.hid ((HR4.out.more (Nat.le_trans hs1 (by omega))).alloc (Nat.le_refl _) (.cells #[.int .u8 0, .int .u8 0, .int .u8 0, .int .u8 6, .int .u8 0, .int .u8 0, .int .u8 0, .int .u8 0, .int .u8 0, .int .u8 0, .int .u8 0, .int .u8 0, .int .u8 0, .int .u8 0, .int .u8 0, .int .u8 0, .int .u8 0, .int .u8 0] 5))
  have HA5 := Lib.hid (HA4.out.alloc (Nat.le_refl _) (.cells #[.int .u8 0, .int .u8 0, .int .u8 0, .int .u8 6, .int .u8 0, .int .u8 0, .int .u8 0, .int .u8 0, .int .u8 0, .int .u8 0, .int .u8 0, .int .u8 0, .int .u8 0, .int .u8 0, .int .u8 0, .int .u8 0, .int .u8 0, .int .u8 0] 5))
  have HB5 := Lib.hid (HB4.out.alloc HB4.out.size (.cells #[.int .u8 0, .int .u8 0, .int .u8 0, .int .u8 6, .int .u8 0, .int .u8 0, .int .u8 0, .int .u8 0, .int .u8 0, .int .u8 0, .int .u8 0, .int .u8 0, .int .u8 0, .int .u8 0, .int .u8 0, .int .u8 0, .int .u8 0, .int .u8 0] 5))
  have hc5 : (w4.alloc (.cells #[.int .u8 0, .int .u8 0, .int .u8 0, .int .u8 6, .int .u8 0, .int .u8 0, .int .u8 0, .int .u8 0, .int .u8 0, .int .u8 0, .int .u8 0, .int .u8 0, .int .u8 0, .int .u8 0, .int .u8 0, .int .u8 0, .int .u8 0, .int .u8 0] 5)).cell? ⟨w2.heap.size, 16, none⟩ = some (.int .i64 5) := by
    rw [World.cell?_alloc_lt _ _ _ (by show w2.heap.size < _; omega)]; exact hc4
  have hs5 : (w4.alloc (.cells #[.int .u8 0, .int .u8 0, .int .u8 0, .int .u8 6, .int .u8 0, .int .u8 0, .int .u8 0, .int .u8 0, .int .u8 0, .int .u8 0, .int .u8 0, .int .u8 0, .int .u8 0, .int .u8 0, .int .u8 0, .int .u8 0, .int .u8 0, .int .u8 0] 5)).heap.size = w4.heap.size + 1 := by simp
  generalize w4.alloc (.cells #[.int .u8 0, .int .u8 0, .int .u8 0, .int .u8 6, .int .u8 0, .int .u8 0, .int .u8 0, .int .u8 0, .int .u8 0, .int .u8 0, .int .u8 0, .int .u8 0, .int .u8 0, .int .u8 0, .int .u8 0, .int .u8 0, .int .u8 0, .int .u8 0] 5) = w5 at *
  refine (Equal_any A1 (some ⟨w4.heap.size, 0, none⟩) 18 d1 18 18 _ _ _ _ w5 HR5.out HL1.out BY18.out BY18.out).mono ?_
  rw [decide_eq_true rfl]
  rintro e w6 ⟨rfl, rfl⟩
  clear hc4
  go_wp2_with fail
  have HL2 : Hid (Rd (w5.alloc (.cells #[.int .u8 6, .int .u8 0, .int .u8 0] 5)) (w5.heap.size + 1) .u8 (some ⟨w5.heap.size, 0, none⟩) 3 3 [6, 0, 0]) := Lib.hid (Rd.lit w5 .u8 5 [6, 0, 0] (by decide))
  have HA6 := Lib.hid ((HA5.out.more (by omega : w4.heap.size ≤ w5.heap.size)).alloc (Nat.le_refl _) (.cells #[.int .u8 6, .int .u8 0, .int .u8 0] 5))
  have HB6 := Lib.hid (HB5.out.alloc HB5.out.size (.cells #[.int .u8 6, .int .u8 0, .int .u8 0] 5))
  generalize w5.alloc (.cells #[.int .u8 6, .int .u8 0, .int .u8 0] 5) = w6 at *
  rw [hs5] at HL2
  refine (Equal_any A4 (some ⟨w4.heap.size + 1, 0, none⟩) 3 d4 3 3 _ _ _ _ w6 HA6.out HL2.out BY3.out BY3.out).mono ?_
  rw [decide_eq_true rfl]
  rintro e w7 ⟨rfl, rfl⟩
  go_wp2_with fail
  go_ret
  exact ⟨rfl, HB6.out⟩
end Go.Proofs.YtkdncnhjlgidnaaGreatDoor
