/- What is proved here: the laws' own 'Same': a disk and the document's own disk with the same files. -/
import Derived.Test.YtpolkhippblcmaaDoAll
import Derived.Test.YtpolkhippblcmaaTwo
namespace Go.Proofs.Ytpolkhippblcmaa
open Go Go.RowKit Go.Maps

theorem bdrewN {w w' : World} {B : Nat} (h : Below B w w') (q : Nat) : Below B w (w'.drewN q) := ⟨h.os, h.tape, h.output, h.size, h.block⟩
theorem nameV_of (s : ByteArray) : nameV s.data.toList = .string s := by
  cases s with
  | mk d => cases d with
    | mk l => rfl
/-- Read, where the file is there. -/
theorem read_there {w : World} {d : Nat} {room : Int} {S : List RF} {Φ : Nat → Prop} (h : DiskAt w d room S Φ) {s : ByteArray} (hs : s.size ≤ maxLen) {f : RF} (hf : findN S s.data.toList = some f) {N : Nat} (hN : f.b.length = N) :
    Calls Try.prog 15 #[.pointer (some ⟨d, 0, none⟩), .string s] w fun e w' => ∃ A c, e = .returned (.tuple #[.slice A N c, .int .i64 0]) ∧ w'.ownsRow w.heap.size 5 1 (.slice A N c) N (f.b.map (Value.int .u8)) ∧ Below w.heap.size w w' := by
  subst hN
  refine (Read_any h s hs).mono ?_
  rintro e w' ⟨hb, h1⟩
  rw [hf] at h1
  rcases h1 with ⟨h1, _⟩ | ⟨f', A, c, h1, h3, h4⟩
  · cases h1
  · cases h1
    exact ⟨A, c, h3, h4, hb⟩

set_option maxHeartbeats 3200000 in
set_option maxRecDepth 100000 in
theorem Same_any {w : World} {d : Nat} {room R : Int} {S : List RF} {Φ Ψ : Nat → Prop} {A : Option Addr} {n c : Nat} {L : List RV} (hD : DiskAt w d room S Φ) (hR : RRd w Ψ A n c L) (hL : L.map RV.f = S) (hn : n ≤ 1000000) :
    Calls Try.prog 12 #[.pointer (some ⟨d, 0, none⟩), .agg #[.int .i64 R, .slice A n c]] w fun e w' => e = .returned (.bool true) ∧ Below w.heap.size w w' := by
  obtain ⟨W, hW⟩ : ∃ W, W = w.alloc (.cells #[.int .i64 R, .slice A n c] 29) := ⟨_, rfl⟩
  have hb : Below w.heap.size w W := by rw [hW]; exact (Below.refl _ _).alloc (Nat.le_refl _) _
  have hWs : W.heap.size = w.heap.size + 1 := by rw [hW]; simp
  have hbx : W.heap[w.heap.size]? = some (.cells #[.int .i64 R, .slice A n c] 29 (0, 0)) := by rw [hW]; exact heap_alloc_new w _
  have hSl : S.length = n := by rw [← hL, List.length_map, hR.len]
  have hri := hD.rising
  have hc := hR.cap
  have hm := hR.max
  unfold maxLen at hm
  have HDK := Lib.hid fun V (hV : Below W.heap.size W V) => hD.later (hb.trans (hV.mono hb.size))
  have HRR := Lib.hid fun V (hV : Below W.heap.size W V) => hR.later (hb.trans (hV.mono hb.size))
  have HBX : Hid (∀ V, Below W.heap.size W V → w.heap.size < V.heap.size ∧ V.cell? ⟨w.heap.size, 0, none⟩ = some (.int .i64 R) ∧ V.cell? ⟨w.heap.size, 1, none⟩ = some (.slice A n c)) := Lib.hid fun V hV => by
    have h0 : V.heap[w.heap.size]? = _ := (hV.block w.heap.size (by omega)).trans hbx
    obtain ⟨c0, c1, _⟩ := two_cells h0
    exact ⟨lt_of_block h0, c0, c1⟩
  have HNA : Hid (Calls Try.prog 14 #[.pointer (some ⟨d, 0, none⟩)] W fun e w' => ∃ A1 c1, e = .returned (.slice A1 n c1) ∧ w'.ownsRow W.heap.size 9 1 (.slice A1 n c1) n (S.map fun f => nameV f.nm) ∧ Below W.heap.size W w') := Lib.hid (by
    have := Names_any (HDK.out W (Below.refl _ _)) (by omega)
    unfold NamesSaid at this
    rwa [hSl] at this)
  obtain ⟨U, hU⟩ : ∃ U, U = usedN S := ⟨_, rfl⟩
  have HU1 : Hid (∀ w1, Below W.heap.size W w1 → ∀ V, Below w1.heap.size w1 V → Calls Try.prog 21 #[.pointer (some ⟨d, 0, none⟩)] V fun e w' => e = .returned (.int .i64 U) ∧ w'.cell? ⟨w.heap.size, 0, none⟩ = some (.int .i64 R) ∧ w'.cell? ⟨w.heap.size, 1, none⟩ = some (.slice A n c) ∧ Below w1.heap.size w1 w') := Lib.hid fun w1 h1 V hV => by
    have hV2 := h1.trans (hV.mono h1.size)
    refine (Used_any (HDK.out V hV2)).mono ?_
    rintro e w' ⟨rfl, rfl⟩
    exact ⟨by rw [hU], (HBX.out V hV2).2.1, (HBX.out V hV2).2.2, hV⟩
  have HU2 : Hid (∀ w1, Below W.heap.size W w1 → ∀ V, Below w1.heap.size w1 V → Calls Try.prog 25 #[.agg #[.int .i64 R, .slice A n c]] V fun e w' => e = .returned (.int .i64 U) ∧ w'.cell? ⟨w.heap.size, 0, none⟩ = some (.int .i64 R) ∧ w'.cell? ⟨w.heap.size, 1, none⟩ = some (.slice A n c) ∧ Below w1.heap.size w1 w') := Lib.hid fun w1 h1 V hV => by
    have hV2 := h1.trans (hV.mono h1.size)
    refine (refUsed_any (HRR.out V hV2) hn).mono ?_
    rintro e w' ⟨rfl, hb'⟩
    have hV' := hV.trans (hb'.mono hV.size)
    have hV3 := h1.trans (hV'.mono h1.size)
    exact ⟨by rw [hU, hL], (HBX.out w' hV3).2.1, (HBX.out w' hV3).2.2, hV'⟩
  -- a round
  have HAT : Hid (∀ V j, Below W.heap.size W V → j < n → ∃ x b o, L[j]? = some x ∧ A = some ⟨b, o, none⟩ ∧ b < V.heap.size ∧ V.cell? ⟨b, o + j * 3, none⟩ = some (.string x.sv) ∧ V.cell? ⟨b, o + j * 3 + 1, none⟩ = some (.slice x.A x.b.length x.c) ∧ V.cell? ⟨b, o + j * 3 + 2, none⟩ = some (.int .i64 x.s)) := Lib.hid fun V j hV hj => by
    obtain ⟨x, b, o, hx, _, e, hB, hcell, _⟩ := (HRR.out V hV).at hj
    exact ⟨x, b, o, hx, e, hB, hcell 0 _ rfl, hcell 1 _ rfl, hcell 2 _ rfl⟩
  have HIN : Hid (∀ j x, L[j]? = some x → (∀ V, Below W.heap.size W V → RVOk V Ψ x) ∧ findN S x.sv.data.toList = some x.f ∧ (S.map fun f => nameV f.nm)[j]? = some (Value.string x.sv) ∧ x.sv.size ≤ maxLen) := Lib.hid fun j x hx => by
    refine ⟨fun V hV => (HRR.out V hV).ok x (List.mem_of_getElem? hx), ?_, ?_, ?_⟩
    · rw [← hL]
      exact at_some (by rw [hL]; exact hri) hx rfl
    · rw [← hL, List.map_map, List.getElem?_map, hx]
      exact congrArg some (nameV_of x.sv)
    · have := (hR.ok x (List.mem_of_getElem? hx)).sn
      unfold maxLen
      omega
  have HW := Lib.hid hW
  have HB := Lib.hid hb
  have HWS := Lib.hid hWs
  clear hD hR hL hb hbx hSl hri hU hWs hW
  go_enter Try.func12, Try.ntmps12
  go_wp2_with (rw [← HW.out]; go_at_call 14; refine HNA.out.mono ?_; rintro e w1 ⟨A1, c1, rfl, ho1, hb1⟩; have HO1 := Lib.hid ho1; have HB1 := Lib.hid hb1; obtain ⟨l0, a0, a1⟩ := HBX.out w1 hb1; clear ho1 hb1)
  have HR0 : Hid (Below w1.heap.size w1 w1) := Lib.hid (Below.refl _ _)
  go_region_held3 (fun w' => w'.cell? ⟨w.heap.size, 0, none⟩ = some (.int .i64 R) ∧ w'.cell? ⟨w.heap.size, 1, none⟩ = some (.slice A n c) ∧ Below w1.heap.size w1 w')
    (first | exact ⟨by assumption, by assumption, by assumption⟩ | exact ⟨a0, a1, HR0.out⟩ | exact ⟨by assumption, by assumption, Below.drew (by assumption)⟩ | exact ⟨a0, a1, HR0.out.drew⟩)
    (first
      | (go_at_call 21; refine (HU1.out w1 HB1.out _ (by first | assumption | exact HR0.out | exact HR0.out.drew)).mono ?_; rintro e w2 ⟨rfl, h1, h2, h3⟩)
      | (go_at_call 25; refine (HU2.out w1 HB1.out _ (by first | assumption | exact HR0.out | exact HR0.out.drew)).mono ?_; rintro e w2 ⟨rfl, h1, h2, h3⟩))
  have HB2 : Hid (Below w1.heap.size w1 w2) := Lib.hid h3
  clear a0 a1 l0 h3
  have l0 : w.heap.size < w2.heap.size := (HBX.out w2 (HB1.out.trans (HB2.out.mono HB1.out.size))).1
  go_wp2_with fail
  go_loopw [28] (fun i wr => ∃ k : Nat, i = .int .i64 k ∧ k ≤ n ∧ Hid (Below w1.heap.size w1 wr)) (fun i _ => n - (intOf i).toNat)
  case atStart => exact ⟨0, rfl, Nat.zero_le _, HB2⟩
  case round =>
    obtain ⟨k, rfl, hk, HBR⟩ := hrel
    clear h1 h2
    have HBW : Hid (Below W.heap.size W wr) := Lib.hid (HB1.out.trans (HBR.out.mono HB1.out.size))
    by_cases hkn : k < n
    · obtain ⟨x, b, o, hx, rfl, hbB, e0, e1, e2⟩ := HAT.out wr k HBW.out hkn
      obtain ⟨hxo, hfd, hnm, hsz⟩ := HIN.out k x hx
      have hok := hxo wr HBW.out
      have hxl : x.b.length ≤ 1048576 := hok.len
      have hxs : x.s ≤ x.b.length := hok.syn
      have hxc : x.b.length ≤ x.c := hok.rd.cap
      have hxm : x.c ≤ 9223372036854775807 := hok.rd.max
      obtain ⟨g, rfl, hg1, hg2, hcn⟩ := own_cell HO1.out hnm
      obtain ⟨lo, hlo⟩ : ∃ lo : Nat, lo = x.b.length - x.s := ⟨_, rfl⟩
      have hw : IntKind.i64.wrap ((x.b.length : Int) - (x.s : Int)) = (lo : Int) := by rw [IntWalk.i64_in _ (by omega)]; omega
      obtain ⟨V, hV⟩ : ∃ V, V = wr.alloc (.cells #[.string x.sv, .slice x.A x.b.length x.c, .int .i64 x.s] 48) := ⟨_, rfl⟩
      have hbV : Below wr.heap.size wr V := by rw [hV]; exact (Below.refl _ _).alloc (Nat.le_refl _) _
      have hVf : V.heap[wr.heap.size]? = some (.cells #[.string x.sv, .slice x.A x.b.length x.c, .int .i64 x.s] 48 (0, 0)) := by rw [hV]; exact heap_alloc_new wr _
      have hVW : Below W.heap.size W V := HBW.out.trans (hbV.mono HBW.out.size)
      have HRE : Hid (Calls Try.prog 15 #[.pointer (some ⟨d, 0, none⟩), .string x.sv] V fun e w' => ∃ A6 c6, e = .returned (.tuple #[.slice A6 x.b.length c6, .int .i64 0]) ∧
          wr.heap.size < w'.heap.size ∧ w'.cell? ⟨wr.heap.size, 0, none⟩ = some (.string x.sv) ∧ w'.cell? ⟨wr.heap.size, 1, none⟩ = some (.slice x.A x.b.length x.c) ∧ w'.cell? ⟨wr.heap.size, 2, none⟩ = some (.int .i64 x.s) ∧ w'.cell? ⟨g, k, none⟩ = some (.string x.sv) ∧
          x.b.length ≤ c6 ∧ Hid (Below w1.heap.size w1 w') ∧ Hid (∀ q, Calls Try.prog 16 #[.slice A6 x.b.length c6, .slice x.A x.b.length x.c] (w'.drewN q) fun e w2 => e = .returned (.bool true) ∧ w2 = w'.drewN q) ∧
          Hid (∀ q, Calls Try.prog 17 #[.pointer (some ⟨d, 0, none⟩), .string x.sv] (w'.drewN q) fun e w2 => e = .returned (.int .i64 lo) ∧ ∃ m, w2 = (w'.drewN q).drewN m)) := Lib.hid (by
        refine (read_there (HDK.out V hVW) hsz hfd rfl).mono ?_
        rintro e w' ⟨A6, c6, rfl, ho6, hb6⟩
        have hb7 : Below wr.heap.size wr w' := hbV.trans (hb6.mono hbV.size)
        have hf7 : w'.heap[wr.heap.size]? = _ := (hb6.block wr.heap.size (lt_of_block hVf)).trans hVf
        obtain ⟨f0, f1, f2, _⟩ := three_cells hf7
        have hbw' : Below W.heap.size W w' := HBW.out.trans (hb7.mono HBW.out.size)
        obtain ⟨A7, c7, e7, hr7⟩ := Rd.of_own ho6
        cases e7
        have hr7c := hr7.cap
        refine ⟨A6, c6, rfl, lt_of_block hf7, f0, f1, f2, ?_, hr7c, Lib.hid (HBR.out.trans (hb7.mono HBR.out.size)), Lib.hid fun q => ?_, Lib.hid fun q => ?_⟩
        · rw [hb7.cell (p := ⟨g, k, none⟩) (Nat.lt_of_lt_of_le hg2 HBR.out.size), HBR.out.cell (p := ⟨g, k, none⟩) hg2]
          rw [Nat.zero_add] at hcn
          exact hcn
        · have hrx := (hxo (w'.drewN q) (bdrewN hbw' q)).rd
          have := Equal_any A6 x.A x.b.length c6 x.b.length x.c _ _ x.b x.b (w'.drewN q) (hr7.below (bdrewN (Below.refl _ _) q)) hrx hok.byt hok.byt
          rw [decide_eq_true rfl] at this
          exact this.mono fun e w2 hh => ⟨hh.1, hh.2.symm⟩
        · have := Loose_any (HDK.out (w'.drewN q) (bdrewN hbw' q)) x.sv hsz
          rwa [show looseF S x.sv.data.toList = lo by unfold looseF; rw [hfd, hlo]; rfl] at this)
      have HV := Lib.hid hV
      have hkn' : (k : Int) < n := by omega
      clear hok hx hxo hfd hnm hcn hlo hV hbV hVf hVW
      generalize x.b.length = xl at *
      go_wp2_with (rw [← HV.out]; go_at_call 15; refine HRE.out.mono ?_; rintro e w6 ⟨A6, c6, rfl, l6, f0, f1, f2, fn, hc6, HB6, HEQ, HLO⟩)
      go_upto_region 8 with fail
      go_quiet ((first | (go_at_call 16; exact Calls.quiet_of_same (HEQ.out _)) | (go_at_call 17; exact Calls.quiet_of (HLO.out _))))
      clear hw
      go_wp2_with fail
      go_roundw
      case rel => exact ⟨k + 1, by go_num, by omega, Lib.hid (bdrewN HB6.out _)⟩
      case measure => simp [intOf]; omega
    · obtain rfl : k = n := by omega
      go_wp2_with fail
      go_ret
      exact ⟨rfl, HB.out.trans (HBW.out.mono HB.out.size)⟩
end Go.Proofs.Ytpolkhippblcmaa
