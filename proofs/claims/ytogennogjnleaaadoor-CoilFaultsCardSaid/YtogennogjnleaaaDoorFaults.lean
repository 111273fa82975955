/- What is proved here: 'CoilFaults' returns true for any bytes and any number, whatever the memory in which it is called (the listed variables as the program's text lays them), and nothing that was there has changed. -/
import Derived.Test.YtogennogjnleaaaDoorScene2
namespace Go.Proofs.YtogennogjnleaaaDoor
open Go Go.RowKit

theorem Done_fault (g : Nat) (A : Option Addr) (n c : Nat) (xs : List Int) (p why : Nat) (w : World) (hr : Rdr w g A n c xs p why) (hw : why = 0 ∨ why = 2 ∨ why = 3) (hn : n ≤ 1000000) (hp : why = 0 → p < n) :
    Calls Tryd.prog 8 #[.pointer (some ⟨g, 0, none⟩)] w fun e w' =>
      ∃ f er : Nat, e = .returned (.iface 35 (.pointer (some ⟨f, 0, none⟩))) ∧ Blk w' f 39 #[.int .i64 p, .iface 32 (.int .i64 er)] ∧ er ≤ 3 ∧ Below w.heap.size w w' := by
  rcases hw with rfl | hw
  · exact (Done_more g A n c xs p w hr hn (hp rfl)).mono fun _ _ ⟨f, he, hf, hb⟩ => ⟨f, 2, he, hf, by omega, hb⟩
  · exact (Done_bad g A n c xs p why w hr hw).mono fun _ _ ⟨f, he, hf, hb⟩ => ⟨f, why, he, hf, by omega, hb⟩

/-- A region of which one frame alone comes, and a fact on the world. -/
theorem wp_thru {P : Program} {id : Nat} {ops : Array Oper} {b : Bool} {Q : Exit → Act → World → Prop} {a : Act} {w : World} (F : Act → Act) (S : World → Prop)
    (h : (Code.region id ops b).wp P (NoPanic fun e a' w' => e = .normal ∧ a' = F a ∧ S w') a w) (h2 : ∀ w', S w' → Q .normal (F a) w') : (Code.region id ops b).wp P Q a w :=
  Code.wp_mono (fun _ _ w' h' => by obtain ⟨rfl, rfl, hs⟩ := NoPanic.imp _ _ _ h'; exact h2 w' hs) h
/-- The slots that the region's operations write. -/
def putAll : List (Nat × Value) → Act → Act
  | [], a => a
  | (i, v) :: l, a => putAll l (a.put (some i) v)

set_option maxHeartbeats 2000000 in
set_option maxRecDepth 100000 in
theorem faults_short (A : Option Addr) (n c : Nat) (xs : List Int) (many : Int) (w : World) (hE : ErrType w) (hT : Tab w) (h : Rd w w.heap.size .u8 A n c xs) (hx : ∀ x ∈ xs, 0 ≤ x ∧ x < 256) (hn : n ≤ 400) (hm0 : 0 ≤ many) (hm1 : many ≤ 20) :
    Calls Tryd.prog 3 #[.slice A n c, .int .i64 many] w fun e w' => e = .returned (.bool true) ∧ Below w.heap.size w w' := by
  have HX := Lib.hid hx
  have HLEN := Lib.hid h.len
  clear hx
  go_enter Tryd.func3, Tryd.ntmps3
  go_wp2_with fail
  refine (Of_any A n c _ w h (by omega)).mono ?_
  rintro e w3 ⟨g, A4, c4, rfl, hg, hr, hb4⟩
  go_wp2_with fail
  go_loopw [26] (fun v26 wr => ∃ (j : Nat) (p why : Nat), v26 = .int .i64 j ∧ (j : Int) ≤ many ∧ p ≤ n ∧ Hid (why = 0 ∨ why = 2 ∨ why = 3) ∧ Rdr wr g A4 n c4 xs p why ∧ Below w.heap.size w wr)
    (fun i _ => (many - intOf i).toNat)
  case atStart => exact ⟨0, 0, 0, rfl, by omega, by omega, Lib.hid (.inl rfl), hr, hb4⟩
  case round =>
    obtain ⟨j, p, why, rfl, hj, hp, hwhy, hrd, hb⟩ := hrel
    clear hr hb4
    have hz := hb.size
    by_cases hlt : (j : Int) < many
    · have his := goNum_is xs p why (by rw [HLEN.out]; exact hp) hwhy.out
      rw [HLEN.out] at his
      have hp' := his.1
      have HW := Lib.hid his.2.2
      have H := Lib.hid (ReaderNum_any g A4 n c4 xs p why wr hrd hwhy.out HX.out (by omega) hp)
      clear his hrd
      generalize goNum xs p why = T at *
      go_wp2_with fail
      refine H.out.mono ?_
      rintro e w4 ⟨rfl, hrd, hgr⟩
      go_wp2_with fail
      go_roundw
      case rel => exact ⟨j + 1, T.2.1, T.2.2, by go_num, by omega, hp', HW, hrd, hb.trans (below_grow hgr (by omega) hz)⟩
      case measure => simp [intOf]; omega
    · by_cases hdone : why = 0 ∧ p = n
      · obtain ⟨rfl, rfl⟩ := hdone
        go_wp2_with fail
        refine (Done_fine g A4 p c4 xs wr hrd (by omega)).mono ?_
        rintro e w5 ⟨rfl, hb5⟩
        have hrd5 := hrd.keep hb5
        have hb05 := hb.trans (hb5.mono hz)
        have c0 := hrd5.1.cell 0
        have c1 := hrd5.1.cell 1
        simp at c0 c1
        clear hrd hrd5 hb hb5
        go_wp2_with fail
        refine (Left_any A4 p c4 _ w5 (by omega) (by omega) (by omega)).mono ?_
        rintro e w6 ⟨rfl, rfl⟩
        have hb06 := hb05.alloc hb05.size (.cells #[.slice A4 p c4, .int .i64 (p : Int)] 31)
        go_wp2_with fail
        refine (awake_any _).mono ?_
        rintro e w7 ⟨rfl, hb7⟩
        go_wp2_with fail
        go_ret
        exact ⟨rfl, hb06.trans (hb7.mono hb06.size)⟩
      · have hpn : why = 0 → p < n := fun h0 => by
          rcases Nat.lt_or_ge p n with h1 | h1
          · exact h1
          · exact absurd ⟨h0, by omega⟩ hdone
        have HPN := Lib.hid hpn
        clear hpn hdone
        go_wp2_with fail
        refine (Done_fault g A4 n c4 xs p why wr hrd hwhy.out (by omega) HPN.out).mono ?_
        rintro e w5 ⟨f, er, rfl, hf, her, hb5⟩
        have hb05 := hb.trans (hb5.mono hz)
        have sc : Scene w.heap.size w g A4 n c4 xs p why f er w5 := ⟨hb05, hrd.keep hb5, hf, hE.below hb05, hT.below hb05⟩
        have hgl := sc.rdr.1.lt
        have hfl := sc.flt.lt
        have htl := sc.tab.lt
        have hBl := sc.below.size
        have sc6 := sc.on (Nat.le_refl _) ((Below.refl _ _).alloc (Nat.le_refl _) (.cells #[.pointer none] 35))
        have h7 : Blk (w5.alloc (.cells #[.pointer none] 35)) w5.heap.size 35 #[.pointer none] := Blk.fresh _ _ _
        have SC := Lib.hid sc6
        have H7 := Lib.hid h7
        have c0 := sc6.c0
        have c1 := sc6.c1
        have f0 := sc6.f0
        clear hb hb5 hrd hf hb05 sc sc6 h7
        go_wp2_with fail
        refine wp_thru (putAll [(44, .iface 35 (.pointer (some ⟨f, 0, none⟩))), (45, .iface 37 (.pointer (some ⟨w5.heap.size, 0, none⟩))), (46, .bool true), (47, .bool false), (48, .bool false), (49, .pointer (some ⟨f, 0, none⟩)), (50, .pointer (some ⟨f, 0, none⟩)), (51, .pointer (some ⟨f, 0, none⟩)), (52, .int .i64 (p : Int)), (53, .pointer (some ⟨g, 0, none⟩)), (54, .pointer (some ⟨g, 0, none⟩)), (55, .pointer (some ⟨g, 0, none⟩)), (56, .agg #[.slice A4 n c4, .int .i64 (p : Int)]), (57, .int .i64 (p : Int)), (58, .bool false), (59, .bool false), (60, .bool false), (61, .pointer (some ⟨f, 0, none⟩)), (62, .iface 32 (.int .i64 (er : Int))), (63, .int .i64 (er : Int)), (64, .iface 35 (.pointer (some ⟨f, 0, none⟩))), (65, .int .i64 (er : Int)), (66, .bool false), (67, .bool false)])
          (fun w' => Aft w.heap.size w g A4 n c4 xs p why f er w5.heap.size w') ?reg ?rest
        case reg =>
          rename_i Q1 h1 h2 K3 Q2 K2 a2 K1 a1 K0 a0
          clear a0 K0 a1 K1 a2 K2 Q2 K3 h1 h2 Q1 HPN hwhy HX HLEN hlt hj hE hT h hz hg hp hn hm0 hm1
          go_region_with (first
            | (go_at_call 10
               refine (As_aft w.heap.size w g A4 n c4 xs p why f er w5.heap.size _ (SC.out.drew (Nat.le_refl _)) (H7.out.drew) hgl hfl htl hBl).mono ?_
               rintro e w' ⟨rfl, ha⟩
               have c0 := ha.1.c0; have c1 := ha.1.c1; have f0 := ha.1.f0; have v0 := ha.v0)
            | (go_at_call 11
               refine (At_aft w.heap.size w g A4 n c4 xs p why f er w5.heap.size _ (Nat.le_refl _) (by assumption)).mono ?_
               rintro e w' ⟨rfl, ha⟩
               have c0 := ha.1.c0; have c1 := ha.1.c1; have f0 := ha.1.f0; have v0 := ha.v0)
            | (go_at_call 13
               refine (Unwrap_any f (.iface 32 (.int .i64 (er : Int))) p _ (Aft.flt (by assumption))).mono ?_
               rintro e w' ⟨rfl, rfl⟩)
            | (go_at_call 12
               refine (Code_aft w.heap.size w g A4 n c4 xs p why f er w5.heap.size _ (Nat.le_refl _) (by assumption) _ _ (by first | exact wraps_num _ _ | exact Aft.wraps (by assumption))).mono ?_
               rintro e w' ⟨rfl, ha⟩
               have c0 := ha.1.c0; have c1 := ha.1.c1; have f0 := ha.1.f0; have v0 := ha.v0))
          all_goals
            refine NoPanic.normal ⟨rfl, ?_, by assumption⟩
            simp only [putAll, Act.put, List.setIfInBounds_toArray, List.set_cons_zero, List.set_cons_succ, List.getElem_toArray, List.getElem_cons_zero, List.getElem_cons_succ]
        case rest =>
          intro w8 ha
          simp only [putAll, Act.put, List.setIfInBounds_toArray, List.set_cons_zero, List.set_cons_succ]
          have h9 : Fin w.heap.size w g A4 n c4 xs p why f er w5.heap.size w8.heap.size (w8.alloc (.cells #[.int .i64 (p : Int), .nilIface] 39)) :=
            ⟨ha.on (Nat.le_refl _) ((Below.refl _ _).alloc (Nat.le_refl _) _), Blk.fresh _ _ _⟩
          have H9 := Lib.hid h9
          have v9 := h9.v0
          have f0 := ha.1.f0
          have v0 := ha.v0
          have hcat := faultText_cat p (numText er)
          have z1 := faultText_size p ⟨#[]⟩
          have z2 := digs_size p (by omega) (by omega)
          have z3 := digs_pos p
          have z4 : (numText er).size ≤ 31 := by
            have := digs_size er (by omega) (by omega)
            unfold numText
            rw [ByteArray.size_append]
            show 11 + _ ≤ 31
            omega
          have z0 : (⟨#[]⟩ : ByteArray).size = 0 := rfl
          rw [z0] at z1
          have q1 : ¬ 9223372036854775807 < (faultText p ⟨#[]⟩).size + (numText er).size := by omega
          have q2 : (7 : Int) < (faultText p ⟨#[]⟩).size := by omega
          have hp6 : p ≤ 1000000 := by omega
          clear ha h9 SC H7 c0 c1 z0 z1 z2 z3 z4
          have t1 := Text_fault w.heap.size w g A4 n c4 xs p why f er w5.heap.size w8.heap.size
          have t2 := Text_none w.heap.size w g A4 n c4 xs p why f er w5.heap.size w8.heap.size
          have t3 := Num_fin w.heap.size w g A4 n c4 xs p why f er w5.heap.size w8.heap.size
          generalize faultText p (numText er) = FT at *
          generalize faultText p ⟨#[]⟩ = NT at *
          generalize numText er = T at *
          have T1 := Lib.hid t1
          have T2 := Lib.hid t2
          have T3 := Lib.hid t3
          clear t1 t2 t3
          go_wp2_with fail
          refine (T1.out _ (Nat.le_refl _) hp6 her H9.out).mono ?_
          rintro e wa ⟨rfl, ha⟩
          go_wp2_with fail
          refine (T2.out _ (Nat.le_refl _) hp6 ha).mono ?_
          rintro e wb ⟨rfl, hb⟩
          clear ha
          go_wp2_with fail
          refine (Code_fin w.heap.size w g A4 n c4 xs p why f er w5.heap.size w8.heap.size _ (Nat.le_refl _) hb).mono ?_
          rintro e wc ⟨rfl, hc⟩
          clear hb
          go_wp2_with fail
          refine (T3.out _ (Nat.le_refl _) her hc).mono ?_
          rintro e wd ⟨rfl, hd⟩
          clear hc
          go_wp2_with fail
          refine (Unwrap_fin w.heap.size w g A4 n c4 xs p why f er w5.heap.size w8.heap.size _ hd).mono ?_
          rintro e we ⟨rfl, he⟩
          clear hd
          go_wp2_with fail
          refine (T2.out _ (Nat.le_refl _) hp6 he).mono ?_
          rintro e wf ⟨rfl, hf⟩
          clear he
          go_wp2_with fail
          refine (awake_fin w.heap.size w g A4 n c4 xs p why f er w5.heap.size w8.heap.size _ (Nat.le_refl _) hf).mono ?_
          rintro e wg ⟨rfl, hg⟩
          clear hf
          go_wp2_with fail
          go_ret
          exact ⟨rfl, hg.below⟩

theorem faults_long (A : Option Addr) (n c : Nat) (xs : List Int) (many : Int) (w : World) (h : Rd w w.heap.size .u8 A n c xs) (hx : 400 < n ∨ many < 0 ∨ 20 < many) :
    Calls Tryd.prog 3 #[.slice A n c, .int .i64 many] w fun e w' => e = .returned (.bool true) ∧ Below w.heap.size w w' := by
  have hm1 := h.cap
  have hm2 := h.max
  unfold maxLen at hm2
  have hl : 400 < n ∨ (¬ 400 < n ∧ many < 0) ∨ (¬ 400 < n ∧ ¬ many < 0 ∧ 20 < many) := by omega
  clear hx
  rcases hl with h1 | ⟨h1, h2⟩ | ⟨h1, h2, h3⟩
  · have h1' : (400 : Int) < n := by omega
    go_enter Tryd.func3, Tryd.ntmps3
    go_wp2_with (go_at_call 5; refine (awake_any w).mono ?_; rintro e w1 ⟨rfl, hb1⟩)
    go_ret
    exact ⟨rfl, hb1⟩
  · have h1' : ¬ (400 : Int) < n := by omega
    go_enter Tryd.func3, Tryd.ntmps3
    go_wp2_with (go_at_call 5; refine (awake_any w).mono ?_; rintro e w1 ⟨rfl, hb1⟩)
    go_ret
    exact ⟨rfl, hb1⟩
  · have h1' : ¬ (400 : Int) < n := by omega
    go_enter Tryd.func3, Tryd.ntmps3
    go_wp2_with (go_at_call 5; refine (awake_any w).mono ?_; rintro e w1 ⟨rfl, hb1⟩)
    go_ret
    exact ⟨rfl, hb1⟩

/-- THE LAW. -/
theorem faults_any (A : Option Addr) (n c : Nat) (xs : List Int) (many : Int) (w : World) (hE : ErrType w) (hT : Tab w) (h : Rd w w.heap.size .u8 A n c xs) (hx : ∀ x ∈ xs, 0 ≤ x ∧ x < 256) :
    Calls Tryd.prog 3 #[.slice A n c, .int .i64 many] w fun e w' => e = .returned (.bool true) ∧ Below w.heap.size w w' := by
  by_cases hl : 400 < n ∨ many < 0 ∨ 20 < many
  · exact faults_long A n c xs many w h hl
  · exact faults_short A n c xs many w hE hT h hx (by omega) (by omega) (by omega)
end Go.Proofs.YtogennogjnleaaaDoor
