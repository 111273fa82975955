/- What is proved here: which messages have no earlier one to wait for; whether one waits; what a lease does. -/
/- What is proved here: the first messages that can be received. -/
/- What is proved here: what a lease does, and tells. -/
import Derived.Test.YtdjieapobodakaaGreatDoorPEx25
import Derived.Test.YtdjieapobodakaaGreatDoorPEx11
import Derived.Test.YtdjieapobodakaaGreatDoorPEx10
import Derived.Test.YtdjieapobodakaaGreatDoorPEx15
import Derived.Deep.AppendLies
import Derived.Outline
section
namespace Go.Proofs.YtdjieapobodakaaGreatDoor
open Go Go.RowKit Go.Maps Go.WideMaps

def aheadV (V : QV) : List Int := if V.A.fifo then (Lan.headsT V.Lt).map Lan.Th.id else Lan.ofG V.Lt ⟨#[]⟩
section
variable {w w' : World} {q : Nat} {V : QV} {S : QS}
theorem heads_len (L : List Lan.Th) : (Lan.headsT L).length ≤ L.length := List.length_filter_le _ _
set_option maxHeartbeats 800000 in
set_option maxRecDepth 100000 in
theorem ahead_any (h : QL w q V S) (hf : Few V) : Calls Tryz.prog 68 #[.pointer (some ⟨q, 0, none⟩)] w (Lan.RowSaid (aheadV V) w) := by
  obtain ⟨c0, c1, c2, c3, c4, c5, c6, c7, c8, c9, c10, c11, c12, c13⟩ := h.cells
  have hS : Lan.headsT V.Lt = [] ∨ Lan.SortOK (Lan.headsT V.Lt).length := by
    cases hl : Lan.headsT V.Lt with
    | nil => exact .inl rfl
    | cons x r =>
      have := heads_len V.Lt
      rw [hl] at this
      have := hf.l
      exact .inr (Lan.sortN (by simp) (by omega))
  have HH := Lib.hid (Lan.Heads_any h.lan hf.l hS)
  have HO := Lib.hid (Lan.Of_any h.lan (s := ⟨#[]⟩) (by decide) hf.l)
  unfold Lan.RowSaid at *
  clear h hf hS
  cases hff : V.A.fifo with
  | true =>
    have HE : Hid (aheadV V = (Lan.headsT V.Lt).map Lan.Th.id) := Lib.hid (by unfold aheadV; rw [hff]; rfl)
    rw [HE.out]
    rw [hff] at c6
    clear HE HO hff
    generalize (Lan.headsT V.Lt).map Lan.Th.id = xs at *
    go_enter Tryz.func68, Tryz.ntmps68
    go_wp2_with (go_at_call 89; refine HH.out.mono ?_; rintro e w1 ⟨A, c, rfl, HX⟩)
    go_ret
    exact ⟨A, c, rfl, HX⟩
  | false =>
    have HE : Hid (aheadV V = Lan.ofG V.Lt ⟨#[]⟩) := Lib.hid (by unfold aheadV; rw [hff]; rfl)
    rw [HE.out]
    rw [hff] at c6
    clear HE HH hff
    generalize Lan.ofG V.Lt ⟨#[]⟩ = xs at *
    go_enter Tryz.func68, Tryz.ntmps68
    go_wp2_with (go_at_call 90; refine HO.out.mono ?_; rintro e w1 ⟨A, c, rfl, HX⟩)
    go_ret
    exact ⟨A, c, rfl, HX⟩
/-- Whether a message waits. -/
def waitsV (V : QV) (id : Int) : Bool := !isLeased V id && (match findM V.M id with | some m => decide (m.frm ≤ V.now) | none => false)
theorem drewN_below (w : World) (n : Nat) : Below w.heap.size w (w.drewN n) := by simpa using grown_below' w n #[]
set_option maxHeartbeats 1600000 in
set_option maxRecDepth 100000 in
theorem waits_any (h : QL w q V S) {bx : Nat} (hbx : w.cell? ⟨bx, 0, none⟩ = some (.pointer (some ⟨q, 0, none⟩))) {m : Mm} (hm : m ∈ V.M) :
    Calls Tryz.prog 67 #[.int .i64 m.id, .pointer (some ⟨bx, 0, none⟩)] w fun e w' => e = .returned (.bool (waitsV V m.id)) ∧ Below w.heap.size w w' := by
  obtain ⟨c0, c1, c2, c3, c4, c5, c6, c7, c8, c9, c10, c11, c12, c13⟩ := h.cells
  have HA := Lib.hid (h.at_ m.id (h.wf m hm))
  have hlk : ∀ n, (Instr.lookup 76 (.map (some S.m)) (.int .i64 m.id) false).run Tryz.prog (w.drewN n) = .ok (.pointer (some ⟨S.pb m.id, 0, none⟩)) (w.drewN n) := fun n => (h.below (drewN_below w n)).1.look hm
  obtain ⟨_, _, m2⟩ := h.msg hm
  have HE : Hid (waitsV V m.id = (!isLeased V m.id && decide (m.frm ≤ V.now))) := Lib.hid (by unfold waitsV; rw [findM_mem h.nodup hm])
  have HD := Lib.hid fun n => drewN_below w n
  clear h hm
  generalize S.pb m.id = pb at *
  cases hb : isLeased V m.id with
  | true =>
    rw [hb] at HE HA
    rw [HE.out]
    clear HE hb
    go_enter Tryz.func67, Tryz.ntmps67
    go_wp2_with (go_at_call 56; refine HA.out.mono ?_; rintro e w1 ⟨n, rfl, rfl⟩)
    go_quiet (fail)
    go_wp2
    go_ret
    exact ⟨rfl, HD.out _⟩
  | false =>
    rw [hb] at HE HA
    rw [HE.out]
    clear HE hb
    go_enter Tryz.func67, Tryz.ntmps67
    go_wp2_with (go_at_call 56; refine HA.out.mono ?_; rintro e w1 ⟨n, rfl, rfl⟩)
    go_quiet (fail)
    go_wp2
    go_ret
    exact ⟨by simp, HD.out _⟩
end
end Go.Proofs.YtdjieapobodakaaGreatDoor
end

section
namespace Go.Proofs.YtdjieapobodakaaGreatDoor
open Go Go.RowKit Go.Maps Go.WideMaps

def readyV (V : QV) (n : Nat) : List Int := ((aheadV V).filter (waitsV V)).take n
/-- What has been found of those gone through. -/
def foundV (V : QV) (n : Nat) (xs : List Int) : List Int := (xs.filter (waitsV V)).take n
theorem found_le (V : QV) (n : Nat) (xs : List Int) : (foundV V n xs).length ≤ n := List.length_take_le _ _
theorem found_step {V : QV} {n : Nat} {xs : List Int} {k : Nat} (hk : k < xs.length) (hl : (foundV V n (xs.take k)).length < n) :
    foundV V n (xs.take (k + 1)) = if waitsV V xs[k] then foundV V n (xs.take k) ++ [xs[k]] else foundV V n (xs.take k) := by
  unfold foundV at *
  rw [List.take_succ_eq_append_getElem hk, List.filter_append]
  rw [List.length_take] at hl
  have hl2 : ((xs.take k).filter (waitsV V)).length < n := by omega
  by_cases hw : waitsV V xs[k] = true
  · rw [if_pos hw, List.filter_cons_of_pos hw, List.filter_nil, List.take_of_length_le (by rw [List.length_append, List.length_singleton]; omega), List.take_of_length_le (Nat.le_of_lt hl2)]
  · rw [if_neg hw, List.filter_cons_of_neg hw, List.filter_nil, List.append_nil]
theorem found_full {V : QV} {n : Nat} {xs : List Int} {k : Nat} (hl : (foundV V n (xs.take k)).length = n) : foundV V n (xs.take k) = foundV V n xs := by
  unfold foundV at *
  have e : xs.filter (waitsV V) = (xs.take k).filter (waitsV V) ++ (xs.drop k).filter (waitsV V) := by rw [← List.filter_append, List.take_append_drop]
  rw [List.length_take] at hl
  rw [e, List.take_append_of_le_length (by omega)]
/-- While they are gone through. -/
structure ReadyAt (w w1 wr : World) (A : Option Addr) (m c : Nat) (V : QV) (n k : Nat) (xs : List Int) : Prop where
  row : wr.ownsRow w1.heap.size 3 1 (.slice A m c) m ((foundV V n (xs.take k)).map (Value.int .i64))
  low : Below w1.heap.size w1 wr
  len : m = (foundV V n (xs.take k)).length
section
variable {w w' : World} {q : Nat} {V : QV} {S : QS}
set_option maxHeartbeats 6400000 in
set_option maxRecDepth 100000 in
theorem ready_any (h : QL w q V S) (hf : Few V) (hs : ∀ id ∈ aheadV V, ∃ m ∈ V.M, m.id = id) (hal : (aheadV V).length < 900000) {n : Nat} (hn : n ≤ 10) :
    Calls Tryz.prog 41 #[.pointer (some ⟨q, 0, none⟩), .int .i64 n] w (Lan.RowSaid (readyV V n) w) := by
  have HA : Hid (∀ W, Below w.heap.size w W → Calls Tryz.prog 68 #[.pointer (some ⟨q, 0, none⟩)] W fun e w' => ∃ A c, e = .returned (.slice A (aheadV V).length c) ∧ Hid (w'.ownsRow W.heap.size 3 1 (.slice A (aheadV V).length c) (aheadV V).length ((aheadV V).map (Value.int .i64)) ∧ Below w.heap.size w w' ∧ Below W.heap.size W w')) := Lib.hid fun W hW =>
    (ahead_any (h.below hW).1 hf).mono fun e w' ⟨A, c, he, ho, hb⟩ => ⟨A, c, he, Lib.hid ⟨ho, hW.trans (hb.mono hW.size), hb⟩⟩
  have HRD : Hid (readyV V n = foundV V n (aheadV V)) := Lib.hid rfl
  obtain ⟨xs, hxs⟩ : ∃ xs, xs = aheadV V := ⟨_, rfl⟩
  rw [← hxs] at HA HRD hs hal
  have HQ := Lib.hid h
  have HSB := Lib.hid hs
  obtain ⟨i0, hi, hz0, hz1, hz2⟩ := info_parts Lan.info_int
  obtain ⟨N, hN⟩ : ∃ N, N = xs.length := ⟨_, rfl⟩
  rw [← hN] at HA hal
  have HNL := Lib.hid hN
  obtain ⟨W, hW⟩ : ∃ W, W = w.alloc (.cells #[.pointer (some ⟨q, 0, none⟩)] 27) := ⟨_, rfl⟩
  have hbW : Below w.heap.size w W := by rw [hW]; exact (Below.refl _ _).alloc (Nat.le_refl _) _
  have hWs : W.heap.size = w.heap.size + 1 := by rw [hW]; simp
  have hbx : W.cell? ⟨w.heap.size, 0, none⟩ = some (.pointer (some ⟨q, 0, none⟩)) := by rw [hW]; simp
  have HW := Lib.hid hW
  have HWW : Hid (W.heap.size = w.heap.size + 1 ∧ Below w.heap.size w W ∧ W.cell? ⟨w.heap.size, 0, none⟩ = some (.pointer (some ⟨q, 0, none⟩))) := Lib.hid ⟨hWs, hbW, hbx⟩
  have HAW := Lib.hid (HA.out W hbW)
  clear h hf hs hxs hN hW hbW hWs hbx HA
  go_enter Tryz.func41, Tryz.ntmps41
  go_wp2_with (go_at_call 68; rw [← HW.out]; refine HAW.out.mono ?_; rintro e w1 ⟨A0, c0, rfl, H1⟩)
  have HROW : Hid (∀ wr k, ∀ hk : k < xs.length, Below w1.heap.size w1 wr → ∃ g : Nat, A0 = some ⟨g, 0, none⟩ ∧ wr.cell? ⟨g, k, none⟩ = some (.int .i64 xs[k]) ∧ N ≤ c0) := Lib.hid fun wr k hk hb => by
    have h2 := H1.out.1
    have hn2 := HNL.out
    obtain ⟨g, cap, e, hgl, _⟩ := h2.form (by omega)
    obtain ⟨rfl, rfl⟩ : A0 = some ⟨g, 0, none⟩ ∧ c0 = cap := by simpa using e
    obtain ⟨cur, hcur, hle, _⟩ := Lan.own_cells h2
    have h3 := h2.cellAt k (by omega)
    refine ⟨g, rfl, (hb.cell (p := ⟨g, k, none⟩) (Lan.lt_of_block hcur)).trans ?_, hle⟩
    rw [h3, List.getElem?_map, List.getElem?_eq_getElem hk]
    rfl
  have H0 : Hid (ReadyAt w w1 w1 none 0 0 V n 0 xs) := Lib.hid (by
    have e : foundV V n (xs.take 0) = [] := by simp [foundV]
    exact ⟨by rw [e]; exact World.ownsRow_nil _ _ _ _, Below.refl _ _, by rw [e]; rfl⟩)
  go_loopw [6, 13] (fun l i wr => ∃ (A : Option Addr) (c m k : Nat), l = .slice A m c ∧ i = .int .i64 k ∧ k ≤ N ∧ Hid (ReadyAt w w1 wr A m c V n k xs)) (fun _ i _ => N - (intOf i).toNat)
  case atStart => exact ⟨none, 0, 0, 0, rfl, rfl, Nat.zero_le _, H0⟩
  case round =>
    clear H0
    obtain ⟨A, c, m, k, rfl, rfl, hkN, HR⟩ := hrel
    by_cases hlt : k < N
    · have hlt' : (k : Int) < N := by omega
      have hkx : k < xs.length := by rw [← HNL.out]; exact hlt
      by_cases hfull : m = n
      · have hEq : ((m : Int) == (n : Int)) = true := by simp [hfull]
        have HE : Hid (Lan.RowSaid (readyV V n) w (.returned (.slice A m c)) wr) := Lib.hid (by
          have e := found_full (HR.out.len.symm.trans hfull)
          rw [HRD.out, ← e]
          have h2 := HR.out.row
          have h3 := HR.out.len
          rw [h3] at h2 ⊢
          exact ⟨A, c, rfl, own_base h2 H1.out.2.1.size, (HWW.out.2.1.trans (H1.out.2.2.mono (by have := HWW.out.1; omega))).trans (HR.out.low.mono (H1.out.2.1.size))⟩)
        have HX : Hid (∃ g : Nat, A0 = some ⟨g, 0, none⟩ ∧ wr.cell? ⟨g, k, none⟩ = some (.int .i64 xs[k]) ∧ N ≤ c0) := Lib.hid (HROW.out wr k hkx HR.out.low)
        obtain ⟨g, rfl, hcell, hcap⟩ := HX.out
        clear HX
        go_wp2
        go_ret
        exact HE.out
      · have hEq : ((m : Int) == (n : Int)) = false := beq_eq_false_iff_ne.2 (by omega)
        have HX : Hid (∃ g : Nat, A0 = some ⟨g, 0, none⟩ ∧ wr.cell? ⟨g, k, none⟩ = some (.int .i64 xs[k]) ∧ N ≤ c0) := Lib.hid (HROW.out wr k hkx HR.out.low)
        obtain ⟨g, rfl, hcell, hcap⟩ := HX.out
        have hml : m < n := by
          have := found_le V n (xs.take k)
          have := HR.out.len
          omega
        have HST := Lib.hid (found_step (V := V) (n := n) hkx (by have := HR.out.len; omega))
        have HWA : Hid (Calls Tryz.prog 67 #[.int .i64 xs[k], .pointer (some ⟨w.heap.size, 0, none⟩)] wr fun e w' => e = .returned (.bool (waitsV V xs[k])) ∧ Below wr.heap.size wr w') := Lib.hid (by
          obtain ⟨mm, hmm, hid⟩ := HSB.out xs[k] (List.getElem_mem hkx)
          have hb1 : Below W.heap.size W wr := H1.out.2.2.trans (HR.out.low.mono H1.out.2.2.size)
          have hb2 : Below w.heap.size w wr := HWW.out.2.1.trans (hb1.mono HWW.out.2.1.size)
          have := waits_any (HQ.out.below hb2).1 (bx := w.heap.size) ((hb1.cell (p := ⟨w.heap.size, 0, none⟩) (by show w.heap.size < _; have := HWW.out.1; omega)).trans HWW.out.2.2) hmm
          rw [hid] at this
          exact this)
        clear HX
        generalize hx : xs[k] = x at *
        cases hw : waitsV V x with
        | false =>
          rw [hw] at HWA HST
          have HRN : Hid (∀ w', Below wr.heap.size wr w' → ReadyAt w w1 w' A m c V n (k + 1) xs) := Lib.hid fun w' hb => by
            have e : foundV V n (xs.take (k + 1)) = foundV V n (xs.take k) := HST.out
            have h2 := HR.out
            exact ⟨by rw [e]; exact own_below h2.row hb, h2.low.trans (hb.mono h2.low.size), by rw [e]; exact h2.len⟩
          clear hx hw HST HSB HQ
          go_wp2_with (go_at_call 67; refine HWA.out.mono ?_; rintro e w2 ⟨rfl, hb2⟩; have HN := Lib.hid (HRN.out w2 hb2))
          go_roundw
          case rel => exact ⟨_, c, m, k + 1, rfl, by go_num, by omega, HN⟩
          case measure => simp [intOf]; omega
        | true =>
          rw [hw] at HWA HST
          have HRN : Hid (∀ w', Below wr.heap.size wr w' → w'.ownsRow w1.heap.size 3 1 (.slice A m c) m ((foundV V n (xs.take k)).map (Value.int .i64)) ∧ w1.heap.size ≤ w'.heap.size ∧ ∀ v2 w3, w3.ownsRow w1.heap.size 3 1 v2 (m + 1) ((foundV V n (xs.take k)).map (Value.int .i64) ++ [.int .i64 x]) → (w'.alloc (.cells #[.int .i64 x] 3)).grownBy w3 (Value.slice A m c).ownBlock → ∃ A3 c3, v2 = .slice A3 (m + 1) c3 ∧ Hid (ReadyAt w w1 w3 A3 (m + 1) c3 V n (k + 1) xs)) := Lib.hid fun w' hb => by
            have h2 := HR.out
            have hb1 := h2.low.trans (hb.mono h2.low.size)
            refine ⟨own_below h2.row hb, hb1.size, fun v2 w3 ho3 hg3 => ?_⟩
            obtain ⟨A3, c3, rfl⟩ := Lan.own_slice ho3
            have e : foundV V n (xs.take (k + 1)) = foundV V n (xs.take k) ++ [x] := HST.out
            refine ⟨A3, c3, rfl, Lib.hid ⟨by rw [e, List.map_append]; exact ho3, ?_, by rw [e, List.length_append, ← h2.len]; rfl⟩⟩
            exact (hb1.alloc hb1.size _).grown hg3 (by have := hb1.size; simp; omega) fun g hg => (h2.row.lt g hg).1
          clear hx hw HST HSB HQ
          go_wp2_with (first
            | (go_at_call 67; refine HWA.out.mono ?_; rintro e w2 ⟨rfl, hb2⟩; obtain ⟨how, hsz, hnx⟩ := HRN.out w2 hb2; have HOW := Lib.hid how; have HNX := Lib.hid hnx; clear how hnx)
            | (at_builtin; refine wpList_append_src (o := ⟨some 27, _, _, _, _, _⟩) rfl (.tmp 24) (.tmp 26) 48 rfl w1.heap.size 3 i0 _ 1 8 Tryz.underlying48 hi hz0 hz1 hz2 rfl (by omega) _ m _ rfl (HOW.out.alloc _) (some ⟨w2.heap.size, 0, none⟩) 1 1 [.int .i64 x] rfl rfl (fun e => by cases e) (news_new w2 _ _) (one_cell _ _) (by unfold maxLen; omega) (by omega) (by simp; omega) ?_; intro v2 w3 ho3 hg3; obtain ⟨A3, c3, rfl, HX⟩ := HNX.out _ _ ho3 hg3; clear ho3 hg3))
          go_roundw
          case rel => exact ⟨A3, c3, m + 1, k + 1, rfl, by go_num, by omega, HX⟩
          case measure => simp [intOf]; omega
    · obtain rfl : k = N := by omega
      have HE : Hid (Lan.RowSaid (readyV V n) w (.returned (.slice A m c)) wr) := Lib.hid (by
        have h2 := HR.out.row
        have h3 := HR.out.len
        rw [List.take_of_length_le (by rw [← HNL.out]; exact Nat.le_refl _)] at h2 h3
        rw [HRD.out]
        rw [h3] at h2 ⊢
        exact ⟨A, c, rfl, own_base h2 H1.out.2.1.size, (HWW.out.2.1.trans (H1.out.2.2.mono (by have := HWW.out.1; omega))).trans (HR.out.low.mono (H1.out.2.1.size))⟩)
      go_wp2
      go_ret
      exact HE.out
end
end Go.Proofs.YtdjieapobodakaaGreatDoor
end

section
namespace Go.Proofs.YtdjieapobodakaaGreatDoor
open Go Go.RowKit Go.Maps Go.WideMaps

def leaseV (V : QV) (id u : Int) : QV := { V with M := bumpM V.M id, R1 := Tim.setR V.R1 (id, u) }
def groupOf (V : QV) (id : Int) : ByteArray := ((Lan.at_ V.Lt id).map Lan.Th.g).getD ⟨#[]⟩
def tookV (m : Mm) (g : ByteArray) : Value := .agg #[.int .i64 m.id, .int .i64 (m.count + 1), .string (rcptS m.id (m.count + 1)), .string m.body, .string g]
section
variable {w w' : World} {q : Nat} {V : QV} {S : QS}
theorem bump_mem {M : List Mm} {m : Mm} (h : m ∈ M) : { m with count := m.count + 1 } ∈ bumpM M m.id := by
  unfold bumpM
  exact List.mem_map.2 ⟨m, h, by rw [if_pos rfl]⟩
theorem bump_len (M : List Mm) (k : Int) : (bumpM M k).length = M.length := by unfold bumpM; rw [List.length_map]
set_option maxHeartbeats 3200000 in
set_option maxRecDepth 100000 in
theorem lease_any (h : QL w q V S) (hf : Few V) (hE : Env w) (h6 : 6 ≤ w.heap.size) (hlow : ∀ b, b < 6 → S.c b = 0) {m : Mm} (hm : m ∈ V.M) (hc : 0 ≤ m.count ∧ m.count ≤ 900000) (u : Int) :
    Calls Tryz.prog 42 #[.pointer (some ⟨q, 0, none⟩), .int .i64 m.id, .int .i64 u] w fun e w' => e = .returned (tookV m (groupOf V m.id)) ∧ Hid (QGot w q (leaseV V m.id u) S w') := by
  have hql := h.lt
  have hpl := h.msglt hm
  have hwf := h.wf m hm
  have hw1 : IntKind.i64.wrap (m.count + 1) = m.count + 1 := IntWalk.i64_in _ (by omega)
  obtain ⟨W, hW⟩ : ∃ W, W = w.alloc (.cells #[.int .i64 0, .int .i64 0, .string ⟨#[]⟩, .string ⟨#[]⟩, .string ⟨#[]⟩] 60) := ⟨_, rfl⟩
  have hbW : Below w.heap.size w W := by rw [hW]; exact (Below.refl _ _).alloc (Nat.le_refl _) _
  have hWs : W.heap.size = w.heap.size + 1 := by rw [hW]; simp
  have hbx := heap_alloc_new w (.cells #[.int .i64 0, .int .i64 0, .string ⟨#[]⟩, .string ⟨#[]⟩, .string ⟨#[]⟩] 60)
  rw [← hW] at hbx
  obtain ⟨hQ, nW⟩ := h.below hbW
  obtain ⟨c0, c1, c2, c3, c4, c5, c6, c7, c8, c9, c10, c11, c12, c13⟩ := hQ.cells
  obtain ⟨b0, b1, b2⟩ := hQ.msg hm
  have hpne : S.pb m.id ≠ w.heap.size := by omega
  have bf := hQ.msgf hm
  have hlk := hQ.look hm
  obtain ⟨h1, n1⟩ := hQ.bump hm
  obtain ⟨W1, hW1⟩ : ∃ W1, W1 = W.setCell ⟨S.pb m.id, 1, none⟩ (.int .i64 (m.count + 1)) := ⟨_, rfl⟩
  rw [← hW1] at h1 n1
  have hrb : S.c w.heap.size = 0 := h.new _ (Nat.le_refl _)
  have hbx1 : W1.heap[w.heap.size]? = some (.cells #[.int .i64 0, .int .i64 0, .string ⟨#[]⟩, .string ⟨#[]⟩, .string ⟨#[]⟩] 60 (0, 0)) := n1.2.heap hbx fun hc => hc hrb
  have hW1s := n1.size
  obtain ⟨k0, k1, k2, k3, k4, k5, k6, k7, k8, k9, k10, k11, k12, k13⟩ := h1.cells
  have hmb := bump_mem hm
  have HS : Hid (Calls Tryz.prog 57 #[.pointer (some ⟨S.t1, 0, none⟩), .int .i64 m.id, .int .i64 u] W1 fun e w2 => e = .returned (.tuple #[]) ∧ w2.cell? ⟨q, 10, none⟩ = some (.pointer (some ⟨S.l, 0, none⟩)) ∧
      Hid (Calls Tryz.prog 69 #[.pointer (some ⟨S.l, 0, none⟩), .int .i64 m.id] w2 fun e w3 => ∃ b, e = .returned (.tuple #[.string (groupOf V m.id), .bool b]) ∧ w3.cell? ⟨S.pb m.id, 0, none⟩ = some (.string m.body) ∧ w3.cell? ⟨S.pb m.id, 1, none⟩ = some (.int .i64 (m.count + 1)) ∧
        w3.heap[w.heap.size]? = some (.cells #[.int .i64 0, .int .i64 0, .string ⟨#[]⟩, .string ⟨#[]⟩, .string ⟨#[]⟩] 60 (0, 0)) ∧ S.pb m.id < w3.heap.size ∧ w.heap.size < w3.heap.size ∧
        Hid (Env w3 ∧ 6 ≤ w3.heap.size) ∧ Hid (∀ X, Below w3.heap.size w3 X → ∀ Y, Chg (fun b => b = w.heap.size) X Y → QGot w q (leaseV V m.id u) S Y))) := Lib.hid (by
    refine (Tim.Set_any h1.les (by have := hf.r1; exact this) (m.id, u) hwf).mono ?_
    rintro e w2 ⟨rfl, hs1, hs2⟩
    obtain ⟨h2, n2⟩ := h1.lease hs1 hs2
    refine ⟨rfl, h2.cells.2.2.2.2.2.2.2.2.2.2.1, Lib.hid ?_⟩
    refine (h2.lGroup hwf).mono ?_
    rintro e w3 ⟨rfl, H3⟩
    obtain ⟨h3, n3, hb3⟩ := H3.out
    have hm3 := h3.msg hmb
    have nA := n1.trans (n2.trans n3)
    have nB := nW.trans nA
    have s3 := nA.size
    refine ⟨_, rfl, hm3.1, hm3.2.1, (nA.2.heap hbx fun hc => hc hrb), by omega, by omega, Lib.hid ⟨hE.below (B := 6) (Nat.le_refl _) (nB.below h6 hlow), by omega⟩, Lib.hid fun X hX Y hY => ?_⟩
    obtain ⟨hx, nx⟩ := h3.below hX
    have hne : ∀ {j b : Nat}, j ≠ 0 → (paint S.c W1.heap.size w2.heap.size 5) b = j → ¬ b = w.heap.size := fun {j b} hj hb e => hj (by rw [← hb, e, paint_low (by omega), hrb])
    refine ⟨_, ⟨hY.heap hx.blk (hne (by decide) hx.cq), hx.mp.keep hY (hne (by decide) hx.cm), hx.pl, fun y hy => hY.heap (hx.ms y hy) (hne (by decide) (hx.cp y hy)), hx.nodup, hx.wf, hx.inj, hx.lan.keep hY fun _ hb => hne (by decide) hb, hx.les.keep hY fun _ hb => hne (by decide) hb, hx.snt.keep hY fun _ hb => hne (by decide) hb, hx.key.keep hY fun _ hb => hne (by decide) hb, hx.cq, hx.cm, hx.cp, fun b hb => hx.new b (Nat.le_trans hY.size hb)⟩, ?_⟩
    obtain ⟨m1, m2⟩ := nB.trans nx
    exact ⟨m1, ⟨hY.os.trans m2.os, hY.tape.trans m2.tape, hY.output.trans m2.output, Nat.le_trans m2.size hY.size, fun b hb hc => (hY.block b (Nat.lt_of_lt_of_le hb m2.size) (by omega)).trans (m2.block b hb hc)⟩⟩)
  have HRC : Hid (∀ w3, Env w3 ∧ 6 ≤ w3.heap.size → ∀ X, Below w3.heap.size w3 X → Calls Tryz.prog 70 #[.int .i64 m.id, .int .i64 (m.count + 1)] X fun e w' => e = .returned (.string (rcptS m.id (m.count + 1))) ∧ Below w3.heap.size w3 w') := Lib.hid fun w3 h3 X hX => by
    have := hX.size
    exact (receipt_any (h3.1.below h3.2 hX) (by omega) hwf (by omega)).mono fun e w' ⟨he, hb2⟩ => ⟨he, hX.trans (hb2.mono hX.size)⟩
  unfold tookV
  have HW := Lib.hid hW
  have HW1 : Hid (W1 = (w.setCell ⟨S.pb m.id, 1, none⟩ (.int .i64 (m.count + 1))).alloc (.cells #[.int .i64 0, .int .i64 0, .string ⟨#[]⟩, .string ⟨#[]⟩, .string ⟨#[]⟩] 60)) := Lib.hid (by rw [hW1, hW]; exact World.setCell_alloc_past _ _ _ _ hpl)
  have hqW : q < W.heap.size := by omega
  rw [hW] at hlk
  clear h hf hE h6 hlow hm hc hwf hbW hbx hbx1 hQ nW h1 n1 hrb hmb hW1 hWs hW1s
  subst hW
  generalize S.pb m.id = pb at *
  generalize rcptS m.id (m.count + 1) = rc at *
  generalize groupOf V m.id = gr at *
  go_enter Tryz.func42, Tryz.ntmps42
  go_upto_region 3 with (fail)
  rw [← HW1.out]
  go_wp2_with (first
    | (go_at_call 57; refine HS.out.mono ?_; rintro e w2 ⟨rfl, x10, HG⟩)
    | (go_at_call 69; refine HG.out.mono ?_; rintro e w3 ⟨bg, rfl, y0, y1, hbx, hpl3, hwl3, H6, HQ⟩))
  have HK : Hid (∀ X, Below w3.heap.size w3 X → X.cell? ⟨pb, 0, none⟩ = some (.string m.body) ∧ X.cell? ⟨pb, 1, none⟩ = some (.int .i64 (m.count + 1)) ∧ X.heap[w.heap.size]? = some (.cells #[.int .i64 0, .int .i64 0, .string ⟨#[]⟩, .string ⟨#[]⟩, .string ⟨#[]⟩] 60 (0, 0)) ∧ Below w3.heap.size w3 X) := Lib.hid fun X hX => ⟨(hX.cell (p := ⟨pb, 0, none⟩) hpl3).trans y0, (hX.cell (p := ⟨pb, 1, none⟩) hpl3).trans y1, (Chg.of_below (Φ := fun _ => False) hX).heap hbx id, hX⟩
  have HZ : Hid (∀ X, Below w3.heap.size w3 X → X.cell? ⟨w.heap.size, 0, none⟩ = some (.int .i64 0) ∧ X.cell? ⟨w.heap.size, 1, none⟩ = some (.int .i64 0) ∧ X.cell? ⟨w.heap.size, 2, none⟩ = some (.string ⟨#[]⟩) ∧ X.cell? ⟨w.heap.size, 3, none⟩ = some (.string ⟨#[]⟩) ∧ X.cell? ⟨w.heap.size, 4, none⟩ = some (.string ⟨#[]⟩) ∧
      X.frozen? ⟨w.heap.size, 0, none⟩ = false ∧ X.frozen? ⟨w.heap.size, 1, none⟩ = false ∧ X.frozen? ⟨w.heap.size, 2, none⟩ = false ∧ X.frozen? ⟨w.heap.size, 3, none⟩ = false ∧ X.frozen? ⟨w.heap.size, 4, none⟩ = false) := Lib.hid fun X hX => by
    have hb2 := (Chg.of_below (Φ := fun _ => False) hX).heap hbx id
    simp [World.cell?, World.frozen?, hb2]
  have HB0 : Hid (Below w3.heap.size w3 w3.drew) := Lib.hid (Below.refl _ _).drew
  have HR3 := Lib.hid (HRC.out w3 H6.out)
  clear HRC H6
  have HKC : Hid (∀ X, Below w3.heap.size w3 X → X.cell? ⟨pb, 0, none⟩ = some (.string m.body) ∧ X.cell? ⟨pb, 1, none⟩ = some (.int .i64 (m.count + 1))) := Lib.hid fun X hX => ⟨(HK.out X hX).1, (HK.out X hX).2.1⟩
  have HCH : Hid (∀ X, Chg (fun b => b = w.heap.size) X (((((X.setCell ⟨w.heap.size, 0, none⟩ (.int .i64 m.id)).setCell ⟨w.heap.size, 1, none⟩ (.int .i64 (m.count + 1))).setCell ⟨w.heap.size, 2, none⟩ (.string rc)).setCell ⟨w.heap.size, 3, none⟩ (.string m.body)).setCell ⟨w.heap.size, 4, none⟩ (.string gr))) := Lib.hid fun X =>
    ((((Chg.set _ _ _ _).trans (Chg.set _ _ _ _) fun _ _ e => e).trans (Chg.set _ _ _ _) fun _ _ e => e).trans (Chg.set _ _ _ _) fun _ _ e => e).trans (Chg.set _ _ _ _) fun _ _ e => e
  have HST : Hid (∀ X, Below w3.heap.size w3 X → (((((X.setCell ⟨w.heap.size, 0, none⟩ (.int .i64 m.id)).setCell ⟨w.heap.size, 1, none⟩ (.int .i64 (m.count + 1))).setCell ⟨w.heap.size, 2, none⟩ (.string rc)).setCell ⟨w.heap.size, 3, none⟩ (.string m.body)).setCell ⟨w.heap.size, 4, none⟩ (.string gr)).cell? ⟨pb, 0, none⟩ = some (.string m.body) ∧ (((((X.setCell ⟨w.heap.size, 0, none⟩ (.int .i64 m.id)).setCell ⟨w.heap.size, 1, none⟩ (.int .i64 (m.count + 1))).setCell ⟨w.heap.size, 2, none⟩ (.string rc)).setCell ⟨w.heap.size, 3, none⟩ (.string m.body)).setCell ⟨w.heap.size, 4, none⟩ (.string gr)).cell? ⟨pb, 1, none⟩ = some (.int .i64 (m.count + 1))) := Lib.hid fun X hX => by
    have hs := hX.size
    have hc := HCH.out X
    exact ⟨(hc.cell (p := ⟨pb, 0, none⟩) (by show pb < _; omega) (by show ¬ pb = _; omega)).trans (HKC.out X hX).1, (hc.cell (p := ⟨pb, 1, none⟩) (by show pb < _; omega) (by show ¬ pb = _; omega)).trans (HKC.out X hX).2⟩
  go_region_held3 (fun w' => w'.cell? ⟨pb, 0, none⟩ = some (.string m.body) ∧ w'.cell? ⟨pb, 1, none⟩ = some (.int .i64 (m.count + 1)))
    (first | (with_reducible exact HST.out _ (by assumption)) | (with_reducible exact HKC.out _ HB0.out) | (with_reducible exact HKC.out _ (by assumption)))
    (first | (go_at_call 70; refine (HR3.out _ (by first | assumption | exact HB0.out)).mono ?_; rintro e w4 ⟨rfl, hb4⟩; obtain ⟨z0, z1, z2, z3, z4, g0, g1, g2, g3, g4⟩ := HZ.out _ hb4))
  have HY : Hid (∃ Y, Y = (((((w4.setCell ⟨w.heap.size, 0, none⟩ (.int .i64 m.id)).setCell ⟨w.heap.size, 1, none⟩ (.int .i64 (m.count + 1))).setCell ⟨w.heap.size, 2, none⟩ (.string rc)).setCell ⟨w.heap.size, 3, none⟩ (.string m.body)).setCell ⟨w.heap.size, 4, none⟩ (.string gr)) ∧ Y.cell? ⟨w.heap.size, 0, none⟩ = some (.int .i64 m.id) ∧ Y.cell? ⟨w.heap.size, 1, none⟩ = some (.int .i64 (m.count + 1)) ∧ Y.cell? ⟨w.heap.size, 2, none⟩ = some (.string rc) ∧ Y.cell? ⟨w.heap.size, 3, none⟩ = some (.string m.body) ∧ Y.cell? ⟨w.heap.size, 4, none⟩ = some (.string gr) ∧ Hid (QGot w q (leaseV V m.id u) S Y)) := Lib.hid (by
    have h0 := (HK.out w4 hb4).2.2.1
    have h5 := heap_setCell_same (heap_setCell_same (heap_setCell_same (heap_setCell_same (heap_setCell_same h0 0 (.int .i64 m.id)) 1 (.int .i64 (m.count + 1))) 2 (.string rc)) 3 (.string m.body)) 4 (.string gr)
    have hq := HQ.out _ hb4 _ (HCH.out w4)
    obtain ⟨Y, hY⟩ : ∃ Y, Y = (((((w4.setCell ⟨w.heap.size, 0, none⟩ (.int .i64 m.id)).setCell ⟨w.heap.size, 1, none⟩ (.int .i64 (m.count + 1))).setCell ⟨w.heap.size, 2, none⟩ (.string rc)).setCell ⟨w.heap.size, 3, none⟩ (.string m.body)).setCell ⟨w.heap.size, 4, none⟩ (.string gr)) := ⟨_, rfl⟩
    rw [← hY] at h5 hq
    refine ⟨Y, hY, ?_, ?_, ?_, ?_, ?_, Lib.hid hq⟩ <;> simp [World.cell?, h5])
  obtain ⟨Y, hY, u0, u1, u2, u3, u4, HQY⟩ := HY.out
  rw [← hY]
  clear hY HY z0 z1 z2 z3 z4 g0 g1 g2 g3 g4
  go_wp2
  exact bodyPost_ret (v := .agg #[.int .i64 m.id, .int .i64 (m.count + 1), .string rc, .string m.body, .string gr]) (by simp [results, Tryz.results42, go_sem, u0, u1, u2, u3, u4]) rfl ⟨rfl, HQY⟩
end
end Go.Proofs.YtdjieapobodakaaGreatDoor
end
