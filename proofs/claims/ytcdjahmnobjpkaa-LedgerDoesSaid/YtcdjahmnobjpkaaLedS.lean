/- What is proved here: what a ledger of texts is in memory; what New, Len, Get, Until, Put and Drop make of it. -/
import Derived.Test.YtcdjahmnobjpkaaLed
namespace Go.Proofs.Ytcdjahmnobjpkaa
open Go Go.RowKit Go.Maps Go.WideMaps

/-! ### ledgers of string -/
theorem zero_knownS (w : World) : (zeroValue 71).run Try.prog w = .ok (.agg #[.string ⟨#[]⟩, .int .i64 0]) w := by kernel_rfl
def IsVS (v : Value) : Prop := ∃ n : ByteArray, v = Value.string n
/-- Memory holds a ledger. -/
structure LedLS (w : World) (l m : Nat) (room : Nat) (L : List En) (f : Lit → Option Value) (Φ : Nat → Prop) : Prop where
  blk : w.heap[l]? = some (.cells #[.int .i64 room, .map (some m)] 69 (0, 0))
  mp : MapV Try.prog 9 w m L.length f
  ok : RowOk L
  pl : ∀ s, f (strK s) = (findE L s).map valE
  vs : ∀ x ∈ L, IsVS x.v
  roomB : room ≤ 9223372036854775807
  inn : Φ l ∧ Φ m
def LedAtS (w : World) (l : Nat) (room : Nat) (L : List En) (Φ : Nat → Prop) : Prop := ∃ m f, LedLS w l m room L f Φ

section
variable {w w' : World} {l m room : Nat} {L : List En} {f : Lit → Option Value} {Φ Ψ : Nat → Prop}
theorem LedLS.keep (h : LedLS w l m room L f Φ) (hc : Chg Ψ w w') (hs : ∀ k, Φ k → ¬ Ψ k) : LedLS w' l m room L f Φ :=
  ⟨hc.heap h.blk (hs _ h.inn.1), h.mp.keep hc (hs _ h.inn.2), h.ok, h.pl, h.vs, h.roomB, h.inn⟩
theorem LedLS.mono (h : LedLS w l m room L f Φ) (hs : ∀ k, k < w.heap.size → Φ k → Ψ k) : LedLS w l m room L f Ψ :=
  ⟨h.blk, h.mp, h.ok, h.pl, h.vs, h.roomB, hs _ (lt_of_block h.blk) h.inn.1, hs _ h.mp.lt h.inn.2⟩
theorem LedAtS.keep (h : LedAtS w l room L Φ) (hc : Chg Ψ w w') (hs : ∀ k, Φ k → ¬ Ψ k) : LedAtS w' l room L Φ := by
  obtain ⟨m, f, h⟩ := h
  exact ⟨m, f, h.keep hc hs⟩
theorem LedAtS.mono (h : LedAtS w l room L Φ) (hs : ∀ k, k < w.heap.size → Φ k → Ψ k) : LedAtS w l room L Ψ := by
  obtain ⟨m, f, h⟩ := h
  exact ⟨m, f, h.mono hs⟩
theorem LedAtS.below (h : LedAtS w l room L Φ) (hb : Below w.heap.size w w') : LedAtS w' l room L Φ := h.keep (Ψ := fun _ => False) (Chg.of_below hb) fun _ _ => id
theorem LedAtS.lt (h : LedAtS w l room L Φ) : l < w.heap.size := by
  obtain ⟨m, f, h⟩ := h
  exact lt_of_block h.blk
theorem LedAtS.ok (h : LedAtS w l room L Φ) : RowOk L := by
  obtain ⟨m, f, h⟩ := h
  exact h.ok
theorem LedLS.l_m (h : LedLS w l m room L f Φ) : l ≠ m := fun e => by
  obtain ⟨es, c, hb⟩ := h.mp.blk
  rw [← e, h.blk] at hb
  cases hb
theorem LedLS.look (h : LedLS w l m room L f Φ) {s : ByteArray} (hs : s.size ≤ maxLen) : (Instr.lookup 67 (.map (some m)) (.string s) true).run Try.prog w = .ok (.tuple #[((findE L s).map valE).getD (.agg #[.string ⟨#[]⟩, .int .i64 0]), .bool (findE L s).isSome]) w := by
  have := h.mp.look_ok keyed_str Try.underlying67 (zero_knownS w) (key_str hs)
  rw [h.pl] at this
  rw [this]
  simp
end

theorem New_anyS (w : World) {room : Int} (hr : -9223372036854775808 ≤ room ∧ room ≤ 9223372036854775807) : Calls Try.prog 20 #[.int .i64 room] w fun e w' => e = .returned (.pointer (some ⟨w.heap.size + 1, 0, none⟩)) ∧ Below w.heap.size w w' ∧ LedAtS w' (w.heap.size + 1) room.toNat [] (fun k => w.heap.size ≤ k) := by
  have HM : Hid (∀ r : Int, r = room.toNat → LedAtS ((w.alloc (.map #[] 0)).alloc (.cells #[.int .i64 r, .map (some w.heap.size)] 69)) (w.heap.size + 1) room.toNat [] (fun k => w.heap.size ≤ k)) := Lib.hid (by
    rintro r rfl
    have hb := heap_alloc_new (w.alloc (.map #[] 0)) (.cells #[.int .i64 room.toNat, .map (some w.heap.size)] 69)
    rw [show (w.alloc (.map #[] 0)).heap.size = w.heap.size + 1 by simp] at hb
    have m1 := MapV.made Try.prog 9 w
    exact ⟨w.heap.size, fun _ => none, hb, m1.keep (Chg.alloc (Φ := fun _ => False) _ _) id, RowOk.nil, fun _ => rfl, (fun x hx => by cases hx), by omega, by omega, Nat.le_refl _⟩)
  have hmm := @run_makeMap Try.prog
  clear hr
  go_enter Try.func20, Try.ntmps20
  go_wp2
  all_goals
    go_ret
    exact ⟨by simp, (((Below.refl _ _).alloc (Nat.le_refl _) _).alloc (by simp) _), HM.out _ (by omega)⟩

/-- What Get, and Until, answer. -/
def getES (o : Option En) : Ending := .returned (.tuple #[(o.map En.v).getD (.string ⟨#[]⟩), .bool o.isSome])
def untilES (o : Option En) : Ending := .returned (.tuple #[.int .i64 ((o.map En.t).getD 0), .bool o.isSome])

set_option maxHeartbeats 800000 in
theorem Get_anyS {w : World} {l room : Nat} {L : List En} {Φ : Nat → Prop} (h : LedAtS w l room L Φ) {s : ByteArray} (hs : s.size ≤ maxLen) : Calls Try.prog 23 #[.pointer (some ⟨l, 0, none⟩), .string s] w fun e w' => e = getES (findE L s) ∧ Below w.heap.size w w' := by
  obtain ⟨m, f, h⟩ := h
  obtain ⟨c0, c1⟩ := two_cells' h.blk
  have hlk := h.look hs
  have hll := lt_of_block h.blk
  have hvs : ∀ x, findE L s = some x → IsVS x.v := fun x hx => h.vs x (findE_some hx).1
  generalize findE L s = o at *
  clear h
  cases o with
  | none =>
    clear hvs
    have hlk' : (Instr.lookup 67 (.map (some m)) (.string s) true).run Try.prog w = .ok (.tuple #[.agg #[.string ⟨#[]⟩, .int .i64 0], .bool false]) w := hlk
    clear hlk
    go_enter Try.func23, Try.ntmps23
    go_wp2
    go_ret2
    exact ⟨rfl, (Below.refl _ _).alloc (Nat.le_refl _) _⟩
  | some x =>
    obtain ⟨k, v, t⟩ := x
    obtain ⟨n, rfl⟩ : IsVS v := hvs _ rfl
    clear hvs
    have hlk' : (Instr.lookup 67 (.map (some m)) (.string s) true).run Try.prog w = .ok (.tuple #[.agg #[Value.string n, .int .i64 t], .bool true]) w := hlk
    clear hlk
    go_enter Try.func23, Try.ntmps23
    go_wp2
    go_ret2
    exact ⟨rfl, (Below.refl _ _).alloc (Nat.le_refl _) _⟩

set_option maxHeartbeats 800000 in
theorem Until_anyS {w : World} {l room : Nat} {L : List En} {Φ : Nat → Prop} (h : LedAtS w l room L Φ) {s : ByteArray} (hs : s.size ≤ maxLen) : Calls Try.prog 24 #[.pointer (some ⟨l, 0, none⟩), .string s] w fun e w' => e = untilES (findE L s) ∧ Below w.heap.size w w' := by
  obtain ⟨m, f, h⟩ := h
  obtain ⟨c0, c1⟩ := two_cells' h.blk
  have hlk := h.look hs
  have hll := lt_of_block h.blk
  have hvs : ∀ x, findE L s = some x → IsVS x.v := fun x hx => h.vs x (findE_some hx).1
  generalize findE L s = o at *
  clear h
  cases o with
  | none =>
    clear hvs
    have hlk' : (Instr.lookup 67 (.map (some m)) (.string s) true).run Try.prog w = .ok (.tuple #[.agg #[.string ⟨#[]⟩, .int .i64 0], .bool false]) w := hlk
    clear hlk
    go_enter Try.func24, Try.ntmps24
    go_wp2
    go_ret2
    exact ⟨rfl, (Below.refl _ _).alloc (Nat.le_refl _) _⟩
  | some x =>
    obtain ⟨k, v, t⟩ := x
    obtain ⟨n, rfl⟩ : IsVS v := hvs _ rfl
    clear hvs
    have hlk' : (Instr.lookup 67 (.map (some m)) (.string s) true).run Try.prog w = .ok (.tuple #[.agg #[Value.string n, .int .i64 t], .bool true]) w := hlk
    clear hlk
    go_enter Try.func24, Try.ntmps24
    go_wp2
    go_ret2
    exact ⟨rfl, (Below.refl _ _).alloc (Nat.le_refl _) _⟩

set_option maxHeartbeats 1600000 in
set_option maxRecDepth 100000 in
theorem Put_anyS {w : World} {l room : Nat} {L : List En} {Φ : Nat → Prop} (h : LedAtS w l room L Φ) (hL : L.length < 900000) {x : En} (hx : x.k.size ≤ maxLen) (hv : IsVS x.v) : Calls Try.prog 22 #[.pointer (some ⟨l, 0, none⟩), .string x.k, x.v, .int .i64 x.t] w fun e w' => e = .returned (.int .i64 (putA room L x.k)) ∧ Hid (LedAtS w' l room (putR room L x) Φ ∧ Chg Φ w w') := by
  have h0 := h
  obtain ⟨m, f, h⟩ := h
  obtain ⟨c0, c1⟩ := two_cells' h.blk
  have hlk := h.look hx
  have hll := lt_of_block h.blk
  have hrB := h.roomB
  have HP : Hid (∀ W, Chg (fun _ => False) w W → ∃ w2, (Instr.mapUpdate 67 (.map (some m)) (.string x.k) (.agg #[x.v, .int .i64 x.t])).run Try.prog W = .ok () w2 ∧ W.cell? ⟨l, 0, none⟩ = some (.int .i64 room) ∧ W.cell? ⟨l, 1, none⟩ = some (.map (some m)) ∧ Hid (LedAtS w2 l room (putE L x) Φ ∧ Chg Φ w w2)) := Lib.hid (by
    intro W hW
    have h1 := h.keep hW fun _ _ => id
    obtain ⟨e0, e1⟩ := two_cells' h1.blk
    obtain ⟨w2, hr, m2, c2⟩ := h1.mp.put keyed_str Try.underlying67 (by unfold maxLen; omega) (key_str hx) (.agg #[x.v, .int .i64 x.t])
    refine ⟨w2, hr, e0, e1, Lib.hid ⟨⟨m, putV f (strK x.k) (.agg #[x.v, .int .i64 x.t]), c2.heap h1.blk h1.l_m, ?_, h.ok.put hx, fun s => ?_, (fun y hy => by
      rcases mem_put.1 hy with rfl | ⟨hy, _⟩
      · exact hv
      · exact h.vs y hy), h.roomB, h.inn⟩, (hW.mono (Ψ := Φ) fun _ _ e => e.elim).trans (c2.mono (Ψ := Φ) fun i _ e => by rw [e]; exact h.inn.2) fun _ _ e => e⟩⟩
    · rw [h1.pl, Option.isSome_map] at m2
      rw [length_put h.ok.srt]
      exact m2
    · by_cases e : s = x.k
      · subst e
        rw [putV_same, find_put_same h.ok.srt]
        rfl
      · rw [putV_other _ _ fun e2 => e (strK_inj e2), find_put_other h.ok.srt e, h.pl])
  have HLEN : Hid (∀ W, Chg (fun _ => False) w W → ∀ ty, (Builtin.len_ #[67] ty #[.map (some m)]).run Try.prog W = .ok (.int .i64 L.length) W) := Lib.hid fun W hW ty => (h.mp.keep hW id).len Try.underlying67 ty
  obtain ⟨k, v, t⟩ := x
  have hvs : ∀ y, findE L k = some y → IsVS y.v := fun y hy => h.vs y (findE_some hy).1
  simp only at *
  obtain ⟨vn, rfl⟩ := hv
  clear h
  cases ho : findE L k with
  | some y =>
    obtain ⟨yk, yv, yt⟩ := y
    obtain ⟨yn, rfl⟩ : IsVS yv := hvs _ ho
    clear hvs
    have e1 : full room L k = false := by unfold full; rw [ho]; rfl
    rw [ho] at hlk
    unfold putA putR
    rw [e1]
    simp only [Bool.false_eq_true, if_false]
    have hlk' : (Instr.lookup 67 (.map (some m)) (.string k) true).run Try.prog w = .ok (.tuple #[.agg #[Value.string yn, .int .i64 yt], .bool true]) w := hlk
    clear hlk ho h0 e1 HLEN
    go_enter Try.func22, Try.ntmps22
    go_wp2_with fail
    go_quiet (fail)
    have hW1 := Chg.drewN (Φ := fun _ => False) (w.alloc (.cells #[Value.string yn, .int .i64 yt] 71)) nq
    have hW : Chg (fun _ => False) w ((w.alloc (.cells #[Value.string yn, .int .i64 yt] 71)).drewN nq) := (Chg.alloc _ _).trans hW1 fun _ _ e => e
    have HW := Lib.hid hW
    clear hW1 hW
    generalize (w.alloc (.cells #[Value.string yn, .int .i64 yt] 71)).drewN nq = W at *
    obtain ⟨w2, hrun, d0, d1, HX⟩ := HP.out W HW.out
    clear c0 c1 HP hlk'
    go_wp2
    go_ret
    exact ⟨rfl, HX⟩

  | none =>
    clear hvs
    rw [ho] at hlk
    have hlk' : (Instr.lookup 67 (.map (some m)) (.string k) true).run Try.prog w = .ok (.tuple #[.agg #[.string ⟨#[]⟩, .int .i64 0], .bool false]) w := hlk
    have hln : ∀ q ty, (Builtin.len_ #[67] ty #[.map (some m)]).run Try.prog ((w.alloc (.cells #[.string ⟨#[]⟩, .int .i64 0] 71)).drewN q) = .ok (.int .i64 L.length) ((w.alloc (.cells #[.string ⟨#[]⟩, .int .i64 0] 71)).drewN q) := fun q ty => HLEN.out _ ((Chg.alloc (Φ := fun _ => False) w _).trans (Chg.drewN (Φ := fun _ => False) _ q) fun _ _ e => e) ty
    clear hlk HLEN
    unfold putA putR
    by_cases hf : room ≤ L.length
    · have e1 : full room L k = true := by unfold full; rw [ho]; simpa using hf
      rw [e1]
      simp only [if_true]
      have hd : decide ((room : Int) ≤ (L.length : Int)) = true := by simpa using hf
      have HB : Hid (∀ q, LedAtS ((w.alloc (.cells #[.string ⟨#[]⟩, .int .i64 0] 71)).drewN q) l room L Φ ∧ Chg Φ w ((w.alloc (.cells #[.string ⟨#[]⟩, .int .i64 0] 71)).drewN q)) := Lib.hid fun q => ⟨(h0.keep (Ψ := fun _ => False) (Chg.alloc _ _) fun _ _ => id).keep (Ψ := fun _ => False) (Chg.drewN _ q) fun _ _ => id, (Chg.alloc (Φ := Φ) w _).trans (Chg.drewN (Φ := Φ) _ q) fun _ _ e => e⟩
      clear ho h0 e1 HP hL
      generalize L.length = n at *
      go_enter Try.func22, Try.ntmps22
      go_wp2_with fail
      go_quiet (fail)
      go_wp2
      go_ret
      exact ⟨rfl, Lib.hid (HB.out _)⟩
    · have e1 : full room L k = false := by unfold full; rw [ho]; simpa using hf
      rw [e1]
      simp only [Bool.false_eq_true, if_false]
      have hd : decide ((room : Int) ≤ (L.length : Int)) = false := by simp; omega
      clear ho h0 e1 hL
      generalize L.length = n at *
      go_enter Try.func22, Try.ntmps22
      go_wp2_with fail
      go_quiet (fail)
      have hW1 := Chg.drewN (Φ := fun _ => False) (w.alloc (.cells #[.string ⟨#[]⟩, .int .i64 0] 71)) nq
      have hW : Chg (fun _ => False) w ((w.alloc (.cells #[.string ⟨#[]⟩, .int .i64 0] 71)).drewN nq) := (Chg.alloc _ _).trans hW1 fun _ _ e => e
      have HW := Lib.hid hW
      clear hW1 hW
      generalize (w.alloc (.cells #[.string ⟨#[]⟩, .int .i64 0] 71)).drewN nq = W at *
      obtain ⟨w2, hrun, d0, d1, HX⟩ := HP.out W HW.out
      clear c0 c1 HP hlk'
      go_wp2
      go_ret
      exact ⟨rfl, HX⟩

set_option maxHeartbeats 1600000 in
set_option maxRecDepth 100000 in
theorem Drop_anyS {w : World} {l room : Nat} {L : List En} {Φ : Nat → Prop} (h : LedAtS w l room L Φ) {s : ByteArray} (hs : s.size ≤ maxLen) : Calls Try.prog 21 #[.pointer (some ⟨l, 0, none⟩), .string s] w fun e w' => e = .returned (.bool (findE L s).isSome) ∧ Hid (LedAtS w' l room (dropE L s) Φ ∧ Chg Φ w w') := by
  have h0 := h
  obtain ⟨m, f, h⟩ := h
  obtain ⟨c0, c1⟩ := two_cells' h.blk
  have hlk := h.look hs
  have hll := lt_of_block h.blk
  obtain ⟨z, hz⟩ : ∃ z : Value, z = valE ((findE L s).getD ⟨⟨#[]⟩, .string ⟨#[]⟩, 0⟩) := ⟨_, rfl⟩
  obtain ⟨an, b, hab⟩ : ∃ an b, z = .agg #[Value.string an, .int .i64 b] := by
    cases ho : findE L s with
    | none =>
      rw [ho] at hz
      exact ⟨_, _, hz⟩
    | some y =>
      obtain ⟨n, hn⟩ := h.vs y (findE_some ho).1
      rw [ho] at hz
      exact ⟨n, y.t, by rw [hz]; show valE y = _; unfold valE; rw [hn]⟩
  have hlk' : (Instr.lookup 67 (.map (some m)) (.string s) true).run Try.prog w = .ok (.tuple #[.agg #[Value.string an, .int .i64 b], .bool (findE L s).isSome]) w := by
    rw [hlk, ← hab, hz]
    cases findE L s <;> rfl
  have hD := (h.keep (Ψ := fun _ => False) (Chg.alloc w (.cells #[Value.string an, .int .i64 b] 71)) fun _ _ => id)
  obtain ⟨w2, hrun, HX⟩ : ∃ w2, (Builtin.delete_ #[67, 9] 0 #[.map (some m), .string s]).run Try.prog (w.alloc (.cells #[Value.string an, .int .i64 b] 71)) = .ok (.tuple #[]) w2 ∧ Hid (LedAtS w2 l room (dropE L s) Φ ∧ Chg Φ w w2) := by
    obtain ⟨w2, hr, m2, c2⟩ := hD.mp.cut keyed_str Try.underlying67 (key_str hs) 0
    refine ⟨w2, hr, Lib.hid ⟨⟨m, delV f (strK s), c2.heap hD.blk hD.l_m, ?_, h.ok.drop s, fun u => ?_, fun y hy => h.vs y (mem_drop.1 hy).1, h.roomB, h.inn⟩, (Chg.alloc (Φ := Φ) w _).trans (c2.mono (Ψ := Φ) fun i _ e => by rw [e]; exact h.inn.2) fun _ _ e => e⟩⟩
    · rw [h.pl, Option.isSome_map] at m2
      cases ho : findE L s with
      | none =>
        rw [ho] at m2
        rw [dropE_none ho]
        exact m2
      | some y =>
        rw [ho] at m2
        have := length_drop h.ok.srt ho
        rwa [show (dropE L s).length = L.length - 1 by omega]
    · by_cases e : u = s
      · subst e
        rw [delV_same, find_drop_same]
        rfl
      · rw [delV_other _ fun e2 => e (strK_inj e2), find_drop_other h.ok.srt e, h.pl]
  have HR := Lib.hid hrun
  clear h h0 hlk hz hab hD hrun
  generalize (findE L s).isSome = o at *
  go_enter Try.func21, Try.ntmps21
  go_wp2_with (at_delete; refine wpList_delete_run rfl _ _ 67 9 rfl _ _ rfl rfl HR.out ?_)
  go_ret
  exact ⟨rfl, HX⟩
end Go.Proofs.Ytcdjahmnobjpkaa
