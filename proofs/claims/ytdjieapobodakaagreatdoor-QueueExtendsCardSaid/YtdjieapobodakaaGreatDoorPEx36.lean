/- What is proved here: the law QueueExtends says yes: all its calls. -/
/- What is proved here: the law QueueExtends says yes: what it refuses; a lease; all ways together. -/
/- What is proved here: how attributes that come in are read. -/
import Derived.Test.YtdjieapobodakaaGreatDoorPEx35
import Derived.Test.YtdjieapobodakaaGreatDoorPEx24
import Derived.Deep.Slices
import Derived.Deep.Fields
import Derived.SizedLaws
import Derived.ChangeSlices
import Derived.ChangeArms
import Derived.OpenShut
section
namespace Go.Proofs.YtdjieapobodakaaGreatDoor
open Go Go.RowKit Go.Maps Go.WideMaps

section
variable (w : World) (hE : Env w) (h6 : 6 ≤ w.heap.size) (a : Att) (v t : Int)
theorem QW.newCB {w0 w : World} {C : List Cel} (hE : Env w0) (h6 : 6 ≤ w0.heap.size) (hb : Below w0.heap.size w0 w) (a : Att) (hC : ∀ x ∈ C, w.cell? ⟨x.1, x.2.1, none⟩ = some x.2.2 ∧ x.1 < w.heap.size) : Calls Tryz.prog 12 #[attV a] w fun e w' => (a.right = false ∧ e = .returned (.pointer none) ∧ Below w.heap.size w w') ∨ (a.right = true ∧ ∃ q : Nat, e = .returned (.pointer (some ⟨q, 0, none⟩)) ∧ Hid (Below w.heap.size w w' ∧ QW w0 w' q (newQ a) 0 C)) := by
  refine (QN.new hE h6 hb a).mono ?_
  rintro e w' (h1 | ⟨h1, q, rfl, h2⟩)
  · exact .inl h1
  · obtain ⟨b1, S, s1, s2⟩ := h2.out
    refine .inr ⟨h1, q, rfl, Lib.hid ⟨b1, S, s1, fun x hx => ?_⟩⟩
    obtain ⟨c1, c2⟩ := hC x hx
    exact ⟨(b1.cell (p := ⟨x.1, x.2.1, none⟩) c2).trans c1, Nat.lt_of_lt_of_le c2 b1.size, s2 _ c2⟩
theorem attBox_frozen (w : World) (a : Att) (j : Nat) : (attBox w a).frozen? ⟨w.heap.size, j, none⟩ = false := by
  have h : (attBox w a).heap[w.heap.size]? = _ := heap_alloc_new w (.cells #[.int .i64 a.vis, .int .i64 a.ret, .int .i64 a.del, .int .i64 a.win, .int .i64 a.max, .string a.dead, .bool a.fifo] 23)
  generalize attBox w a = W at *
  simp [World.frozen?, h]
theorem new_att7 (hE : Env w) (h6 : 6 ≤ w.heap.size) (a : Att) (hr : a.right = true) : Calls Tryz.prog 12 #[attV a] (attBox w a) fun e w' => ∃ q : Nat, e = .returned (.pointer (some ⟨q, 0, none⟩)) ∧ (w'.cell? ⟨w.heap.size, 0, none⟩ = some (.int .i64 a.vis) ∧ w'.cell? ⟨w.heap.size, 1, none⟩ = some (.int .i64 a.ret) ∧ w'.cell? ⟨w.heap.size, 2, none⟩ = some (.int .i64 a.del) ∧ w'.cell? ⟨w.heap.size, 3, none⟩ = some (.int .i64 a.win) ∧ w'.cell? ⟨w.heap.size, 4, none⟩ = some (.int .i64 a.max) ∧ w'.cell? ⟨w.heap.size, 5, none⟩ = some (.string a.dead) ∧ w'.cell? ⟨w.heap.size, 6, none⟩ = some (.bool a.fifo)) ∧ w'.frozen? ⟨w.heap.size, 2, none⟩ = false ∧ Hid (QW w w' q (newQ a) 0 (attC7 w.heap.size a)) := by
  refine (QW.newCB hE h6 (attBox_below w a) a (attBox_cells7 w a)).mono ?_
  rintro e w' (⟨h1, _⟩ | ⟨_, q, rfl, hx⟩)
  · rw [hr] at h1; cases h1
  · obtain ⟨hbn, h⟩ := hx.out
    refine ⟨q, rfl, ⟨?_, ?_, ?_, ?_, ?_, ?_, ?_⟩, (hbn.frozen (p := ⟨w.heap.size, 2, none⟩) (by unfold attBox; simp)).trans (attBox_frozen w a 2), Lib.hid h⟩ <;> exact h.cell (by simp [attC7])
/-- All calls behind New. -/
def ChainE (w : World) (a : Att) (g : ByteArray) (v t : Int) (q : Nat) (w1 : World) : Prop :=
  Calls Tryz.prog 29 #[.pointer (some ⟨q, 0, none⟩), attV (gA a)] (w1.setCell ⟨w.heap.size, 2, none⟩ (.int .i64 0)) fun e w2 => ∃ n, e = .returned (.int .i64 n) ∧ Hid (
  Calls Tryz.prog 18 #[.pointer (some ⟨q, 0, none⟩), .string ⟨#[120]⟩, .string g, .string ⟨#[]⟩, .int .i64 (-1)] w2 fun e w3 => ∃ u, e = .returned u ∧ Hid (
  Calls Tryz.prog 19 #[.pointer (some ⟨q, 0, none⟩), .int .i64 1, .int .i64 0] w3 fun e w4 => ∃ b c, e = .returned (.tuple #[.slice (some ⟨b, 0, none⟩) 1 c, .int .i64 0]) ∧ 1 ≤ c ∧ c ≤ 9223372036854775807 ∧ w4.cell? ⟨b, 2, none⟩ = some (.string eR) ∧ Hid (
  Calls Tryz.prog 28 #[.pointer (some ⟨q, 0, none⟩), .string eR, .int .i64 v] w4 fun e w5 => e = .returned (.int .i64 0) ∧ Hid (
  Calls Tryz.prog 27 #[.pointer (some ⟨q, 0, none⟩), .int .i64 1] w5 fun e w6 => e = (if 0 < v then .returned (.tuple #[.int .i64 v, .bool true]) else .returned (.tuple #[.int .i64 0, .bool false])) ∧ Hid (
  Calls Tryz.prog 20 #[.pointer (some ⟨q, 0, none⟩), .int .i64 t] w6 fun e w7 => ∃ u1 u2, e = .returned (.tuple #[u1, u2]) ∧ Hid (
  Calls Tryz.prog 19 #[.pointer (some ⟨q, 0, none⟩), .int .i64 1, .int .i64 0] w7 fun e w8 => ∃ A c k er, e = .returned (.tuple #[.slice A k c, er]) ∧ k = (if v ≤ t then 1 else 0) ∧ Hid (AwakeSaid w w8)))))))
theorem chain_e (hE : Env w) (h6 : 6 ≤ w.heap.size) (hr : (eA a).right = true) (hm : ¬ 0 < a.max) (hv : 0 ≤ v ∧ v ≤ 524288) (ht : 0 ≤ t ∧ t ≤ 524288) {g : ByteArray} (hg : g.size ≤ 256) (hgf : (!decide (g = ⟨#[]⟩)) = a.fifo) {q : Nat} {w1 : World} (h : QW w w1 q (newQ (eA a)) 0 (attC7 w.heap.size (eA a))) : ChainE w a g v t q w1 := by
  have hparts := Att.right_parts hr
  have hm0 : a.max = 0 := by have := hparts.2.2.2.2.1.1; change 0 ≤ a.max at this; omega
  have hgr : (gA a).right = true := by
    have h1 := hr
    unfold Att.right within at h1 ⊢
    simp only [Bool.and_eq_true, decide_eq_true_eq] at h1 ⊢
    exact ⟨⟨⟨⟨⟨⟨h1.1.1.1.1.1.1, h1.1.1.1.1.1.2⟩, by show (0 : Int) ≤ 0; omega, by show (0 : Int) ≤ 1048576; omega⟩, h1.1.1.1.2⟩, h1.1.1.2⟩, h1.1.2⟩, h1.2⟩
  have hp := h.poke (j := 2) (u := .int .i64 (eA a).del) (v := .int .i64 0) (C' := []) (by simp [attC7]) (Nat.le_refl _) (fun x hx => by cases hx)
  have hset : setQ (newQ (eA a)) (gA a) = newQ (gA a) := by
    unfold setQ setOk
    rw [hgr]
    have : ((gA a).fifo == (newQ (eA a)).A.fifo) = true := by simp [gA, eA, newQ]
    rw [this]
    rfl
  obtain ⟨s1, s2⟩ := send_d (a := gA a) (body := strX) (group := g) (delay := -1) (by decide) hg hgf (by unfold within; cases (gA a).fifo <;> rfl)
  have hat : (dM (gA a) strX g (-1)).at_ ≤ 0 := by show (if (-1 : Int) = -1 then (0 : Int) else -1) ≤ 0; decide
  obtain ⟨r1, r2⟩ := recv_e (a := gA a) (body := strX) (group := g) hat
  obtain ⟨x1, x2⟩ := ext_e (a := gA a) (body := strX) (group := g) (at_ := (gA a).vis) (v := v) ⟨hv.1, by omega⟩
  refine (hp.set (gA a)).mono ?_
  rintro e w2 ⟨rfl, h2⟩
  rw [hset] at h2
  refine ⟨_, rfl, Lib.hid ?_⟩
  refine (h2.out.send (by decide) strX g ⟨#[]⟩ (-1)).mono ?_
  rintro e w3 ⟨rfl, h3⟩
  rw [s2] at h3
  refine ⟨_, rfl, Lib.hid ?_⟩
  refine (h3.out.recv1 (by decide) (by kernel_rfl) r1 r2).mono ?_
  rintro e w4 ⟨b, c, rfl, k1, k2, h4⟩
  refine ⟨b, c, rfl, k1, k2, h4.out.cell (List.mem_append.2 (.inl (mem_took5 _ _).2.2.1)), Lib.hid ?_⟩
  refine (h4.out.ext (by decide) (t := eR) (rcpt_size (m := ⟨1, 0, 1, 0, true, strX, g⟩) (by show (0 : Int) ≤ 1 ∧ (1 : Int) ≤ 1000000; omega) (by show (0 : Int) ≤ 1 ∧ (1 : Int) ≤ 1000000; omega)) v).mono ?_
  rintro e w5 ⟨rfl, h5⟩
  rw [x2] at h5
  refine ⟨by rw [x1], Lib.hid ?_⟩
  refine (h5.out.leased (k := 1) (by unfold Tim.wfk; omega)).mono ?_
  rintro e w6 ⟨rfl, rfl⟩
  refine ⟨leased_e, Lib.hid ?_⟩
  refine (h5.out.tickTo (by decide) (now := t) (tick_e (a := gA a) hm0 rfl ht)).mono ?_
  rintro e w7 ⟨A, c, j, A2, c2, n, rfl, _, h7⟩
  refine ⟨_, _, rfl, Lib.hid ?_⟩
  refine (h7.out.recv (by decide) 1 0).mono ?_
  rintro e w8 ⟨A3, c3, k, rfl, hk, h8⟩
  refine ⟨A3, c3, k, _, rfl, ?_, Lib.hid ?_⟩
  · rw [hk]
    by_cases hc : 0 < v ∧ v ≤ t
    · rw [if_pos hc, recv_e2, if_pos hc.2]
      simp
    · rw [if_neg hc, recv_e2]
      by_cases h0 : 0 < v
      · have : ¬ v ≤ t := fun h => hc ⟨h0, h⟩
        simp [h0, this]
      · have e0 : v = 0 := by omega
        simp [e0, ht.1]
  · rcases h8 with ⟨_, h8⟩ | ⟨_, _, _, _, h8⟩
    · exact awake_at hE h6 h8.out.bel
    · exact awake_at hE h6 h8.out.2.bel
end
end Go.Proofs.YtdjieapobodakaaGreatDoor
end

section
namespace Go.Proofs.YtdjieapobodakaaGreatDoor
open Go Go.RowKit Go.Maps Go.WideMaps

section
variable (w : World) (hE : Env w) (h6 : 6 ≤ w.heap.size) (a : Att) (v t : Int)
include hE h6
set_option maxHeartbeats 3200000 in
set_option maxRecDepth 100000 in
theorem extends2 (hr : (eA a).right = true) (hbad : 0 < a.max ∨ (¬ 0 < a.max ∧ (t < 0 ∨ (¬ t < 0 ∧ (524288 < t ∨ (¬ 524288 < t ∧ (v < 0 ∨ (¬ v < 0 ∧ 524288 < v)))))))) : ExtendSaid w a v t := by
  have HN : Hid (Calls Tryz.prog 12 #[attV (eA a)] (attBox w (eA a)) fun e w' => ∃ q : Nat, e = .returned (.pointer (some ⟨q, 0, none⟩)) ∧ w'.cell? ⟨w.heap.size, 4, none⟩ = some (.int .i64 a.max) ∧ Hid (AwakeSaid w w')) := Lib.hid ((new_att7 w hE h6 (eA a) hr).mono fun _ _ ⟨q, he, hc, _, hx⟩ => ⟨q, he, hc.2.2.2.2.1, Lib.hid (awake_at hE h6 hx.out.bel)⟩)
  clear hE h6 hr
  unfold ExtendSaid AwakeSaid attV attBox eA at *
  dsimp only at HN
  rcases hbad with h1 | ⟨h1, h2 | ⟨h2, h3 | ⟨h3, h4 | ⟨h4, h5⟩⟩⟩⟩
  all_goals
    go_enter Tryz.func8, Tryz.ntmps8
    go_wp2_with (first
      | (go_at_call 12; refine HN.out.mono ?_; rintro e w1 ⟨q, rfl, e4, HA⟩)
      | (go_at_call 11; refine HA.out.mono ?_; rintro e w3 ⟨rfl, HZ⟩))
    go_ret
    exact ⟨rfl, HZ.out⟩
set_option maxHeartbeats 6400000 in
set_option maxRecDepth 100000 in
theorem extends3 (hr : (eA a).right = true) (hm : ¬ 0 < a.max) (hv : 0 ≤ v ∧ v ≤ 524288) (ht : 0 ≤ t ∧ t ≤ 524288) : ExtendSaid w a v t := by
  obtain ⟨f, hf⟩ : ∃ f, f = a.fifo := ⟨_, rfl⟩
  obtain ⟨g, hgs, hgf, hgc⟩ : ∃ g : ByteArray, g.size ≤ 256 ∧ (!decide (g = ⟨#[]⟩)) = a.fifo ∧ ((f = true ∧ g = ⟨#[103]⟩) ∨ (f = false ∧ g = ⟨#[]⟩)) := by
    cases f with
    | true => exact ⟨⟨#[103]⟩, by decide, by rw [← hf]; decide, .inl ⟨rfl, rfl⟩⟩
    | false => exact ⟨⟨#[]⟩, by decide, by rw [← hf]; decide, .inr ⟨rfl, rfl⟩⟩
  have HN := Lib.hid (new_att7 w hE h6 (eA a) hr)
  have HC : Hid (∀ q w1, QW w w1 q (newQ (eA a)) 0 (attC7 w.heap.size (eA a)) → ChainE w a g v t q w1) := Lib.hid fun q w1 h => chain_e w a v t hE h6 hr hm hv ht hgs hgf h
  have hn1 : ¬ t < 0 := by omega
  have hn2 : ¬ 524288 < t := by omega
  have hn3 : ¬ v < 0 := by omega
  have hn4 : ¬ 524288 < v := by omega
  have hcs : (v = 0 ∧ v ≤ t) ∨ (0 < v ∧ v ≤ t) ∨ (0 < v ∧ ¬ v ≤ t) := by omega
  clear hE h6 hr hv ht hgs hgf
  unfold ExtendSaid ChainE AwakeSaid attV attBox gA eA at *
  dsimp only at HN HC
  rw [← hf] at HN HC ⊢
  clear hf
  rcases hcs with ⟨rfl, hle⟩ | ⟨hlt, hle⟩ | ⟨hlt, hle⟩
  all_goals
    first
      | simp only [if_pos hlt] at HC
      | simp only [if_neg (Int.lt_irrefl 0)] at HC
    first
      | simp only [if_pos hle] at HC
      | simp only [if_neg hle] at HC
    have HLE := Lib.hid hle
    rcases hgc with ⟨rfl, rfl⟩ | ⟨rfl, rfl⟩
  all_goals
    go_enter Tryz.func8, Tryz.ntmps8
    go_wp2_with (first
      | (go_at_call 12; refine HN.out.mono ?_; rintro e w1 ⟨q, rfl, ⟨d0, d1, d2, d3, d4, d5, d6⟩, d2f, HX⟩; have H1 := Lib.hid (HC.out q w1 HX.out); clear HN HC)
      | (go_at_call 29; refine H1.out.mono ?_; rintro e w2 ⟨n, rfl, H2⟩; clear H1 d0 d1 d2 d3 d4 d5 d6 d2f)
      | (go_at_call 18; refine H2.out.mono ?_; rintro e w3 ⟨u, rfl, H3⟩; clear H2)
      | (go_at_call 19; refine H3.out.mono ?_; rintro e w4 ⟨b, c, rfl, k1, k2, e2, H4⟩; clear H3)
      | (go_at_call 28; refine H4.out.mono ?_; rintro e w5 ⟨rfl, H5⟩; clear H4)
      | (go_at_call 27; refine H5.out.mono ?_; rintro e w6 ⟨rfl, H6⟩; clear H5)
      | (go_at_call 20; refine H6.out.mono ?_; rintro e w7 ⟨u1, u2, rfl, H7⟩; clear H6)
      | (go_at_call 19; refine H7.out.mono ?_; rintro e w8 ⟨A3, c3, k, er, rfl, rfl, H8⟩; clear H7)
      | (go_at_call 11; refine H8.out.mono ?_; rintro e w9 ⟨rfl, HZ⟩))
    go_ret
    exact ⟨by first | rfl | (show Ending.returned (Value.bool (!decide (v ≤ t))) = _; rw [decide_eq_false (by have := HLE.out; omega)]; rfl), HZ.out⟩
theorem extends_any : ExtendSaid w a v t := by
  cases hr : (eA a).right with
  | false => exact extends1 w hE h6 a v t hr
  | true =>
    by_cases h1 : 0 < a.max ∨ (¬ 0 < a.max ∧ (t < 0 ∨ (¬ t < 0 ∧ (524288 < t ∨ (¬ 524288 < t ∧ (v < 0 ∨ (¬ v < 0 ∧ 524288 < v)))))))
    · exact extends2 w hE h6 a v t hr h1
    · exact extends3 w hE h6 a v t hr (by omega) (by omega) (by omega)
end
end Go.Proofs.YtdjieapobodakaaGreatDoor
end

section
namespace Go.Proofs.YtdjieapobodakaaGreatDoor
open Go Go.RowKit Go.ChangeShapes Go.WideShapes Go.Deep

def Att.vals (a : Att) : List Value := [.int .i64 a.vis, .int .i64 a.ret, .int .i64 a.del, .int .i64 a.win, .int .i64 a.max, .string a.dead, .bool a.fifo]
section
variable {H : Type} {enc : TypeId × Value → H} {w : World} {spare : Nat → Bool} {held : Bool} {base : Nat}
theorem att_str {t : TypeId} {fuel : Nat} {v : Value} {x : DataW H × List MemPlace} (ht : Tryz.prog.underlying t = some .string) (h : DataW.trod enc Tryz.prog w base spare held fuel t [v] = some x) : ∃ s : ByteArray, v = .string s := by
  obtain ⟨s, hcs, hx, _⟩ := DataW.trod_string ht h
  simp at hcs
  exact ⟨s, hcs⟩
theorem att_int {t : TypeId} {fuel : Nat} {v : Value} {x : DataW H × List MemPlace} (ht : Tryz.prog.underlying t = some (.int .i64)) (h : DataW.trod enc Tryz.prog w base spare held fuel t [v] = some x) : ∃ n : Int, v = .int .i64 n := by
  obtain ⟨n, hcs, _, hwf⟩ := DataW.trod_int ht h
  simp at hcs
  exact ⟨n, hcs⟩
theorem att_bool {t : TypeId} {fuel : Nat} {v : Value} {x : DataW H × List MemPlace} (ht : Tryz.prog.underlying t = some .bool) (h : DataW.trod enc Tryz.prog w base spare held fuel t [v] = some x) : ∃ b : Bool, v = .bool b := by
  obtain ⟨b, hcs, hx⟩ := DataW.trod_bool ht h
  simp at hcs
  exact ⟨b, hcs⟩
theorem seven {α : Type} {l : List α} (h : l.length = 7) : ∃ a b c d e f g, l = [a, b, c, d, e, f, g] := by
  match l, h with
  | [a, b, c, d, e, f, g], _ => exact ⟨a, b, c, d, e, f, g, rfl⟩
theorem att_of_trod {fuel : Nat} {cs : List Value} {x : DataW H × List MemPlace} (h : DataW.trod enc Tryz.prog w base spare held fuel 23 cs = some x) : ∃ a : Att, cs = a.vals := by
  have hu := Tryz.underlying23
  obtain ⟨xs, n, _, hx, hlen, hxl, hg⟩ := DataW.trod_struct hu h
  have hC : Tryz.prog.cellsOf 23 = 7 := by kernel_rfl
  obtain ⟨v0, v1, v2, v3, v4, v5, v6, rfl⟩ := seven (hlen.trans hC)
  obtain ⟨y0, y1, y2, y3, y4, y5, y6, rfl⟩ := seven hxl
  have k3 : Tryz.prog.cellsOf 3 = 1 := by kernel_rfl
  have k9 : Tryz.prog.cellsOf 9 = 1 := by kernel_rfl
  have k4 : Tryz.prog.cellsOf 4 = 1 := by kernel_rfl
  have g0 := hg 0 _ rfl
  have g1 := hg 1 _ rfl
  have g2 := hg 2 _ rfl
  have g3 := hg 3 _ rfl
  have g4 := hg 4 _ rfl
  have g5 := hg 5 _ rfl
  have g6 := hg 6 _ rfl
  simp [k3, k9, k4] at g0 g1 g2 g3 g4 g5 g6
  obtain ⟨a0, rfl⟩ := att_int Tryz.underlying3 g0
  obtain ⟨a1, rfl⟩ := att_int Tryz.underlying3 g1
  obtain ⟨a2, rfl⟩ := att_int Tryz.underlying3 g2
  obtain ⟨a3, rfl⟩ := att_int Tryz.underlying3 g3
  obtain ⟨a4, rfl⟩ := att_int Tryz.underlying3 g4
  obtain ⟨a5, rfl⟩ := att_str Tryz.underlying9 g5
  obtain ⟨a6, rfl⟩ := att_bool Tryz.underlying4 g6
  exact ⟨⟨a0, a1, a2, a3, a4, a5, a6⟩, rfl⟩
end
end Go.Proofs.YtdjieapobodakaaGreatDoor
end
