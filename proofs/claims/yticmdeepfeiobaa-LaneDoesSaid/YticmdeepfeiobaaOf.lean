/- What is proved here: what slices.Clone returns at a row of numbers; what the lanes' Of answers. -/
import Derived.Test.YticmdeepfeiobaaHeads
import Derived.Deep.DeepFit
namespace Go.Proofs.Yticmdeepfeiobaa
open Go Go.RowKit Go.Maps Go.WideMaps

theorem own_empty (w : World) : (w.alloc (.cells #[] 3)).ownsRow w.heap.size 3 1 (.slice (some ⟨w.heap.size, 0, none⟩) 0 0) 0 [] :=
  ⟨rfl, .inr ⟨w.heap.size, 0, #[], rfl, Nat.le_refl _, heap_alloc_new w _, Nat.le_refl _, Nat.zero_le _, rfl, rfl⟩⟩
set_option maxHeartbeats 800000 in
set_option maxRecDepth 100000 in
theorem Clone_any {w : World} {v : Value} {xs : List Int} (h : w.ownsRow 0 3 1 v xs.length (xs.map (Value.int .i64))) (hn : xs.length < 900000) :
    Calls Try.prog 27 #[v] w (RowSaid xs w) := by
  rcases h.2 with ⟨rfl, hz⟩ | ⟨gb, c, cur, rfl, _, hgl, hnc, hcm, _⟩
  · obtain rfl : xs = [] := List.eq_nil_of_length_eq_zero hz
    have HE : Hid (RowSaid [] w (.returned (.slice none 0 0)) w) := Lib.hid ⟨none, 0, rfl, World.ownsRow_nil _ _ _ _, Below.refl _ _⟩
    have hq : (binOp .eql 34 (.slice none 0 0) (.slice none 0 0)).run Try.prog w = .ok (.bool true) w := by rw [Lib.run_eql_slice_nil (P := Try.prog) w 34 3 none 0 0 0 0 Try.underlying34]; rfl
    clear h hz
    go_enter Try.func27, Try.ntmps27
    go_wp2
    go_ret
    exact HE.out
  · unfold maxLen at hcm
    have HE := Lib.hid (own_empty w)
    have HN : Hid (∀ ad, some (⟨gb, 0, none⟩ : Addr) = some ad → ∀ j u, (xs.map (Value.int .i64))[j]? = some u → (w.alloc (.cells #[] 3)).cell? (ad.add j) = some u) := Lib.hid fun ad had j u hu => by
      obtain rfl := Option.some.inj had
      exact (h.alloc (.cells #[] 3)).cells (g := gb) rfl j u hu
    have HF : Hid ((xs.map (Value.int .i64)).length = xs.length * 1) := Lib.hid (by simp)
    have H1 : Hid (∀ u ∈ xs.map (Value.int .i64), u.oneCell' = true) := Lib.hid fun u hu => by
      obtain ⟨y, _, rfl⟩ := List.mem_map.1 hu
      rfl
    have HX : Hid (∀ v2 w2, w2.ownsRow w.heap.size 3 1 v2 (0 + xs.length) ([] ++ xs.map (Value.int .i64)) → (w.alloc (.cells #[] 3)).grownBy w2 (Value.slice (some ⟨w.heap.size, 0, none⟩) 0 0).ownBlock → RowSaid xs w (.returned v2) w2) := Lib.hid fun v2 w2 ho hg => by
      rw [Nat.zero_add, List.nil_append] at ho
      obtain ⟨A2, c2, rfl⟩ := own_slice ho
      exact ⟨A2, c2, rfl, ho, ((Below.refl w.heap.size w).alloc (Nat.le_refl _) _).grown hg (by simp) (fun k hk => by simp [Value.ownBlock] at hk; omega)⟩
    obtain ⟨i0, hi, hz0, hz1, hz2⟩ := info_parts info_int
    have hq := Lib.run_eql_slice_nil (P := Try.prog) w 34 3 (some ⟨gb, 0, none⟩) xs.length c 0 0 Try.underlying34
    have hq2 : (binOp .eql 34 (.slice (some ⟨gb, 0, none⟩) xs.length c) (.slice none 0 0)).run Try.prog w = .ok (.bool false) w := by rw [hq]; rfl
    clear h hq hgl
    generalize xs.map (Value.int .i64) = F at *
    generalize hL : xs.length = n at *
    have HL := Lib.hid hL
    clear hL
    go_enter Try.func27, Try.ntmps27
    go_wp2_with (at_builtin; refine wpList_append_src (o := ⟨some 7, _, _, _, _, _⟩) rfl (.tmp 5) (.tmp 6) 34 rfl w.heap.size 3 i0 _ 1 8 Try.underlying34 hi hz0 hz1 hz2 rfl (by omega) _ 0 [] rfl HE.out (some ⟨gb, 0, none⟩) n c F rfl HF.out (fun e => by cases e) HN.out H1.out (by unfold maxLen; omega) (by omega) (by simp) ?_; intro v2 w2 ho2 hg2; have HR := Lib.hid (HX.out v2 w2 ho2 hg2); clear ho2 hg2)
    go_ret
    exact HR.out

set_option maxHeartbeats 800000 in
theorem Of_any {w : World} {l N : Nat} {L : List Th} {Φ : Nat → Prop} (h : LaneAt w l L N Φ) {s : ByteArray} (hs : s.size ≤ maxLen) (hLn : L.length < 900000) :
    Calls Try.prog 20 #[.pointer (some ⟨l, 0, none⟩), .string s] w (RowSaid (ofG L s) w) := by
  obtain ⟨gm, pm, Ng, fg, fp, h⟩ := h
  obtain ⟨c0, c1, c2, _⟩ := three_cells h.blk
  obtain ⟨ho, _, hlk, A, c, hv, _, _, _⟩ := h.row hs
  have hl : (ofG L s).length ≤ L.length := by
    unfold ofG
    rw [List.length_map]
    exact List.length_filter_le _ _
  have HC := Lib.hid (Clone_any ho (by omega))
  generalize rowOf fg s = v at *
  have HV := Lib.hid hv
  clear ho h hl hv hLn
  go_enter Try.func20, Try.ntmps20
  go_wp2_with (go_at_call 27; go_fit HC.out; rintro e w2 HY; obtain ⟨A2, c3, rfl, how, hbl⟩ := HY; have HOW := Lib.hid how; have HBL := Lib.hid hbl; clear how hbl)
  go_ret
  exact ⟨A2, c3, rfl, HOW.out, HBL.out⟩
end Go.Proofs.Yticmdeepfeiobaa
