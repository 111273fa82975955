/- What is proved here: what the document's own answers for layer 1 return: the bytes of a number, a text, a list, in new memory; and one law on an append that leaves the shorter row as it was. -/
import Derived.Test.YtkdncnhjlgidnaaGreatDoorAwakeC
namespace Go.Proofs.YtkdncnhjlgidnaaGreatDoor
open Go Go.RowKit

theorem own_less {w : World} {base e g n m cap : Nat} {xs ys : List Value} (h : w.ownsRow base e 1 (.slice (some ⟨g, 0, none⟩) (n + m) cap) (n + m) (xs ++ ys)) (hx : xs.length = n) :
    w.ownsRow base e 1 (.slice (some ⟨g, 0, none⟩) n cap) n xs := by
  obtain ⟨h1, h2⟩ := h
  refine ⟨by omega, .inr ?_⟩
  rcases h2 with ⟨h3, _⟩ | ⟨g', cap', cur, hv, hb, hg, hnc, hcm, hcs, ht⟩
  · cases h3
  · simp only [Value.slice.injEq, Option.some.injEq, Addr.mk.injEq, and_true, true_and] at hv
    obtain ⟨rfl, rfl⟩ := hv
    refine ⟨g, cap, cur, rfl, hb, hg, by omega, hcm, hcs, ?_⟩
    have h4 : (cur.toList.take ((n + m) * 1)).take (n * 1) = xs := by rw [ht, ← hx, Nat.mul_one]; exact List.take_left
    rw [List.take_take] at h4
    rwa [Nat.min_eq_left (by omega)] at h4
theorem grow_any {w w' : World} (h : w.grownBy w' none) (row : Option Nat) : w.grownBy w' row := ⟨h.os, h.tape, h.output, h.size, fun k hk _ => h.block k hk (by simp)⟩

theorem run_append_keep {P : Program} (w : World) (base : Nat) (t ty e : TypeId) (i : TypeInfo) (z : Value) (bytes : Nat) (ht : P.underlying t = some (.slice e)) (hi : P.info? e = some i) (hz : i.zero = some z)
    (hsize : i.size = 1) (hby : i.bytes = bytes) (hzs : z.cells.size = 1)
    (v : Value) (n : Nat) (xs : List Value) (hown : w.ownsRow base e 1 v n xs)
    (ad : Addr) (m c : Nat) (news : List Value) (hl : news.length = m * 1) (hnews : ∀ j u, news[j]? = some u → w.cell? (ad.add j) = some u) (h1 : ∀ u ∈ news, u.oneCell' = true)
    (h63 : n + m ≤ maxLen) (hbytes : (n + m) * bytes ≤ 140737488355328) (hbase : base ≤ w.heap.size) :
    ∃ v' w', (Builtin.append_ #[t, t] ty #[v, .slice (some ad) m c]).run P w = .ok v' w' ∧ w'.ownsRow base e 1 v' (n + m) (xs ++ news) ∧ w'.ownsRow base e 1 v n xs ∧ w.grownBy w' v.ownBlock := by
  have hown0 := hown
  rcases hown.2 with ⟨rfl, rfl⟩ | ⟨g, cap, cur, rfl, hbg, hg, hnc, hcm, hcs, htake⟩
  · obtain ⟨v', w', hr, h2, h3, _⟩ := run_append_own (P := P) w base t ty e i z 1 bytes ht hi hz hsize hby hzs (by omega) _ _ _ hown ad m c news hl hnews h1 h63 hbytes hbase
    have hx : xs = [] := List.eq_nil_of_length_eq_zero (by have := hown.1; simpa using this)
    subst hx
    exact ⟨v', w', hr, h2, World.ownsRow_nil _ _ _ _, h3⟩
  · by_cases hroom : n + m ≤ cap
    · obtain ⟨w', hr, h2, h3⟩ := run_append_fits (P := P) w base t ty e i 1 ht hi hsize g n cap xs hown ad m c news hl hnews h1 hroom
      exact ⟨_, w', hr, h2, own_less h2 (by have := hown.1; omega), h3⟩
    · obtain ⟨v', w', hr, h2, h3⟩ := run_append_arg_grows (P := P) w t ty e i z 1 bytes ht hi hz hsize hby hzs (by omega) ⟨g, 0, none⟩ n cap xs hown.1 (hown.cells (g := g) rfl) ad m c news hl hnews (by omega) h63 hbytes
      exact ⟨v', w', hr, own_base h2 hbase, hown0.kept h3 (by simp [Value.ownBlock]), grow_any h3 _⟩

/-- 'append' for the walk, where its guard says yes. -/
theorem wpList_append_keep {P : Program} {w : World} {ops : Array Oper} {rest : List Oper} {o : Oper} {a : Act} {Q : Exit → Act → World → Prop} (hgd : Region.wanted o (yielded ops a.tmps) = true) (s x : Operand) (t : TypeId)
    (ho : o.op = .call { callee := .builtin .append, args := #[s, x], argTypes := #[t, t] })
    (base : Nat) (e : TypeId) (i : TypeInfo) (z : Value) (bytes : Nat) (ht : P.underlying t = some (.slice e)) (hi : P.info? e = some i) (hz : i.zero = some z)
    (hsize : i.size = 1) (hby : i.bytes = bytes) (hzs : z.cells.size = 1)
    (v : Value) (n : Nat) (xs : List Value) (hs : a.eval s = v) (hown : w.ownsRow base e 1 v n xs)
    (ad : Addr) (m c : Nat) (news : List Value) (hx : a.eval x = .slice (some ad) m c) (hl : news.length = m * 1)
    (hnews : ∀ j u, news[j]? = some u → w.cell? (ad.add j) = some u) (h1 : ∀ u ∈ news, u.oneCell' = true)
    (h63 : n + m ≤ maxLen) (hbytes : (n + m) * bytes ≤ 140737488355328) (hbase : base ≤ w.heap.size)
    (h : ∀ v' w', w'.ownsRow base e 1 v' (n + m) (xs ++ news) → w'.ownsRow base e 1 v n xs → w.grownBy w' v.ownBlock → wpList P ops Q rest (a.put o.dst v') w') : wpList P ops Q (o :: rest) a w := by
  refine wpList_step fun K hK => ?_
  rw [if_pos hgd]
  obtain ⟨v', w', hr, h2, h3, h4⟩ := run_append_keep (P := P) w base t o.type e i z bytes ht hi hz hsize hby hzs v n xs hown ad m c news hl hnews h1 h63 hbytes hbase
  unfold Oper.wp execOp
  simp only [ho, resolve, invoke, builtin, Sem.run_bind, Sem.run_pure, Result.andThen_ok, List.map_toArray, List.map_cons, List.map_nil, hs, hx, hr]
  exact hK _ _ (h v' w' h2 h3 h4)

/-- A row that is not empty has an address, and its cells lie there. -/
theorem own_place {w : World} {base e n : Nat} {v : Value} {xs : List Value} (h : w.ownsRow base e 1 v n xs) (hp : 0 < n) :
    ∃ g cap, v = .slice (some ⟨g, 0, none⟩) n cap ∧ base ≤ g ∧ g < w.heap.size ∧ ∀ j u, xs[j]? = some u → w.cell? ((⟨g, 0, none⟩ : Addr).add j) = some u := by
  have h0 := h
  rcases h.2 with ⟨_, h1⟩ | ⟨g, cap, cur, rfl, hb, hg, _⟩
  · omega
  · exact ⟨g, cap, rfl, hb, (Array.getElem?_eq_some_iff.1 hg).1, h0.cells (g := g) rfl⟩

set_option maxHeartbeats 800000 in
set_option maxRecDepth 100000 in
theorem refNum_any : ∀ (k : Nat) (n : Int) (w : World), n.toNat ≤ k → -9223372036854775808 ≤ n → n ≤ 9223372036854775807 →
    Calls Tryz.prog 26 #[.int .i64 n] w fun e w' =>
      ∃ v, e = .returned v ∧ w'.ownsRow w.heap.size 5 1 v (enc n.toNat).length ((enc n.toNat).map (Value.int .u8)) ∧ Below w.heap.size w w' := by
  intro k
  induction k using Nat.strongRecOn with
  | ind k ih =>
    intro n w hk hlo hhi
    have hone : ∀ (x : Int), (w.alloc (.cells #[.int .u8 x] 5)).ownsRow w.heap.size 5 1 (.slice (some ⟨w.heap.size, 0, none⟩) 1 1) 1 [.int .u8 x] := fun x =>
      World.ownsRow_lit (e := 5) (size := 1) w #[.int .u8 x] 1 (Nat.le_refl _) (by decide) rfl
    have HONE := Lib.hid hone
    clear hone
    have hbel : ∀ o, Below w.heap.size w (w.alloc o) := fun o => (Below.refl _ _).alloc (Nat.le_refl _) o
    have HBEL := Lib.hid hbel
    clear hbel
    by_cases hn : n < 0
    · have hz : enc n.toNat = [0] := by rw [show n.toNat = 0 by omega]; exact enc_small (by decide)
      have HZ := Lib.hid hz
      clear hz ih
      go_enter Tryz.func26, Tryz.ntmps26
      go_wp2_with fail
      go_ret
      rw [HZ.out]
      exact ⟨_, rfl, HONE.out 0, HBEL.out _⟩
    · by_cases h128 : n < 128
      · have hz : enc n.toNat = [n] := by rw [enc_small (by omega), Int.toNat_of_nonneg (by omega)]
        have HZ := Lib.hid hz
        clear hz ih
        go_enter Tryz.func26, Tryz.ntmps26
        go_wp2_with fail
        go_ret
        rw [HZ.out]
        exact ⟨_, rfl, HONE.out n, HBEL.out _⟩
      · obtain ⟨i0, hi, hz0, hz1, hz2⟩ := info_parts info_u8
        have hz : enc n.toNat = (128 + n % 128) :: enc (n / 128).toNat := by
          rw [enc_big (by omega), show (n / 128).toNat = n.toNat / 128 by omega]
          congr 1
          omega
        have HZ := Lib.hid hz
        have hd : (n / 128).toNat ≤ k - 1 := by omega
        have IH := Lib.hid (ih (k - 1) (by omega) (n / 128))
        have h9 : (enc (n / 128).toNat).length ≤ 9 := enc_len9 (by omega)
        have hep := enc_pos (n / 128).toNat
        clear hz ih
        have hmod : 0 ≤ n % 128 ∧ n % 128 < 128 := by omega
        go_enter Tryz.func26, Tryz.ntmps26
        go_wp2_with fail
        refine (IH.out _ (by omega) (by omega) (by omega)).mono ?_
        rintro e w1 ⟨v1, rfl, hown1, hb1⟩
        have hown0 := own_below (HONE.out (128 + n % 128)) hb1
        obtain ⟨g1, cap1, rfl, hg1, hg2, hcell1⟩ := own_place hown1 hep
        have hz1' := hb1.size
        have hz1'' : w.heap.size + 1 ≤ w1.heap.size := by simpa using hz1'
        clear hz1'
        go_wp2_with (at_builtin
                     refine wpList_append_keep rfl _ _ 22 rfl w.heap.size 5 i0 _ 1 Tryz.underlying22 hi hz0 hz1 hz2 rfl _ 1 [.int .u8 (128 + n % 128)] rfl hown0 ⟨g1, 0, none⟩ _ _ ((enc (n / 128).toNat).map (Value.int .u8)) rfl (by simp) hcell1 (ints_oneCell _ _) (by unfold maxLen; omega) (by omega) (by omega) ?_
                     intro v2 w2 hown2 hown3 hg3)
        go_ret
        rw [HZ.out]
        refine ⟨v2, rfl, ?_, ?_⟩
        · rw [List.length_cons, Nat.add_comm]
          exact hown2
        · exact ((HBEL.out _).trans (hb1.mono (by simp))).grown hg3 (by omega) (fun k hk => (hown0.lt k hk).1)
end Go.Proofs.YtkdncnhjlgidnaaGreatDoor
