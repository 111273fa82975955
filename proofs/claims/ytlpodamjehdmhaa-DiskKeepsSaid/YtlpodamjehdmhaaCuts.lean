/- What is proved here: 'DiskCuts' returns true at all arguments. -/
import Derived.Test.YtlpodamjehdmhaaAwake
namespace Go.Proofs.Ytlpodamjehdmhaa
open Go Go.RowKit Go.Maps

section
variable {P : Program} {w : World}
/-- 'append' to a row of the call's own, whatever slice stands behind it, where its guard says yes. -/
theorem wpList_append_guard {ops : Array Oper} {rest : List Oper} {o : Oper} {a : Act} {Q : Exit → Act → World → Prop} (hgd : Region.wanted o (yielded ops a.tmps) = true) (s x : Operand) (t : TypeId)
    (ho : o.op = .call { callee := .builtin .append, args := #[s, x], argTypes := #[t, t] })
    (base : Nat) (e : TypeId) (i : TypeInfo) (z : Value) (size bytes : Nat) (ht : P.underlying t = some (.slice e)) (hi : P.info? e = some i) (hz : i.zero = some z)
    (hsize : i.size = size) (hby : i.bytes = bytes) (hzs : z.cells.size = size) (hsz : 0 < size)
    (v : Value) (n : Nat) (xs : List Value) (hs : a.eval s = v) (hown : w.ownsRow base e size v n xs)
    (A : Option Addr) (m c : Nat) (news : List Value) (hx : a.eval x = .slice A m c) (hl : news.length = m * size) (hnil : A = none → m = 0 ∧ c = 0)
    (hnews : ∀ ad, A = some ad → ∀ j u, news[j]? = some u → w.cell? (ad.add j) = some u) (h1 : ∀ u ∈ news, u.oneCell' = true)
    (h63 : n + m ≤ maxLen) (hbytes : (n + m) * bytes ≤ 140737488355328) (hbase : base ≤ w.heap.size)
    (h : ∀ v' w', w'.ownsRow base e size v' (n + m) (xs ++ news) → w.grownBy w' v.ownBlock → wpList P ops Q rest (a.put o.dst v') w') : wpList P ops Q (o :: rest) a w := by
  refine wpList_step fun K hK => ?_
  rw [if_pos hgd]
  rcases A with _ | ad
  · obtain ⟨rfl, rfl⟩ := hnil rfl
    have hn : news = [] := List.eq_nil_of_length_eq_zero (by simpa using hl)
    subst hn
    have hrun := run_append_owned_none (P := P) w base t o.type e i size ht hi v n xs hown
    unfold Oper.wp execOp
    simp only [ho, resolve, invoke, builtin, Sem.run_bind, Sem.run_pure, Result.andThen_ok, List.map_toArray, List.map_cons, List.map_nil, hs, hx, hrun]
    exact hK _ _ (h v w (by simpa using hown) (World.grownBy.refl _ _))
  · obtain ⟨v', w', hr, h2, h3, _⟩ := run_append_own (P := P) w base t o.type e i z size bytes ht hi hz hsize hby hzs hsz v n xs hown ad m c news hl (hnews ad rfl) h1 h63 hbytes hbase
    unfold Oper.wp execOp
    simp only [ho, resolve, invoke, builtin, Sem.run_bind, Sem.run_pure, Result.andThen_ok, List.map_toArray, List.map_cons, List.map_nil, hs, hx, hr]
    exact hK _ _ (h v' w' h2 h3)
end

def one (b : List Int) (s : Nat) : List RF := [⟨[97], b, s⟩]
theorem one_app0 {xs : List Int} {room : Int} (h : (xs.length : Int) ≤ room) : appendF room [] strA.data.toList xs = (one xs 0, 0) := by
  unfold appendF
  rw [if_neg (by decide), if_neg (by simp [usedN]; omega)]
  rfl
theorem one_find (b : List Int) (s : Nat) : findN (one b s) strA.data.toList = some ⟨[97], b, s⟩ := rfl
theorem one_put (b c : List Int) (s t : Nat) : putN RF.nm ⟨[97], c, t⟩ (one b s) = one c t := rfl
theorem one_cut {xs : List Int} {s : Nat} {k : Nat} (h : k ≤ xs.length) : cutF (one xs s) strA.data.toList k = (one (xs.take k) k, 0) := by
  unfold cutF
  rw [one_find]
  simp only
  rw [if_neg (by omega)]
  rfl
theorem one_cutbad {xs : List Int} {s : Nat} {n : Int} (h : n < 0 ∨ (xs.length : Int) < n) : cutF (one xs s) strA.data.toList n = (one xs s, 1) := by
  unfold cutF
  rw [one_find]
  simp only
  rw [if_pos h]
theorem one_loose (b : List Int) (s : Nat) : looseF (one b s) strA.data.toList = b.length - s := rfl
theorem one_used (b : List Int) (s : Nat) : usedN (one b s) = b.length := by simp [usedN, one]
theorem one_app {b ys : List Int} {s : Nat} {room : Int} (h : ((b.length + ys.length : Nat) : Int) ≤ room) : appendF room (one b s) strA.data.toList ys = (one (b ++ ys) s, 0) := by
  unfold appendF
  rw [if_neg (by decide), if_neg (by rw [one_used]; omega)]
  rfl
theorem one_crash (b : List Int) (s : Nat) : crashF [] (one b s) = one (b.take s) s := rfl

section
variable {w wi : World} {d : Nat} {room : Int}
theorem st_rd {S : List RF} {A : Option Addr} {n c : Nat} {k : IntKind} {xs : List Int} (h : St w d room S wi) (hr : Rd w w.heap.size k A n c xs) : Rd wi wi.heap.size k A n c xs := (hr.below h.below).more h.below.size
theorem one_read2 {b : List Int} {s : Nat} (h : St w d room (one b s) wi) : Calls Try.prog 20 #[.pointer (some ⟨d, 0, none⟩), .string strA] wi fun e w' => ∃ A c, e = .returned (.tuple #[.slice A b.length c, .int .i64 0]) ∧
    w'.ownsRow wi.heap.size 5 1 (.slice A b.length c) b.length (b.map (Value.int .u8)) ∧ St w d room (one b s) w' ∧ DiskAt w' d room (one b s) fun k => w.heap.size ≤ k ∧ k < wi.heap.size := by
  refine (read_st h strA strA_size).mono ?_
  rintro e w' ⟨⟨hb, h1⟩, h2⟩
  rw [one_find] at h1
  rcases h1 with ⟨h1, _⟩ | ⟨f, A, c, h1, h3, h4⟩
  · cases h1
  · cases h1
    exact ⟨A, c, h3, h4, h2, h.tight.keep (Ψ := fun _ => False) (Chg.of_below hb) fun _ _ => id⟩
theorem crash_keep {S : List RF} {N n : Nat} {e : TypeId} {v : Value} {xs : List Value} (h : St w d room S wi) (ht : DiskAt wi d room S fun k => w.heap.size ≤ k ∧ k < N) (ho : wi.ownsRow N e 1 v n xs) (hL : S.length ≤ 1000000) :
    Calls Try.prog 18 #[.pointer (some ⟨d, 0, none⟩), .slice none 0 0] wi fun e' w' => e' = .returned (.tuple #[]) ∧ St w d room (crashF [] S) w' ∧ w'.ownsRow N e 1 v n xs := by
  refine (Crash_any ht none 0 0 [] (Rd.none_ _ _ _) (by intro b o e; cases e) (by simp) hL).mono ?_
  rintro e' w' ⟨rfl, h1, h2⟩
  exact ⟨rfl, St.next h.below h1 h2 fun _ h => h.1, h1.own ho fun g hg hh => by have := (ho.lt g hg).1; omega⟩
theorem one_read {b : List Int} {s : Nat} (h : St w d room (one b s) wi) : Calls Try.prog 20 #[.pointer (some ⟨d, 0, none⟩), .string strA] wi fun e w' => ∃ A c, e = .returned (.tuple #[.slice A b.length c, .int .i64 0]) ∧ Rd w' w'.heap.size .u8 A b.length c b ∧ St w d room (one b s) w' ∧ Below wi.heap.size wi w' := by
  refine (read_st h strA strA_size).mono ?_
  rintro e w' ⟨⟨hb, h1⟩, h2⟩
  rw [one_find] at h1
  rcases h1 with ⟨h1, _⟩ | ⟨f, A, c, h1, h3, h4⟩
  · cases h1
  · cases h1
    obtain ⟨A', c', e', hr⟩ := Rd.of_own h4
    cases e'
    exact ⟨A, c, h3, hr, h2, hb⟩
end

set_option maxHeartbeats 1600000 in
set_option maxRecDepth 100000 in
theorem cuts_long (a0 a1 : Option Addr) (len0 cap0 len1 cap1 : Nat) (a2 : Int) (w : World) (h0 : len0 ≤ 9223372036854775807) (h1 : len1 ≤ 9223372036854775807) (h : 600 < len0 ∨ 600 < len1) :
    Calls Try.prog 8 #[.slice a0 len0 cap0, .slice a1 len1 cap1, .int .i64 a2] w fun e w' => e = .returned (.bool true) ∧ Below w.heap.size w w' := by
  have HAW := Lib.hid fun W => awake_any W
  by_cases h2 : 600 < len0
  · have h3 : (600 : Int) < len0 := by omega
    go_enter Try.func8, Try.ntmps8
    go_wp2_with (go_at_call 11; refine (HAW.out _).mono ?_; rintro e w1 ⟨rfl, hb⟩)
    go_ret
    exact ⟨rfl, hb⟩
  · have h3 : (len0 : Int) ≤ 600 := by omega
    have h4 : (600 : Int) < len1 := by omega
    go_enter Try.func8, Try.ntmps8
    go_wp2_with (go_at_call 11; refine (HAW.out _).mono ?_; rintro e w1 ⟨rfl, hb⟩)
    go_ret
    exact ⟨rfl, hb⟩

set_option maxHeartbeats 1600000 in
set_option maxRecDepth 100000 in
theorem cuts_bad (a0 a1 : Option Addr) (len0 cap0 len1 cap1 : Nat) (a2 : Int) (xs : List Int) (w : World) (hx : Rd w w.heap.size .u8 a0 len0 cap0 xs) (bx : ∀ x ∈ xs, 0 ≤ x ∧ x < 256)
    (h0 : len0 ≤ 600) (h1 : len1 ≤ 600) (hb2 : a2 < 0 ∨ (len0 : Int) < a2) :
    Calls Try.prog 8 #[.slice a0 len0 cap0, .slice a1 len1 cap1, .int .i64 a2] w fun e w' => e = .returned (.bool true) ∧ Below w.heap.size w w' := by
  have HAW := Lib.hid fun W => awake_any W
  have HNEW := Lib.hid (New_st 2000 w)
  rw [show clampR 2000 = 2000 from rfl] at HNEW
  have hlx := hx.len
  have HA := Lib.hid fun wi (h : St w (w.heap.size + 1) 2000 [] wi) => by
    have := append_st h strA strA_size a0 len0 cap0 xs (st_rd h hx) bx (by decide)
    rwa [one_app0 (by omega)] at this
  have HC := Lib.hid fun wi (h : St w (w.heap.size + 1) 2000 (one xs 0) wi) => by
    have := cut_st h strA strA_size a2
    rwa [one_cutbad (by omega)] at this
  have HL := Lib.hid fun wi (h : St w (w.heap.size + 1) 2000 (one xs 0) wi) => by
    have := loose_st h strA strA_size
    rwa [one_loose, Nat.sub_zero, hlx] at this
  have h3 : (len0 : Int) ≤ 600 := by omega
  have h4 : (len1 : Int) ≤ 600 := by omega
  clear hx bx hlx
  by_cases hn : a2 < 0
  all_goals
    have hn2 : a2 < 0 ∨ (len0 : Int) < a2 := hb2
    try (have hn3 : 0 ≤ a2 := by omega)
    try (have hn4 : (len0 : Int) < a2 := by omega)
    clear hb2 hn2
    go_enter Try.func8, Try.ntmps8
    go_wp2_with (first
      | (go_at_call 12; refine HNEW.out.mono ?_; rintro e w1 ⟨rfl, h1, -⟩)
      | (go_at_call 24; (with_reducible refine (HA.out _ h1).mono ?_); rintro e w2 ⟨rfl, h2⟩; clear h1)
      | (go_at_call 26; (with_reducible refine (HC.out _ h2).mono ?_); rintro e w3 ⟨rfl, h3⟩; clear h2)
      | (go_at_call 22; (with_reducible refine (HL.out _ h3).mono ?_); rintro e w4 ⟨rfl, -, h4⟩; clear h3)
      | (go_at_call 11; refine (HAW.out _).mono ?_; rintro e w5 ⟨rfl, hb⟩))
    go_ret
    exact ⟨rfl, h4.below.trans (hb.mono h4.below.size)⟩

set_option maxHeartbeats 1600000 in
set_option maxRecDepth 100000 in
theorem cuts_good (a0 a1 : Option Addr) (len0 cap0 len1 cap1 k : Nat) (xs ys : List Int) (w : World) (hx : Rd w w.heap.size .u8 a0 len0 cap0 xs) (bx : ∀ x ∈ xs, 0 ≤ x ∧ x < 256) (hy : Rd w w.heap.size .u8 a1 len1 cap1 ys) (yb : ∀ y ∈ ys, 0 ≤ y ∧ y < 256)
    (h0 : len0 ≤ 600) (h1 : len1 ≤ 600) (hk : k ≤ len0) :
    Calls Try.prog 8 #[.slice a0 len0 cap0, .slice a1 len1 cap1, .int .i64 k] w fun e w' => e = .returned (.bool true) ∧ Below w.heap.size w w' := by
  have HAW := Lib.hid fun W => awake_any W
  obtain ⟨i0, hi, hz0, hz1, hz2⟩ := info_parts info_u8
  have HNEW := Lib.hid (New_st 2000 w)
  rw [show clampR 2000 = 2000 from rfl] at HNEW
  have hlx := hx.len
  have hly := hy.len
  have hlt : (xs.take k).length = k := by rw [List.length_take]; omega
  have hxk := hx.take hk
  have btk : ∀ x ∈ xs.take k, 0 ≤ x ∧ x < 256 := fun x hx => bx x (List.mem_of_mem_take hx)
  have HA := Lib.hid fun wi (h : St w (w.heap.size + 1) 2000 [] wi) => by
    have := append_st h strA strA_size a0 len0 cap0 xs (st_rd h hx) bx (by decide)
    rwa [one_app0 (by omega)] at this
  have HC := Lib.hid fun wi (h : St w (w.heap.size + 1) 2000 (one xs 0) wi) => by
    have := cut_st h strA strA_size k
    rwa [one_cut (by omega)] at this
  have HL := Lib.hid fun wi (h : St w (w.heap.size + 1) 2000 (one (xs.take k) k) wi) => by
    have := loose_st h strA strA_size
    rwa [one_loose, hlt, Nat.sub_self] at this
  have HA2 := Lib.hid fun wi (h : St w (w.heap.size + 1) 2000 (one (xs.take k) k) wi) => by
    have := append_st h strA strA_size a1 len1 cap1 ys (st_rd h hy) yb (Nat.le_of_ble_eq_true rfl)
    rwa [one_app (by omega)] at this
  have HR := Lib.hid fun wi (h : St w (w.heap.size + 1) 2000 (one (xs.take k ++ ys) k) wi) => by
    have := one_read2 h
    rwa [show (xs.take k ++ ys).length = k + len1 by rw [List.length_append, hlt, hly]] at this
  have HCR := Lib.hid fun N A c wi (h : St w (w.heap.size + 1) 2000 (one (xs.take k ++ ys) k) wi) ht (ho : wi.ownsRow N 5 1 (.slice A (k + len1) c) (k + len1) ((xs.take k ++ ys).map (Value.int .u8))) => by
    have := crash_keep h ht ho (Nat.le_of_ble_eq_true rfl)
    rwa [one_crash, List.take_left' hlt] at this
  have HR2 := Lib.hid fun wi (h : St w (w.heap.size + 1) 2000 (one (xs.take k) k) wi) => by
    have := one_read h
    rwa [hlt] at this
  have HSRC := Lib.hid fun wi S (h : St w (w.heap.size + 1) 2000 S wi) => st_rd h hxk
  have HSRC2 := Lib.hid fun wi S (h : St w (w.heap.size + 1) 2000 S wi) => st_rd h hy
  have HO0 := Lib.hid (fun (W : World) => World.ownsRow_lit (e := 5) (size := 1) W #[] 0 (Nat.le_refl _) (by decide) rfl)
  have HLT : Hid (((xs.take k).map (Value.int .u8)).length = k * 1) := Lib.hid (by rw [List.length_map, hlt, Nat.mul_one])
  have HLY : Hid ((ys.map (Value.int .u8)).length = len1 * 1) := Lib.hid (by rw [List.length_map, hly, Nat.mul_one])
  have HBT := Lib.hid (app_bytes btk yb)
  have HBK := Lib.hid btk
  have h3 : (len0 : Int) ≤ 600 := by omega
  have h4 : (len1 : Int) ≤ 600 := by omega
  have hk2 : (k : Int) ≤ len0 := by omega
  have hc0 := hx.cap
  have hm0 := hx.max
  unfold maxLen at hm0
  have hc1 : (k : Int) ≤ cap0 := by omega
  have hnil0 : a0 = none → len0 = 0 ∧ cap0 = 0 := hx.nil
  clear hx bx hlx hly hlt hxk btk hy yb
  have HE1 := Lib.hid fun (W : World) A6 c6 A10 c10 (r6 : Rd W W.heap.size .u8 A6 (k + len1) c6 (xs.take k ++ ys)) (r10 : Rd W W.heap.size .u8 A10 (k + len1) c10 (xs.take k ++ ys)) => by
    have := Equal_any A6 A10 _ c6 _ c10 _ _ _ _ W r6 r10 HBT.out HBT.out
    rwa [decide_eq_true rfl] at this
  have HE2 := Lib.hid fun (W : World) A8 c8 (r8 : Rd W W.heap.size .u8 A8 k c8 (xs.take k)) (r : Rd W W.heap.size .u8 a0 k cap0 (xs.take k)) => by
    have := Equal_any A8 a0 _ c8 _ cap0 _ _ _ _ W r8 r HBK.out HBK.out
    rwa [decide_eq_true rfl] at this
  rcases a0 with _ | a0
  all_goals
    clear hnil0
    go_enter Try.func8, Try.ntmps8
    go_wp2_with (first
      | (go_at_call 12; refine HNEW.out.mono ?_; rintro e w1 ⟨rfl, h1, -⟩)
      | (go_at_call 24; (with_reducible refine (HA.out _ h1).mono ?_); rintro e w2 ⟨rfl, h2⟩; clear h1)
      | (go_at_call 26; (with_reducible refine (HC.out _ h2).mono ?_); rintro e w3 ⟨rfl, h3⟩; clear h2)
      | (go_at_call 22; (with_reducible refine (HL.out _ h3).mono ?_); rintro e w4 ⟨rfl, -, h4⟩; clear h3)
      | (go_at_call 24; (with_reducible refine (HA2.out _ h4).mono ?_); rintro e w5 ⟨rfl, h5⟩; clear h4)
      | (go_at_call 20; (with_reducible refine (HR.out _ h5).mono ?_); rintro e w6 ⟨A6, c6, rfl, ho6, h6, ht6⟩; clear h5)
      | (go_at_call 18; (with_reducible refine (HCR.out _ _ _ _ h6 ht6 ho6).mono ?_); rintro e w7 ⟨rfl, h7, ho7⟩; clear h6 ht6 ho6)
      | (go_at_call 20; (with_reducible refine (HR2.out _ h7).mono ?_); rintro e w8 ⟨A8, c8, rfl, hr8, h8, hb8⟩; have ho8 := own_below ho7 hb8; clear ho7 h7 hb8)
      | (at_builtin
         refine wpList_append_guard (o := ⟨some 91, _, _, _, _, _⟩) rfl _ _ 31 rfl w8.heap.size 5 i0 _ 1 1 Try.underlying31 hi hz0 hz1 hz2 rfl (by omega) _ 0 [] rfl (HO0.out w8) _ k cap0 ((xs.take k).map (Value.int .u8)) rfl HLT.out (HSRC.out _ _ h8).nil ((HSRC.out _ _ h8).alloc (Nat.le_refl _) _).news (ints_oneCell _ _) (by unfold maxLen; omega) (by omega) (by simp) ?_
         intro v9 w9 ho9 hg9
         have hb9 : Below w8.heap.size w8 w9 := ((Below.refl w8.heap.size w8).alloc (Nat.le_refl _) _).grown hg9 (by simp) (fun k hk => ((HO0.out w8).lt k hk).1)
         have hz9 := hb9.size
         clear hg9)
      | (at_builtin
         refine wpList_append_guard (o := ⟨some 93, _, _, _, _, _⟩) rfl _ _ 31 rfl w8.heap.size 5 i0 _ 1 1 Try.underlying31 hi hz0 hz1 hz2 rfl (by omega) _ (0 + k) _ rfl ho9 a1 len1 cap1 (ys.map (Value.int .u8)) rfl HLY.out (HSRC2.out _ _ h8).nil ((HSRC2.out _ _ h8).below hb9).news (ints_oneCell _ _) (by unfold maxLen; omega) (by omega) hz9 ?_
         intro v10 w10 ho10 hg10
         have hb10 : Below w8.heap.size w8 w10 := hb9.grown hg10 hz9 (fun k hk => (ho9.lt k hk).1)
         obtain ⟨A10, c10, rfl, hr10⟩ := Rd.of_own (n := k + len1) (xs := xs.take k ++ ys) (k := .u8) (by simpa using ho10)
         have hb := h8.later hb10
         have hr6 : Rd w10 w10.heap.size .u8 A6 (k + len1) c6 (xs.take k ++ ys) := by
           obtain ⟨A', c', e', hr⟩ := Rd.of_own (own_below ho8 hb10)
           cases e'
           exact hr
         have hr8' := (hr8.below hb10).more hb10.size
         clear ho10 hg10 ho9 hb9 hz9 ho8 hr8 h8 hb10)
      | (go_at_call 21; (with_reducible refine (HE1.out _ _ _ _ _ hr6 hr10).mono ?_); rintro e w11 ⟨rfl, rfl⟩; clear hr6 hr10)
      | (go_at_call 21; (with_reducible refine (HE2.out _ _ _ hr8' (HSRC.out _ _ hb)).mono ?_); rintro e w12 ⟨rfl, rfl⟩; clear hr8')
      | (go_at_call 11; refine (HAW.out _).mono ?_; rintro e w13 ⟨rfl, hb13⟩))
    go_ret
    exact ⟨rfl, hb.below.trans (hb13.mono hb.below.size)⟩

theorem cuts_any (a0 a1 : Option Addr) (len0 cap0 len1 cap1 : Nat) (a2 : Int) (xs ys : List Int) (w : World) (hx : Rd w w.heap.size .u8 a0 len0 cap0 xs) (bx : ∀ x ∈ xs, 0 ≤ x ∧ x < 256) (hy : Rd w w.heap.size .u8 a1 len1 cap1 ys) (yb : ∀ y ∈ ys, 0 ≤ y ∧ y < 256) :
    Calls Try.prog 8 #[.slice a0 len0 cap0, .slice a1 len1 cap1, .int .i64 a2] w fun e w' => e = .returned (.bool true) ∧ Below w.heap.size w w' := by
  have q0 := hx.cap
  have q1 := hx.max
  have q2 := hy.cap
  have q3 := hy.max
  unfold maxLen at q1 q3
  by_cases h : 600 < len0 ∨ 600 < len1
  · exact cuts_long a0 a1 len0 cap0 len1 cap1 a2 w (by omega) (by omega) h
  · by_cases h2 : a2 < 0 ∨ (len0 : Int) < a2
    · exact cuts_bad a0 a1 len0 cap0 len1 cap1 a2 xs w hx bx (by omega) (by omega) h2
    · obtain ⟨k, rfl⟩ : ∃ k : Nat, a2 = k := ⟨a2.toNat, by omega⟩
      exact cuts_good a0 a1 len0 cap0 len1 cap1 k xs ys w hx bx hy yb (by omega) (by omega) (by omega)
end Go.Proofs.Ytlpodamjehdmhaa
