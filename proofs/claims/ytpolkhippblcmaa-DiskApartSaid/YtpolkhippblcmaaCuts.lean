/- What is proved here: 'DiskCuts' returns true at all arguments. -/
import Derived.Test.YtpolkhippblcmaaAwake
namespace Go.Proofs.Ytpolkhippblcmaa
open Go Go.RowKit Go.Maps

section
variable {P : Program} {w : World}
/-- 'append' to a row of the call's own, whatever slice stands behind it, where its guard says yes. -/
theorem wpList_append_guard {ops : Array Oper} {rest : List Oper} {o : Oper} {a : Act} {Q : Exit → Act → World → Prop} (hgd : Region.wanted o (yielded ops a.tmps) = true) (s x : Operand) (t : TypeId)
    (ho : o.op = .call { callee := .builtin .append, args := #[s, x], argTypes := #[t, t] })
    (base : Nat) (e : TypeId) (i : TypeInfo) (z : Value) (size bytes : Nat) (ht : P.underlying t = some (.slice e)) (hi : P.info? e = some i) (hz : i.zero = some z)
    (hsize : i.size = size) (hby : i.bytes = bytes) (hzs : z.cells.size = size) (hsz : 0 < size)
    (v : Value) (n : Nat) (xs : List Value) (hs : a.eval s = v) (hown : w.ownsRow base e size v n xs)
    (A : Option Addr) (m c : Nat) (news : List Value) (hx : a.eval x = .slice A m c) (hl : news.length = m * size) (hnil : A = none → m = 0 ∧ c = 0)
    (hnews : ∀ ad, A = some ad → ∀ j u, news[j]? = some u → w.cell? (ad.add j) = some u) (h1 : ∀ u ∈ news, u.oneCell' = true)
    (h63 : n + m ≤ maxLen) (hbytes : (n + m) * bytes ≤ 140737488355328) (hbase : base ≤ w.heap.size)
    (h : ∀ v' w', w'.ownsRow base e size v' (n + m) (xs ++ news) → w.grownBy w' v.ownBlock → wpList P ops Q rest (a.put o.dst v') w') : wpList P ops Q (o :: rest) a w := by
  refine wpList_step fun K hK => ?_
  rw [if_pos hgd]
  rcases A with _ | ad
  · obtain ⟨rfl, rfl⟩ := hnil rfl
    have hn : news = [] := List.eq_nil_of_length_eq_zero (by simpa using hl)
    subst hn
    have hrun := run_append_owned_none (P := P) w base t o.type e i size ht hi v n xs hown
    unfold Oper.wp execOp
    simp only [ho, resolve, invoke, builtin, Sem.run_bind, Sem.run_pure, Result.andThen_ok, List.map_toArray, List.map_cons, List.map_nil, hs, hx, hrun]
    exact hK _ _ (h v w (by simpa using hown) (World.grownBy.refl _ _))
  · obtain ⟨v', w', hr, h2, h3, _⟩ := run_append_own (P := P) w base t o.type e i z size bytes ht hi hz hsize hby hzs hsz v n xs hown ad m c news hl (hnews ad rfl) h1 h63 hbytes hbase
    unfold Oper.wp execOp
    simp only [ho, resolve, invoke, builtin, Sem.run_bind, Sem.run_pure, Result.andThen_ok, List.map_toArray, List.map_cons, List.map_nil, hs, hx, hr]
    exact hK _ _ (h v' w' h2 h3)
end

def one (b : List Int) (s : Nat) : List RF := [⟨[97], b, s⟩]
theorem one_app0 {xs : List Int} {room : Int} (h : (xs.length : Int) ≤ room) : appendF room [] strA.data.toList xs = (one xs 0, 0) := by
  unfold appendF
  rw [if_neg (by decide), if_neg (by simp [usedN]; omega)]
  rfl
theorem one_find (b : List Int) (s : Nat) : findN (one b s) strA.data.toList = some ⟨[97], b, s⟩ := rfl
theorem one_put (b c : List Int) (s t : Nat) : putN RF.nm ⟨[97], c, t⟩ (one b s) = one c t := rfl
theorem one_cut {xs : List Int} {s : Nat} {k : Nat} (h : k ≤ xs.length) : cutF (one xs s) strA.data.toList k = (one (xs.take k) k, 0) := by
  unfold cutF
  rw [one_find]
  simp only
  rw [if_neg (by omega)]
  rfl
theorem one_cutbad {xs : List Int} {s : Nat} {n : Int} (h : n < 0 ∨ (xs.length : Int) < n) : cutF (one xs s) strA.data.toList n = (one xs s, 1) := by
  unfold cutF
  rw [one_find]
  simp only
  rw [if_pos h]
theorem one_loose (b : List Int) (s : Nat) : looseF (one b s) strA.data.toList = b.length - s := rfl
theorem one_used (b : List Int) (s : Nat) : usedN (one b s) = b.length := by simp [usedN, one]
theorem one_app {b ys : List Int} {s : Nat} {room : Int} (h : ((b.length + ys.length : Nat) : Int) ≤ room) : appendF room (one b s) strA.data.toList ys = (one (b ++ ys) s, 0) := by
  unfold appendF
  rw [if_neg (by decide), if_neg (by rw [one_used]; omega)]
  rfl
theorem one_crash (b : List Int) (s : Nat) : crashF [] (one b s) = one (b.take s) s := rfl

section
variable {w wi : World} {d : Nat} {room : Int}
theorem st_rd {S : List RF} {A : Option Addr} {n c : Nat} {k : IntKind} {xs : List Int} (h : St w d room S wi) (hr : Rd w w.heap.size k A n c xs) : Rd wi wi.heap.size k A n c xs := (hr.below h.below).more h.below.size
theorem one_read2 {b : List Int} {s : Nat} (h : St w d room (one b s) wi) : Calls Try.prog 15 #[.pointer (some ⟨d, 0, none⟩), .string strA] wi fun e w' => ∃ A c, e = .returned (.tuple #[.slice A b.length c, .int .i64 0]) ∧
    w'.ownsRow wi.heap.size 5 1 (.slice A b.length c) b.length (b.map (Value.int .u8)) ∧ St w d room (one b s) w' ∧ DiskAt w' d room (one b s) fun k => w.heap.size ≤ k ∧ k < wi.heap.size := by
  refine (read_st h strA strA_size).mono ?_
  rintro e w' ⟨⟨hb, h1⟩, h2⟩
  rw [one_find] at h1
  rcases h1 with ⟨h1, _⟩ | ⟨f, A, c, h1, h3, h4⟩
  · cases h1
  · cases h1
    exact ⟨A, c, h3, h4, h2, h.tight.keep (Ψ := fun _ => False) (Chg.of_below hb) fun _ _ => id⟩
theorem crash_keep {S : List RF} {N n : Nat} {e : TypeId} {v : Value} {xs : List Value} (h : St w d room S wi) (ht : DiskAt wi d room S fun k => w.heap.size ≤ k ∧ k < N) (ho : wi.ownsRow N e 1 v n xs) (hL : S.length ≤ 1000000) :
    Calls Try.prog 20 #[.pointer (some ⟨d, 0, none⟩), .slice none 0 0] wi fun e' w' => e' = .returned (.tuple #[]) ∧ St w d room (crashF [] S) w' ∧ w'.ownsRow N e 1 v n xs := by
  refine (Crash_any ht none 0 0 [] (Rd.none_ _ _ _) (by intro b o e; cases e) (by simp) hL).mono ?_
  rintro e' w' ⟨rfl, h1, h2⟩
  exact ⟨rfl, St.next h.below h1 h2 fun _ h => h.1, h1.own ho fun g hg hh => by have := (ho.lt g hg).1; omega⟩
theorem one_read {b : List Int} {s : Nat} (h : St w d room (one b s) wi) : Calls Try.prog 15 #[.pointer (some ⟨d, 0, none⟩), .string strA] wi fun e w' => ∃ A c, e = .returned (.tuple #[.slice A b.length c, .int .i64 0]) ∧ Rd w' w'.heap.size .u8 A b.length c b ∧ St w d room (one b s) w' ∧ Below wi.heap.size wi w' := by
  refine (read_st h strA strA_size).mono ?_
  rintro e w' ⟨⟨hb, h1⟩, h2⟩
  rw [one_find] at h1
  rcases h1 with ⟨h1, _⟩ | ⟨f, A, c, h1, h3, h4⟩
  · cases h1
  · cases h1
    obtain ⟨A', c', e', hr⟩ := Rd.of_own h4
    cases e'
    exact ⟨A, c, h3, hr, h2, hb⟩
end




end Go.Proofs.Ytpolkhippblcmaa
