/- What is proved here: what the disk's Append does. -/
import Derived.Test.YtpolkhippblcmaaOps
import Derived.Maps.AppendAt
namespace Go.Proofs.Ytpolkhippblcmaa
open Go Go.RowKit Go.Maps

section
variable {P : Program} {w : World}
/-- 'append' to an owned row, whatever slice stands behind it; and where the new row lies. -/
theorem wpList_append_where {ops : Array Oper} {rest : List Oper} {o : Oper} {a : Act} {Q : Exit → Act → World → Prop} (hgd : o.guard = none) (s x : Operand) (t : TypeId)
    (ho : o.op = .call { callee := .builtin .append, args := #[s, x], argTypes := #[t, t] })
    (base : Nat) (e : TypeId) (i : TypeInfo) (z : Value) (size bytes : Nat) (ht : P.underlying t = some (.slice e)) (hi : P.info? e = some i) (hz : i.zero = some z)
    (hsize : i.size = size) (hby : i.bytes = bytes) (hzs : z.cells.size = size) (hsz : 0 < size)
    (v : Value) (n : Nat) (xs : List Value) (hs : a.eval s = v) (hown : w.ownsRow base e size v n xs)
    (A : Option Addr) (m c : Nat) (news : List Value) (hx : a.eval x = .slice A m c) (hl : news.length = m * size) (hnil : A = none → m = 0 ∧ c = 0)
    (hnews : ∀ ad, A = some ad → ∀ j u, news[j]? = some u → w.cell? (ad.add j) = some u) (h1 : ∀ u ∈ news, u.oneCell' = true)
    (h63 : n + m ≤ maxLen) (hbytes : (n + m) * bytes ≤ 140737488355328) (hbase : base ≤ w.heap.size)
    (h : ∀ v' w', w'.ownsRow base e size v' (n + m) (xs ++ news) → w.grownBy w' v.ownBlock → (v'.ownBlock = v.ownBlock ∨ v'.ownBlock = some w.heap.size) → wpList P ops Q rest (a.put o.dst v') w') : wpList P ops Q (o :: rest) a w := by
  rcases A with _ | ad
  · obtain ⟨rfl, rfl⟩ := hnil rfl
    have hn : news = [] := List.eq_nil_of_length_eq_zero (by simpa using hl)
    subst hn
    refine wpList_plain hgd fun K hK' => ?_
    have hrun := run_append_owned_none (P := P) w base t o.type e i size ht hi v n xs hown
    unfold Oper.wp
    simp [execOp, ho, resolve, invoke, builtin, hs, hx, hrun, Result.andThen]
    exact hK' _ _ (h v w (by simpa using hown) (World.grownBy.refl _ _) (.inl rfl))
  · exact wpList_append_own_at w hgd s x t ho base e i z size bytes ht hi hz hsize hby hzs hsz v n xs hs hown ad m c news hx hl (hnews ad rfl) h1 h63 hbytes hbase
      fun v' w' h2 h3 _ h5 => h v' w' h2 h3 h5
end

section
variable {w w' : World} {d m : Nat} {room : Int} {L : List Fil} {Φ : Nat → Prop}
theorem grown_chg {v : Value} (h : w.grownBy w' v.ownBlock) : Chg (fun k => v.ownBlock = some k) w w' := Chg.of_grown h
/-- Behind the append: what still stands. -/
theorem DiskL.app_mid (h : DiskL w d m room L Φ) {x : Fil} (hx : x ∈ L) (hg : w.grownBy w' x.v.ownBlock) :
    w'.heap[x.p]? = some (.cells #[x.v, .int .i64 x.f.s] 69 (0, 0)) ∧ w'.heap[d]? = some (.cells #[.int .i64 room, .int .i64 (usedN (L.map Fil.f)), .map (some m)] 57 (0, 0)) :=
  ⟨(grown_chg hg).heap (h.file x hx).blk (h.v_p hx hx), (grown_chg hg).heap h.blk (h.v_d hx)⟩
/-- .. and behind its two stores. -/
theorem DiskL.app_end (h : DiskL w d m room L Φ) {x : Fil} (hx : x ∈ L) (hg : w.grownBy w' x.v.ownBlock) {v' : Value} {ys : List Int} (hy : ∀ y ∈ ys, 0 ≤ y ∧ y < 256) {n : Nat} (hn : ys.length = n) (hfit : ((usedN (L.map Fil.f) + n : Nat) : Int) ≤ room)
    (hown : w'.ownsRow 0 5 1 v' (x.f.b.length + n) (x.f.b.map (Value.int .u8) ++ ys.map (Value.int .u8))) (hat : v'.ownBlock = x.v.ownBlock ∨ v'.ownBlock = some w.heap.size) :
    let W := (w'.setCell ⟨x.p, 0, none⟩ v').setCell ⟨d, 1, none⟩ (.int .i64 ((usedN (L.map Fil.f) + n : Nat) : Int))
    Chg (foot d x) w W ∧ DiskL W d m room (putN Fil.nm ⟨⟨x.f.nm, x.f.b ++ ys, x.f.s⟩, x.p, v'⟩ L) (grow Φ w W) := by
  obtain ⟨hm1, hm2⟩ := h.app_mid hx hg
  have hdp := h.d_p hx
  have c1 : Chg (foot d x) w w' := (grown_chg hg).mono fun i _ e => .inr (.inr e)
  have c2 := Chg.set w' x.p 0 v'
  have c3 := Chg.set (w'.setCell ⟨x.p, 0, none⟩ v') d 1 (.int .i64 ((usedN (L.map Fil.f) + n : Nat) : Int))
  have cc := (c1.trans c2 fun i _ e => .inr (.inl e)).trans c3 fun i _ e => .inl e
  have hf := h.file x hx
  have hl : (x.f.b ++ ys).length = x.f.b.length + n := by rw [List.length_append, hn]
  have hblk : ∀ g, v'.ownBlock = some g → ∃ cur, w'.heap[g]? = some (.cells cur 5 (0, 0)) := fun g hg' => by
    rcases hown.2 with ⟨e, _⟩ | ⟨g', cap, cur, e, _, hh, _⟩
    · rw [e] at hg'; cases hg'
    · rw [e] at hg'
      obtain rfl : g' = g := by simpa [Value.ownBlock] using hg'
      exact ⟨cur, hh⟩
  have ho2 := c2.own hown fun g hg' e => by
    obtain ⟨cur, hh⟩ := hblk g hg'
    rw [e, hm1] at hh
    simp at hh
  have ho3 := c3.own ho2 fun g hg' e => by
    obtain ⟨cur, hh⟩ := hblk g hg'
    rw [e, hm2] at hh
    simp at hh
  refine ⟨cc, h.touch hx rfl rfl cc (U := usedN (L.map Fil.f) + n) ?_ ?_ ⟨?_, ?_, ?_, ?_, hf.len⟩ (fun g hg' => ?_) hfit⟩
  · exact three_set1 (c2.heap hm2 fun e => hdp e.symm) _
  · show _ = _ + (x.f.b ++ ys).length
    omega
  · exact c3.heap (two_set0 hm1 _) hdp
  · show World.ownsRow _ 0 _ 1 v' (x.f.b ++ ys).length ((x.f.b ++ ys).map _)
    rw [hl, List.map_append]
    exact ho3
  · show x.f.s ≤ (x.f.b ++ ys).length
    have := hf.syn
    omega
  · exact app_bytes hf.byt hy
  · rcases hat with e | e
    · exact .inl (by rw [← e]; exact hg')
    · refine .inr ⟨by
        rw [e] at hg'
        have : w.heap.size = g := by simpa using hg'
        omega, ?_⟩
      obtain ⟨cur, hh⟩ := hblk g hg'
      have := (Array.getElem?_eq_some_iff.1 hh).1
      simpa [World.setCell] using this
end

/-- The file of a name, or a new one. -/
def oldRF (S : List RF) (k : List UInt8) : RF := (findN S k).getD ⟨k, [], 0⟩
def appendF (room : Int) (S : List RF) (k : List UInt8) (ys : List Int) : List RF × Int :=
  if nameOk k = false then (S, 1) else if room < ((usedN S + ys.length : Nat) : Int) then (S, 5) else (putN RF.nm ⟨k, (oldRF S k).b ++ ys, (oldRF S k).s⟩ S, 0)

theorem nameOk_len {k : List UInt8} (h : nameOk k = true) : k.length ≤ 32 := by
  unfold nameOk at h
  simp only [Bool.and_eq_true, decide_eq_true_eq] at h
  exact h.1.2

set_option maxHeartbeats 800000 in
set_option maxRecDepth 100000 in
theorem Append_bad {w : World} {d : Nat} {room : Int} {S : List RF} {Φ : Nat → Prop} (h : DiskAt w d room S Φ) (s : ByteArray) (hs : s.size ≤ maxLen) (A : Option Addr) (n c : Nat) (ys : List Int) (hr : Rd w w.heap.size .u8 A n c ys)
    (hbad : nameOk s.data.toList = false ∨ room < ((usedN S + ys.length : Nat) : Int)) :
    Calls Try.prog 18 #[.pointer (some ⟨d, 0, none⟩), .string s, .slice A n c] w (OpSaid d room (appendF room S s.data.toList ys).1 (appendF room S s.data.toList ys).2 Φ w) := by
  obtain ⟨m, L, rfl, h⟩ := h
  obtain ⟨c0, c1, c2, f0, f1, f2⟩ := three_cells h.blk
  have hlen := hr.len
  have hc := hr.cap
  have hx := hr.max
  unfold maxLen at hx
  have HN := Lib.hid fun W => isName_any s W hs
  by_cases hn : nameOk s.data.toList = false
  · have HF : appendF room (L.map Fil.f) s.data.toList ys = (L.map Fil.f, 1) := if_pos hn
    rw [HF]
    have HS := Lib.hid (h.same (Chg.refl _ _) (Chg.refl _ _) (e := .returned (.int .i64 1)) rfl)
    have HNN := Lib.hid hn
    clear h hr HF hn hbad
    go_enter Try.func18, Try.ntmps18
    go_wp2_with (go_at_call 35; refine (HN.out _).mono ?_; rw [HNN.out]; rintro e w1 ⟨rfl, rfl⟩)
    go_ret
    exact HS.out
  · have hfull : room < ((usedN (L.map Fil.f) + ys.length : Nat) : Int) := by
      rcases hbad with e | e
      · exact absurd e hn
      · exact e
    have HF : appendF room (L.map Fil.f) s.data.toList ys = (L.map Fil.f, 5) := by unfold appendF; rw [if_neg hn, if_pos hfull]
    rw [HF]
    have HS : Hid (∀ q, OpSaid d room (L.map Fil.f) 5 Φ w (.returned (.int .i64 5)) (w.drewN q)) := Lib.hid fun q => h.same (Chg.drewN w q) (Chg.drewN w q) rfl
    have hn' : nameOk s.data.toList = true := by simpa using hn
    have HNN := Lib.hid hn'
    have h4 := h.used
    have h5 := h.rm
    have hfull2 : room - (usedN (L.map Fil.f) : Int) < (n : Int) := by omega
    generalize usedN (L.map Fil.f) = V at *
    have hw : IntKind.i64.wrap (room - (V : Int)) = room - (V : Int) := IntWalk.i64_in _ (by omega)
    clear h hr HF hn hn' hbad hfull hlen
    go_enter Try.func18, Try.ntmps18
    go_wp2_with (go_at_call 35; refine (HN.out _).mono ?_; rw [HNN.out]; rintro e w1 ⟨rfl, rfl⟩)
    go_quiet (fail)
    clear hw
    go_wp2_with fail
    go_ret
    exact HS.out _

theorem append_shape {w : World} {base e n : Nat} {v : Value} {xs : List Value} (h : w.ownsRow base e 1 v n xs) : ∃ A c, v = .slice A n c := by
  rcases h.2 with ⟨rfl, rfl⟩ | ⟨g, cap, cur, rfl, _⟩
  · exact ⟨none, 0, rfl⟩
  · exact ⟨_, cap, rfl⟩

set_option maxHeartbeats 1600000 in
set_option maxRecDepth 100000 in
theorem Append_old {w : World} {d m : Nat} {room : Int} {L : List Fil} {Φ : Nat → Prop} (h : DiskL w d m room L Φ) {x : Fil} (hx : x ∈ L) (s : ByteArray) (hs : s.size ≤ maxLen) (hlk : ptrTo L s.data.toList = .pointer (some ⟨x.p, 0, none⟩))
    (A : Option Addr) (n c : Nat) (ys : List Int) (hr : Rd w w.heap.size .u8 A n c ys) (hy : ∀ y ∈ ys, 0 ≤ y ∧ y < 256) (hn : nameOk s.data.toList = true) (hfit : ((usedN (L.map Fil.f) + n : Nat) : Int) ≤ room) :
    Calls Try.prog 18 #[.pointer (some ⟨d, 0, none⟩), .string s, .slice A n c] w (OpSaid d room (putN RF.nm ⟨x.f.nm, x.f.b ++ ys, x.f.s⟩ (L.map Fil.f)) 0 Φ w) := by
  obtain ⟨c0, c1, c2, f0, f1, f2⟩ := three_cells h.blk
  obtain ⟨i0, hi, hz0, hz1, hz2⟩ := info_parts info_u8
  have hlen := hr.len
  have hc := hr.cap
  have hmx := hr.max
  unfold maxLen at hmx
  have hf := h.file x hx
  obtain ⟨A', c', hv, hr'⟩ := hf.rd
  obtain ⟨q0, _, g0, _⟩ := two_cells hf.blk
  rw [hv] at q0
  have hc' := hr'.cap
  have hm' := hr'.max
  unfold maxLen at hm'
  have h3 := usedN_mem (List.mem_map_of_mem (f := Fil.f) hx)
  have h5 := h.rm
  have HN := Lib.hid fun W => isName_any s W hs
  have HNN := Lib.hid hn
  have hlk' : ∀ q, (Instr.lookup 55 (.map (some m)) (.string s) false).run Try.prog (w.drewN q) = .ok (.pointer (some ⟨x.p, 0, none⟩)) (w.drewN q) := fun q => by
    have := (h.map.keep (Chg.drewN (Φ := fun _ => False) w q) id).look s hs
    rwa [hlk] at this
  have HOWN : Hid (∀ q, (w.drewN q).ownsRow 0 5 1 (.slice A' x.f.b.length c') x.f.b.length (x.f.b.map (Value.int .u8))) := Lib.hid fun q => (Chg.drewN (Φ := fun _ => False) w q).own (by rw [← hv]; exact hf.own) fun _ _ => id
  have HNEWS : Hid (∀ q, Rd (w.drewN q) w.heap.size .u8 A n c ys) := Lib.hid fun q => hr.keep fun _ _ => rfl
  have hdp := h.d_p hx
  have HE : Hid (∀ q v' w3, w3.ownsRow 0 5 1 v' (x.f.b.length + n) (x.f.b.map (Value.int .u8) ++ ys.map (Value.int .u8)) → (w.drewN q).grownBy w3 (Value.slice A' x.f.b.length c').ownBlock → (v'.ownBlock = (Value.slice A' x.f.b.length c').ownBlock ∨ v'.ownBlock = some (w.drewN q).heap.size) →
      ∃ A3 c3, v' = .slice A3 (x.f.b.length + n) c3 ∧ w3.cell? ⟨x.p, 0, none⟩ = some (.slice A' x.f.b.length c') ∧ w3.frozen? ⟨x.p, 0, none⟩ = false ∧ w3.cell? ⟨d, 1, none⟩ = some (.int .i64 (usedN (L.map Fil.f))) ∧ w3.frozen? ⟨d, 1, none⟩ = false ∧
        Hid (OpSaid d room (putN RF.nm ⟨x.f.nm, x.f.b ++ ys, x.f.s⟩ (L.map Fil.f)) 0 Φ w (.returned (.int .i64 0)) ((w3.setCell ⟨x.p, 0, none⟩ v').setCell ⟨d, 1, none⟩ (.int .i64 ((usedN (L.map Fil.f) + n : Nat) : Int))))) := Lib.hid (by
    intro q v' w3 ho hg hat
    rw [← hv] at hg hat
    have hq : DiskL (w.drewN q) d m room L Φ := h.keep (Chg.drewN (Φ := fun _ => False) w q) fun _ _ => id
    obtain ⟨A3, c3, e3⟩ := append_shape ho
    obtain ⟨hm1, hm2⟩ := hq.app_mid hx hg
    obtain ⟨a0, _, a2, _⟩ := two_cells hm1
    obtain ⟨_, b1, _, _, b4, _⟩ := three_cells hm2
    obtain ⟨hcc, hD⟩ := hq.app_end hx hg hy hlen hfit ho hat
    refine ⟨A3, c3, e3, by rw [← hv]; exact a0, a2, b1, b4, Lib.hid ?_⟩
    have hcw : Chg (foot d x) w ((w3.setCell ⟨x.p, 0, none⟩ v').setCell ⟨d, 1, none⟩ (.int .i64 ((usedN (L.map Fil.f) + n : Nat) : Int))) := (Chg.drewN w q).trans hcc fun _ _ e => e
    exact h.said hx hcw hD rfl)
  have hsz0 : (0 : Nat) ≤ w.heap.size := Nat.zero_le _
  have HB : Hid (x.f.b.length + n ≤ 1048576) := Lib.hid (by omega)
  have hfit2 : (n : Int) ≤ room - (usedN (L.map Fil.f) : Int) := by omega
  have HLY : Hid ((ys.map (Value.int .u8)).length = n * 1) := Lib.hid (by simpa using hlen)
  generalize usedN (L.map Fil.f) = V at *
  generalize x.f.b.length = N at *
  have hV : (V : Int) + (n : Int) ≤ 1048576 := by omega
  have hw : IntKind.i64.wrap (room - (V : Int)) = room - (V : Int) := IntWalk.i64_in _ (by omega)
  clear h hr hf hr' hv hn hfit hlk hx hlen hy
  go_enter Try.func18, Try.ntmps18
  go_wp2_with (go_at_call 35; refine (HN.out _).mono ?_; rw [HNN.out]; rintro e w1 ⟨rfl, rfl⟩)
  go_quiet (fail)
  clear hw
  go_wp2_with (at_builtin
               refine wpList_append_where (o := ⟨some 43, _, _, _, _, _⟩) rfl _ _ 31 rfl 0 5 i0 _ 1 1 Try.underlying31 hi hz0 hz1 hz2 rfl (by omega) _ N _ rfl (HOWN.out _) A n c (ys.map (Value.int .u8)) rfl HLY.out (HNEWS.out 0).nil (HNEWS.out _).news (ints_oneCell _ _) (by have := HB.out; unfold maxLen; omega) (by have := HB.out; omega) (Nat.zero_le _) ?_
               intro v' w3 ho hg hat
               obtain ⟨A3, c3, rfl, hx1, hx2, hx3, hx4, HX⟩ := HE.out _ v' w3 ho hg hat
               clear ho hg hat)
  go_ret
  exact HX.out

theorem Rd.chg {Φ : Nat → Prop} {w w' : World} {B n c : Nat} {k : IntKind} {A : Option Addr} {xs : List Int} (h : Rd w B k A n c xs) (hc : Chg Φ w w') (hB : B ≤ w.heap.size) (hn : ∀ b, Φ b → ∀ o, w.cell? ⟨b, o, none⟩ = none) : Rd w' B k A n c xs :=
  ⟨h.len, h.cap, h.max, h.nil, fun j u hu => by
    obtain ⟨b, o, e, hb, hcell⟩ := h.place j u hu
    refine ⟨b, o, e, hb, ?_⟩
    rw [hc.cell (p := ⟨b, o + j, none⟩) (by show b < _; omega) (fun hp => by rw [hn b hp] at hcell; cases hcell)]
    exact hcell⟩
theorem map_cell {w : World} {m : Nat} {L : List Fil} (h : DMap w m L) (o : Nat) : w.cell? ⟨m, o, none⟩ = none := by
  obtain ⟨es, clock, hb, _⟩ := h
  simp [World.cell?, hb]

set_option maxHeartbeats 1600000 in
set_option maxRecDepth 100000 in
theorem Append_new {w : World} {d m : Nat} {room : Int} {L : List Fil} {Φ : Nat → Prop} (h : DiskL w d m room L Φ) (s : ByteArray) (hno : ∀ x ∈ L, x.nm ≠ s.data.toList) (hlk : ptrTo L s.data.toList = .pointer none) (hL : L.length ≤ 1000000)
    (A : Option Addr) (n c : Nat) (ys : List Int) (hr : Rd w w.heap.size .u8 A n c ys) (hy : ∀ y ∈ ys, 0 ≤ y ∧ y < 256) (hn : nameOk s.data.toList = true) (hfit : ((usedN (L.map Fil.f) + n : Nat) : Int) ≤ room) :
    Calls Try.prog 18 #[.pointer (some ⟨d, 0, none⟩), .string s, .slice A n c] w (OpSaid d room (putN RF.nm ⟨s.data.toList, ys, 0⟩ (L.map Fil.f)) 0 Φ w) := by
  have hs32 : s.size ≤ 32 := by
    have := nameOk_len hn
    rwa [Array.length_toList] at this
  have hs : s.size ≤ maxLen := by unfold maxLen; omega
  obtain ⟨c0, c1, c2, f0, f1, f2⟩ := three_cells h.blk
  obtain ⟨i0, hi, hz0, hz1, hz2⟩ := info_parts info_u8
  have hlen := hr.len
  have hc := hr.cap
  have hmx := hr.max
  unfold maxLen at hmx
  have h5 := h.rm
  have HN := Lib.hid fun W => isName_any s W hs
  have HNN := Lib.hid hn
  have hlk' : ∀ q, (Instr.lookup 55 (.map (some m)) (.string s) false).run Try.prog (w.drewN q) = .ok (.pointer none) (w.drewN q) := fun q => by
    have := (h.map.keep (Chg.drewN (Φ := fun _ => False) w q) id).look s hs
    rwa [hlk] at this
  have hdlt := lt_of_block h.blk
  have HPUT : Hid (∀ q, Calls Try.prog 36 #[.pointer (some ⟨d, 0, none⟩), .string s, .pointer (some ⟨w.heap.size, 0, none⟩)] ((w.drewN q).alloc (.cells #[.slice none 0 0, .int .i64 0] 69)) fun e w2 =>
      e = .returned (.tuple #[]) ∧ w2.cell? ⟨w.heap.size, 0, none⟩ = some (.slice none 0 0) ∧ w2.frozen? ⟨w.heap.size, 0, none⟩ = false ∧ Hid (Rd w2 w.heap.size .u8 A n c ys) ∧
      Hid (∀ v' w3, w3.ownsRow 0 5 1 v' (0 + n) ([] ++ ys.map (Value.int .u8)) → w2.grownBy w3 (Value.slice none 0 0).ownBlock → (v'.ownBlock = (Value.slice none 0 0).ownBlock ∨ v'.ownBlock = some w2.heap.size) →
        ∃ A3 c3, v' = .slice A3 (0 + n) c3 ∧ w3.cell? ⟨w.heap.size, 0, none⟩ = some (.slice none 0 0) ∧ w3.frozen? ⟨w.heap.size, 0, none⟩ = false ∧ w3.cell? ⟨d, 1, none⟩ = some (.int .i64 (usedN (L.map Fil.f))) ∧ w3.frozen? ⟨d, 1, none⟩ = false ∧
        Hid (OpSaid d room (putN RF.nm ⟨s.data.toList, ys, 0⟩ (L.map Fil.f)) 0 Φ w (.returned (.int .i64 0)) ((w3.setCell ⟨w.heap.size, 0, none⟩ v').setCell ⟨d, 1, none⟩ (.int .i64 ((usedN (L.map Fil.f) + n : Nat) : Int)))))) := Lib.hid (by
    intro q
    obtain ⟨x0, hx0⟩ : ∃ x0 : Fil, x0 = ⟨⟨s.data.toList, [], 0⟩, w.heap.size, .slice none 0 0⟩ := ⟨_, rfl⟩
    have hc0 : Chg (fun _ => False) w ((w.drewN q).alloc (.cells #[.slice none 0 0, .int .i64 0] 69)) := (Chg.drewN w q).trans (Chg.alloc _ _) fun _ _ e => e
    have hD0 : DiskL _ d m room L Φ := h.keep hc0 fun _ _ => id
    have hp := put_any hD0.blk hD0.map hL x0 s (by rw [hx0]) (by omega)
    have e0 : x0.p = w.heap.size := by rw [hx0]
    rw [e0] at hp
    refine hp.mono ?_
    rintro e w2 ⟨rfl, hm2, hc2⟩
    have hmlt := h.map.lt
    have hnew : w2.heap[w.heap.size]? = some (.cells #[.slice none 0 0, .int .i64 0] 69 (0, 0)) := hc2.heap (by
      have := heap_alloc_new (w.drewN q) (.cells #[.slice none 0 0, .int .i64 0] 69)
      exact this) (by omega)
    have hcw : Chg (fun k => k = m) w w2 := (hc0.mono fun _ _ e => e.elim).trans hc2 fun _ _ e => e
    have hsz2 : w.heap.size < w2.heap.size := lt_of_block hnew
    have hD2 : DiskL w2 d m room (putN Fil.nm x0 L) (grow Φ w w2) := by
      refine (h.mono (Ψ := grow Φ w w2) fun _ _ => .inl).add (x := x0) (by rw [hx0]; exact hno) (hcw.mono fun _ _ e => .inr e) (hcw.heap h.blk fun e => h.m_d e.symm) ?_ h.used hm2 ?_ (fun y hy' => ?_) ?_
      · rw [hx0]; rfl
      · rw [hx0]
        exact ⟨hnew, World.ownsRow_nil _ _ _ _, Nat.le_refl _, (fun y hy' => by cases hy'), nameOk_len hn⟩
      · rw [hx0]
        exact ⟨fun e => by have := lt_of_block (h.file y hy').blk; have e' : w.heap.size = y.p := e; omega, fun g hg => by cases hg⟩
      · rw [hx0]
        exact ⟨.inr ⟨Nat.le_refl _, hsz2⟩, fun g hg => by cases hg⟩
    have hx02 : x0 ∈ putN Fil.nm x0 L := mem_putN.2 (.inl rfl)
    obtain ⟨a0, _, a2, _⟩ := two_cells hnew
    refine ⟨rfl, a0, a2, Lib.hid (hr.chg hcw (Nat.le_refl _) fun b hb o => by rw [hb]; exact map_cell h.map o), Lib.hid ?_⟩
    intro v' w3 ho hg hat
    have hv0 : x0.v = .slice none 0 0 := by rw [hx0]
    have hb0 : x0.f.b = [] := by rw [hx0]
    have hf0 : x0.f = ⟨s.data.toList, [], 0⟩ := by rw [hx0]
    have hused : usedN ((putN Fil.nm x0 L).map Fil.f) = usedN (L.map Fil.f) := by
      have hdel : delN Fil.nm x0.nm L = L := delN_none (by rw [hx0]; exact hno)
      unfold putN
      rw [hdel, map_insN fil_name, usedN_ins, hb0]
      simp
    rw [← hv0] at hg hat
    obtain ⟨A3, c3, e3⟩ := append_shape ho
    obtain ⟨hm1, hm3⟩ := hD2.app_mid hx02 hg
    rw [hused] at hm3
    rw [e0, hv0] at hm1
    obtain ⟨p0, _, p2, _⟩ := two_cells hm1
    obtain ⟨_, b1, _, _, b4, _⟩ := three_cells hm3
    obtain ⟨hcc, hD⟩ := hD2.app_end (n := n) (ys := ys) hx02 hg hy hlen (by rw [hused]; exact hfit) (by rw [hb0]; exact ho) hat
    rw [hused, e0] at hcc hD
    refine ⟨A3, c3, e3, p0, p2, b1, b4, Lib.hid ⟨rfl, ?_, m, _, ?_, hD.mono fun k hk hkk => ?_⟩⟩
    · refine (hcw.mono (Ψ := Φ) fun i _ e => by rw [e]; exact h.inn.2.1).trans hcc fun i hi hfi => ?_
      rcases hfi with e | e | e
      · rw [e]; exact h.inn.1
      · rw [e, e0] at hi; omega
      · rw [hv0] at e; cases e
    · rw [map_putN fil_name, map_putN fil_name, hf0]
      have hdel : delN RF.nm s.data.toList (L.map Fil.f) = L.map Fil.f := delN_none fun y hy' => by
        obtain ⟨z, hz, rfl⟩ := List.mem_map.1 hy'
        exact hno z hz
      refine Rising.ext (((h.srt.map (g := Fil.f) fil_name).putN _).putN _) ((h.srt.map (g := Fil.f) fil_name).putN _) fun z => ?_
      simp only [mem_putN, List.nil_append]
      constructor
      · rintro (e | ⟨⟨rfl | ⟨hz, _⟩, h2⟩⟩)
        · exact .inl e
        · exact absurd rfl h2
        · exact .inr ⟨hz, h2⟩
      · rintro (e | ⟨hz, h2⟩)
        · exact .inl e
        · exact .inr ⟨.inr ⟨hz, h2⟩, h2⟩
    · have hsz3 := hcc.size
      rcases hkk with (hkk | hkk) | hkk
      · exact .inl hkk
      · exact .inr ⟨hkk.1, hk⟩
      · exact .inr ⟨by omega, hk⟩)
  have HB : Hid (0 + n ≤ 1048576) := Lib.hid (by omega)
  have hfit2 : (n : Int) ≤ room - (usedN (L.map Fil.f) : Int) := by omega
  have HLY : Hid ((ys.map (Value.int .u8)).length = n * 1) := Lib.hid (by simpa using hlen)
  have HOWN := Lib.hid fun W : World => World.ownsRow_nil W 0 5 1
  generalize usedN (L.map Fil.f) = V at *
  have hV : (V : Int) + (n : Int) ≤ 1048576 := by omega
  have hw : IntKind.i64.wrap (room - (V : Int)) = room - (V : Int) := IntWalk.i64_in _ (by omega)
  clear h hr hn hfit hlk hlen hy hno
  go_enter Try.func18, Try.ntmps18
  go_wp2_with (go_at_call 35; refine (HN.out _).mono ?_; rw [HNN.out]; rintro e w1 ⟨rfl, rfl⟩)
  go_quiet (fail)
  clear hw
  go_wp2_with (first
    | (go_at_call 36; refine (HPUT.out _).mono ?_; rintro e w2 ⟨rfl, hp0, hp1, HRD, HE⟩)
    | (at_builtin
       refine wpList_append_where (o := ⟨some 43, _, _, _, _, _⟩) rfl _ _ 31 rfl 0 5 i0 _ 1 1 Try.underlying31 hi hz0 hz1 hz2 rfl (by omega) _ 0 _ rfl (HOWN.out _) A n c (ys.map (Value.int .u8)) rfl HLY.out HRD.out.nil HRD.out.news (ints_oneCell _ _) (by have := HB.out; unfold maxLen; omega) (by have := HB.out; omega) (Nat.zero_le _) ?_
       intro v' w3 ho hg hat
       obtain ⟨A3, c3, rfl, hx1, hx2, hx3, hx4, HX⟩ := HE.out v' w3 ho hg hat
       clear ho hg hat))
  go_ret
  have hX := HX.out
  rw [Nat.zero_add] at hX
  exact hX

theorem Append_any {w : World} {d : Nat} {room : Int} {S : List RF} {Φ : Nat → Prop} (h : DiskAt w d room S Φ) (s : ByteArray) (hs : s.size ≤ maxLen) (A : Option Addr) (n c : Nat) (ys : List Int) (hr : Rd w w.heap.size .u8 A n c ys) (hy : ∀ y ∈ ys, 0 ≤ y ∧ y < 256) (hL : S.length ≤ 1000000) :
    Calls Try.prog 18 #[.pointer (some ⟨d, 0, none⟩), .string s, .slice A n c] w (OpSaid d room (appendF room S s.data.toList ys).1 (appendF room S s.data.toList ys).2 Φ w) := by
  by_cases hbad : nameOk s.data.toList = false ∨ room < ((usedN S + ys.length : Nat) : Int)
  · exact Append_bad h s hs A n c ys hr hbad
  · have h1 : ¬ nameOk s.data.toList = false := fun e => hbad (.inl e)
    have h2 : ¬ room < ((usedN S + ys.length : Nat) : Int) := fun e => hbad (.inr e)
    have h3 : nameOk s.data.toList = true := by simpa using h1
    have hlen := hr.len
    have HF : appendF room S s.data.toList ys = (putN RF.nm ⟨s.data.toList, (oldRF S s.data.toList).b ++ ys, (oldRF S s.data.toList).s⟩ S, 0) := by
      unfold appendF
      rw [if_neg h1, if_neg h2]
    rw [HF]
    obtain ⟨m, L, rfl, h⟩ := h
    rcases h.cases s.data.toList with ⟨e1, e2, e3⟩ | ⟨x, hx, hxn, e1, e2⟩
    · have := Append_new h s e3 e2 (by simpa using hL) A n c ys hr hy h3 (by omega)
      unfold oldRF
      rw [e1]
      exact this
    · have := Append_old h hx s hs e2 A n c ys hr hy h3 (by omega)
      unfold oldRF
      rw [e1, ← hxn]
      exact this
end Go.Proofs.Ytpolkhippblcmaa
