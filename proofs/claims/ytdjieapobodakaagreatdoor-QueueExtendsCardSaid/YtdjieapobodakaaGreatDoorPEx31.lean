/- What is proved here: Purge, Set, Send, Ack and Extend make of parts that say a plain queue parts that say the next one. -/
/- What is proved here: Ack, Extend and a lease make of parts that say a plain queue parts that say the next one. -/
/- What is proved here: Receive makes of parts that say a plain queue parts that say the next one. -/
import Derived.Test.YtdjieapobodakaaGreatDoorPEx30
import Derived.Test.YtdjieapobodakaaGreatDoorPEx26
import Derived.Test.YtdjieapobodakaaGreatDoorPEx27
section
namespace Go.Proofs.YtdjieapobodakaaGreatDoor
open Go Go.RowKit Go.Maps Go.WideMaps

section
variable {V : QV} {Q : QM} {T : Nat}
theorem QRel.purge (h : QRel V Q) : QRel (emptyV V.A V.now V.last V.K) (purgeQ Q) := by
  have hl : (0 : Int) ≤ Q.last := by have := h.nb; omega
  exact ⟨h.A, h.now, h.last, h.K, ⟨fun _ => 0, rfl, fun x hx => by cases hx⟩, rfl, hl, List.Perm.refl _, rfl⟩
theorem QRel.setOk (h : QRel V Q) (a : Att) : setOkV V a = setOk Q a := by unfold setOkV Go.Proofs.YtdjieapobodakaaGreatDoor.setOk; rw [h.A]
theorem QRel.set (h : QRel V Q) (a : Att) : QRel (if setOkV V a then { V with A := a } else V) (setQ Q a) := by
  rw [h.setOk]
  unfold setQ
  split
  · exact ⟨rfl, h.now, h.last, h.K, h.ms, h.lt, h.nb, h.r1, h.r2⟩
  · exact h
theorem QRel.add (h : QRel V Q) (hr : Q.A.right = true) (hidb : ∀ x ∈ Q.L, 1 ≤ x.id ∧ x.id ≤ Q.last) (hsentb : ∀ x ∈ Q.L, 0 ≤ x.sent ∧ x.sent ≤ Q.now) {body group : ByteArray} {delay : Int} (hd : -1 ≤ delay ∧ delay ≤ 1048576) : QRel (addV V body group delay) (addQ Q body group delay) := by
  obtain ⟨fr, hM, hf⟩ := h.ms
  have hA := Att.right_parts hr
  have e : (if delay < 0 then V.A.del else delay) = if delay = -1 then Q.A.del else delay := by
    rw [h.A]
    by_cases hd1 : delay = -1
    · rw [if_pos (by omega), if_pos hd1]
    · rw [if_neg (by omega), if_neg hd1]
  have hnew : ∀ x ∈ Q.L, x.id ≠ Q.last + 1 := fun x hx => by have := hidb x hx; omega
  have h0 : 0 ≤ (if delay = -1 then Q.A.del else delay) := by split <;> omega
  refine ⟨h.A, h.now, by show V.last + 1 = Q.last + 1; rw [h.last], h.K, ⟨fun k => if k = Q.last + 1 then (mkMs Q body group delay).at_ else fr k, ?_, fun x hx => ?_⟩, ?_, ?_, ?_, ?_⟩
  · show V.M ++ [_] = (Q.L ++ [mkMs Q body group delay]).map _
    rw [List.map_append, hM]
    congr 1
    · apply List.map_congr_left
      intro x hx
      show Mm.mk x.id x.body x.count (fr x.id) = Mm.mk x.id x.body x.count (if x.id = Q.last + 1 then _ else fr x.id)
      rw [if_neg (hnew x hx)]
    · rw [List.map_singleton]
      unfold mmOf
      rw [e, h.last, h.now]
      show [_] = [Mm.mk (Q.last + 1) body 0 (if Q.last + 1 = Q.last + 1 then _ else _)]
      rw [if_pos rfl]
      rfl
  · rcases List.mem_append.1 hx with hx | hx
    · show FromOk Q.now x (if x.id = Q.last + 1 then _ else _)
      rw [if_neg (hnew x hx)]
      exact hf x hx
    · rw [List.mem_singleton.1 hx]
      show FromOk Q.now _ (if Q.last + 1 = Q.last + 1 then _ else _)
      rw [if_pos rfl]
      exact ⟨⟨fun h1 => .inr h1, fun h1 => h1.resolve_left (by intro h2; cases h2)⟩, fun _ _ => rfl⟩
  · show (V.Lt ++ [_]).map _ = (Q.L ++ [_]).map _
    rw [List.map_append, List.map_append, h.lt]
    show _ ++ [(V.last + 1, group)] = _ ++ [(Q.last + 1, group)]
    rw [h.last]
  · have := h.nb
    show ((V.N + 1 : Nat) : Int) ≤ Q.last + 1
    omega
  · have : leases (Q.L ++ [mkMs Q body group delay]) = leases Q.L := by
      unfold leases
      rw [List.filter_append, List.filter_cons_of_neg (by intro h2; cases h2), List.filter_nil, List.append_nil]
    show V.R1.Perm (leases (Q.L ++ [mkMs Q body group delay]))
    rw [this]
    exact h.r1
  · show Tim.setR V.R2 (V.last + 1, V.now) = sents (Q.L ++ [_])
    have hd0 : ∀ y ∈ sents Q.L, y.1 ≠ V.last + 1 ∧ ¬ Tim.bef (V.last + 1, V.now) y := fun y hy => by
      obtain ⟨x, hx, rfl⟩ := List.mem_map.1 hy
      have h1 := hidb x hx
      have h2 := hsentb x hx
      rw [h.last, h.now]
      unfold Tim.bef
      exact ⟨by show x.id ≠ _; omega, by show ¬ (Q.now < x.sent ∨ (Q.now = x.sent ∧ Q.last + 1 < x.id)); omega⟩
    unfold Tim.setR
    rw [h.r2, Tim.dropR_none fun y hy => (hd0 y hy).1, Tim.insR_after fun y hy => (hd0 y hy).2]
    unfold sents
    rw [List.map_append, h.last, h.now]
    rfl
theorem QRel.send (h : QRel V Q) (hk : QOk Q T) (body group key : ByteArray) (delay : Int) : sendVA V body group key delay = sendA Q body group key delay ∧ QRel (sendV V body group key delay) (sendQ Q body group key delay) ∧ QOk (sendQ Q body group key delay) (T + 1) := by
  obtain ⟨a1, a2, a3, a4⟩ := h.lens
  unfold sendVA sendA sendV sendQ
  rw [h.A, h.K, a1, h.last]
  cases ht : takes Q.A body group key delay with
  | false => exact ⟨rfl, h, hk.up (Nat.le_succ T)⟩
  | true =>
    have htp := takes_parts ht
    cases hx : Led.findE Q.K key with
    | some x => exact ⟨rfl, h, hk.up (Nat.le_succ T)⟩
    | none =>
      by_cases hl : 1024 ≤ Q.L.length
      · simp only [Bool.not_true, Bool.false_eq_true, if_false, if_pos hl]
        exact ⟨trivial, h, hk.up (Nat.le_succ T)⟩
      · simp only [Bool.not_true, Bool.false_eq_true, if_false, if_neg hl]
        cases hf : keyed Q.A key && decide (4096 ≤ Q.K.length) with
        | true =>
          simp only [if_true]
          exact ⟨trivial, h, hk.up (Nat.le_succ T)⟩
        | false =>
          simp only [Bool.false_eq_true, if_false]
          have hle : keyed Q.A key = true → Q.K.length < 4096 := fun hy => by
            rw [hy, Bool.true_and, decide_eq_false_iff_not] at hf
            omega
          refine ⟨trivial, ?_, hk.keyed htp.2.2.1 hle htp.1 htp.2.1 htp.2.2.2.1 htp.2.2.2.2 (by omega)⟩
          have hkey : QRel (keyV2 V key) (keyQ Q key) := by
            unfold keyV2 keyQ
            rw [h.A]
            split
            · exact ⟨rfl, h.now, h.last, by show Led.putE V.K _ = Led.putE Q.K _; rw [h.K, h.last, h.now], h.ms, h.lt, h.nb, h.r1, h.r2⟩
            · exact h
          have hq : (keyQ Q key).A = Q.A ∧ (keyQ Q key).L = Q.L ∧ (keyQ Q key).last = Q.last ∧ (keyQ Q key).now = Q.now := by
            unfold keyQ
            split <;> exact ⟨rfl, rfl, rfl, rfl⟩
          obtain ⟨q1, q2, q3, q4⟩ := hq
          exact hkey.add (by rw [q1]; exact hk.right) (by rw [q2, q3]; exact hk.idb) (by rw [q2, q4]; exact hk.sentb) htp.2.2.2.2
end
end Go.Proofs.YtdjieapobodakaaGreatDoor
end

section
namespace Go.Proofs.YtdjieapobodakaaGreatDoor
open Go Go.RowKit Go.Maps Go.WideMaps

section
variable {V : QV} {Q : QM} {T : Nat}
theorem filter_pairs {α β : Type} (f : α → Int × β) (g : α → Bool) (k : Int) (hg : ∀ x, g x = decide ((f x).1 ≠ k)) (A : List α) : (A.filter g).map f = (A.map f).filter fun p => decide (p.1 ≠ k) := by
  rw [List.filter_map]
  congr 1
  apply List.filter_congr
  intro x _
  rw [hg x]
  rfl
theorem leases_drop (L : List Ms) (k : Int) : Tim.dropR (leases L) k = leases (dropL L k) := by
  unfold leases Tim.dropR dropL
  rw [List.filter_map, List.filter_filter, List.filter_filter]
  congr 1
  apply List.filter_congr
  intro x _
  simp [Bool.and_comm, Function.comp]
theorem QRel.rm (h : QRel V Q) (k : Int) : QRel (rmV V k) { Q with L := dropL Q.L k } := by
  obtain ⟨fr, hM, hf⟩ := h.ms
  refine ⟨h.A, h.now, h.last, h.K, ⟨fr, ?_, fun x hx => hf x (List.mem_filter.1 hx).1⟩, ?_, h.nb, ?_, ?_⟩
  · show dropM V.M k = (dropL Q.L k).map _
    unfold dropM dropL
    rw [hM, List.filter_map]
    rfl
  · show (Lan.dropT V.Lt k).map _ = (dropL Q.L k).map _
    unfold Lan.dropT dropL
    rw [filter_pairs (fun x : Lan.Th => (x.id, x.g)) _ k (fun x => rfl), filter_pairs (fun x : Ms => (x.id, x.group)) _ k (fun x => rfl), h.lt]
  · show (Tim.dropR V.R1 k).Perm (leases (dropL Q.L k))
    rw [← leases_drop]
    exact h.r1.filter _
  · show Tim.dropR V.R2 k = sents (dropL Q.L k)
    unfold Tim.dropR sents dropL
    rw [h.r2]
    unfold sents
    rw [filter_pairs (fun x : Ms => (x.id, x.sent)) _ k (fun x => rfl)]
theorem QRel.by_ (h : QRel V Q) (hk : QOk Q T) (hT : T < 800000) (t : ByteArray) :
    (findR V t = none ∧ byR Q.L t = none) ∨ ∃ m x, findR V t = some m ∧ byR Q.L t = some x ∧ m.id = x.id ∧ x ∈ Q.L ∧ x.lsd = true := by
  cases hb : byR Q.L t with
  | some x =>
    unfold byR at hb
    have hx := List.mem_of_find?_eq_some hb
    have h2 := List.find?_some hb
    rw [Bool.and_eq_true, decide_eq_true_eq] at h2
    have hi := hk.idb x hx
    have hl := hk.last
    obtain ⟨m, h3, h4, h5, h6, _⟩ := h.find hk hx
    refine .inr ⟨m, x, ?_, rfl, h5, hx, h2.1⟩
    unfold findR
    have hn : numOf t = x.id := by rw [← h2.2, rcpt_is]; exact numOf_rcpt (by omega) (by omega)
    rw [hn, h3]
    show (if isLeased V m.id && decide (t = rcptS m.id m.count) then some m else none) = some m
    rw [h5, h6, h.leased hk hx, h2.1, ← rcpt_is, h2.2]
    simp
  | none =>
    refine .inl ⟨?_, rfl⟩
    unfold findR
    cases hm : findM V.M (numOf t) with
    | none => rfl
    | some m =>
      show (if isLeased V m.id && decide (t = rcptS m.id m.count) then some m else none) = none
      obtain ⟨x, hx, e1, e2, _⟩ := h.back (findM_some hm).1
      rw [if_neg]
      intro hc
      rw [Bool.and_eq_true, decide_eq_true_eq, e1, e2, h.leased hk hx] at hc
      unfold byR at hb
      have := List.find?_eq_none.1 hb x hx
      rw [hc.1, rcpt_is, ← hc.2] at this
      simp at this
theorem QRel.ack (h : QRel V Q) (hk : QOk Q T) (hT : T < 800000) (t : ByteArray) : ackVA V t = ackA Q t ∧ QRel (ackV V t) (ackQ Q t) := by
  unfold ackVA ackA ackV ackQ
  rcases h.by_ hk hT t with ⟨h1, h2⟩ | ⟨m, x, h1, h2, e, _⟩
  · rw [h1, h2]
    exact ⟨rfl, h⟩
  · rw [h1, h2]
    refine ⟨by show (m.id, (0 : Int)) = (x.id, 0); rw [e], ?_⟩
    show QRel (rmV V m.id) { Q with L := dropL Q.L x.id }
    rw [e]
    exact h.rm x.id
theorem leases_nodup {L : List Ms} (h : L.Pairwise fun a b => a.id < b.id) : (leases L).Nodup := by
  unfold leases
  exact List.Pairwise.map _ (fun a b hab e => by have := congrArg Prod.fst e; dsimp only at this; omega) (h.filter _)
/-- One message is turned. -/
def updL (L : List Ms) (i : Int) (g : Ms → Ms) : List Ms := L.map fun y => if y.id = i then g y else y
theorem upd_id {g : Ms → Ms} (hg : ∀ y, (g y).id = y.id) (i : Int) (y : Ms) : (if y.id = i then g y else y).id = y.id := by split <;> simp [hg]
theorem upd_pair {L : List Ms} {g : Ms → Ms} (hg : ∀ y, (g y).id = y.id) (i : Int) (h : L.Pairwise fun a b => a.id < b.id) : (updL L i g).Pairwise fun a b => a.id < b.id := by
  unfold updL
  exact List.Pairwise.map _ (fun a b hab => by rw [upd_id hg, upd_id hg]; exact hab) h
theorem mem_upd {L : List Ms} {g : Ms → Ms} {x : Ms} (hx : x ∈ L) (h : L.Pairwise fun a b => a.id < b.id) {z : Ms} : z ∈ updL L x.id g ↔ z = g x ∨ (z ∈ L ∧ z.id ≠ x.id) := by
  unfold updL
  rw [List.mem_map]
  constructor
  · rintro ⟨y, hy, rfl⟩
    by_cases e : y.id = x.id
    · rw [if_pos e, ms_one h hy hx e]
      exact .inl rfl
    · rw [if_neg e]
      exact .inr ⟨hy, e⟩
  · rintro (rfl | ⟨hz, e⟩)
    · exact ⟨x, hx, if_pos rfl⟩
    · exact ⟨z, hz, if_neg e⟩
theorem leases_upd {L : List Ms} {g : Ms → Ms} (hg : ∀ y, (g y).id = y.id) {x : Ms} (hx : x ∈ L) (h : L.Pairwise fun a b => a.id < b.id) :
    (leases (updL L x.id g)).Perm (if (g x).lsd then (x.id, (g x).at_) :: Tim.dropR (leases L) x.id else Tim.dropR (leases L) x.id) := by
  have hnd : (Tim.dropR (leases L) x.id).Nodup := (leases_nodup h).filter _
  refine (List.perm_ext_iff_of_nodup (leases_nodup (upd_pair hg x.id h)) ?_).2 fun y => ?_
  · split
    · refine List.nodup_cons.2 ⟨fun hc => ?_, hnd⟩
      exact (Tim.mem_dropR.1 hc).2 rfl
    · exact hnd
  · rw [mem_leases]
    have key : (∃ z ∈ updL L x.id g, z.lsd = true ∧ y = (z.id, z.at_)) ↔ ((g x).lsd = true ∧ y = (x.id, (g x).at_)) ∨ y ∈ Tim.dropR (leases L) x.id := by
      constructor
      · rintro ⟨z, hz, hl, rfl⟩
        rcases (mem_upd hx h).1 hz with rfl | ⟨hz2, e⟩
        · exact .inl ⟨hl, by rw [hg]⟩
        · exact .inr (Tim.mem_dropR.2 ⟨mem_leases.2 ⟨z, hz2, hl, rfl⟩, e⟩)
      · rintro (⟨hl, rfl⟩ | hy)
        · exact ⟨g x, (mem_upd hx h).2 (.inl rfl), hl, by rw [hg]⟩
        · obtain ⟨h1, h2⟩ := Tim.mem_dropR.1 hy
          obtain ⟨z, hz, hl, rfl⟩ := mem_leases.1 h1
          exact ⟨z, (mem_upd hx h).2 (.inr ⟨hz, h2⟩), hl, rfl⟩
    rw [key]
    cases (g x).lsd with
    | true => simp
    | false => simp
/-- Parts of which one message is turned. -/
theorem QRel.upd (h : QRel V Q) (hk : QOk Q T) {x : Ms} (hx : x ∈ Q.L) {g : Ms → Ms} (hg : ∀ y, (g y).id = y.id ∧ (g y).sent = y.sent ∧ (g y).group = y.group) {M' : List Mm} {R' : List Tim.It}
    (hM : ∀ fr, V.M = Q.L.map (mmOf fr) → M' = (updL Q.L x.id g).map (mmOf fr)) (hf : ∀ f, FromOk Q.now x f → FromOk Q.now (g x) f) (hR : R'.Perm (leases (updL Q.L x.id g))) :
    QRel { V with M := M', R1 := R' } { Q with L := updL Q.L x.id g } := by
  obtain ⟨fr, hM0, hf0⟩ := h.ms
  refine ⟨h.A, h.now, h.last, h.K, ⟨fr, hM fr hM0, fun z hz => ?_⟩, ?_, h.nb, hR, ?_⟩
  · rcases (mem_upd hx hk.ids).1 hz with rfl | ⟨hz2, _⟩
    · rw [(hg x).1]
      exact hf _ (hf0 x hx)
    · exact hf0 z hz2
  · show V.Lt.map _ = (updL Q.L x.id g).map _
    rw [h.lt]
    unfold updL
    rw [List.map_map]
    apply List.map_congr_left
    intro y _
    show (y.id, y.group) = ((if y.id = x.id then g y else y).id, (if y.id = x.id then g y else y).group)
    split
    · rw [(hg y).1, (hg y).2.2]
    · rfl
  · show V.R2 = sents (updL Q.L x.id g)
    rw [h.r2]
    unfold sents updL
    rw [List.map_map]
    apply List.map_congr_left
    intro y _
    show (y.id, y.sent) = ((if y.id = x.id then g y else y).id, (if y.id = x.id then g y else y).sent)
    split
    · rw [(hg y).1, (hg y).2.1]
    · rfl
theorem QRel.lease (h : QRel V Q) (hk : QOk Q T) {x : Ms} (hx : x ∈ Q.L) (hw : waits Q.now x = true) (u : Int) : QRel (leaseV V x.id u) { Q with L := updL Q.L x.id (leaseM u) } := by
  have hw' : x.lsd = false ∧ x.at_ ≤ Q.now := by
    unfold waits at hw
    simpa using hw
  refine h.upd (g := leaseM u) hk hx (fun y => ⟨rfl, rfl, rfl⟩) (fun fr hM => ?_) (fun f hf => ⟨⟨fun _ => .inl rfl, fun _ => hf.1.2 (.inr hw'.2)⟩, fun e => by cases e⟩) ?_
  · unfold bumpM updL
    rw [hM, List.map_map, List.map_map]
    apply List.map_congr_left
    intro y _
    show (if y.id = x.id then _ else _) = mmOf fr (if y.id = x.id then _ else _)
    split <;> rfl
  · refine List.Perm.trans ?_ (leases_upd (g := leaseM u) (fun y => rfl) hx hk.ids).symm
    rw [if_pos (by rfl)]
    exact (Tim.setR_perm _ _).trans ((h.r1.filter _).cons _)
theorem QRel.ext (h : QRel V Q) (hk : QOk Q T) (hT : T < 800000) (t : ByteArray) (n : Int) : extVA V t n = extA Q t n ∧ QRel (extV V t n) (extQ Q t n) := by
  unfold extVA extA extV extQ
  cases hn : within n 0 1048576 with
  | false => exact ⟨rfl, h⟩
  | true =>
    rcases h.by_ hk hT t with ⟨h1, h2⟩ | ⟨m, x, h1, h2, e, hx, hxl⟩
    · rw [h1, h2]
      exact ⟨rfl, h⟩
    · rw [h1, h2]
      refine ⟨rfl, ?_⟩
      have hnb : 0 ≤ n := by unfold within at hn; simp at hn; exact hn.1
      have hM : ∀ fr, V.M = Q.L.map (mmOf fr) → V.M = (updL Q.L x.id (extM Q n)).map (mmOf fr) := fun fr hM => by
        rw [hM]
        unfold updL
        rw [List.map_map]
        apply List.map_congr_left
        intro y _
        show mmOf fr y = mmOf fr (if y.id = x.id then extM Q n y else y)
        split <;> rfl
      have hp := leases_upd (g := extM Q n) (fun y => rfl) hx hk.ids
      show QRel (if 0 < n then { V with R1 := Tim.setR V.R1 (m.id, V.now + n) } else { V with R1 := Tim.dropR V.R1 m.id }) { Q with L := updL Q.L x.id (extM Q n) }
      rw [e]
      by_cases hp0 : 0 < n
      · rw [if_pos hp0]
        refine h.upd (g := extM Q _) hk hx (fun y => ⟨rfl, rfl, rfl⟩) hM (fun f hf => ⟨⟨fun _ => .inl (decide_eq_true hp0), fun _ => hf.1.2 (.inl hxl)⟩, fun e2 => by have e3 : decide (0 < n) = false := e2; rw [decide_eq_true hp0] at e3; cases e3⟩) ?_
        refine List.Perm.trans ?_ hp.symm
        try rw [h.now]
        rw [if_pos (by show decide (0 < n) = true; exact decide_eq_true hp0)]
        exact (Tim.setR_perm _ _).trans ((h.r1.filter _).cons _)
      · rw [if_neg hp0]
        obtain rfl : n = 0 := by omega
        refine h.upd (g := extM Q _) hk hx (fun y => ⟨rfl, rfl, rfl⟩) hM (fun f hf => ⟨⟨fun _ => .inr (by show Q.now + 0 ≤ Q.now; omega), fun _ => hf.1.2 (.inl hxl)⟩, fun _ e3 => by have e4 : Q.now < Q.now + 0 := e3; omega⟩) ?_
        refine List.Perm.trans ?_ hp.symm
        try rw [h.now]
        rw [if_neg (by intro e2; have e3 : decide ((0 : Int) < 0) = true := e2; cases e3)]
        exact h.r1.filter _
end
end Go.Proofs.YtdjieapobodakaaGreatDoor
end

section
namespace Go.Proofs.YtdjieapobodakaaGreatDoor
open Go Go.RowKit Go.Maps Go.WideMaps

/-- What is taken, as it is given out. -/
def tookM (x : Ms) : List Value := [.int .i64 x.id, .int .i64 x.count, .string (rcpt x), .string x.body, .string x.group]
theorem filter_two {α β γ : Type} {f : α → γ} {g : β → γ} {A : List α} {B : List β} (h : A.map f = B.map g) {p : α → Bool} {q : β → Bool} (r : γ → Bool) (hp : ∀ x, p x = r (f x)) (hq : ∀ y, q y = r (g y)) : (A.filter p).map f = (B.filter q).map g := by
  have e1 : A.filter p = A.filter (r ∘ f) := List.filter_congr fun x _ => hp x
  have e2 : B.filter q = B.filter (r ∘ g) := List.filter_congr fun x _ => hq x
  rw [e1, e2, ← List.filter_map, ← List.filter_map, h]
section
variable {V : QV} {Q : QM} {T : Nat}
def prT (x : Lan.Th) : Int × ByteArray := (x.id, x.g)
def prM (x : Ms) : Int × ByteArray := (x.id, x.group)
theorem QRel.lt2 (h : QRel V Q) : V.Lt.map prT = Q.L.map prM := h.lt
theorem fst_pairs {A : List Lan.Th} {B : List Ms} (h : A.map prT = B.map prM) : A.map Lan.Th.id = B.map Ms.id := by
  have := congrArg (List.map Prod.fst) h
  simpa [List.map_map, Function.comp_def, prT, prM] using this
theorem QRel.ofG (h : QRel V Q) (s : ByteArray) : Lan.ofG V.Lt s = (Q.L.filter fun x => decide (x.group = s)).map Ms.id := by
  unfold Lan.ofG
  exact fst_pairs (filter_two h.lt2 (fun p => decide (p.2 = s)) (fun _ => rfl) (fun _ => rfl))
theorem find_filter {α : Type} (p : α → Bool) : ∀ l : List α, (l.filter p).head? = l.find? p
  | [] => rfl
  | x :: r => by
    by_cases hx : p x = true
    · rw [List.filter_cons_of_pos hx, List.find?_cons_of_pos hx]; rfl
    · rw [List.filter_cons_of_neg hx, List.find?_cons_of_neg hx]; exact find_filter p r
theorem QRel.ahead (h : QRel V Q) (hk : QOk Q T) : aheadV V = (aheadL Q).map Ms.id := by
  unfold aheadV aheadL
  rw [h.A]
  cases hf : Q.A.fifo with
  | true =>
    rw [if_pos rfl, if_pos rfl]
    unfold Lan.headsT
    refine fst_pairs (filter_two h.lt2 (fun p => decide (((Q.L.find? fun x => decide (x.group = p.2)).map Ms.id) = some p.1)) (fun x => ?_) (fun y => rfl))
    rw [h.ofG, List.head?_map, find_filter]
    rfl
  | false =>
    rw [if_neg (by decide), if_neg (by decide), h.ofG, List.filter_eq_self.2]
    intro x hx
    have := hk.grp x hx
    rw [hf] at this
    simpa using this
theorem QRel.waits (h : QRel V Q) (hk : QOk Q T) {x : Ms} (hx : x ∈ Q.L) : waitsV V x.id = Go.Proofs.YtdjieapobodakaaGreatDoor.waits Q.now x := by
  unfold waitsV Go.Proofs.YtdjieapobodakaaGreatDoor.waits
  obtain ⟨m, hm, _, _, _, _, hf⟩ := h.find hk hx
  rw [h.leased hk hx, hm, h.now]
  cases hl : x.lsd with
  | true => rfl
  | false =>
    show (true && decide (m.frm ≤ Q.now)) = (true && decide (x.at_ ≤ Q.now))
    rw [Bool.true_and, Bool.true_and]
    refine decide_eq_decide.2 (hf.1.trans ⟨fun h1 => h1.resolve_left (by rw [hl]; decide), .inr⟩)
theorem ahead_sub (Q : QM) : (aheadL Q).Sublist Q.L := by
  unfold aheadL
  split
  · exact List.filter_sublist
  · exact List.Sublist.refl _
theorem ready_sub (Q : QM) (n : Nat) : (readyL Q n).Sublist Q.L := ((List.take_sublist _ _).trans List.filter_sublist).trans (ahead_sub Q)
theorem ready_waits {Q : QM} {n : Nat} {x : Ms} (h : x ∈ readyL Q n) : waits Q.now x = true := (List.mem_filter.1 (List.mem_of_mem_take h)).2
theorem QRel.ready (h : QRel V Q) (hk : QOk Q T) (n : Nat) : readyV V n = (readyL Q n).map Ms.id := by
  unfold readyV readyL
  rw [h.ahead hk, List.filter_map, ← List.map_take]
  congr 2
  apply List.filter_congr
  intro x hx
  exact h.waits hk ((ahead_sub Q).subset hx)
theorem lease_cons {L : List Ms} {x : Ms} {R : List Ms} (hn : ∀ y ∈ R, y.id ≠ x.id) (u : Int) : leaseL L (x :: R) u = leaseL (updL L x.id (leaseM u)) R u := by
  unfold leaseL updL
  rw [List.map_map]
  apply List.map_congr_left
  intro y _
  show (if (x :: R).any (fun z => decide (z.id = y.id)) then leaseM u y else y) = (if R.any (fun z => decide (z.id = (if y.id = x.id then leaseM u y else y).id)) then leaseM u (if y.id = x.id then leaseM u y else y) else if y.id = x.id then leaseM u y else y)
  by_cases e : y.id = x.id
  · rw [if_pos e]
    have h1 : (x :: R).any (fun z => decide (z.id = y.id)) = true := by simp [e]
    have h2 : R.any (fun z => decide (z.id = (leaseM u y).id)) = false := by
      rw [List.any_eq_false]
      intro z hz
      have := hn z hz
      show ¬ decide (z.id = y.id) = true
      rw [decide_eq_true_eq, e]
      exact this
    rw [h1, h2]
    rfl
  · rw [if_neg e]
    have h1 : (x :: R).any (fun z => decide (z.id = y.id)) = R.any (fun z => decide (z.id = y.id)) := by
      rw [List.any_cons, decide_eq_false (fun e2 => e e2.symm), Bool.false_or]
    rw [h1]
theorem lease_nil (L : List Ms) (u : Int) : leaseL L [] u = L := by
  unfold leaseL
  simp
theorem QRel.leasing {u : Int} (hu : 0 ≤ u ∧ u ≤ 1099512676352) (fr : Int → Int) : ∀ (R : List Ms) {V : QV} {Q : QM} {T : Nat}, QRel V Q → QOk Q T → (∀ x ∈ R, x ∈ Q.L ∧ Go.Proofs.YtdjieapobodakaaGreatDoor.waits Q.now x = true) → (R.Pairwise fun a b => a.id < b.id) → QRel (leaseN V (R.map (mmOf fr)) u) { Q with L := leaseL Q.L R u }
  | [], V, Q, T, h, _, _, _ => by
    rw [lease_nil]
    exact h
  | x :: R, V, Q, T, h, hk, hw, hp => by
    obtain ⟨p1, p2⟩ := List.pairwise_cons.1 hp
    obtain ⟨hx, hxw⟩ := hw x (List.mem_cons_self ..)
    have hn : ∀ y ∈ R, y.id ≠ x.id := fun y hy => by have := p1 y hy; omega
    rw [lease_cons hn u]
    have h1 := h.lease hk hx hxw u
    have hk1 : QOk { Q with L := updL Q.L x.id (leaseM u) } (T + 1) := hk.change (f := fun y => if y.id = x.id then leaseM u y else y) ⟨fun y => by
        show (if y.id = x.id then leaseM u y else y).id = _ ∧ _
        split <;> exact ⟨rfl, rfl, rfl, rfl⟩, fun y a b => by
        show 0 ≤ (if y.id = x.id then leaseM u y else y).count ∧ (if y.id = x.id then leaseM u y else y).count ≤ _
        split
        · exact ⟨by show 0 ≤ y.count + 1; omega, by show y.count + 1 ≤ _; omega⟩
        · exact ⟨a, by omega⟩, fun y hy => by
        show 0 ≤ (if y.id = x.id then leaseM u y else y).at_ ∧ (if y.id = x.id then leaseM u y else y).at_ ≤ _
        split
        · exact hu
        · exact hy⟩
    have h2 := QRel.leasing hu fr R h1 hk1 (fun y hy => ⟨(mem_upd hx hk.ids).2 (.inr ⟨(hw y (List.mem_cons_of_mem _ hy)).1, hn y hy⟩), (hw y (List.mem_cons_of_mem _ hy)).2⟩) p2
    exact h2
theorem took_is (h : QRel V Q) (hk : QOk Q T) (fr : Int → Int) (u : Int) : ∀ R : List Ms, (∀ x ∈ R, x ∈ Q.L) → tookCs V (R.map (mmOf fr)) = (R.map (leaseM u)).flatMap tookM
  | [], _ => rfl
  | x :: R, hR => by
    have e := took_is h hk fr u R fun y hy => hR y (List.mem_cons_of_mem _ hy)
    show tookC V (mmOf fr x) ++ tookCs V (R.map (mmOf fr)) = tookM (leaseM u x) ++ (R.map (leaseM u)).flatMap tookM
    rw [e]
    congr 1
    unfold tookC tookM
    show [Value.int .i64 x.id, .int .i64 (x.count + 1), .string (rcptS x.id (x.count + 1)), .string x.body, .string (groupOf V x.id)] = _
    rw [h.group hk (hR x (List.mem_cons_self ..)), rcpt_is]
    rfl
/-- What Receive makes of both. -/
theorem QRel.recv (h : QRel V Q) (hk : QOk Q T) {n v : Int} (hc : canRecv n v = true) : ∃ ms : List Mm, ms.map Mm.id = readyV V n.toNat ∧ (∀ m ∈ ms, m ∈ V.M) ∧ (ms.map Mm.id).Nodup ∧ ms.length = (recvA Q n v).length ∧ tookCs V ms = (recvA Q n v).flatMap tookM ∧ QRel (leaseN V ms (Q.now + visOf Q v)) (recvQ Q n v) := by
  obtain ⟨fr, hM, _⟩ := h.ms
  have hs := ready_sub Q n.toNat
  have hid : ((readyL Q n.toNat).map (mmOf fr)).map Mm.id = (readyL Q n.toNat).map Ms.id := by rw [List.map_map]; rfl
  refine ⟨(readyL Q n.toNat).map (mmOf fr), ?_, fun m hm => ?_, ?_, ?_, ?_, ?_⟩
  · rw [h.ready hk, hid]
  · obtain ⟨x, hx, rfl⟩ := List.mem_map.1 hm
    rw [hM]
    exact List.mem_map_of_mem (hs.subset hx)
  · rw [hid]
    exact ids_nodup (Q := { Q with L := readyL Q n.toNat }) (List.Pairwise.sublist hs hk.ids)
  · unfold recvA recvL
    rw [if_pos hc, List.length_map, List.length_map]
  · unfold recvA recvL
    rw [if_pos hc]
    exact took_is h hk fr _ _ fun x hx => hs.subset hx
  · unfold recvQ
    rw [if_pos hc]
    exact QRel.leasing (visOf_b hk hc) fr _ h hk (fun x hx => ⟨hs.subset hx, ready_waits hx⟩) (List.Pairwise.sublist hs hk.ids)
end
end Go.Proofs.YtdjieapobodakaaGreatDoor
end
