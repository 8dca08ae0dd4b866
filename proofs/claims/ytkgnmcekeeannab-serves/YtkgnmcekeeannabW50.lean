import Derived.Test.YtkgnmcekeeannabW49
import Derived.Test.YtkgnmcekeeannabW48
/-
  Serves: the first time that all is sent, and some of it is lost: in plain words.
-/
namespace Go.Proofs.Ytkgnmcekeeannab
namespace Sn
open Ms (txt text M It)
set_option linter.unusedVariables false

/-- how many of a block were sent, when this is the place of the next symbol -/
def placeU (n : Nm) (objs : List ByteArray) (no nb nn o b : Nat) : Nat :=
  if o < no ∨ (o = no ∧ b < nb) then n.many (objs.getD o ⟨#[]⟩).size b else if o = no ∧ b = nb then nn else 0
structure Fst (s : St) (rx ry : Rt) (Lx Ly U : Nat → Nat → Nat) : Prop where
  ok : ∃ c, SOkC s c
  nx : rx.n = s.n
  ny : ry.n = s.n
  hx : HonR rx s.objs
  hy : HonR ry s.objs
  ax : Acc rx s.objs Lx U
  ay : Acc ry s.objs Ly U
  lx : ∀ o b, b < 256 → Lx o b ≤ s.n.spare
  ly : ∀ o b, b < 256 → Ly o b ≤ s.n.spare
  ob : (obs s).Nodup
  zero : ∀ d ∈ s.debts, d.owes = 0 ∧ d.turn = 0
  pos : ∃ no nb nn, Pl s.n s.objs s.sent no nb nn ∧ ∀ o b, U o b = placeU s.n s.objs no nb nn o b
/-- a message comes to a receiver or is lost -/
def Miss (s : St) (r : Rt) (L : Nat → Nat → Nat) (r' : Rt) (L' : Nat → Nat → Nat) : Prop :=
  (r' = (r.hear (nxtM s)).1 ∧ L' = L) ∨
  (r' = r ∧ (nxtM s).kind = 1 ∧ ∃ o b : Nat, (nxtM s).obj = o ∧ (nxtM s).blk = b ∧ L o b < s.n.spare ∧ L' o b = L o b + 1 ∧ ∀ o' b', b' < 256 → ¬ (o' = o ∧ b' = b) → L' o' b' = L o' b')
theorem many_none (n : Nm) (b : Nat) : n.many 0 b = 0 := by
  unfold Nm.many Nm.all
  by_cases hz : n.size = 0
  · rw [hz]; simp
  · rw [Nat.div_eq_of_lt (by omega)]; omega
theorem sumAll_total (n : Nm) : ∀ l : List ByteArray, sumAll n l = total n l
  | [] => rfl
  | o :: l => by
    have := sumAll_total n l
    simp only [sumAll, total]
    omega
theorem place_lt {n : Nm} {objs : List ByteArray} {no left : Nat} (h1 : no < objs.length) (h2 : left < n.all (objs.getD no ⟨#[]⟩).size) : sumAll n (objs.take no) + left < total n objs := by
  have := order_at n objs 0 no left h1 h2
  by_cases q : total n objs ≤ sumAll n (objs.take no) + left
  · rw [(order_none objs 0 _).2 q] at this; cases this
  · omega
/-- the next place -/
theorem place_next {n : Nm} (hn : n.ok) {objs : List ByteArray} (hsz : ∀ i, i < objs.length → 1 ≤ (objs.getD i ⟨#[]⟩).size) {sent no nb nn : Nat} (p1 : no < objs.length) (p2 : nb < n.blocks (objs.getD no ⟨#[]⟩).size) (p3 : nn < n.many (objs.getD no ⟨#[]⟩).size nb) (h : Pl n objs sent no nb nn) {U : Nat → Nat → Nat} (hU : ∀ o b, U o b = placeU n objs no nb nn o b) :
    ∃ no' nb' nn', Pl n objs (sent + 1) no' nb' nn' ∧ ∀ o b, upd U no nb (nn + 1) o b = placeU n objs no' nb' nn' o b := by
  have hp := Pl.step hn hsz (ow := fun _ _ => 0) (tu := fun _ _ => 0) p1 h
  refine ⟨_, _, _, hp, fun o b => ?_⟩
  by_cases h1 : nn + 1 < n.many (objs.getD no ⟨#[]⟩).size nb
  · have e : LS.step ⟨n, objs, fun _ _ => 0, fun _ _ => 0, no, nb, nn⟩ = ⟨n, objs, fun _ _ => 0, fun _ _ => 0, no, nb, nn + 1⟩ := if_pos h1
    rw [e]
    unfold upd
    rw [hU]
    unfold placeU
    simp only []
    by_cases q : o = no ∧ b = nb
    · rw [if_pos q, if_neg (by omega), if_pos q]
    · rw [if_neg q, if_neg q]
      split <;> rfl
  · by_cases h2 : nb + 1 < n.blocks (objs.getD no ⟨#[]⟩).size
    · have e : LS.step ⟨n, objs, fun _ _ => 0, fun _ _ => 0, no, nb, nn⟩ = ⟨n, objs, fun _ _ => 0, fun _ _ => 0, no, nb + 1, 0⟩ := (if_neg h1).trans (if_pos h2)
      rw [e]
      unfold upd
      rw [hU]
      unfold placeU
      simp only []
      by_cases q : o = no ∧ b = nb
      · obtain ⟨rfl, rfl⟩ := q
        rw [if_pos ⟨rfl, rfl⟩, if_pos (by omega)]
        omega
      · rw [if_neg q]
        by_cases q2 : o < no ∨ (o = no ∧ b < nb)
        · rw [if_pos q2, if_pos (by omega)]
        · rw [if_neg q2, if_neg q, if_neg (by omega)]
          split <;> rfl
    · have e : LS.step ⟨n, objs, fun _ _ => 0, fun _ _ => 0, no, nb, nn⟩ = ⟨n, objs, fun _ _ => 0, fun _ _ => 0, no + 1, 0, 0⟩ := (if_neg h1).trans (if_neg h2)
      rw [e]
      unfold upd
      rw [hU]
      unfold placeU
      simp only []
      by_cases q : o = no ∧ b = nb
      · obtain ⟨rfl, rfl⟩ := q
        rw [if_pos ⟨rfl, rfl⟩, if_pos (by omega)]
        omega
      · rw [if_neg q]
        by_cases q2 : o < no ∨ (o = no ∧ b < nb)
        · rw [if_pos q2, if_pos (by omega)]
        · rw [if_neg q2, if_neg q]
          by_cases q3 : o = no
          · subst q3
            rw [if_pos (by omega)]
            have hz : ¬ 0 < n.many (objs.getD o ⟨#[]⟩).size b := fun hp => by
              have := (blocks_many n hn _ _).1 hp
              omega
            omega
          · rw [if_neg (by omega)]
            split <;> rfl
section
variable {s : St} {rx ry : Rt} {Lx Ly U : Nat → Nat → Nat}
/-- what is sent: the symbol in its place -/
theorem Fst.msg (h : Fst s rx ry Lx Ly U) (hl : 0 < s.left) : ∃ o b, o < s.objs.length ∧ b < s.n.blocks (objOf s o).size ∧ nxtM s = dataM s.n (objOf s o) o b (U o b) ∧ (nxt s).1 = { s with sent := s.sent + 1 } ∧ ∃ no nb nn, Pl s.n s.objs (s.sent + 1) no nb nn ∧ ∀ o' b', upd U o b (U o b + 1) o' b' = placeU s.n s.objs no nb nn o' b' := by
  obtain ⟨c, hc⟩ := h.ok
  obtain ⟨no, nb, nn, hp, hU⟩ := h.pos
  have how : owing s.debts = none := owing_no _ (fun d hd => (h.zero d hd).1)
  have hz : (s.debts.map Db.owes).sum = 0 := by
    have key : ∀ l : List Db, (∀ d ∈ l, d.owes = 0) → (l.map Db.owes).sum = 0 := by
      intro l
      induction l with
      | nil => intro _; rfl
      | cons d l ih => intro h; simp only [List.map_cons, List.sum_cons]; rw [h d (by simp), ih (fun x hx => h x (by simp [hx]))]
    exact key _ (fun d hd => (h.zero d hd).1)
  have hp0 := hp
  rcases hp with ⟨p1, p2, p3, p4⟩ | ⟨p1, p2, p3, p4⟩
  · have hml := many_le s.n (s.objs.getD no ⟨#[]⟩).size nb
    have hlt : nb * s.n.block + nn < s.n.all (s.objs.getD no ⟨#[]⟩).size := by
      have : nn < s.n.all (s.objs.getD no ⟨#[]⟩).size - nb * s.n.block := by unfold Nm.many at p3; omega
      omega
    have hord := order_at s.n s.objs 0 no (nb * s.n.block + nn) p1 hlt
    rw [← p4, Nat.zero_add] at hord
    have hb0 : 0 < s.n.block := by omega
    have d1 : (nb * s.n.block + nn) / s.n.block = nb := by
      rw [Nat.mul_comm, Nat.mul_add_div hb0, Nat.div_eq_of_lt (by omega)]; omega
    have d2 : (nb * s.n.block + nn) % s.n.block = nn := by
      rw [Nat.mul_comm, Nat.mul_add_mod]; exact Nat.mod_eq_of_lt (by omega)
    have eU : U no nb = nn := by
      rw [hU]
      unfold placeU
      rw [if_neg (by omega), if_pos ⟨rfl, rfl⟩]
    refine ⟨no, nb, p1, p2, ?_, ?_, ?_⟩
    · unfold nxtM
      rw [how]
      simp only []
      rw [hord]
      simp only []
      rw [d1, d2, eU]
    · unfold nxt
      rw [how]
      simp only []
      rw [hord]
    · rw [eU]
      exact place_next hc.base.nok (fun i hi => (sz_at hc.base hi).1) p1 p2 p3 hp0 hU
  · exfalso
    rw [sumAll_total] at p4
    unfold St.left at hl
    omega
theorem Acc.miss {r r' : Rt} {L L' : Nat → Nat → Nat} {o b : Nat} (ha : Acc r s.objs L U) (h0 : (r.hear (nxtM s)).2 = 0) (hm : Miss s r L r' L') (em : nxtM s = dataM s.n (objOf s o) o b (U o b)) : Acc r' s.objs L' (upd U o b (U o b + 1)) := by
  rcases hm with ⟨rfl, rfl⟩ | ⟨rfl, _, o', b', e1, e2, _, e4, e5⟩
  · exact ha.hear (by rw [em]; rfl) h0 (by rw [em]; rfl) (by rw [em]; rfl) (by rw [em]; rfl)
  · have q1 : (o : Int) = o' := by rw [← e1, em]; rfl
    have q2 : (b : Int) = b' := by rw [← e2, em]; rfl
    obtain rfl : o = o' := by omega
    obtain rfl : b = b' := by omega
    exact ha.lose e4 e5
theorem miss_le {r r' : Rt} {L L' : Nat → Nat → Nat} (hm : Miss s r L r' L') (h : ∀ o b, b < 256 → L o b ≤ s.n.spare) : ∀ o b, b < 256 → L' o b ≤ s.n.spare := by
  rcases hm with ⟨_, rfl⟩ | ⟨_, _, o', b', _, _, e3, e4, e5⟩
  · exact h
  · intro o b hb
    by_cases q : o = o' ∧ b = b'
    · obtain ⟨rfl, rfl⟩ := q
      omega
    · rw [e5 o b hb q]; exact h o b hb
theorem miss_hon {r r' : Rt} {L L' : Nat → Nat → Nat} {objs : List ByteArray} (hm : Miss s r L r' L') (h : HonR r objs) (h' : HonR (r.hear (nxtM s)).1 objs) : HonR r' objs ∧ r'.n = r.n ∧ r'.taken = r.taken := by
  rcases hm with ⟨rfl, _⟩ | ⟨rfl, _⟩
  · exact ⟨h', (hear_n r _).1, (hear_n r _).2⟩
  · exact ⟨h, rfl, rfl⟩
theorem Fst.send (h : Fst s rx ry Lx Ly U) (hl : 0 < s.left) {rx' ry' : Rt} {Lx' Ly' : Nat → Nat → Nat} (hmx : Miss s rx Lx rx' Lx') (hmy : Miss s ry Ly ry' Ly') : ∃ U', Fst (nxt s).1 rx' ry' Lx' Ly' U' := by
  obtain ⟨c, hc⟩ := h.ok
  obtain ⟨o, b, ho, hb, em, es, hpos⟩ := h.msg hl
  have hhx := HonR.hear h.hx (by rw [h.nx]; exact hc.base.nok) hc.base.sz (m := nxtM s) (by rw [h.nx]; exact nxtM_honest hc)
  have hhy := HonR.hear h.hy (by rw [h.ny]; exact hc.base.nok) hc.base.sz (m := nxtM s) (by rw [h.ny]; exact nxtM_honest hc)
  obtain ⟨x1, x2, _⟩ := miss_hon hmx h.hx hhx.2
  obtain ⟨y1, y2, _⟩ := miss_hon hmy h.hy hhy.2
  have hsc : SOkC (nxt s).1 (c + 1) := hc.nxt
  have hax := h.ax.miss hhx.1 hmx em
  have hay := h.ay.miss hhy.1 hmy em
  have mlx := miss_le hmx h.lx
  have mly := miss_le hmy h.ly
  rw [es] at hsc ⊢
  exact ⟨_, ⟨⟨c + 1, hsc⟩, by rw [x2, h.nx], by rw [y2, h.ny], x1, y1, hax, hay, mlx, mly, h.ob, h.zero, hpos⟩⟩
theorem Fst.left_eq (h : Fst s rx ry Lx Ly U) : s.left = total s.n s.objs - s.sent := by
  have key : ∀ l : List Db, (∀ d ∈ l, d.owes = 0) → (l.map Db.owes).sum = 0 := by
    intro l
    induction l with
    | nil => intro _; rfl
    | cons d l ih => intro h; simp only [List.map_cons, List.sum_cons]; rw [h d (by simp), ih (fun x hx => h x (by simp [hx]))]
  have := key _ (fun d hd => (h.zero d hd).1)
  unfold St.left
  omega
/-- when all was sent, the end comes to both; then it is time to ask -/
theorem Fst.fin (h : Fst s rx ry Lx Ly U) (hl : s.left = 0) {rx' ry' : Rt} {Lx' Ly' : Nat → Nat → Nat} (hmx : Miss s rx Lx rx' Lx') (hmy : Miss s ry Ly ry' Ly') :
    (nxt s).1 = s ∧ Lx' = Lx ∧ Ly' = Ly ∧ Sec s rx' ry' Lx Ly U ∧ rx'.known = s.objs.length ∧ ry'.known = s.objs.length ∧ (∀ o b, b < 256 → (Lx o b ≠ 0 ∨ Ly o b ≠ 0) → o < s.objs.length ∧ b < s.n.blocks (objOf s o).size) ∧ (∀ d ∈ s.debts, d.turn = 0) := by
  obtain ⟨c, hc⟩ := h.ok
  obtain ⟨e1, e2⟩ := nxtM_end hc hl
  have hk3 : (nxtM s).kind = 3 := by rw [e1]; rfl
  have hhx := HonR.hear h.hx (by rw [h.nx]; exact hc.base.nok) hc.base.sz (m := nxtM s) (by rw [h.nx]; exact nxtM_honest hc)
  have hhy := HonR.hear h.hy (by rw [h.ny]; exact hc.base.nok) hc.base.sz (m := nxtM s) (by rw [h.ny]; exact nxtM_honest hc)
  obtain ⟨ex, lx'⟩ : rx' = (rx.hear (nxtM s)).1 ∧ Lx' = Lx := by
    rcases hmx with q | ⟨_, q, _⟩
    · exact q
    · rw [hk3] at q; exact absurd q (by decide)
  obtain ⟨ey, ly'⟩ : ry' = (ry.hear (nxtM s)).1 ∧ Ly' = Ly := by
    rcases hmy with q | ⟨_, q, _⟩
    · exact q
    · rw [hk3] at q; exact absurd q (by decide)
  obtain ⟨no, nb, nn, hp, hU⟩ := h.pos
  have hall : total s.n s.objs ≤ s.sent := by have := h.left_eq; omega
  have hno : no = s.objs.length ∧ nb = 0 ∧ nn = 0 := by
    rcases hp with ⟨p1, p2, p3, p4⟩ | ⟨p1, p2, p3, p4⟩
    · exfalso
      have hlt : nb * s.n.block + nn < s.n.all (s.objs.getD no ⟨#[]⟩).size := by
        have : nn < s.n.all (s.objs.getD no ⟨#[]⟩).size - nb * s.n.block := by unfold Nm.many at p3; omega
        omega
      have := place_lt p1 hlt
      omega
    · exact ⟨p1, p2, p3⟩
  obtain ⟨rfl, rfl, rfl⟩ := hno
  have hUm : ∀ o b, U o b = s.n.many (objOf s o).size b := fun o b => by
    rw [hU]
    unfold placeU
    by_cases q : o < s.objs.length
    · rw [if_pos (.inl q)]; rfl
    · rw [if_neg (by omega)]
      have e : objOf s o = ⟨#[]⟩ := by unfold objOf; rw [List.getD_eq_getElem?_getD, List.getElem?_eq_none (by omega)]; rfl
      rw [e]
      have e0 : (⟨#[]⟩ : ByteArray).size = 0 := rfl
      rw [e0, many_none]
      split <;> rfl
  refine ⟨e2, lx', ly', ⟨h.ok, ?_, ?_, ?_, ?_, ?_, ?_, fun d hd => ?_, h.lx, h.ly, hall, h.ob⟩, ?_, ?_, fun o b hb hne => ?_, fun d hd => (h.zero d hd).2⟩
  · rw [ex, (hear_n rx _).1, h.nx]
  · rw [ey, (hear_n ry _).1, h.ny]
  · rw [ex]; exact hhx.2
  · rw [ey]; exact hhy.2
  · rw [ex, e1]; exact h.ax.fin _
  · rw [ey, e1]; exact h.ay.fin _
  · obtain ⟨z1, z2⟩ := h.zero d hd
    rw [hUm, z1, z2]
    exact ⟨rfl, by omega⟩
  · rw [ex, e1, hear_fin]
    have := h.hx.kn
    show max rx.known s.objs.length = s.objs.length
    omega
  · rw [ey, e1, hear_fin]
    have := h.hy.kn
    show max ry.known s.objs.length = s.objs.length
    omega
  · have q1 := h.ax.le o b hb
    have q2 := h.ay.le o b hb
    have hpos : 0 < s.n.many (objOf s o).size b := by rw [← hUm]; omega
    refine ⟨?_, (blocks_many s.n hc.base.nok _ _).1 hpos⟩
    by_cases q : o < s.objs.length
    · exact q
    · exfalso
      have e : objOf s o = ⟨#[]⟩ := by unfold objOf; rw [List.getD_eq_getElem?_getD, List.getElem?_eq_none (by omega)]; rfl
      have e0 : (⟨#[]⟩ : ByteArray).size = 0 := rfl
      rw [e, e0, many_none] at hpos
      omega
end
/-- the first state: nothing was sent -/
theorem Fst.start {s : St} {n : Nm} {c : Nat} (hs : SOkC s c) (hn : s.n = n) (ho : (obs s).Nodup) (hz : ∀ d ∈ s.debts, d.owes = 0 ∧ d.turn = 0) (h0 : s.sent = 0) {rx ry : Rt} (hx : rx = Rt.fresh n) (hy : ry = Rt.fresh n) : Fst s rx ry (fun _ _ => 0) (fun _ _ => 0) (fun _ _ => 0) := by
  subst hx hy hn
  refine ⟨⟨c, hs⟩, rfl, rfl, HonR.new _ _, HonR.new _ _, Acc.new _ _, Acc.new _ _, fun _ _ _ => Nat.zero_le _, fun _ _ _ => Nat.zero_le _, ho, hz, ?_⟩
  by_cases q : 0 < s.objs.length
  · have hsz := (sz_at hs.base q).1
    have hb := blocks_pos s.n hs.base.nok _ hsz
    refine ⟨0, 0, 0, .inl ⟨q, hb, many_pos s.n hs.base.nok _ _ hb, by rw [h0]; simp [sumAll]⟩, fun o b => ?_⟩
    unfold placeU
    rw [if_neg (by omega)]
    split <;> rfl
  · have e : s.objs = [] := List.length_eq_zero_iff.1 (by omega)
    refine ⟨0, 0, 0, .inr ⟨by omega, rfl, rfl, by rw [h0, e]; rfl⟩, fun o b => ?_⟩
    unfold placeU
    rw [if_neg (by omega)]
    split <;> rfl
end Sn
end Go.Proofs.Ytkgnmcekeeannab
/-
  Serves: what was sent again, summed: in plain words.
-/
namespace Go.Proofs.Ytkgnmcekeeannab
namespace Sn
open Ms (txt text M It)
set_option linter.unusedVariables false

theorem sum_list (F : Nat → Nat) : ∀ (N : Nat) (l : List Nat), l.Nodup → (∀ j ∈ l, j < N) → (∀ j, j < N → j ∉ l → F j = 0) → (l.map F).sum = ((List.range N).map F).sum
  | 0, l, h1, h2, h3 => by
    cases l with
    | nil => rfl
    | cons x l => exact absurd (h2 x (by simp)) (by omega)
  | N + 1, l, h1, h2, h3 => by
    rw [List.range_succ, List.map_append, List.sum_append]
    simp only [List.map_cons, List.map_nil, List.sum_cons, List.sum_nil, Nat.add_zero]
    by_cases q : N ∈ l
    · obtain ⟨A, B, rfl⟩ := List.append_of_mem q
      have hn := List.nodup_append.1 h1
      obtain ⟨nA, nNB, dis⟩ := hn
      obtain ⟨nN, nB⟩ := List.nodup_cons.1 nNB
      have hNA : N ∉ A := fun hA => dis N hA N (by simp) rfl
      have ih := sum_list F N (A ++ B) (List.nodup_append.2 ⟨nA, nB, fun a ha b hb => dis a ha b (by simp [hb])⟩) (fun j hj => by
        have hlt := h2 j (by rcases List.mem_append.1 hj with e | e <;> simp [e])
        have hne : j ≠ N := fun e => by
          subst e
          rcases List.mem_append.1 hj with e | e
          · exact hNA e
          · exact nN e
        omega) (fun j hj hnot => h3 j (by omega) (fun hm => by
          rcases List.mem_append.1 hm with e | e
          · exact hnot (List.mem_append.2 (.inl e))
          · rcases List.mem_cons.1 e with e | e
            · omega
            · exact hnot (List.mem_append.2 (.inr e))))
      rw [← ih]
      simp only [List.map_append, List.sum_append, List.map_cons, List.sum_cons]
      omega
    · rw [h3 N (by omega) q, Nat.add_zero]
      refine sum_list F N l h1 (fun j hj => ?_) (fun j hj hn => h3 j (by omega) hn)
      have := h2 j hj
      have hne : j ≠ N := fun e => by subst e; exact q hj
      omega
/-- the losses, as they stand one behind the other -/
def Lf (f : Nat → Nat) (o b : Nat) : Nat := f (o * 256 + b)
def fup (f : Nat → Nat) (i : Nat) : Nat → Nat := fun j => if j = i then f i + 1 else f j
theorem Lf_set (f : Nat → Nat) {o b : Nat} (hb : b < 256) : Lf (fup f (o * 256 + b)) o b = Lf f o b + 1 ∧ ∀ o' b', b' < 256 → ¬ (o' = o ∧ b' = b) → Lf (fup f (o * 256 + b)) o' b' = Lf f o' b' :=
  ⟨if_pos rfl, fun o' b' hb' hne => if_neg (by omega)⟩
def mostOf (fx fy : Nat → Nat) (k : Nat) : Nat := ((List.range k).map (fun j => max (fx j) (fy j))).sum
theorem mostOf_succ (fx fy : Nat → Nat) (k : Nat) : mostOf fx fy (k + 1) = mostOf fx fy k + max (fx k) (fy k) := by
  unfold mostOf
  rw [List.range_succ, List.map_append, List.sum_append]
  simp
theorem Sec.sum {s : St} {rx ry : Rt} {U : Nat → Nat → Nat} {fx fy : Nat → Nat} (h : Sec s rx ry (Lf fx) (Lf fy) U) (hx0 : inc s (Lf fx) = 0) (hy0 : inc s (Lf fy) = 0) (hk : Keys s) (hout : ∀ o b, b < 256 → (Lf fx o b ≠ 0 ∨ Lf fy o b ≠ 0) → o < s.objs.length ∧ b < s.n.blocks (objOf s o).size) : tsum s = mostOf fx fy 2048 := by
  obtain ⟨c, hc⟩ := h.ok
  have ix := inc_zero hx0
  have iy := inc_zero hy0
  have h8 := hc.base.len
  have e1 : s.debts.map Db.turn = (s.debts.map (fun d => d.o * 256 + d.b)).map (fun j => max (fx j) (fy j)) := by
    rw [List.map_map]
    refine List.map_congr_left (fun d hd => ?_)
    have a1 := ix d hd
    have a2 := iy d hd
    have a3 := (h.tu d hd).2
    show d.turn = max (fx (d.o * 256 + d.b)) (fy (d.o * 256 + d.b))
    unfold Lf at a1 a2 a3
    omega
  unfold tsum mostOf
  rw [e1]
  refine sum_list _ 2048 _ ?_ (fun j hj => ?_) (fun j hj hn => ?_)
  · have hob := h.ob
    unfold obs List.Nodup at hob
    rw [List.pairwise_map] at hob
    unfold List.Nodup
    rw [List.pairwise_map]
    refine List.Pairwise.imp_of_mem (fun {a b} ha hb hab => ?_) hob
    obtain ⟨_, a2, _⟩ := hc.deb a ha
    obtain ⟨_, b2, _⟩ := hc.deb b hb
    intro q
    exact hab (by
      have e1 : a.o = b.o := by omega
      have e2 : a.b = b.b := by omega
      rw [e1, e2])
  · obtain ⟨d, hd, rfl⟩ := List.mem_map.1 hj
    obtain ⟨a1, a2, _⟩ := hc.deb d hd
    omega
  · by_cases q : Lf fx (j / 256) (j % 256) ≠ 0 ∨ Lf fy (j / 256) (j % 256) ≠ 0
    · exfalso
      obtain ⟨b1, b2⟩ := hout (j / 256) (j % 256) (Nat.mod_lt _ (by decide)) q
      obtain ⟨i, hi, k1, k2⟩ := hk _ _ b1 b2
      refine hn (List.mem_map.2 ⟨debtOf s i, debtOf_mem s i hi, ?_⟩)
      rw [k1, k2]
      omega
    · have e : j / 256 * 256 + j % 256 = j := by omega
      unfold Lf at q
      rw [e] at q
      omega
end Sn
end Go.Proofs.Ytkgnmcekeeannab
/-
  Serves: the bits that tell what is lost.
-/
namespace Go.Proofs.Ytkgnmcekeeannab
open Go.RowKit Go.Deep
namespace Sn
open Bs
open Ms (txt text M It Tells)
set_option linter.unusedVariables false

/-- a list of raw numbers -/
def IntsAt (w : World) (ao : Option Addr) (n : Nat) : Prop :=
  n = 0 ∨ ∃ b off, ao = some ⟨b, off, none⟩ ∧ b < w.heap.size ∧ ∀ i, i < n → ∃ v : Int, w.cell? ⟨b, off + i, none⟩ = some (.int .i64 v)
theorem IntsAt.below {w w' : World} {ao : Option Addr} {n : Nat} (h : IntsAt w ao n) (hb : Below w.heap.size w w') : IntsAt w' ao n := by
  rcases h with h | ⟨b, off, e, hl, hc⟩
  · exact .inl h
  · refine .inr ⟨b, off, e, Nat.lt_of_lt_of_le hl hb.size, fun i hi => ?_⟩
    obtain ⟨v, hv⟩ := hc i hi
    exact ⟨v, (hb.cell (p := ⟨b, off + i, none⟩) hl).trans hv⟩
theorem setAny (ao : Option Addr) (n cap k : Nat) (w : World) (hn : n ≤ 140737488355328) (hk : k ≤ 1048576) (h : IntsAt w ao n) :
    ∃ bit : Bool, ∀ W, Below w.heap.size w W → Calls Try.prog 23 #[.slice ao n cap, .int .i64 k] W fun e w' => e = .returned (.bool bit) ∧ w' = W := by
  by_cases h0 : n = 0
  · subst h0
    clear h
    refine ⟨false, fun W _ => ?_⟩
    go_enter Try.func23, Try.ntmps23
    go_wp2_with fail
    go_ret
    exact ⟨rfl, rfl⟩
  · rcases h with h | ⟨b, off, rfl, hl, hc⟩
    · exact absurd h h0
    · have hlt : k / 32 % n < n := Nat.mod_lt _ (by omega)
      obtain ⟨v, hv⟩ := hc (k / 32 % n) hlt
      refine ⟨bits BinOp.and IntKind.i64 (v / 2 ^ (k % 32)) 1 == 1, fun W hW => ?_⟩
      have hbd : 0 ≤ (k : Int) / 32 % (n : Int) ∧ (k : Int) / 32 % (n : Int) < (n : Int) := ⟨Int.emod_nonneg _ (by omega), Int.emod_lt_of_pos _ (by omega)⟩
      have hv' : W.cell? ⟨b, off + k / 32 % n, none⟩ = some (.int .i64 v) := (hW.cell (p := ⟨b, off + k / 32 % n, none⟩) hl).trans hv
      clear hc hv hW
      go_enter Try.func23, Try.ntmps23
      go_wp2_with fail
      go_ret
      exact ⟨rfl, rfl⟩
theorem lostZero : Try.zeroCells63 = Array.replicate 2048 (.int .i64 0) := by kernel_rfl
/-- what the first letters of a message tell -/
theorem text_data {m : M} (h : Ms.ok m) (hk : m.kind = 1) : ∃ (o b : Nat) (x y : UInt8) (rest : List UInt8), m.obj = o ∧ m.blk = b ∧ o < 8 ∧ b < 256 ∧ x.toNat = o ∧ y.toNat = b ∧ text m = 68 :: x :: y :: rest ∧ 3 ≤ rest.length := by
  rcases h with ⟨_, q⟩ | ⟨q, _⟩ | ⟨q, _⟩
  · obtain ⟨q1, q2, q3, q4, _, _, _, _, q9, _⟩ := q
    have u1 := Ms.u8w_back m.obj q1 (by omega)
    have u2 := Ms.u8w_back m.blk q3 (by omega)
    refine ⟨m.obj.toNat, m.blk.toNat, Ms.u8w m.obj, Ms.u8w m.blk, [Ms.u8w m.num, Ms.u8w (m.len / 256), Ms.u8w (m.len % 256)] ++ m.sym.data.toList ++ [Ms.u8w ((Crc.sum (Ms.body m) / 256 : Nat) : Int), Ms.u8w ((Crc.sum (Ms.body m) % 256 : Nat) : Int)], by omega, by omega, by omega, by omega, by omega, by omega, ?_, by simp⟩
    have e : Ms.body m = [68, Ms.u8w m.obj, Ms.u8w m.blk, Ms.u8w m.num, Ms.u8w (m.len / 256), Ms.u8w (m.len % 256)] ++ m.sym.data.toList := by unfold Ms.body; rw [if_pos hk]
    have e2 : text m = Ms.body m ++ [Ms.u8w ((Crc.sum (Ms.body m) / 256 : Nat) : Int), Ms.u8w ((Crc.sum (Ms.body m) % 256 : Nat) : Int)] := rfl
    rw [e2]
    conv => lhs; lhs; rw [e]
    simp
  · rw [hk] at q; exact absurd q (by decide)
  · rw [hk] at q; exact absurd q (by decide)
end Sn
end Go.Proofs.Ytkgnmcekeeannab
/-
  Serves: what is lost is counted.
-/
namespace Go.Proofs.Ytkgnmcekeeannab
open Go.RowKit Go.Deep
namespace Sn
open Bs
open Ms (txt text M It Tells)
set_option linter.unusedVariables false

def LostAt (w : World) (X : Nat) (f : Nat → Nat) : Prop := w.rowIs X 63 2048 (fun j => .int .i64 (f j))
set_option maxRecDepth 100000 in
set_option maxHeartbeats 1000000 in
theorem mayData (X : Nat) (f : Nat → Nat) (TX : ByteArray) (spare o b : Nat) (x y : UInt8) (rest : List UInt8) (w : World) (hL : LostAt w X f) (ht : TX = txt (68 :: x :: y :: rest)) (hr : 3 ≤ rest.length) (hz : TX.size ≤ 28) (ho : o < 8) (hb : b < 256) (hx : x.toNat = o) (hy : y.toNat = b) (hf : f (o * 256 + b) ≤ 8) (hs : spare ≤ 8) :
    Calls Try.prog 42 #[.pointer (some ⟨X, 0, none⟩), .string TX, .int .i64 spare] w fun e w' => (f (o * 256 + b) < spare ∧ e = .returned (.bool true) ∧ LostAt w' X (fup f (o * 256 + b)) ∧ Touch w w' (fun b => b = X)) ∨ (spare ≤ f (o * 256 + b) ∧ e = .returned (.bool false) ∧ Below w.heap.size w w') := by
  have h6 : 6 ≤ TX.size := by rw [ht, Ms.txt_size]; simp; omega
  have g0 : TX[0].toNat = 68 := by subst ht; rfl
  have g1 : TX[1].toNat = o := by subst ht; exact hx
  have g2 : TX[2].toNat = b := by subst ht; exact hy
  have hc : w.cell? ⟨X, o * 256 + b, none⟩ = some (.int .i64 (f (o * 256 + b))) := World.rowIs.cell (i := o * 256 + b) hL (by omega)
  have HL : Hid (LostAt w X f) := hL
  clear ht hL hx hy hr
  by_cases hlt : f (o * 256 + b) < spare
  · go_enter Try.func42, Try.ntmps42
    go_wp2_with fail
    go_quiet (fail)
    have b1 := below_drewN (Below.refl w.heap.size w) nq
    have HB1 : Hid (Below w.heap.size w (w.drewN nq)) := b1
    have L1 : LostAt (w.drewN nq) X f := HL.out.of_block (b1.block X HL.out.lt)
    have hc1 : (w.drewN nq).cell? ⟨X, o * 256 + b, none⟩ = some (.int .i64 (f (o * 256 + b))) := World.rowIs.cell (i := o * 256 + b) L1 (by omega)
    have HL1 : Hid (LostAt (w.drewN nq) X f) := L1
    clear HL hc b1 L1
    generalize w.drewN nq = w1 at *
    obtain ⟨v, hv⟩ : ∃ v, v = w1.drew := ⟨_, rfl⟩
    have bv : Below w1.heap.size w1 v := by rw [hv]; exact (Below.refl _ _).drew
    have Lv : LostAt v X f := HL1.out.of_block (bv.block X HL1.out.lt)
    have hcv : v.cell? ⟨X, o * 256 + b, none⟩ = some (.int .i64 (f (o * 256 + b))) := World.rowIs.cell (i := o * 256 + b) Lv (by omega)
    have fz := World.rowIs.frozen Lv (o * 256 + b)
    have HF : Hid (LostAt (v.setCell ⟨X, o * 256 + b, none⟩ (.int .i64 ((f (o * 256 + b) : Int) + 1))) X (fup f (o * 256 + b))) := by
      refine (World.rowIs.set Lv (o * 256 + b) _).congr (fun j _ => ?_)
      unfold fup
      by_cases q : j = o * 256 + b
      · simp [q]
      · simp [q]
    have HT : Hid (Touch w (v.setCell ⟨X, o * 256 + b, none⟩ (.int .i64 ((f (o * 256 + b) : Int) + 1))) (fun b => b = X)) := touch_set ((Touch.of_below HB1.out).below bv) (.inl rfl)
    clear HL1 bv Lv HB1
    have j1 : (1 : Int) < (TX.size : Int) := by omega
    have j2 : (2 : Int) < (TX.size : Int) := by omega
    have j3 : (o : Int) < 8 := by omega
    have j4 : (b : Int) < 256 := by omega
    go_wp2_with fail
    (refine wp_region_still_tail 15 (by kernel_rfl) (by kernel_rfl) ?_; change wpStill _ _ (World.drew _) (fun a' => wpList _ _ _ _ a' (World.drew _)) _ _; simp only [← hv]; clear hv; simp only [List.take_succ_cons, List.take_zero, List.drop_succ_cons, List.drop_zero]; (repeat still_step); refine wpStill_nil ?_)
    go_wp2_with fail
    go_ret
    exact .inl ⟨hlt, rfl, HF.out, HT.out⟩
  · go_enter Try.func42, Try.ntmps42
    go_wp2_with fail
    go_quiet (fail)
    have HB1 : Hid (Below w.heap.size w (w.drewN nq)) := below_drewN (Below.refl w.heap.size w) nq
    generalize w.drewN nq = w1 at *
    clear HL hc
    go_wp2
    go_ret
    exact .inr ⟨by omega, rfl, HB1.out⟩
set_option maxRecDepth 100000 in
set_option maxHeartbeats 1000000 in
theorem mayShort (X : Nat) (TX : ByteArray) (spare : Nat) (w : World) (hz : TX.size < 6) :
    Calls Try.prog 42 #[.pointer (some ⟨X, 0, none⟩), .string TX, .int .i64 spare] w fun e w' => e = .returned (.bool false) ∧ Below w.heap.size w w' := by
  have HB : Hid (Below w.heap.size w w) := Below.refl _ _
  have hb : (decide ((TX.size : Int) < 6)) = true := decide_eq_true (by omega)
  go_enter Try.func42, Try.ntmps42
  go_wp2_with fail
  go_ret
  exact ⟨rfl, HB.out⟩
theorem text_end {m : M} (h : Ms.ok m) (hk : m.kind = 3) : (text m).length < 6 := by
  have e : Ms.body m = [69, Ms.u8w m.objs] := by unfold Ms.body; rw [if_neg (by rw [hk]; decide), if_neg (by rw [hk]; decide)]
  have e2 : text m = Ms.body m ++ [Ms.u8w ((Crc.sum (Ms.body m) / 256 : Nat) : Int), Ms.u8w ((Crc.sum (Ms.body m) % 256 : Nat) : Int)] := rfl
  rw [e2, e]
  simp
end Sn
end Go.Proofs.Ytkgnmcekeeannab
/-
  Serves: a message comes to a receiver, if it is not lost.
-/
namespace Go.Proofs.Ytkgnmcekeeannab
open Go.RowKit Go.Deep
namespace Sn
open Bs
open Ms (txt text M It Tells)
set_option linter.unusedVariables false

def MissOut (s : St) (r : Rt) (f : Nat → Nat) (w w' : World) (p X : Nat) (F : Nat → Prop) : Prop :=
  ∃ r' f', Miss s r (Lf f) r' (Lf f') ∧ LRcvAt w' p r' (grow F w w') ∧ LostAt w' X f' ∧ Touch w w' (fun b => F b ∨ b = X)
set_option maxRecDepth 100000 in
set_option maxHeartbeats 2000000 in
theorem tripMisses (s : St) (r : Rt) (f : Nat → Nat) (p X : Nat) (F : Nat → Prop) (TX : ByteArray) (bit : Bool) (spare : Nat) (w : World) (hm : Ms.ok (nxtM s)) (hk : (nxtM s).kind = 1 ∨ (nxtM s).kind = 3) (ht : TX = txt (text (nxtM s))) (hsp : s.n.spare = spare) (hs8 : spare ≤ 8) (hf : ∀ o b, b < 256 → Lf f o b ≤ spare) (hr : ROk r) (h0 : (r.hear (nxtM s)).2 = 0) (hA : LRcvAt w p r F) (hL : LostAt w X f) (hX : ¬ F X) :
    Calls Try.prog 22 #[.pointer (some ⟨p, 0, none⟩), .string TX, .pointer (some ⟨X, 0, none⟩), .bool bit, .int .i64 spare] w fun e w' => e = .returned (.bool true) ∧ MissOut s r f w w' p X F := by
  have hlen := Ms.text_len hm
  have hz : TX.size ≤ 28 := by rw [ht, Ms.txt_size]; omega
  have HTL : Hid (Tells TX (nxtM s)) := by rw [ht]; exact tells_text hm
  -- what hearing does, from any later world
  have HEAR : ∀ w1, Below w.heap.size w w1 → Calls Try.prog 35 #[.pointer (some ⟨p, 0, none⟩), .string TX] w1 fun e w' => e = .returned (.int .i64 0) ∧ Hid (MissOut s r f w w' p X F) := fun w1 hb => by
    have hA1 : LRcvAt w1 p r F := hA.stay (Touch.of_below (F := fun _ => False) hb) (fun _ _ h => h) (fun _ h _ => h)
    have hL1 : LostAt w1 X f := hL.of_block (hb.block X hL.lt)
    refine (rHearR r TX p F w1 (by omega) hr hA1).mono ?_
    rintro e w' ⟨ho, t⟩
    rcases ho with ⟨m', h5, rfl, hl3⟩ | ⟨h5, _, _⟩
    · have em : m' = nxtM s := by rw [← Ms.tells_lan h5, Ms.tells_lan HTL.out]
      subst em
      rw [h0]
      have hs := hb.size
      have hts := t.size
      refine ⟨rfl, _, f, .inl ⟨rfl, rfl⟩, hl3.mono (fun b hb' _ => ?_), hL1.of_block (t.block X hL1.lt hX), ?_⟩
      · rcases hb' with q | ⟨q1, q2⟩
        · exact .inl q
        · exact .inr ⟨by omega, q2⟩
      · have t1 : Touch w w' F := (Touch.of_below hb).trans t
        exact ⟨t1.os, t1.tape, t1.output, t1.size, fun b hb hn => t1.block b hb (fun q => hn (.inl q))⟩
    · exact absurd HTL.out (h5 _)
  cases bit with
  | false =>
    have H := HEAR w (Below.refl _ _)
    clear HEAR hA hL hX hr h0 hf hm hlen ht
    go_enter Try.func22, Try.ntmps22
    go_wp2_with fail
    refine H.mono ?_
    rintro e w1 ⟨rfl, ho⟩
    clear H
    go_wp2
    go_ret
    exact ⟨rfl, ho.out⟩
  | true =>
    have HM : Calls Try.prog 42 #[.pointer (some ⟨X, 0, none⟩), .string TX, .int .i64 spare] w fun e w' => (e = .returned (.bool true) ∧ Hid (MissOut s r f w w' p X F)) ∨ (e = .returned (.bool false) ∧ Below w.heap.size w w') := by
      rcases hk with hk | hk
      · obtain ⟨o, b, x, y, rest, q1, q2, q3, q4, q5, q6, q7, q8⟩ := text_data hm hk
        have hfo := hf o b q4
        refine (mayData X f TX spare o b x y rest w hL (by rw [ht, q7]) q8 hz q3 q4 q5 q6 (by unfold Lf at hfo; omega) hs8).mono ?_
        rintro e w' (⟨g1, rfl, g3, g4⟩ | ⟨g1, rfl, g3⟩)
        · refine .inl ⟨rfl, r, fup f (o * 256 + b), .inr ⟨rfl, hk, o, b, q1, q2, by rw [hsp]; exact g1, (Lf_set f q4).1, (Lf_set f q4).2⟩, ?_, g3, ?_⟩
          · exact hA.stay g4 (fun c hc e => hX (by rw [← e]; exact hc)) (fun c hc _ => .inl hc)
          · exact ⟨g4.os, g4.tape, g4.output, g4.size, fun c hc hn => g4.block c hc (fun q => hn (.inr q))⟩
        · exact .inr ⟨rfl, g3⟩
      · have := text_end hm hk
        exact (mayShort X TX spare w (by rw [ht, Ms.txt_size]; exact this)).mono fun e w' h => .inr h
    clear hA hL hX hr h0 hf hm hlen ht
    go_enter Try.func22, Try.ntmps22
    go_wp2_with fail
    refine HM.mono ?_
    rintro e w1 (⟨rfl, ho⟩ | ⟨rfl, hb⟩)
    · clear HM HEAR
      go_wp2
      go_ret
      exact ⟨rfl, ho.out⟩
    · have H := HEAR w1 hb
      clear HM HEAR hb
      go_wp2_with fail
      refine H.mono ?_
      rintro e w2 ⟨rfl, ho⟩
      clear H
      go_wp2
      go_ret
      exact ⟨rfl, ho.out⟩
end Sn
end Go.Proofs.Ytkgnmcekeeannab
