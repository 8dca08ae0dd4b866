import Derived.Test.YtkgnmcekeeannabW48
/-
  Serves: what is sent again comes to both receivers: in plain words.
-/
namespace Go.Proofs.Ytkgnmcekeeannab
namespace Sn
open Ms (txt text M It)
set_option linter.unusedVariables false

structure Sec (s : St) (rx ry : Rt) (Lx Ly U : Nat → Nat → Nat) : Prop where
  ok : ∃ c, SOkC s c
  nx : rx.n = s.n
  ny : ry.n = s.n
  hx : HonR rx s.objs
  hy : HonR ry s.objs
  ax : Acc rx s.objs Lx U
  ay : Acc ry s.objs Ly U
  tu : ∀ d ∈ s.debts, U d.o d.b = s.n.many (objOf s d.o).size d.b + d.turn ∧ d.turn + d.owes ≤ max (Lx d.o d.b) (Ly d.o d.b)
  lx : ∀ o b, b < 256 → Lx o b ≤ s.n.spare
  ly : ∀ o b, b < 256 → Ly o b ≤ s.n.spare
  all : total s.n s.objs ≤ s.sent
  ob : (obs s).Nodup
theorem obs_ne {s : St} (h : (obs s).Nodup) {i j : Nat} (hi : i < s.debts.length) (hj : j < s.debts.length) (hne : j ≠ i) : ¬ ((debtOf s j).o = (debtOf s i).o ∧ (debtOf s j).b = (debtOf s i).b) := by
  rintro ⟨e1, e2⟩
  have h1 := obs_at hi
  have h2 := obs_at hj
  rw [e1, e2, ← h1] at h2
  have li : i < (obs s).length := by simpa [obs] using hi
  have lj : j < (obs s).length := by simpa [obs] using hj
  rw [List.getElem?_eq_getElem li, List.getElem?_eq_getElem lj] at h2
  have h3 : (obs s)[j] = (obs s)[i] := by simpa using h2
  have hp := List.pairwise_iff_getElem.1 h
  rcases Nat.lt_or_gt_of_ne hne with q | q
  · exact hp j i lj li q h3
  · exact hp i j li lj q h3.symm
theorem debt_set {s : St} {i : Nat} (hi : i < s.debts.length) {x d : Db} (h : d ∈ s.debts.set i x) : d = x ∨ ∃ j, j < s.debts.length ∧ j ≠ i ∧ d = debtOf s j := by
  obtain ⟨j, hj, e⟩ := List.mem_iff_getElem.1 h
  rw [List.length_set] at hj
  rw [List.getElem_set] at e
  by_cases q : i = j
  · rw [if_pos q] at e; exact .inl e.symm
  · rw [if_neg q] at e
    refine .inr ⟨j, hj, fun q' => q q'.symm, ?_⟩
    rw [← e]; simp [debtOf, List.getD_eq_getElem?_getD, hj]
section
variable {s : St} {rx ry : Rt} {Lx Ly U : Nat → Nat → Nat}
theorem left_owing {c : Nat} (hs : SOkC s c) (ha : total s.n s.objs ≤ s.sent) (hl : 0 < s.left) : ∃ i, owing s.debts = some i := by
  cases ho : owing s.debts with
  | some i => exact ⟨i, rfl⟩
  | none =>
    exfalso
    have hz : ∀ d ∈ s.debts, d.owes = 0 := fun d hd => by
      unfold owing at ho
      rw [List.findIdx?_eq_none_iff] at ho
      have := ho d hd
      simp at this
      exact this
    have key : ∀ l : List Db, (∀ d ∈ l, d.owes = 0) → (l.map Db.owes).sum = 0 := by
      intro l
      induction l with
      | nil => intro _; rfl
      | cons d l ih => intro h; simp only [List.map_cons, List.sum_cons]; rw [h d (by simp), ih (fun x hx => h x (by simp [hx]))]
    have := key _ hz
    unfold St.left at hl
    omega
theorem Sec.send (h : Sec s rx ry Lx Ly U) (hl : 0 < s.left) : ∃ U', Sec (nxt s).1 (rx.hear (nxtM s)).1 (ry.hear (nxtM s)).1 Lx Ly U' := by
  obtain ⟨c, hc⟩ := h.ok
  obtain ⟨i, ho⟩ := left_owing hc h.all hl
  obtain ⟨hi, hpos⟩ := owing_at ho
  have hdm := debtOf_mem s i hi
  obtain ⟨q1, q2, q3, q4, q5⟩ := hc.deb _ hdm
  obtain ⟨t1, t2⟩ := h.tu _ hdm
  have hpos' : 0 < (debtOf s i).owes := by
    have e : debtOf s i = s.debts[i] := by simp [debtOf, List.getD_eq_getElem?_getD, hi]
    rw [e]; exact hpos
  have l1 := h.lx (debtOf s i).o (debtOf s i).b (by omega)
  have l2 := h.ly (debtOf s i).o (debtOf s i).b (by omega)
  have em : nxtM s = dataM s.n (objOf s (debtOf s i).o) (debtOf s i).o (debtOf s i).b (U (debtOf s i).o (debtOf s i).b) := by
    unfold nxtM; rw [ho]
    simp only []
    rw [t1, Nat.mod_eq_of_lt (by omega)]
  have ed : (nxt s).1.debts = s.debts.set i { debtOf s i with owes := (debtOf s i).owes - 1, turn := (debtOf s i).turn + 1 } := by
    unfold nxt; rw [ho]
  have es : (nxt s).1.sent = s.sent := by unfold nxt; rw [ho]
  obtain ⟨e1, e2⟩ := nxt_same s
  have hhx := HonR.hear h.hx (by rw [h.nx]; exact hc.base.nok) hc.base.sz (m := nxtM s) (by rw [h.nx]; exact nxtM_honest hc)
  have hhy := HonR.hear h.hy (by rw [h.ny]; exact hc.base.nok) hc.base.sz (m := nxtM s) (by rw [h.ny]; exact nxtM_honest hc)
  have hk : (nxtM s).kind = 1 := by rw [em]; rfl
  have mo : (nxtM s).obj = ((debtOf s i).o : Nat) := by rw [em]; rfl
  have mb : (nxtM s).blk = ((debtOf s i).b : Nat) := by rw [em]; rfl
  have mn : (nxtM s).num = ((U (debtOf s i).o (debtOf s i).b : Nat) : Int) := by rw [em]; rfl
  have hax := h.ax.hear hk hhx.1 mo mb mn
  have hay := h.ay.hear hk hhy.1 mo mb mn
  refine ⟨_, ⟨⟨c + 1, hc.nxt⟩, by rw [e1, (hear_n rx _).1, h.nx], by rw [e1, (hear_n ry _).1, h.ny], by rw [e2]; exact hhx.2, by rw [e2]; exact hhy.2, by rw [e2]; exact hax, by rw [e2]; exact hay, fun d hd => ?_, by rw [e1]; exact h.lx, by rw [e1]; exact h.ly, by rw [e1, e2, es]; exact h.all, by rw [obs_nxt]; exact h.ob⟩⟩
  have eo : objOf (nxt s).1 d.o = objOf s d.o := by unfold objOf; rw [e2]
  rw [e1, eo]
  rw [ed] at hd
  rcases debt_set hi hd with e | ⟨j, hj, hne, e⟩
  · subst e
    simp only []
    rw [upd_at]
    exact ⟨by omega, by omega⟩
  · subst e
    have := h.tu _ (debtOf_mem s j hj)
    unfold upd
    rw [if_neg (obs_ne h.ob hi hj hne)]
    exact this
theorem Sec.fin (h : Sec s rx ry Lx Ly U) (hl : s.left = 0) : Sec (nxt s).1 (rx.hear (nxtM s)).1 (ry.hear (nxtM s)).1 Lx Ly U := by
  obtain ⟨c, hc⟩ := h.ok
  obtain ⟨e1, e2⟩ := nxtM_end hc hl
  have hhx := HonR.hear h.hx (by rw [h.nx]; exact hc.base.nok) hc.base.sz (m := nxtM s) (by rw [h.nx]; exact nxtM_honest hc)
  have hhy := HonR.hear h.hy (by rw [h.ny]; exact hc.base.nok) hc.base.sz (m := nxtM s) (by rw [h.ny]; exact nxtM_honest hc)
  rw [e2]
  exact ⟨h.ok, by rw [(hear_n rx _).1, h.nx], by rw [(hear_n ry _).1, h.ny], hhx.2, hhy.2, by rw [e1]; exact h.ax.fin _, by rw [e1]; exact h.ay.fin _, h.tu, h.lx, h.ly, h.all, h.ob⟩
end
theorem Sec.run {Lx Ly : Nat → Nat → Nat} : ∀ (j : Nat) (s : St) (rx ry : Rt) (U : Nat → Nat → Nat), s.left = j → Sec s rx ry Lx Ly U → ∃ U', Sec (sendN (j + 1) s rx).1 (sendN (j + 1) s rx).2 (sendN (j + 1) s ry).2 Lx Ly U'
  | 0, s, rx, ry, U, hl, h => ⟨U, h.fin hl⟩
  | j + 1, s, rx, ry, U, hl, h => by
    obtain ⟨c, hc⟩ := h.ok
    obtain ⟨e1, _⟩ := nxt_left hc (by omega)
    obtain ⟨U', h'⟩ := h.send (by omega)
    exact Sec.run j (nxt s).1 (rx.hear (nxtM s)).1 (ry.hear (nxtM s)).1 U' (by omega) h'
/-- the sender goes its way whoever hears -/
theorem sendN_one : ∀ (j : Nat) (s : St) (rx ry : Rt), (sendN j s rx).1 = (sendN j s ry).1
  | 0, s, rx, ry => rfl
  | j + 1, s, rx, ry => sendN_one j (nxt s).1 (rx.hear (nxtM s)).1 (ry.hear (nxtM s)).1
end Sn
end Go.Proofs.Ytkgnmcekeeannab
/-
  Serves: what is asked for is what was lost and has not been sent again: in plain words.
-/
namespace Go.Proofs.Ytkgnmcekeeannab
namespace Sn
open Ms (txt text M It)
set_option linter.unusedVariables false

/-- what an item asks for a block -/
def wish (s : St) (t : It) (d : Db) : Nat := if 0 < t.c ∧ t.c < ((s.n.many (objOf s d.o).size d.b : Nat) : Int) then t.c.toNat else s.n.many (objOf s d.o).size d.b
def Meets (t : It) (d : Db) : Prop := (d.o : Int) = t.o ∧ (0 < t.c → (d.b : Int) = t.b)
theorem due_meets {s : St} {t : It} {d : Db} (h : Meets t d) : due s t d = if d.owes < wish s t d then { d with owes := wish s t d } else d := by
  unfold due
  rw [if_neg (by
    rintro (q | ⟨q1, q2⟩)
    · exact q h.1
    · exact q2 (h.2 q1))]
  rfl
theorem due_not {s : St} {t : It} {d : Db} (h : ¬ Meets t d) : due s t d = d := by
  unfold due
  rw [if_pos]
  by_cases q : (d.o : Int) = t.o
  · right
    by_cases q2 : 0 < t.c
    · refine ⟨q2, fun e => h ⟨q, fun _ => e⟩⟩
    · exact absurd ⟨q, fun e => absurd e q2⟩ h
  · exact .inl q
theorem wish_same {s : St} {t : It} {d e : Db} (h1 : e.o = d.o) (h2 : e.b = d.b) : wish s t e = wish s t d := by unfold wish; rw [h1, h2]
theorem meets_same {t : It} {d e : Db} (h1 : e.o = d.o) (h2 : e.b = d.b) : Meets t e ↔ Meets t d := by unfold Meets; rw [h1, h2]
theorem fold_lid (s : St) (W : Nat → Nat → Nat) : ∀ (l : List It) (ds : List Db), (∀ d ∈ ds, d.turn + d.owes ≤ W d.o d.b ∧ ∀ t ∈ l, Meets t d → d.turn + wish s t d ≤ W d.o d.b) → ∀ d ∈ l.foldl (fun ds t => ds.map (due s t)) ds, d.turn + d.owes ≤ W d.o d.b
  | [], ds, h, d, hd => (h d hd).1
  | u :: l, ds, h, d, hd => by
    refine fold_lid s W l (ds.map (due s u)) (fun x hx => ?_) d hd
    obtain ⟨y, hy, rfl⟩ := List.mem_map.1 hx
    obtain ⟨b1, b2, b3, b4⟩ := due_three s u y
    obtain ⟨h1, h2⟩ := h y hy
    refine ⟨?_, fun t ht hm => ?_⟩
    · rw [b1, b2, b3]
      by_cases q : Meets u y
      · have := h2 u (by simp) q
        rw [due_meets q]
        split
        · exact this
        · exact h1
      · rw [due_not q]; exact h1
    · rw [b1, b2, b3, wish_same b1 b2]
      exact h2 t (by simp [ht]) ((meets_same b1 b2).1 hm)
theorem fold_wish (s : St) : ∀ (l : List It) (ds : List Db) (t : It) (i : Nat) (d0 : Db), t ∈ l → i < ds.length → Meets t (ds.getD i d0) → wish s t (ds.getD i d0) ≤ ((l.foldl (fun ds t => ds.map (due s t)) ds).getD i d0).owes
  | u :: l, ds, t, i, d0, ht, hi, hm => by
    have e : (ds.map (due s u)).getD i d0 = due s u (ds.getD i d0) := by simp [List.getD_eq_getElem?_getD, hi]
    obtain ⟨b1, b2, b3, b4⟩ := due_three s u (ds.getD i d0)
    show _ ≤ ((l.foldl (fun ds t => ds.map (due s t)) (ds.map (due s u))).getD i d0).owes
    rcases List.mem_cons.1 ht with q | q
    · subst q
      have := ((fold_three s l (ds.map (due s t))).2 i d0 (by simpa using hi)).2.2.2
      rw [e] at this
      refine Nat.le_trans ?_ this
      rw [due_meets hm]
      split
      · exact Nat.le_refl _
      · omega
    · have := fold_wish s l (ds.map (due s u)) t i d0 q (by simpa using hi) (by rw [e]; exact (meets_same b1 b2).2 hm)
      rw [e, wish_same b1 b2] at this
      exact this
section
variable {s : St} {r : Rt} {L U : Nat → Nat → Nat}
theorem items_of {t : It} (h : t ∈ r.items) : ∃ o, o < r.known ∧ ((r.len o = 0 ∧ t = ⟨o, 0, 0⟩) ∨ (r.len o ≠ 0 ∧ ∃ b, b < r.n.blocks (r.len o) ∧ (r.come o b).length < r.n.many (r.len o) b ∧ t = ⟨o, b, ((r.n.many (r.len o) b - (r.come o b).length : Nat) : Int)⟩)) := by
  unfold Rt.items at h
  obtain ⟨o, ho, hlo⟩ := List.mem_flatMap.1 h
  rw [List.mem_range] at ho
  refine ⟨o, ho, ?_⟩
  rw [lacks_eq] at hlo
  by_cases h0 : r.len o = 0
  · rw [if_pos h0] at hlo
    exact .inl ⟨h0, List.mem_singleton.1 hlo⟩
  · rw [if_neg h0] at hlo
    unfold lackTo at hlo
    obtain ⟨b, hb, e⟩ := List.mem_filterMap.1 hlo
    rw [List.mem_range] at hb
    unfold lackOf at e
    split at e
    · rename_i hlt
      simp only [Option.some.injEq] at e
      exact .inr ⟨h0, b, hb, hlt, e.symm⟩
    · cases e
theorem wish_pos {t : It} {d : Db} (hk : 0 < s.n.many (objOf s d.o).size d.b) : 0 < wish s t d := by
  unfold wish
  split
  · omega
  · exact hk
theorem items_good (ha : Acc r s.objs L U) (hh : HonR r s.objs) (hr : ROk r) (hn : r.n = s.n) {t : It} (ht : t ∈ r.items) {d : Db} (hu : U d.o d.b = s.n.many (objOf s d.o).size d.b + d.turn) (hk : 0 < s.n.many (objOf s d.o).size d.b) (hb : d.b < 256) (hm : Meets t d) :
    d.turn + wish s t d = L d.o d.b := by
  have hc := ha.cn d.o d.b hb
  have hle := ha.le d.o d.b hb
  have eo : s.objs.getD d.o ⟨#[]⟩ = objOf s d.o := rfl
  rw [hn, eo, hu] at hc
  rw [hu] at hle
  obtain ⟨o, ho, ⟨h0, rfl⟩ | ⟨h0, b, hb2, hlt, rfl⟩⟩ := items_of ht
  · have e1 : d.o = o := by have q : (d.o : Int) = (o : Int) := hm.1; omega
    subst e1
    rw [cnt_zero hr h0] at hc
    have ew : wish s ⟨d.o, 0, 0⟩ d = s.n.many (objOf s d.o).size d.b := by
      unfold wish
      rw [if_neg (by rintro ⟨q, _⟩; exact absurd q (by show ¬ ((0 : Int) < 0); decide))]
    rw [ew]
    omega
  · have e1 : d.o = o := by have q : (d.o : Int) = (o : Int) := hm.1; omega
    subst e1
    have hpos : (0 : Int) < ((r.n.many (r.len d.o) b - (r.come d.o b).length : Nat) : Int) := by omega
    have e2 : d.b = b := by have q : (d.b : Int) = (b : Int) := hm.2 hpos; omega
    subst e2
    have hl : r.n.many (r.len d.o) d.b = s.n.many (objOf s d.o).size d.b := by rw [hn, (hh.hon.len h0).2]; rfl
    rw [cnt_come hh h0, hl] at hlt hpos
    unfold wish
    simp only []
    rw [cnt_come hh h0, hl]
    split
    · omega
    · rename_i q
      have : ¬ ((s.n.many (objOf s d.o).size d.b - cnt r s.objs d.o d.b : Nat) : Int) < ((s.n.many (objOf s d.o).size d.b : Nat) : Int) := fun e => q ⟨hpos, e⟩
      omega
theorem items_some {c : Nat} (hs : SOkC s c) (hh : HonR r s.objs) (hn : r.n = s.n) (hk : Keys s) (hne : r.items ≠ []) :
    ∃ i, i < s.debts.length ∧ ∃ t, t ∈ r.items.take 8 ∧ Meets t (debtOf s i) := by
  obtain ⟨t0, rest, ei⟩ := List.exists_cons_of_ne_nil hne
  have ht8 : t0 ∈ r.items.take 8 := by rw [ei]; simp
  have hti : t0 ∈ r.items := List.mem_of_mem_take ht8
  obtain ⟨o, ho, ⟨h0, rfl⟩ | ⟨h0, b, hb2, hlt, rfl⟩⟩ := items_of hti
  · have hol : o < s.objs.length := Nat.lt_of_lt_of_le ho hh.kn
    have hom : objOf s o ∈ s.objs := by
      have e : objOf s o = s.objs[o] := by simp [objOf, List.getD_eq_getElem?_getD, hol]
      rw [e]; exact List.getElem_mem hol
    obtain ⟨i, hi, e1, e2⟩ := hk o 0 hol (blocks_pos' s.n hs.base.nok (objOf s o).size (hs.base.sz _ hom).1)
    refine ⟨i, hi, _, ht8, by rw [e1], fun q => absurd q (by show ¬ ((0 : Int) < 0); decide)⟩
  · obtain ⟨hol, hl⟩ := hh.hon.len h0
    rw [hl, hn] at hb2
    obtain ⟨i, hi, e1, e2⟩ := hk o b hol hb2
    exact ⟨i, hi, _, ht8, by rw [e1], fun _ => by rw [e2]⟩
theorem items_done {c : Nat} (hs : SOkC s c) (ha : Acc r s.objs L U) (hh : HonR r s.objs) (hn : r.n = s.n) (hkn : r.known = s.objs.length) (h : r.items = []) {d : Db} (hd : d ∈ s.debts) (hu : U d.o d.b = s.n.many (objOf s d.o).size d.b + d.turn) : L d.o d.b ≤ d.turn := by
  obtain ⟨q1, q2, q3, q4, q5⟩ := hs.deb d hd
  have hc := ha.cn d.o d.b (by omega)
  have hle := ha.le d.o d.b (by omega)
  have eo : s.objs.getD d.o ⟨#[]⟩ = objOf s d.o := rfl
  rw [hn, eo, hu] at hc
  rw [hu] at hle
  have hl := items_nil h (o := d.o) (by omega)
  rw [lacks_eq] at hl
  by_cases h0 : r.len d.o = 0
  · rw [if_pos h0] at hl; cases hl
  · rw [if_neg h0] at hl
    have hb : d.b < r.n.blocks (r.len d.o) := by
      rw [hn, (hh.hon.len h0).2]
      exact (blocks_many s.n hs.base.nok _ _).1 q3
    unfold lackTo at hl
    have := List.filterMap_eq_nil_iff.1 hl d.b (List.mem_range.2 hb)
    unfold lackOf at this
    rw [cnt_come hh h0, hn, (hh.hon.len h0).2, eo] at this
    split at this
    · cases this
    · omega
theorem done_items {c : Nat} (hs : SOkC s c) (hr : ROk r) (ha : Acc r s.objs L U) (hh : HonR r s.objs) (hn : r.n = s.n) (hk : Keys s) (hu : ∀ d ∈ s.debts, U d.o d.b = s.n.many (objOf s d.o).size d.b + d.turn) (h : ∀ d ∈ s.debts, L d.o d.b ≤ d.turn) : r.items = [] := by
  by_cases hne : r.items = []
  · exact hne
  · exfalso
    obtain ⟨i, hi, t, ht, hm⟩ := items_some hs hh hn hk hne
    have hd := debtOf_mem s i hi
    obtain ⟨q1, q2, q3, q4, q5⟩ := hs.deb _ hd
    have h1 := items_good ha hh hr hn (List.mem_of_mem_take ht) (hu _ hd) q3 (by omega) hm
    have h2 := h _ hd
    have h3 := wish_pos (s := s) (t := t) q3
    omega
end
end Sn
end Go.Proofs.Ytkgnmcekeeannab
/-
  Serves: a round of asking and sending; what is sent again in all: in plain words.
-/
namespace Go.Proofs.Ytkgnmcekeeannab
namespace Sn
open Ms (txt text M It)
set_option linter.unusedVariables false

/-- how many blocks have not been sent again as often as they were lost -/
def inc (s : St) (L : Nat → Nat → Nat) : Nat := ((List.range s.debts.length).map (fun i => if (debtOf s i).turn < L (debtOf s i).o (debtOf s i).b then 1 else 0)).sum
def tsum (s : St) : Nat := (s.debts.map Db.turn).sum
theorem inc_le (s : St) (L : Nat → Nat → Nat) : inc s L ≤ s.debts.length := by
  unfold inc
  have h := sum_le (fun i => if (debtOf s i).turn < L (debtOf s i).o (debtOf s i).b then 1 else 0) (fun _ => 1) (List.range s.debts.length) (fun i _ => by split <;> omega)
  have e : ∀ n, ((List.range n).map (fun _ => 1)).sum = n := by
    intro n
    induction n with
    | zero => rfl
    | succ n ih => rw [List.range_succ, List.map_append, List.sum_append, ih]; rfl
  rw [e] at h
  exact h
theorem inc_zero {s : St} {L : Nat → Nat → Nat} (h : inc s L = 0) : ∀ d ∈ s.debts, L d.o d.b ≤ d.turn := by
  have key : ∀ l : List Nat, (l.map (fun i => if (debtOf s i).turn < L (debtOf s i).o (debtOf s i).b then 1 else 0)).sum = 0 → ∀ i ∈ l, ¬ (debtOf s i).turn < L (debtOf s i).o (debtOf s i).b := by
    intro l
    induction l with
    | nil => intro _ i hi; cases hi
    | cons x l ih =>
      intro hs i hi
      simp only [List.map_cons, List.sum_cons] at hs
      rcases List.mem_cons.1 hi with e | e
      · subst e
        intro q
        rw [if_pos q] at hs
        omega
      · exact ih (by omega) i e
  intro d hd
  obtain ⟨i, hi, rfl⟩ := mem_debtOf hd
  have := key _ h i (List.mem_range.2 hi)
  omega
theorem inc_none {s : St} {L : Nat → Nat → Nat} (h : ∀ d ∈ s.debts, L d.o d.b ≤ d.turn) : inc s L = 0 := by
  unfold inc
  have key : ∀ l : List Nat, (∀ i ∈ l, i < s.debts.length) → (l.map (fun i => if (debtOf s i).turn < L (debtOf s i).o (debtOf s i).b then 1 else 0)).sum = 0 := by
    intro l
    induction l with
    | nil => intro _; rfl
    | cons x l ih =>
      intro hs
      simp only [List.map_cons, List.sum_cons]
      have := h _ (debtOf_mem s x (hs x (by simp)))
      rw [if_neg (by omega), ih (fun i hi => hs i (by simp [hi]))]
  exact key _ (fun i hi => List.mem_range.1 hi)
theorem pots (s : St) : ((pot s).map (fun p => p.2.2)).sum = tsum s + (s.debts.map Db.owes).sum := by
  unfold pot tsum
  rw [List.map_map]
  induction s.debts with
  | nil => rfl
  | cons d l ih =>
    simp only [List.map_cons, List.sum_cons, Function.comp] at ih ⊢
    omega
theorem asked_turns (s : St) (l : List It) : (s.asked l).debts.map Db.turn = s.debts.map Db.turn := by
  obtain ⟨hl, hat⟩ := asked_at s l
  refine List.ext_getElem? (fun i => ?_)
  by_cases hi : i < s.debts.length
  · have h1 : i < (s.asked l).debts.length := by omega
    have e := (hat i hi).2.2
    simp only [debtOf, List.getD_eq_getElem?_getD, List.getElem?_eq_getElem hi, List.getElem?_eq_getElem h1, Option.getD_some] at e
    rw [List.getElem?_map, List.getElem?_map, List.getElem?_eq_getElem hi, List.getElem?_eq_getElem h1]
    simp only [Option.map_some, e]
  · rw [List.getElem?_eq_none (by simp; omega), List.getElem?_eq_none (by simp; omega)]
section
variable {s : St} {rx ry : Rt} {Lx Ly U : Nat → Nat → Nat}
theorem Sec.asked (h : Sec s rx ry Lx Ly U) (l : List It) (hg : ∀ t ∈ l, ∀ d ∈ s.debts, Meets t d → d.turn + wish s t d ≤ max (Lx d.o d.b) (Ly d.o d.b)) : Sec (s.asked l) rx ry Lx Ly U := by
  obtain ⟨c, hc⟩ := h.ok
  have hlid := fold_lid s (fun o b => max (Lx o b) (Ly o b)) l s.debts (fun d hd => ⟨(h.tu d hd).2, fun t ht hm => hg t ht d hd hm⟩)
  refine ⟨⟨_, hc.dues l⟩, h.nx, h.ny, h.hx, h.hy, h.ax, h.ay, fun d hd => ⟨?_, hlid d hd⟩, h.lx, h.ly, h.all, by rw [asked_obs]; exact h.ob⟩
  obtain ⟨i, hi, rfl⟩ := mem_debtOf hd
  obtain ⟨hl, hat⟩ := asked_at s l
  rw [hl] at hi
  obtain ⟨e1, e2, e3⟩ := hat i hi
  rw [e1, e2, e3]
  exact (h.tu _ (debtOf_mem s i hi)).1
theorem Sec.askX (h : Sec s rx ry Lx Ly U) (hr : ROk rx) : Sec (s.asked (rx.items.take 8)) rx ry Lx Ly U := by
  obtain ⟨c, hc⟩ := h.ok
  refine h.asked _ (fun t ht d hd hm => ?_)
  obtain ⟨q1, q2, q3, q4, q5⟩ := hc.deb d hd
  have := items_good h.ax h.hx hr h.nx (List.mem_of_mem_take ht) (h.tu d hd).1 q3 (by omega) hm
  omega
theorem Sec.askY (h : Sec s rx ry Lx Ly U) (hr : ROk ry) : Sec (s.asked (ry.items.take 8)) rx ry Lx Ly U := by
  obtain ⟨c, hc⟩ := h.ok
  refine h.asked _ (fun t ht d hd hm => ?_)
  obtain ⟨q1, q2, q3, q4, q5⟩ := hc.deb d hd
  have := items_good h.ay h.hy hr h.ny (List.mem_of_mem_take ht) (h.tu d hd).1 q3 (by omega) hm
  omega
/-- one receiver's blocks, ahead of the asking (s) and after the sending (s3); s1: ahead of its own asking; s2: all is asked -/
theorem inc_less {s s1 s2 s3 : St} {r : Rt} {L U : Nat → Nat → Nat} {c : Nat} (hs1 : SOkC s1 c) (ha : Acc r s1.objs L U) (hh : HonR r s1.objs) (hr : ROk r) (hn : r.n = s1.n) (hk : Keys s1) (hkn : r.known = s1.objs.length) (hu : ∀ d ∈ s1.debts, U d.o d.b = s1.n.many (objOf s1 d.o).size d.b + d.turn)
    (l1 : s1.debts.length = s.debts.length) (l3 : s3.debts.length = s.debts.length)
    (e1 : ∀ i, i < s.debts.length → (debtOf s1 i).o = (debtOf s i).o ∧ (debtOf s1 i).b = (debtOf s i).b ∧ (debtOf s1 i).turn = (debtOf s i).turn)
    (e2 : ∀ i, i < s.debts.length → (debtOf (s1.asked (r.items.take 8)) i).owes ≤ (debtOf s2 i).owes)
    (e3 : ∀ i, i < s.debts.length → (debtOf s3 i).o = (debtOf s i).o ∧ (debtOf s3 i).b = (debtOf s i).b ∧ (debtOf s3 i).turn = (debtOf s i).turn + (debtOf s2 i).owes) : inc s3 L ≤ inc s L - 1 := by
  by_cases hne : r.items = []
  · have hz : inc s3 L = 0 := by
      refine inc_none (fun d hd => ?_)
      obtain ⟨i, hi, rfl⟩ := mem_debtOf hd
      rw [l3] at hi
      obtain ⟨a1, a2, a3⟩ := e1 i hi
      obtain ⟨b1, b2, b3⟩ := e3 i hi
      have hd1 := debtOf_mem s1 i (by omega)
      have := items_done hs1 ha hh hn hkn hne hd1 (hu _ hd1)
      rw [a1, a2, a3] at this
      rw [b1, b2, b3]
      omega
    omega
  · obtain ⟨i, hi, t, ht, hm⟩ := items_some hs1 hh hn hk hne
    have hd1 := debtOf_mem s1 i hi
    obtain ⟨q1, q2, q3, q4, q5⟩ := hs1.deb _ hd1
    have hg := items_good ha hh hr hn (List.mem_of_mem_take ht) (hu _ hd1) q3 (by omega) hm
    have hw := wish_pos (s := s1) (t := t) q3
    have hi' : i < s.debts.length := by omega
    have ho : wish s1 t (debtOf s1 i) ≤ (debtOf (s1.asked (r.items.take 8)) i).owes := fold_wish s1 (r.items.take 8) s1.debts t i ⟨0, 0, 0, 0⟩ ht hi hm
    have ho2 := e2 i hi'
    have : inc s3 L + 1 ≤ inc s L := by
      unfold inc
      rw [l3]
      refine sum_lt _ _ _ (fun j hj => ?_) ⟨i, List.mem_range.2 hi', ?_⟩
      · obtain ⟨b1, b2, b3⟩ := e3 j (List.mem_range.1 hj)
        simp only [b1, b2, b3]
        split
        · rw [if_pos (by omega)]; omega
        · omega
      · obtain ⟨a1, a2, a3⟩ := e1 i hi'
        obtain ⟨b1, b2, b3⟩ := e3 i hi'
        rw [a1, a2, a3] at hg
        simp only [b1, b2, b3]
        rw [if_neg (by omega), if_pos (by omega)]
        omega
    omega
theorem Sec.round (h : Sec s rx ry Lx Ly U) (hrx : ROk rx) (hry : ROk ry) (hk : Keys s) (kx : rx.known = s.objs.length) (ky : ry.known = s.objs.length) {s2 : St} (e2 : s2 = (s.asked (rx.items.take 8)).asked (ry.items.take 8)) :
    ∃ U', Sec (sendN (s2.left + 1) s2 rx).1 (sendN (s2.left + 1) s2 rx).2 (sendN (s2.left + 1) s2 ry).2 Lx Ly U' ∧ (sendN (s2.left + 1) s2 rx).1.left = 0 ∧ Keys (sendN (s2.left + 1) s2 rx).1 ∧ (sendN (s2.left + 1) s2 rx).2.known = (sendN (s2.left + 1) s2 rx).1.objs.length ∧ (sendN (s2.left + 1) s2 ry).2.known = (sendN (s2.left + 1) s2 rx).1.objs.length ∧ (sendN (s2.left + 1) s2 rx).1.n = s.n ∧ (sendN (s2.left + 1) s2 rx).1.objs = s.objs ∧
      inc (sendN (s2.left + 1) s2 rx).1 Lx ≤ inc s Lx - 1 ∧ inc (sendN (s2.left + 1) s2 rx).1 Ly ≤ inc s Ly - 1 ∧ tsum (sendN (s2.left + 1) s2 rx).1 = tsum s + s2.left := by
  have h1 := h.askX hrx
  have h2 := h1.askY hry
  rw [← e2] at h2
  obtain ⟨c2, hc2⟩ := h2.ok
  have ranx := sendN_ran (turnOf s2) s2.left s2 rx rfl (Ph.start hc2 h2.nx h2.hx h2.ob)
  have rany := sendN_ran (turnOf s2) s2.left s2 ry rfl (Ph.start hc2 h2.ny h2.hy h2.ob)
  rw [← sendN_one (s2.left + 1) s2 rx ry] at rany
  obtain ⟨U', h3⟩ := Sec.run s2.left s2 rx ry U rfl h2
  generalize (sendN (s2.left + 1) s2 rx).1 = s3 at *
  generalize (sendN (s2.left + 1) s2 rx).2 = rx3 at *
  generalize (sendN (s2.left + 1) s2 ry).2 = ry3 at *
  have n2 : s2.n = s.n := by rw [e2]; rfl
  have o2 : s2.objs = s.objs := by rw [e2]; rfl
  obtain ⟨la, ata⟩ := asked_at s (rx.items.take 8)
  obtain ⟨lb, atb⟩ := asked_at (s.asked (rx.items.take 8)) (ry.items.take 8)
  rw [← e2] at lb atb
  have hl3 : s3.debts.length = s.debts.length := by
    have := congrArg List.length ranx.pot
    simp [pot] at this
    omega
  have hz := left_owes ranx.left
  have at3 : ∀ i, i < s.debts.length → (debtOf s3 i).o = (debtOf s i).o ∧ (debtOf s3 i).b = (debtOf s i).b ∧ (debtOf s3 i).turn = (debtOf s i).turn + (debtOf s2 i).owes := fun i hi => by
    have q := pot_at (s := s3) (i := i) (by omega)
    rw [ranx.pot, pot_at (by omega)] at q
    simp only [Option.some.injEq, Prod.mk.injEq] at q
    obtain ⟨q1, q2, q3⟩ := q
    obtain ⟨a1, a2, a3⟩ := ata i hi
    obtain ⟨b1, b2, b3⟩ := atb i (by omega)
    have := hz _ (debtOf_mem s3 i (by omega))
    exact ⟨by rw [← q1, b1, a1], by rw [← q2, b2, a2], by omega⟩
  have ob2 : obs s2 = obs s := by rw [e2, asked_obs, asked_obs]
  have k2 : Keys s2 := hk.of n2 o2 ob2
  obtain ⟨c0, hc0⟩ := h.ok
  obtain ⟨c1, hc1⟩ := h1.ok
  have more : ∀ i, i < s.debts.length → (debtOf (s.asked (rx.items.take 8)) i).owes ≤ (debtOf s2 i).owes := fun i hi => by
    rw [e2]
    exact ((fold_three (s.asked (rx.items.take 8)) (ry.items.take 8) (s.asked (rx.items.take 8)).debts).2 i ⟨0, 0, 0, 0⟩ (by omega)).2.2.2
  refine ⟨U', h3, ranx.left, keys_ran k2 ranx.pot ranx.n ranx.objs, by rw [ranx.known, ranx.objs], by rw [rany.known, ranx.objs], ranx.n.trans n2, ranx.objs.trans o2, ?_, ?_, ?_⟩
  · exact inc_less (s := s) (s1 := s) (s2 := s2) hc0 h.ax h.hx hrx h.nx hk kx (fun d hd => (h.tu d hd).1) rfl hl3 (fun i _ => ⟨rfl, rfl, rfl⟩) more at3
  · refine inc_less (s := s) (s1 := s.asked (rx.items.take 8)) (s2 := s2) hc1 h1.ay h1.hy hry h1.ny (hk.of rfl rfl (asked_obs s _)) ky (fun d hd => (h1.tu d hd).1) la hl3 ata (fun i _ => ?_) at3
    rw [e2]; exact Nat.le_refl _
  · have p3 := pots s3
    have p2 := pots s2
    rw [ranx.pot, p2] at p3
    have z3 : (s3.debts.map Db.owes).sum = 0 := by
      have := ranx.left
      unfold St.left at this
      omega
    have t2 : tsum s2 = tsum s := by
      unfold tsum
      rw [e2, asked_turns, asked_turns]
    have := h2.all
    have el : s2.left = (s2.debts.map Db.owes).sum := by unfold St.left; omega
    omega
end
end Sn
end Go.Proofs.Ytkgnmcekeeannab
