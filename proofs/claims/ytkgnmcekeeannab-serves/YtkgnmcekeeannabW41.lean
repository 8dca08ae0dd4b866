import Derived.Test.YtkgnmcekeeannabW40
/-
  What is asked for is owed, and each round brings the end nearer: in plain words.
-/
namespace Go.Proofs.Ytkgnmcekeeannab
namespace Sn
open Ms (txt text M It)
set_option linter.unusedVariables false

theorem due_three (s : St) (t : It) (d : Db) : (due s t d).o = d.o ∧ (due s t d).b = d.b ∧ (due s t d).turn = d.turn ∧ d.owes ≤ (due s t d).owes := by
  by_cases h1 : (d.o : Int) ≠ t.o ∨ (0 < t.c ∧ (d.b : Int) ≠ t.b)
  · unfold due; rw [if_pos h1]; exact ⟨rfl, rfl, rfl, Nat.le_refl _⟩
  · have e : ∃ n : Nat, due s t d = if d.owes < n then { d with owes := n } else d :=
      ⟨if 0 < t.c ∧ t.c < ((s.n.many (objOf s d.o).size d.b : Nat) : Int) then t.c.toNat else s.n.many (objOf s d.o).size d.b, by unfold due; rw [if_neg h1]⟩
    obtain ⟨n, e⟩ := e
    rw [e]
    split
    · exact ⟨rfl, rfl, rfl, by show d.owes ≤ n; omega⟩
    · exact ⟨rfl, rfl, rfl, Nat.le_refl _⟩
theorem fold_three (s : St) : ∀ (l : List It) (ds : List Db), (l.foldl (fun ds t => ds.map (due s t)) ds).length = ds.length ∧ ∀ i (d0 : Db), i < ds.length → ((l.foldl (fun ds t => ds.map (due s t)) ds).getD i d0).o = (ds.getD i d0).o ∧ ((l.foldl (fun ds t => ds.map (due s t)) ds).getD i d0).b = (ds.getD i d0).b ∧ ((l.foldl (fun ds t => ds.map (due s t)) ds).getD i d0).turn = (ds.getD i d0).turn ∧ (ds.getD i d0).owes ≤ ((l.foldl (fun ds t => ds.map (due s t)) ds).getD i d0).owes
  | [], ds => ⟨rfl, fun i d0 hi => ⟨rfl, rfl, rfl, Nat.le_refl _⟩⟩
  | t :: l, ds => by
    obtain ⟨h1, h2⟩ := fold_three s l (ds.map (due s t))
    rw [List.length_map] at h1
    refine ⟨h1, fun i d0 hi => ?_⟩
    obtain ⟨a1, a2, a3, a4⟩ := h2 i d0 (by simpa using hi)
    have e : (ds.map (due s t)).getD i d0 = due s t (ds.getD i d0) := by simp [List.getD_eq_getElem?_getD, hi]
    obtain ⟨b1, b2, b3, b4⟩ := due_three s t (ds.getD i d0)
    rw [e] at a1 a2 a3 a4
    show ((l.foldl (fun ds t => ds.map (due s t)) (ds.map (due s t))).getD i d0).o = _ ∧ _
    exact ⟨a1.trans b1, a2.trans b2, a3.trans b3, Nat.le_trans b4 a4⟩
/-- an item makes its block owe something -/
theorem fold_owes (s : St) (hn : s.n.ok) : ∀ (l : List It) (ds : List Db) (t : It) (i : Nat) (d0 : Db), t ∈ l → i < ds.length → ((ds.getD i d0).o : Int) = t.o → (0 < t.c → ((ds.getD i d0).b : Int) = t.b) → 0 < s.n.many (objOf s (ds.getD i d0).o).size (ds.getD i d0).b → 0 < ((l.foldl (fun ds t => ds.map (due s t)) ds).getD i d0).owes
  | u :: l, ds, t, i, d0, ht, hi, h1, h2, h3 => by
    have e : (ds.map (due s u)).getD i d0 = due s u (ds.getD i d0) := by simp [List.getD_eq_getElem?_getD, hi]
    obtain ⟨b1, b2, b3, b4⟩ := due_three s u (ds.getD i d0)
    show 0 < ((l.foldl (fun ds t => ds.map (due s t)) (ds.map (due s u))).getD i d0).owes
    rcases List.mem_cons.1 ht with q | q
    · subst q
      have hd : 0 < (due s t (ds.getD i d0)).owes := by
        unfold due
        rw [if_neg (by
          rintro (q | ⟨q1, q2⟩)
          · exact q h1
          · exact q2 (h2 q1))]
        simp only []
        by_cases hc : 0 < t.c ∧ t.c < (s.n.many (objOf s (ds.getD i d0).o).size (ds.getD i d0).b : Int)
        · rw [if_pos hc]
          split
          · show 0 < t.c.toNat
            omega
          · omega
        · rw [if_neg hc]
          split
          · exact h3
          · omega
      have := ((fold_three s l (ds.map (due s t))).2 i d0 (by simpa using hi)).2.2.2
      rw [e] at this
      omega
    · refine fold_owes s hn l (ds.map (due s u)) t i d0 q (by simpa using hi) ?_ ?_ ?_
      · rw [e, b1]; exact h1
      · rw [e, b2]; exact h2
      · rw [e, b1, b2]; exact h3
def St.asked (s : St) (l : List It) : St := ⟨s.n, s.objs, dues s l, s.sent⟩
theorem asked_at (s : St) (l : List It) : (s.asked l).debts.length = s.debts.length ∧ ∀ i, i < s.debts.length → (debtOf (s.asked l) i).o = (debtOf s i).o ∧ (debtOf (s.asked l) i).b = (debtOf s i).b ∧ (debtOf (s.asked l) i).turn = (debtOf s i).turn := by
  obtain ⟨h1, h2⟩ := fold_three s l s.debts
  exact ⟨h1, fun i hi => ⟨(h2 i ⟨0, 0, 0, 0⟩ hi).1, (h2 i ⟨0, 0, 0, 0⟩ hi).2.1, (h2 i ⟨0, 0, 0, 0⟩ hi).2.2.1⟩⟩
theorem mem_debtOf {s : St} {d : Db} (h : d ∈ s.debts) : ∃ i, i < s.debts.length ∧ d = debtOf s i := by
  obtain ⟨i, hi, e⟩ := List.getElem_of_mem h
  exact ⟨i, hi, by simp [debtOf, List.getD_eq_getElem?_getD, hi, e]⟩
theorem Ph.asked {s : St} {r : Rt} {T0 : Nat → Nat → Nat} (h : Ph s r T0) (l : List It) : Ph (s.asked l) r T0 := by
  obtain ⟨c, hc⟩ := h.ok
  refine ⟨⟨c, hc.dues l⟩, h.n, h.hon, ?_⟩
  intro d hd t h1 h2
  obtain ⟨i, hi, rfl⟩ := mem_debtOf hd
  obtain ⟨hl, hat⟩ := asked_at s l
  rw [hl] at hi
  obtain ⟨e1, e2, e3⟩ := hat i hi
  rw [e1, e2] at h1
  rw [e3] at h2
  have := h.fp _ (debtOf_mem s i hi) t h1 h2
  rw [e1, e2]
  exact this
theorem asked_obs (s : St) (l : List It) : obs (s.asked l) = obs s := by
  obtain ⟨hl, hat⟩ := asked_at s l
  have hlo : (obs (s.asked l)).length = (obs s).length := by simpa [obs] using hl
  refine List.ext_getElem? (fun i => ?_)
  by_cases hi : i < s.debts.length
  · rw [obs_at (by omega), obs_at hi, (hat i hi).1, (hat i hi).2.1]
  · rw [List.getElem?_eq_none (by simp [obs]; omega), List.getElem?_eq_none (by simp [obs]; omega)]
theorem heard_len {r : Rt} {objs : List ByteArray} (h : HonR r objs) (hsz : ∀ o ∈ objs, 1 ≤ o.size ∧ o.size ≤ 256) {o b num : Nat} (hh : Heard r o b num) : r.len o ≠ 0 := by
  have key : ∀ l : List M, (∀ m ∈ l, 1 ≤ m.len) → (∃ m ∈ l, m.obj = (o : Int)) → 1 ≤ lenIn l o := by
    intro l
    induction l with
    | nil => rintro _ ⟨m, hm, _⟩; cases hm
    | cons x l ih =>
      rintro h1 ⟨m, hm, e⟩
      unfold lenIn
      by_cases q : x.obj = (o : Int)
      · rw [if_pos q]; exact h1 x (by simp)
      · rw [if_neg q]
        rcases List.mem_cons.1 hm with e2 | e2
        · subst e2; exact absurd e q
        · exact ih (fun y hy => h1 y (by simp [hy])) ⟨m, e2, e⟩
  obtain ⟨m, hm, e, _⟩ := hh
  have := key r.heard (fun x hx => by
    obtain ⟨i, b', num', hi, _, _, rfl⟩ := h.hon x hx
    have hm : objs.getD i ⟨#[]⟩ ∈ objs := by
      rw [List.getD_eq_getElem?_getD, List.getElem?_eq_getElem hi]; exact List.getElem_mem hi
    have := (hsz _ hm).1
    show (1 : Int) ≤ (((objs.getD i ⟨#[]⟩).size : Nat) : Int)
    omega) ⟨m, hm, e⟩
  unfold Rt.len
  omega
end Sn
end Go.Proofs.Ytkgnmcekeeannab
/-
  Each round brings the end nearer, and there is an end: in plain words.
-/
namespace Go.Proofs.Ytkgnmcekeeannab
namespace Sn
open Ms (txt text M It)
set_option linter.unusedVariables false

/-- how many symbols a block has, spare ones too -/
def allOf (s : St) (i : Nat) : Nat := s.n.many (objOf s (debtOf s i).o).size (debtOf s i).b + s.n.spare
def mu (s : St) (T0 : Nat → Nat → Nat) : Nat := ((List.range s.debts.length).map (fun i => min ((debtOf s i).turn - T0 (debtOf s i).o (debtOf s i).b) (allOf s i))).sum
theorem pot_at {s : St} {i : Nat} (hi : i < s.debts.length) : (pot s)[i]? = some ((debtOf s i).o, (debtOf s i).b, (debtOf s i).turn + (debtOf s i).owes) := by
  unfold pot
  rw [List.getElem?_map, List.getElem?_eq_getElem hi]
  simp [debtOf, List.getD_eq_getElem?_getD, hi]
theorem blocks_pos' (n : Nm) (hn : n.ok) (len : Nat) (h : 1 ≤ len) : 0 < n.blocks len := by
  obtain ⟨h1, _, h3, _⟩ := hn
  unfold Nm.blocks
  have ha : 1 ≤ n.all len := by
    unfold Nm.all
    exact (Nat.le_div_iff_mul_le (by omega)).2 (by omega)
  exact (Nat.le_div_iff_mul_le (by omega)).2 (by omega)
/-- something lacks: a block that has not been sent all round since T0, and is owed something now -/
theorem asks_some {s : St} {r : Rt} {T0 : Nat → Nat → Nat} (h : Ph s r T0) (hk : Keys s) (hr : r.known = s.objs.length) (hne : r.items ≠ []) :
    ∃ i, i < s.debts.length ∧ 0 < (debtOf (s.asked (r.items.take 8)) i).owes ∧ (debtOf s i).turn - T0 (debtOf s i).o (debtOf s i).b < allOf s i := by
  obtain ⟨c, hc⟩ := h.ok
  have hsz := hc.base.sz
  obtain ⟨t0, rest, ei⟩ := List.exists_cons_of_ne_nil hne
  have ht8 : t0 ∈ r.items.take 8 := by rw [ei]; simp
  have hti : t0 ∈ r.items := List.mem_of_mem_take ht8
  unfold Rt.items at hti
  obtain ⟨o, ho, hlo⟩ := List.mem_flatMap.1 hti
  rw [List.mem_range, hr] at ho
  have hom : objOf s o ∈ s.objs := by
    have e : objOf s o = s.objs[o] := by simp [objOf, List.getD_eq_getElem?_getD, ho]
    rw [e]; exact List.getElem_mem ho
  have hs1 := hsz _ hom
  have key : ∀ b, b < s.n.blocks (objOf s o).size → t0.o = o → (0 < t0.c → t0.b = b) → (¬ ∀ num, num < s.n.many (objOf s o).size b + s.n.spare → Heard r o b num) → ∃ i, i < s.debts.length ∧ 0 < (debtOf (s.asked (r.items.take 8)) i).owes ∧ (debtOf s i).turn - T0 (debtOf s i).o (debtOf s i).b < allOf s i := by
    intro b hb e1 e2 hnot
    obtain ⟨i, hi, k1, k2⟩ := hk o b ho hb
    have hpos := (blocks_many s.n hc.base.nok (objOf s o).size b).2 hb
    refine ⟨i, hi, ?_, ?_⟩
    · have q1 : ((s.debts.getD i ⟨0, 0, 0, 0⟩).o : Int) = t0.o := by rw [e1]; show (((debtOf s i).o : Nat) : Int) = _; rw [k1]
      have q2 : 0 < t0.c → ((s.debts.getD i ⟨0, 0, 0, 0⟩).b : Int) = t0.b := fun hcx => by rw [e2 hcx]; show (((debtOf s i).b : Nat) : Int) = _; rw [k2]
      have q3 : 0 < s.n.many (objOf s (s.debts.getD i ⟨0, 0, 0, 0⟩).o).size (s.debts.getD i ⟨0, 0, 0, 0⟩).b := by
        show 0 < s.n.many (objOf s (debtOf s i).o).size (debtOf s i).b
        rw [k1, k2]; exact hpos
      exact fold_owes s hc.base.nok (r.items.take 8) s.debts t0 i ⟨0, 0, 0, 0⟩ ht8 hi q1 q2 q3
    · by_cases hlt : (debtOf s i).turn - T0 (debtOf s i).o (debtOf s i).b < allOf s i
      · exact hlt
      · exfalso
        apply hnot
        intro num hnum
        have hall : allOf s i = s.n.many (objOf s o).size b + s.n.spare := by unfold allOf; rw [k1, k2]
        rw [hall] at hlt
        obtain ⟨u, u1, u2, u3⟩ := turns_all (s.n.many (objOf s o).size b) s.n.spare (T0 o b) (debtOf s i).turn num hpos hnum (by rw [k1, k2] at hlt; omega)
        have := h.fp _ (debtOf_mem s i hi) u (by rw [k1, k2]; exact u1) u2
        rw [k1, k2, u3] at this
        exact this
  rw [lacks_eq] at hlo
  by_cases h0 : r.len o = 0
  · rw [if_pos h0] at hlo
    have e := List.mem_singleton.1 hlo
    have hb := blocks_pos' s.n hc.base.nok (objOf s o).size hs1.1
    refine key 0 hb (by rw [e]) (fun hcx => by rw [e] at hcx; exact absurd hcx (by show ¬ ((0 : Int) < 0); decide)) (fun hall => ?_)
    have hpos := (blocks_many s.n hc.base.nok (objOf s o).size 0).2 hb
    exact heard_len h.hon hsz (hall 0 (by omega)) h0
  · rw [if_neg h0] at hlo
    unfold lackTo at hlo
    obtain ⟨b, hb, e⟩ := List.mem_filterMap.1 hlo
    rw [List.mem_range] at hb
    unfold lackOf at e
    split at e
    · rename_i hlt
      simp only [Option.some.injEq] at e
      have hlen := (h.hon.hon.len h0).2
      have eo : s.objs.getD o ⟨#[]⟩ = objOf s o := rfl
      rw [hlen, h.n, eo] at hb
      refine key b hb (by rw [← e]) (fun _ => by rw [← e]) (fun hall => ?_)
      have := come_full (r := r) (o := o) (b := b) (fun num hnum => hall num (by rw [hlen, h.n, eo] at hnum; omega))
      omega
    · cases e
/-- since T0 no turn has gone back -/
def Since (s : St) (T0 : Nat → Nat → Nat) : Prop := ∀ i, i < s.debts.length → T0 (debtOf s i).o (debtOf s i).b ≤ (debtOf s i).turn
theorem round_more {s : St} {r : Rt} {T0 : Nat → Nat → Nat} (h : Ph s r T0) (hS : Since s T0) (hk : Keys s) (hr : r.known = s.objs.length) (hne : r.items ≠ []) (s3 : St) (r3 : Rt) (ran : Ran (s.asked (r.items.take 8)) s3 r3 T0 r.taken) : mu s T0 + 1 ≤ mu s3 T0 ∧ Since s3 T0 ∧ Keys s3 ∧ s3.debts.length = s.debts.length ∧ s3.n = s.n ∧ s3.objs = s.objs := by
  obtain ⟨hl2, hat⟩ := asked_at s (r.items.take 8)
  have hl3 : s3.debts.length = s.debts.length := by
    have := congrArg List.length ran.pot
    simp [pot] at this
    rw [this]; exact hl2
  have hz := left_owes ran.left
  have at3 : ∀ i, i < s.debts.length → (debtOf s3 i).o = (debtOf s i).o ∧ (debtOf s3 i).b = (debtOf s i).b ∧ (debtOf s3 i).turn = (debtOf s i).turn + (debtOf (s.asked (r.items.take 8)) i).owes := fun i hi => by
    have q := pot_at (s := s3) (i := i) (by omega)
    rw [ran.pot, pot_at (by omega)] at q
    simp only [Option.some.injEq, Prod.mk.injEq] at q
    obtain ⟨q1, q2, q3⟩ := q
    obtain ⟨e1, e2, e3⟩ := hat i hi
    have := hz _ (debtOf_mem s3 i (by omega))
    exact ⟨by rw [← q1, e1], by rw [← q2, e2], by omega⟩
  have en : s3.n = s.n := ran.n
  have eo : s3.objs = s.objs := ran.objs
  have eall : ∀ i, i < s.debts.length → allOf s3 i = allOf s i := fun i hi => by
    obtain ⟨e1, e2, _⟩ := at3 i hi
    unfold allOf objOf
    rw [e1, e2, en, eo]
  refine ⟨?_, fun i hi => ?_, hk.of en eo ?_, hl3, en, eo⟩
  rotate_left
  · have hi' : i < s.debts.length := by omega
    obtain ⟨e1, e2, e3⟩ := at3 i hi'
    have := hS i hi'
    rw [e1, e2, e3]
    omega
  rotate_left
  · obtain ⟨i, hi, hpos, hlt⟩ := asks_some h hk hr hne
    unfold mu
    rw [hl3]
    refine sum_lt _ _ _ (fun j hj => ?_) ⟨i, List.mem_range.2 hi, ?_⟩
    · rw [List.mem_range] at hj
      obtain ⟨e1, e2, e3⟩ := at3 j hj
      simp only [e1, e2, e3, eall j hj]
      omega
    · obtain ⟨e1, e2, e3⟩ := at3 i hi
      have := hS i hi
      simp only [e1, e2, e3, eall i hi]
      omega
  · refine List.ext_getElem? (fun i => ?_)
    by_cases hi : i < s.debts.length
    · rw [obs_at (by omega), obs_at hi, (at3 i hi).1, (at3 i hi).2.1]
    · rw [List.getElem?_eq_none (by simp [obs]; omega), List.getElem?_eq_none (by simp [obs]; omega)]
theorem mu_le (s : St) (hn : s.n.ok) (T0 : Nat → Nat → Nat) : mu s T0 ≤ s.debts.length * (s.n.block + s.n.spare) := by
  unfold mu
  have h1 : ∀ l : List Nat, (l.map (fun i => min ((debtOf s i).turn - T0 (debtOf s i).o (debtOf s i).b) (allOf s i))).sum ≤ l.length * (s.n.block + s.n.spare) := by
    intro l
    induction l with
    | nil => simp
    | cons i l ih =>
      simp only [List.map_cons, List.sum_cons, List.length_cons, Nat.succ_mul]
      have : allOf s i ≤ s.n.block + s.n.spare := by unfold allOf; have := many_le s.n (objOf s (debtOf s i).o).size (debtOf s i).b; omega
      omega
  have := h1 (List.range s.debts.length)
  rw [List.length_range] at this
  exact this
end Sn
end Go.Proofs.Ytkgnmcekeeannab
/-
  How much is sent at the most, and what the end of the asking means: in plain words.
-/
namespace Go.Proofs.Ytkgnmcekeeannab
namespace Sn
open Ms (txt text M It)
set_option linter.unusedVariables false

theorem items_nil {r : Rt} (h : r.items = []) {o : Nat} (ho : o < r.known) : r.lacks o = [] := by
  unfold Rt.items at h
  rw [List.flatMap_eq_nil_iff] at h
  exact h o (List.mem_range.2 ho)
theorem take_now {r : Rt} (h : r.items = []) (ht : r.taken < r.known) : r.take.2.2 = true := by
  unfold Rt.take
  rw [if_neg]
  rintro (q | q)
  · omega
  · exact q (items_nil h ht)
theorem lenIn_taken (r : Rt) (k : Nat) : ({ r with taken := k } : Rt).items = r.items := rfl
theorem request_empty {r : Rt} : r.request = ⟨#[]⟩ ↔ r.items = [] := by
  unfold Rt.request
  constructor
  · intro h
    by_cases e : r.items = []
    · exact e
    · rw [if_neg e] at h
      have h2 := congrArg ByteArray.size h
      rw [Ms.txt_size] at h2
      have h3 : 2 ≤ (text (reqM (r.items.take 8))).length := by
        unfold text Ms.checked
        simp
      have h4 : (⟨#[]⟩ : ByteArray).size = 0 := rfl
      omega
  · intro h
    rw [if_pos h]
/-- no block is owed more than it has symbols -/
def Owe (s : St) : Prop := ∀ d ∈ s.debts, d.owes ≤ s.n.many (objOf s d.o).size d.b
theorem Owe.fresh (n : Nm) : Owe (St.fresh n) := by intro d hd; simp [St.fresh] at hd
theorem Owe.enq {s : St} {c : Nat} (h : Owe s) (hs : SOkC s c) (o : ByteArray) : Owe (enq s o).1 := by
  unfold Sn.enq
  split
  · exact h
  · split
    · exact h
    · intro d hd
      rcases List.mem_append.1 hd with hx | hx
      · have hd1 := (hs.deb d hx).1
        have := h d hx
        show d.owes ≤ s.n.many (objOf ⟨s.n, s.objs ++ [o], _, s.sent⟩ d.o).size d.b
        rw [objOf_app s o _ _ hd1]
        exact this
      · obtain ⟨b, hb, rfl⟩ := List.mem_map.1 hx
        exact Nat.zero_le _
theorem Owe.nxt {s : St} (h : Owe s) : Owe (nxt s).1 := by
  unfold Sn.nxt
  split
  · rename_i i hi
    obtain ⟨hlt, _⟩ := owing_at hi
    intro d hd
    rcases List.mem_or_eq_of_mem_set hd with hx | hx
    · exact h d hx
    · have := h _ (debtOf_mem s i hlt)
      subst hx
      show (debtOf s i).owes - 1 ≤ s.n.many (objOf s (debtOf s i).o).size (debtOf s i).b
      omega
  · split <;> exact h
theorem Owe.due {s : St} (t : It) (d : Db) (h : d.owes ≤ s.n.many (objOf s d.o).size d.b) : (due s t d).owes ≤ s.n.many (objOf s (due s t d).o).size (due s t d).b := by
  obtain ⟨e1, e2, _, _⟩ := due_three s t d
  rw [e1, e2]
  by_cases h1 : (d.o : Int) ≠ t.o ∨ (0 < t.c ∧ (d.b : Int) ≠ t.b)
  · unfold Sn.due; rw [if_pos h1]; exact h
  · have e : ∃ n : Nat, n ≤ s.n.many (objOf s d.o).size d.b ∧ Sn.due s t d = if d.owes < n then { d with owes := n } else d := by
      refine ⟨if 0 < t.c ∧ t.c < ((s.n.many (objOf s d.o).size d.b : Nat) : Int) then t.c.toNat else s.n.many (objOf s d.o).size d.b, ?_, ?_⟩
      · split <;> omega
      · unfold Sn.due; rw [if_neg h1]
    obtain ⟨n, hn, e⟩ := e
    rw [e]
    split
    · exact hn
    · exact h
theorem Owe.asked {s : St} (h : Owe s) (l : List It) : Owe (s.asked l) := by
  have key : ∀ (l : List It) (ds : List Db), (∀ d ∈ ds, d.owes ≤ s.n.many (objOf s d.o).size d.b) → ∀ d ∈ l.foldl (fun ds t => ds.map (Sn.due s t)) ds, d.owes ≤ s.n.many (objOf s d.o).size d.b := by
    intro l
    induction l with
    | nil => intro ds h; exact h
    | cons t l ih =>
      intro ds h
      exact ih (ds.map (Sn.due s t)) (fun d hd => by
        obtain ⟨x, hx, rfl⟩ := List.mem_map.1 hd
        exact Owe.due t x (h x hx))
  exact key l s.debts h
theorem left_le {s : St} (h : Owe s) : s.left ≤ total s.n s.objs + s.debts.length * s.n.block := by
  have key : ∀ l : List Db, (∀ d ∈ l, d.owes ≤ s.n.many (objOf s d.o).size d.b) → (l.map Db.owes).sum ≤ l.length * s.n.block := by
    intro l
    induction l with
    | nil => intro _; simp
    | cons d l ih =>
      intro h
      have h1 := h d (by simp)
      have h2 := many_le s.n (objOf s d.o).size d.b
      have h3 := ih (fun x hx => h x (by simp [hx]))
      simp only [List.map_cons, List.sum_cons, List.length_cons, Nat.succ_mul]
      omega
  have := key s.debts h
  unfold St.left
  omega
/-- how many blocks all objects have together -/
def totalB (n : Nm) : List ByteArray → Nat
  | [] => 0
  | o :: l => n.blocks o.size + totalB n l
theorem totalB_app (n : Nm) (l : List ByteArray) (o : ByteArray) : totalB n (l ++ [o]) = totalB n l + n.blocks o.size := by
  induction l with
  | nil => simp [totalB]
  | cons x l ih => simp only [List.cons_append, totalB, ih]; omega
theorem debts_enq {s : St} (h : s.debts.length = totalB s.n s.objs) (o : ByteArray) : (enq s o).1.debts.length = totalB (enq s o).1.n (enq s o).1.objs := by
  unfold enq
  split
  · exact h
  · split
    · exact h
    · show (s.debts ++ _).length = totalB s.n (s.objs ++ [o])
      rw [totalB_app, List.length_append, h]
      simp
theorem keys_enq {s : St} {c : Nat} (h : Keys s) (hs : SOkC s c) (o : ByteArray) : Keys (enq s o).1 := by
  unfold enq
  split
  · exact h
  · split
    · exact h
    · intro o' b h1 h2
      have hl : (s.objs ++ [o]).length = s.objs.length + 1 := by simp
      have h1' : o' < s.objs.length + 1 := by rw [← hl]; exact h1
      by_cases e : o' < s.objs.length
      · have h2' : b < s.n.blocks (objOf s o').size := by
          have h3 : b < s.n.blocks (objOf ⟨s.n, s.objs ++ [o], s.debts ++ (List.range (s.n.blocks o.size)).map (fun b => ⟨s.objs.length, b, 0, 0⟩), s.sent⟩ o').size := h2
          rw [objOf_app s o _ _ e] at h3
          exact h3
        obtain ⟨i, hi, k1, k2⟩ := h o' b e h2'
        have q : debtOf ⟨s.n, s.objs ++ [o], s.debts ++ (List.range (s.n.blocks o.size)).map (fun b => ⟨s.objs.length, b, 0, 0⟩), s.sent⟩ i = debtOf s i := by
          unfold debtOf
          simp [List.getD_eq_getElem?_getD, List.getElem?_append_left hi]
        exact ⟨i, by show i < (s.debts ++ _).length; rw [List.length_append]; omega, by rw [q]; exact k1, by rw [q]; exact k2⟩
      · have e2 : o' = s.objs.length := by omega
        subst e2
        have h2' : b < s.n.blocks o.size := by
          have h3 : b < s.n.blocks (objOf ⟨s.n, s.objs ++ [o], s.debts ++ (List.range (s.n.blocks o.size)).map (fun b => ⟨s.objs.length, b, 0, 0⟩), s.sent⟩ s.objs.length).size := h2
          rw [objOf_last s o] at h3
          exact h3
        have q : debtOf ⟨s.n, s.objs ++ [o], s.debts ++ (List.range (s.n.blocks o.size)).map (fun b => ⟨s.objs.length, b, 0, 0⟩), s.sent⟩ (s.debts.length + b) = ⟨s.objs.length, b, 0, 0⟩ := by
          unfold debtOf
          simp [List.getD_eq_getElem?_getD, h2']
        exact ⟨s.debts.length + b, by show _ < (s.debts ++ _).length; rw [List.length_append]; simp; exact h2', by rw [q], by rw [q]⟩
end Sn
end Go.Proofs.Ytkgnmcekeeannab
/-
  Where the last stretch begins: in plain words.
-/
namespace Go.Proofs.Ytkgnmcekeeannab
namespace Sn
open Ms (txt text M It)
set_option linter.unusedVariables false

/-- the turn of a block -/
def turnOf (s : St) (o b : Nat) : Nat := ((s.debts.find? (fun d => decide (d.o = o) && decide (d.b = b))).map Db.turn).getD 0
theorem find_key : ∀ (l : List Db), (l.map (fun d => (d.o, d.b))).Nodup → ∀ d ∈ l, l.find? (fun x => decide (x.o = d.o) && decide (x.b = d.b)) = some d
  | [], _, d, hd => by cases hd
  | x :: l, hn, d, hd => by
    rw [List.map_cons, List.nodup_cons] at hn
    rcases List.mem_cons.1 hd with e | e
    · subst e
      rw [List.find?_cons_of_pos (by simp)]
    · have hne : ¬ (decide (x.o = d.o) && decide (x.b = d.b)) = true := fun q => by
        simp only [Bool.and_eq_true, decide_eq_true_eq] at q
        exact hn.1 (by rw [q.1, q.2]; exact List.mem_map.2 ⟨d, e, rfl⟩)
      have hf : (decide (x.o = d.o) && decide (x.b = d.b)) = false := by simpa using hne
      rw [List.find?_cons]
      simp only [hf]
      exact find_key l hn.2 d e
theorem turnOf_at {s : St} (hn : (obs s).Nodup) {d : Db} (hd : d ∈ s.debts) : turnOf s d.o d.b = d.turn := by
  unfold turnOf
  rw [find_key s.debts hn d hd]; rfl
theorem since_now {s : St} (hn : (obs s).Nodup) : Since s (turnOf s) := fun i hi => by
  rw [turnOf_at hn (debtOf_mem s i hi)]; exact Nat.le_refl _
theorem fp_now {s : St} (hn : (obs s).Nodup) (r : Rt) : FP s r (turnOf s) := fun d hd t h1 h2 => by
  rw [turnOf_at hn hd] at h1
  omega
theorem obs_new (n : Nm) : (obs (St.fresh n)).Nodup := by simp [obs, St.fresh]
theorem obs_enq {s : St} {c : Nat} (h : (obs s).Nodup) (hs : SOkC s c) (o : ByteArray) : (obs (enq s o).1).Nodup := by
  unfold enq
  split
  · exact h
  · split
    · exact h
    · show ((s.debts ++ (List.range (s.n.blocks o.size)).map (fun b => (⟨s.objs.length, b, 0, 0⟩ : Db))).map (fun d => (d.o, d.b))).Nodup
      rw [List.map_append, List.map_map, List.nodup_append]
      refine ⟨h, ?_, ?_⟩
      · have hnd := List.nodup_range (n := s.n.blocks o.size)
        rw [List.nodup_iff_pairwise_ne] at hnd ⊢
        rw [List.pairwise_map]
        exact hnd.imp (fun q e => q (by simpa using e))
      · intro p hp q hq e
        obtain ⟨d, hd, rfl⟩ := List.mem_map.1 hp
        obtain ⟨b, _, rfl⟩ := List.mem_map.1 hq
        have h1 := (hs.deb d hd).1
        have h2 : d.o = s.objs.length := (Prod.mk.inj e).1
        omega
theorem obs_nxt (s : St) : obs (nxt s).1 = obs s := by rw [obs_pot, obs_pot, nxt_pot]
/-- the last stretch, from any honest state -/
theorem Ph.start {s : St} {r : Rt} {c : Nat} (hs : SOkC s c) (hn : r.n = s.n) (hh : HonR r s.objs) (hk : (obs s).Nodup) : Ph s r (turnOf s) := ⟨⟨c, hs⟩, hn, hh, fp_now hk r⟩
theorem pot_since {s s' : St} {T0 : Nat → Nat → Nat} (h : Since s T0) (hl : s'.left = 0) (hp : pot s' = pot s) : Since s' T0 := by
  intro i hi
  have hlen : s'.debts.length = s.debts.length := by have := congrArg List.length hp; simpa [pot] using this
  have q := pot_at hi
  rw [hp, pot_at (by omega)] at q
  simp only [Option.some.injEq, Prod.mk.injEq] at q
  obtain ⟨q1, q2, q3⟩ := q
  have hz := left_owes hl _ (debtOf_mem s' i hi)
  have := h i (by omega)
  rw [← q1, ← q2]
  omega
theorem keys_ran {s s' : St} (h : Keys s) (hp : pot s' = pot s) (hn : s'.n = s.n) (ho : s'.objs = s.objs) : Keys s' := h.of hn ho (by rw [obs_pot, obs_pot, hp])
end Sn
end Go.Proofs.Ytkgnmcekeeannab
