import Derived.Test.YtkgnmcekeeannabW31
import Derived.Test.YtkgnmcekeeannabW37
/-
  The two senders in plain words, side by side: the reference's and the landed one.
-/
namespace Go.Proofs.Ytkgnmcekeeannab
namespace Sn
open Ms (It txt text itOK)
set_option linter.unusedVariables false

/-- the blocks, one behind the other -/
def keys (n : Nm) : Nat → List ByteArray → List (Nat × Nat)
  | _, [] => []
  | i, o :: l => (List.range (n.blocks o.size)).map (fun b => (i, b)) ++ keys n (i + 1) l
def mkD (ow T : Nat → Nat → Nat) (p : Nat × Nat) : Db := ⟨p.1, p.2, ow p.1 p.2, T p.1 p.2⟩
def dl (n : Nm) (ow T : Nat → Nat → Nat) (objs : List ByteArray) : List Db := (keys n 0 objs).map (mkD ow T)
theorem keys_append (n : Nm) (l : List ByteArray) (o : ByteArray) : ∀ i, keys n i (l ++ [o]) = keys n i l ++ (List.range (n.blocks o.size)).map (fun b => (i + l.length, b)) := by
  induction l with
  | nil => intro i; simp [keys]
  | cons x l ih => intro i; simp only [List.cons_append, keys, ih, List.append_assoc, List.length_cons]; rw [show i + 1 + l.length = i + (l.length + 1) from by omega]
theorem keys_mem (n : Nm) (l : List ByteArray) : ∀ (i : Nat) (p : Nat × Nat), p ∈ keys n i l ↔ ∃ j, p.1 = i + j ∧ j < l.length ∧ p.2 < n.blocks (l.getD j ⟨#[]⟩).size := by
  induction l with
  | nil => intro i p; simp [keys]
  | cons x l ih =>
    intro i p
    simp only [keys, List.mem_append, List.mem_map, List.mem_range, ih]
    constructor
    · rintro (⟨b, hb, rfl⟩ | ⟨j, h1, h2, h3⟩)
      · exact ⟨0, rfl, by simp, by simpa using hb⟩
      · exact ⟨j + 1, by omega, by simpa using h2, by simpa using h3⟩
    · rintro ⟨j, h1, h2, h3⟩
      cases j with
      | zero => exact .inl ⟨p.2, by simpa using h3, by rw [← Nat.add_zero i, ← h1]⟩
      | succ j => exact .inr ⟨j, by omega, by simpa using h2, by simpa using h3⟩
def lexLt (p q : Nat × Nat) : Prop := p.1 < q.1 ∨ (p.1 = q.1 ∧ p.2 < q.2)
theorem keys_lex (n : Nm) (l : List ByteArray) : ∀ i, (keys n i l).Pairwise lexLt := by
  induction l with
  | nil => intro i; simp [keys]
  | cons x l ih =>
    intro i
    simp only [keys]
    rw [List.pairwise_append]
    refine ⟨?_, ih (i + 1), ?_⟩
    · rw [List.pairwise_map]
      exact List.pairwise_lt_range.imp (fun h => .inr ⟨rfl, h⟩)
    · intro p hp q hq
      obtain ⟨b, _, rfl⟩ := List.mem_map.1 hp
      obtain ⟨j, h1, _, _⟩ := (keys_mem n l (i + 1) q).1 hq
      exact .inl (by show i < q.1; omega)
theorem keys_split (n : Nm) (l : List ByteArray) (p : Nat × Nat) (h : p ∈ keys n 0 l) : ∃ pre post, keys n 0 l = pre ++ p :: post ∧ (∀ q ∈ pre, lexLt q p) ∧ (∀ q ∈ post, lexLt p q) := by
  obtain ⟨pre, post, e⟩ := List.append_of_mem h
  have hp := keys_lex n l 0
  rw [e, List.pairwise_append] at hp
  obtain ⟨_, h2, h3⟩ := hp
  rw [List.pairwise_cons] at h2
  exact ⟨pre, post, e, fun q hq => h3 q hq p (by simp), fun q hq => h2.1 q hq⟩
theorem dl_congr {n : Nm} {ow T ow' T' : Nat → Nat → Nat} {objs : List ByteArray} (h : ∀ i b, i < objs.length → b < n.blocks (objs.getD i ⟨#[]⟩).size → ow i b = ow' i b ∧ T i b = T' i b) : dl n ow T objs = dl n ow' T' objs := by
  unfold dl
  refine List.map_congr_left (fun p hp => ?_)
  obtain ⟨j, h1, h2, h3⟩ := (keys_mem n objs 0 p).1 hp
  rw [Nat.zero_add] at h1
  subst h1
  obtain ⟨e1, e2⟩ := h p.1 p.2 h2 h3
  unfold mkD
  rw [e1, e2]
theorem dl_map {n : Nm} {ow T ow' : Nat → Nat → Nat} {objs : List ByteArray} (f : Db → Db) (h : ∀ i b, i < objs.length → b < n.blocks (objs.getD i ⟨#[]⟩).size → f ⟨i, b, ow i b, T i b⟩ = ⟨i, b, ow' i b, T i b⟩) : (dl n ow T objs).map f = dl n ow' T objs := by
  unfold dl
  rw [List.map_map]
  refine List.map_congr_left (fun p hp => ?_)
  obtain ⟨j, h1, h2, h3⟩ := (keys_mem n objs 0 p).1 hp
  rw [Nat.zero_add] at h1
  subst h1
  exact h p.1 p.2 h2 h3

/-! ### the symbols in their order -/
def sumAll (n : Nm) : List ByteArray → Nat
  | [] => 0
  | o :: l => n.all o.size + sumAll n l
theorem sumAll_append (n : Nm) (a b : List ByteArray) : sumAll n (a ++ b) = sumAll n a + sumAll n b := by
  induction a with
  | nil => simp [sumAll]
  | cons o a ih => simp only [List.cons_append, sumAll, ih]; omega
theorem sumAll_take (n : Nm) (l : List ByteArray) (j : Nat) (h : j < l.length) : sumAll n (l.take (j + 1)) = sumAll n (l.take j) + n.all (l.getD j ⟨#[]⟩).size := by
  rw [List.take_add_one, sumAll_append]
  simp [h, sumAll, List.getD_eq_getElem?_getD]
theorem order_at (n : Nm) (l : List ByteArray) : ∀ i no left, no < l.length → left < n.all (l.getD no ⟨#[]⟩).size → order n l i (sumAll n (l.take no) + left) = some (i + no, left) := by
  induction l with
  | nil => intro i no left h; simp at h
  | cons o l ih =>
    intro i no left h1 h2
    cases no with
    | zero =>
      simp only [List.take_zero, sumAll, Nat.zero_add, order]
      rw [if_pos (by simpa using h2), Nat.add_zero]
    | succ no =>
      simp only [List.take_succ_cons, sumAll, order]
      rw [if_neg (by omega), show n.all o.size + sumAll n (l.take no) + left - n.all o.size = sumAll n (l.take no) + left from by omega, ih (i + 1) no left (by simpa using h1) (by simpa using h2)]
      rw [show i + 1 + no = i + (no + 1) from by omega]
theorem order_end (n : Nm) (l : List ByteArray) : ∀ i, order n l i (sumAll n l) = none := by
  induction l with
  | nil => intro i; rfl
  | cons o l ih =>
    intro i
    have e : sumAll n (o :: l) = n.all o.size + sumAll n l := rfl
    rw [e]
    simp only [order]
    rw [if_neg (by omega), show n.all o.size + sumAll n l - n.all o.size = sumAll n l from by omega]
    exact ih (i + 1)
/-- the place of the next symbol -/
def Pl (n : Nm) (objs : List ByteArray) (sent no nb nn : Nat) : Prop :=
  (no < objs.length ∧ nb < n.blocks (objs.getD no ⟨#[]⟩).size ∧ nn < n.many (objs.getD no ⟨#[]⟩).size nb ∧ sent = sumAll n (objs.take no) + (nb * n.block + nn)) ∨
  (no = objs.length ∧ nb = 0 ∧ nn = 0 ∧ sent = sumAll n objs)
theorem blocks_pos (n : Nm) (hn : n.ok) (len : Nat) (h : 1 ≤ len) : 0 < n.blocks len := by
  obtain ⟨h1, _, h3, _⟩ := hn
  unfold Nm.blocks
  have ha : 1 ≤ n.all len := by
    unfold Nm.all
    exact (Nat.le_div_iff_mul_le (by omega)).2 (by omega)
  exact (Nat.le_div_iff_mul_le (by omega)).2 (by omega)
structure Rel (s : St) (l : LS) (T : Nat → Nat → Nat) : Prop where
  n : l.n = s.n
  objs : l.objs = s.objs
  debts : s.debts = dl s.n l.ow T s.objs
  tu : ∀ i b, i < s.objs.length → b < s.n.blocks (objOf s i).size → l.tu i b = T i b % (s.n.many (objOf s i).size b + s.n.spare)
  pl : Pl s.n s.objs s.sent l.no l.nb l.nn
theorem sz_at {s : St} (h : SOk s) {i : Nat} (hi : i < s.objs.length) : 1 ≤ (objOf s i).size ∧ (objOf s i).size ≤ 256 := by
  have e : objOf s i = s.objs[i] := by simp [objOf, List.getD_eq_getElem?_getD, hi]
  rw [e]; exact h.sz _ (List.getElem_mem hi)
theorem Rel.ok2 {s : St} {l : LS} {T : Nat → Nat → Nat} {c : Nat} (h : Rel s l T) (hs : SOkC s c) : LOk2 l := by
  obtain ⟨n, objs, ow, tu, no, nb, nn⟩ := l
  obtain ⟨rfl, rfl, hd, ht, hp⟩ := h
  simp only at hd ht hp
  have hb : LOk ⟨s.n, s.objs, ow, tu, no, nb, nn⟩ := ⟨hs.base.nok, hs.base.len, fun i hi => sz_at hs.base hi⟩
  refine ⟨hb, fun i b hi hbb => ?_, fun i b hi hbb => ?_, fun hno => ?_⟩
  · have hm : mkD ow T (i, b) ∈ s.debts := by
      rw [hd]
      exact List.mem_map.2 ⟨(i, b), (keys_mem s.n s.objs 0 (i, b)).2 ⟨i, (Nat.zero_add _).symm, hi, hbb⟩, rfl⟩
    exact (hs.deb _ hm).2.2.2.1
  · show tu i b < _
    rw [ht i b hi hbb]
    exact Nat.mod_lt _ (by have := many_pos s.n hs.base.nok _ _ (show b < s.n.blocks (objOf s i).size from hbb); omega)
  · rcases hp with ⟨_, h2, h3, _⟩ | ⟨h1, _⟩
    · exact ⟨h2, h3⟩
    · exact absurd hno (by show ¬ no < s.objs.length; omega)
theorem Rel.new (n : Nm) : Rel (St.fresh n) (LS.fresh n) (fun _ _ => 0) :=
  ⟨rfl, rfl, rfl, fun i b hi => by simp [St.fresh] at hi, .inr ⟨rfl, rfl, rfl, rfl⟩⟩
theorem getD_app (l : List ByteArray) (o : ByteArray) (i : Nat) (h : i < l.length) : (l ++ [o]).getD i ⟨#[]⟩ = l.getD i ⟨#[]⟩ := by
  simp [List.getD_eq_getElem?_getD, List.getElem?_append_left h]
theorem getD_last (l : List ByteArray) (o : ByteArray) : (l ++ [o]).getD l.length ⟨#[]⟩ = o := by
  simp [List.getD_eq_getElem?_getD]
theorem Rel.enq {s : St} {l : LS} {T : Nat → Nat → Nat} {c : Nat} (h : Rel s l T) (hs : SOkC s c) (o : ByteArray) : (l.enq o).2 = (enq s o).2 ∧ ∃ T', Rel (enq s o).1 (l.enq o).1 T' := by
  obtain ⟨n, objs, ow, tu, no, nb, nn⟩ := l
  obtain ⟨rfl, rfl, hd, ht, hp⟩ := h
  simp only at hd ht hp
  have hl := hs.base.len
  unfold Sn.enq LS.enq
  by_cases h1 : o.size = 0 ∨ 256 < o.size
  · rw [if_pos h1, if_pos h1]
    exact ⟨rfl, T, rfl, rfl, hd, ht, hp⟩
  · rw [if_neg h1, if_neg h1]
    by_cases h2 : s.objs.length = 8
    · rw [if_pos h2, if_pos (by show 8 ≤ s.objs.length; omega)]
      exact ⟨rfl, T, rfl, rfl, hd, ht, hp⟩
    · rw [if_neg h2, if_neg (by show ¬ 8 ≤ s.objs.length; omega)]
      refine ⟨rfl, fun i b => if i = s.objs.length then 0 else T i b, rfl, rfl, ?_, ?_, ?_⟩
      · show s.debts ++ _ = dl s.n (fun i b => if i = s.objs.length then 0 else ow i b) _ (s.objs ++ [o])
        unfold dl
        rw [keys_append, List.map_append, Nat.zero_add]
        congr 1
        · rw [hd]
          exact dl_congr (fun i b hi _ => by rw [if_neg (by omega), if_neg (by omega)]; exact ⟨rfl, rfl⟩)
        · rw [List.map_map]
          refine List.map_congr_left (fun b hb => ?_)
          simp [mkD]
      · intro i b hi hb
        have hi' : i < s.objs.length + 1 := by simpa using hi
        by_cases e : i = s.objs.length
        · subst e
          show (if _ then _ else _) = (if _ then _ else _) % _
          rw [if_pos rfl, if_pos rfl, Nat.zero_mod]
        · show (if _ then _ else _) = (if _ then _ else _) % _
          rw [if_neg e, if_neg e]
          have e2 : (objOf ⟨s.n, s.objs ++ [o], s.debts ++ (List.range (s.n.blocks o.size)).map (fun b => ⟨s.objs.length, b, 0, 0⟩), s.sent⟩ i) = objOf s i := getD_app _ _ _ (by omega)
          rw [e2] at hb ⊢
          exact ht i b (by omega) hb
      · rcases hp with ⟨p1, p2, p3, p4⟩ | ⟨p1, p2, p3, p4⟩
        · refine .inl ⟨by simp; omega, ?_, ?_, ?_⟩
          · show nb < s.n.blocks ((s.objs ++ [o]).getD no ⟨#[]⟩).size
            rw [getD_app _ _ _ p1]; exact p2
          · show nn < s.n.many ((s.objs ++ [o]).getD no ⟨#[]⟩).size nb
            rw [getD_app _ _ _ p1]; exact p3
          · show s.sent = sumAll s.n ((s.objs ++ [o]).take no) + _
            rw [List.take_append_of_le_length (by omega)]; exact p4
        · have hbp := blocks_pos s.n hs.base.nok o.size (by omega)
          refine .inl ⟨by simp; omega, ?_, ?_, ?_⟩
          · show nb < s.n.blocks ((s.objs ++ [o]).getD no ⟨#[]⟩).size
            rw [p1, getD_last, p2]; exact hbp
          · show nn < s.n.many ((s.objs ++ [o]).getD no ⟨#[]⟩).size nb
            rw [p1, getD_last, p2, p3]; exact many_pos s.n hs.base.nok _ _ hbp
          · show s.sent = sumAll s.n ((s.objs ++ [o]).take no) + (nb * s.n.block + nn)
            rw [p1, List.take_left', p2, p3, p4]; omega
            rfl
theorem owing_split (pre post : List Db) (d : Db) (h0 : ∀ x ∈ pre, x.owes = 0) (hd : 0 < d.owes) : owing (pre ++ d :: post) = some pre.length := by
  unfold owing
  rw [List.findIdx?_eq_some_iff_getElem]
  refine ⟨by simp, by simp [hd], fun j hj => ?_⟩
  rw [List.getElem_append_left hj, h0 _ (List.getElem_mem hj)]
  simp
theorem owing_no (l : List Db) (h : ∀ x ∈ l, x.owes = 0) : owing l = none := by
  unfold owing
  rw [List.findIdx?_eq_none_iff]
  intro x hx
  rw [h x hx]; rfl
theorem pay_num (k sp t : Nat) (hk : 0 < k) : (if t % (k + sp) < sp then k + t % (k + sp) else t % (k + sp) - sp) = (k + t) % (k + sp) := by
  have hlt : t % (k + sp) < k + sp := Nat.mod_lt _ (by omega)
  rw [← Nat.add_mod_mod k t (k + sp)]
  generalize t % (k + sp) = u at *
  split
  · rw [Nat.mod_eq_of_lt (by omega)]
  · rw [Nat.mod_eq_sub_mod (by omega), Nat.mod_eq_of_lt (by omega)]; omega
theorem pay_turn (A t : Nat) (hA : 0 < A) : (if t % A + 1 < A then t % A + 1 else 0) = (t + 1) % A := by
  have hlt : t % A < A := Nat.mod_lt _ hA
  rw [← Nat.mod_add_mod t A 1]
  generalize t % A = u at *
  split
  · rw [Nat.mod_eq_of_lt (by omega)]
  · have : u + 1 = A := by omega
    rw [this, Nat.mod_self]
theorem Pl.step {n : Nm} (hn : n.ok) {objs : List ByteArray} (hsz : ∀ i, i < objs.length → 1 ≤ (objs.getD i ⟨#[]⟩).size) {ow tu : Nat → Nat → Nat} {sent no nb nn : Nat} (hno : no < objs.length) (h : Pl n objs sent no nb nn) :
    Pl n objs (sent + 1) (LS.step ⟨n, objs, ow, tu, no, nb, nn⟩).no (LS.step ⟨n, objs, ow, tu, no, nb, nn⟩).nb (LS.step ⟨n, objs, ow, tu, no, nb, nn⟩).nn := by
  rcases h with ⟨p1, p2, p3, p4⟩ | ⟨p1, _⟩
  · have mc := many_cases n hn (objs.getD no ⟨#[]⟩).size nb
    rw [if_pos p2] at mc
    have hbt : nb * n.block < n.all (objs.getD no ⟨#[]⟩).size := by
      have := many_pos n hn _ _ p2
      unfold Nm.many at this
      omega
    by_cases h1 : nn + 1 < n.many (objs.getD no ⟨#[]⟩).size nb
    · have e : LS.step ⟨n, objs, ow, tu, no, nb, nn⟩ = ⟨n, objs, ow, tu, no, nb, nn + 1⟩ := if_pos h1
      rw [e]
      show Pl n objs (sent + 1) no nb (nn + 1)
      exact .inl ⟨p1, p2, h1, by rw [p4]; omega⟩
    · by_cases h2 : nb + 1 < n.blocks (objs.getD no ⟨#[]⟩).size
      · have e : LS.step ⟨n, objs, ow, tu, no, nb, nn⟩ = ⟨n, objs, ow, tu, no, nb + 1, 0⟩ := (if_neg h1).trans (if_pos h2)
        rw [e]
        show Pl n objs (sent + 1) no (nb + 1) 0
        rw [if_pos h2] at mc
        refine .inl ⟨p1, h2, many_pos n hn _ _ h2, ?_⟩
        rw [p4, Nat.succ_mul]; omega
      · have e : LS.step ⟨n, objs, ow, tu, no, nb, nn⟩ = ⟨n, objs, ow, tu, no + 1, 0, 0⟩ := (if_neg h1).trans (if_neg h2)
        rw [e]
        show Pl n objs (sent + 1) (no + 1) 0 0
        rw [if_neg h2] at mc
        have hs : sent + 1 = sumAll n (objs.take (no + 1)) := by
          rw [sumAll_take n objs no p1, p4]; omega
        by_cases h3 : no + 1 < objs.length
        · have hb := blocks_pos n hn _ (hsz (no + 1) h3)
          exact .inl ⟨h3, hb, many_pos n hn _ _ hb, by rw [hs]; omega⟩
        · have e : no + 1 = objs.length := by omega
          exact .inr ⟨e, rfl, rfl, by rw [hs, e, List.take_length]⟩
  · omega
theorem upd_other {f : Nat → Nat → Nat} {i b v : Nat} {p : Nat × Nat} (h : p ≠ (i, b)) : upd f i b v p.1 p.2 = f p.1 p.2 := by
  unfold upd
  rw [if_neg (fun e => h (Prod.ext e.1 e.2))]
theorem upd_at (f : Nat → Nat → Nat) (i b v : Nat) : upd f i b v i b = v := by unfold upd; rw [if_pos ⟨rfl, rfl⟩]
theorem lex_ne {p q : Nat × Nat} (h : lexLt p q) : p ≠ q := fun e => by subst e; rcases h with h | h <;> omega
theorem Rel.nxt {s : St} {l l' : LS} {T : Nat → Nat → Nat} {c : Nat} {e : Go.Ending} (h : Rel s l T) (hs : SOkC s c) (ho : NextOut l l' e) : e = .returned (.string (nxt s).2) ∧ ∃ T', Rel (nxt s).1 l' T' := by
  obtain ⟨n, objs, ow, tu, no, nb, nn⟩ := l
  obtain ⟨rfl, rfl, hd, ht, hp⟩ := h
  simp only at hd ht hp
  rcases ho with ⟨i, b, ⟨hi, hb, how, hz1, hz2⟩, rfl, rfl⟩ | ⟨hz, hno, rfl, rfl⟩ | ⟨hz, hno, rfl, rfl⟩
  · simp only at hi
    have hbk : b < s.n.blocks (objOf s i).size := hb
    obtain ⟨pre, post, ek, hpre, hpost⟩ := keys_split s.n s.objs (i, b) ((keys_mem s.n s.objs 0 (i, b)).2 ⟨i, (Nat.zero_add _).symm, hi, hb⟩)
    have ed : s.debts = pre.map (mkD ow T) ++ mkD ow T (i, b) :: post.map (mkD ow T) := by rw [hd]; unfold dl; rw [ek]; simp
    have eo : owing s.debts = some (pre.map (mkD ow T)).length := by
      rw [ed]
      refine owing_split _ _ _ (fun x hx => ?_) how
      obtain ⟨q, hq, rfl⟩ := List.mem_map.1 hx
      have hqk : q ∈ keys s.n 0 s.objs := by rw [ek]; simp [hq]
      obtain ⟨j, j1, j2, j3⟩ := (keys_mem s.n s.objs 0 q).1 hqk
      rw [Nat.zero_add] at j1
      subst j1
      rcases hpre q hq with h | ⟨h, h'⟩
      · exact hz2 q.1 h q.2 j3
      · show ow q.1 q.2 = 0
        simp only at h h'
        rw [h]; exact hz1 q.2 h'
    have eg : debtOf s (pre.map (mkD ow T)).length = mkD ow T (i, b) := by
      unfold debtOf
      rw [ed, List.getD_eq_getElem?_getD, List.getElem?_append_right (Nat.le_refl _)]
      simp
    have hk : 0 < s.n.many (objOf s i).size b := many_pos s.n hs.base.nok _ _ hbk
    have htu : tu i b = T i b % (s.n.many (objOf s i).size b + s.n.spare) := ht i b hi hbk
    unfold Sn.nxt
    rw [eo]
    simp only [eg]
    constructor
    · have en : LS.payNum ⟨s.n, s.objs, ow, tu, no, nb, nn⟩ i b = (s.n.many (objOf s i).size b + T i b) % (s.n.many (objOf s i).size b + s.n.spare) := by
        show (if tu i b < s.n.spare then s.n.many (objOf s i).size b + tu i b else tu i b - s.n.spare) = _
        rw [htu]
        exact pay_num _ _ _ hk
      rw [en]
      rfl
    · refine ⟨upd T i b (T i b + 1), rfl, rfl, ?_, ?_, hp⟩
      · show s.debts.set _ _ = dl s.n (upd ow i b (ow i b - 1)) (upd T i b (T i b + 1)) s.objs
        have e1 : ∀ q, q ≠ (i, b) → mkD (upd ow i b (ow i b - 1)) (upd T i b (T i b + 1)) q = mkD ow T q := fun q hq => by
          unfold mkD
          rw [upd_other hq, upd_other hq]
        unfold dl
        rw [ek, List.map_append, List.map_cons, List.map_congr_left (fun q hq => e1 q (lex_ne (hpre q hq))), List.map_congr_left (fun q hq => e1 q (Ne.symm (lex_ne (hpost q hq)))), ed]
        rw [List.set_append_right _ _ (Nat.le_refl _), Nat.sub_self, List.set_cons_zero]
        congr 2
        unfold mkD
        rw [upd_at, upd_at]
      · intro i' b' hi' hb'
        show upd tu i b _ i' b' = upd T i b _ i' b' % _
        by_cases e : (i', b') = (i, b)
        · obtain ⟨rfl, rfl⟩ := Prod.mk.inj e
          rw [upd_at, upd_at]
          show (if tu i' b' + 1 < s.n.many (objOf s i').size b' + s.n.spare then tu i' b' + 1 else 0) = _
          rw [htu]
          exact pay_turn _ _ (by omega)
        · rw [upd_other (p := (i', b')) e, upd_other (p := (i', b')) e]
          exact ht i' b' hi' hb'
  all_goals
    have hz' : ∀ i', i' < s.objs.length → ∀ b', b' < s.n.blocks (objOf s i').size → ow i' b' = 0 := hz
    have eo : owing s.debts = none := owing_no _ (fun x hx => by
      rw [hd] at hx
      obtain ⟨q, hq, rfl⟩ := List.mem_map.1 hx
      obtain ⟨j, j1, j2, j3⟩ := (keys_mem s.n s.objs 0 q).1 hq
      rw [Nat.zero_add] at j1
      subst j1
      exact hz' q.1 j2 q.2 j3)
    simp only at hno
  · have hp0 := hp
    rcases hp with ⟨p1, p2, p3, p4⟩ | ⟨p1, _⟩
    · have hle := many_le s.n (objOf s no).size nb
      have p3' : nn < s.n.many (objOf s no).size nb := p3
      have hlt : nb * s.n.block + nn < s.n.all (s.objs.getD no ⟨#[]⟩).size := by
        unfold Nm.many at p3; omega
      have hblk := hs.base.nok.2.2.1
      have er : order s.n s.objs 0 s.sent = some (no, nb * s.n.block + nn) := by
        rw [p4, order_at s.n s.objs 0 no _ p1 hlt, Nat.zero_add]
      have e1 : (nb * s.n.block + nn) / s.n.block = nb := by rw [Nat.mul_comm, Nat.mul_add_div (by omega), Nat.div_eq_of_lt (by omega)]; omega
      have e2 : (nb * s.n.block + nn) % s.n.block = nn := by rw [Nat.mul_comm, Nat.mul_add_mod, Nat.mod_eq_of_lt (by omega)]
      unfold Sn.nxt
      rw [eo]
      simp only [er, e1, e2]
      refine ⟨rfl, T, ?_, ?_, ?_, ?_, ?_⟩
      · exact (step_eqs _).1
      · exact (step_eqs _).2.1
      · rw [(step_eqs _).2.2.1]; exact hd
      · rw [(step_eqs _).2.2.2]; exact ht
      · exact Pl.step hs.base.nok (fun i hi => (sz_at hs.base hi).1) p1 hp0
    · omega
  · rcases hp with ⟨p1, _⟩ | ⟨p1, p2, p3, p4⟩
    · omega
    · have er : order s.n s.objs 0 s.sent = none := by rw [p4]; exact order_end s.n s.objs 0
      unfold Sn.nxt
      rw [eo]
      simp only [er]
      exact ⟨by trivial, T, rfl, rfl, hd, ht, .inr ⟨p1, p2, p3, p4⟩⟩
theorem Rel.one {s : St} {n : Nm} {objs : List ByteArray} {ow tu T : Nat → Nat → Nat} {no nb nn : Nat} (hk : s.n.ok) (hn : n = s.n) (ho : objs = s.objs) (t : It) (o b c : Nat) (e1 : t.o = o) (e2 : t.b = b) (e3 : t.c = c) :
    (dl s.n ow T s.objs).map (due s t) = dl s.n (LS.ans ⟨n, objs, ow, tu, no, nb, nn⟩ o b c).ow T s.objs := by
  subst hn ho
  refine dl_map _ (fun i j hi hj => ?_)
  have hk8 : s.n.many (objOf s i).size j ≤ 8 := by
    have := many_le s.n (objOf s i).size j
    have := hk.2.2.2.1
    omega
  have hj' : j < s.n.blocks (objOf s i).size := hj
  have same : (LS.ans ⟨s.n, s.objs, ow, tu, no, nb, nn⟩ o b c).ow i j = ow i j → ((i : Int) ≠ t.o ∨ (0 < t.c ∧ (j : Int) ≠ t.b)) → due s t ⟨i, j, ow i j, T i j⟩ = ⟨i, j, (LS.ans ⟨s.n, s.objs, ow, tu, no, nb, nn⟩ o b c).ow i j, T i j⟩ := fun h1 h2 => by
    rw [h1, due_skip s t _ h2]
  have asked : ∀ v, (LS.ans ⟨s.n, s.objs, ow, tu, no, nb, nn⟩ o b c).ow i j = max (ow i j) v → askN (s.n.many (objOf s i).size j) t = v → ¬ ((i : Int) ≠ t.o ∨ (0 < t.c ∧ (j : Int) ≠ t.b)) → due s t ⟨i, j, ow i j, T i j⟩ = ⟨i, j, (LS.ans ⟨s.n, s.objs, ow, tu, no, nb, nn⟩ o b c).ow i j, T i j⟩ := fun v h1 h2 h3 => by
    rw [h1, due_ask s t _ h3]
    show (if ow i j < askN (s.n.many (objOf s i).size j) t then (⟨i, j, askN (s.n.many (objOf s i).size j) t, T i j⟩ : Db) else ⟨i, j, ow i j, T i j⟩) = _
    rw [h2]
    split
    · rw [Nat.max_eq_right (by omega)]
    · rw [Nat.max_eq_left (by omega)]
  by_cases h1 : s.objs.length ≤ o
  · have ea : LS.ans ⟨s.n, s.objs, ow, tu, no, nb, nn⟩ o b c = ⟨s.n, s.objs, ow, tu, no, nb, nn⟩ := if_pos h1
    exact same (by rw [ea]) (.inl (by rw [e1]; omega))
  · by_cases h2 : 0 < c
    · by_cases h3 : b < s.n.blocks (objOf s o).size
      · have ea : LS.ans ⟨s.n, s.objs, ow, tu, no, nb, nn⟩ o b c = LS.owed ⟨s.n, s.objs, ow, tu, no, nb, nn⟩ o b c := (if_neg h1).trans ((if_pos h2).trans (if_pos h3))
        by_cases h4 : (i, j) = (o, b)
        · obtain ⟨rfl, rfl⟩ := Prod.mk.inj h4
          refine asked (min c (s.n.many (objOf s i).size j)) ?_ ?_ ?_
          · rw [ea]; exact upd_at _ _ _ _
          · unfold askN; rw [e3]
            split <;> omega
          · rw [e1, e2]; omega
        · refine same ?_ ?_
          · rw [ea]; exact upd_other (p := (i, j)) h4
          · by_cases e : i = o
            · exact .inr ⟨by rw [e3]; omega, fun e' => h4 (by rw [e2] at e'; rw [e, show j = b from by omega])⟩
            · exact .inl (by rw [e1]; omega)
      · have ea : LS.ans ⟨s.n, s.objs, ow, tu, no, nb, nn⟩ o b c = ⟨s.n, s.objs, ow, tu, no, nb, nn⟩ := (if_neg h1).trans ((if_pos h2).trans (if_neg h3))
        refine same (by rw [ea]) ?_
        by_cases e : i = o
        · subst e; exact .inr ⟨by rw [e3]; omega, by rw [e2]; omega⟩
        · exact .inl (by rw [e1]; omega)
    · have ea : LS.ans ⟨s.n, s.objs, ow, tu, no, nb, nn⟩ o b c = LS.owedAll ⟨s.n, s.objs, ow, tu, no, nb, nn⟩ o (s.n.blocks (objOf s o).size) := (if_neg h1).trans (if_neg h2)
      by_cases e : i = o
      · subst e
        refine asked (min 8 (s.n.many (objOf s i).size j)) ?_ ?_ ?_
        · rw [ea]
          show (if i = i ∧ j < s.n.blocks (objOf s i).size then _ else _) = _
          rw [if_pos ⟨rfl, hj'⟩]; rfl
        · unfold askN; rw [e3, if_neg (by omega)]; omega
        · rw [e1, e3]; omega
      · refine same ?_ (.inl (by rw [e1]; omega))
        rw [ea]
        show (if i = o ∧ j < s.n.blocks (objOf s o).size then _ else _) = _
        rw [if_neg (fun h => e h.1)]
theorem ans_eqs (l : LS) (o b c : Nat) : (l.ans o b c).n = l.n ∧ (l.ans o b c).objs = l.objs ∧ (l.ans o b c).tu = l.tu ∧ (l.ans o b c).no = l.no ∧ (l.ans o b c).nb = l.nb ∧ (l.ans o b c).nn = l.nn := by
  unfold LS.ans
  split
  · exact ⟨rfl, rfl, rfl, rfl, rfl, rfl⟩
  · split
    · split <;> exact ⟨rfl, rfl, rfl, rfl, rfl, rfl⟩
    · exact ⟨rfl, rfl, rfl, rfl, rfl, rfl⟩
theorem Rel.fold {s : St} {T : Nat → Nat → Nat} (hk : s.n.ok) (items : List It) : ∀ (ds : List Db) (l : LS), (∀ t ∈ items, itOK t) → l.n = s.n → l.objs = s.objs → ds = dl s.n l.ow T s.objs →
    items.foldl (fun ds t => ds.map (due s t)) ds = dl s.n (l.anss items).ow T s.objs ∧ (l.anss items).n = l.n ∧ (l.anss items).objs = l.objs ∧ (l.anss items).tu = l.tu ∧ (l.anss items).no = l.no ∧ (l.anss items).nb = l.nb ∧ (l.anss items).nn = l.nn := by
  induction items with
  | nil => intro ds l _ _ _ h; exact ⟨h, rfl, rfl, rfl, rfl, rfl, rfl⟩
  | cons t items ih =>
    intro ds l hit h1 h2 h3
    obtain ⟨i1, i2, i3, i4, i5, i6⟩ := hit t (by simp)
    obtain ⟨q1, q2, q3, q4, q5, q6⟩ := ans_eqs l t.o.toNat t.b.toNat t.c.toNat
    have hone : ds.map (due s t) = dl s.n (l.ans t.o.toNat t.b.toNat t.c.toNat).ow T s.objs := by
      rw [h3]
      obtain ⟨n, objs, ow, tu, no, nb, nn⟩ := l
      exact Rel.one hk h1 h2 t _ _ _ (by omega) (by omega) (by omega)
    have := ih (ds.map (due s t)) (l.ans t.o.toNat t.b.toNat t.c.toNat) (fun x hx => hit x (by simp [hx])) (by rw [q1, h1]) (by rw [q2, h2]) hone
    obtain ⟨r0, r1, r2, r3, r4, r5, r6⟩ := this
    exact ⟨r0, r1.trans q1, r2.trans q2, r3.trans q3, r4.trans q4, r5.trans q5, r6.trans q6⟩
theorem Rel.dues {s : St} {l : LS} {T : Nat → Nat → Nat} {c : Nat} (h : Rel s l T) (hs : SOkC s c) (items : List It) (hit : ∀ t ∈ items, itOK t) : Rel ⟨s.n, s.objs, dues s items, s.sent⟩ (l.anss items) T := by
  obtain ⟨r0, r1, r2, r3, r4, r5, r6⟩ := Rel.fold (T := T) hs.base.nok items s.debts l hit h.n h.objs h.debts
  refine ⟨r1.trans h.n, r2.trans h.objs, r0, ?_, ?_⟩
  · rw [r3]; exact h.tu
  · rw [r4, r5, r6]; exact h.pl
end Sn
end Go.Proofs.Ytkgnmcekeeannab
