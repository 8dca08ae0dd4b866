import Derived.Test.YtkgnmcekeeannabW39
/-
  A sender's messages are honest, and a receiver takes them: in plain words.
-/
namespace Go.Proofs.Ytkgnmcekeeannab
namespace Sn
open Ms (txt text M It)
set_option linter.unusedVariables false

/-- a message of a sender of these objects -/
def Honest (n : Nm) (objs : List ByteArray) (m : M) : Prop :=
  (∃ i b num : Nat, i < objs.length ∧ b < n.blocks (objs.getD i ⟨#[]⟩).size ∧ num < n.many (objs.getD i ⟨#[]⟩).size b + n.spare ∧ m = dataM n (objs.getD i ⟨#[]⟩) i b num) ∨ (∃ k : Nat, k ≤ objs.length ∧ m = endM k)
theorem Honest.data {n : Nm} {objs : List ByteArray} (i b num : Nat) (hi : i < objs.length) (hb : b < n.blocks (objs.getD i ⟨#[]⟩).size) (hn : num < n.many (objs.getD i ⟨#[]⟩).size b + n.spare) : Honest n objs (dataM n (objs.getD i ⟨#[]⟩) i b num) := Or.inl ⟨i, b, num, hi, hb, hn, rfl⟩
theorem Honest.fin {n : Nm} {objs : List ByteArray} (k : Nat) (hk : k ≤ objs.length) : Honest n objs (endM k) := Or.inr ⟨k, hk, rfl⟩
theorem many_cases' (n : Nm) (hn : n.ok) (len b : Nat) : n.many len b = if b < n.blocks len then (if b + 1 < n.blocks len then n.block else n.all len - b * n.block) else 0 := by
  obtain ⟨_, _, h3, _⟩ := hn
  have e1 : ∀ c, c < n.blocks len ↔ c * n.block < n.all len := fun c => by
    unfold Nm.blocks
    rw [← Nat.succ_le_iff, Nat.le_div_iff_mul_le h3, Nat.succ_mul]; omega
  unfold Nm.many
  by_cases h : b < n.blocks len
  · rw [if_pos h]
    by_cases g : b + 1 < n.blocks len
    · rw [if_pos g]
      have := (e1 (b + 1)).1 g
      rw [Nat.succ_mul] at this
      omega
    · rw [if_neg g]
      have := mt (e1 (b + 1)).2 g
      rw [Nat.succ_mul] at this
      omega
  · rw [if_neg h]
    have := mt (e1 b).2 h
    omega
theorem blocks_many (n : Nm) (hn : n.ok) (len b : Nat) : 0 < n.many len b ↔ b < n.blocks len := by
  have := many_cases' n hn len b
  constructor
  · intro h
    by_cases e : b < n.blocks len
    · exact e
    · rw [if_neg e] at this; omega
  · exact many_pos n hn len b
/-- what always holds of a receiver that heard honest messages alone -/
structure HonR (r : Rt) (objs : List ByteArray) : Prop where
  hon : Hon r objs
  kn : r.known ≤ objs.length
  seen : ∀ m ∈ r.heard, m.obj < r.known
theorem HonR.new (n : Nm) (objs : List ByteArray) : HonR (Rt.fresh n) objs := ⟨by intro m hm; simp [Rt.fresh] at hm, by simp [Rt.fresh], by intro m hm; simp [Rt.fresh] at hm⟩
theorem getD_more (l : List ByteArray) (o : ByteArray) (i : Nat) (h : i < l.length) : (l ++ [o]).getD i ⟨#[]⟩ = l.getD i ⟨#[]⟩ := by
  simp [List.getD_eq_getElem?_getD, List.getElem?_append_left h]
theorem HonR.more {r : Rt} {objs : List ByteArray} (h : HonR r objs) (o : ByteArray) : HonR r (objs ++ [o]) := by
  refine ⟨fun m hm => ?_, by have := h.kn; simp; omega, h.seen⟩
  obtain ⟨i, b, num, hi, hb, hn, e⟩ := h.hon m hm
  exact ⟨i, b, num, by simp; omega, by rw [getD_more _ _ _ hi]; exact hb, by rw [getD_more _ _ _ hi]; exact hn, by rw [getD_more _ _ _ hi]; exact e⟩
theorem Honest.more {n : Nm} {objs : List ByteArray} {m : M} (h : Honest n objs m) (o : ByteArray) : Honest n (objs ++ [o]) m := by
  rcases h with ⟨i, b, num, hi, hb, hn, rfl⟩ | ⟨k, hk, rfl⟩
  · rw [← getD_more objs o i hi] at hb hn ⊢
    exact .data i b num (by simp; omega) hb hn
  · exact .fin k (by simp; omega)
theorem HonR.hear {r : Rt} {objs : List ByteArray} (h : HonR r objs) (hn : r.n.ok) (hsz : ∀ o ∈ objs, 1 ≤ o.size ∧ o.size ≤ 256) {m : M} (hm : Honest r.n objs m) : (r.hear m).2 = 0 ∧ HonR (r.hear m).1 objs := by
  rcases Or.symm hm with ⟨k, hk, rfl⟩ | ⟨i, b, num, hi, hb, hnum, rfl⟩
  · have e : r.hear (endM k) = ({ r with known := max r.known k }, 0) := by
      unfold Rt.hear endM
      simp
    rw [e]
    exact ⟨rfl, h.hon, by show max r.known k ≤ _; have := h.kn; omega, fun m hm => by have := h.seen m hm; show m.obj < ((max r.known k : Nat) : Int); omega⟩
  · have hpos := (blocks_many r.n hn _ b).2 hb
    have hs : (txt (symOf r.n (objs.getD i ⟨#[]⟩) b num)).size = r.n.size := by rw [Ms.txt_size, symOf_length]
    have hlen : ¬ (0 < lenIn r.heard (i : Int) ∧ lenIn r.heard (i : Int) ≠ (((objs.getD i ⟨#[]⟩).size : Nat) : Int)) := by
      rintro ⟨h1, h2⟩
      obtain ⟨x, hx, e1, e2⟩ := lenIn_find (by omega : lenIn r.heard (i : Int) ≠ 0)
      obtain ⟨i', b', num', _, _, _, rfl⟩ := h.hon x hx
      have e3 : ((i' : Nat) : Int) = (i : Int) := e1
      have e4 : i' = i := by omega
      subst e4
      exact h2 e2
    have e : r.hear (dataM r.n (objs.getD i ⟨#[]⟩) i b num) = ({ r with heard := r.heard ++ [dataM r.n (objs.getD i ⟨#[]⟩) i b num], known := max r.known (i + 1) }, 0) := by
      have e1 : (dataM r.n (objs.getD i ⟨#[]⟩) i b num).kind = 1 := rfl
      unfold Rt.hear
      rw [if_neg (by rw [e1]; decide), if_neg (by rw [e1]; decide)]
      simp only []
      rw [if_neg, if_neg]
      · rfl
      · exact hlen
      · show ¬ ((txt (symOf r.n (objs.getD i ⟨#[]⟩) b num)).size ≠ r.n.size ∨ r.n.many (((objs.getD i ⟨#[]⟩).size : Nat) : Int).toNat ((b : Nat) : Int).toNat = 0 ∨ r.n.many (((objs.getD i ⟨#[]⟩).size : Nat) : Int).toNat ((b : Nat) : Int).toNat + r.n.spare ≤ ((num : Nat) : Int).toNat)
        simp only [Int.toNat_natCast]
        rintro (h1 | h1 | h1)
        · exact h1 hs
        · omega
        · omega
    rw [e]
    refine ⟨rfl, fun m hm => ?_, ?_, fun m hm => ?_⟩
    · rcases List.mem_append.1 hm with q | q
      · exact h.hon m q
      · rw [List.mem_singleton.1 q]
        exact ⟨i, b, num, hi, hb, hnum, rfl⟩
    · show max r.known (i + 1) ≤ _
      have := h.kn
      omega
    · show m.obj < ((max r.known (i + 1) : Nat) : Int)
      rcases List.mem_append.1 hm with q | q
      · have := h.seen m q; omega
      · rw [List.mem_singleton.1 q]
        show ((i : Nat) : Int) < _
        omega
/-- what is handed over is the next object -/
theorem HonR.take {r : Rt} {objs : List ByteArray} (h : HonR r objs) (hr : ROk r) (ht : r.take.2.2 = true) : r.taken < objs.length ∧ r.take.2.1 = objs.getD r.taken ⟨#[]⟩ ∧ r.take.1 = { r with taken := r.taken + 1 } ∧ HonR r.take.1 objs := by
  unfold Rt.take at ht ⊢
  split at ht
  · cases ht
  · rename_i hn
    rw [if_neg hn]
    have hkn : r.taken < r.known := by
      by_cases e : r.taken < r.known
      · exact e
      · exact absurd (.inl (by omega)) hn
    have hla : r.lacks r.taken = [] := by
      by_cases e : r.lacks r.taken = []
      · exact e
      · exact absurd (.inr e) hn
    have hw := whole_of hla
    have := h.kn
    exact ⟨by omega, obj_back hr h.hon hw, rfl, ⟨h.hon, h.kn, h.seen⟩⟩
theorem no_take {r : Rt} (ht : r.take.2.2 = false) : r.take = (r, ⟨#[]⟩, false) := by
  unfold Rt.take at ht ⊢
  split at ht
  · rename_i hn; rw [if_pos hn]
  · cases ht
end Sn
end Go.Proofs.Ytkgnmcekeeannab
/-
  A sender says honest messages alone, and comes to an end: in plain words.
-/
namespace Go.Proofs.Ytkgnmcekeeannab
namespace Sn
open Ms (txt text M It)
set_option linter.unusedVariables false

def total (n : Nm) : List ByteArray → Nat
  | [] => 0
  | o :: l => n.all o.size + total n l
theorem order_some {n : Nm} : ∀ {l : List ByteArray} {i0 left0 i left : Nat}, order n l i0 left0 = some (i, left) → ∃ j, i = i0 + j ∧ j < l.length ∧ left < n.all (l.getD j ⟨#[]⟩).size
  | [], _, _, _, _, h => by cases h
  | o :: l, i0, left0, i, left, h => by
    unfold order at h
    split at h
    · rename_i hlt
      simp only [Option.some.injEq, Prod.mk.injEq] at h
      obtain ⟨rfl, rfl⟩ := h
      exact ⟨0, rfl, by simp, by simpa using hlt⟩
    · obtain ⟨j, h1, h2, h3⟩ := order_some h
      exact ⟨j + 1, by omega, by simpa using h2, by simpa using h3⟩
theorem order_none {n : Nm} : ∀ (l : List ByteArray) (i0 left0 : Nat), order n l i0 left0 = none ↔ total n l ≤ left0
  | [], _, _ => by simp [order, total]
  | o :: l, i0, left0 => by
    unfold order total
    by_cases h : left0 < n.all o.size
    · rw [if_pos h]
      constructor
      · intro e; cases e
      · intro e; omega
    · rw [if_neg h, order_none l (i0 + 1) (left0 - n.all o.size)]
      omega
theorem order_honest {n : Nm} (hn : n.ok) {objs : List ByteArray} {sent i left : Nat} (h : order n objs 0 sent = some (i, left)) : Honest n objs (dataM n (objs.getD i ⟨#[]⟩) i (left / n.block) (left % n.block)) := by
  obtain ⟨j, h1, h2, h3⟩ := order_some h
  rw [Nat.zero_add] at h1
  subst h1
  have hb := hn.2.2.1
  have hm := Nat.mod_lt left (show 0 < n.block by omega)
  have hd := Nat.div_add_mod left n.block
  rw [Nat.mul_comm] at hd
  have hmany : left % n.block < n.many (objs.getD i ⟨#[]⟩).size (left / n.block) := by
    unfold Nm.many
    omega
  exact .data i _ _ h2 ((blocks_many n hn _ _).1 (by omega)) (by omega)
theorem owing_at {l : List Db} {i : Nat} (h : owing l = some i) : ∃ hi : i < l.length, 0 < l[i].owes := by
  unfold owing at h
  rw [List.findIdx?_eq_some_iff_getElem] at h
  obtain ⟨hi, h1, _⟩ := h
  exact ⟨hi, by simpa using h1⟩
theorem sum_set (f : Db → Nat) (d : Db) : ∀ (l : List Db) (i : Nat) (hi : i < l.length), ((l.set i d).map f).sum + f l[i] = (l.map f).sum + f d
  | x :: l, 0, _ => by simp; omega
  | x :: l, i + 1, hi => by
    have := sum_set f d l i (by simpa using hi)
    simp only [List.set_cons_succ, List.map_cons, List.sum_cons, List.getElem_cons_succ]
    omega
/-- how many symbols are left to send, for now -/
def St.left (s : St) : Nat := total s.n s.objs - s.sent + (s.debts.map Db.owes).sum
theorem debt_honest {s : St} {c i : Nat} (h : SOkC s c) (hi : i < s.debts.length) :
    Honest s.n s.objs (dataM s.n (objOf s (debtOf s i).o) (debtOf s i).o (debtOf s i).b ((s.n.many (objOf s (debtOf s i).o).size (debtOf s i).b + (debtOf s i).turn) % (s.n.many (objOf s (debtOf s i).o).size (debtOf s i).b + s.n.spare))) := by
  obtain ⟨h1, h2, h3, h4, h5⟩ := h.deb _ (debtOf_mem s i hi)
  exact .data _ _ _ h1 ((blocks_many s.n h.base.nok _ _).1 h3) (Nat.mod_lt _ (by omega))
theorem nxt_data {s : St} {c : Nat} (h : SOkC s c) (hl : 0 < s.left) : ∃ i b num, Honest s.n s.objs (dataM s.n (objOf s i) i b num) ∧ (nxt s).2 = txt (text (dataM s.n (objOf s i) i b num)) ∧ (nxt s).1.left + 1 = s.left ∧ (nxt s).1.n = s.n ∧ (nxt s).1.objs = s.objs := by
  unfold nxt
  cases ho : owing s.debts with
  | some i =>
    obtain ⟨hi, hpos⟩ := owing_at ho
    have ed : debtOf s i = s.debts[i] := by simp [debtOf, List.getD_eq_getElem?_getD, hi]
    refine ⟨_, _, _, debt_honest h hi, rfl, ?_, rfl, rfl⟩
    have hs := sum_set Db.owes { debtOf s i with owes := (debtOf s i).owes - 1, turn := (debtOf s i).turn + 1 } s.debts i hi
    unfold St.left
    simp only [] at hs ⊢
    rw [ed] at hs ⊢
    omega
  | none =>
    simp only []
    cases hr : order s.n s.objs 0 s.sent with
    | some p =>
      obtain ⟨i, left⟩ := p
      refine ⟨i, left / s.n.block, left % s.n.block, order_honest h.base.nok hr, rfl, ?_, rfl, rfl⟩
      have hlt : s.sent < total s.n s.objs := by
        by_cases e : s.sent < total s.n s.objs
        · exact e
        · rw [(order_none s.objs 0 s.sent).2 (by omega)] at hr; cases hr
      unfold St.left
      simp only []
      omega
    | none =>
      exfalso
      have h1 := (order_none s.objs 0 s.sent).1 hr
      have h2 : (s.debts.map Db.owes).sum = 0 := by
        have hz : ∀ d ∈ s.debts, d.owes = 0 := fun d hd => by
          unfold owing at ho
          rw [List.findIdx?_eq_none_iff] at ho
          have := ho d hd
          simp at this
          exact this
        have key : ∀ l : List Db, (∀ d ∈ l, d.owes = 0) → (l.map Db.owes).sum = 0 := by
          intro l
          induction l with
          | nil => intro _; rfl
          | cons d l ih => intro h; simp only [List.map_cons, List.sum_cons]; rw [h d (by simp), ih (fun x hx => h x (by simp [hx]))]
        exact key _ hz
      unfold St.left at hl
      omega
theorem nxt_end {s : St} {c : Nat} (h : SOkC s c) (hl : s.left = 0) : nxt s = (s, txt (text (endM s.objs.length))) := by
  unfold St.left at hl
  unfold nxt
  have hso : owing s.debts = none := by
    cases ho : owing s.debts with
    | none => rfl
    | some i =>
      exfalso
      obtain ⟨hi, hpos⟩ := owing_at ho
      have key : ∀ (l : List Db) (i : Nat) (hi : i < l.length), l[i].owes ≤ (l.map Db.owes).sum := by
        intro l
        induction l with
        | nil => intro i hi; simp at hi
        | cons d l ih =>
          intro i hi
          cases i with
          | zero => simp
          | succ i => have := ih i (by simpa using hi); simp only [List.getElem_cons_succ, List.map_cons, List.sum_cons]; omega
      have := key s.debts i hi
      omega
  have hor : order s.n s.objs 0 s.sent = none := (order_none s.objs 0 s.sent).2 (by omega)
  rw [hso]
  simp only [hor]
theorem nxt_honest {s : St} {c : Nat} (h : SOkC s c) : ∃ m, Honest s.n s.objs m ∧ (nxt s).2 = txt (text m) ∧ (nxt s).1.n = s.n ∧ (nxt s).1.objs = s.objs := by
  by_cases hl : 0 < s.left
  · obtain ⟨i, b, num, h1, h2, _, h3, h4⟩ := nxt_data h hl
    exact ⟨_, h1, h2, h3, h4⟩
  · rw [nxt_end h (by omega)]
    exact ⟨_, .fin _ (Nat.le_refl _), rfl, rfl, rfl⟩
end Sn
end Go.Proofs.Ytkgnmcekeeannab
/-
  When a block is complete: in plain words.
-/
namespace Go.Proofs.Ytkgnmcekeeannab
namespace Sn
open Ms (txt text M It)
set_option linter.unusedVariables false

theorem comeIn_all (o b : Int) (k : Nat) : ∀ (l acc : List M), (comeIn o b k acc l).length < k → (∀ x ∈ acc, x ∈ comeIn o b k acc l) ∧ ∀ m ∈ l, m.obj = o → m.blk = b → ∃ x ∈ comeIn o b k acc l, x.num = m.num
  | [], acc, h => ⟨fun x hx => hx, by simp⟩
  | m :: l, acc, h => by
    unfold comeIn at h ⊢
    by_cases hk : k ≤ acc.length
    · rw [if_pos hk] at h; omega
    · rw [if_neg hk] at h ⊢
      by_cases hf : fresh1 o b acc m = true
      · rw [if_pos hf] at h ⊢
        obtain ⟨h1, h2⟩ := comeIn_all o b k l (acc ++ [m]) h
        refine ⟨fun x hx => h1 x (by simp [hx]), fun x hx e1 e2 => ?_⟩
        rcases List.mem_cons.1 hx with e | e
        · rw [e]; exact ⟨m, h1 m (by simp), rfl⟩
        · exact h2 x e e1 e2
      · rw [if_neg hf] at h ⊢
        obtain ⟨h1, h2⟩ := comeIn_all o b k l acc h
        refine ⟨h1, fun x hx e1 e2 => ?_⟩
        rcases List.mem_cons.1 hx with e | e
        · subst e
          have : ¬ (acc.all (fun y => decide (y.num ≠ x.num)) = true) := fun ha => hf (by
            unfold fresh1
            simp only [Bool.and_eq_true, decide_eq_true_eq]
            exact ⟨⟨e1, e2⟩, ha⟩)
          rw [List.all_eq_true] at this
          have h3 : ∃ y ∈ acc, y.num = x.num := by
            by_cases he : ∃ y ∈ acc, y.num = x.num
            · exact he
            · exact absurd (fun y hy => by simp; exact fun e => he ⟨y, hy, e⟩) this
          obtain ⟨y, hy, e⟩ := h3
          exact ⟨y, h1 y hy, e⟩
        · exact h2 x e e1 e2
theorem subset_length {α : Type} [DecidableEq α] : ∀ (a b : List α), a.Nodup → (∀ x ∈ a, x ∈ b) → a.length ≤ b.length
  | [], b, _, _ => Nat.zero_le _
  | x :: a, b, h, hs => by
    rw [List.nodup_cons] at h
    have hx : x ∈ b := hs x (by simp)
    have := subset_length a (b.erase x) h.2 (fun y hy => by
      have hne : y ≠ x := fun e => h.1 (e ▸ hy)
      exact (List.mem_erase_of_ne hne).2 (hs y (by simp [hy])))
    rw [List.length_erase_of_mem hx] at this
    have hp : 0 < b.length := List.length_pos_of_mem hx
    simp only [List.length_cons]
    omega
/-- symbol num of that block was heard -/
def Heard (r : Rt) (o b num : Nat) : Prop := ∃ m ∈ r.heard, m.obj = o ∧ m.blk = b ∧ m.num = num
theorem come_full {r : Rt} {o b : Nat} (h : ∀ num, num < r.n.many (r.len o) b → Heard r o b num) : (r.come o b).length = r.n.many (r.len o) b := by
  have hle := come_len r o b
  by_cases hlt : (r.come o b).length < r.n.many (r.len o) b
  · exfalso
    have hall := (comeIn_all o b (r.n.many (r.len o) b) r.heard [] hlt).2
    have hsub : ((List.range (r.n.many (r.len o) b)).map (fun (i : Nat) => (i : Int))).length ≤ ((r.come o b).map M.num).length := by
      refine subset_length _ _ ?_ (fun x hx => ?_)
      · have hnd := List.nodup_range (n := r.n.many (r.len o) b)
        rw [List.nodup_iff_pairwise_ne] at hnd ⊢
        rw [List.pairwise_map]
        exact hnd.imp (fun h e => h (by omega))
      · obtain ⟨i, hi, rfl⟩ := List.mem_map.1 hx
        obtain ⟨m, hm, e1, e2, e3⟩ := h i (List.mem_range.1 hi)
        obtain ⟨y, hy, e⟩ := hall m hm e1 e2
        exact List.mem_map.2 ⟨y, hy, by rw [e, e3]⟩
    simp only [List.length_map, List.length_range] at hsub
    omega
  · omega
theorem turns_all (k sp T t num : Nat) (hk : 0 < k) (hn : num < k + sp) (ht : T + (k + sp) ≤ t) : ∃ u, T ≤ u ∧ u < t ∧ (k + u) % (k + sp) = num := by
  obtain ⟨A, hA⟩ : ∃ A, A = k + sp := ⟨_, rfl⟩
  rw [← hA] at hn ht ⊢
  have hA0 : 0 < A := by omega
  obtain ⟨q, hq⟩ : ∃ q, q = (k + T) % A := ⟨_, rfl⟩
  have hqA : q < A := by rw [hq]; exact Nat.mod_lt _ hA0
  by_cases h : q ≤ num
  · refine ⟨T + (num - q), by omega, by omega, ?_⟩
    rw [show k + (T + (num - q)) = (k + T) + (num - q) from by omega, Nat.add_mod, ← hq, Nat.mod_eq_of_lt (show num - q < A by omega), show q + (num - q) = num from by omega, Nat.mod_eq_of_lt hn]
  · refine ⟨T + (A - q + num), by omega, by omega, ?_⟩
    rw [show k + (T + (A - q + num)) = (k + T) + (A - q + num) from by omega, Nat.add_mod, ← hq, Nat.mod_eq_of_lt (show A - q + num < A by omega), show q + (A - q + num) = num + A from by omega, Nat.add_mod_right, Nat.mod_eq_of_lt hn]
end Sn
end Go.Proofs.Ytkgnmcekeeannab
/-
  Sending up to an end, with nothing lost: in plain words.
-/
namespace Go.Proofs.Ytkgnmcekeeannab
namespace Sn
open Ms (txt text M It)
set_option linter.unusedVariables false

/-- the message that comes next -/
def nxtM (s : St) : M :=
  match owing s.debts with
  | some i => dataM s.n (objOf s (debtOf s i).o) (debtOf s i).o (debtOf s i).b ((s.n.many (objOf s (debtOf s i).o).size (debtOf s i).b + (debtOf s i).turn) % (s.n.many (objOf s (debtOf s i).o).size (debtOf s i).b + s.n.spare))
  | none =>
    match order s.n s.objs 0 s.sent with
    | some (i, left) => dataM s.n (objOf s i) i (left / s.n.block) (left % s.n.block)
    | none => endM s.objs.length
theorem nxt_M (s : St) : (nxt s).2 = txt (text (nxtM s)) := by
  unfold nxt nxtM
  cases owing s.debts with
  | some i => rfl
  | none =>
    simp only []
    cases order s.n s.objs 0 s.sent with
    | some p => rfl
    | none => rfl
theorem nxtM_honest {s : St} {c : Nat} (h : SOkC s c) : Honest s.n s.objs (nxtM s) := by
  unfold nxtM
  cases ho : owing s.debts with
  | some i =>
    obtain ⟨hi, _⟩ := owing_at ho
    exact debt_honest h hi
  | none =>
    simp only []
    cases hr : order s.n s.objs 0 s.sent with
    | some p => obtain ⟨i, left⟩ := p; exact order_honest h.base.nok hr
    | none => exact .fin _ (Nat.le_refl _)
/-- what a block has had and what it is owed, together -/
def pot (s : St) : List (Nat × Nat × Nat) := s.debts.map (fun d => (d.o, d.b, d.turn + d.owes))
theorem nxt_pot (s : St) : pot (nxt s).1 = pot s := by
  unfold nxt
  cases ho : owing s.debts with
  | some i =>
    obtain ⟨hi, hpos⟩ := owing_at ho
    have ed : debtOf s i = s.debts[i] := by simp [debtOf, List.getD_eq_getElem?_getD, hi]
    unfold pot
    simp only []
    rw [List.map_set]
    have e : (s.debts.map (fun d => (d.o, d.b, d.turn + d.owes)))[i]'(by simpa using hi) = ((debtOf s i).o, (debtOf s i).b, (debtOf s i).turn + 1 + ((debtOf s i).owes - 1)) := by
      rw [List.getElem_map, ed]
      simp only [Prod.mk.injEq, true_and]
      omega
    rw [← e, List.set_getElem_self]
  | none =>
    simp only []
    cases order s.n s.objs 0 s.sent with
    | some p => rfl
    | none => rfl
theorem nxt_same (s : St) : (nxt s).1.n = s.n ∧ (nxt s).1.objs = s.objs := by
  unfold nxt
  cases owing s.debts with
  | some i => exact ⟨rfl, rfl⟩
  | none =>
    simp only []
    cases order s.n s.objs 0 s.sent with
    | some p => exact ⟨rfl, rfl⟩
    | none => exact ⟨rfl, rfl⟩
theorem hear_heard {r : Rt} {m x : M} (h : x ∈ r.heard) : x ∈ (r.hear m).1.heard := by
  unfold Rt.hear
  split
  · exact h
  · split
    · exact h
    · simp only []
      split
      · exact h
      · split
        · exact h
        · exact List.mem_append_left _ h
theorem hear_n (r : Rt) (m : M) : (r.hear m).1.n = r.n ∧ (r.hear m).1.taken = r.taken := by
  unfold Rt.hear
  split
  · exact ⟨rfl, rfl⟩
  · split
    · exact ⟨rfl, rfl⟩
    · simp only []
      split
      · exact ⟨rfl, rfl⟩
      · split <;> exact ⟨rfl, rfl⟩
/-- data that is taken is heard -/
theorem hear_data {r : Rt} {m : M} (hk : m.kind = 1) (h0 : (r.hear m).2 = 0) : m ∈ (r.hear m).1.heard := by
  unfold Rt.hear at h0 ⊢
  rw [if_neg (by rw [hk]; decide), if_neg (by rw [hk]; decide)] at h0 ⊢
  simp only [] at h0 ⊢
  split at h0
  · exact absurd h0 (by show ¬ ((6 : Int) = 0); decide)
  · rename_i hg
    rw [if_neg hg]
    split at h0
    · exact absurd h0 (by show ¬ ((9 : Int) = 0); decide)
    · rename_i hg2
      rw [if_neg hg2]
      simp
/-- of each block, all numbers from T0 on were heard -/
def FP (s : St) (r : Rt) (T0 : Nat → Nat → Nat) : Prop :=
  ∀ d ∈ s.debts, ∀ t, T0 d.o d.b ≤ t → t < d.turn → Heard r d.o d.b ((s.n.many (objOf s d.o).size d.b + t) % (s.n.many (objOf s d.o).size d.b + s.n.spare))
structure Ph (s : St) (r : Rt) (T0 : Nat → Nat → Nat) : Prop where
  ok : ∃ c, SOkC s c
  n : r.n = s.n
  hon : HonR r s.objs
  fp : FP s r T0
theorem Ph.send {s : St} {r : Rt} {T0 : Nat → Nat → Nat} (h : Ph s r T0) : (r.hear (nxtM s)).2 = 0 ∧ Ph (nxt s).1 (r.hear (nxtM s)).1 T0 := by
  obtain ⟨c, hc⟩ := h.ok
  obtain ⟨e1, e2⟩ := nxt_same s
  have hh := HonR.hear h.hon (by rw [h.n]; exact hc.base.nok) hc.base.sz (m := nxtM s) (by rw [h.n]; exact nxtM_honest hc)
  refine ⟨hh.1, ⟨c + 1, hc.nxt⟩, by rw [e1, (hear_n r _).1, h.n], by rw [e2]; exact hh.2, ?_⟩
  have old : ∀ d ∈ s.debts, ∀ t, T0 d.o d.b ≤ t → t < d.turn → Heard (r.hear (nxtM s)).1 d.o d.b ((s.n.many (objOf s d.o).size d.b + t) % (s.n.many (objOf s d.o).size d.b + s.n.spare)) := fun d hd t h1 h2 => by
    obtain ⟨m, hm, q⟩ := h.fp d hd t h1 h2
    exact ⟨m, hear_heard hm, q⟩
  intro d hd t h1 h2
  have eo : objOf (nxt s).1 d.o = objOf s d.o := by unfold objOf; rw [e2]
  rw [e1, eo]
  cases ho : owing s.debts with
  | none =>
    have ed : (nxt s).1.debts = s.debts := by
      unfold nxt
      rw [ho]
      simp only []
      cases order s.n s.objs 0 s.sent with
      | some p => rfl
      | none => rfl
    rw [ed] at hd
    exact old d hd t h1 h2
  | some i =>
    obtain ⟨hi, hpos⟩ := owing_at ho
    have ed : (nxt s).1.debts = s.debts.set i { debtOf s i with owes := (debtOf s i).owes - 1, turn := (debtOf s i).turn + 1 } := by
      unfold nxt; rw [ho]
    rw [ed] at hd
    rcases List.mem_or_eq_of_mem_set hd with hx | hx
    · exact old d hx t h1 h2
    · subst hx
      simp only [] at h1 h2 ⊢
      by_cases e : t = (debtOf s i).turn
      · subst e
        have em : nxtM s = dataM s.n (objOf s (debtOf s i).o) (debtOf s i).o (debtOf s i).b ((s.n.many (objOf s (debtOf s i).o).size (debtOf s i).b + (debtOf s i).turn) % (s.n.many (objOf s (debtOf s i).o).size (debtOf s i).b + s.n.spare)) := by
          unfold nxtM; rw [ho]
        have hk : (nxtM s).kind = 1 := by rw [em]; rfl
        exact ⟨nxtM s, hear_data hk hh.1, by rw [em]; rfl, by rw [em]; rfl, by rw [em]; rfl⟩
      · exact old _ (debtOf_mem s i hi) t h1 (by omega)
end Sn
end Go.Proofs.Ytkgnmcekeeannab
/-
  A round: all that is left is sent and heard, up to an end: in plain words.
-/
namespace Go.Proofs.Ytkgnmcekeeannab
namespace Sn
open Ms (txt text M It)
set_option linter.unusedVariables false

def sendN : Nat → St → Rt → St × Rt
  | 0, s, r => (s, r)
  | j + 1, s, r => sendN j (nxt s).1 (r.hear (nxtM s)).1
theorem nxt_left {s : St} {c : Nat} (h : SOkC s c) (hl : 0 < s.left) : (nxt s).1.left + 1 = s.left ∧ (nxtM s).kind = 1 := by
  obtain ⟨i, b, num, h1, h2, h3, h4, h5⟩ := nxt_data h hl
  refine ⟨h3, ?_⟩
  unfold nxtM
  cases ho : owing s.debts with
  | some i => rfl
  | none =>
    simp only []
    cases hr : order s.n s.objs 0 s.sent with
    | some p => rfl
    | none =>
      exfalso
      have he : (nxt s).1 = s := by unfold nxt; rw [ho]; simp only [hr]
      rw [he] at h3
      omega
theorem nxtM_end {s : St} {c : Nat} (h : SOkC s c) (hl : s.left = 0) : nxtM s = endM s.objs.length ∧ (nxt s).1 = s := by
  have e := nxt_end h hl
  refine ⟨?_, by rw [e]⟩
  unfold nxtM
  cases ho : owing s.debts with
  | some i =>
    exfalso
    have : (nxt s).1.debts ≠ s.debts := by
      obtain ⟨hi, hpos⟩ := owing_at ho
      have ed : debtOf s i = s.debts[i] := by simp [debtOf, List.getD_eq_getElem?_getD, hi]
      intro q
      have e2 : (nxt s).1.debts = s.debts.set i { debtOf s i with owes := (debtOf s i).owes - 1, turn := (debtOf s i).turn + 1 } := by unfold nxt; rw [ho]
      rw [e2] at q
      have q2 : (s.debts.set i { debtOf s i with owes := (debtOf s i).owes - 1, turn := (debtOf s i).turn + 1 })[i]? = s.debts[i]? := by rw [q]
      rw [List.getElem?_set_self hi, List.getElem?_eq_getElem hi] at q2
      have q3 := congrArg (fun (d : Db) => d.turn) (Option.some.inj q2)
      simp only [ed] at q3
      omega
    exact this (by rw [e])
  | none =>
    simp only []
    cases hr : order s.n s.objs 0 s.sent with
    | some p =>
      exfalso
      have q : (nxt s).1.sent = s.sent + 1 := by unfold nxt; rw [ho]; simp only [hr]
      rw [e] at q
      simp only [] at q
      omega
    | none => rfl
/-- every block has its debt -/
def Keys (s : St) : Prop := ∀ o b, o < s.objs.length → b < s.n.blocks (objOf s o).size → ∃ i, i < s.debts.length ∧ (debtOf s i).o = o ∧ (debtOf s i).b = b
def obs (s : St) : List (Nat × Nat) := s.debts.map (fun d => (d.o, d.b))
theorem obs_pot (s : St) : obs s = (pot s).map (fun p => (p.1, p.2.1)) := by
  unfold obs pot
  rw [List.map_map]; rfl
theorem obs_at {s : St} {i : Nat} (hi : i < s.debts.length) : (obs s)[i]? = some ((debtOf s i).o, (debtOf s i).b) := by
  unfold obs
  rw [List.getElem?_map, List.getElem?_eq_getElem hi]
  simp [debtOf, List.getD_eq_getElem?_getD, hi]
theorem Keys.of {s s' : St} (h : Keys s) (hn : s'.n = s.n) (ho : s'.objs = s.objs) (hb : obs s' = obs s) : Keys s' := by
  intro o b h1 h2
  have eo : objOf s' o = objOf s o := by unfold objOf; rw [ho]
  rw [ho] at h1
  rw [hn, eo] at h2
  obtain ⟨i, hi, e1, e2⟩ := h o b h1 h2
  have hl : s'.debts.length = s.debts.length := by have := congrArg List.length hb; simpa [obs] using this
  have hi' : i < s'.debts.length := by omega
  have q := obs_at hi'
  rw [hb, obs_at hi] at q
  simp only [Option.some.injEq, Prod.mk.injEq] at q
  exact ⟨i, hi', by rw [← q.1]; exact e1, by rw [← q.2]; exact e2⟩
structure Ran (s s' : St) (r' : Rt) (T0 : Nat → Nat → Nat) (tk : Nat) : Prop where
  ph : Ph s' r' T0
  left : s'.left = 0
  pot : pot s' = pot s
  n : s'.n = s.n
  objs : s'.objs = s.objs
  known : r'.known = s.objs.length
  taken : r'.taken = tk
theorem sendN_ran (T0 : Nat → Nat → Nat) : ∀ (j : Nat) (s : St) (r : Rt), s.left = j → Ph s r T0 → Ran s (sendN (j + 1) s r).1 (sendN (j + 1) s r).2 T0 r.taken
  | 0, s, r, hl, h => by
    obtain ⟨c, hc⟩ := h.ok
    obtain ⟨e1, e2⟩ := nxtM_end hc hl
    have hs := h.send
    show Ran s (nxt s).1 (r.hear (nxtM s)).1 T0 r.taken
    rw [e2] at hs ⊢
    have ek : (r.hear (nxtM s)).1.known = s.objs.length := by
      rw [e1]
      unfold Rt.hear endM
      have := h.hon.kn
      simp
      omega
    exact ⟨hs.2, hl, rfl, rfl, rfl, ek, (hear_n r _).2⟩
  | j + 1, s, r, hl, h => by
    obtain ⟨c, hc⟩ := h.ok
    obtain ⟨e1, _⟩ := nxt_left hc (by omega)
    obtain ⟨n1, n2⟩ := nxt_same s
    have ih := sendN_ran T0 j (nxt s).1 (r.hear (nxtM s)).1 (by omega) h.send.2
    show Ran s (sendN (j + 1) (nxt s).1 (r.hear (nxtM s)).1).1 (sendN (j + 1) (nxt s).1 (r.hear (nxtM s)).1).2 T0 r.taken
    exact ⟨ih.ph, ih.left, by rw [ih.pot, nxt_pot], by rw [ih.n, n1], by rw [ih.objs, n2], by rw [ih.known, n2], by rw [ih.taken, (hear_n r _).2]⟩
theorem left_owes {s : St} (h : s.left = 0) : ∀ d ∈ s.debts, d.owes = 0 := by
  unfold St.left at h
  have key : ∀ l : List Db, (l.map Db.owes).sum = 0 → ∀ d ∈ l, d.owes = 0 := by
    intro l
    induction l with
    | nil => intro _ d hd; cases hd
    | cons x l ih =>
      intro hs d hd
      simp only [List.map_cons, List.sum_cons] at hs
      rcases List.mem_cons.1 hd with e | e
      · rw [e]; omega
      · exact ih (by omega) d e
  exact key _ (by omega)
theorem sum_le (f g : Nat → Nat) : ∀ l : List Nat, (∀ i ∈ l, f i ≤ g i) → (l.map f).sum ≤ (l.map g).sum
  | [], _ => Nat.le_refl _
  | x :: l, h => by
    have h1 := h x (by simp)
    have h2 := sum_le f g l (fun i hi => h i (by simp [hi]))
    simp only [List.map_cons, List.sum_cons]
    omega
theorem sum_lt (f g : Nat → Nat) : ∀ l : List Nat, (∀ i ∈ l, f i ≤ g i) → (∃ i ∈ l, f i < g i) → (l.map f).sum + 1 ≤ (l.map g).sum
  | [], _, h => by obtain ⟨i, hi, _⟩ := h; cases hi
  | x :: l, h, he => by
    have h1 := h x (by simp)
    have h2 : ∀ i ∈ l, f i ≤ g i := fun i hi => h i (by simp [hi])
    have h3 := sum_le f g l h2
    simp only [List.map_cons, List.sum_cons]
    obtain ⟨i, hi, hlt⟩ := he
    rcases List.mem_cons.1 hi with e | e
    · subst e; omega
    · have := sum_lt f g l h2 ⟨i, e, hlt⟩; omega
end Sn
end Go.Proofs.Ytkgnmcekeeannab
