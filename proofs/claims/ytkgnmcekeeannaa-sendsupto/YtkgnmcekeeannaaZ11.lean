import Derived.Test.YtkgnmcekeeannaaZ05
import Derived.Test.YtkgnmcekeeannaaZ10
/-
  What the caller writes over lists of items: rows of one mark, none over another.
-/
namespace Go.Proofs.Ytkgnmcekeeannaa
open Go.RowKit Go.Deep
namespace Ms
open Bs
set_option linter.unusedVariables false

/-- where it lay, and nothing else has turned; or in a new block, and nothing has turned -/
def Two (w w' : World) (v v' : Value) : Prop := (v'.ownBlock = v.ownBlock ∧ w.grownBy w' v.ownBlock) ∨ (w.grownBy w' none ∧ ∀ k, v'.ownBlock = some k → w.heap.size ≤ k)
theorem wpList_append_two {P : Program} (w : World) {ops : Array Oper} {rest : List Oper} {o : Oper} {a : Act} {Q : Exit → Act → World → Prop} (hgd : o.guard = none) (s x : Operand) (t : TypeId)
    (ho : o.op = .call { callee := .builtin .append, args := #[s, x], argTypes := #[t, t] })
    (e : TypeId) (i : TypeInfo) (z : Value) (size bytes : Nat) (ht : P.underlying t = some (.slice e)) (hi : P.info? e = some i) (hz : i.zero = some z)
    (hsize : i.size = size) (hby : i.bytes = bytes) (hzs : z.cells.size = size) (hsz : 0 < size)
    (v : Value) (n : Nat) (xs : List Value) (hs : a.eval s = v) (hown : w.ownsRow 0 e size v n xs)
    (ad : Addr) (m c : Nat) (news : List Value) (hx : a.eval x = .slice (some ad) m c) (hl : news.length = m * size) (hnews : ∀ j u, news[j]? = some u → w.cell? (ad.add j) = some u) (h1 : ∀ u ∈ news, u.oneCell' = true)
    (h63 : n + m ≤ maxLen) (hbytes : (n + m) * bytes ≤ 140737488355328) (hm : 0 < m)
    (h : ∀ v' w', w'.ownsRow 0 e size v' (n + m) (xs ++ news) → Two w w' v v' → wpList P ops Q rest (a.put o.dst v') w') : wpList P ops Q (o :: rest) a w := by
  rcases hown.2 with ⟨rfl, rfl⟩ | ⟨g, cap, cur, rfl, hbg, hg, hnc, hcm, hcs, htake⟩
  · refine wpList_append_grows w hgd s x t ho e i z size bytes ht hi hz hsize hby hzs hsz none 0 0 xs hs (fun _ => ⟨rfl, rfl⟩) hown.1 (fun b hb => by cases hb) ad m c news hx hl hnews h1 (by omega) h63 hbytes (fun v' w' ho' hg' => ?_)
    exact h v' w' (owns_mono ho' (Nat.zero_le _)) (.inr ⟨hg', fun k hk => (ho'.lt k hk).1⟩)
  · by_cases hroom : n + m ≤ cap
    · exact wpList_append_fits w hgd s x t ho 0 e i size ht hi hsize g n cap xs hs hown ad m c news hx hl hnews h1 hroom (fun w' ho' hg' => h _ w' ho' (.inl ⟨rfl, hg'⟩))
    · refine wpList_append_grows w hgd s x t ho e i z size bytes ht hi hz hsize hby hzs hsz (some ⟨g, 0, none⟩) n cap xs hs (fun hb => by cases hb) hown.1 (fun b hb => by cases hb; exact hown.cells rfl) ad m c news hx hl hnews h1 (by omega) h63 hbytes (fun v' w' ho' hg' => ?_)
      exact h v' w' (owns_mono ho' (Nat.zero_le _)) (.inr ⟨hg', fun k hk => (ho'.lt k hk).1⟩)

/-- an item of three times this mark -/
def kk (k : Int) : Nat → It := fun _ => ⟨k, k, k⟩
/-- so many items, all of the mark -/
def KAt (w : World) (ao : Option Addr) (q : Nat) (k : Int) : Prop := q = 0 ∨ ∃ b, ao = some ⟨b, 0, none⟩ ∧ b < w.heap.size ∧ ∀ t, t < q * 3 → w.cell? ⟨b, t, none⟩ = some (.int .i64 k)
theorem icell_kk (k : Int) (j : Nat) : icell (kk k) j = .int .i64 k := by unfold icell kk; split; rfl; split <;> rfl
theorem KAt.of_owns {w : World} {base q cap : Nat} {ao : Option Addr} {k : Int} (h : w.ownsRow base 40 3 (.slice ao q cap) q (icells (kk k) q)) : KAt w ao q k := by
  rcases h.2 with ⟨_, h0⟩ | ⟨g, cap', cur, e, _⟩
  · exact .inl h0
  · simp only [Value.slice.injEq] at e
    obtain ⟨rfl, _, _⟩ := e
    have hc := h.cells (g := g) rfl
    refine .inr ⟨g, rfl, (h.lt g rfl).2, fun t ht => ?_⟩
    have := hc t _ (icells_get (kk k) q t ht)
    rw [add_eq0, icell_kk] at this
    exact this
theorem KAt.items {w : World} {ao : Option Addr} {q : Nat} {k : Int} (h : KAt w ao q k) : ItemsAt w ao q (kk k) := by
  rcases h with h | ⟨b, h1, h2, h3⟩
  · exact .inl h
  · exact .inr ⟨b, 0, h1, h2, fun i hi => by rw [Nat.zero_add]; exact ⟨h3 _ (by omega), h3 _ (by omega), h3 _ (by omega)⟩⟩
theorem KAt.stay {w w' : World} {ao : Option Addr} {q : Nat} {k : Int} (h : KAt w ao q k) (hsz : w.heap.size ≤ w'.heap.size) (hb : ∀ b, ao = some ⟨b, 0, none⟩ → b < w.heap.size → w'.heap[b]? = w.heap[b]?) : KAt w' ao q k := by
  rcases h with h | ⟨b, h1, h2, h3⟩
  · exact .inl h
  · refine .inr ⟨b, h1, by omega, fun t ht => ?_⟩
    rw [← h3 t ht]
    exact World.cell?_of_block (a := ⟨b, t, none⟩) (hb b h1 h2)
theorem ownBlock_some (b q c : Nat) : (Value.slice (some ⟨b, 0, none⟩) q c).ownBlock = some b := rfl

/-- between two rounds: 'l' has q items, all of the mark; the lists that were laid down so far are i + 1 -/
structure MI (w wr : World) (X : Nat) (own0 : Option Nat) (n : Nat) (k : Int) (i q : Nat) (al : Option Addr) (cl : Nat) (aA : Option Addr) (cA : Nat) (a : Nat → Option Addr) (c : Nat → Nat) : Prop where
  own : wr.ownsRow 0 40 3 (.slice al q cl) q (icells (kk k) q)
  all : wr.ownsRow 0 36 1 (.slice aA (i + 1) cA) (i + 1) ((List.range (i + 1)).map (fun j => .slice (a j) (n + j) (c j)))
  each : ∀ j, j ≤ i → KAt wr (a j) (n + j) k
  apart : ∀ j, j ≤ i → 0 < n + j → ∀ b, a j = some ⟨b, 0, none⟩ → (Value.slice aA (i + 1) cA).ownBlock ≠ some b
  le : ∀ j, j ≤ i → n + j ≤ q
  xc : ∀ t, t < 3 → wr.cell? ⟨X, t, none⟩ = some (.int .i64 k)
  xlt : X < wr.heap.size
  xl : (Value.slice al q cl).ownBlock ≠ some X
  xa : (Value.slice aA (i + 1) cA).ownBlock ≠ some X
  la : ∀ b, (Value.slice al q cl).ownBlock = some b → (Value.slice aA (i + 1) cA).ownBlock ≠ some b
  frame : w.grownBy wr own0
  lown : (Value.slice al q cl).ownBlock = own0 ∨ ∀ b, (Value.slice al q cl).ownBlock = some b → w.heap.size ≤ b
  aown : ∀ b, (Value.slice aA (i + 1) cA).ownBlock = some b → w.heap.size ≤ b
  eown : ∀ j, j ≤ i → 0 < n + j → ∀ b, a j = some ⟨b, 0, none⟩ → own0 = some b ∨ w.heap.size ≤ b

theorem grown_any {w w' : World} {row : Option Nat} (h : w.grownBy w' none) : w.grownBy w' row := ⟨h.os, h.tape, h.output, h.size, fun k hk _ => h.block k hk (by simp)⟩
theorem two_block {wr w1 : World} {o : Obj} {v v' : Value} (h : Two (wr.alloc o) w1 v v') (b : Nat) (hb : b < wr.heap.size) (hne : v.ownBlock ≠ some b) : w1.heap[b]? = wr.heap[b]? := by
  have ha : (wr.alloc o).heap[b]? = wr.heap[b]? := Below.heap_alloc wr o b hb
  rcases h with ⟨_, h⟩ | ⟨h, _⟩
  · rw [h.block b (by simp; omega) (fun e => hne e.symm), ha]
  · rw [h.block b (by simp; omega) (by simp), ha]
theorem two_size {wr w1 : World} {o : Obj} {v v' : Value} (h : Two (wr.alloc o) w1 v v') : wr.heap.size + 1 ≤ w1.heap.size := by
  rcases h with ⟨_, h⟩ | ⟨h, _⟩
  · have := h.size; simp at this; omega
  · have := h.size; simp at this; omega
theorem two_grown {wr w1 : World} {o : Obj} {v v' : Value} (h : Two (wr.alloc o) w1 v v') : wr.grownBy w1 v.ownBlock := by
  rcases h with ⟨_, h⟩ | ⟨h, _⟩
  · exact (World.grownBy_alloc wr o _).trans h
  · exact (World.grownBy_alloc wr o _).trans (grown_any h)
theorem two_new {wr w1 : World} {o : Obj} {v v' : Value} (h : Two (wr.alloc o) w1 v v') (b : Nat) (hv : v'.ownBlock = some b) : v.ownBlock = some b ∨ wr.heap.size < b := by
  rcases h with ⟨h, _⟩ | ⟨_, h⟩
  · exact .inl (h ▸ hv)
  · have := h b hv; simp at this; exact .inr (by omega)
/-- frames go on: what is written lies where the first list lay, or is new -/
theorem frame_on {w wr w1 : World} {own0 row : Option Nat} (h : w.grownBy wr own0) (hg : wr.grownBy w1 row) (hr : row = own0 ∨ ∀ b, row = some b → w.heap.size ≤ b) : w.grownBy w1 own0 := by
  refine ⟨hg.os.trans h.os, hg.tape.trans h.tape, hg.output.trans h.output, Nat.le_trans h.size hg.size, fun b hb hne => ?_⟩
  rw [hg.block b (Nat.lt_of_lt_of_le hb h.size) (fun e => ?_), h.block b hb hne]
  rcases hr with hr | hr
  · exact hne (e.trans hr)
  · have := hr b e.symm; omega
theorem MI.more_l {w wr w1 : World} {X : Nat} {own0 : Option Nat} {n : Nat} {k : Int} {i q : Nat} {al : Option Addr} {cl : Nat} {aA : Option Addr} {cA : Nat} {a : Nat → Option Addr} {c : Nat → Nat} {o : Obj} {al2 : Option Addr} {cl2 : Nat}
    (h : MI w wr X own0 n k i q al cl aA cA a c) (hX : X < w.heap.size + 1) (hown : w1.ownsRow 0 40 3 (.slice al2 (q + 1) cl2) (q + 1) (icells (kk k) q ++ [.int .i64 k, .int .i64 k, .int .i64 k])) (h2 : Two (wr.alloc o) w1 (.slice al q cl) (.slice al2 (q + 1) cl2)) :
    MI w w1 X own0 n k i (q + 1) al2 cl2 aA cA a c := by
  have hs := two_size h2
  have hown' : w1.ownsRow 0 40 3 (.slice al2 (q + 1) cl2) (q + 1) (icells (kk k) (q + 1)) := by rw [icells_succ]; exact hown
  have hbl : ∀ b, b < wr.heap.size → (Value.slice al q cl).ownBlock ≠ some b → w1.heap[b]? = wr.heap[b]? := fun b hb hne => two_block h2 b hb hne
  refine ⟨hown', ?_, fun j hj => ?_, h.apart, fun j hj => by have := h.le j hj; omega, fun t ht => ?_, by have := h.xlt; omega, fun e => ?_, h.xa, fun b hb => ?_, frame_on h.frame (two_grown h2) h.lown, ?_, h.aown, h.eown⟩
  · refine ⟨h.all.1, ?_⟩
    rcases h.all.2 with hn | ⟨g, cap, cur, e, hb, hg, rest⟩
    · exact .inl hn
    · refine .inr ⟨g, cap, cur, e, hb, ?_, rest⟩
      rw [hbl g (Array.getElem?_eq_some_iff.1 hg).1 (fun e' => h.la g e' (by rw [e]; rfl))]
      exact hg
  · -- the lists laid down
    rcases h.each j hj with h0 | ⟨b, hb1, hb2, hb3⟩
    · exact .inl h0
    · by_cases hsame : (Value.slice al q cl).ownBlock = some b
      · rcases h2 with ⟨e2, _⟩ | ⟨g2, _⟩
        · have hk := KAt.of_owns hown'
          rcases hk with h0 | ⟨b', hb1', hb2', hb3'⟩
          · omega
          · have : b' = b := by
              rw [hb1'] at e2
              rw [hsame] at e2
              exact Option.some.inj e2
            subst this
            exact .inr ⟨b', hb1, hb2', fun t ht => hb3' t (by have := h.le j hj; omega)⟩
        · refine .inr ⟨b, hb1, by omega, fun t ht => ?_⟩
          rw [← hb3 t ht]
          exact World.cell?_of_block (a := ⟨b, t, none⟩) ((g2.block b (by simp; omega) (by simp)).trans (Below.heap_alloc wr o b hb2))
      · refine .inr ⟨b, hb1, by omega, fun t ht => ?_⟩
        rw [← hb3 t ht]
        exact World.cell?_of_block (a := ⟨b, t, none⟩) (hbl b hb2 hsame)
  · rw [← h.xc t ht]
    exact World.cell?_of_block (a := ⟨X, t, none⟩) (hbl X h.xlt h.xl)
  · rcases two_new h2 X e with e' | e'
    · exact h.xl e'
    · have := h.xlt; omega
  · rcases two_new h2 b hb with e' | e'
    · exact h.la b e'
    · intro e
      have := (h.all.lt b e).2
      omega
  · rcases h2 with ⟨e2, _⟩ | ⟨_, g2⟩
    · rw [e2]; exact h.lown
    · exact .inr (fun b hb => by have := g2 b hb; have := h.frame.size; simp at *; omega)
theorem MI.more_a {w wr w1 : World} {X : Nat} {own0 : Option Nat} {n : Nat} {k : Int} {i q : Nat} {al : Option Addr} {cl : Nat} {aA : Option Addr} {cA : Nat} {a : Nat → Option Addr} {c : Nat → Nat} {o : Obj} {aA2 : Option Addr} {cA2 : Nat}
    (h : MI w wr X own0 n k i q al cl aA cA a c) (hq : q = n + (i + 1)) (hown : w1.ownsRow 0 36 1 (.slice aA2 (i + 1 + 1) cA2) (i + 1 + 1) ((List.range (i + 1)).map (fun j => .slice (a j) (n + j) (c j)) ++ [.slice al q cl])) (h2 : Two (wr.alloc o) w1 (.slice aA (i + 1) cA) (.slice aA2 (i + 1 + 1) cA2)) :
    MI w w1 X own0 n k (i + 1) q al cl aA2 cA2 (fun j => if j = i + 1 then al else a j) (fun j => if j = i + 1 then cl else c j) := by
  have hs := two_size h2
  have hbl : ∀ b, b < wr.heap.size → (Value.slice aA (i + 1) cA).ownBlock ≠ some b → w1.heap[b]? = wr.heap[b]? := fun b hb hne => two_block h2 b hb hne
  have hkl := KAt.of_owns h.own
  have hab : ∀ b, b < wr.heap.size → (Value.slice aA (i + 1) cA).ownBlock ≠ some b → (Value.slice aA2 (i + 1 + 1) cA2).ownBlock ≠ some b := fun b hb hne e => by
    rcases two_new h2 b e with e' | e'
    · exact hne e'
    · omega
  refine ⟨?_, ?_, fun j hj => ?_, fun j hj hpos b hb => ?_, fun j hj => ?_, fun t ht => ?_, by have := h.xlt; omega, h.xl, hab X h.xlt h.xa, fun b hb => hab b (h.own.lt b hb).2 (h.la b hb), frame_on h.frame (two_grown h2) (.inr h.aown), h.lown, fun b hb => ?_, fun j hj hpos b hb => ?_⟩
  · refine ⟨h.own.1, ?_⟩
    rcases h.own.2 with hn | ⟨g, cap, cur, e, hb, hg, rest⟩
    · exact .inl hn
    · refine .inr ⟨g, cap, cur, e, hb, ?_, rest⟩
      rw [hbl g (Array.getElem?_eq_some_iff.1 hg).1 (h.la g (by rw [e]; rfl))]
      exact hg
  · rw [List.range_succ, List.map_append]
    have e1 : (List.range (i + 1)).map (fun j => Value.slice (if j = i + 1 then al else a j) (n + j) (if j = i + 1 then cl else c j)) = (List.range (i + 1)).map (fun j => .slice (a j) (n + j) (c j)) := by
      refine List.map_congr_left (fun j hj => ?_)
      have : j < i + 1 := by simpa using hj
      simp [show ¬ j = i + 1 by omega]
    rw [e1]
    simp only [List.map_cons, List.map_nil, if_true]
    rw [← hq]
    exact hown
  · by_cases e : j = i + 1
    · subst e
      simp only [if_true]
      rw [← hq]
      exact hkl.stay (by omega) (fun b hb hlt => hbl b hlt (h.la b (by rw [hb]; rfl)))
    · simp only [e, if_false]
      by_cases h0 : n + j = 0
      · exact .inl h0
      · exact (h.each j (by omega)).stay (by omega) (fun b hb hlt => hbl b hlt (h.apart j (by omega) (by omega) b hb))
  · by_cases e : j = i + 1
    · simp only [e, if_true] at hb
      rcases hkl with h0 | ⟨b', hb1, hb2, _⟩
      · omega
      · rw [hb] at hb1
        simp only [Option.some.injEq, Addr.mk.injEq, and_true] at hb1
        subst hb1
        exact hab b hb2 (h.la b (by rw [hb]; rfl))
    · simp only [e, if_false] at hb
      rcases h.each j (by omega) with h0 | ⟨b', hb1, hb2, _⟩
      · omega
      · rw [hb] at hb1
        simp only [Option.some.injEq, Addr.mk.injEq, and_true] at hb1
        subst hb1
        exact hab b hb2 (h.apart j (by omega) hpos b hb)
  · by_cases e : j = i + 1
    · omega
    · exact h.le j (by omega)
  · rw [← h.xc t ht]
    exact World.cell?_of_block (a := ⟨X, t, none⟩) (hbl X h.xlt h.xa)
  · rcases two_new h2 b hb with e' | e'
    · exact h.aown b e'
    · have := h.frame.size; omega
  · by_cases e : j = i + 1
    · simp only [e, if_true] at hb
      have ho : (Value.slice al q cl).ownBlock = some b := by rw [hb]; rfl
      rcases h.lown with hl | hl
      · exact .inl (hl ▸ ho)
      · exact .inr (hl b ho)
    · simp only [e, if_false] at hb
      exact h.eown j (by omega) hpos b hb
end Ms
end Go.Proofs.Ytkgnmcekeeannaa
namespace Go.Proofs.Ytkgnmcekeeannaa
open Go.RowKit Go.Deep
namespace Sn
open Bs
open Ms (Two two_block two_size two_grown two_new wpList_append_two owns_mono owns_setCell)
set_option linter.unusedVariables false

theorem infoStr : (Try.prog.info? 9).map (fun i => (i.zero, i.size, i.bytes)) = some (some (.string ⟨#[]⟩), 1, 16) := by kernel_rfl
theorem infoDebt : (Try.prog.info? 122).map (fun i => (i.zero, i.size, i.bytes)) = some (some (.agg #[.int .i64 0, .int .i64 0, .int .i64 0, .int .i64 0]), 4, 32) := by kernel_rfl

def strs (l : List ByteArray) : List Value := l.map Value.string
def dv (d : Db) : List Value := [.int .i64 d.o, .int .i64 d.b, .int .i64 d.owes, .int .i64 d.turn]
def dvs : List Db → List Value
  | [] => []
  | d :: l => dv d ++ dvs l
theorem dvs_append (a b : List Db) : dvs (a ++ b) = dvs a ++ dvs b := by
  induction a with
  | nil => rfl
  | cons d a ih => simp [dvs, ih]
theorem dvs_length (l : List Db) : (dvs l).length = l.length * 4 := by
  induction l with
  | nil => rfl
  | cons d l ih => simp only [dvs, List.length_append, ih, dv, List.length_cons, List.length_nil]; omega
def sRow (n : Nm) (vo vd : Value) (sent : Nat) (j : Nat) : Value := ([.int .i64 n.size, .int .i64 n.block, .int .i64 n.spare, vo, vd, .int .i64 sent] : List Value).getD j undef
theorem sRow_set3 (n : Nm) (vo vd v : Value) (sent j : Nat) (hj : j < 6) : (if j = 3 then v else sRow n vo vd sent j) = sRow n v vd sent j := by
  match j, hj with
  | 0, _ => rfl
  | 1, _ => rfl
  | 2, _ => rfl
  | 3, _ => rfl
  | 4, _ => rfl
  | 5, _ => rfl
theorem sRow_set4 (n : Nm) (vo vd v : Value) (sent j : Nat) (hj : j < 6) : (if j = 4 then v else sRow n vo vd sent j) = sRow n vo v sent j := by
  match j, hj with
  | 0, _ => rfl
  | 1, _ => rfl
  | 2, _ => rfl
  | 3, _ => rfl
  | 4, _ => rfl
  | 5, _ => rfl
/-- nothing outside F has turned -/
structure Touch (w w' : World) (F : Nat → Prop) : Prop where
  os : w'.os = w.os
  tape : w'.tape = w.tape
  output : w'.output = w.output
  size : w.heap.size ≤ w'.heap.size
  block : ∀ b, b < w.heap.size → ¬ F b → w'.heap[b]? = w.heap[b]?
theorem Touch.refl (w : World) (F : Nat → Prop) : Touch w w F := ⟨rfl, rfl, rfl, Nat.le_refl _, fun _ _ _ => rfl⟩
theorem Touch.below {w wr w' : World} {F : Nat → Prop} (h : Touch w wr F) (hb : Below wr.heap.size wr w') : Touch w w' F :=
  ⟨hb.os.trans h.os, hb.tape.trans h.tape, hb.output.trans h.output, Nat.le_trans h.size hb.size, fun b h1 h2 => (hb.block b (by have := h.size; omega)).trans (h.block b h1 h2)⟩
/-- a sender in memory, between two steps of a call that began at w -/
structure SI (w wr : World) (P : Nat) (n : Nm) (objs : List ByteArray) (ds : List Db) (sent : Nat) (F : Nat → Prop) (ao : Option Addr) (co : Nat) (ad : Option Addr) (cd : Nat) : Prop where
  row : wr.rowIs P 120 6 (sRow n (.slice ao objs.length co) (.slice ad ds.length cd) sent)
  ob : wr.ownsRow 0 9 1 (.slice ao objs.length co) objs.length (strs objs)
  db : wr.ownsRow 0 122 4 (.slice ad ds.length cd) ds.length (dvs ds)
  fP : F P
  op : (Value.slice ao objs.length co).ownBlock ≠ some P
  dp : (Value.slice ad ds.length cd).ownBlock ≠ some P
  od : ∀ b, (Value.slice ao objs.length co).ownBlock = some b → (Value.slice ad ds.length cd).ownBlock ≠ some b
  fo : ∀ b, (Value.slice ao objs.length co).ownBlock = some b → F b ∨ w.heap.size ≤ b
  fd : ∀ b, (Value.slice ad ds.length cd).ownBlock = some b → F b ∨ w.heap.size ≤ b
  touch : Touch w wr F
theorem SI.below {w wr w' : World} {P : Nat} {n : Nm} {objs : List ByteArray} {ds : List Db} {sent : Nat} {F : Nat → Prop} {ao : Option Addr} {co : Nat} {ad : Option Addr} {cd : Nat}
    (h : SI w wr P n objs ds sent F ao co ad cd) (hb : Below wr.heap.size wr w') : SI w w' P n objs ds sent F ao co ad cd :=
  ⟨h.row.of_block (hb.block P h.row.lt), Ms.owns_below h.ob hb, Ms.owns_below h.db hb, h.fP, h.op, h.dp, h.od, h.fo, h.fd, h.touch.below hb⟩
theorem touch_on {w wr w1 : World} {F : Nat → Prop} {o : Obj} {v v' x : Value} {P i : Nat} (h : Touch w wr F) (h2 : Two (wr.alloc o) w1 v v') (hv : ∀ b, v.ownBlock = some b → F b ∨ w.heap.size ≤ b) (hP : F P) : Touch w (w1.setCell ⟨P, i, none⟩ x) F := by
  have hg := two_grown h2
  refine ⟨hg.os.trans h.os, hg.tape.trans h.tape, hg.output.trans h.output, by have := h.size; have := hg.size; simp; omega, fun b hb hF => ?_⟩
  have hbP : b ≠ P := fun e => hF (e ▸ hP)
  rw [heap_setCell_other _ _ _ _ hbP, hg.block b (by have := h.size; omega) (fun e => ?_), h.block b hb hF]
  rcases hv b e.symm with h' | h'
  · exact hF h'
  · omega
theorem SI.more_o {w wr w1 : World} {P : Nat} {n : Nm} {objs : List ByteArray} {ds : List Db} {sent : Nat} {F : Nat → Prop} {ao : Option Addr} {co : Nat} {ad : Option Addr} {cd : Nat} {x : ByteArray} {o : Obj} {ao2 : Option Addr} {co2 : Nat}
    (h : SI w wr P n objs ds sent F ao co ad cd) (hown : w1.ownsRow 0 9 1 (.slice ao2 (objs.length + 1) co2) (objs.length + 1) (strs objs ++ [.string x])) (h2 : Two (wr.alloc o) w1 (.slice ao objs.length co) (.slice ao2 (objs.length + 1) co2)) :
    SI w (w1.setCell ⟨P, 3, none⟩ (.slice ao2 (objs.length + 1) co2)) P n (objs ++ [x]) ds sent F ao2 co2 ad cd := by
  have hl : (objs ++ [x]).length = objs.length + 1 := by simp
  have hs : strs (objs ++ [x]) = strs objs ++ [.string x] := by simp [strs]
  have hne : ∀ b, b < wr.heap.size → (Value.slice ao objs.length co).ownBlock ≠ some b → (Value.slice ao2 (objs.length + 1) co2).ownBlock ≠ some b := fun b hb hn e => by
    rcases two_new h2 b e with e' | e'
    · exact hn e'
    · omega
  have hPl := h.row.lt
  have hsz := two_size h2
  refine ⟨?_, ?_, ?_, h.fP, ?_, h.dp, ?_, ?_, h.fd, touch_on h.touch h2 h.fo h.fP⟩
  · rw [hl]
    exact ((h.row.of_block (two_block h2 P hPl h.op)).set 3 _).congr (fun j hj => sRow_set3 n _ _ _ sent j hj)
  · rw [hl, hs]
    exact owns_setCell hown (hne P hPl h.op)
  · refine owns_setCell ?_ h.dp
    refine ⟨h.db.1, ?_⟩
    rcases h.db.2 with hn | ⟨g, cap, cur, e, hb, hg, rest⟩
    · exact .inl hn
    · refine .inr ⟨g, cap, cur, e, hb, ?_, rest⟩
      rw [two_block h2 g (Array.getElem?_eq_some_iff.1 hg).1 (fun e' => h.od g e' (by rw [e]; rfl))]
      exact hg
  · rw [hl]; exact hne P hPl h.op
  · rw [hl]
    intro b hb e
    rcases two_new h2 b hb with e' | e'
    · exact h.od b e' e
    · have := (h.db.lt b e).2; omega
  · rw [hl]
    intro b hb
    rcases two_new h2 b hb with e' | e'
    · exact h.fo b e'
    · have := h.touch.size; exact .inr (by omega)
theorem SI.more_d {w wr w1 : World} {P : Nat} {n : Nm} {objs : List ByteArray} {ds : List Db} {sent : Nat} {F : Nat → Prop} {ao : Option Addr} {co : Nat} {ad : Option Addr} {cd : Nat} {d : Db} {o : Obj} {ad2 : Option Addr} {cd2 : Nat}
    (h : SI w wr P n objs ds sent F ao co ad cd) (hown : w1.ownsRow 0 122 4 (.slice ad2 (ds.length + 1) cd2) (ds.length + 1) (dvs ds ++ dv d)) (h2 : Two (wr.alloc o) w1 (.slice ad ds.length cd) (.slice ad2 (ds.length + 1) cd2)) :
    SI w (w1.setCell ⟨P, 4, none⟩ (.slice ad2 (ds.length + 1) cd2)) P n objs (ds ++ [d]) sent F ao co ad2 cd2 := by
  have hl : (ds ++ [d]).length = ds.length + 1 := by simp
  have hs : dvs (ds ++ [d]) = dvs ds ++ dv d := by rw [dvs_append]; simp [dvs]
  have hne : ∀ b, b < wr.heap.size → (Value.slice ad ds.length cd).ownBlock ≠ some b → (Value.slice ad2 (ds.length + 1) cd2).ownBlock ≠ some b := fun b hb hn e => by
    rcases two_new h2 b e with e' | e'
    · exact hn e'
    · omega
  have hPl := h.row.lt
  have hsz := two_size h2
  refine ⟨?_, ?_, ?_, h.fP, h.op, ?_, ?_, h.fo, ?_, touch_on h.touch h2 h.fd h.fP⟩
  · rw [hl]
    exact ((h.row.of_block (two_block h2 P hPl h.dp)).set 4 _).congr (fun j hj => sRow_set4 n _ _ _ sent j hj)
  · refine owns_setCell ?_ h.op
    refine ⟨h.ob.1, ?_⟩
    rcases h.ob.2 with hn | ⟨g, cap, cur, e, hb, hg, rest⟩
    · exact .inl hn
    · refine .inr ⟨g, cap, cur, e, hb, ?_, rest⟩
      rw [two_block h2 g (Array.getElem?_eq_some_iff.1 hg).1 (fun e' => h.od g (by rw [e]; rfl) e')]
      exact hg
  · rw [hl, hs]
    exact owns_setCell hown (hne P hPl h.dp)
  · rw [hl]; exact hne P hPl h.dp
  · rw [hl]
    intro b hb
    exact hne b (h.ob.lt b hb).2 (h.od b hb)
  · rw [hl]
    intro b hb
    rcases two_new h2 b hb with e' | e'
    · exact h.fd b e'
    · have := h.touch.size; exact .inr (by omega)
/-- a sender in memory; F: where it lies -/
def SndAt (w : World) (P : Nat) (s : St) (F : Nat → Prop) : Prop := ∃ ao co ad cd, SI w w P s.n s.objs s.debts s.sent F ao co ad cd
end Sn
end Go.Proofs.Ytkgnmcekeeannaa
