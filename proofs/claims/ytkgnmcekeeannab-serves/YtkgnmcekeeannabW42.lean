import Derived.Test.YtkgnmcekeeannabW36
import Derived.Test.YtkgnmcekeeannabW39
import Derived.Test.YtkgnmcekeeannabW41
import Derived.Test.YtkgnmcekeeannabW38
import Derived.Test.YtkgnmcekeeannabW35
/-
  A trip in memory: a sender, a receiver, what is on its way.
-/
namespace Go.Proofs.Ytkgnmcekeeannab
open Go.RowKit Go.Deep
namespace Sn
open Bs
open Ms (owns_setCell)
set_option linter.unusedVariables false

def upw {α : Type} (f : Nat → α) (i : Nat) (v : α) : Nat → α := fun j => if j = i then v else f j
theorem upw_same {α : Type} (f : Nat → α) (i : Nat) (v : α) : upw f i v i = v := if_pos rfl
theorem upw_other {α : Type} (f : Nat → α) {i j : Nat} (v : α) (h : j ≠ i) : upw f i v j = f j := if_neg h
def lst (i : Nat) : Prop := i = 2 ∨ i = 4 ∨ i = 5
theorem lst_lt {i : Nat} (h : lst i) : i < 6 := by rcases h with h | h | h <;> omega
/-- the trip's own memory; S: what for -/
structure W3 (w : World) (Q : Nat) (G : Nat → Prop) (S : Nat → Nat) (V : Nat → Value) (xs : Nat → List ByteArray) : Prop where
  row : w.rowIs Q 47 6 V
  own : ∀ i, lst i → w.ownsRow 0 9 1 (V i) (xs i).length (strs (xs i))
  gq : G Q
  sq : S Q = 6
  gv : ∀ i, lst i → ∀ x, (V i).ownBlock = some x → G x ∧ S x = i
section
variable {w w1 : World} {Q : Nat} {G G' H : Nat → Prop} {S : Nat → Nat} {V V' : Nat → Value} {xs xs' : Nat → List ByteArray}
theorem W3.stay (h : W3 w Q G S V xs) (t : Touch w w1 H) (hd : ∀ b, G b → ¬ H b) (hG : ∀ b, G b → b < w.heap.size → G' b) : W3 w1 Q G' S V xs :=
  ⟨h.row.of_block (t.block _ h.row.lt (hd _ h.gq)), fun i hi => owns_still (h.own i hi) (fun b hb => t.block b ((h.own i hi).lt b hb).2 (hd _ (h.gv i hi b hb).1)), hG _ h.gq h.row.lt, h.sq, fun i hi x hx => ⟨hG _ (h.gv i hi x hx).1 ((h.own i hi).lt x hx).2, (h.gv i hi x hx).2⟩⟩
theorem W3.congr (h : W3 w Q G S V xs) (e1 : ∀ i, i < 6 → V' i = V i) (e2 : ∀ i, lst i → xs' i = xs i) : W3 w Q G S V' xs' :=
  ⟨h.row.congr (fun i hi => (e1 i hi).symm), fun i hi => by rw [e1 i (lst_lt hi), e2 i hi]; exact h.own i hi, h.gq, h.sq, fun i hi x hx => h.gv i hi x (by rw [← e1 i (lst_lt hi)]; exact hx)⟩
theorem W3.more {i : Nat} {v' : Value} {y : ByteArray} (h : W3 w Q G S V xs) (hi : lst i) (hown : w1.ownsRow 0 9 1 v' ((xs i).length + 1) (strs (xs i) ++ [.string y])) (hg : w.grownBy w1 (V i).ownBlock) (hat : ∀ x, v'.ownBlock = some x → (V i).ownBlock = some x ∨ w.heap.size ≤ x)
    (hG : ∀ b, G b → G' b) (hn : ∀ b, w.heap.size ≤ b → b < w1.heap.size → G' b) : W3 (w1.setCell ⟨Q, i, none⟩ v') Q G' (paint S i w.heap.size) (upw V i v') (upw xs i (xs i ++ [y])) := by
  have hQ := h.row.lt
  have hi6 := lst_lt hi
  have hne : ∀ j, lst j → ∀ x, (V j).ownBlock = some x → x ≠ Q := fun j hj x hx e => by
    have := (h.gv j hj x hx).2
    have := lst_lt hj
    rw [e, h.sq] at *; omega
  have hvQ : v'.ownBlock ≠ some Q := fun e => by
    rcases hat Q e with e' | e'
    · exact hne i hi Q e' rfl
    · omega
  have blk : ∀ x, x < w.heap.size → S x ≠ i → w1.heap[x]? = w.heap[x]? := fun x hx hs => hg.block x hx (fun e => hs (h.gv i hi x e.symm).2)
  refine ⟨((h.row.of_block (blk Q hQ (by rw [h.sq]; omega))).set i _).congr (fun j _ => rfl), fun j hj => ?_, hG _ h.gq, by rw [paint_old hQ]; exact h.sq, fun j hj x hx => ?_⟩
  · by_cases e : j = i
    · subst e
      rw [upw_same, upw_same, List.length_append]
      have es : strs (xs j ++ [y]) = strs (xs j) ++ [.string y] := by simp [strs]
      rw [es]
      exact owns_setCell hown hvQ
    · rw [upw_other _ _ e, upw_other _ _ e]
      refine owns_setCell (owns_still (h.own j hj) (fun b hb => blk b ((h.own j hj).lt b hb).2 (by rw [(h.gv j hj b hb).2]; exact e))) (fun e' => hne j hj Q e' rfl)
  · by_cases e : j = i
    · subst e
      rw [upw_same] at hx
      rcases hat x hx with e' | e'
      · rw [paint_old ((h.own j hj).lt x e').2]
        exact ⟨hG _ (h.gv j hj x e').1, (h.gv j hj x e').2⟩
      · exact ⟨hn x e' (hown.lt x hx).2, paint_new e'⟩
    · rw [upw_other _ _ e] at hx
      rw [paint_old ((h.own j hj).lt x hx).2]
      exact ⟨hG _ (h.gv j hj x hx).1, (h.gv j hj x hx).2⟩
/-- the count of what was handed over -/
theorem W3.count (h : W3 w Q G S V xs) (v : Value) : W3 (w.setCell ⟨Q, 3, none⟩ v) Q G S (upw V 3 v) xs := by
  have hne : ∀ j, lst j → (V j).ownBlock ≠ some Q := fun j hj e => by
    have := (h.gv j hj Q e).2
    have := lst_lt hj
    rw [h.sq] at *; omega
  have h3 : ∀ j, lst j → j ≠ 3 := fun j hj => by rcases hj with e | e | e <;> omega
  exact ⟨(h.row.set 3 _).congr (fun j _ => rfl), fun j hj => by rw [upw_other _ _ (h3 j hj)]; exact owns_setCell (h.own j hj) (hne j hj), h.gq, h.sq, fun j hj x hx => h.gv j hj x (by rw [← upw_other V v (h3 j hj)]; exact hx)⟩
end
def tpt (b : Nat) : Value := .pointer (some ⟨b, 0, none⟩)
def tV (P R : Nat) (v2 : Value) (tk : Nat) (v4 v5 : Value) (j : Nat) : Value := ([tpt P, tpt R, v2, .int .i64 tk, v4, v5] : List Value).getD j undef
def txs (os on bk : List ByteArray) (i : Nat) : List ByteArray := if i = 2 then os else if i = 4 then on else bk
theorem lst_all {p : Nat → Prop} (h2 : p 2) (h4 : p 4) (h5 : p 5) : ∀ i, lst i → p i := fun i hi => by
  rcases hi with e | e | e <;> (rw [e]; assumption)
theorem six_all {p : Nat → Prop} (h0 : p 0) (h1 : p 1) (h2 : p 2) (h3 : p 3) (h4 : p 4) (h5 : p 5) : ∀ i, i < 6 → p i
  | 0, _ => h0
  | 1, _ => h1
  | 2, _ => h2
  | 3, _ => h3
  | 4, _ => h4
  | 5, _ => h5
structure Tm (B : Nat → Prop) (w0 w : World) (C : Nat → Nat) (Q : Nat) (S : Nat → Nat) (v2 : Value) (tk : Nat) (v4 v5 : Value) (os on bk : List ByteArray) (P R : Nat) (l : LS) (r : Rt) : Prop where
  sl : LndAt w P l (fun b => C b = 1)
  rl : LRcvAt w R r (fun b => C b = 2)
  wm : W3 w Q (fun b => C b = 5) S (tV P R v2 tk v4 v5) (txs os on bk)
  bel : Touch w0 w (fun b => ¬ B b)
  low : ∀ b, B b → C b = 0
  room : ∀ b, B b → b < w.heap.size
theorem touch_past {B : Nat → Prop} {k : Nat} {w0 w w1 : World} {C : Nat → Nat} (h : Touch w0 w (fun b => ¬ B b)) (low : ∀ b, B b → C b = 0) (t : Touch w w1 (fun b => C b = k)) (hk : k ≠ 0) : Touch w0 w1 (fun b => ¬ B b) :=
  ⟨t.os.trans h.os, t.tape.trans h.tape, t.output.trans h.output, Nat.le_trans h.size t.size, fun b h1 h2 => by
    by_cases q : B b
    · exact (t.block b (by have := h.size; omega) (fun e => hk (by rw [← e, low b q]))).trans (h.block b h1 h2)
    · exact absurd q h2⟩
theorem keep_lows {B : Nat → Prop} {w : World} {C : Nat → Nat} (low : ∀ b, B b → C b = 0) (room : ∀ b, B b → b < w.heap.size) (k : Nat) : ∀ b, B b → paint C k w.heap.size b = 0 := fun b hb => by rw [paint_old (room b hb)]; exact low b hb
theorem keep_room {B F : Nat → Prop} {w w1 : World} (room : ∀ b, B b → b < w.heap.size) (t : Touch w w1 F) : ∀ b, B b → b < w1.heap.size := fun b hb => Nat.lt_of_lt_of_le (room b hb) t.size
section
variable {B : Nat → Prop} {w0 w w1 : World} {C : Nat → Nat} {Q : Nat} {S : Nat → Nat} {v2 v4 v5 : Value} {tk : Nat} {os on bk : List ByteArray} {P R : Nat} {l : LS} {r : Rt}
theorem stay_t {p k j : Nat} {x : Rt} (hjk : j ≠ k) (h : LRcvAt w p x (fun b => C b = j)) (t : Touch w w1 (fun b => C b = k)) : LRcvAt w1 p x (fun b => paint C k w.heap.size b = j) :=
  h.stay t (fun b h1 h2 => hjk (h1.symm.trans h2)) (fun b h1 h2 => by rw [paint_old h2]; exact h1)
theorem stay_3 {k j : Nat} {V : Nat → Value} {xs : Nat → List ByteArray} (hjk : j ≠ k) (h : W3 w Q (fun b => C b = j) S V xs) (t : Touch w w1 (fun b => C b = k)) : W3 w1 Q (fun b => paint C k w.heap.size b = j) S V xs :=
  h.stay t (fun b h1 h2 => hjk (h1.symm.trans h2)) (fun b h1 h2 => by rw [paint_old h2]; exact h1)
theorem Tm.send {l1 : LS} (h : Tm B w0 w C Q S v2 tk v4 v5 os on bk P R l r) (t : Touch w w1 (fun b => C b = 1)) (hl : LndAt w1 P l1 (grow (fun b => C b = 1) w w1)) : Tm B w0 w1 (paint C 1 w.heap.size) Q S v2 tk v4 v5 os on bk P R l1 r :=
  ⟨hl.mono (fun b hb _ => paint_grow hb), stay_t (by omega) h.rl t, stay_3 (by omega) h.wm t, touch_past h.bel h.low t (by omega), keep_lows h.low h.room _, keep_room h.room t⟩
theorem Tm.recv {r1 : Rt} (h : Tm B w0 w C Q S v2 tk v4 v5 os on bk P R l r) (t : Touch w w1 (fun b => C b = 2)) (hl : LRcvAt w1 R r1 (grow (fun b => C b = 2) w w1)) : Tm B w0 w1 (paint C 2 w.heap.size) Q S v2 tk v4 v5 os on bk P R l r1 :=
  ⟨stay_l (by omega) h.sl t, hl.mono (fun b hb _ => paint_grow hb), stay_3 (by omega) h.wm t, touch_past h.bel h.low t (by omega), keep_lows h.low h.room _, keep_room h.room t⟩
theorem Tm.above (h : Tm B w0 w C Q S v2 tk v4 v5 os on bk P R l r) (hb : Below w.heap.size w w1) : Tm B w0 w1 (fun b => if w.heap.size ≤ b then 0 else C b) Q S v2 tk v4 v5 os on bk P R l r := by
  have t : ∀ F : Nat → Prop, Touch w w1 F := fun F => Touch.of_below hb
  have old : ∀ j b, C b = j → b < w.heap.size → (if w.heap.size ≤ b then 0 else C b) = j := fun j b h1 h2 => by rw [if_neg (by omega)]; exact h1
  exact ⟨h.sl.stay (t (fun _ => False)) (fun _ _ h => h) (old _), h.rl.stay (t (fun _ => False)) (fun _ _ h => h) (old _), h.wm.stay (t (fun _ => False)) (fun _ _ h => h) (old 5), h.bel.below hb, fun b hb' => by rw [if_neg (by have := h.room b hb'; omega)]; exact h.low b hb', keep_room h.room (t (fun _ => False))⟩
theorem Tm.lists {S' : Nat → Nat} {v2' v4' v5' : Value} {tk' : Nat} {os' on' bk' : List ByteArray} (h : Tm B w0 w C Q S v2 tk v4 v5 os on bk P R l r) (t : Touch w w1 (fun b => C b = 5)) (wm : W3 w1 Q (fun b => paint C 5 w.heap.size b = 5) S' (tV P R v2' tk' v4' v5') (txs os' on' bk')) : Tm B w0 w1 (paint C 5 w.heap.size) Q S' v2' tk' v4' v5' os' on' bk' P R l r :=
  ⟨stay_l (by omega) h.sl t, stay_t (by omega) h.rl t, wm, touch_past h.bel h.low t (by omega), keep_lows h.low h.room _, keep_room h.room t⟩
theorem touch_trip {v y : Value} {G : Nat → Prop} {j : Nat} (hg : w.grownBy w1 v.ownBlock) (hv : ∀ x, v.ownBlock = some x → G x) (hQ : G Q) : Touch w (w1.setCell ⟨Q, j, none⟩ y) G := by
  have hs := hg.size
  refine ⟨hg.os, hg.tape, hg.output, by simp; omega, fun x hx hG => ?_⟩
  rw [heap_setCell_other _ _ _ _ (fun e => hG (by rw [e]; exact hQ))]
  exact hg.block x hx (fun e => hG (hv x e.symm))
theorem paint_5 {b : Nat} (h : C b = 5) : paint C 5 w.heap.size b = 5 := by
  by_cases e : w.heap.size ≤ b
  · exact paint_new e
  · rw [paint_old (by omega)]; exact h
theorem Tm.obj {v' : Value} {x : ByteArray} (h : Tm B w0 w C Q S v2 tk v4 v5 os on bk P R l r) (hown : w1.ownsRow 0 9 1 v' (os.length + 1) (strs os ++ [.string x])) (hg : w.grownBy w1 v2.ownBlock) (hat : ∀ x, v'.ownBlock = some x → v2.ownBlock = some x ∨ w.heap.size ≤ x) :
    ∃ C' S', Tm B w0 (w1.setCell ⟨Q, 2, none⟩ v') C' Q S' v' tk v4 v5 (os ++ [x]) on bk P R l r := by
  have wm := h.wm.more (i := 2) (y := x) (G' := fun b => paint C 5 w.heap.size b = 5) (.inl rfl) hown hg hat (fun b hb => paint_5 hb) (fun b hb _ => paint_new hb)
  exact ⟨_, _, h.lists (touch_trip hg (fun x hx => (h.wm.gv 2 (.inl rfl) x hx).1) h.wm.gq) (wm.congr (six_all rfl rfl rfl rfl rfl rfl) (lst_all rfl rfl rfl))⟩
theorem Tm.onto {v' : Value} {x : ByteArray} (h : Tm B w0 w C Q S v2 tk v4 v5 os on bk P R l r) (hown : w1.ownsRow 0 9 1 v' (on.length + 1) (strs on ++ [.string x])) (hg : w.grownBy w1 v4.ownBlock) (hat : ∀ x, v'.ownBlock = some x → v4.ownBlock = some x ∨ w.heap.size ≤ x) :
    ∃ C' S', Tm B w0 (w1.setCell ⟨Q, 4, none⟩ v') C' Q S' v2 tk v' v5 os (on ++ [x]) bk P R l r := by
  have wm := h.wm.more (i := 4) (y := x) (G' := fun b => paint C 5 w.heap.size b = 5) (.inr (.inl rfl)) hown hg hat (fun b hb => paint_5 hb) (fun b hb _ => paint_new hb)
  exact ⟨_, _, h.lists (touch_trip hg (fun x hx => (h.wm.gv 4 (.inr (.inl rfl)) x hx).1) h.wm.gq) (wm.congr (six_all rfl rfl rfl rfl rfl rfl) (lst_all rfl rfl rfl))⟩
theorem Tm.back {v' : Value} {x : ByteArray} (h : Tm B w0 w C Q S v2 tk v4 v5 os on bk P R l r) (hown : w1.ownsRow 0 9 1 v' (bk.length + 1) (strs bk ++ [.string x])) (hg : w.grownBy w1 v5.ownBlock) (hat : ∀ x, v'.ownBlock = some x → v5.ownBlock = some x ∨ w.heap.size ≤ x) :
    ∃ C' S', Tm B w0 (w1.setCell ⟨Q, 5, none⟩ v') C' Q S' v2 tk v4 v' os on (bk ++ [x]) P R l r := by
  have wm := h.wm.more (i := 5) (y := x) (G' := fun b => paint C 5 w.heap.size b = 5) (.inr (.inr rfl)) hown hg hat (fun b hb => paint_5 hb) (fun b hb _ => paint_new hb)
  exact ⟨_, _, h.lists (touch_trip hg (fun x hx => (h.wm.gv 5 (.inr (.inr rfl)) x hx).1) h.wm.gq) (wm.congr (six_all rfl rfl rfl rfl rfl rfl) (lst_all rfl rfl rfl))⟩
theorem Tm.count (h : Tm B w0 w C Q S v2 tk v4 v5 os on bk P R l r) (k : Nat) : ∃ C', Tm B w0 (w.setCell ⟨Q, 3, none⟩ (.int .i64 k)) C' Q S v2 k v4 v5 os on bk P R l r := by
  have wm := (h.wm.count (.int .i64 k)).stay (G' := fun b => paint C 5 w.heap.size b = 5) (Touch.refl _ (fun _ => False)) (fun _ _ h => h) (fun b hb _ => paint_5 hb)
  exact ⟨_, h.lists (touch_set (Touch.refl _ _) (.inl h.wm.gq)) (wm.congr (six_all rfl rfl rfl rfl rfl rfl) (fun _ _ => rfl))⟩
theorem Tm.cells (h : Tm B w0 w C Q S v2 tk v4 v5 os on bk P R l r) : w.cell? ⟨Q, 0, none⟩ = some (tpt P) ∧ w.cell? ⟨Q, 1, none⟩ = some (tpt R) ∧ w.cell? ⟨Q, 2, none⟩ = some v2 ∧ w.cell? ⟨Q, 3, none⟩ = some (.int .i64 tk) ∧ w.cell? ⟨Q, 4, none⟩ = some v4 ∧ w.cell? ⟨Q, 5, none⟩ = some v5 :=
  ⟨h.wm.row.cell (i := 0) (by decide), h.wm.row.cell (i := 1) (by decide), h.wm.row.cell (i := 2) (by decide), h.wm.row.cell (i := 3) (by decide), h.wm.row.cell (i := 4) (by decide), h.wm.row.cell (i := 5) (by decide)⟩
end
end Sn
end Go.Proofs.Ytkgnmcekeeannab
/-
  What a trip keeps, in plain words.
-/
namespace Go.Proofs.Ytkgnmcekeeannab
namespace Sn
open Ms (txt text M It ok Tells)
set_option linter.unusedVariables false

theorem honest_ok {n : Nm} (hn : n.ok) {objs : List ByteArray} (hl : objs.length ≤ 8) (hsz : ∀ o ∈ objs, 1 ≤ o.size ∧ o.size ≤ 256) {m : M} (h : Honest n objs m) : ok m := by
  rcases h with ⟨i, b, num, hi, hb, hnum, rfl⟩ | ⟨k, hk, rfl⟩
  · have hm : objs.getD i ⟨#[]⟩ ∈ objs := by
      rw [List.getD_eq_getElem?_getD, List.getElem?_eq_getElem hi]; exact List.getElem_mem hi
    have hz := hsz _ hm
    have hbl := blocks_le n hn (objs.getD i ⟨#[]⟩).size hz.2
    have hmm := many_le n (objs.getD i ⟨#[]⟩).size b
    have h8 := hn.2.2.2
    exact dataM_ok n hn _ i b num hz (by omega) (by omega) (by omega)
  · exact endM_ok k (by omega)
structure TI (s : St) (r : Rt) (on bk : List ByteArray) (c : Nat) : Prop where
  sok : SOkC s c
  rok : ROkC r c
  tw : TW r
  n : r.n = s.n
  hon : HonR r s.objs
  owe : Owe s
  key : Keys s
  obs : (obs s).Nodup
  dl : s.debts.length = totalB s.n s.objs
  ons : ∀ t ∈ on, ∃ m, Honest s.n s.objs m ∧ t = txt (text m)
  bks : ∀ t ∈ bk, t = ⟨#[]⟩ ∨ ∃ m, ok m ∧ m.kind = 2 ∧ t = txt (text m)
theorem TI.new {n : Nm} (hn : n.ok) : TI (St.fresh n) (Rt.fresh n) [] [] 0 :=
  ⟨SOkC.new hn, ROkC.new hn, TW.new n, rfl, HonR.new n _, Owe.fresh n, fun o b h => by simp [St.fresh] at h, obs_new n, rfl, by simp, by simp⟩
section
variable {s : St} {r : Rt} {on bk : List ByteArray} {c : Nat}
theorem TI.mono {c' : Nat} (h : TI s r on bk c) (hc : c ≤ c') : TI s r on bk c' := ⟨h.sok.mono hc, h.rok.mono hc, h.tw, h.n, h.hon, h.owe, h.key, h.obs, h.dl, h.ons, h.bks⟩
theorem enq_objs (s : St) (o : ByteArray) : (enq s o).1.n = s.n ∧ ((enq s o).1.objs = s.objs ∨ (enq s o).1.objs = s.objs ++ [o]) := by
  unfold enq
  split
  · exact ⟨rfl, .inl rfl⟩
  · split
    · exact ⟨rfl, .inl rfl⟩
    · exact ⟨rfl, .inr rfl⟩
theorem TI.enq (h : TI s r on bk c) (o : ByteArray) : TI (enq s o).1 r on bk (c + 1) := by
  obtain ⟨e1, e2⟩ := enq_objs s o
  refine ⟨(h.sok.enq o).mono (by omega), h.rok.mono (by omega), h.tw, by rw [e1, h.n], ?_, h.owe.enq h.sok o, keys_enq h.key h.sok o, obs_enq h.obs h.sok o, debts_enq h.dl o, fun t ht => ?_, h.bks⟩
  · rcases e2 with e | e
    · rw [e]; exact h.hon
    · rw [e]; exact h.hon.more o
  · obtain ⟨m, hm, em⟩ := h.ons t ht
    refine ⟨m, ?_, em⟩
    rw [e1]
    rcases e2 with e | e
    · rw [e]; exact hm
    · rw [e]; exact hm.more o
theorem TI.nxt (h : TI s r on bk c) : TI (nxt s).1 r (on ++ [(nxt s).2]) bk (c + 1) := by
  obtain ⟨e1, e2⟩ := nxt_same s
  refine ⟨h.sok.nxt, h.rok.mono (by omega), h.tw, by rw [e1, h.n], by rw [e2]; exact h.hon, h.owe.nxt, h.key.of e1 e2 (obs_nxt s), by rw [obs_nxt]; exact h.obs, ?_, fun t ht => ?_, h.bks⟩
  · have q := congrArg List.length (obs_nxt s)
    simp only [Sn.obs, List.length_map] at q
    rw [q, e1, e2]; exact h.dl
  · rw [e1, e2]
    rcases List.mem_append.1 ht with q | q
    · exact h.ons t q
    · rw [List.mem_singleton.1 q, nxt_M]
      exact ⟨_, nxtM_honest h.sok, rfl⟩
/-- the same, and what was said is not kept -/
theorem TI.less (h : TI s r on bk c) {on' bk' : List ByteArray} (h1 : ∀ t ∈ on', t ∈ on) (h2 : ∀ t ∈ bk', t ∈ bk) : TI s r on' bk' c := ⟨h.sok, h.rok, h.tw, h.n, h.hon, h.owe, h.key, h.obs, h.dl, fun t ht => h.ons t (h1 t ht), fun t ht => h.bks t (h2 t ht)⟩
theorem TI.ok (h : TI s r on bk c) {m : M} (hm : Honest s.n s.objs m) : ok m := honest_ok h.sok.base.nok h.sok.base.len h.sok.base.sz hm
theorem TI.hear (h : TI s r on bk c) {m : M} (hm : Honest s.n s.objs m) (hc : c ≤ 4611686018427387904) : (r.hear m).2 = 0 ∧ TI s (r.hear m).1 on bk (c + 1) := by
  have hh := HonR.hear h.hon (by rw [h.n]; exact h.sok.base.nok) h.sok.base.sz (m := m) (by rw [h.n]; exact hm)
  exact ⟨hh.1, h.sok.mono (by omega), h.rok.hear (h.ok hm), h.tw.hear (h.rok.ok hc) (h.ok hm), by rw [(hear_n r m).1, h.n], hh.2, h.owe, h.key, h.obs, h.dl, h.ons, h.bks⟩
theorem TI.asked (h : TI s r on bk c) (l : List It) : TI (s.asked l) r on bk (c + 1) := by
  refine ⟨(h.sok.dues l).mono (by omega), h.rok.mono (by omega), h.tw, h.n, h.hon, h.owe.asked l, h.key.of rfl rfl (asked_obs s l), by rw [asked_obs]; exact h.obs, ?_, h.ons, h.bks⟩
  rw [(asked_at s l).1]; exact h.dl
theorem TI.request (h : TI s r on bk c) (hc : c ≤ 4611686018427387904) : TI s r on (bk ++ [r.request]) c := by
  refine ⟨h.sok, h.rok, h.tw, h.n, h.hon, h.owe, h.key, h.obs, h.dl, h.ons, fun t ht => ?_⟩
  rcases List.mem_append.1 ht with q | q
  · exact h.bks t q
  · rw [List.mem_singleton.1 q]
    unfold Rt.request
    by_cases e : r.items = []
    · rw [if_pos e]; exact .inl rfl
    · rw [if_neg e]
      refine .inr ⟨_, ?_, rfl, rfl⟩
      refine .inr (.inl ⟨rfl, ⟨rfl, rfl, rfl, rfl, rfl⟩, rfl, ?_, ?_, fun t ht => items_ok r (h.rok.ok hc) t (List.mem_of_mem_take ht)⟩)
      · show 1 ≤ (r.items.take 8).length
        have := List.length_pos_iff.2 e
        rw [List.length_take]; omega
      · show (r.items.take 8).length ≤ 8
        rw [List.length_take]; omega
theorem TI.take (h : TI s r on bk c) (hc : c ≤ 4611686018427387904) : TI s r.take.1 on bk c := by
  have hn : r.take.1.n = r.n := by unfold Rt.take; split <;> rfl
  refine ⟨h.sok, h.rok.take, h.tw.take, by rw [hn, h.n], ?_, h.owe, h.key, h.obs, h.dl, h.ons, h.bks⟩
  cases e : r.take.2.2 with
  | true => exact (h.hon.take (h.rok.ok hc) e).2.2.2
  | false => rw [no_take e]; exact h.hon
end
end Sn
end Go.Proofs.Ytkgnmcekeeannab
/-
  A trip: an object joins the queue; an object is handed over.
-/
namespace Go.Proofs.Ytkgnmcekeeannab
open Go.RowKit Go.Deep
namespace Sn
open Bs
open Ms (txt text M It Tells)
set_option linter.unusedVariables false

def TJ (B : Nat → Prop) (w0 w : World) (Q P R : Nat) (s : St) (r : Rt) (on bk : List ByteArray) (c : Nat) : Prop :=
  ∃ C S v2 v4 v5 l, Tm B w0 w C Q S v2 r.taken v4 v5 s.objs on bk P R l r ∧ (∃ T, Rel s l T) ∧ TI s r on bk c
theorem TJ.above {B : Nat → Prop} {w0 w w1 : World} {Q P R : Nat} {s : St} {r : Rt} {on bk : List ByteArray} {c : Nat} (h : TJ B w0 w Q P R s r on bk c) (hb : Below w.heap.size w w1) : TJ B w0 w1 Q P R s r on bk c := by
  obtain ⟨C, S, v2, v4, v5, l, m, hr, hi⟩ := h
  exact ⟨_, S, v2, v4, v5, l, m.above hb, hr, hi⟩
theorem TJ.mono {B : Nat → Prop} {w0 w : World} {Q P R : Nat} {s : St} {r : Rt} {on bk : List ByteArray} {c c' : Nat} (h : TJ B w0 w Q P R s r on bk c) (hc : c ≤ c') : TJ B w0 w Q P R s r on bk c' := by
  obtain ⟨C, S, v2, v4, v5, l, m, hr, hi⟩ := h
  exact ⟨_, S, v2, v4, v5, l, m, hr, hi.mono hc⟩
section
variable {B : Nat → Prop} {w0 w : World} {Q P R : Nat} {s : St} {r : Rt} {on bk : List ByteArray} {c : Nat}
set_option maxRecDepth 100000 in
set_option maxHeartbeats 4000000 in
theorem tripEnqueues (o : ByteArray) (ho : o.size ≤ maxLen) (h : TJ B w0 w Q P R s r on bk c) :
    Calls Try.prog 19 #[.pointer (some ⟨Q, 0, none⟩), .string o] w fun e w' => e = .returned (.bool true) ∧ TJ B w0 w' Q P R (enq s o).1 r on bk (c + 1) := by
  obtain ⟨C, S, v2, v4, v5, l, hM, ⟨T, hT⟩, hI⟩ := h
  have HM : Hid (Tm B w0 w C Q S v2 r.taken v4 v5 s.objs on bk P R l r) := hM
  have HI : Hid (TI s r on bk c) := hI
  have HOK2 := hT.ok2 hI.sok
  have HEL := rEnqueue l o P (fun b => C b = 1) w HOK2.base ho hM.sl
  obtain ⟨eq2, T', hT'⟩ := hT.enq hI.sok o
  rw [show (l.enq o).2.1 = (enq s o).2.1 from by rw [eq2], show (l.enq o).2.2 = (enq s o).2.2 from by rw [eq2]] at HEL
  have HT' : Hid (∃ T, Rel (enq s o).1 (l.enq o).1 T) := ⟨T', hT'⟩
  have O2 := hM.wm.own 2 (.inl rfl)
  obtain ⟨a2, c2, hv2⟩ := owns_form O2
  have e2 : txs s.objs on bk 2 = s.objs := rfl
  have et : tV P R v2 r.taken v4 v5 2 = v2 := rfl
  rw [et, e2] at hv2
  rw [et, e2] at O2
  obtain ⟨d0, d1, d2, d3, d4, d5⟩ := hM.cells
  rw [hv2] at d2
  have hl8 := hI.sok.base.len
  have HTI : Hid (TI (enq s o).1 r on bk (c + 1)) := hI.enq o
  obtain ⟨L, hL⟩ : ∃ L, L = s.objs.length := ⟨_, rfl⟩
  have HL : Hid (L = s.objs.length) := hL
  rw [← hL] at d2 hl8
  have HV2 : Hid (v2 = .slice a2 L c2) := by unfold Hid; rw [hL]; exact hv2
  obtain ⟨i0, hi0, hz0, hz1, hz2⟩ := info_parts3 infoStr
  clear hM hI hT hT' eq2 O2 hv2 e2 et HOK2 hL
  by_cases h1 : o.size = 0 ∨ 256 < o.size
  · have HE : Hid (enq s o = (s, 0, 7)) := by unfold Hid enq; rw [if_pos h1]
    rw [HE.out] at HEL HTI HT'
    have hmay : o.size = 0 ∨ (1 ≤ o.size ∧ 256 < o.size) := by omega
    clear h1
    rcases hmay with h | ⟨h, h'⟩
    all_goals
      go_enter Try.func19, Try.ntmps19
      go_wp2_with fail
      refine HEL.mono ?_
      rintro e w1 ⟨rfl, hl1, t1⟩
      have HF : Hid (TJ B w0 w1 Q P R (enq s o).1 r on bk (c + 1)) := by
        unfold Hid
        rw [HE.out]
        exact ⟨_, _, _, _, _, _, HM.out.send t1 hl1, HT'.out, HTI.out⟩
      clear HEL hl1 t1 d0 d1 d2 d3 d4 d5
      go_wp2
      go_ret
      exact ⟨rfl, HF.out⟩
  · by_cases h2 : L = 8
    · have HE : Hid (enq s o = (s, 0, 8)) := by unfold Hid enq; rw [if_neg h1, if_pos (by rw [← HL.out]; exact h2)]
      rw [HE.out] at HEL HTI HT'
      have h3 : 1 ≤ o.size := by omega
      have h4 : o.size ≤ 256 := by omega
      subst h2
      clear h1
      go_enter Try.func19, Try.ntmps19
      go_wp2_with fail
      refine HEL.mono ?_
      rintro e w1 ⟨rfl, hl1, t1⟩
      have HF : Hid (TJ B w0 w1 Q P R (enq s o).1 r on bk (c + 1)) := by
        unfold Hid
        rw [HE.out]
        exact ⟨_, _, _, _, _, _, HM.out.send t1 hl1, HT'.out, HTI.out⟩
      clear HEL hl1 t1 d0 d1 d2 d3 d4 d5
      go_wp2
      go_ret
      exact ⟨rfl, HF.out⟩
    · have HE : Hid ((enq s o).2 = ((s.objs.length : Int), (0 : Int)) ∧ (enq s o).1.objs = s.objs ++ [o]) := by unfold Hid enq; rw [if_neg h1, if_neg (by rw [← HL.out]; exact h2)]; exact ⟨rfl, rfl⟩
      rw [HE.out.1, ← HL.out] at HEL
      have h3 : 1 ≤ o.size := by omega
      have h4 : o.size ≤ 256 := by omega
      have h5 : L ≤ 7 := by omega
      have h5i : (L : Int) < 8 := by omega
      clear h1 h2
      go_enter Try.func19, Try.ntmps19
      go_wp2_with fail
      refine HEL.mono ?_
      rintro e w1 ⟨rfl, hl1, t1⟩
      have M1 := HM.out.send t1 hl1
      have HM1 : Hid (Tm B w0 w1 (paint C 1 w.heap.size) Q S v2 r.taken v4 v5 s.objs on bk P R (l.enq o).1 r) := M1
      obtain ⟨x0, x1, x2, x3, x4, x5⟩ := M1.cells
      rw [HV2.out] at x2
      have OW : Hid (w1.ownsRow 0 9 1 (.slice a2 L c2) L (strs s.objs)) := by
        have q := M1.wm.own 2 (.inl rfl)
        have et : tV P R v2 r.taken v4 v5 2 = v2 := rfl
        have e2 : txs s.objs on bk 2 = s.objs := rfl
        rw [et, e2, HV2.out, ← HL.out] at q
        exact q
      have f2 := M1.wm.row.frozen 2
      have hQ1 := M1.wm.row.lt
      clear HEL hl1 t1 d0 d1 d2 d3 d4 d5 M1 HM
      generalize hXS : strs s.objs = XS at *
      have HXS : Hid (strs s.objs = XS) := hXS
      clear hXS
      go_wp2_with (at_builtin; refine wpList_append_own_at _ rfl _ _ 45 rfl 0 9 i0 (.string ⟨#[]⟩) 1 16 Try.underlying45 hi0 hz0 hz1 hz2 rfl (by decide) (.slice a2 L c2) L XS rfl (OW.out.alloc _) ⟨w1.heap.size, 0, none⟩ 1 1 [.string o] rfl rfl Cod.one_news (by intro u hu; simp at hu; subst hu; rfl) (by unfold maxLen; omega) (by omega) (Nat.zero_le _) ?_)
      intro v' w2 hown' hgrow _ hat
      obtain ⟨ao2, co2, rfl⟩ := owns_form hown'
      have hg : w1.grownBy w2 v2.ownBlock := by rw [HV2.out]; exact (World.grownBy_alloc w1 _ _).trans hgrow
      rw [← HXS.out, HL.out] at hown'
      have HF : Hid (TJ B w0 (w2.setCell ⟨Q, 2, none⟩ (.slice ao2 (L + 1) co2)) Q P R (enq s o).1 r on bk (c + 1)) := by
        obtain ⟨C5, S5, m5⟩ := HM1.out.obj (x := o) (v' := .slice ao2 (L + 1) co2) (by rw [HL.out]; exact hown') hg (fun x hx => by
          rw [HV2.out]
          rcases hat with e | e
          · rw [e] at hx; exact .inl hx
          · rw [e] at hx; simp at hx; exact .inr (by omega))
        rw [← HE.out.2] at m5
        exact ⟨_, _, _, _, _, _, m5, HT'.out, HTI.out⟩
      have R2 := HM1.out.wm.row.of_block (hg.block Q hQ1 (fun e => by have := (HM1.out.wm.gv 2 (.inl rfl) Q e.symm).2; rw [HM1.out.wm.sq] at this; omega))
      have c2' : w2.cell? ⟨Q, 2, none⟩ = some (.slice a2 L c2) := by rw [← HV2.out]; exact R2.cell (by decide)
      have f2' := R2.frozen 2
      have hQ2 := R2.lt
      have c2n : (w2.setCell ⟨Q, 2, none⟩ (.slice ao2 (L + 1) co2)).cell? ⟨Q, 2, none⟩ = some (.slice ao2 (L + 1) co2) := World.cell?_setCell_same _ _ _ c2'
      clear hown' hgrow hat R2 x0 x1 x2 x3 x4 x5 OW HM1 hg
      go_wp2
      go_ret
      exact ⟨by simp, HF.out⟩
end
end Sn
end Go.Proofs.Ytkgnmcekeeannab
/-
  A trip: an object is handed over.
-/
namespace Go.Proofs.Ytkgnmcekeeannab
open Go.RowKit Go.Deep
namespace Sn
open Bs
open Ms (txt text M It Tells)
set_option linter.unusedVariables false
section
variable {B : Nat → Prop} {w0 w : World} {Q P R : Nat} {s : St} {r : Rt} {on bk : List ByteArray} {c : Nat}
set_option maxRecDepth 100000 in
set_option maxHeartbeats 4000000 in
theorem tripTakes (hc : c ≤ 4611686018427387904) (h : TJ B w0 w Q P R s r on bk c) :
    Calls Try.prog 15 #[.pointer (some ⟨Q, 0, none⟩)] w fun e w' => e = .returned (.bool true) ∧ TJ B w0 w' Q P R s r.take.1 on bk c := by
  obtain ⟨C, S, v2, v4, v5, l, hM, hT, hI⟩ := h
  have HM : Hid (Tm B w0 w C Q S v2 r.taken v4 v5 s.objs on bk P R l r) := hM
  have HI : Hid (TI s r on bk c) := hI
  have HT : Hid (∃ T, Rel s l T) := hT
  have HTK := rTakeR r R (fun b => C b = 2) w (hI.rok.ok hc) hI.tw hM.rl
  have HTI : Hid (TI s r.take.1 on bk c) := hI.take hc
  obtain ⟨d0, d1, d2, d3, d4, d5⟩ := hM.cells
  have hl8 := hI.sok.base.len
  have hkn := hI.rok.kn
  have htk := hI.rok.tk
  cases e2 : r.take.2.2 with
  | false =>
    have HE : Hid (r.take = (r, ⟨#[]⟩, false)) := no_take e2
    rw [HE.out] at HTK HTI
    simp only at HTK HTI
    clear hM hI hT e2
    go_enter Try.func15, Try.ntmps15
    go_wp2_with fail
    refine HTK.mono ?_
    rintro e w1 ⟨rfl, hl1, t1⟩
    have HF : Hid (TJ B w0 w1 Q P R s r.take.1 on bk c) := by
      unfold Hid
      rw [HE.out]
      exact ⟨_, _, _, _, _, _, HM.out.recv t1 hl1, HT.out, HTI.out⟩
    clear HTK hl1 t1 d0 d1 d2 d3 d4 d5
    go_wp2
    go_ret
    exact ⟨rfl, HF.out⟩
  | true =>
    obtain ⟨h1, h2, h3, h4⟩ := hI.hon.take (hI.rok.ok hc) e2
    rw [e2, h2] at HTK
    have HE3 : Hid (r.take.1 = { r with taken := r.taken + 1 }) := h3
    have HXO : Hid (s.objs.getD r.taken ⟨#[]⟩ = s.objs[r.taken]) := by unfold Hid; rw [List.getD_eq_getElem?_getD, List.getElem?_eq_getElem h1]; rfl
    have HLT : Hid (r.taken < s.objs.length) := h1
    obtain ⟨L, hL⟩ : ∃ L, L = s.objs.length := ⟨_, rfl⟩
    have HL : Hid (L = s.objs.length) := hL
    rw [← hL] at hl8 h1
    generalize s.objs.getD r.taken ⟨#[]⟩ = X at *
    clear hM hI hT e2 h2 h3 h4 hL
    go_enter Try.func15, Try.ntmps15
    go_wp2_with fail
    refine HTK.mono ?_
    rintro e w1 ⟨rfl, hl1, t1⟩
    have M1 := HM.out.recv t1 hl1
    obtain ⟨x0, x1, x2, x3, x4, x5⟩ := M1.cells
    have O2 := M1.wm.own 2 (.inl rfl)
    have et : tV P R v2 r.taken v4 v5 2 = v2 := rfl
    have e2 : txs s.objs on bk 2 = s.objs := rfl
    rw [et, e2] at O2
    obtain ⟨g, cap, hv2, hgc⟩ := owns_cells O2 (by rw [← HL.out]; omega)
    have y2 := hgc r.taken (.string X) (by unfold strs; rw [List.getElem?_map, List.getElem?_eq_getElem HLT.out]; have q := HXO.out; show some (Value.string s.objs[r.taken]) = some (Value.string X); exact congrArg (fun z => some (Value.string z)) q.symm)
    rw [hv2, ← HL.out] at x2
    have hgl : g < w1.heap.size := cell_lt y2
    have f3 := M1.wm.row.frozen 3
    have HM1 : Hid (Tm B w0 w1 (paint C 2 w.heap.size) Q S v2 r.taken v4 v5 s.objs on bk P R l r.take.1) := M1
    clear HTK hl1 t1 d0 d1 d2 d3 d4 d5 M1 O2 hv2 hgc et e2 x4 x5 x0 x1
    have lt1 : (r.taken : Int) < (L : Int) := by omega
    go_wp2_with fail
    go_quiet (fail)
    have m2 := HM1.out.above (below_drewN (Below.refl w1.heap.size w1) nq)
    have x3' : (w1.drewN nq).cell? ⟨Q, 3, none⟩ = some (.int .i64 r.taken) := m2.cells.2.2.2.1
    have f3' := m2.wm.row.frozen 3
    have HF : Hid (TJ B w0 ((w1.drewN nq).setCell ⟨Q, 3, none⟩ (.int .i64 (r.taken + 1 : Nat))) Q P R s r.take.1 on bk c) := by
      obtain ⟨C5, m5⟩ := m2.count (r.taken + 1)
      have q := HTI.out
      unfold Hid
      rw [HE3.out] at m5 q ⊢
      exact ⟨_, _, _, _, _, _, m5, HT.out, q⟩
    clear HM1 m2 x2 x3 y2 f3
    generalize w1.drewN nq = w2 at *
    go_wp2
    go_ret
    exact ⟨rfl, HF.out⟩
end
end Sn
end Go.Proofs.Ytkgnmcekeeannab
