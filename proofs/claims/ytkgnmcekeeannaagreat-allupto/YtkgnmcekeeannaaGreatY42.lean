import Derived.Test.YtkgnmcekeeannaaGreatY41
import Derived.Test.YtkgnmcekeeannaaGreatY29
/-
  The landed receiver's calls, as the caller sees them.
-/
namespace Go.Proofs.YtkgnmcekeeannaaGreat
open Go.RowKit Go.Deep
namespace Sn
open Bs
open Ms (Tells)
set_option linter.unusedVariables false

def LHeard (r : Rt) (t : ByteArray) (e : Ending) (w w' : World) (P : Nat) (F : Nat → Prop) : Prop :=
  (∃ m, Tells t m ∧ e = .returned (.int .i64 (r.hear m).2) ∧ LRcvAt w' P (r.hear m).1 (grow F w w')) ∨
  ((∀ m, ¬ Tells t m) ∧ e = .returned (.int .i64 6) ∧ LRcvAt w' P r (grow F w w'))
theorem LRIs.at_ {w w' : World} {P : Nat} {r : Rt} {F : Nat → Prop} (h : LRIs w w' P (LR.of r) F) : LRcvAt w' P r (grow F w w') := by
  obtain ⟨⟨K, ao, co, D, nv, sv, h⟩, _⟩ := h
  exact ⟨_, _, _, _, _, _, h⟩
theorem LRcvAt.is {w : World} {P : Nat} {r : Rt} {F : Nat → Prop} (h : LRcvAt w P r F) : LRIs w w P (LR.of r) F := by
  obtain ⟨K, ao, co, D, nv, sv, h⟩ := h
  exact LRIs.refl h
set_option maxHeartbeats 1000000 in
theorem rHearR (r : Rt) (tx : ByteArray) (P : Nat) (F : Nat → Prop) (w : World) (ht : tx.size ≤ 1048576) (hr : ROk r) (hA : LRcvAt w P r F) :
    Calls Tryz.prog 31 #[.pointer (some ⟨P, 0, none⟩), .string tx] w fun e w' => LHeard r tx e w w' P F ∧ Touch w w' F := by
  have H2 : Calls Tryz.prog 51 #[.pointer (some ⟨P, 0, none⟩), .string tx] w fun e w' => ∃ v : Int, e = .returned (.int .i64 v) ∧ Hid (LHeard r tx (.returned (.int .i64 v)) w w' P F ∧ Touch w w' F) := by
    refine (lanHearR r tx P F w ht hr hA.is).mono ?_
    rintro e w' ho
    rcases ho with ⟨m, h1, rfl, h2⟩ | ⟨h1, rfl, h2⟩
    · exact ⟨_, rfl, .inl ⟨m, h1, rfl, h2.at_⟩, h2.2⟩
    · exact ⟨_, rfl, .inr ⟨h1, rfl, h2.at_⟩, h2.2⟩
  clear hA hr
  go_enter Tryz.func31, Tryz.ntmps31
  go_wp2_with fail
  refine H2.mono ?_
  rintro e w1 ⟨v, rfl, h1⟩
  clear H2
  go_wp2
  go_ret
  exact h1.out
set_option maxHeartbeats 1000000 in
theorem rKnownR (r : Rt) (P : Nat) (F : Nat → Prop) (w : World) (hA : LRcvAt w P r F) :
    Calls Tryz.prog 27 #[.pointer (some ⟨P, 0, none⟩)] w fun e w' => e = .returned (.int .i64 r.known) ∧ w' = w := by
  obtain ⟨K, ao, co, D, nv, sv, h⟩ := hA
  have H := lanKnown (LR.of r) P F K ao co D nv sv w h
  have e : (LR.of r).kn = r.known := rfl
  rw [e] at H
  clear h e
  go_enter Tryz.func27, Tryz.ntmps27
  go_wp2_with fail
  refine H.mono ?_
  rintro e w1 ⟨rfl, rfl⟩
  clear H
  go_wp2
  go_ret
  exact ⟨rfl, rfl⟩
set_option maxHeartbeats 1000000 in
theorem rRequestR (r : Rt) (P : Nat) (F : Nat → Prop) (w : World) (hr : ROk r) (hw : TW r) (hA : LRcvAt w P r F) :
    Calls Tryz.prog 29 #[.pointer (some ⟨P, 0, none⟩)] w fun e w' => e = .returned (.string r.request) ∧ Below w.heap.size w w' := by
  have H := lanRequest r P F w hr hw hA
  clear hA hr hw
  generalize r.request = Q at *
  go_enter Tryz.func29, Tryz.ntmps29
  go_wp2_with fail
  refine H.mono ?_
  rintro e w1 ⟨rfl, hb⟩
  clear H
  go_wp2
  go_ret
  exact ⟨rfl, hb⟩
set_option maxHeartbeats 1000000 in
theorem rTakeR (r : Rt) (P : Nat) (F : Nat → Prop) (w : World) (hr : ROk r) (hw : TW r) (hA : LRcvAt w P r F) :
    Calls Tryz.prog 25 #[.pointer (some ⟨P, 0, none⟩)] w fun e w' => e = .returned (.tuple #[.string r.take.2.1, .bool r.take.2.2]) ∧ LRcvAt w' P r.take.1 (grow F w w') ∧ Touch w w' F := by
  have H : Calls Tryz.prog 44 #[.pointer (some ⟨P, 0, none⟩)] w fun e w' => e = .returned (.tuple #[.string r.take.2.1, .bool r.take.2.2]) ∧ Hid (LRcvAt w' P r.take.1 (grow F w w') ∧ Touch w w' F) := by
    refine (lanTake r P F w hr hw hA).mono ?_
    rintro e w' ⟨he, h⟩
    exact ⟨he, h.at_, h.2⟩
  clear hA hr hw
  generalize r.take.1 = R at *
  generalize r.take.2.1 = A at *
  generalize r.take.2.2 = B at *
  go_enter Tryz.func25, Tryz.ntmps25
  go_wp2_with fail
  refine H.mono ?_
  rintro e w1 ⟨rfl, hb⟩
  clear H
  go_wp2
  go_ret2
  exact ⟨rfl, hb.out⟩
end Sn
end Go.Proofs.YtkgnmcekeeannaaGreat
/-
  The whole game in memory: two pairs of senders, three pairs of receivers, the law's own lists.
-/
namespace Go.Proofs.YtkgnmcekeeannaaGreat
open Go.RowKit Go.Deep
namespace Sn
open Bs
open Ms (owns_setCell)
set_option linter.unusedVariables false

def upv {α : Type} (f : Nat → α) (i : Nat) (v : α) : Nat → α := fun j => if j = i then v else f j
theorem upv_same {α : Type} (f : Nat → α) (i : Nat) (v : α) : upv f i v i = v := if_pos rfl
theorem upv_other {α : Type} (f : Nat → α) {i j : Nat} (v : α) (h : j ≠ i) : upv f i v j = f j := if_neg h
def ty6 (i : Nat) : TypeId := ([49, 52, 34, 38, 9, 9] : List Nat).getD i 0
/-- the law's own lists; S: what for -/
structure W6 (w : World) (Q : Nat) (G : Nat → Prop) (S : Nat → Nat) (V : Nat → Value) (xs : Nat → List Value) : Prop where
  row : w.rowIs Q 47 6 V
  own : ∀ i, i < 6 → w.ownsRow 0 (ty6 i) 1 (V i) (xs i).length (xs i)
  gq : G Q
  sq : S Q = 6
  gv : ∀ i, i < 6 → ∀ x, (V i).ownBlock = some x → G x ∧ S x = i
section
variable {w w1 : World} {Q : Nat} {G G' H : Nat → Prop} {S : Nat → Nat} {V V' : Nat → Value} {xs xs' : Nat → List Value}
theorem W6.stay (h : W6 w Q G S V xs) (t : Touch w w1 H) (hd : ∀ b, G b → ¬ H b) (hG : ∀ b, G b → b < w.heap.size → G' b) : W6 w1 Q G' S V xs :=
  ⟨h.row.of_block (t.block _ h.row.lt (hd _ h.gq)), fun i hi => owns_still (h.own i hi) (fun b hb => t.block b ((h.own i hi).lt b hb).2 (hd _ (h.gv i hi b hb).1)), hG _ h.gq h.row.lt, h.sq, fun i hi x hx => ⟨hG _ (h.gv i hi x hx).1 ((h.own i hi).lt x hx).2, (h.gv i hi x hx).2⟩⟩
theorem W6.drew (h : W6 w Q G S V xs) : W6 w.drew Q G S V xs := ⟨h.row, h.own, h.gq, h.sq, h.gv⟩
theorem W6.congr (h : W6 w Q G S V xs) (e1 : ∀ i, i < 6 → V' i = V i) (e2 : ∀ i, i < 6 → xs' i = xs i) : W6 w Q G S V' xs' :=
  ⟨h.row.congr (fun i hi => (e1 i hi).symm), fun i hi => by rw [e1 i hi, e2 i hi]; exact h.own i hi, h.gq, h.sq, fun i hi x hx => h.gv i hi x (by rw [← e1 i hi]; exact hx)⟩
theorem W6.more {i : Nat} {v' y : Value} (h : W6 w Q G S V xs) (hi : i < 6) (hown : w1.ownsRow 0 (ty6 i) 1 v' ((xs i).length + 1) (xs i ++ [y])) (hg : w.grownBy w1 (V i).ownBlock) (hat : ∀ x, v'.ownBlock = some x → (V i).ownBlock = some x ∨ w.heap.size ≤ x)
    (hG : ∀ b, G b → G' b) (hn : ∀ b, w.heap.size ≤ b → b < w1.heap.size → G' b) : W6 (w1.setCell ⟨Q, i, none⟩ v') Q G' (paint S i w.heap.size) (upv V i v') (upv xs i (xs i ++ [y])) := by
  have hQ := h.row.lt
  have hne : ∀ j, j < 6 → ∀ x, (V j).ownBlock = some x → x ≠ Q := fun j hj x hx e => by
    have := (h.gv j hj x hx).2
    rw [e, h.sq] at this; omega
  have hvQ : v'.ownBlock ≠ some Q := fun e => by
    rcases hat Q e with e' | e'
    · exact hne i hi Q e' rfl
    · omega
  have blk : ∀ x, x < w.heap.size → S x ≠ i → w1.heap[x]? = w.heap[x]? := fun x hx hs => hg.block x hx (fun e => hs (h.gv i hi x e.symm).2)
  refine ⟨((h.row.of_block (blk Q hQ (by rw [h.sq]; omega))).set i _).congr (fun j _ => rfl), fun j hj => ?_, hG _ h.gq, by rw [paint_old hQ]; exact h.sq, fun j hj x hx => ?_⟩
  · by_cases e : j = i
    · subst e
      rw [upv_same, upv_same, List.length_append]
      exact owns_setCell hown hvQ
    · rw [upv_other _ _ e, upv_other _ _ e]
      refine owns_setCell (owns_still (h.own j hj) (fun b hb => blk b ((h.own j hj).lt b hb).2 (by rw [(h.gv j hj b hb).2]; exact e))) (fun e' => hne j hj Q e' rfl)
  · by_cases e : j = i
    · subst e
      rw [upv_same] at hx
      rcases hat x hx with e' | e'
      · rw [paint_old ((h.own j hj).lt x e').2]
        exact ⟨hG _ (h.gv j hj x e').1, (h.gv j hj x e').2⟩
      · exact ⟨hn x e' (hown.lt x hx).2, paint_new e'⟩
    · rw [upv_other _ _ e] at hx
      rw [paint_old ((h.own j hj).lt x hx).2]
      exact ⟨hG _ (h.gv j hj x hx).1, (h.gv j hj x hx).2⟩
/-- one of a list's places is another from now on -/
theorem W6.put {i g k n cap : Nat} {y : Value} (h : W6 w Q G S V xs) (hi : i < 6) (hV : V i = .slice (some ⟨g, 0, none⟩) n cap) : W6 (w.setCell ⟨g, k, none⟩ y) Q G S V (upv xs i ((xs i).set k y)) := by
  have hs : S g = i := (h.gv i hi g (by rw [hV]; rfl)).2
  have hgQ : Q ≠ g := fun e => by rw [← e, h.sq] at hs; omega
  refine ⟨h.row.setOther (a := ⟨g, k, none⟩) hgQ _, fun j hj => ?_, h.gq, h.sq, h.gv⟩
  by_cases e : j = i
  · subst e
    rw [upv_same, List.length_set]
    have ho := h.own j hj
    rw [hV] at ho ⊢
    have hn : n = (xs j).length := by have := owns_form ho; obtain ⟨_, _, e⟩ := this; injection e
    rw [← hn] at ho ⊢
    exact (ho.stored k y).1
  · rw [upv_other _ _ e]
    exact owns_setCell (h.own j hj) (fun e' => e (by rw [← (h.gv j hj g e').2, hs]))
end
def pt (b : Nat) : Value := .pointer (some ⟨b, 0, none⟩)
def xs6 (P R P' R' : Nat → Nat) (on bk : List ByteArray) (i : Nat) : List Value := ([[pt (P 0), pt (P 1)], [pt (R 0), pt (R 1)], [pt (P' 0), pt (P' 1), pt (P' 2)], [pt (R' 0), pt (R' 1), pt (R' 2)], strs on, strs bk] : List (List Value)).getD i []
theorem six {p : Nat → Prop} (h0 : p 0) (h1 : p 1) (h2 : p 2) (h3 : p 3) (h4 : p 4) (h5 : p 5) : ∀ i, i < 6 → p i
  | 0, _ => h0
  | 1, _ => h1
  | 2, _ => h2
  | 3, _ => h3
  | 4, _ => h4
  | 5, _ => h5
structure Gm (B : Nat) (w0 w : World) (C : Nat → Nat) (Q : Nat) (S : Nat → Nat) (V : Nat → Value) (on bk : List ByteArray) (P R P' R' : Nat → Nat) (s : Nat → St) (l : Nat → LS) (q r : Nat → Rt) : Prop where
  sl : ∀ i, i < 2 → LndAt w (P i) (l i) (fun b => C b = 2 * i + 1)
  sr : ∀ i, i < 2 → SndAt w (R i) (s i) (fun b => C b = 2 * i + 2)
  rl : ∀ i, i < 3 → LRcvAt w (P' i) (q i) (fun b => C b = 2 * i + 6)
  rr : ∀ i, i < 3 → RcvAt w (R' i) (r i) (fun b => C b = 2 * i + 7)
  wm : W6 w Q (fun b => C b = 5) S V (xs6 P R P' R' on bk)
  bel : Below B w0 w
  low : ∀ b, b < B → C b = 0
  room : B ≤ w.heap.size
section
variable {B : Nat} {w0 w w1 : World} {C : Nat → Nat} {Q : Nat} {S : Nat → Nat} {V : Nat → Value} {on bk : List ByteArray} {P R P' R' : Nat → Nat} {s : Nat → St} {l : Nat → LS} {q r : Nat → Rt}
theorem stay_p {p k j : Nat} {x : Rt} (hjk : j ≠ k) (h : LRcvAt w p x (fun b => C b = j)) (t : Touch w w1 (fun b => C b = k)) : LRcvAt w1 p x (fun b => paint C k w.heap.size b = j) :=
  h.stay t (fun b h1 h2 => hjk (h1.symm.trans h2)) (fun b h1 h2 => by rw [paint_old h2]; exact h1)
theorem stay_q {p k j : Nat} {x : Rt} (hjk : j ≠ k) (h : RcvAt w p x (fun b => C b = j)) (t : Touch w w1 (fun b => C b = k)) : RcvAt w1 p x (fun b => paint C k w.heap.size b = j) :=
  h.stay t (fun b h1 h2 => hjk (h1.symm.trans h2)) (fun b h1 h2 => by rw [paint_old h2]; exact h1)
theorem stay_6 {k j : Nat} {xs : Nat → List Value} (hjk : j ≠ k) (h : W6 w Q (fun b => C b = j) S V xs) (t : Touch w w1 (fun b => C b = k)) : W6 w1 Q (fun b => paint C k w.heap.size b = j) S V xs :=
  h.stay t (fun b h1 h2 => hjk (h1.symm.trans h2)) (fun b h1 h2 => by rw [paint_old h2]; exact h1)
theorem RcvAt.mono {p : Nat} {x : Rt} {F F' : Nat → Prop} (h : RcvAt w p x F) (hF : ∀ b, F b → b < w.heap.size → F' b) : RcvAt w p x F' := h.stay (Touch.refl w (fun _ => False)) (fun _ _ h => h) hF
theorem Gm.sendL {i : Nat} {l1 : LS} (h : Gm B w0 w C Q S V on bk P R P' R' s l q r) (hi : i < 2) (t : Touch w w1 (fun b => C b = 2 * i + 1)) (hl : LndAt w1 (P i) l1 (grow (fun b => C b = 2 * i + 1) w w1)) :
    Gm B w0 w1 (paint C (2 * i + 1) w.heap.size) Q S V on bk P R P' R' s (upv l i l1) q r :=
  ⟨fun j hj => by
    by_cases e : j = i
    · subst e; rw [upv_same]; exact hl.mono (fun b hb _ => paint_grow hb)
    · rw [upv_other _ _ e]; exact stay_l (by omega) (h.sl j hj) t,
   fun j hj => stay_r (by omega) (h.sr j hj) t, fun j hj => stay_p (by omega) (h.rl j hj) t, fun j hj => stay_q (by omega) (h.rr j hj) t, stay_6 (by omega) h.wm t, below_touch h.bel h.low t (by omega) h.room, keep_low h.low h.room _, by have := h.room; have := t.size; omega⟩
theorem Gm.sendR {i : Nat} {s1 : St} (h : Gm B w0 w C Q S V on bk P R P' R' s l q r) (hi : i < 2) (t : Touch w w1 (fun b => C b = 2 * i + 2)) (hl : SndAt w1 (R i) s1 (grow (fun b => C b = 2 * i + 2) w w1)) :
    Gm B w0 w1 (paint C (2 * i + 2) w.heap.size) Q S V on bk P R P' R' (upv s i s1) l q r :=
  ⟨fun j hj => stay_l (by omega) (h.sl j hj) t, fun j hj => by
    by_cases e : j = i
    · subst e; rw [upv_same]; exact hl.mono (fun b hb _ => paint_grow hb)
    · rw [upv_other _ _ e]; exact stay_r (by omega) (h.sr j hj) t,
   fun j hj => stay_p (by omega) (h.rl j hj) t, fun j hj => stay_q (by omega) (h.rr j hj) t, stay_6 (by omega) h.wm t, below_touch h.bel h.low t (by omega) h.room, keep_low h.low h.room _, by have := h.room; have := t.size; omega⟩
theorem Gm.recvL {i : Nat} {q1 : Rt} (h : Gm B w0 w C Q S V on bk P R P' R' s l q r) (hi : i < 3) (t : Touch w w1 (fun b => C b = 2 * i + 6)) (hl : LRcvAt w1 (P' i) q1 (grow (fun b => C b = 2 * i + 6) w w1)) :
    Gm B w0 w1 (paint C (2 * i + 6) w.heap.size) Q S V on bk P R P' R' s l (upv q i q1) r :=
  ⟨fun j hj => stay_l (by omega) (h.sl j hj) t, fun j hj => stay_r (by omega) (h.sr j hj) t, fun j hj => by
    by_cases e : j = i
    · subst e; rw [upv_same]; exact hl.mono (fun b hb _ => paint_grow hb)
    · rw [upv_other _ _ e]; exact stay_p (by omega) (h.rl j hj) t,
   fun j hj => stay_q (by omega) (h.rr j hj) t, stay_6 (by omega) h.wm t, below_touch h.bel h.low t (by omega) h.room, keep_low h.low h.room _, by have := h.room; have := t.size; omega⟩
theorem Gm.recvR {i : Nat} {r1 : Rt} (h : Gm B w0 w C Q S V on bk P R P' R' s l q r) (hi : i < 3) (t : Touch w w1 (fun b => C b = 2 * i + 7)) (hl : RcvAt w1 (R' i) r1 (grow (fun b => C b = 2 * i + 7) w w1)) :
    Gm B w0 w1 (paint C (2 * i + 7) w.heap.size) Q S V on bk P R P' R' s l q (upv r i r1) :=
  ⟨fun j hj => stay_l (by omega) (h.sl j hj) t, fun j hj => stay_r (by omega) (h.sr j hj) t, fun j hj => stay_p (by omega) (h.rl j hj) t, fun j hj => by
    by_cases e : j = i
    · subst e; rw [upv_same]; exact hl.mono (fun b hb _ => paint_grow hb)
    · rw [upv_other _ _ e]; exact stay_q (by omega) (h.rr j hj) t,
   stay_6 (by omega) h.wm t, below_touch h.bel h.low t (by omega) h.room, keep_low h.low h.room _, by have := h.room; have := t.size; omega⟩
theorem Gm.above (h : Gm B w0 w C Q S V on bk P R P' R' s l q r) (hb : Below w.heap.size w w1) : Gm B w0 w1 (fun b => if w.heap.size ≤ b then 0 else C b) Q S V on bk P R P' R' s l q r := by
  have t : ∀ F : Nat → Prop, Touch w w1 F := fun F => Touch.of_below hb
  have old : ∀ j b, C b = j → b < w.heap.size → (if w.heap.size ≤ b then 0 else C b) = j := fun j b h1 h2 => by rw [if_neg (by omega)]; exact h1
  exact ⟨fun i hi => (h.sl i hi).stay (t (fun _ => False)) (fun _ _ h => h) (old _), fun i hi => (h.sr i hi).stay (t (fun _ => False)) (fun _ _ h => h) (old _), fun i hi => (h.rl i hi).stay (t (fun _ => False)) (fun _ _ h => h) (old _), fun i hi => (h.rr i hi).stay (t (fun _ => False)) (fun _ _ h => h) (old _), h.wm.stay (t (fun _ => False)) (fun _ _ h => h) (old 5),
    h.bel.trans (hb.mono h.room), fun b hb' => by rw [if_neg (by have := h.room; omega)]; exact h.low b hb', by have := h.room; have := hb.size; omega⟩
/-- the lists have turned, and nothing else -/
theorem Gm.lists {S' : Nat → Nat} {V' : Nat → Value} {on' bk' : List ByteArray} (h : Gm B w0 w C Q S V on bk P R P' R' s l q r) (t : Touch w w1 (fun b => C b = 5)) (wm : W6 w1 Q (fun b => paint C 5 w.heap.size b = 5) S' V' (xs6 P R P' R' on' bk')) :
    Gm B w0 w1 (paint C 5 w.heap.size) Q S' V' on' bk' P R P' R' s l q r :=
  ⟨fun j hj => stay_l (by omega) (h.sl j hj) t, fun j hj => stay_r (by omega) (h.sr j hj) t, fun j hj => stay_p (by omega) (h.rl j hj) t, fun j hj => stay_q (by omega) (h.rr j hj) t, wm, below_touch h.bel h.low t (by omega) h.room, keep_low h.low h.room _, by have := h.room; have := t.size; omega⟩
theorem touch_list {v y : Value} {G : Nat → Prop} {j : Nat} (hg : w.grownBy w1 v.ownBlock) (hv : ∀ x, v.ownBlock = some x → G x) (hQ : G Q) : Touch w (w1.setCell ⟨Q, j, none⟩ y) G := by
  have hs := hg.size
  refine ⟨hg.os, hg.tape, hg.output, by simp; omega, fun x hx hG => ?_⟩
  rw [heap_setCell_other _ _ _ _ (fun e => hG (by rw [e]; exact hQ))]
  exact hg.block x hx (fun e => hG (hv x e.symm))
theorem paint_five {b : Nat} (h : C b = 5) : paint C 5 w.heap.size b = 5 := by
  by_cases e : w.heap.size ≤ b
  · exact paint_new e
  · rw [paint_old (by omega)]; exact h
theorem Gm.onto {v' : Value} {x : ByteArray} (h : Gm B w0 w C Q S V on bk P R P' R' s l q r) (hown : w1.ownsRow 0 9 1 v' (on.length + 1) (strs on ++ [.string x])) (hg : w.grownBy w1 (V 4).ownBlock) (hat : ∀ x, v'.ownBlock = some x → (V 4).ownBlock = some x ∨ w.heap.size ≤ x) :
    ∃ C' S', Gm B w0 (w1.setCell ⟨Q, 4, none⟩ v') C' Q S' (upv V 4 v') (on ++ [x]) bk P R P' R' s l q r := by
  have e0 : (xs6 P R P' R' on bk 4).length = on.length := by simp [xs6, strs]
  have wm := h.wm.more (i := 4) (y := .string x) (G' := fun b => paint C 5 w.heap.size b = 5) (by omega) (by rw [e0]; exact hown) hg hat (fun b hb => paint_five hb) (fun b hb _ => paint_new hb)
  exact ⟨_, _, h.lists (touch_list hg (fun x hx => (h.wm.gv 4 (by omega) x hx).1) h.wm.gq) (wm.congr (fun _ _ => rfl) (six rfl rfl rfl rfl (by simp [xs6, upv, strs]) rfl))⟩
theorem Gm.back {v' : Value} {x : ByteArray} (h : Gm B w0 w C Q S V on bk P R P' R' s l q r) (hown : w1.ownsRow 0 9 1 v' (bk.length + 1) (strs bk ++ [.string x])) (hg : w.grownBy w1 (V 5).ownBlock) (hat : ∀ x, v'.ownBlock = some x → (V 5).ownBlock = some x ∨ w.heap.size ≤ x) :
    ∃ C' S', Gm B w0 (w1.setCell ⟨Q, 5, none⟩ v') C' Q S' (upv V 5 v') on (bk ++ [x]) P R P' R' s l q r := by
  have e0 : (xs6 P R P' R' on bk 5).length = bk.length := by simp [xs6, strs]
  have wm := h.wm.more (i := 5) (y := .string x) (G' := fun b => paint C 5 w.heap.size b = 5) (by omega) (by rw [e0]; exact hown) hg hat (fun b hb => paint_five hb) (fun b hb _ => paint_new hb)
  exact ⟨_, _, h.lists (touch_list hg (fun x hx => (h.wm.gv 5 (by omega) x hx).1) h.wm.gq) (wm.congr (fun _ _ => rfl) (six rfl rfl rfl rfl rfl (by simp [xs6, upv, strs])))⟩
theorem Gm.spoil {g k n cap : Nat} {x : ByteArray} (h : Gm B w0 w C Q S V on bk P R P' R' s l q r) (hV : V 4 = .slice (some ⟨g, 0, none⟩) n cap) :
    ∃ C', Gm B w0 (w.setCell ⟨g, k, none⟩ (.string x)) C' Q S V (on.set k x) bk P R P' R' s l q r := by
  have wm := (h.wm.put (k := k) (y := .string x) (by omega) hV).stay (G' := fun b => paint C 5 w.heap.size b = 5) (Touch.refl _ (fun _ => False)) (fun _ _ h => h) (fun b hb _ => paint_five hb)
  have t : Touch w (w.setCell ⟨g, k, none⟩ (.string x)) (fun b => C b = 5) := touch_set (Touch.refl _ _) (.inl (h.wm.gv 4 (by omega) g (by rw [hV]; rfl)).1)
  exact ⟨_, h.lists t (wm.congr (fun _ _ => rfl) (six rfl rfl rfl rfl (by simp [xs6, upv, strs, List.map_set]) rfl))⟩
theorem Gm.cells (h : Gm B w0 w C Q S V on bk P R P' R' s l q r) : ∀ i, i < 6 → w.cell? ⟨Q, i, none⟩ = some (V i) := fun i hi => h.wm.row.cell hi
/-- where the lists' pointers lie -/
theorem Gm.ptr (h : Gm B w0 w C Q S V on bk P R P' R' s l q r) {i n : Nat} (hi : i < 6) (hn : n = (xs6 P R P' R' on bk i).length) (h0 : 0 < n) :
    ∃ g cap, V i = .slice (some ⟨g, 0, none⟩) n cap ∧ g < w.heap.size ∧ ∀ j v, (xs6 P R P' R' on bk i)[j]? = some v → w.cell? ⟨g, j, none⟩ = some v := by
  obtain ⟨g, cap, e, hc⟩ := owns_slot (h.wm.own i hi) (by omega)
  rw [hn]
  exact ⟨g, cap, e, ((h.wm.own i hi).lt g (by rw [e]; rfl)).2, hc⟩
end
end Sn
end Go.Proofs.YtkgnmcekeeannaaGreat
