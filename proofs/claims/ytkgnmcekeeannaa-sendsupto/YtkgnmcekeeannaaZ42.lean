import Derived.Test.YtkgnmcekeeannaaZ41
/-
  The law's game begins: what it takes.
-/
namespace Go.Proofs.Ytkgnmcekeeannaa
open Go.RowKit Go.Deep
namespace Sn
open Bs
set_option linter.unusedVariables false

theorem rightE_ok {n : Nm} (h : n.ok) : rightE n.size n.block n.spare = 0 := by
  obtain ⟨h1, h2, h3, h4, h5⟩ := h
  unfold rightE
  rw [if_neg (by omega), if_neg (by omega), if_neg (by omega)]
theorem nm_eq {n m : Nm} (h1 : (n.size : Int) = m.size) (h2 : (n.block : Int) = m.block) (h3 : (n.spare : Int) = m.spare) : n = m := by
  cases n; cases m
  simp only [Nm.mk.injEq] at *
  omega
theorem newL (n : Nm) (hn : n.ok) (W : World) : Calls Try.prog 52 #[.int .i64 n.size, .int .i64 n.block, .int .i64 n.spare] W fun e w' => ∃ P, e = .returned (.tuple #[.pointer (some ⟨P, 0, none⟩), .int .i64 0]) ∧ LndAt w' P (LS.fresh n) (fun x => W.heap.size ≤ x ∧ x < w'.heap.size) ∧ Below W.heap.size W w' := by
  refine (lanNewSender n.size n.block n.spare W).mono ?_
  rintro e w' ⟨ho, hb⟩
  rcases ho with ⟨h, _⟩ | ⟨m, P, hm, e1, e2, e3, rfl, hl⟩
  · exact absurd (rightE_ok hn) h
  · rw [← nm_eq e1 e2 e3] at hl
    exact ⟨P, rfl, hl, hb⟩
theorem newR (n : Nm) (hn : n.ok) (W : World) : Calls Try.prog 53 #[.int .i64 n.size, .int .i64 n.block, .int .i64 n.spare] W fun e w' => ∃ P, e = .returned (.tuple #[.pointer (some ⟨P, 0, none⟩), .int .i64 0]) ∧ SndAt w' P (St.fresh n) (fun x => W.heap.size ≤ x ∧ x < w'.heap.size) ∧ Below W.heap.size W w' := by
  refine (refNewSender n.size n.block n.spare W).mono ?_
  rintro e w' ⟨ho, hb⟩
  rcases ho with ⟨h, _⟩ | ⟨m, P, hm, e1, e2, e3, rfl, hl⟩
  · exact absurd (rightE_ok hn) h
  · rw [← nm_eq e1 e2 e3] at hl
    exact ⟨P, rfl, hl, hb⟩
theorem badL (a b c : Int) (h : rightE a b c ≠ 0) (W : World) : Calls Try.prog 52 #[.int .i64 a, .int .i64 b, .int .i64 c] W fun e w' => e = .returned (.tuple #[.pointer none, .int .i64 (rightE a b c)]) ∧ Below W.heap.size W w' := by
  refine (lanNewSender a b c W).mono ?_
  rintro e w' ⟨ho, hb⟩
  rcases ho with ⟨_, rfl⟩ | ⟨m, P, hm, rfl, rfl, rfl, _⟩
  · exact ⟨rfl, hb⟩
  · exact absurd (rightE_ok hm) h
theorem badR (a b c : Int) (h : rightE a b c ≠ 0) (W : World) : Calls Try.prog 53 #[.int .i64 a, .int .i64 b, .int .i64 c] W fun e w' => e = .returned (.tuple #[.pointer none, .int .i64 (rightE a b c)]) ∧ Below W.heap.size W w' := by
  refine (refNewSender a b c W).mono ?_
  rintro e w' ⟨ho, hb⟩
  rcases ho with ⟨_, rfl⟩ | ⟨m, P, hm, rfl, rfl, rfl, _⟩
  · exact ⟨rfl, hb⟩
  · exact absurd (rightE_ok hm) h

def arrF (g : Nat → Int) (j : Nat) : Value := .int .i64 (g j)
/-- the game in the making: k pairs stand -/
structure SG (B : Nat) (w0 w : World) (N Q k : Nat) (gv : Bool) (g : Nat → Int) (C : Nat → Nat) (va vb : Value) (ps qs : List (Option Nat)) : Prop where
  wm : WM w Q (fun b => C b = 5) va vb (.slice none 0 0) ps qs []
  arr : w.rowIs N 57 6 (arrF g)
  bel : Below B w0 w
  low : ∀ b, b < B → C b = 0
  room : B ≤ w.heap.size
  cN : C N = 0
  each : gv = true → ∀ j, j < k → ∃ P R n, ps[j]? = some (some P) ∧ qs[j]? = some (some R) ∧ n.ok ∧ LndAt w P (LS.fresh n) (fun b => C b = 2 * j + 1) ∧ SndAt w R (St.fresh n) (fun b => C b = 2 * j + 2)
section
variable {B : Nat} {w0 w w1 : World} {C : Nat → Nat} {N Q k : Nat} {gv : Bool} {g : Nat → Int} {va vb : Value} {ps qs : List (Option Nat)}
theorem SG.touch {c : Nat} (h : SG B w0 w N Q k gv g C va vb ps qs) (t : Touch w w1 (fun b => C b = c)) (c0 : c ≠ 0) (c5 : c ≠ 5) (cj : ∀ j, j < k → c ≠ 2 * j + 1 ∧ c ≠ 2 * j + 2) : SG B w0 w1 N Q k gv g (paint C c w.heap.size) va vb ps qs :=
  ⟨stay_w (fun e => c5 e.symm) h.wm t, h.arr.of_block (t.block _ h.arr.lt (fun e => c0 (by rw [← e, h.cN]))), below_touch h.bel h.low t c0 h.room, keep_low h.low h.room c, by have := h.room; have := t.size; omega, by rw [paint_old h.arr.lt]; exact h.cN, fun hg j hj => by
    obtain ⟨P, R, n, e1, e2, e3, e4, e5⟩ := h.each hg j hj
    exact ⟨P, R, n, e1, e2, e3, stay_l (fun e => (cj j hj).1 e.symm) e4 t, stay_r (fun e => (cj j hj).2 e.symm) e5 t⟩⟩
theorem SG.drew (h : SG B w0 w N Q k gv g C va vb ps qs) : SG B w0 w.drew N Q k gv g C va vb ps qs :=
  ⟨h.wm.drew, h.arr, h.bel.drew, h.low, h.room, h.cN, fun hg j hj => by
    obtain ⟨P, R, n, e1, e2, e3, ⟨ao, co, D, e4⟩, e5⟩ := h.each hg j hj
    exact ⟨P, R, n, e1, e2, e3, ⟨ao, co, D, e4.drew⟩, e5.stay (F' := fun b => C b = 2 * j + 2) (Touch.drew (Touch.refl w (fun _ => False))) (fun _ _ h => h) (fun _ h _ => h)⟩⟩
/-- the fresh pair joins, and the lists grow -/
theorem SG.more {o : Obj} {va' : Value} {x : Option Nat} (h : SG B w0 w N Q k gv g C va vb ps qs) (hk : k ≤ ps.length) (hown : w1.ownsRow 0 87 1 va' (ps.length + 1) (ptrs ps ++ [.pointer (x.map (fun b => ⟨b, 0, none⟩))])) (hg : (w.alloc o).grownBy w1 va.ownBlock) (hat : va'.ownBlock = va.ownBlock ∨ va'.ownBlock = some (w.alloc o).heap.size) (hk2 : k ≤ 2) :
    SG B w0 (w1.setCell ⟨Q, 0, none⟩ va') N Q k gv g (paint C 5 w.heap.size) va' vb (ps ++ [x]) qs ∧ Touch w (w1.setCell ⟨Q, 0, none⟩ va') (fun b => C b = 5) := by
  have t : Touch w (w1.setCell ⟨Q, 0, none⟩ va') (fun b => C b = 5) := touch_append hg h.wm.ga h.wm.gq
  have wm := WM.more_a (G' := fun b => paint C 5 w.heap.size b = 5) h.wm hown hg hat (fun b hb => by
    by_cases e : w.heap.size ≤ b
    · exact paint_new e
    · rw [paint_old (by omega)]; exact hb) (fun b hb _ => paint_new hb)
  refine ⟨⟨wm, h.arr.of_block (t.block _ h.arr.lt (fun e => by have := h.cN; rw [e] at this; exact absurd this (by decide))), below_touch h.bel h.low t (by decide) h.room, keep_low h.low h.room 5, by have := h.room; have := t.size; omega, by rw [paint_old h.arr.lt]; exact h.cN, fun hg j hj => ?_⟩, t⟩
  obtain ⟨P, R, n, e1, e2, e3, e4, e5⟩ := h.each hg j hj
  exact ⟨P, R, n, by rw [List.getElem?_append_left (by omega)]; exact e1, e2, e3, stay_l (by omega) e4 t, stay_r (by omega) e5 t⟩
theorem SG.more' {o : Obj} {vb' : Value} {x : Option Nat} (h : SG B w0 w N Q k gv g C va vb ps qs) (hk : k ≤ qs.length) (hown : w1.ownsRow 0 90 1 vb' (qs.length + 1) (ptrs qs ++ [.pointer (x.map (fun b => ⟨b, 0, none⟩))])) (hg : (w.alloc o).grownBy w1 vb.ownBlock) (hat : vb'.ownBlock = vb.ownBlock ∨ vb'.ownBlock = some (w.alloc o).heap.size) (hk2 : k ≤ 2) :
    SG B w0 (w1.setCell ⟨Q, 1, none⟩ vb') N Q k gv g (paint C 5 w.heap.size) va vb' ps (qs ++ [x]) ∧ Touch w (w1.setCell ⟨Q, 1, none⟩ vb') (fun b => C b = 5) := by
  have t : Touch w (w1.setCell ⟨Q, 1, none⟩ vb') (fun b => C b = 5) := touch_append hg h.wm.gb h.wm.gq
  have wm := WM.more_b (G' := fun b => paint C 5 w.heap.size b = 5) h.wm hown hg hat (fun b hb => by
    by_cases e : w.heap.size ≤ b
    · exact paint_new e
    · rw [paint_old (by omega)]; exact hb) (fun b hb _ => paint_new hb)
  refine ⟨⟨wm, h.arr.of_block (t.block _ h.arr.lt (fun e => by have := h.cN; rw [e] at this; exact absurd this (by decide))), below_touch h.bel h.low t (by decide) h.room, keep_low h.low h.room 5, by have := h.room; have := t.size; omega, by rw [paint_old h.arr.lt]; exact h.cN, fun hg j hj => ?_⟩, t⟩
  obtain ⟨P, R, n, e1, e2, e3, e4, e5⟩ := h.each hg j hj
  exact ⟨P, R, n, e1, by rw [List.getElem?_append_left (by omega)]; exact e2, e3, stay_l (by omega) e4 t, stay_r (by omega) e5 t⟩
/-- what comes next is none, or a fresh pair -/
def Fresh (w : World) (C : Nat → Nat) (k : Nat) (p q : Option Nat) : Prop := ∃ P R n, p = some P ∧ q = some R ∧ n.ok ∧ LndAt w P (LS.fresh n) (fun b => C b = 2 * k + 1) ∧ SndAt w R (St.fresh n) (fun b => C b = 2 * k + 2)
theorem Fresh.touch {c : Nat} {p q : Option Nat} (h : Fresh w C k p q) (t : Touch w w1 (fun b => C b = c)) (h1 : c ≠ 2 * k + 1) (h2 : c ≠ 2 * k + 2) : Fresh w1 (paint C c w.heap.size) k p q := by
  obtain ⟨P, R, n, e1, e2, e3, e4, e5⟩ := h
  exact ⟨P, R, n, e1, e2, e3, stay_l (fun e => h1 e.symm) e4 t, stay_r (fun e => h2 e.symm) e5 t⟩
theorem SG.join {p q : Option Nat} {gv' : Bool} (h : SG B w0 w N Q k gv g C va vb (ps ++ [p]) (qs ++ [q])) (hp : ps.length = k) (hq : qs.length = k) (hn : gv' = true → gv = true ∧ Fresh w C k p q) : SG B w0 w N Q (k + 1) gv' g C va vb (ps ++ [p]) (qs ++ [q]) :=
  ⟨h.wm, h.arr, h.bel, h.low, h.room, h.cN, fun hg j hj => by
    obtain ⟨g1, P, R, n, rfl, rfl, e3, e4, e5⟩ := hn hg
    by_cases e : j = k
    · subst e
      exact ⟨P, R, n, by rw [← hp]; simp, by rw [← hq]; simp, e3, e4, e5⟩
    · exact h.each g1 j (by omega)⟩
end
end Sn
end Go.Proofs.Ytkgnmcekeeannaa
