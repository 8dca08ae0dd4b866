import Derived.Test.YtkgnmcekeeannabW19
namespace Go.Proofs.Ytkgnmcekeeannab
open Go.RowKit Go.Deep
namespace Sn
open Bs
open Ms (txt text ok M It mV mVm mBox mRow mRow_new itF itOK ItemsAt Tells ReadOut owns_setCell owns_items icells)
set_option linter.unusedVariables false

/-- nothing below has turned but where the debts lie -/
def KD (w2 wr : World) (own : Option Nat) : Prop := w2.heap.size ≤ wr.heap.size ∧ ∀ b, b < w2.heap.size → own ≠ some b → wr.heap[b]? = w2.heap[b]?
theorem KD.refl (w : World) (own : Option Nat) : KD w w own := ⟨Nat.le_refl _, fun _ _ _ => rfl⟩
theorem KD.below {w2 wr w' : World} {own : Option Nat} (h : KD w2 wr own) (hb : Below wr.heap.size wr w') : KD w2 w' own := ⟨Nat.le_trans h.1 hb.size, fun b h1 h2 => (hb.block b (by have := h.1; omega)).trans (h.2 b h1 h2)⟩
theorem KD.trans {a b c : World} {own : Option Nat} (h : KD a b own) (k : KD b c own) : KD a c own := ⟨Nat.le_trans h.1 k.1, fun x h1 h2 => (k.2 x (by have := h.1; omega) h2).trans (h.2 x h1 h2)⟩
theorem KD.set {w2 wr : World} {g j : Nat} {v : Value} (h : KD w2 wr (some g)) : KD w2 (wr.setCell ⟨g, j, none⟩ v) (some g) := ⟨by simp; exact h.1, fun b h1 h2 => by rw [heap_setCell_other _ _ _ _ (fun e => h2 (by rw [e])), h.2 b h1 h2]⟩
theorem KD.drew {w2 wr : World} {own : Option Nat} (h : KD w2 wr own) : KD w2 wr.drew own := ⟨h.1, h.2⟩
theorem KD.cell {w2 wr : World} {own : Option Nat} (h : KD w2 wr own) {b j : Nat} {v : Value} (hb : b < w2.heap.size) (hne : own ≠ some b) (hv : w2.cell? ⟨b, j, none⟩ = some v) : wr.cell? ⟨b, j, none⟩ = some v :=
  (World.cell?_of_block (a := ⟨b, j, none⟩) (h.2 b hb hne)).trans hv
/-- how many an item asks for -/
def askN (k : Nat) (t : It) : Nat := if 0 < t.c ∧ t.c < (k : Int) then t.c.toNat else k
theorem due_skip (s : St) (t : It) (d : Db) (h : (d.o : Int) ≠ t.o ∨ (0 < t.c ∧ (d.b : Int) ≠ t.b)) : due s t d = d := by unfold due; rw [if_pos h]
theorem due_ask (s : St) (t : It) (d : Db) (h : ¬ ((d.o : Int) ≠ t.o ∨ (0 < t.c ∧ (d.b : Int) ≠ t.b))) : due s t d = if d.owes < askN (s.n.many (objOf s d.o).size d.b) t then { d with owes := askN (s.n.many (objOf s d.o).size d.b) t } else d := by unfold due; rw [if_neg h]; rfl

end Sn
end Go.Proofs.Ytkgnmcekeeannab
