import Derived.Test.YtkgnmcekeeannabW18
import Derived.Test.YtkgnmcekeeannabW16
namespace Go.Proofs.Ytkgnmcekeeannab
open Go.RowKit Go.Deep
namespace Ms
open Bs
set_option linter.unusedVariables false

end Ms
end Go.Proofs.Ytkgnmcekeeannab
namespace Go.Proofs.Ytkgnmcekeeannab
open Go.RowKit Go.Deep
namespace Ms
open Bs
set_option linter.unusedVariables false

end Ms
end Go.Proofs.Ytkgnmcekeeannab
namespace Go.Proofs.Ytkgnmcekeeannab
open Go.RowKit Go.Deep
namespace Ms
open Bs
set_option linter.unusedVariables false

end Ms
end Go.Proofs.Ytkgnmcekeeannab
namespace Go.Proofs.Ytkgnmcekeeannab
open Go.RowKit Go.Deep
namespace Sn
open Bs
open Ms (txt text ok M It mV mVm mBox mRow mRow_new itF itOK ItemsAt Tells ReadOut owns_setCell owns_items icells)
set_option linter.unusedVariables false

theorem least_or_none (l : List Db) : (∃ i, i < l.length ∧ (∀ j, j < i → (l.getD j ⟨0, 0, 0, 0⟩).owes = 0) ∧ 0 < (l.getD i ⟨0, 0, 0, 0⟩).owes) ∨ ∀ j, j < l.length → (l.getD j ⟨0, 0, 0, 0⟩).owes = 0 := by
  have key : ∀ n, n ≤ l.length → (∃ i, i < n ∧ (∀ j, j < i → (l.getD j ⟨0, 0, 0, 0⟩).owes = 0) ∧ 0 < (l.getD i ⟨0, 0, 0, 0⟩).owes) ∨ ∀ j, j < n → (l.getD j ⟨0, 0, 0, 0⟩).owes = 0 := by
    intro n
    induction n with
    | zero => intro _; exact .inr (fun j hj => by omega)
    | succ n ih =>
      intro hn
      rcases ih (by omega) with ⟨i, h1, h2⟩ | h
      · exact .inl ⟨i, by omega, h2⟩
      · by_cases e : (l.getD n ⟨0, 0, 0, 0⟩).owes = 0
        · exact .inr (fun j hj => by
            by_cases e2 : j = n
            · rw [e2]; exact e
            · exact h j (by omega))
        · exact .inl ⟨n, by omega, h, by omega⟩
  exact key l.length (Nat.le_refl _)
/-! ### Hear -/
def mixD (f : Db → Db) (l : List Db) (i : Nat) : List Db := (l.take i).map f ++ l.drop i
theorem mixD_zero (f : Db → Db) (l : List Db) : mixD f l 0 = l := by simp [mixD]
theorem mixD_all (f : Db → Db) (l : List Db) : mixD f l l.length = l.map f := by simp [mixD]
theorem mixD_length (f : Db → Db) (l : List Db) (i : Nat) (h : i ≤ l.length) : (mixD f l i).length = l.length := by simp [mixD]; omega
theorem mixD_at (f : Db → Db) (l : List Db) (i : Nat) (h : i < l.length) (d0 : Db) : (mixD f l i).getD i d0 = l.getD i d0 := by
  have e : (List.map f (List.take i l)).length = i := by simp; omega
  rw [mixD, List.getD_eq_getElem?_getD, List.getD_eq_getElem?_getD, List.getElem?_append_right (by omega), e, Nat.sub_self, List.getElem?_drop, Nat.add_zero]
theorem mixD_succ (f : Db → Db) (l : List Db) (i : Nat) (h : i < l.length) (d0 : Db) : (mixD f l i).set i (f (l.getD i d0)) = mixD f l (i + 1) := by
  have e : (List.map f (List.take i l)).length = i := by simp; omega
  have hg : l.getD i d0 = l[i] := by simp [List.getD_eq_getElem?_getD, h]
  rw [hg]
  unfold mixD
  rw [List.set_append, if_neg (by omega), e, Nat.sub_self, List.drop_eq_getElem_cons h, List.set_cons_zero, List.take_succ_eq_append_getElem h, List.map_append, List.append_assoc]
  rfl
theorem mixD_same (f : Db → Db) (l : List Db) (i : Nat) (h : i < l.length) (d0 : Db) (hf : f (l.getD i d0) = l.getD i d0) : mixD f l (i + 1) = mixD f l i := by
  rw [← mixD_succ f l i h d0, hf]
  have hg : (mixD f l i).getD i d0 = l.getD i d0 := mixD_at f l i h d0
  rw [← hg]
  have hl : i < (mixD f l i).length := by rw [mixD_length f l i (by omega)]; exact h
  apply List.ext_getElem?
  intro j
  by_cases ej : i = j
  · subst ej
    rw [List.getElem?_set_self hl]
    simp [List.getD_eq_getElem?_getD, hl]
  · rw [List.getElem?_set_ne ej]
theorem due_ob (s : St) (t : It) (d : Db) : (due s t d).o = d.o ∧ (due s t d).b = d.b := by
  unfold due
  split
  · exact ⟨rfl, rfl⟩
  · simp only []
    split <;> split <;> exact ⟨rfl, rfl⟩
/-- dues up to item j -/
def duesTo (s : St) (l : List It) (j : Nat) : List Db := (l.take j).foldl (fun ds t => ds.map (due s t)) s.debts
theorem duesTo_zero (s : St) (l : List It) : duesTo s l 0 = s.debts := rfl
theorem duesTo_all (s : St) (l : List It) : duesTo s l l.length = dues s l := by unfold duesTo dues; rw [List.take_length]
theorem duesTo_succ (s : St) (l : List It) (j : Nat) (h : j < l.length) : duesTo s l (j + 1) = (duesTo s l j).map (due s (itF l j)) := by
  have e : itF l j = l[j] := by simp [itF, List.getD_eq_getElem?_getD, h]
  unfold duesTo
  rw [List.take_succ_eq_append_getElem h, List.foldl_append, e]
  rfl
/-- the blocks are the same ones -/
def SameB (s : St) (l : List Db) : Prop := l.length = s.debts.length ∧ ∀ i, i < s.debts.length → (l.getD i ⟨0, 0, 0, 0⟩).o = (debtOf s i).o ∧ (l.getD i ⟨0, 0, 0, 0⟩).b = (debtOf s i).b
theorem SameB.map {s : St} {l : List Db} (h : SameB s l) (t : It) : SameB s (l.map (due s t)) := by
  refine ⟨by rw [List.length_map]; exact h.1, fun i hi => ?_⟩
  have hl : i < l.length := by rw [h.1]; exact hi
  have e : (l.map (due s t)).getD i ⟨0, 0, 0, 0⟩ = due s t (l.getD i ⟨0, 0, 0, 0⟩) := by simp [List.getD_eq_getElem?_getD, hl]
  rw [e, (due_ob s t _).1, (due_ob s t _).2]
  exact h.2 i hi
theorem SameB.duesTo (s : St) (l : List It) : ∀ j, j ≤ l.length → SameB s (duesTo s l j)
  | 0, _ => ⟨rfl, fun i _ => ⟨rfl, rfl⟩⟩
  | j + 1, h => by rw [duesTo_succ s l j (by omega)]; exact (SameB.duesTo s l j (by omega)).map _
end Sn
end Go.Proofs.Ytkgnmcekeeannab
