import Derived.Test.YtkgnmcekeeannabW22
import Derived.Laws.AppendOwnNone
/-
  The reference's receiver: what an object lacks.
-/
namespace Go.Proofs.Ytkgnmcekeeannab
open Go.RowKit Go.Deep
namespace Sn
open Bs
open Ms (txt text ok M It mV mVm mBox mRow mRow_new itF itOK ItemsAt Tells ReadOut owns_setCell owns_items icells icell icells_succ icells_congr)
set_option linter.unusedVariables false

/-- what is lacking of one block -/
def lackOf (r : Rt) (o b : Nat) : Option It := if (r.come o b).length < r.n.many (r.len o) b then some ⟨o, b, ((r.n.many (r.len o) b - (r.come o b).length : Nat) : Int)⟩ else none
def lackTo (r : Rt) (o j : Nat) : List It := (List.range j).filterMap (lackOf r o)
theorem lackTo_succ (r : Rt) (o j : Nat) : lackTo r o (j + 1) = lackTo r o j ++ (lackOf r o j).toList := by
  unfold lackTo
  rw [List.range_succ, List.filterMap_append]
  cases h : lackOf r o j <;> simp [h]
theorem lacks_eq (r : Rt) (o : Nat) : r.lacks o = if r.len o = 0 then [⟨o, 0, 0⟩] else lackTo r o (r.n.blocks (r.len o)) := rfl
theorem lackTo_len (r : Rt) (o j : Nat) : (lackTo r o j).length ≤ j := by
  have := List.length_filterMap_le (lackOf r o) (List.range j)
  simpa [lackTo] using this
theorem icells_app (l : List It) (t : It) : icells (itF (l ++ [t])) (l.length + 1) = icells (itF l) l.length ++ [.int .i64 t.o, .int .i64 t.b, .int .i64 t.c] := by
  rw [icells_succ]
  have e : itF (l ++ [t]) l.length = t := by simp [itF, List.getD_eq_getElem?_getD]
  rw [e]
  congr 1
  exact icells_congr (fun i hi => by simp [itF, List.getD_eq_getElem?_getD, List.getElem?_append_left hi])
end Sn
end Go.Proofs.Ytkgnmcekeeannab
/-
  The reference's receiver: Request.
-/
namespace Go.Proofs.Ytkgnmcekeeannab
open Go.RowKit Go.Deep
namespace Sn
open Bs
open Ms (txt text ok M It mV mVm mBox mRow mRow_new itF itOK ItemsAt Tells ReadOut owns_setCell owns_items icells icell icells_succ icells_congr)
set_option linter.unusedVariables false

def itsTo (r : Rt) (j : Nat) : List It := (List.range j).flatMap r.lacks
theorem itsTo_succ (r : Rt) (j : Nat) : itsTo r (j + 1) = itsTo r j ++ r.lacks j := by
  unfold itsTo
  rw [List.range_succ, List.flatMap_append]; simp
theorem icells_many (a b : List It) : icells (itF (a ++ b)) (a.length + b.length) = icells (itF a) a.length ++ icells (itF b) b.length := by
  induction b generalizing a with
  | nil => simp [icells]
  | cons t b ih =>
    have e1 : a ++ t :: b = (a ++ [t]) ++ b := by simp
    have e2 : a.length + (t :: b).length = (a ++ [t]).length + b.length := by simp; omega
    have e3 : (a ++ [t]).length = a.length + 1 := by simp
    have h1 := ih [t]
    have h2 := icells_app [] t
    simp only [List.nil_append, List.length_nil, Nat.zero_add] at h2
    have e4 : (t :: b).length = [t].length + b.length := by simp; omega
    have e5 : t :: b = [t] ++ b := rfl
    rw [e2, e1, ih (a ++ [t]), e3, icells_app a t, List.append_assoc]
    congr 1
    rw [e4]
    show _ = icells (itF ([t] ++ b)) _
    rw [h1]
    show _ = icells (itF [t]) 1 ++ _
    rw [h2]
    simp [icells]
theorem lacks_len (r : Rt) (hr : ROk r) (o : Nat) : (r.lacks o).length ≤ 256 := by
  rw [lacks_eq]
  split
  · simp
  · have := lackTo_len r o (r.n.blocks (r.len o))
    have := blocks_le r.n hr.nok (r.len o) (hr.len o).2
    omega
theorem itsTo_len (r : Rt) (hr : ROk r) (j : Nat) : (itsTo r j).length ≤ 256 * j := by
  induction j with
  | zero => simp [itsTo]
  | succ j ih => rw [itsTo_succ, List.length_append]; have := lacks_len r hr j; omega
theorem lacks_ok (r : Rt) (hr : ROk r) (o : Nat) (ho : o ≤ 7) : ∀ t ∈ r.lacks o, itOK t := by
  intro t ht
  rw [lacks_eq] at ht
  split at ht
  · rw [List.mem_singleton.1 ht]
    exact ⟨by show (0 : Int) ≤ o; omega, by show (o : Int) ≤ 7; omega, by show (0 : Int) ≤ 0; decide, by show (0 : Int) ≤ 255; decide, by show (0 : Int) ≤ 0; decide, by show (0 : Int) ≤ 8; decide⟩
  · unfold lackTo at ht
    obtain ⟨b, hb, e⟩ := List.mem_filterMap.1 ht
    rw [List.mem_range] at hb
    have hbl := blocks_le r.n hr.nok (r.len o) (hr.len o).2
    have hm := many_le r.n (r.len o) b
    have hb8 := hr.nok.2.2.2.1
    unfold lackOf at e
    split at e
    · simp only [Option.some.injEq] at e
      subst e
      exact ⟨by show (0 : Int) ≤ o; omega, by show (o : Int) ≤ 7; omega, by show (0 : Int) ≤ b; omega, by show (b : Int) ≤ 255; omega, by show (0 : Int) ≤ ((_ : Nat) : Int); omega, by show (((_ : Nat)) : Int) ≤ 8; omega⟩
    · cases e
theorem items_ok (r : Rt) (hr : ROk r) : ∀ t ∈ r.items, itOK t := by
  intro t ht
  unfold Rt.items at ht
  obtain ⟨o, ho, h⟩ := List.mem_flatMap.1 ht
  rw [List.mem_range] at ho
  have := hr.kn
  exact lacks_ok r hr o (by omega) t h
end Sn
end Go.Proofs.Ytkgnmcekeeannab
