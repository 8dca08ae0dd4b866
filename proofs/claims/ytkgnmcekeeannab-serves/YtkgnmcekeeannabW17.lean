import Derived.Test.YtkgnmcekeeannabW16
namespace Go.Proofs.Ytkgnmcekeeannab
open Go.RowKit Go.Deep
namespace Sn
open Bs
open Ms (txt text ok M mV mVm WriteOut owns_setCell)
set_option linter.unusedVariables false

structure SOk2 (s : St) : Prop where
  base : SOk s
  deb : ∀ i, i < s.debts.length → (debtOf s i).o < s.objs.length ∧ (debtOf s i).b ≤ 255 ∧ 0 < s.n.many (objOf s (debtOf s i).o).size (debtOf s i).b ∧ (debtOf s i).owes ≤ 8 ∧ (debtOf s i).turn ≤ 4611686018427387904
  snt : s.sent ≤ 4611686018427387904
theorem owing_some {l : List Db} {i : Nat} (hi : i < l.length) (h0 : ∀ j, j < i → (l.getD j ⟨0, 0, 0, 0⟩).owes = 0) (hp : 0 < (l.getD i ⟨0, 0, 0, 0⟩).owes) : owing l = some i := by
  unfold owing
  rw [List.findIdx?_eq_some_iff_getElem]
  refine ⟨hi, ?_, fun j hj => ?_⟩
  · have : l.getD i ⟨0, 0, 0, 0⟩ = l[i] := by simp [List.getD_eq_getElem?_getD, hi]
    rw [this] at hp
    simpa using hp
  · have hj' : j < l.length := by omega
    have e : l.getD j ⟨0, 0, 0, 0⟩ = l[j] := by simp [List.getD_eq_getElem?_getD, hj']
    have := h0 j hj
    rw [e] at this
    simp [this]
theorem owing_none {l : List Db} (h0 : ∀ j, j < l.length → (l.getD j ⟨0, 0, 0, 0⟩).owes = 0) : owing l = none := by
  unfold owing
  rw [List.findIdx?_eq_none_iff]
  intro d hd
  obtain ⟨j, hj, rfl⟩ := List.mem_iff_getElem.1 hd
  have e : l.getD j ⟨0, 0, 0, 0⟩ = l[j] := by simp [List.getD_eq_getElem?_getD, hj]
  have := h0 j hj
  rw [e] at this
  simp [this]

/-- Next, where something is owed for block i -/
def owed (s : St) (i : Nat) : St × ByteArray :=
  ({ s with debts := s.debts.set i { debtOf s i with owes := (debtOf s i).owes - 1, turn := (debtOf s i).turn + 1 } }, txt (text (dataM s.n (objOf s (debtOf s i).o) (debtOf s i).o (debtOf s i).b ((s.n.many (objOf s (debtOf s i).o).size (debtOf s i).b + (debtOf s i).turn) % (s.n.many (objOf s (debtOf s i).o).size (debtOf s i).b + s.n.spare)))))
theorem nxt_owed {s : St} {i : Nat} (h : owing s.debts = some i) : nxt s = owed s i := by unfold nxt; rw [h]; rfl

end Sn
end Go.Proofs.Ytkgnmcekeeannab
