import Derived.Test.YtkgnmcekeeannabW17
import Derived.Test.YtkgnmcekeeannabW03
namespace Go.Proofs.Ytkgnmcekeeannab
open Go.RowKit Go.Deep
namespace Sn
open Bs
open Ms (txt text ok M mV mVm WriteOut owns_setCell)
set_option linter.unusedVariables false

theorem sRow_set5 (n : Nm) (vo vd : Value) (a b j : Nat) (hj : j < 6) : (if j = 5 then .int .i64 b else sRow n vo vd a j) = sRow n vo vd b j := by
  match j, hj with
  | 0, _ => rfl
  | 1, _ => rfl
  | 2, _ => rfl
  | 3, _ => rfl
  | 4, _ => rfl
  | 5, _ => rfl
theorem order_cons (n : Nm) (o : ByteArray) (l : List ByteArray) (i left : Nat) : order n (o :: l) i left = if left < n.all o.size then some (i, left) else order n l (i + 1) (left - n.all o.size) := rfl
theorem drop_obj (s : St) (i : Nat) (hi : i < s.objs.length) : s.objs.drop i = objOf s i :: s.objs.drop (i + 1) := by
  rw [List.drop_eq_getElem_cons hi]
  congr 1
  simp [objOf, List.getD_eq_getElem?_getD, hi]
theorem endM_ok (k : Nat) (h : k ≤ 8) : ok (endM k) := .inr (.inr ⟨rfl, by show (0 : Int) ≤ (k : Int); omega, by show (k : Int) ≤ 8; omega, ⟨rfl, rfl, rfl, rfl, rfl⟩, rfl⟩)
/-- Next, where nothing is owed -/
def rest (s : St) : St × ByteArray :=
  match order s.n s.objs 0 s.sent with
  | some (i, left) => ({ s with sent := s.sent + 1 }, txt (text (dataM s.n (objOf s i) i (left / s.n.block) (left % s.n.block))))
  | none => (s, txt (text (endM s.objs.length)))
theorem nxt_rest {s : St} (h : owing s.debts = none) : nxt s = rest s := by unfold nxt; rw [h]; rfl

end Sn
end Go.Proofs.Ytkgnmcekeeannab
namespace Go.Proofs.Ytkgnmcekeeannab
open Go.RowKit Go.Deep
namespace Ms
open Bs
set_option linter.unusedVariables false

def zBox : Obj := mBox 0 0 0 0 0 ⟨#[]⟩ none 0 0 0

end Ms
end Go.Proofs.Ytkgnmcekeeannab
