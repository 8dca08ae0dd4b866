import Derived.Test.YtkgnmcekeeannabW20
/-
  The reference's receiver hears data that it takes.
-/
namespace Go.Proofs.Ytkgnmcekeeannab
open Go.RowKit Go.Deep
namespace Sn
open Bs
open Ms (txt text ok M It mV mVm mBox mRow mRow_new itF itOK ItemsAt Tells ReadOut owns_setCell owns_items icells)
set_option linter.unusedVariables false

theorem infoMsg : (Try.prog.info? 24).map (fun i => (i.zero, i.size, i.bytes)) = some (some (.agg #[.int .i64 0, .int .i64 0, .int .i64 0, .int .i64 0, .int .i64 0, .string ⟨#[]⟩, .slice none 0 0, .int .i64 0]), 8, 88) := by kernel_rfl
theorem rRow_set3 (n : Nm) (vh v : Value) (known taken : Nat) (j : Nat) (hj : j < 6) : (if j = 3 then v else rRow n vh known taken j) = rRow n v known taken j := by
  match j, hj with
  | 0, _ => rfl
  | 1, _ => rfl
  | 2, _ => rfl
  | 3, _ => rfl
  | 4, _ => rfl
  | 5, _ => rfl
theorem news8 {w : World} {a b c d e f g h : Value} {t : TypeId} : ∀ j v, ([a, b, c, d, e, f, g, h] : List Value)[j]? = some v → (w.alloc (.cells #[a, b, c, d, e, f, g, h] t)).cell? ((⟨w.heap.size, 0, none⟩ : Addr).add j) = some v := by
  intro j v hj
  rw [add_eq0]
  have hh : (w.alloc (.cells #[a, b, c, d, e, f, g, h] t)).heap[w.heap.size]? = some (.cells #[a, b, c, d, e, f, g, h] t) := heap_alloc_new w _
  simp only [World.cell?]
  rw [hh]
  simpa using hj

end Sn
end Go.Proofs.Ytkgnmcekeeannab
