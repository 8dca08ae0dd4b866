import Derived.Test.YtkgnmcekeeannabRows
import Derived.WalkKit
import Derived.WalkSmall
import Derived.Deep.OwnRows
import Derived.Deep.QuietTactic
import Derived.BigQuiet
import Derived.Deep.RegionWith
import Derived.Deep.DeepCutAuto
import Derived.Lib.Strings
/-
  Small laws on rows of numbers and of bytes, for the walks over messages.
-/
namespace Go.Proofs.Ytkgnmcekeeannab
open Go.RowKit Go.Deep
namespace Bs

theorem infoInt : (Try.prog.info? 3).map (fun i => (i.zero, i.size, i.bytes)) = some (some (.int .i64 0), 1, 8) := by kernel_rfl
theorem infoByte : (Try.prog.info? 5).map (fun i => (i.zero, i.size, i.bytes)) = some (some (.int .u8 0), 1, 1) := by kernel_rfl

theorem ret_int {k : IntKind} {a b : Int} (h : a = b) : Ending.returned (.int k a) = .returned (.int k b) := by rw [h]
theorem val_int {k : IntKind} {a b : Int} (h : a = b) : Value.int k a = Value.int k b := by rw [h]
theorem ret_bool {a b : Bool} (h : a = b) : Ending.returned (.bool a) = .returned (.bool b) := by rw [h]
theorem drawn_more {w wr : World} {q : Nat} (h : ∃ m, wr = w.drewN m) : ∃ m, wr.drewN q = w.drewN m := by
  obtain ⟨m, rfl⟩ := h
  exact ⟨m + q, World.drewN_drewN ..⟩
theorem drawn_below {w wr : World} (h : ∃ m, wr = w.drewN m) : Below w.heap.size w wr := by
  obtain ⟨m, rfl⟩ := h; exact below_drewN (Below.refl _ _) m
theorem below_same {w w' : World} (h : w' = w) : Below w.heap.size w w' := by subst h; exact Below.refl _ _

theorem cell_new {w : World} {b i : Nat} {c : Array Value} {t : TypeId} {v : Value} (hb : b = w.heap.size) (hv : c[i]? = some v) : (w.alloc (.cells c t)).cell? ⟨b, i, none⟩ = some v := by
  subst hb
  have h : (w.alloc (.cells c t)).heap[w.heap.size]? = some (.cells c t) := heap_alloc_new w _
  simp only [World.cell?]
  rw [h]
  exact hv
theorem cell_old {w : World} {b i : Nat} {o : Obj} {v : Value} (hb : b < w.heap.size) (hv : w.cell? ⟨b, i, none⟩ = some v) : (w.alloc o).cell? ⟨b, i, none⟩ = some v := by
  rw [← hv]
  exact World.cell?_of_block (a := ⟨b, i, none⟩) (Below.heap_alloc w o b hb)
theorem cell_drawn {w : World} {b i q : Nat} {v : Value} (hv : w.cell? ⟨b, i, none⟩ = some v) : (w.drewN q).cell? ⟨b, i, none⟩ = some v := hv

def bv (x : UInt8) : Value := .int .u8 x.toNat
/-- a row of bytes, as a text -/
theorem conv_row {w : World} {b n cap : Nat} {f : Nat → Value} (l : List UInt8) (hn : l.length = n) (h : w.rowIs b 5 n f) (hf : ∀ i, i < n → ∀ x, l[i]? = some x → f i = bv x) :
    (convert 72 9 (.slice (some ⟨b, 0, none⟩) n cap)).run Try.prog w = .ok (.string ⟨l.toArray⟩) w := by
  subst hn
  refine run_convert_bytes_back w 72 9 5 ⟨b, 0, none⟩ cap l Try.underlying72 Try.underlying5 Try.underlying9 (fun j hj => ?_)
  have e : (⟨b, 0, none⟩ : Addr).add j = ⟨b, j, none⟩ := by
    unfold Addr.add
    by_cases e : j = 0
    · subst e; rfl
    · simp [e]
  rw [e, h.cell hj, hf j hj l[j] (by simp [hj])]
  rfl
end Bs
end Go.Proofs.Ytkgnmcekeeannab
