import Derived.Test.YtkgnmcekeeannabW09
import Derived.Test.YtkgnmcekeeannabW13
import Derived.StillTailTactics
import Derived.Test.YtkgnmcekeeannabW04
import Derived.Test.YtkgnmcekeeannabW01
import Derived.Test.YtkgnmcekeeannabW02
import Derived.Test.YtkgnmcekeeannabW03
namespace Go.Proofs.Ytkgnmcekeeannab
open Go.RowKit Go.Deep
namespace Sn
open Bs
open Ms (txt text ok M)
set_option linter.unusedVariables false

theorem filledB_length (n : Nm) (o : ByteArray) (b : Nat) : (filledB n o b).length = n.many o.size b * n.size := by simp [filledB]
theorem symOf_length (n : Nm) (o : ByteArray) (b num : Nat) : (symOf n o b num).length = n.size := by unfold symOf; rw [Cod.flat_length]; omega
theorem dataM_ok (n : Nm) (hn : n.ok) (o : ByteArray) (i b num : Nat) (ho : 1 ≤ o.size ∧ o.size ≤ 256) (hi : i ≤ 7) (hb : b ≤ 255) (hnum : num ≤ 15) : ok (dataM n o i b num) := by
  refine .inl ⟨rfl, ?_⟩
  have hz : (txt (symOf n o b num)).size = n.size := by rw [Ms.txt_size, symOf_length]
  obtain ⟨h1, h2, _⟩ := hn
  exact ⟨by show (0 : Int) ≤ (i : Int); omega, by show (i : Int) ≤ 7; omega, by show (0 : Int) ≤ (b : Int); omega, by show (b : Int) ≤ 255; omega, by show (0 : Int) ≤ (num : Int); omega, by show (num : Int) ≤ 15; omega, by show (1 : Int) ≤ (o.size : Int); omega, by show (o.size : Int) ≤ 256; omega, by show 1 ≤ (txt (symOf n o b num)).size; omega, by show (txt (symOf n o b num)).size ≤ 16; omega, rfl, rfl⟩

/-- what a call that only reads a sender finds -/
structure SR (w : World) (P : Nat) (s : St) (g co : Nat) : Prop where
  c0 : w.cell? ⟨P, 0, none⟩ = some (.int .i64 s.n.size)
  c1 : w.cell? ⟨P, 1, none⟩ = some (.int .i64 s.n.block)
  c2 : w.cell? ⟨P, 2, none⟩ = some (.int .i64 s.n.spare)
  c3 : w.cell? ⟨P, 3, none⟩ = some (.slice (some ⟨g, 0, none⟩) s.objs.length co)
  lt : P < w.heap.size
  gl : g < w.heap.size
  ob : ∀ i, i < s.objs.length → w.cell? ⟨g, i, none⟩ = some (.string (objOf s i))
theorem SR.drawn {w : World} {P : Nat} {s : St} {g co : Nat} (h : SR w P s g co) (q : Nat) : SR (w.drewN q) P s g co := ⟨h.c0, h.c1, h.c2, h.c3, h.lt, h.gl, h.ob⟩
theorem SR.below {w w' : World} {P : Nat} {s : St} {g co : Nat} (h : SR w P s g co) (hb : Below w.heap.size w w') : SR w' P s g co := by
  have hs := hb.size
  have := h.lt
  have := h.gl
  exact ⟨(hb.cell (p := ⟨P, 0, none⟩) h.lt).trans h.c0, (hb.cell (p := ⟨P, 1, none⟩) h.lt).trans h.c1, (hb.cell (p := ⟨P, 2, none⟩) h.lt).trans h.c2, (hb.cell (p := ⟨P, 3, none⟩) h.lt).trans h.c3, by omega, by omega, fun i hi => (hb.cell (p := ⟨g, i, none⟩) h.gl).trans (h.ob i hi)⟩

end Sn
end Go.Proofs.Ytkgnmcekeeannab
namespace Go.Proofs.Ytkgnmcekeeannab
open Go.RowKit
namespace Crc
open Fld (ret_int val_int i64_and_nat i64_xor_nat i64_bit)

theorem t_val (c m H : Nat) (hc : c < 256) (hH : H < 65536) :
    bits .xor .i64 (bits .and .i64 ((c : Int) / 2 ^ m) 1) (bits .and .i64 ((H : Int) / 32768) 1) = (((c / 2 ^ m % 2 + H / 32768) % 2 : Nat) : Int) := by
  have h1 := i64_bit c m (by omega)
  have h2 := i64_bit H 15 (by omega)
  rw [h1, show ((32768 : Int)) = 2 ^ 15 from rfl, h2, show (2 ^ 15 : Nat) = 32768 from rfl, show H / 32768 % 2 = H / 32768 from by omega]
  rcases Nat.mod_two_eq_zero_or_one (c / 2 ^ m) with p | p <;> rcases (show H / 32768 = 0 ∨ H / 32768 = 1 from by omega) with q | q <;> rw [p, q] <;> decide
theorem x_val (H : Nat) : Hid (bits .xor .i64 (bits .xor .i64 (bits .xor .i64 ((H : Int) * 2 % 65536) 1) 32) 4096 = (((H * 2 % 65536) ^^^ 4129 : Nat) : Int)) := by
  unfold Hid
  have hl : H * 2 % 65536 < 2 ^ 16 := Nat.mod_lt _ (by decide)
  have e : ((H : Int) * 2 % 65536) = ((H * 2 % 65536 : Nat) : Int) := by omega
  rw [e]
  generalize H * 2 % 65536 = x at *
  have x1 : x ^^^ 1 < 2 ^ 16 := Nat.xor_lt_two_pow hl (by decide)
  have x2 : x ^^^ 1 ^^^ 32 < 2 ^ 16 := Nat.xor_lt_two_pow x1 (by decide)
  have h1 := i64_xor_nat x 1 (by omega) (by decide)
  have h2 := i64_xor_nat (x ^^^ 1) 32 (by omega) (by decide)
  have h3 := i64_xor_nat (x ^^^ 1 ^^^ 32) 4096 (by omega) (by decide)
  have e1 : ((1 : Nat) : Int) = 1 := rfl
  have e2 : ((32 : Nat) : Int) = 32 := rfl
  have e3 : ((4096 : Nat) : Int) = 4096 := rfl
  rw [e1] at h1
  rw [e2] at h2
  rw [e3] at h3
  rw [h1, h2, h3, Nat.xor_assoc, Nat.xor_assoc, show (1 ^^^ (32 ^^^ 4096) : Nat) = 4129 from by decide]

end Crc
end Go.Proofs.Ytkgnmcekeeannab
namespace Go.Proofs.Ytkgnmcekeeannab
open Go.RowKit Go.Deep
namespace Ms
open Bs

/-- every number from 0 to the one beside it -/
def Within (n : Nat) (l most : Nat → Int) : Prop := ∀ i, i < n → 0 ≤ l i ∧ l i ≤ most i

end Ms
end Go.Proofs.Ytkgnmcekeeannab
namespace Go.Proofs.Ytkgnmcekeeannab
open Go.RowKit Go.Deep
namespace Ms
open Bs
set_option linter.unusedVariables false

theorem end_text (x : UInt8) : (⟨#[69]⟩ : ByteArray) ++ (⟨([x] : List UInt8).toArray⟩ : ByteArray) = ⟨([69, x] : List UInt8).toArray⟩ := by
  rw [show (⟨#[69]⟩ : ByteArray) = ⟨([69] : List UInt8).toArray⟩ from rfl, ByteArray.mk_append_mk]; rfl

end Ms
end Go.Proofs.Ytkgnmcekeeannab
