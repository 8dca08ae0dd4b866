import Derived.Test.YtkgnmcekeeannabW12
namespace Go.Proofs.Ytkgnmcekeeannab
open Go.RowKit Go.Deep
namespace Cod
open Pol (G fm fi prodBut share lag sumTo pw gauss gstep factor coef)
open Fld (ret_int val_int i64_xor_nat)

theorem coef_drop (k : Nat) (q : Nat → G) (j : Nat) (h : j < k) : (coef k q).drop j = q j :: (coef k q).drop (j + 1) := by
  rw [List.drop_eq_getElem_cons (by rw [Pol.coef_length]; exact h)]
  simp [coef]

theorem flat_get (size : Nat) (f : Nat → Nat → G) : ∀ c a, a < c * size → (flat size f c)[a]? = some (f (a / size) (a % size))
  | 0, a, h => by simp at h
  | c + 1, a, h => by
    have hs : 0 < size := by
      rcases Nat.eq_zero_or_pos size with e | e
      · subst e; simp at h
      · exact e
    simp only [flat]
    by_cases h1 : a < c * size
    · rw [List.getElem?_append_left (by rw [flat_length]; exact h1), flat_get size f c a h1]
    · rw [List.getElem?_append_right (by rw [flat_length]; omega), flat_length]
      have hd : a / size = c := by
        rw [Nat.div_eq_iff hs]
        rw [Nat.succ_mul] at h
        exact ⟨by omega, by omega⟩
      have hm : a % size = a - c * size := by
        have := Nat.div_add_mod a size
        rw [hd, Nat.mul_comm] at this
        omega
      have hl : a - c * size < size := by rw [Nat.succ_mul] at h; omega
      rw [List.getElem?_map, List.getElem?_range hl, hd, hm]
      rfl

/-- a row of bytes, as a text -/
theorem conv_row {w : World} {b n cap : Nat} {f : Nat → Value} (l : List G) (hn : l.length = n) (h : w.rowIs b 5 n f) (hf : ∀ i, i < n → ∀ x, l[i]? = some x → f i = bv x) :
    (convert 72 9 (.slice (some ⟨b, 0, none⟩) n cap)).run Try.prog w = .ok (.string ⟨l.toArray⟩) w := by
  subst hn
  refine run_convert_bytes_back w 72 9 5 ⟨b, 0, none⟩ cap l Try.underlying72 Try.underlying5 Try.underlying9 (fun j hj => ?_)
  have e : (⟨b, 0, none⟩ : Addr).add j = ⟨b, j, none⟩ := by
    unfold Addr.add
    by_cases e : j = 0
    · subst e; rfl
    · simp [e]
  rw [e, h.cell hj, hf j hj l[j] (by simp [hj])]
  rfl
/-- the row of bytes as it is filled: every place ahead of place p, and of place p the first j -/
def filled (size : Nat) (F : Nat → Nat → G) (p j a : Nat) : Value := if a % size < p ∨ (a % size = p ∧ a / size < j) then bv (F (a / size) (a % size)) else .int .u8 0
theorem filled_next (size count : Nat) (F : Nat → Nat → G) (p : Nat) (a : Nat) (ha : a < count * size) : filled size F p count a = filled size F (p + 1) 0 a := by
  unfold filled
  have : a / size < count := Nat.div_lt_of_lt_mul (by rw [Nat.mul_comm]; exact ha)
  clear ha
  congr 1
  simp only [eq_iff_iff]
  generalize a / size = d at *
  generalize a % size = m at *
  omega
theorem filled_set (size : Nat) (F : Nat → Nat → G) (p j : Nat) (hp : p < size) (a : Nat) : (if a = j * size + p then bv (F j p) else filled size F p j a) = filled size F p (j + 1) a := by
  have hd : (j * size + p) / size = j := by rw [Nat.mul_comm, Nat.mul_add_div (by omega), Nat.div_eq_of_lt hp]; omega
  have hm : (j * size + p) % size = p := by rw [Nat.mul_comm, Nat.mul_add_mod, Nat.mod_eq_of_lt hp]
  by_cases e : a = j * size + p
  · subst e; simp [filled, hd, hm]
  · rw [if_neg e]
    unfold filled
    have h := Nat.div_add_mod a size
    congr 1
    simp only [eq_iff_iff]
    constructor
    · omega
    · rintro (h1 | ⟨h1, h2⟩)
      · exact .inl h1
      · refine .inr ⟨h1, ?_⟩
        rcases Nat.lt_or_eq_of_le (Nat.le_of_lt_succ h2) with h3 | h3
        · exact h3
        · exact absurd (by rw [← h, h1, h3, Nat.mul_comm]) e

theorem row_kept {w w1 : World} {v : Value} {b t n : Nat} {f : Nat → Value} {o : Obj} (h : w.rowIs b t n f) (hg : (w.alloc o).grownBy w1 v.ownBlock) (hne : ∀ k, v.ownBlock = some k → b < k) : w1.rowIs b t n f := by
  refine h.of_block ?_
  rw [hg.block b (by have := h.lt; simp; omega) (fun e => by have := hne b e.symm; omega)]
  exact Below.heap_alloc w o b h.lt

theorem cell_other {w : World} {N a b i : Nat} {v : Value} (h : b ≠ N) : (w.setCell ⟨N, a, none⟩ v).cell? ⟨b, i, none⟩ = w.cell? ⟨b, i, none⟩ :=
  World.cell?_of_block (a := ⟨b, i, none⟩) (Below.heap_setCell w ⟨N, a, none⟩ v b h)

end Cod
end Go.Proofs.Ytkgnmcekeeannab
namespace Go.Proofs.Ytkgnmcekeeannab
open Go.RowKit Go.Deep
namespace Cod
open Pol (G fm fi prodBut share lag sumTo pw gauss gstep factor coef)
open Fld (ret_int val_int i64_xor_nat)

theorem apart_of {n : Nat} {ns : Nat → Nat} (hl : ∀ i, i < n → ns i < 16) (hd : ∀ i j, i < n → j < n → i ≠ j → ns i ≠ ns j) : Pol.Apart n (gx ns) := fun i j hi hj hne e => by
  have h1 := congrArg UInt8.toNat e
  unfold gx at h1
  rw [toNat_g (by have := hl i hi; omega), toNat_g (by have := hl j hj; omega)] at h1
  exact hd i j hi hj hne h1

theorem isEmpty_no (s : ByteArray) (h : 0 < s.size) : s.toList.isEmpty = false := by
  rw [ByteArray.toList_eq, List.isEmpty_eq_false_iff]
  intro e
  have : s.data.toList.length = 0 := by rw [e]; rfl
  have h2 : s.data.toList.length = s.size := by simp
  omega
theorem isEmpty_yes (s : ByteArray) (h : s.size = 0) : s.toList.isEmpty = true := by
  rw [ByteArray.toList_eq, List.isEmpty_iff]
  have h2 : s.data.toList.length = s.size := by simp
  exact List.length_eq_zero_iff.1 (by omega)

end Cod
end Go.Proofs.Ytkgnmcekeeannab
