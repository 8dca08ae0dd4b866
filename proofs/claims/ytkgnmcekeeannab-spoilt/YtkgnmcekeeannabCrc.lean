/-
  The check of a text, in plain numbers: a step for each bit, from a byte's highest on.
-/
namespace Go.Proofs.Ytkgnmcekeeannab
namespace Crc

def bitS (h b : Nat) : Nat := if (b + h / 32768) % 2 = 1 then (h * 2 % 65536) ^^^ 4129 else h * 2 % 65536
def byteK (b : Nat) : Nat → Nat → Nat
  | 0, h => h
  | k + 1, h => bitS (byteK b k h) (b / 2 ^ (7 - k) % 2)
def sum (l : List UInt8) : Nat := l.foldl (fun h c => byteK c.toNat 8 h) 65535

theorem bitS_lt (h b : Nat) : bitS h b < 65536 := by
  unfold bitS
  split
  · exact Nat.xor_lt_two_pow (n := 16) (Nat.mod_lt _ (by decide)) (by decide)
  · exact Nat.mod_lt _ (by decide)
theorem byteK_lt (b k h : Nat) (hh : h < 65536) : byteK b k h < 65536 := by
  cases k with
  | zero => exact hh
  | succ k => exact bitS_lt _ _
theorem sum_snoc (l : List UInt8) (c : UInt8) : sum (l ++ [c]) = byteK c.toNat 8 (sum l) := by simp [sum]
theorem fold_lt (l : List UInt8) : ∀ h : Nat, h < 65536 → l.foldl (fun h c => byteK c.toNat 8 h) h < 65536 := by
  induction l with
  | nil => intro h hh; exact hh
  | cons c l ih => intro h hh; exact ih _ (byteK_lt _ _ _ hh)
theorem sum_lt (l : List UInt8) : sum l < 65536 := fold_lt l _ (by decide)
theorem take_snoc (s : ByteArray) (k : Nat) (h : k < s.size) : s.data.toList.take (k + 1) = s.data.toList.take k ++ [s[k]] := by
  rw [List.take_succ_eq_append_getElem (by simpa using h)]; rfl
theorem sum_take (s : ByteArray) (k : Nat) (h : k < s.size) : sum (s.data.toList.take (k + 1)) = byteK s[k].toNat 8 (sum (s.data.toList.take k)) := by
  rw [take_snoc s k h, sum_snoc]
theorem and_pow (x i : Nat) : x &&& 2 ^ i = x / 2 ^ i % 2 * 2 ^ i := by
  apply Nat.eq_of_testBit_eq; intro j
  rw [Nat.testBit_and, Nat.testBit_two_pow]
  rcases Nat.mod_two_eq_zero_or_one (x / 2 ^ i) with h | h
  · rw [h]
    by_cases e : i = j
    · subst e; simp [Nat.testBit_eq_decide_div_mod_eq, h]
    · simp [e]
  · rw [h, Nat.one_mul, Nat.testBit_two_pow]
    by_cases e : i = j
    · subst e; simp [Nat.testBit_eq_decide_div_mod_eq, h]
    · simp [e]
end Crc
end Go.Proofs.Ytkgnmcekeeannab
