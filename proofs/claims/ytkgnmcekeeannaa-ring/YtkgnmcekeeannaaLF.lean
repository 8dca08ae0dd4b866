import Derived.Test.YtkgnmcekeeannaaWE
namespace Go.Proofs.Ytkgnmcekeeannaa
open Go.RowKit
namespace Fld

theorem grown_drewN (w : World) (n : Nat) : Grown w (w.drewN n) := by exact Grown.refl w

theorem fields_walk (a b : Nat) (ha : a < 256) (hb : b < 256) (w : World) :
    Calls Try.prog 3 #[.int .u8 a, .int .u8 b] w fun e w' => e = .returned (.bool true) ∧ Grown w w' := by
  rcases Nat.eq_zero_or_pos a with h0 | h0
  · subst h0
    go_enter Try.func3, Try.ntmps3
    go_wp2_with fail
    refine (rMul 0 b _ ha hb).mono ?_
    rintro e w' ⟨rfl, rfl⟩
    go_wp2_with fail
    refine (refMul 0 b _ ha hb).mono ?_
    rintro e w' ⟨rfl, n, rfl⟩
    go_wp2_with fail
    refine (rInv0 _).mono ?_
    rintro e w' ⟨rfl, rfl⟩
    go_wp2_with fail
    refine (refInv0 _).mono ?_
    rintro e w' ⟨rfl, rfl⟩
    generalize mul 0 b = P
    go_wp2
    go_ret
    exact ⟨by simp, grown_drewN _ _⟩
  · go_enter Try.func3, Try.ntmps3
    go_wp2_with fail
    refine (rMul a b _ ha hb).mono ?_
    rintro e w' ⟨rfl, rfl⟩
    go_wp2_with fail
    refine (refMul a b _ ha hb).mono ?_
    rintro e w' ⟨rfl, n, rfl⟩
    go_wp2_with fail
    refine (rInv a _ ha h0).mono ?_
    rintro e w' ⟨rfl, rfl⟩
    go_wp2_with fail
    refine (refInv a _ ha h0).mono ?_
    rintro e w' ⟨rfl, m, rfl⟩
    generalize mul a b = P
    generalize inv a = I
    go_wp2
    go_ret
    exact ⟨by simp, grown_drewN _ _⟩

theorem rMul_any (a b : Int) (w : World) (ha0 : 0 ≤ a) (ha : a < 256) (hb0 : 0 ≤ b) (hb : b < 256) :
    Calls Try.prog 13 #[.int .u8 a, .int .u8 b] w fun e w' => e = .returned (.int .u8 (mul a.toNat b.toNat)) ∧ w' = w := by
  obtain ⟨m, rfl⟩ := Int.eq_ofNat_of_zero_le ha0
  obtain ⟨n, rfl⟩ := Int.eq_ofNat_of_zero_le hb0
  exact rMul m n w (by omega) (by omega)

/-- the first nine products, as the law takes them -/
structure Nine (a b c : Nat) : Prop where
  x : mul 2 128 = 29
  comm : mul b a = mul a b
  assoc : mul a (mul b c) = mul (mul a b) c
  dist : mul a (b ^^^ c) = mul a b ^^^ mul a c
  one : mul a 1 = a
  bx : bits .xor .u8 (b : Int) (c : Int) = ((b ^^^ c : Nat) : Int)
  px : bits .xor .u8 (mul a b : Int) (mul a c : Int) = ((mul a b ^^^ mul a c : Nat) : Int)
theorem nine (a b c : Nat) (ha : a < 256) (hb : b < 256) (hc : c < 256) : Nine a b c :=
  ⟨by decide +kernel, mul_comm b a hb ha, (mul_assoc a b c ha hb hc).symm, mul_xor_right a b c, mul_one a ha, u8_xor_nat b c hb hc, u8_xor_nat _ _ (mul_lt a b ha) (mul_lt a c ha)⟩

set_option maxHeartbeats 1000000 in
theorem ring_zero (b c : Nat) (hb : b < 256) (hc : c < 256) (w : World) :
    Calls Try.prog 10 #[.int .u8 0, .int .u8 b, .int .u8 c] w fun e w' => e = .returned (.bool true) ∧ w' = w := by
  have N := nine 0 b c (by decide) hb hc
  have HN : Hid (Nine 0 b c) := N
  have lbc := mul_lt b c hb
  have lxor : b ^^^ c < 256 := Nat.xor_lt_two_pow (n := 8) hb hc
  clear N
  go_enter Try.func10, Try.ntmps10
  go_wp2_with fail
  refine (rMul_any 2 128 _ (by decide) (by decide) (by decide) (by decide)).mono ?_
  rintro e w' ⟨rfl, rfl⟩
  rw [show (2 : Int).toNat = 2 from rfl, show (128 : Int).toNat = 128 from rfl, HN.out.x]
  go_wp2_with fail
  refine (rMul 0 b _ (by decide) hb).mono ?_
  rintro e w' ⟨rfl, rfl⟩
  rw [zero_mul]
  go_wp2_with fail
  refine (rMul b 0 _ hb (by decide)).mono ?_
  rintro e w' ⟨rfl, rfl⟩
  rw [mul_zero]
  go_wp2_with fail
  refine (rMul b c _ hb hc).mono ?_
  rintro e w' ⟨rfl, rfl⟩
  go_wp2_with fail
  refine (rMul 0 c _ (by decide) hc).mono ?_
  rintro e w' ⟨rfl, rfl⟩
  rw [zero_mul]
  go_wp2_with fail
  refine (rMul 0 (mul b c) _ (by decide) lbc).mono ?_
  rintro e w' ⟨rfl, rfl⟩
  rw [zero_mul]
  go_wp2_with fail
  rw [HN.out.bx]
  refine (rMul 0 (b ^^^ c) _ (by decide) lxor).mono ?_
  rintro e w' ⟨rfl, rfl⟩
  rw [zero_mul]
  go_wp2_with fail
  refine (rMul 0 c _ (by decide) hc).mono ?_
  rintro e w' ⟨rfl, rfl⟩
  rw [zero_mul]
  go_wp2_with fail
  refine (rMul_any 0 1 _ (by decide) (by decide) (by decide) (by decide)).mono ?_
  rintro e w' ⟨rfl, rfl⟩
  rw [show (0 : Int).toNat = 0 from rfl, show (1 : Int).toNat = 1 from rfl, zero_mul]
  have hx0 : bits BinOp.xor IntKind.u8 0 0 = 0 := by decide
  go_wp2_with fail
  refine (rInv0 _).mono ?_
  rintro e w' ⟨rfl, rfl⟩
  go_wp2
  go_ret
  exact ⟨rfl, rfl⟩

set_option maxHeartbeats 1000000 in
theorem ring_pos (a b c : Nat) (ha : a < 256) (hb : b < 256) (hc : c < 256) (h0 : 0 < a) (w : World) :
    Calls Try.prog 10 #[.int .u8 a, .int .u8 b, .int .u8 c] w fun e w' => e = .returned (.bool true) ∧ w' = w := by
  have HN : Hid (Nine a b c) := nine a b c ha hb hc
  have lab := mul_lt a b ha
  have lbc := mul_lt b c hb
  have lxor : b ^^^ c < 256 := Nat.xor_lt_two_pow (n := 8) hb hc
  have hz : ((a : Int) == 0) = false := by simp; omega
  have HI : Hid (mul a (inv a) = 1) := mul_inv a ha (by omega)
  have HZ : Hid ((((b : Int) == 0) == ((mul a b : Nat) == (0 : Int))) = true) := by
    rcases Nat.eq_zero_or_pos b with h | h
    · subst h; rw [mul_zero]; rfl
    · have : mul a b ≠ 0 := fun e => by have := mul_ne_zero a b ha hb (by omega) e; omega
      have e1 : ((b : Int) == 0) = false := by simp; omega
      have e2 : (((mul a b : Nat) : Int) == 0) = false := by simp; omega
      unfold Hid; rw [e1, e2]; rfl
  have hil := inv_lt a ha
  go_enter Try.func10, Try.ntmps10
  go_wp2_with fail
  refine (rMul_any 2 128 _ (by decide) (by decide) (by decide) (by decide)).mono ?_
  rintro e w' ⟨rfl, rfl⟩
  rw [show (2 : Int).toNat = 2 from rfl, show (128 : Int).toNat = 128 from rfl, HN.out.x]
  go_wp2_with fail
  refine (rMul a b _ ha hb).mono ?_
  rintro e w' ⟨rfl, rfl⟩
  go_wp2_with fail
  refine (rMul b a _ hb ha).mono ?_
  rintro e w' ⟨rfl, rfl⟩
  rw [HN.out.comm]
  go_wp2_with fail
  refine (rMul b c _ hb hc).mono ?_
  rintro e w' ⟨rfl, rfl⟩
  go_wp2_with fail
  refine (rMul (mul a b) c _ lab hc).mono ?_
  rintro e w' ⟨rfl, rfl⟩
  go_wp2_with fail
  refine (rMul a (mul b c) _ ha lbc).mono ?_
  rintro e w' ⟨rfl, rfl⟩
  rw [HN.out.assoc]
  go_wp2_with fail
  rw [HN.out.bx]
  refine (rMul a (b ^^^ c) _ ha lxor).mono ?_
  rintro e w' ⟨rfl, rfl⟩
  rw [HN.out.dist]
  go_wp2_with fail
  refine (rMul a c _ ha hc).mono ?_
  rintro e w' ⟨rfl, rfl⟩
  go_wp2_with fail
  refine (rMul_any a 1 _ (by omega) (by omega) (by decide) (by decide)).mono ?_
  rintro e w' ⟨rfl, rfl⟩
  rw [Int.toNat_natCast, show (1 : Int).toNat = 1 from rfl, HN.out.one]
  have hpx := HN.out.px
  go_wp2_with fail
  clear hpx
  refine (rInv a _ ha h0).mono ?_
  rintro e w' ⟨rfl, rfl⟩
  go_wp2_with fail
  refine (rMul a (inv a) _ ha hil).mono ?_
  rintro e w' ⟨rfl, rfl⟩
  rw [HI.out]
  have hzz := HZ.out
  go_wp2
  go_ret
  exact ⟨rfl, rfl⟩

theorem u8_nat {a : Int} (h : (Lit.int .u8 a).wf = true) : ∃ n : Nat, a = n ∧ n < 256 := by
  simp [Lit.wf, IntKind.min, IntKind.max, IntKind.signed, IntKind.bits] at h
  obtain ⟨n, rfl⟩ := Int.eq_ofNat_of_zero_le h.1
  exact ⟨n, rfl, by omega⟩

theorem fields_said (a0 a1 : Int) (w0 : (Lit.int .u8 a0).wf = true) (w1 : (Lit.int .u8 a1).wf = true) (w : World) :
    Calls Try.prog 3 #[.int .u8 a0, .int .u8 a1] w fun e w' => e = .returned (.bool true) ∧ Grown w w' := by
  obtain ⟨a, rfl, ha⟩ := u8_nat w0
  obtain ⟨b, rfl, hb⟩ := u8_nat w1
  exact fields_walk a b ha hb w
theorem ring_said (a0 a1 a2 : Int) (w0 : (Lit.int .u8 a0).wf = true) (w1 : (Lit.int .u8 a1).wf = true) (w2 : (Lit.int .u8 a2).wf = true) (w : World) :
    Calls Try.prog 10 #[.int .u8 a0, .int .u8 a1, .int .u8 a2] w fun e w' => e = .returned (.bool true) ∧ Grown w w' := by
  obtain ⟨a, rfl, ha⟩ := u8_nat w0
  obtain ⟨b, rfl, hb⟩ := u8_nat w1
  obtain ⟨c, rfl, hc⟩ := u8_nat w2
  rcases Nat.eq_zero_or_pos a with h | h
  · subst h
    exact (ring_zero b c hb hc w).mono fun e w' ⟨h1, h2⟩ => ⟨h1, by rw [h2]; exact Grown.refl w⟩
  · exact (ring_pos a b c ha hb hc h w).mono fun e w' ⟨h1, h2⟩ => ⟨h1, by rw [h2]; exact Grown.refl w⟩

end Fld
end Go.Proofs.Ytkgnmcekeeannaa
