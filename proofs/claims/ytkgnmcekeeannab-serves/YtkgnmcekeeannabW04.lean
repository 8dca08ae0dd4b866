import Derived.Test.YtkgnmcekeeannabW03
import Derived.Test.YtkgnmcekeeannabW01
namespace Go.Proofs.Ytkgnmcekeeannab
open Go.RowKit
namespace Fld

theorem i64_and_nat (a b : Nat) (ha : a < 9223372036854775808) (hb : b < 9223372036854775808) : bits .and .i64 (a : Int) (b : Int) = ((a &&& b : Nat) : Int) := by
  have hx : a &&& b < 2 ^ 63 := Nat.and_lt_two_pow _ (by omega)
  show IntKind.i64.wrap ((BitVec.ofInt 64 (a : Int) &&& BitVec.ofInt 64 (b : Int)).toNat : Int) = _
  rw [BitVec.toNat_and, ofInt_u64 a (by omega), ofInt_u64 b (by omega), IntKind.wrap_i64]
  omega
theorem i64_xor_nat (a b : Nat) (ha : a < 9223372036854775808) (hb : b < 9223372036854775808) : bits .xor .i64 (a : Int) (b : Int) = ((a ^^^ b : Nat) : Int) := by
  have hx : a ^^^ b < 2 ^ 63 := Nat.xor_lt_two_pow (by omega) (by omega)
  show IntKind.i64.wrap ((BitVec.ofInt 64 (a : Int) ^^^ BitVec.ofInt 64 (b : Int)).toNat : Int) = _
  rw [BitVec.toNat_xor, ofInt_u64 a (by omega), ofInt_u64 b (by omega), IntKind.wrap_i64]
  omega

theorem i64_bit (a k : Nat) (ha : a < 9223372036854775808) : bits .and .i64 ((a : Int) / 2 ^ k) 1 = ((a / 2 ^ k % 2 : Nat) : Int) := by
  have h1 : a / 2 ^ k < 9223372036854775808 := Nat.lt_of_le_of_lt (Nat.div_le_self _ _) ha
  have h2 := i64_and_nat (a / 2 ^ k) 1 h1 (by decide)
  rw [nat_mask1] at h2
  rw [← h2]; simp
theorem i64_shl (b k : Nat) (hb : b < 256) (hk : k < 8) : wrap64 ((b : Int) * 2 ^ k) = ((b * 2 ^ k : Nat) : Int) := by
  have h1 : b * 2 ^ k ≤ 255 * 2 ^ k := Nat.mul_le_mul_right _ (by omega)
  have h2 : 2 ^ k ≤ 2 ^ 7 := Nat.pow_le_pow_right (by decide) (by omega)
  have h3 : ((b : Int) * 2 ^ k) = ((b * 2 ^ k : Nat) : Int) := by simp
  rw [h3, IntWalk.wrap64_in _ ⟨by omega, by omega⟩]
theorem i64_pow (k : Nat) (hk : k < 16) : wrap64 ((2 : Int) ^ k) = ((2 ^ k : Nat) : Int) := by
  have h2 : 2 ^ k ≤ 2 ^ 15 := Nat.pow_le_pow_right (by decide) (by omega)
  have h3 : ((2 : Int) ^ k) = ((2 ^ k : Nat) : Int) := by simp
  rw [h3]
  generalize 2 ^ k = q at *
  rw [IntWalk.wrap64_in _ ⟨by omega, by omega⟩]

theorem red_step (m R : Nat) (h8 : 8 ≤ m) (hm : m ≤ 15) (hR : R < 65536) :
    bits .xor .i64 (bits .xor .i64 (bits .xor .i64 (bits .xor .i64 (bits .xor .i64 (R : Int) (wrap64 (2 ^ m))) (wrap64 (2 ^ (m - 4)))) (wrap64 (2 ^ (m - 5)))) (wrap64 (2 ^ (m - 6)))) (wrap64 (2 ^ (m - 8))) = ((R ^^^ redC m : Nat) : Int) := by
  have p : ∀ k, k ≤ 15 → 2 ^ k < 2 ^ 16 := fun k hk => Nat.pow_lt_pow_right (by decide) (by omega)
  have x : ∀ u v : Nat, u < 2 ^ 16 → v < 2 ^ 16 → u ^^^ v < 2 ^ 16 := fun u v hu hv => Nat.xor_lt_two_pow hu hv
  have q : ∀ u v : Nat, u < 2 ^ 16 → v < 2 ^ 16 → bits .xor .i64 (u : Int) (v : Int) = ((u ^^^ v : Nat) : Int) := fun u v hu hv => i64_xor_nat u v (by omega) (by omega)
  rw [i64_pow m (by omega), i64_pow (m - 4) (by omega), i64_pow (m - 5) (by omega), i64_pow (m - 6) (by omega), i64_pow (m - 8) (by omega)]
  have p0 := p m hm
  have p1 := p (m - 4) (by omega)
  have p2 := p (m - 5) (by omega)
  have p3 := p (m - 6) (by omega)
  have p4 := p (m - 8) (by omega)
  unfold redC
  generalize 2 ^ m = a at *
  generalize 2 ^ (m - 4) = b at *
  generalize 2 ^ (m - 5) = c at *
  generalize 2 ^ (m - 6) = d at *
  generalize 2 ^ (m - 8) = e at *
  rw [q _ _ (by omega) p0, q _ _ (x _ _ (by omega) p0) p1, q _ _ (x _ _ (x _ _ (by omega) p0) p1) p2, q _ _ (x _ _ (x _ _ (x _ _ (by omega) p0) p1) p2) p3, q _ _ (x _ _ (x _ _ (x _ _ (x _ _ (by omega) p0) p1) p2) p3) p4]
  simp only [Nat.xor_assoc]

end Fld
end Go.Proofs.Ytkgnmcekeeannab
namespace Go.Proofs.Ytkgnmcekeeannab
open Go.RowKit
namespace Fld

theorem tup2 {k l : IntKind} {a b c d : Int} (h : a = b) (g : c = d) : Ending.returned (.tuple #[.int k a, .int l c]) = .returned (.tuple #[.int k b, .int l d]) := by rw [h, g]

end Fld
end Go.Proofs.Ytkgnmcekeeannab
/-
  Polynomials over the field of 256: as many roots as there are factors; Lagrange's form; bringing the rows of powers to steps. No text of the program is named here.
-/
namespace Go.Proofs.Ytkgnmcekeeannab
namespace Pol
open Fld (mul inv)

abbrev G := UInt8

def fm (x y : G) : G := UInt8.ofNat (mul x.toNat y.toNat)
def fi (x : G) : G := UInt8.ofNat (inv x.toNat)

theorem toNat_fm (x y : G) : (fm x y).toNat = mul x.toNat y.toNat := by
  unfold fm
  rw [UInt8.toNat_ofNat_of_lt' (Fld.mul_lt _ _ (UInt8.toNat_lt x))]
theorem toNat_fi (x : G) : (fi x).toNat = inv x.toNat := by
  unfold fi
  rw [UInt8.toNat_ofNat_of_lt' (Fld.inv_lt _ (UInt8.toNat_lt x))]
theorem ext {x y : G} (h : x.toNat = y.toNat) : x = y := UInt8.toNat_inj.1 h

theorem fm_comm (x y : G) : fm x y = fm y x := ext (by rw [toNat_fm, toNat_fm]; exact Fld.mul_comm _ _ (UInt8.toNat_lt x) (UInt8.toNat_lt y))
theorem fm_assoc (x y z : G) : fm (fm x y) z = fm x (fm y z) := ext (by simp only [toNat_fm]; exact Fld.mul_assoc _ _ _ (UInt8.toNat_lt x) (UInt8.toNat_lt y) (UInt8.toNat_lt z))
theorem fm_xor_right (x y z : G) : fm x (y ^^^ z) = fm x y ^^^ fm x z := ext (by simp only [toNat_fm, UInt8.toNat_xor]; exact Fld.mul_xor_right _ _ _)
theorem fm_xor_left (x y z : G) : fm (x ^^^ y) z = fm x z ^^^ fm y z := ext (by simp only [toNat_fm, UInt8.toNat_xor]; exact Fld.mul_xor_left _ _ _)
theorem fm_one (x : G) : fm x 1 = x := ext (by rw [toNat_fm]; exact Fld.mul_one _ (UInt8.toNat_lt x))
theorem one_fm (x : G) : fm 1 x = x := by rw [fm_comm, fm_one]
theorem fm_zero (x : G) : fm x 0 = 0 := ext (by rw [toNat_fm]; exact Fld.mul_zero _)
theorem zero_fm (x : G) : fm 0 x = 0 := by rw [fm_comm, fm_zero]
theorem fm_fi (x : G) (h : x ≠ 0) : fm x (fi x) = 1 := ext (by rw [toNat_fm, toNat_fi]; exact Fld.mul_inv _ (UInt8.toNat_lt x) (fun e => h (ext e)))
theorem fi_ne (x : G) (h : x ≠ 0) : fi x ≠ 0 := fun e => by have := fm_fi x h; rw [e, fm_zero] at this; exact absurd this (by decide)
theorem fm_ne (x y : G) (hx : x ≠ 0) (h : fm x y = 0) : y = 0 := by
  have e : fm (fi x) (fm x y) = fm (fm (fi x) x) y := (fm_assoc _ _ _).symm
  rw [h, fm_zero, fm_comm (fi x) x, fm_fi x hx, one_fm] at e
  exact e.symm
theorem xz (x : G) : x ^^^ 0 = x := by simp
theorem zx (x : G) : 0 ^^^ x = x := by simp
theorem xx (x : G) : x ^^^ x = 0 := by simp
theorem xc (x y : G) : x ^^^ y = y ^^^ x := UInt8.xor_comm x y
theorem xa (x y z : G) : x ^^^ y ^^^ z = x ^^^ (y ^^^ z) := UInt8.xor_assoc x y z
theorem x4 (a b c d : G) : (a ^^^ b) ^^^ (c ^^^ d) = (a ^^^ c) ^^^ (b ^^^ d) := by
  rw [xa, xa, ← xa b c d, xc b c, xa c b d]
theorem eq_of_xor {x y : G} (h : x ^^^ y = 0) : x = y := by
  have := congrArg (fun z => z ^^^ y) h
  simpa [xa] using this
theorem xor_ne {x y : G} (h : x ≠ y) : x ^^^ y ≠ 0 := fun e => h (eq_of_xor e)
theorem xor_move {x y z : G} (h : x ^^^ y = z) : x = z ^^^ y := by rw [← h, xa, xx, xz]

/-! ### polynomials: the factors from the lowest power on -/
def eval (x : G) : List G → G
  | [] => 0
  | c :: cs => fm (eval x cs) x ^^^ c
def quo (a : G) : List G → List G
  | [] => []
  | _ :: cs => match cs with
    | [] => []
    | d :: ds => eval a (d :: ds) :: quo a (d :: ds)

theorem quo_length (a : G) : ∀ cs : List G, (quo a cs).length = cs.length - 1
  | [] => rfl
  | [_] => rfl
  | _ :: d :: ds => by simp only [quo, List.length_cons, quo_length a (d :: ds)]; omega
theorem eval_quo (x a : G) : ∀ cs : List G, eval x cs ^^^ eval a cs = fm (x ^^^ a) (eval x (quo a cs))
  | [] => by simp [eval, quo, fm_zero]
  | [c] => by simp [eval, quo, fm_zero, zero_fm]
  | c :: d :: ds => by
    have ih := eval_quo x a (d :: ds)
    simp only [quo]
    rw [show eval x (c :: d :: ds) = fm (eval x (d :: ds)) x ^^^ c from rfl, show eval a (c :: d :: ds) = fm (eval a (d :: ds)) a ^^^ c from rfl,
      show eval x (eval a (d :: ds) :: quo a (d :: ds)) = fm (eval x (quo a (d :: ds))) x ^^^ eval a (d :: ds) from rfl]
    generalize eval x (d :: ds) = p at *
    generalize eval a (d :: ds) = q at *
    generalize eval x (quo a (d :: ds)) = r at *
    rw [x4, xx, xz, fm_xor_right, ← fm_assoc, ← ih, fm_xor_left p q x, fm_xor_left x a q, fm_comm q x, fm_comm q a, xa, ← xa (fm x q), xx, zx]
theorem quo_zero (a : G) : ∀ cs : List G, eval a cs = 0 → (∀ c ∈ quo a cs, c = 0) → ∀ c ∈ cs, c = 0
  | [], _, _ => by simp
  | [c], h, _ => by
    intro e he
    simp only [List.mem_singleton] at he
    subst he
    simpa [eval, zero_fm] using h
  | c :: d :: ds, h, hq => by
    simp only [quo, List.mem_cons] at hq
    have h1 : eval a (d :: ds) = 0 := hq _ (Or.inl rfl)
    have ih := quo_zero a (d :: ds) h1 (fun e he => hq e (Or.inr he))
    have hc : c = 0 := by
      rw [show eval a (c :: d :: ds) = fm (eval a (d :: ds)) a ^^^ c from rfl, h1, zero_fm, zx] at h
      exact h
    intro e he
    rcases List.mem_cons.1 he with e1 | e1
    · rw [e1, hc]
    · exact ih e e1
theorem roots_zero : ∀ (xs cs : List G), cs.length ≤ xs.length → xs.Nodup → (∀ x ∈ xs, eval x cs = 0) → ∀ c ∈ cs, c = 0
  | [], cs, hl, _, _ => by
    have : cs = [] := List.length_eq_zero_iff.1 (by simpa using hl)
    simp [this]
  | a :: xs, cs, hl, hd, h => by
    have ha := h a (List.mem_cons_self ..)
    rw [List.nodup_cons] at hd
    refine quo_zero a cs ha (roots_zero xs (quo a cs) (by rw [quo_length]; simp at hl; omega) hd.2 (fun x hx => ?_))
    have e := eval_quo x a cs
    rw [ha, h x (List.mem_cons_of_mem _ hx), xx] at e
    exact fm_ne _ _ (xor_ne (fun (e1 : x = a) => hd.1 (e1 ▸ hx))) e.symm
theorem eval_zeros (x : G) : ∀ cs : List G, (∀ c ∈ cs, c = 0) → eval x cs = 0
  | [], _ => rfl
  | c :: cs, h => by
    rw [show eval x (c :: cs) = fm (eval x cs) x ^^^ c from rfl, eval_zeros x cs (fun d hd => h d (List.mem_cons_of_mem _ hd)), zero_fm, h c (List.mem_cons_self ..), xx]

/-! ### functions that are polynomials of degree below k -/
def IsPoly (k : Nat) (f : G → G) : Prop := ∃ cs : List G, cs.length ≤ k ∧ ∀ x, f x = eval x cs
def addL : List G → List G → List G
  | [], ds => ds
  | c :: cs, [] => c :: cs
  | c :: cs, d :: ds => (c ^^^ d) :: addL cs ds
theorem addL_eval (x : G) : ∀ cs ds : List G, eval x (addL cs ds) = eval x cs ^^^ eval x ds
  | [], ds => by simp [addL, eval]
  | c :: cs, [] => by simp [addL, eval]
  | c :: cs, d :: ds => by
    simp only [addL, eval, addL_eval x cs ds, fm_xor_left]
    exact x4 _ _ _ _
theorem addL_length : ∀ cs ds : List G, (addL cs ds).length = max cs.length ds.length
  | [], ds => by simp [addL]
  | c :: cs, [] => by simp [addL]
  | c :: cs, d :: ds => by simp only [addL, List.length_cons, addL_length cs ds]; omega
theorem IsPoly.add {k : Nat} {f g : G → G} (hf : IsPoly k f) (hg : IsPoly k g) : IsPoly k (fun x => f x ^^^ g x) := by
  obtain ⟨cs, hc, hf⟩ := hf
  obtain ⟨ds, hd, hg⟩ := hg
  exact ⟨addL cs ds, by rw [addL_length]; omega, fun x => by show f x ^^^ g x = _; rw [addL_eval, hf, hg]⟩
theorem eval_map (a x : G) : ∀ cs : List G, eval x (cs.map (fm a)) = fm a (eval x cs)
  | [] => by simp [eval, fm_zero]
  | c :: cs => by
    simp only [List.map_cons, eval, eval_map a x cs, fm_xor_right, fm_assoc]
theorem IsPoly.scale {k : Nat} {f : G → G} (a : G) (hf : IsPoly k f) : IsPoly k (fun x => fm a (f x)) := by
  obtain ⟨cs, hc, hf⟩ := hf
  exact ⟨cs.map (fm a), by simpa using hc, fun x => by show fm a (f x) = _; rw [eval_map, hf]⟩
theorem IsPoly.mono {k l : Nat} {f : G → G} (h : IsPoly k f) (hl : k ≤ l) : IsPoly l f := by
  obtain ⟨cs, hc, hf⟩ := h
  exact ⟨cs, by omega, hf⟩
theorem IsPoly.zero (k : Nat) : IsPoly k (fun _ => 0) := ⟨[], by simp, fun _ => rfl⟩
theorem IsPoly.const (c : G) : IsPoly 1 (fun _ => c) := ⟨[c], by simp, fun x => by simp [eval, zero_fm]⟩
theorem IsPoly.lin {k : Nat} {f : G → G} (a : G) (hf : IsPoly k f) : IsPoly (k + 1) (fun x => fm (f x) (x ^^^ a)) := by
  obtain ⟨cs, hc, hf⟩ := hf
  refine ⟨addL (0 :: cs) (cs.map (fm a)), by rw [addL_length]; simp; omega, fun x => ?_⟩
  show fm (f x) (x ^^^ a) = _
  rw [addL_eval, eval_map, hf, fm_xor_right, show eval x (0 :: cs) = fm (eval x cs) x ^^^ 0 from rfl, xz, fm_comm (eval x cs) a]
theorem IsPoly.unique {k : Nat} {f : G → G} (hf : IsPoly k f) (xs : List G) (hk : k ≤ xs.length) (hd : xs.Nodup) (h : ∀ x ∈ xs, f x = 0) (x : G) : f x = 0 := by
  obtain ⟨cs, hc, hf⟩ := hf
  rw [hf]
  exact eval_zeros x cs (roots_zero xs cs (by omega) hd (fun x hx => by rw [← hf]; exact h x hx))

/-! ### sums and products over numbers -/
def sumTo : Nat → (Nat → G) → G
  | 0, _ => 0
  | n + 1, f => sumTo n f ^^^ f n
def prodBut (own : Nat) : Nat → (Nat → G) → G
  | 0, _ => 1
  | n + 1, f => if n = own then prodBut own n f else fm (prodBut own n f) (f n)
theorem sumTo_congr {n : Nat} {f g : Nat → G} (h : ∀ i, i < n → f i = g i) : sumTo n f = sumTo n g := by
  induction n with
  | zero => rfl
  | succ n ih => simp only [sumTo]; rw [ih (fun i hi => h i (by omega)), h n (by omega)]
theorem sumTo_add (n : Nat) (f g : Nat → G) : sumTo n (fun i => f i ^^^ g i) = sumTo n f ^^^ sumTo n g := by
  induction n with
  | zero => simp [sumTo]
  | succ n ih => simp only [sumTo, ih]; exact x4 _ _ _ _
theorem sumTo_scale (n : Nat) (a : G) (f : Nat → G) : sumTo n (fun i => fm a (f i)) = fm a (sumTo n f) := by
  induction n with
  | zero => simp [sumTo, fm_zero]
  | succ n ih => simp only [sumTo, ih, fm_xor_right]
theorem sumTo_zero {n : Nat} {f : Nat → G} (h : ∀ i, i < n → f i = 0) : sumTo n f = 0 := by
  induction n with
  | zero => rfl
  | succ n ih => simp only [sumTo]; rw [ih (fun i hi => h i (by omega)), h n (by omega), xx]
theorem sumTo_one {n : Nat} {f : Nat → G} (m : Nat) (hm : m < n) (h : ∀ i, i < n → i ≠ m → f i = 0) : sumTo n f = f m := by
  induction n with
  | zero => omega
  | succ n ih =>
    simp only [sumTo]
    by_cases e : m = n
    · subst e; rw [sumTo_zero (fun i hi => h i (by omega) (by omega)), zx]
    · rw [ih (by omega) (fun i hi hne => h i (by omega) hne), h n (by omega) (by omega), xz]
theorem sumTo_poly {k : Nat} (n : Nat) (f : Nat → G → G) (h : ∀ i, i < n → IsPoly k (f i)) : IsPoly k (fun x => sumTo n (fun i => f i x)) := by
  induction n with
  | zero => exact IsPoly.zero k
  | succ n ih => exact IsPoly.add (ih (fun i hi => h i (by omega))) (h n (by omega))
theorem prodBut_poly (own : Nat) (xs : Nat → G) : ∀ n, IsPoly (n + 1) (fun x => prodBut own n (fun i => x ^^^ xs i)) ∧ (own < n → IsPoly n (fun x => prodBut own n (fun i => x ^^^ xs i)))
  | 0 => ⟨IsPoly.const 1, fun h => by omega⟩
  | n + 1 => by
    obtain ⟨h1, h2⟩ := prodBut_poly own xs n
    by_cases e : n = own
    · have h3 : IsPoly (n + 1) (fun x => prodBut own (n + 1) (fun i => x ^^^ xs i)) := by
        simp only [prodBut, if_pos e]; exact h1
      exact ⟨h3.mono (by omega), fun _ => h3⟩
    · refine ⟨?_, fun h => ?_⟩
      · simp only [prodBut, e, if_false]; exact h1.lin _
      · simp only [prodBut, e, if_false]; exact (h2 (by omega)).lin _
theorem prodBut_zero (own : Nat) (f : Nat → G) (m : Nat) (hm : m ≠ own) (hf : f m = 0) : ∀ n, m < n → prodBut own n f = 0
  | n + 1, h => by
    by_cases e : m = n
    · subst e; simp only [prodBut, hm, if_false]; rw [hf, fm_zero]
    · have ih := prodBut_zero own f m hm hf n (by omega)
      simp only [prodBut]
      split
      · exact ih
      · rw [ih, zero_fm]
theorem prodBut_ne (own : Nat) (f : Nat → G) : ∀ n, (∀ i, i < n → i ≠ own → f i ≠ 0) → prodBut own n f ≠ 0
  | 0, _ => by simp [prodBut]
  | n + 1, h => by
    have ih := prodBut_ne own f n (fun i hi hne => h i (by omega) hne)
    simp only [prodBut]
    split
    · exact ih
    · rename_i hne
      exact fun e => h n (by omega) hne (fm_ne _ _ ih e)

/-! ### Lagrange's form -/
def share (k : Nat) (xs : Nat → G) (t : G) (own : Nat) : G := fm (prodBut own k (fun i => t ^^^ xs i)) (fi (prodBut own k (fun i => xs own ^^^ xs i)))
def lag (k : Nat) (xs vs : Nat → G) (t : G) : G := sumTo k (fun i => fm (share k xs t i) (vs i))
def Apart (k : Nat) (xs : Nat → G) : Prop := ∀ i j, i < k → j < k → i ≠ j → xs i ≠ xs j
theorem share_self {k : Nat} {xs : Nat → G} (h : Apart k xs) (i : Nat) (hi : i < k) : share k xs (xs i) i = 1 := by
  unfold share
  exact fm_fi _ (prodBut_ne _ _ _ (fun j hj hne => xor_ne (h i j hi hj (fun e => hne e.symm))))
theorem share_other (k : Nat) (xs : Nat → G) (i m : Nat) (hm : m < k) (hne : i ≠ m) : share k xs (xs m) i = 0 := by
  unfold share
  rw [prodBut_zero i _ m (fun e => hne e.symm) (xx _) k hm, zero_fm]
theorem lag_at {k : Nat} {xs : Nat → G} (h : Apart k xs) (vs : Nat → G) (m : Nat) (hm : m < k) : lag k xs vs (xs m) = vs m := by
  unfold lag
  rw [sumTo_one m hm (fun i _ hne => by rw [share_other k xs i m hm hne, zero_fm]), share_self h m hm, one_fm]
theorem lag_poly (k : Nat) (xs vs : Nat → G) : IsPoly k (lag k xs vs) := by
  refine sumTo_poly k (fun i x => fm (share k xs x i) (vs i)) (fun i hi => ?_)
  have h := ((prodBut_poly i xs k).2 hi).scale (fm (fi (prodBut i k (fun j => xs i ^^^ xs j))) (vs i))
  obtain ⟨cs, hc, he⟩ := h
  refine ⟨cs, hc, fun x => ?_⟩
  rw [← he]
  show fm (fm (prodBut i k (fun i => x ^^^ xs i)) (fi (prodBut i k (fun j => xs i ^^^ xs j)))) (vs i) = fm (fm (fi (prodBut i k (fun j => xs i ^^^ xs j))) (vs i)) (prodBut i k (fun i => x ^^^ xs i))
  rw [fm_assoc, fm_comm]
def pts (k : Nat) (xs : Nat → G) : List G := (List.range k).map xs
theorem pts_length (k : Nat) (xs : Nat → G) : (pts k xs).length = k := by simp [pts]
theorem pts_nodup {k : Nat} {xs : Nat → G} (h : Apart k xs) : (pts k xs).Nodup := by
  unfold pts
  rw [List.nodup_iff_pairwise_ne, List.pairwise_map]
  refine List.Pairwise.imp_of_mem (R := fun a b => a ≠ b) (fun {a b} ha hb hne => ?_) (List.nodup_iff_pairwise_ne.1 List.nodup_range)
  exact h a b (List.mem_range.1 ha) (List.mem_range.1 hb) hne
/-- a polynomial of degree below k is Lagrange's form of its values -/
theorem lag_unique {k : Nat} {xs : Nat → G} (h : Apart k xs) {f : G → G} (hf : IsPoly k f) (t : G) : lag k xs (fun i => f (xs i)) t = f t := by
  refine eq_of_xor ?_
  refine (IsPoly.add (lag_poly k xs (fun i => f (xs i))) hf).unique (pts k xs) (by rw [pts_length]; omega) (pts_nodup h) (fun x hx => ?_) t
  simp only [pts, List.mem_map, List.mem_range] at hx
  obtain ⟨m, hm, rfl⟩ := hx
  rw [lag_at h _ m hm, xx]
theorem lag_congr {k : Nat} {xs vs us : Nat → G} (h : ∀ i, i < k → vs i = us i) (t : G) : lag k xs vs t = lag k xs us t := sumTo_congr (fun i hi => by rw [h i hi])
theorem lag_add (k : Nat) (xs vs us : Nat → G) (t : G) : lag k xs (fun i => vs i ^^^ us i) t = lag k xs vs t ^^^ lag k xs us t := by
  unfold lag
  rw [← sumTo_add]
  exact sumTo_congr (fun i _ => fm_xor_right _ _ _)
/-- any as many as the block has give it back -/
theorem lag_back {k : Nat} {xs ys : Nat → G} (hx : Apart k xs) (hy : Apart k ys) (vs : Nat → G) (m : Nat) (hm : m < k) : lag k ys (fun i => lag k xs vs (ys i)) (xs m) = vs m := by
  rw [lag_unique hy (lag_poly k xs vs), lag_at hx _ m hm]
end Pol
end Go.Proofs.Ytkgnmcekeeannab
