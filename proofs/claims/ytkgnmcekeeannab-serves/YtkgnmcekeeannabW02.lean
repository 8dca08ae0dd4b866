import Derived.Test.YtkgnmcekeeannabW01
import Derived.Lib.Strings
/-
  Two texts of one length that differ in a byte, or in two that stand side by side, have different checks: what is read to its end comes to 0 just if its last two bytes are the check of what stands ahead of them.
-/
namespace Go.Proofs.Ytkgnmcekeeannab
namespace Crc
open Fld (bit_xor lin_ext xor_turn xor_xor_swap allB all_of)

/-- the check goes on over a text -/
def goes (h : Nat) (l : List UInt8) : Nat := l.foldl (fun h c => byteK c.toNat 8 h) h
theorem sum_goes (l : List UInt8) : sum l = goes 65535 l := rfl
theorem goes_append (h : Nat) (a b : List UInt8) : goes h (a ++ b) = goes (goes h a) b := by simp [goes]
theorem goes_lt (l : List UInt8) (h : Nat) (hh : h < 65536) : goes h l < 65536 := fold_lt l h hh

theorem double_xor (x y : Nat) : (x ^^^ y) * 2 % 65536 = (x * 2 % 65536) ^^^ (y * 2 % 65536) := by
  apply Nat.eq_of_testBit_eq; intro i
  have e : ∀ z : Nat, z * 2 % 65536 = (z * 2 ^ 1) % 2 ^ 16 := fun _ => rfl
  rw [e (x ^^^ y), e x, e y, Nat.testBit_xor]
  simp only [Nat.testBit_mod_two_pow, Nat.testBit_xor, ← Nat.shiftLeft_eq, Nat.testBit_shiftLeft]
  cases decide (i < 16) <;> cases decide (i ≥ 1) <;> simp
theorem top_xor (x y : Nat) : (x ^^^ y) / 32768 % 2 = (x / 32768 % 2 + y / 32768 % 2) % 2 := bit_xor x y 15
theorem bitS_xor (h h' b b' : Nat) (hh : h < 65536) (hh' : h' < 65536) : bitS (h ^^^ h') ((b + b') % 2) = bitS h b ^^^ bitS h' b' := by
  have hx : h ^^^ h' < 65536 := Nat.xor_lt_two_pow (n := 16) hh hh'
  have t := top_xor h h'
  unfold bitS
  rw [double_xor]
  have e1 : (h ^^^ h') / 32768 = (h / 32768 + h' / 32768) % 2 := by omega
  rw [e1]
  by_cases p : (b + h / 32768) % 2 = 1 <;> by_cases q : (b' + h' / 32768) % 2 = 1
  · rw [if_pos p, if_pos q, if_neg (by omega), xor_xor_swap, Nat.xor_self, Nat.xor_zero]
  · rw [if_pos p, if_neg q, if_pos (by omega), Nat.xor_assoc, xor_turn]
  · rw [if_neg p, if_pos q, if_pos (by omega), Nat.xor_assoc]
  · rw [if_neg p, if_neg q, if_neg (by omega)]
theorem byteK_xor (c c' : Nat) (h h' : Nat) (hh : h < 65536) (hh' : h' < 65536) : ∀ k, byteK (c ^^^ c') k (h ^^^ h') = byteK c k h ^^^ byteK c' k h'
  | 0 => rfl
  | k + 1 => by
    simp only [byteK, byteK_xor c c' h h' hh hh' k, bit_xor]
    exact bitS_xor _ _ _ _ (byteK_lt c k h hh) (byteK_lt c' k h' hh')

/-- a step with the bit 0 -/
def T (h : Nat) : Nat := bitS h 0
def Tn : Nat → Nat → Nat
  | 0, h => h
  | n + 1, h => T (Tn n h)
theorem T_lt (h : Nat) : T h < 65536 := bitS_lt h 0
theorem Tn_lt (n h : Nat) (hh : h < 65536) : Tn n h < 65536 := by
  cases n with
  | zero => exact hh
  | succ n => exact T_lt _
theorem T_zero (h : Nat) (hh : h < 65536) (e : T h = 0) : h = 0 := by
  unfold T bitS at e
  by_cases p : (0 + h / 32768) % 2 = 1
  · rw [if_pos p] at e
    have e2 : h * 2 % 65536 = 4129 := by
      have := congrArg (fun z => z ^^^ 4129) e
      simpa [Nat.xor_assoc] using this
    omega
  · rw [if_neg p] at e
    omega
theorem Tn_zero : ∀ (n h : Nat), h < 65536 → Tn n h = 0 → h = 0
  | 0, _, _, e => e
  | n + 1, h, hh, e => Tn_zero n h hh (T_zero _ (Tn_lt n h hh) e)
theorem byteK_zero (h : Nat) : ∀ k, byteK 0 k h = Tn k h
  | 0 => rfl
  | k + 1 => by simp only [byteK, Tn, byteK_zero h k, T]; simp
theorem Tn_xor (x y : Nat) (hx : x < 65536) (hy : y < 65536) (n : Nat) : Tn n (x ^^^ y) = Tn n x ^^^ Tn n y := by
  have := byteK_xor 0 0 x y hx hy n
  simpa [byteK_zero] using this
theorem Tn_of_zero (n : Nat) : Tn n 0 = 0 := by
  have := Tn_xor 0 0 (by decide) (by decide) n
  simpa using this
theorem Tn_add (m n h : Nat) : Tn m (Tn n h) = Tn (m + n) h := by
  induction m with
  | zero => simp [Tn]
  | succ m ih => rw [Nat.succ_add]; simp only [Tn, ih]

theorem up_all : allB 8 (fun i => Nat.beq (Tn 8 (2 ^ i)) (2 ^ i * 256) && Nat.beq (byteK (2 ^ i) 8 0) (Tn 8 (2 ^ i * 256))) = true := by decide +kernel
theorem mul256_xor (x y : Nat) : (x ^^^ y) * 256 = x * 256 ^^^ y * 256 := Fld.xor_mul_pow x y 8
/-- eight steps lift a low byte -/
theorem Tn8_low (y : Nat) (hy : y < 256) : Tn 8 y = y * 256 := by
  have h : ∀ z, Tn 8 (z % 256) = z % 256 * 256 := fun z => by
    refine lin_ext (fun z => Tn 8 (z % 256)) (fun z => z % 256 * 256) (fun a b => ?_) (fun a b => ?_) (fun i hi => ?_) (z % 256) (Nat.mod_lt _ (by decide)) |> fun e => by simpa using e
    · show Tn 8 ((a ^^^ b) % 256) = Tn 8 (a % 256) ^^^ Tn 8 (b % 256)
      rw [show (a ^^^ b) % 256 = (a % 256) ^^^ (b % 256) from Nat.xor_mod_two_pow (n := 8)]
      exact Tn_xor _ _ (by omega) (by omega) 8
    · show (a ^^^ b) % 256 * 256 = a % 256 * 256 ^^^ b % 256 * 256
      rw [show (a ^^^ b) % 256 = (a % 256) ^^^ (b % 256) from Nat.xor_mod_two_pow (n := 8)]
      exact mul256_xor _ _
    · have := all_of up_all i hi
      simp only [Bool.and_eq_true] at this
      have hl : 2 ^ i < 256 := Nat.pow_lt_pow_right (m := i) (n := 8) (by decide) hi
      show Tn 8 (2 ^ i % 256) = 2 ^ i % 256 * 256
      rw [Nat.mod_eq_of_lt hl]
      exact Nat.eq_of_beq_eq_true this.1
  have := h y
  rwa [Nat.mod_eq_of_lt hy] at this
theorem byteK_low (y : Nat) (hy : y < 256) : byteK y 8 0 = Tn 8 (y * 256) := by
  have h : ∀ z, byteK (z % 256) 8 0 = Tn 8 (z % 256 * 256) := fun z => by
    refine lin_ext (fun z => byteK (z % 256) 8 0) (fun z => Tn 8 (z % 256 * 256)) (fun a b => ?_) (fun a b => ?_) (fun i hi => ?_) (z % 256) (Nat.mod_lt _ (by decide)) |> fun e => by simpa using e
    · show byteK ((a ^^^ b) % 256) 8 0 = byteK (a % 256) 8 0 ^^^ byteK (b % 256) 8 0
      rw [show (a ^^^ b) % 256 = (a % 256) ^^^ (b % 256) from Nat.xor_mod_two_pow (n := 8)]
      exact byteK_xor _ _ 0 0 (by decide) (by decide) 8
    · show Tn 8 ((a ^^^ b) % 256 * 256) = Tn 8 (a % 256 * 256) ^^^ Tn 8 (b % 256 * 256)
      rw [show (a ^^^ b) % 256 = (a % 256) ^^^ (b % 256) from Nat.xor_mod_two_pow (n := 8), mul256_xor]
      exact Tn_xor _ _ (by omega) (by omega) 8
    · have := all_of up_all i hi
      simp only [Bool.and_eq_true] at this
      have hl : 2 ^ i < 256 := Nat.pow_lt_pow_right (m := i) (n := 8) (by decide) hi
      show byteK (2 ^ i % 256) 8 0 = Tn 8 (2 ^ i % 256 * 256)
      rw [Nat.mod_eq_of_lt hl]
      exact Nat.eq_of_beq_eq_true this.2
  have := h y
  rwa [Nat.mod_eq_of_lt hy] at this
/-- a byte is eight steps of the check with the byte laid over its high half -/
theorem byteK_eq (y h : Nat) (hy : y < 256) (hh : h < 65536) : byteK y 8 h = Tn 8 (h ^^^ y * 256) := by
  have e := byteK_xor 0 y h 0 hh (by decide) 8
  rw [Nat.zero_xor, Nat.xor_zero, byteK_zero, byteK_low y hy] at e
  rw [e, Tn_xor h (y * 256) hh (by omega)]

/-- two bytes over 0 -/
theorem two_bytes (x y : Nat) (hx : x < 256) (hy : y < 256) : byteK y 8 (byteK x 8 0) = Tn 16 (x * 256 ^^^ y) := by
  rw [byteK_eq x 0 hx (by decide), Nat.zero_xor, byteK_eq y _ hy (Tn_lt _ _ (by omega)), ← Tn8_low y hy, ← Tn_xor _ _ (by omega) (by omega), Tn_add]
theorem two_bytes_ne (x y : Nat) (hx : x < 256) (hy : y < 256) (h : x ≠ 0) : byteK y 8 (byteK x 8 0) ≠ 0 := by
  rw [two_bytes x y hx hy]
  intro e
  have h0 := Tn_zero 16 _ (Nat.xor_lt_two_pow (n := 16) (by omega) (by omega)) e
  have e2 : x * 256 = y := by
    have := congrArg (fun z => z ^^^ y) h0
    simpa [Nat.xor_assoc] using this
  omega
theorem one_byte_ne (x : Nat) (hx : x < 256) (h : x ≠ 0) : byteK x 8 0 ≠ 0 := by
  rw [byteK_low x hx]
  intro e
  have := Tn_zero 8 _ (by omega) e
  omega
/-- behind its own check a text comes to 0 -/
theorem own_check (h : Nat) (hh : h < 65536) : byteK (h % 256) 8 (byteK (h / 256) 8 h) = 0 := by
  have e1 : h ^^^ h / 256 * 256 = h % 256 := by
    have hs : h = h / 256 * 256 ^^^ h % 256 := by
      apply Nat.eq_of_testBit_eq; intro i
      rw [Nat.testBit_xor, show h % 256 = h % 2 ^ 8 from rfl, Nat.testBit_mod_two_pow, show h / 256 * 256 = (h / 2 ^ 8) * 2 ^ 8 from rfl, ← Nat.shiftLeft_eq, Nat.testBit_shiftLeft, Nat.testBit_div_two_pow]
      by_cases hi : i < 8
      · simp [hi, show ¬ 8 ≤ i by omega]
      · simp [hi, show 8 ≤ i by omega, show i - 8 + 8 = i by omega]
    have : h ^^^ h / 256 * 256 = (h / 256 * 256 ^^^ h % 256) ^^^ h / 256 * 256 := by rw [← hs]
    rw [this, Nat.xor_comm (h / 256 * 256) (h % 256), Nat.xor_assoc, Nat.xor_self, Nat.xor_zero]
  rw [byteK_eq (h / 256) h (by omega) hh, e1, Tn8_low _ (Nat.mod_lt _ (by decide)), byteK_eq (h % 256) _ (Nat.mod_lt _ (by decide)) (by omega), Nat.xor_self, Tn_of_zero]

/-! ### texts -/
def zipx : List UInt8 → List UInt8 → List UInt8
  | a :: l, b :: m => (a ^^^ b) :: zipx l m
  | _, _ => []
theorem goes_zip : ∀ (l m : List UInt8) (h h' : Nat), l.length = m.length → h < 65536 → h' < 65536 → goes (h ^^^ h') (zipx l m) = goes h l ^^^ goes h' m
  | [], [], _, _, _, _, _ => rfl
  | a :: l, b :: m, h, h', hl, hh, hh' => by
    have ih := goes_zip l m (byteK a.toNat 8 h) (byteK b.toNat 8 h') (by simpa using hl) (byteK_lt _ _ _ hh) (byteK_lt _ _ _ hh')
    simp only [zipx, goes, List.foldl_cons] at *
    rw [UInt8.toNat_xor, byteK_xor _ _ _ _ hh hh', ih]
theorem goes_zeros (n : Nat) : ∀ h : Nat, goes h (List.replicate n 0) = Tn (8 * n) h := by
  induction n with
  | zero => intro h; rfl
  | succ n ih =>
    intro h
    simp only [List.replicate_succ, goes, List.foldl_cons]
    have e : byteK (0 : UInt8).toNat 8 h = Tn 8 h := byteK_zero h 8
    rw [e]
    have := ih (Tn 8 h)
    rw [goes] at this
    rw [this, Tn_add]
    congr 1
/-- a row of bytes that are 0 but for one, or two side by side, comes to something other than 0 -/
theorem burst (a b : Nat) (x y : UInt8) (hx : x ≠ 0) : goes 0 (List.replicate a 0 ++ (x :: y :: List.replicate b 0)) ≠ 0 := by
  rw [goes_append, goes_zeros, Tn_of_zero, show (x :: y :: List.replicate b 0) = [x, y] ++ List.replicate b 0 from rfl, goes_append, goes_zeros]
  intro e
  have h1 : goes 0 [x, y] = byteK y.toNat 8 (byteK x.toNat 8 0) := rfl
  have h2 := Tn_zero _ _ (goes_lt _ _ (by decide)) e
  rw [h1] at h2
  exact two_bytes_ne _ _ (UInt8.toNat_lt x) (UInt8.toNat_lt y) (fun e => hx (UInt8.toNat_inj.1 e)) h2
theorem burst_one (a : Nat) (x : UInt8) (hx : x ≠ 0) : goes 0 (List.replicate a 0 ++ [x]) ≠ 0 := by
  rw [goes_append, goes_zeros, Tn_of_zero]
  exact one_byte_ne _ (UInt8.toNat_lt x) (fun e => hx (UInt8.toNat_inj.1 e))
/-- what is whole comes to 0 -/
theorem goes_whole (l : List UInt8) (hi lo : UInt8) (h : hi.toNat * 256 + lo.toNat = sum l) : goes 65535 (l ++ [hi, lo]) = 0 := by
  rw [goes_append, ← sum_goes]
  have h1 : goes (sum l) [hi, lo] = byteK lo.toNat 8 (byteK hi.toNat 8 (sum l)) := rfl
  have hl := UInt8.toNat_lt lo
  have := own_check (sum l) (sum_lt l)
  rw [h1, show hi.toNat = sum l / 256 from by omega, show lo.toNat = sum l % 256 from by omega]
  exact this
end Crc
end Go.Proofs.Ytkgnmcekeeannab
/-
  Messages, in plain words: what Write makes of a message, and what a text tells.
-/
namespace Go.Proofs.Ytkgnmcekeeannab
namespace Ms

structure It where
  o : Int
  b : Int
  c : Int
structure M where
  kind : Int
  obj : Int
  blk : Int
  num : Int
  len : Int
  sym : ByteArray
  items : List It
  objs : Int

/-- a number as a byte, as Go turns it -/
def u8w (x : Int) : UInt8 := UInt8.ofNat (x % 256).toNat
theorem toNat_u8w (x : Int) : ((u8w x).toNat : Int) = x % 256 := by
  unfold u8w
  have h1 : 0 ≤ x % 256 := Int.emod_nonneg _ (by decide)
  have h2 : x % 256 < 256 := Int.emod_lt_of_pos _ (by decide)
  rw [UInt8.toNat_ofNat_of_lt' (by show (x % 256).toNat < 256; omega)]
  omega
theorem u8w_nat (x : UInt8) : u8w (x.toNat : Int) = x := by
  unfold u8w
  have := UInt8.toNat_lt x
  rw [show ((x.toNat : Int) % 256).toNat = x.toNat from by omega]
  simp
def itOK (t : It) : Prop := 0 ≤ t.o ∧ t.o ≤ 7 ∧ 0 ≤ t.b ∧ t.b ≤ 255 ∧ 0 ≤ t.c ∧ t.c ≤ 8
def itL (t : It) : List UInt8 := [u8w t.o, u8w t.b, u8w t.c]
def itsL : List It → List UInt8
  | [] => []
  | t :: l => itL t ++ itsL l
def noData (m : M) : Prop := m.obj = 0 ∧ m.blk = 0 ∧ m.num = 0 ∧ m.len = 0 ∧ m.sym.size = 0
def dataOK (m : M) : Prop := 0 ≤ m.obj ∧ m.obj ≤ 7 ∧ 0 ≤ m.blk ∧ m.blk ≤ 255 ∧ 0 ≤ m.num ∧ m.num ≤ 15 ∧ 1 ≤ m.len ∧ m.len ≤ 256 ∧ 1 ≤ m.sym.size ∧ m.sym.size ≤ 16 ∧ m.items = [] ∧ m.objs = 0
def reqOK (m : M) : Prop := noData m ∧ m.objs = 0 ∧ 1 ≤ m.items.length ∧ m.items.length ≤ 8 ∧ ∀ t ∈ m.items, itOK t
def endOK (m : M) : Prop := 0 ≤ m.objs ∧ m.objs ≤ 8 ∧ noData m ∧ m.items = []
/-- there is such a message -/
def ok (m : M) : Prop := (m.kind = 1 ∧ dataOK m) ∨ (m.kind = 2 ∧ reqOK m) ∨ (m.kind = 3 ∧ endOK m)
/-- what stands ahead of the check -/
def body (m : M) : List UInt8 :=
  if m.kind = 1 then [68, u8w m.obj, u8w m.blk, u8w m.num, u8w (m.len / 256), u8w (m.len % 256)] ++ m.sym.data.toList
  else if m.kind = 2 then [82, u8w m.items.length] ++ itsL m.items
  else [69, u8w m.objs]
def checked (l : List UInt8) : List UInt8 := l ++ [u8w ((Crc.sum l / 256 : Nat) : Int), u8w ((Crc.sum l % 256 : Nat) : Int)]
/-- the message as a text -/
def text (m : M) : List UInt8 := checked (body m)

theorem goes_checked (l : List UInt8) : Crc.goes 65535 (checked l) = 0 := by
  unfold checked
  refine Crc.goes_whole l _ _ ?_
  have h := Crc.sum_lt l
  have h1 := toNat_u8w ((Crc.sum l / 256 : Nat) : Int)
  have h2 := toNat_u8w ((Crc.sum l % 256 : Nat) : Int)
  omega
end Ms
end Go.Proofs.Ytkgnmcekeeannab
/-
  What a text tells, in plain words: by the reference's guess and by the landed one; both find the message, where the text is one.
-/
namespace Go.Proofs.Ytkgnmcekeeannab
namespace Ms
open Go

def byt (s : ByteArray) (i : Nat) : Int := ((s.data.toList.getD i 0).toNat : Int)
theorem byt_get (s : ByteArray) (i : Nat) (h : i < s.size) : byt s i = (s[i].toNat : Int) := by
  unfold byt
  rw [List.getD_eq_getElem?_getD, List.getElem?_eq_getElem (by simpa using h)]; rfl
theorem byt_range (s : ByteArray) (i : Nat) : 0 ≤ byt s i ∧ byt s i < 256 := by
  unfold byt; have := UInt8.toNat_lt (s.data.toList.getD i 0); omega
def zeroM : M := ⟨0, 0, 0, 0, 0, ⟨#[]⟩, [], 0⟩
def gItem (s : ByteArray) (j : Nat) : It := ⟨byt s (2 + 3 * j), byt s (2 + 3 * j + 1), byt s (2 + 3 * j + 2)⟩
def gItems (s : ByteArray) (k : Nat) : List It := (List.range k).map (gItem s)
def gData (s : ByteArray) : M := ⟨1, byt s 1, byt s 2, byt s 3, byt s 4 * 256 + byt s 5, s.extract 6 (s.size - 2), [], 0⟩
def gReq (s : ByteArray) (k : Nat) : M := ⟨2, 0, 0, 0, 0, ⟨#[]⟩, gItems s k, 0⟩
def gEnd (s : ByteArray) : M := ⟨3, 0, 0, 0, 0, ⟨#[]⟩, [], byt s 1⟩
def gRef (s : ByteArray) : M :=
  if 9 ≤ s.size ∧ byt s 0 = 68 then gData s
  else if 4 ≤ s.size ∧ byt s 0 = 82 then gReq s ((s.size - 4) / 3)
  else if s.size = 4 ∧ byt s 0 = 69 then gEnd s
  else zeroM
def gLan (s : ByteArray) : M :=
  if s.size < 4 then zeroM
  else if byt s 0 = 68 then (if s.size < 8 then zeroM else gData s)
  else if byt s 0 = 82 then gReq s (min 8 ((s.size - 4) / 3))
  else if byt s 0 = 69 then gEnd s
  else zeroM
/-- the text is this message -/
def Tells (s : ByteArray) (m : M) : Prop := ok m ∧ s.data.toList = text m

theorem itsL_length (l : List It) : (itsL l).length = 3 * l.length := by
  induction l with
  | nil => rfl
  | cons t l ih => simp only [itsL, List.length_append, ih, itL, List.length_cons, List.length_nil]; omega
theorem itsL_get (l : List It) : ∀ (j : Nat) (hj : j < l.length) (r : Nat), r < 3 → (itsL l)[3 * j + r]? = (itL l[j])[r]? := by
  induction l with
  | nil => intro j hj; simp at hj
  | cons t l ih =>
    intro j hj r hr
    simp only [itsL]
    cases j with
    | zero => rw [List.getElem?_append_left (by simp [itL]; omega)]; simp
    | succ j =>
      rw [List.getElem?_append_right (by simp [itL]; omega)]
      have e : 3 * (j + 1) + r - (itL t).length = 3 * j + r := by simp [itL]; omega
      rw [e, ih j (by simpa using hj) r hr]; simp
theorem u8w_back (x : Int) (h0 : 0 ≤ x) (h1 : x < 256) : ((u8w x).toNat : Int) = x := by rw [toNat_u8w]; omega
theorem M_ext {a b : M} (h1 : a.kind = b.kind) (h2 : a.obj = b.obj) (h3 : a.blk = b.blk) (h4 : a.num = b.num) (h5 : a.len = b.len) (h6 : a.sym = b.sym) (h7 : a.items = b.items) (h8 : a.objs = b.objs) : a = b := by
  cases a; cases b; simp_all
theorem It_ext {a b : It} (h1 : a.o = b.o) (h2 : a.b = b.b) (h3 : a.c = b.c) : a = b := by
  cases a; cases b; simp_all
theorem bytes_ext {a b : ByteArray} (h : a.data.toList = b.data.toList) : a = b := by
  cases a; cases b; simp only [ByteArray.mk.injEq]; exact Array.toList_inj.1 h
theorem size_zero {a : ByteArray} (h : a.size = 0) : a = ⟨#[]⟩ := by
  apply bytes_ext
  have : a.data.toList.length = 0 := by simpa using h
  rw [List.length_eq_zero_iff] at this
  rw [this]
theorem len_eq (s : ByteArray) : s.size = s.data.toList.length := by simp

theorem tells_data {s : ByteArray} {m : M} (h : Tells s m) (hk : m.kind = 1) : 9 ≤ s.size ∧ byt s 0 = 68 ∧ gData s = m := by
  obtain ⟨hok, ht⟩ := h
  have hd : dataOK m := by
    rcases hok with h | h | h
    · exact h.2
    · rw [hk] at h; exact absurd h.1 (by decide)
    · rw [hk] at h; exact absurd h.1 (by decide)
  obtain ⟨a1, a2, a3, a4, a5, a6, a7, a8, a9, a10, a11, a12⟩ := hd
  have ht2 := ht
  unfold text checked body at ht2
  rw [if_pos hk] at ht2
  obtain ⟨c, hc, hcl⟩ : ∃ c : List UInt8, s.data.toList = [68, u8w m.obj, u8w m.blk, u8w m.num, u8w (m.len / 256), u8w (m.len % 256)] ++ (m.sym.data.toList ++ c) ∧ c.length = 2 := ⟨_, by rw [ht2, List.append_assoc], rfl⟩
  have hsz : s.size = 8 + m.sym.size := by
    rw [len_eq, hc, List.length_append, List.length_append, hcl, ← len_eq]; simp; omega
  refine ⟨by omega, by unfold byt; rw [hc]; rfl, ?_⟩
  apply M_ext
  · exact hk.symm
  · show byt s 1 = _
    unfold byt; rw [hc]; exact u8w_back _ a1 (by omega)
  · show byt s 2 = _
    unfold byt; rw [hc]; exact u8w_back _ a3 (by omega)
  · show byt s 3 = _
    unfold byt; rw [hc]; exact u8w_back _ a5 (by omega)
  · show byt s 4 * 256 + byt s 5 = _
    have e4 : byt s 4 = m.len / 256 := by unfold byt; rw [hc]; exact u8w_back _ (by omega) (by omega)
    have e5 : byt s 5 = m.len % 256 := by unfold byt; rw [hc]; exact u8w_back _ (by omega) (by omega)
    omega
  · show s.extract 6 (s.size - 2) = _
    apply bytes_ext
    rw [Lib.extract_data, hc, hsz, show 8 + m.sym.size - 2 - 6 = m.sym.data.toList.length from by rw [← len_eq]; omega]
    have hd : ([68, u8w m.obj, u8w m.blk, u8w m.num, u8w (m.len / 256), u8w (m.len % 256)] ++ (m.sym.data.toList ++ c)).drop 6 = m.sym.data.toList ++ c := rfl
    rw [hd, List.take_left]
  · exact a11.symm
  · exact a12.symm
theorem tells_req {s : ByteArray} {m : M} (h : Tells s m) (hk : m.kind = 2) : s.size = 4 + 3 * m.items.length ∧ m.items.length ≤ 8 ∧ 1 ≤ m.items.length ∧ byt s 0 = 82 ∧ gReq s m.items.length = m := by
  obtain ⟨hok, ht⟩ := h
  have hd : reqOK m := by
    rcases hok with h | h | h
    · rw [hk] at h; exact absurd h.1 (by decide)
    · exact h.2
    · rw [hk] at h; exact absurd h.1 (by decide)
  obtain ⟨⟨n1, n2, n3, n4, n5⟩, a1, a2, a3, a4⟩ := hd
  have ht2 := ht
  unfold text checked body at ht2
  rw [if_neg (by rw [hk]; decide), if_pos hk] at ht2
  obtain ⟨c, hc, hcl⟩ : ∃ c : List UInt8, s.data.toList = [82, u8w m.items.length] ++ (itsL m.items ++ c) ∧ c.length = 2 := ⟨_, by rw [ht2, List.append_assoc], rfl⟩
  have hsz : s.size = 4 + 3 * m.items.length := by
    rw [len_eq, hc, List.length_append, List.length_append, hcl, itsL_length]; simp; omega
  refine ⟨hsz, a3, a2, by unfold byt; rw [hc]; rfl, ?_⟩
  apply M_ext
  · exact hk.symm
  · exact n1.symm
  · exact n2.symm
  · exact n3.symm
  · exact n4.symm
  · exact (size_zero n5).symm
  · show gItems s m.items.length = m.items
    have hget : ∀ (j : Nat) (hj : j < m.items.length) (r : Nat), r < 3 → s.data.toList[2 + 3 * j + r]? = (itL m.items[j])[r]? := by
      intro j hj r hr
      rw [hc, List.getElem?_append_right (by simp; omega), show 2 + 3 * j + r - ([82, u8w m.items.length] : List UInt8).length = 3 * j + r from by simp; omega, List.getElem?_append_left (by rw [itsL_length]; omega), itsL_get _ j hj r hr]
    apply List.ext_getElem
    · simp [gItems]
    · intro j h1 h2
      have o := a4 _ (List.getElem_mem h2)
      obtain ⟨o1, o2, o3, o4, o5, o6⟩ := o
      have g0 := hget j h2 0 (by decide)
      have g1 := hget j h2 1 (by decide)
      have g2 := hget j h2 2 (by decide)
      simp only [gItems, List.getElem_map, List.getElem_range]
      apply It_ext
      · show byt s (2 + 3 * j) = _
        unfold byt; rw [List.getD_eq_getElem?_getD, show 2 + 3 * j = 2 + 3 * j + 0 from rfl, g0]; exact u8w_back _ o1 (by omega)
      · show byt s (2 + 3 * j + 1) = _
        unfold byt; rw [List.getD_eq_getElem?_getD, g1]; exact u8w_back _ o3 (by omega)
      · show byt s (2 + 3 * j + 2) = _
        unfold byt; rw [List.getD_eq_getElem?_getD, g2]; exact u8w_back _ o5 (by omega)
  · exact a1.symm
theorem tells_end {s : ByteArray} {m : M} (h : Tells s m) (hk : m.kind = 3) : s.size = 4 ∧ byt s 0 = 69 ∧ gEnd s = m := by
  obtain ⟨hok, ht⟩ := h
  have hd : endOK m := by
    rcases hok with h | h | h
    · rw [hk] at h; exact absurd h.1 (by decide)
    · rw [hk] at h; exact absurd h.1 (by decide)
    · exact h.2
  obtain ⟨a1, a2, ⟨n1, n2, n3, n4, n5⟩, a3⟩ := hd
  have ht2 := ht
  unfold text checked body at ht2
  rw [if_neg (by rw [hk]; decide), if_neg (by rw [hk]; decide)] at ht2
  obtain ⟨c, hc, hcl⟩ : ∃ c : List UInt8, s.data.toList = [69, u8w m.objs] ++ c ∧ c.length = 2 := ⟨_, ht2, rfl⟩
  have hsz : s.size = 4 := by rw [len_eq, hc, List.length_append, hcl]; rfl
  refine ⟨hsz, by unfold byt; rw [hc]; rfl, ?_⟩
  apply M_ext
  · exact hk.symm
  · exact n1.symm
  · exact n2.symm
  · exact n3.symm
  · exact n4.symm
  · exact (size_zero n5).symm
  · exact a3.symm
  · show byt s 1 = _
    unfold byt; rw [hc]; exact u8w_back _ a1 (by omega)
theorem ok_kind {m : M} (h : ok m) : m.kind = 1 ∨ m.kind = 2 ∨ m.kind = 3 := by
  rcases h with h | h | h
  · exact .inl h.1
  · exact .inr (.inl h.1)
  · exact .inr (.inr h.1)
theorem tells_ref {s : ByteArray} {m : M} (h : Tells s m) : gRef s = m := by
  unfold gRef
  rcases ok_kind h.1 with k | k | k
  · obtain ⟨h1, h2, h3⟩ := tells_data h k
    rw [if_pos ⟨h1, h2⟩, h3]
  · obtain ⟨h1, h2, h3, h4, h5⟩ := tells_req h k
    rw [if_neg (by rintro ⟨_, e⟩; rw [h4] at e; exact absurd e (by decide)), if_pos ⟨by omega, h4⟩, show (s.size - 4) / 3 = m.items.length from by omega, h5]
  · obtain ⟨h1, h2, h3⟩ := tells_end h k
    rw [if_neg (by rintro ⟨_, e⟩; rw [h2] at e; exact absurd e (by decide)), if_neg (by rintro ⟨_, e⟩; rw [h2] at e; exact absurd e (by decide)), if_pos ⟨h1, h2⟩, h3]
theorem tells_lan {s : ByteArray} {m : M} (h : Tells s m) : gLan s = m := by
  unfold gLan
  rcases ok_kind h.1 with k | k | k
  · obtain ⟨h1, h2, h3⟩ := tells_data h k
    rw [if_neg (by omega), if_pos h2, if_neg (by omega), h3]
  · obtain ⟨h1, h2, h3, h4, h5⟩ := tells_req h k
    rw [if_neg (by omega), if_neg (by rw [h4]; decide), if_pos h4, show min 8 ((s.size - 4) / 3) = m.items.length from by omega, h5]
  · obtain ⟨h1, h2, h3⟩ := tells_end h k
    rw [if_neg (by omega), if_neg (by rw [h2]; decide), if_neg (by rw [h2]; decide), if_pos h2, h3]

/-! ### what is spoilt -/
theorem tells_goes {s : ByteArray} {m : M} (h : Tells s m) : Crc.goes 65535 s.data.toList = 0 := by
  rw [h.2]; exact goes_checked _
theorem zipx_self (l : List UInt8) : Crc.zipx l l = List.replicate l.length 0 := by
  induction l with
  | nil => rfl
  | cons a l ih => simp [Crc.zipx, ih, List.replicate_succ]
theorem zipx_append : ∀ (a c b d : List UInt8), a.length = c.length → Crc.zipx (a ++ b) (c ++ d) = Crc.zipx a c ++ Crc.zipx b d
  | [], [], _, _, _ => rfl
  | x :: a, y :: c, b, d, h => by simp [Crc.zipx, zipx_append a c b d (by simpa using h)]
/-- two texts alike but for one byte, or two side by side, are not both messages -/
theorem spoilt_two (a b : List UInt8) (x y x' y' : UInt8) (hx : x ≠ x') (h1 : Crc.goes 65535 (a ++ x :: y :: b) = 0) : Crc.goes 65535 (a ++ x' :: y' :: b) ≠ 0 := by
  intro h2
  have hz := Crc.goes_zip (a ++ x :: y :: b) (a ++ x' :: y' :: b) 65535 65535 (by simp) (by decide) (by decide)
  rw [h1, h2, zipx_append _ _ _ _ rfl, zipx_self] at hz
  simp only [Crc.zipx, zipx_self, Nat.xor_self] at hz
  exact Crc.burst _ _ _ _ (fun e => hx (by
    have : x ^^^ x' ^^^ x' = x' := by rw [e]; simp
    simpa [UInt8.xor_assoc] using this)) hz
theorem spoilt_one (a : List UInt8) (x x' : UInt8) (hx : x ≠ x') (h1 : Crc.goes 65535 (a ++ [x]) = 0) : Crc.goes 65535 (a ++ [x']) ≠ 0 := by
  intro h2
  have hz := Crc.goes_zip (a ++ [x]) (a ++ [x']) 65535 65535 (by simp) (by decide) (by decide)
  rw [h1, h2, zipx_append _ _ _ _ rfl, zipx_self] at hz
  simp only [Crc.zipx, Nat.xor_self] at hz
  exact Crc.burst_one _ _ (fun e => hx (by
    have : x ^^^ x' ^^^ x' = x' := by rw [e]; simp
    simpa [UInt8.xor_assoc] using this)) hz
end Ms
end Go.Proofs.Ytkgnmcekeeannab
