import Derived.Test.YtkgnmcekeeannabCrb
/-
  Messages, in plain words: what Write makes of a message, and what a text tells.
-/
namespace Go.Proofs.Ytkgnmcekeeannab
namespace Ms

structure It where
  o : Int
  b : Int
  c : Int
structure M where
  kind : Int
  obj : Int
  blk : Int
  num : Int
  len : Int
  sym : ByteArray
  items : List It
  objs : Int

/-- a number as a byte, as Go turns it -/
def u8w (x : Int) : UInt8 := UInt8.ofNat (x % 256).toNat
theorem toNat_u8w (x : Int) : ((u8w x).toNat : Int) = x % 256 := by
  unfold u8w
  have h1 : 0 ≤ x % 256 := Int.emod_nonneg _ (by decide)
  have h2 : x % 256 < 256 := Int.emod_lt_of_pos _ (by decide)
  rw [UInt8.toNat_ofNat_of_lt' (by show (x % 256).toNat < 256; omega)]
  omega
theorem u8w_nat (x : UInt8) : u8w (x.toNat : Int) = x := by
  unfold u8w
  have := UInt8.toNat_lt x
  rw [show ((x.toNat : Int) % 256).toNat = x.toNat from by omega]
  simp
def itOK (t : It) : Prop := 0 ≤ t.o ∧ t.o ≤ 7 ∧ 0 ≤ t.b ∧ t.b ≤ 255 ∧ 0 ≤ t.c ∧ t.c ≤ 8
def itL (t : It) : List UInt8 := [u8w t.o, u8w t.b, u8w t.c]
def itsL : List It → List UInt8
  | [] => []
  | t :: l => itL t ++ itsL l
def noData (m : M) : Prop := m.obj = 0 ∧ m.blk = 0 ∧ m.num = 0 ∧ m.len = 0 ∧ m.sym.size = 0
def dataOK (m : M) : Prop := 0 ≤ m.obj ∧ m.obj ≤ 7 ∧ 0 ≤ m.blk ∧ m.blk ≤ 255 ∧ 0 ≤ m.num ∧ m.num ≤ 15 ∧ 1 ≤ m.len ∧ m.len ≤ 256 ∧ 1 ≤ m.sym.size ∧ m.sym.size ≤ 16 ∧ m.items = [] ∧ m.objs = 0
def reqOK (m : M) : Prop := noData m ∧ m.objs = 0 ∧ 1 ≤ m.items.length ∧ m.items.length ≤ 8 ∧ ∀ t ∈ m.items, itOK t
def endOK (m : M) : Prop := 0 ≤ m.objs ∧ m.objs ≤ 8 ∧ noData m ∧ m.items = []
/-- there is such a message -/
def ok (m : M) : Prop := (m.kind = 1 ∧ dataOK m) ∨ (m.kind = 2 ∧ reqOK m) ∨ (m.kind = 3 ∧ endOK m)
/-- what stands ahead of the check -/
def body (m : M) : List UInt8 :=
  if m.kind = 1 then [68, u8w m.obj, u8w m.blk, u8w m.num, u8w (m.len / 256), u8w (m.len % 256)] ++ m.sym.data.toList
  else if m.kind = 2 then [82, u8w m.items.length] ++ itsL m.items
  else [69, u8w m.objs]
def checked (l : List UInt8) : List UInt8 := l ++ [u8w ((Crc.sum l / 256 : Nat) : Int), u8w ((Crc.sum l % 256 : Nat) : Int)]
/-- the message as a text -/
def text (m : M) : List UInt8 := checked (body m)

theorem goes_checked (l : List UInt8) : Crc.goes 65535 (checked l) = 0 := by
  unfold checked
  refine Crc.goes_whole l _ _ ?_
  have h := Crc.sum_lt l
  have h1 := toNat_u8w ((Crc.sum l / 256 : Nat) : Int)
  have h2 := toNat_u8w ((Crc.sum l % 256 : Nat) : Int)
  omega
end Ms
end Go.Proofs.Ytkgnmcekeeannab
