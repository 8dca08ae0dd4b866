import Derived.Test.YtkgnmcekeeannaaZ05
import Derived.Test.YtkgnmcekeeannaaZ09
import Derived.Deep.RegionHeld3
/-
  A sender in plain words: its numbers, its objects, what it owes block by block, how many symbols it has sent in their order.
-/
namespace Go.Proofs.Ytkgnmcekeeannaa
namespace Sn
open Ms (M txt text ok)

structure Nm where
  size : Nat
  block : Nat
  spare : Nat
def Nm.ok (n : Nm) : Prop := 1 ≤ n.size ∧ n.size ≤ 16 ∧ 1 ≤ n.block ∧ n.block ≤ 8 ∧ n.spare ≤ 8
/-- how many symbols an object of that length has -/
def Nm.all (n : Nm) (len : Nat) : Nat := (len + n.size - 1) / n.size
def Nm.blocks (n : Nm) (len : Nat) : Nat := (n.all len + n.block - 1) / n.block
/-- how many symbols a block has; 0: there is no such block -/
def Nm.many (n : Nm) (len b : Nat) : Nat := min (n.all len - b * n.block) n.block

/-- what is owed for a block, and its turn -/
structure Db where
  o : Nat
  b : Nat
  owes : Nat
  turn : Nat
structure St where
  n : Nm
  objs : List ByteArray
  debts : List Db
  sent : Nat

theorem all_le (n : Nm) (hn : n.ok) (len : Nat) (h : len ≤ 256) : n.all len ≤ 256 := by
  unfold Nm.all
  obtain ⟨h1, _⟩ := hn
  have : (len + n.size - 1) / n.size ≤ len := by
    by_cases h0 : len = 0
    · subst h0; rw [Nat.zero_add, Nat.div_eq_of_lt (by omega)]; omega
    · rw [Nat.div_le_iff_le_mul (by omega)]
      have : len * n.size ≥ len := Nat.le_mul_of_pos_right _ (by omega)
      have h2 : len * n.size + n.size - 1 = len * n.size + (n.size - 1) := by omega
      omega
  omega
theorem many_le (n : Nm) (len b : Nat) : n.many len b ≤ n.block := Nat.min_le_right _ _

/-- block b of an object, filled up with zeros -/
def filledB (n : Nm) (o : ByteArray) (b : Nat) : List UInt8 := (List.range (n.many o.size b * n.size)).map (fun i => o.data.toList.getD (b * n.block * n.size + i) 0)
/-- a symbol of a block, spare or not -/
def symOf (n : Nm) (o : ByteArray) (b num : Nat) : List UInt8 := Cod.flat n.size (Cod.symF (n.many o.size b) id (txt (filledB n o b)) n.size num) 1
/-- the message that tells it -/
def dataM (n : Nm) (o : ByteArray) (i b num : Nat) : M := ⟨1, i, b, num, o.size, txt (symOf n o b num), [], 0⟩
def endM (k : Nat) : M := ⟨3, 0, 0, 0, 0, ⟨#[]⟩, [], k⟩

/-! ### the calls -/
def enq (s : St) (o : ByteArray) : St × Int × Int :=
  if o.size = 0 ∨ 256 < o.size then (s, 0, 7)
  else if s.objs.length = 8 then (s, 0, 8)
  else ({ s with objs := s.objs ++ [o], debts := s.debts ++ (List.range (s.n.blocks o.size)).map (fun b => ⟨s.objs.length, b, 0, 0⟩) }, s.objs.length, 0)
/-- the first block for which something is owed -/
def owing (l : List Db) : Option Nat := l.findIdx? (fun d => decide (0 < d.owes))
/-- the symbol that is next in their order: its object, and its number among the object's -/
def order (n : Nm) : List ByteArray → Nat → Nat → Option (Nat × Nat)
  | [], _, _ => none
  | o :: l, i, left => if left < n.all o.size then some (i, left) else order n l (i + 1) (left - n.all o.size)
def objOf (s : St) (i : Nat) : ByteArray := s.objs.getD i ⟨#[]⟩
def debtOf (s : St) (i : Nat) : Db := s.debts.getD i ⟨0, 0, 0, 0⟩
def nxt (s : St) : St × ByteArray :=
  match owing s.debts with
  | some i =>
    let d := debtOf s i
    let k := s.n.many (objOf s d.o).size d.b
    ({ s with debts := s.debts.set i { d with owes := d.owes - 1, turn := d.turn + 1 } }, txt (text (dataM s.n (objOf s d.o) d.o d.b ((k + d.turn) % (k + s.n.spare)))))
  | none =>
    match order s.n s.objs 0 s.sent with
    | some (i, left) => ({ s with sent := s.sent + 1 }, txt (text (dataM s.n (objOf s i) i (left / s.n.block) (left % s.n.block))))
    | none => (s, txt (text (endM s.objs.length)))
/-- what one item makes the sender owe for one block -/
def due (s : St) (t : Ms.It) (d : Db) : Db :=
  if (d.o : Int) ≠ t.o ∨ (0 < t.c ∧ (d.b : Int) ≠ t.b) then d
  else
    let k := s.n.many (objOf s d.o).size d.b
    let n : Nat := if 0 < t.c ∧ t.c < (k : Int) then t.c.toNat else k
    if d.owes < n then { d with owes := n } else d
def dues (s : St) (l : List Ms.It) : List Db := l.foldl (fun ds t => ds.map (due s t)) s.debts
end Sn
end Go.Proofs.Ytkgnmcekeeannaa
namespace Go.Proofs.Ytkgnmcekeeannaa
open Go.RowKit Go.Deep
namespace Sn
open Bs
set_option linter.unusedVariables false

/-- the error of three numbers -/
def rightE (a b c : Int) : Int := if a < 1 ∨ 16 < a then 2 else if b < 1 ∨ 8 < b then 3 else if c < 0 ∨ 8 < c then 4 else 0
abbrev nV (a b c : Int) : Value := .agg #[.int .i64 a, .int .i64 b, .int .i64 c]
abbrev nmV (n : Nm) : Value := nV n.size n.block n.spare
abbrev nBox (a b c : Int) : Obj := .cells #[.int .i64 a, .int .i64 b, .int .i64 c] 116

set_option maxHeartbeats 1000000 in
theorem right_any (a b c : Int) (w : World) :
    Calls Try.prog 74 #[nV a b c] w fun e w' => e = .returned (.int .i64 (rightE a b c)) ∧ Below w.heap.size w w' := by
  have hb : Below w.heap.size w (w.alloc (nBox a b c)) := (Below.refl _ _).alloc (Nat.le_refl _) _
  obtain ⟨E, hE⟩ : ∃ E, E = rightE a b c := ⟨_, rfl⟩
  have HE : Hid (E = rightE a b c) := hE
  rw [← hE]
  clear hE
  by_cases a1 : a < 1 ∨ 16 < a
  · have e : E = 2 := by rw [HE.out, rightE, if_pos a1]
    subst e
    rcases a1 with h | h
    all_goals
      go_enter Try.func74, Try.ntmps74
      go_wp2
      go_ret
      exact ⟨rfl, hb⟩
  · by_cases b1 : b < 1 ∨ 8 < b
    · have e : E = 3 := by rw [HE.out, rightE, if_neg a1, if_pos b1]
      subst e
      have a2 : 1 ≤ a ∧ a ≤ 16 := by omega
      obtain ⟨a3, a4⟩ := a2
      clear a1
      rcases b1 with h | h
      all_goals
        go_enter Try.func74, Try.ntmps74
        go_wp2
        go_ret
        exact ⟨rfl, hb⟩
    · by_cases c1 : c < 0 ∨ 8 < c
      · have e : E = 4 := by rw [HE.out, rightE, if_neg a1, if_neg b1, if_pos c1]
        subst e
        have a2 : 1 ≤ a ∧ a ≤ 16 := by omega
        obtain ⟨a3, a4⟩ := a2
        have b2 : 1 ≤ b ∧ b ≤ 8 := by omega
        obtain ⟨b3, b4⟩ := b2
        clear a1 b1
        rcases c1 with h | h
        all_goals
          go_enter Try.func74, Try.ntmps74
          go_wp2
          go_ret
          exact ⟨rfl, hb⟩
      · have e : E = 0 := by rw [HE.out, rightE, if_neg a1, if_neg b1, if_neg c1]
        subst e
        have a2 : 1 ≤ a ∧ a ≤ 16 := by omega
        obtain ⟨a3, a4⟩ := a2
        have b2 : 1 ≤ b ∧ b ≤ 8 := by omega
        obtain ⟨b3, b4⟩ := b2
        have c2 : 0 ≤ c ∧ c ≤ 8 := by omega
        obtain ⟨c3, c4⟩ := c2
        clear a1 b1 c1
        go_enter Try.func74, Try.ntmps74
        go_wp2
        go_ret
        exact ⟨rfl, hb⟩
theorem div_nat (x z : Nat) (hz : 0 < z) : ((x : Int)).tdiv (z : Int) = ((x / z : Nat) : Int) := by
  rw [Int.tdiv_eq_ediv_of_nonneg (by omega), ← Int.natCast_ediv]

set_option maxHeartbeats 1000000 in
theorem all_any (n : Nm) (len : Nat) (w : World) (hn : n.ok) (hl : len ≤ 65536) :
    Calls Try.prog 80 #[nmV n, .int .i64 len] w fun e w' => e = .returned (.int .i64 (n.all len : Nat)) ∧ Below w.heap.size w w' := by
  obtain ⟨z, bk, sp⟩ := n
  obtain ⟨h1, h2, _⟩ := hn
  simp only at h1 h2
  have hb : Below w.heap.size w (w.alloc (nBox z bk sp)) := (Below.refl _ _).alloc (Nat.le_refl _) _
  have hd : ((len : Int) + z - 1).tdiv (z : Int) = (((len + z - 1) / z : Nat) : Int) := by
    rw [show ((len : Int) + z - 1) = ((len + z - 1 : Nat) : Int) from by omega]
    exact div_nat _ _ (by omega)
  have hd2 : ((len : Int) + z - 1) / (z : Int) = (((len + z - 1) / z : Nat) : Int) := by
    rw [show ((len : Int) + z - 1) = ((len + z - 1 : Nat) : Int) from by omega, ← Int.natCast_ediv]
  have hle : (len + z - 1) / z ≤ len + z - 1 := Nat.div_le_self _ _
  have HV : Hid ((⟨z, bk, sp⟩ : Nm).all len = (len + z - 1) / z) := rfl
  rw [HV.out]
  generalize (len + z - 1) / z = Q at *
  go_enter Try.func80, Try.ntmps80
  go_wp2
  go_ret
  exact ⟨by simp [*], hb⟩
set_option maxHeartbeats 1000000 in
theorem blocks_any (n : Nm) (len : Nat) (w : World) (hn : n.ok) (hl : len ≤ 65536) :
    Calls Try.prog 76 #[nmV n, .int .i64 len] w fun e w' => e = .returned (.int .i64 (n.blocks len : Nat)) ∧ Below w.heap.size w w' := by
  have HA := all_any n len (w.alloc (nBox n.size n.block n.spare)) hn hl
  have B0 : Below w.heap.size w (w.alloc (nBox n.size n.block n.spare)) := (Below.refl _ _).alloc (Nat.le_refl _) _
  have hA : n.all len ≤ 70000 := by
    unfold Nm.all
    obtain ⟨h1, h2, _⟩ := hn
    have : (len + n.size - 1) / n.size ≤ len + n.size - 1 := Nat.div_le_self _ _
    omega
  have HV : Hid (n.blocks len = (n.all len + n.block - 1) / n.block) := rfl
  rw [HV.out]
  obtain ⟨z, bk, sp⟩ := n
  obtain ⟨h1, h2, h3, h4, _⟩ := hn
  simp only at h1 h2 h3 h4 HA B0 ⊢
  generalize (⟨z, bk, sp⟩ : Nm).all len = A at *
  have hd2 : ((A : Int) + bk - 1) / (bk : Int) = (((A + bk - 1) / bk : Nat) : Int) := by
    rw [show ((A : Int) + bk - 1) = ((A + bk - 1 : Nat) : Int) from by omega, ← Int.natCast_ediv]
  have hle : (A + bk - 1) / bk ≤ A + bk - 1 := Nat.div_le_self _ _
  generalize (A + bk - 1) / bk = Q at *
  go_enter Try.func76, Try.ntmps76
  go_wp2_with fail
  refine HA.mono ?_
  rintro e w1 ⟨rfl, hb1⟩
  have B1 := B0.trans (hb1.mono (by simp))
  have d1 : w1.cell? ⟨w.heap.size, 1, none⟩ = some (.int .i64 bk) := (hb1.cell (p := ⟨w.heap.size, 1, none⟩) (by simp)).trans (cell_new rfl rfl)
  clear HA hb1 B0
  go_wp2
  go_ret
  exact ⟨by simp [*], B1⟩
set_option maxHeartbeats 1000000 in
theorem many_any (n : Nm) (len b : Nat) (w : World) (hn : n.ok) (hl : len ≤ 65536) (hbb : b ≤ 65536) :
    Calls Try.prog 78 #[nmV n, .int .i64 len, .int .i64 b] w fun e w' => e = .returned (.int .i64 (n.many len b : Nat)) ∧ Below w.heap.size w w' := by
  have B0 : Below w.heap.size w (w.alloc (nBox n.size n.block n.spare)).drew := ((Below.refl _ _).alloc (Nat.le_refl _) _).drew
  have HA : Calls Try.prog 80 #[nmV n, .int .i64 len] (w.alloc (nBox n.size n.block n.spare)).drew fun e w' => e = .returned (.int .i64 (n.all len : Nat)) ∧ Below w.heap.size w w' ∧ w'.cell? ⟨w.heap.size, 0, none⟩ = some (.int .i64 n.size) ∧ w'.cell? ⟨w.heap.size, 1, none⟩ = some (.int .i64 n.block) ∧ w'.cell? ⟨w.heap.size, 2, none⟩ = some (.int .i64 n.spare) := by
    refine (all_any n len _ hn hl).mono ?_
    rintro e w1 ⟨rfl, hb1⟩
    exact ⟨rfl, B0.trans (hb1.mono (by simp)), (hb1.cell (p := ⟨w.heap.size, 0, none⟩) (by simp)).trans (cell_new (w := w) rfl rfl), (hb1.cell (p := ⟨w.heap.size, 1, none⟩) (by simp)).trans (cell_new (w := w) rfl rfl), (hb1.cell (p := ⟨w.heap.size, 2, none⟩) (by simp)).trans (cell_new (w := w) rfl rfl)⟩
  have hA : n.all len ≤ 70000 := by
    unfold Nm.all
    obtain ⟨h1, h2, _⟩ := hn
    have : (len + n.size - 1) / n.size ≤ len + n.size - 1 := Nat.div_le_self _ _
    omega
  have HV : Hid (n.many len b = min (n.all len - b * n.block) n.block) := rfl
  obtain ⟨z, bk, sp⟩ := n
  obtain ⟨h1, h2, h3, h4, _⟩ := hn
  simp only at h1 h2 h3 h4 HA B0 HV ⊢
  generalize (⟨z, bk, sp⟩ : Nm).many len b = R at *
  generalize (⟨z, bk, sp⟩ : Nm).all len = A at *
  have hP : b * bk ≤ 65536 * 8 := Nat.mul_le_mul hbb h4
  have hPc : (b : Int) * (bk : Int) = ((b * bk : Nat) : Int) := by simp
  have HV2 : Hid (R = min (A - b * bk) bk) := HV.out
  generalize b * bk = P at *
  have hb0 : 0 ≤ (b : Int) := by omega
  go_enter Try.func78, Try.ntmps78
  clear B0
  go_wp2_with fail
  go_region_held3 (fun w' => w'.cell? ⟨w.heap.size, 0, none⟩ = some (.int .i64 z) ∧ w'.cell? ⟨w.heap.size, 1, none⟩ = some (.int .i64 bk) ∧ w'.cell? ⟨w.heap.size, 2, none⟩ = some (.int .i64 sp)) (go_keep)
    (first | (go_at_call 80; refine HA.mono ?_; rintro e w1 ⟨rfl, B1, k0, d1, k2⟩))
  all_goals
    by_cases g1 : (A : Int) - (P : Int) < 0
    · have e : R = 0 := by rw [HV2.out]; omega
      subst e
      go_wp2
      go_ret
      exact ⟨rfl, B1⟩
    · by_cases g2 : (bk : Int) < (A : Int) - (P : Int)
      · have e : R = bk := by rw [HV2.out]; omega
        subst e
        have g1' : 0 ≤ (A : Int) - (P : Int) := by omega
        clear g1
        go_wp2
        go_ret
        exact ⟨rfl, B1⟩
      · have e : (R : Int) = (A : Int) - (P : Int) := by rw [HV2.out]; omega
        have HR : Hid ((R : Int) = (A : Int) - (P : Int)) := e
        have g1' : 0 ≤ (A : Int) - (P : Int) := by omega
        have g2' : (A : Int) - (P : Int) ≤ (bk : Int) := by omega
        clear g1 g2 e
        go_wp2
        go_ret
        exact ⟨by rw [HR.out]; rfl, B1⟩
end Sn
end Go.Proofs.Ytkgnmcekeeannaa
/-
  The landed layout: pieces, New, Blocks, Symbols.
-/
namespace Go.Proofs.Ytkgnmcekeeannaa
open Go.RowKit Go.Deep
namespace Sn
open Bs
set_option linter.unusedVariables false

abbrev lBox (a b c : Int) : Obj := .cells #[.int .i64 a, .int .i64 b, .int .i64 c] 106
theorem pieces_eq (x z : Nat) (hx : 1 ≤ x) (hz : 1 ≤ z) : (x - 1) / z + 1 = (x + z - 1) / z := by
  rw [← Nat.add_div_right _ (by omega : 0 < z)]
  congr 1; omega

set_option maxHeartbeats 1000000 in
theorem pieces_any (x z : Nat) (w : World) (hx : x ≤ 4294967296) (hz : 1 ≤ z) (hz2 : z ≤ 65536) :
    Calls Try.prog 103 #[.int .i64 x, .int .i64 z] w fun e w' => e = .returned (.int .i64 (((x + z - 1) / z : Nat) : Int)) ∧ w' = w := by
  by_cases h0 : x = 0
  · subst h0
    have e : (0 + z - 1) / z = 0 := Nat.div_eq_of_lt (by omega)
    rw [e]
    clear e
    go_enter Try.func103, Try.ntmps103
    go_wp2
    go_ret
    exact ⟨rfl, rfl⟩
  · rw [← pieces_eq x z (by omega) hz]
    have h1 : 1 ≤ x := by omega
    clear h0
    have hd2 : ((x : Int) - 1) / (z : Int) = (((x - 1) / z : Nat) : Int) := by
      rw [show ((x : Int) - 1) = ((x - 1 : Nat) : Int) from by omega, ← Int.natCast_ediv]
    have hle : (x - 1) / z ≤ x - 1 := Nat.div_le_self _ _
    generalize (x - 1) / z = Q at *
    go_enter Try.func103, Try.ntmps103
    go_wp2
    go_ret
    exact ⟨by simp [*], rfl⟩

set_option maxHeartbeats 1000000 in
theorem layNew_any (a b c : Int) (w : World) :
    Calls Try.prog 91 #[.int .i64 a, .int .i64 b, .int .i64 c] w fun e w' => e = .returned (.tuple #[if rightE a b c = 0 then nV a b c else nV 0 0 0, .int .i64 (rightE a b c)]) ∧ Below w.heap.size w w' := by
  obtain ⟨E, hE⟩ : ∃ E, E = rightE a b c := ⟨_, rfl⟩
  have HE : Hid (E = rightE a b c) := hE
  rw [← hE]
  clear hE
  by_cases a1 : a < 1 ∨ 16 < a
  · have e : E = 2 := by rw [HE.out, rightE, if_pos a1]
    subst e
    rw [if_neg (by decide)]
    rcases a1 with h | h
    all_goals
      go_enter Try.func91, Try.ntmps91
      go_wp2
      refine bodyPost_ret (v := .tuple #[nV 0 0 0, .int .i64 2]) (by simp [results, Try.results91, go_sem]) rfl ?_
      exact ⟨rfl, (Below.refl _ _).alloc (Nat.le_refl _) _⟩
  · by_cases b1 : b < 1 ∨ 8 < b
    · have e : E = 3 := by rw [HE.out, rightE, if_neg a1, if_pos b1]
      subst e
      rw [if_neg (by decide)]
      have a2 : 1 ≤ a ∧ a ≤ 16 := by omega
      obtain ⟨a3, a4⟩ := a2
      clear a1
      rcases b1 with h | h
      all_goals
        go_enter Try.func91, Try.ntmps91
        go_wp2
        refine bodyPost_ret (v := .tuple #[nV 0 0 0, .int .i64 3]) (by simp [results, Try.results91, go_sem]) rfl ?_
        exact ⟨rfl, (Below.refl _ _).alloc (Nat.le_refl _) _⟩
    · by_cases c1 : c < 0 ∨ 8 < c
      · have e : E = 4 := by rw [HE.out, rightE, if_neg a1, if_neg b1, if_pos c1]
        subst e
        rw [if_neg (by decide)]
        have a2 : 1 ≤ a ∧ a ≤ 16 := by omega
        obtain ⟨a3, a4⟩ := a2
        have b2 : 1 ≤ b ∧ b ≤ 8 := by omega
        obtain ⟨b3, b4⟩ := b2
        clear a1 b1
        rcases c1 with h | h
        all_goals
          go_enter Try.func91, Try.ntmps91
          go_wp2
          refine bodyPost_ret (v := .tuple #[nV 0 0 0, .int .i64 4]) (by simp [results, Try.results91, go_sem]) rfl ?_
          exact ⟨rfl, (Below.refl _ _).alloc (Nat.le_refl _) _⟩
      · have e : E = 0 := by rw [HE.out, rightE, if_neg a1, if_neg b1, if_neg c1]
        subst e
        rw [if_pos rfl]
        have a2 : 1 ≤ a ∧ a ≤ 16 := by omega
        obtain ⟨a3, a4⟩ := a2
        have b2 : 1 ≤ b ∧ b ≤ 8 := by omega
        obtain ⟨b3, b4⟩ := b2
        have c2 : 0 ≤ c ∧ c ≤ 8 := by omega
        obtain ⟨c3, c4⟩ := c2
        clear a1 b1 c1
        go_enter Try.func91, Try.ntmps91
        go_wp2
        refine bodyPost_ret (v := .tuple #[nV a b c, .int .i64 0]) (by simp [results, Try.results91, go_sem]) rfl ?_
        exact ⟨rfl, (Below.refl _ _).alloc (Nat.le_refl _) _⟩

set_option maxHeartbeats 1000000 in
theorem layBlocks (n : Nm) (len : Nat) (w : World) (hn : n.ok) (hl : len ≤ 65536) :
    Calls Try.prog 92 #[nmV n, .int .i64 len] w fun e w' => e = .returned (.int .i64 (n.blocks len : Nat)) ∧ Below w.heap.size w w' := by
  obtain ⟨z, bk, sp⟩ := n
  obtain ⟨h1, h2, h3, h4, _⟩ := hn
  simp only at h1 h2 h3 h4
  have B0 : Below w.heap.size w (w.alloc (lBox z bk sp)) := (Below.refl _ _).alloc (Nat.le_refl _) _
  have HP := pieces_any len z (w.alloc (lBox z bk sp)) (by omega) h1 (by omega)
  have hle : (len + z - 1) / z ≤ len + z - 1 := Nat.div_le_self _ _
  have HV : Hid ((⟨z, bk, sp⟩ : Nm).blocks len = ((len + z - 1) / z + bk - 1) / bk) := rfl
  rw [HV.out]
  generalize (len + z - 1) / z = A at *
  have HQ := pieces_any A bk (w.alloc (lBox z bk sp)) (by omega) h3 (by omega)
  go_enter Try.func92, Try.ntmps92
  go_wp2_with fail
  refine HP.mono ?_
  rintro e w1 ⟨rfl, rfl⟩
  clear HP
  go_wp2_with fail
  refine HQ.mono ?_
  rintro e w1 ⟨rfl, rfl⟩
  clear HQ
  go_wp2
  go_ret
  exact ⟨rfl, B0⟩
theorem many_cases (n : Nm) (hn : n.ok) (len b : Nat) : n.many len b = if b < n.blocks len then (if b + 1 < n.blocks len then n.block else n.all len - b * n.block) else 0 := by
  obtain ⟨_, _, h3, _⟩ := hn
  have e1 : ∀ c, c < n.blocks len ↔ c * n.block < n.all len := fun c => by
    unfold Nm.blocks
    rw [← Nat.succ_le_iff, Nat.le_div_iff_mul_le h3, Nat.succ_mul]; omega
  unfold Nm.many
  by_cases h : b < n.blocks len
  · rw [if_pos h]
    by_cases g : b + 1 < n.blocks len
    · rw [if_pos g]
      have := (e1 (b + 1)).1 g
      rw [Nat.succ_mul] at this
      omega
    · rw [if_neg g]
      have := mt (e1 (b + 1)).2 g
      rw [Nat.succ_mul] at this
      omega
  · rw [if_neg h]
    have := mt (e1 b).2 h
    omega
set_option maxHeartbeats 1000000 in
theorem laySymbols (n : Nm) (len b : Nat) (w : World) (hn : n.ok) (hl : len ≤ 65536) (hbb : b ≤ 65536) :
    Calls Try.prog 107 #[nmV n, .int .i64 len, .int .i64 b] w fun e w' => e = .returned (.int .i64 (n.many len b : Nat)) ∧ Below w.heap.size w w' := by
  have B0 : Below w.heap.size w (w.alloc (lBox n.size n.block n.spare)) := (Below.refl _ _).alloc (Nat.le_refl _) _
  have HBL := layBlocks n len (w.alloc (lBox n.size n.block n.spare)) hn hl
  have HV : Hid (n.many len b = if b < n.blocks len then (if b + 1 < n.blocks len then n.block else n.all len - b * n.block) else 0) := many_cases n hn len b
  have hA : n.all len ≤ 70000 := by
    unfold Nm.all
    obtain ⟨h1, h2, _⟩ := hn
    have : (len + n.size - 1) / n.size ≤ len + n.size - 1 := Nat.div_le_self _ _
    omega
  have hBl : n.blocks len ≤ 80000 := by
    unfold Nm.blocks
    obtain ⟨_, _, h3, h4, _⟩ := hn
    have : (n.all len + n.block - 1) / n.block ≤ n.all len + n.block - 1 := Nat.div_le_self _ _
    omega
  have e1 : b < n.blocks len → b * n.block < n.all len := fun h => by
    obtain ⟨_, _, h3, _⟩ := hn
    unfold Nm.blocks at h
    rw [← Nat.succ_le_iff, Nat.le_div_iff_mul_le h3, Nat.succ_mul] at h
    omega
  obtain ⟨z, bk, sp⟩ := n
  obtain ⟨h1, h2, h3, h4, _⟩ := hn
  simp only at *
  have HP := fun W => pieces_any len z W (by omega) h1 (by omega)
  have HA : Hid ((⟨z, bk, sp⟩ : Nm).all len = (len + z - 1) / z) := rfl
  rw [← HA.out] at HP
  clear HA
  generalize (⟨z, bk, sp⟩ : Nm).many len b = R at *
  generalize (⟨z, bk, sp⟩ : Nm).blocks len = BL at *
  generalize (⟨z, bk, sp⟩ : Nm).all len = A at *
  have hP : b * bk ≤ 65536 * 8 := Nat.mul_le_mul hbb h4
  have hPc : (b : Int) * (bk : Int) = ((b * bk : Nat) : Int) := by simp
  have HV2 : Hid (R = if b < BL then (if b + 1 < BL then bk else A - b * bk) else 0) := HV.out
  generalize b * bk = P at *
  clear HV
  go_enter Try.func107, Try.ntmps107
  go_wp2_with fail
  refine HBL.mono ?_
  rintro e w1 ⟨rfl, hb1⟩
  have B1 := B0.trans (hb1.mono (by simp))
  have d0 : w1.cell? ⟨w.heap.size, 0, none⟩ = some (.int .i64 z) := (hb1.cell (p := ⟨w.heap.size, 0, none⟩) (by simp)).trans (cell_new rfl rfl)
  have d1 : w1.cell? ⟨w.heap.size, 1, none⟩ = some (.int .i64 bk) := (hb1.cell (p := ⟨w.heap.size, 1, none⟩) (by simp)).trans (cell_new rfl rfl)
  clear HBL hb1 B0
  by_cases g0 : b < BL
  · have t0 : ((b : Int) < (BL : Int)) := by omega
    by_cases g1 : b + 1 < BL
    · have t1 : ((b : Int) < (BL : Int) - 1) := by omega
      have e : R = bk := by rw [HV2.out, if_pos g0, if_pos g1]
      subst e
      clear g0 g1
      go_wp2
      go_ret
      exact ⟨rfl, B1⟩
    · have t1 : ((BL : Int) - 1 ≤ (b : Int)) := by omega
      have e : R = A - P := by rw [HV2.out, if_pos g0, if_neg g1]
      have HE : Hid ((R : Int) = (A : Int) - (P : Int)) := by have := e1 g0; unfold Hid; rw [e]; omega
      have k1 : (P : Int) < (A : Int) := by have := e1 g0; omega
      clear g0 g1 e e1
      go_wp2_with fail
      refine (HP _).mono ?_
      rintro e w2 ⟨rfl, rfl⟩
      go_wp2
      go_ret
      exact ⟨by rw [HE.out]; simp [*], B1⟩
  · have t0 : ((BL : Int) ≤ (b : Int)) := by omega
    have e : R = 0 := by rw [HV2.out, if_neg g0]
    subst e
    clear g0
    go_wp2
    go_ret
    exact ⟨rfl, B1⟩
end Sn
end Go.Proofs.Ytkgnmcekeeannaa
