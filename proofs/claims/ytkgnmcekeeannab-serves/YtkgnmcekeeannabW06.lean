import Derived.Test.YtkgnmcekeeannabW05
import Derived.Test.YtkgnmcekeeannabW03
import Derived.Deep.RegionHeld3
namespace Go.Proofs.Ytkgnmcekeeannab
open Go.RowKit
namespace Cod
open Pol (G fm fi prodBut share lag sumTo)
open Fld (ret_int val_int i64_xor_nat)

def bv (x : G) : Value := .int .u8 x.toNat
def flat (size : Nat) (f : Nat → Nat → G) : Nat → List G
  | 0 => []
  | c + 1 => flat size f c ++ (List.range size).map (f c)
theorem flat_length (size : Nat) (f : Nat → Nat → G) : ∀ c, (flat size f c).length = c * size
  | 0 => by simp [flat]
  | c + 1 => by simp only [flat, List.length_append, flat_length size f c, List.length_map, List.length_range, Nat.succ_mul]
def part (size : Nat) (f : Nat → Nat → G) (c p : Nat) : List G := flat size f c ++ (List.range p).map (f c)
theorem part_length (size : Nat) (f : Nat → Nat → G) (c p : Nat) : (part size f c p).length = c * size + p := by simp [part, flat_length]
theorem part_zero (size : Nat) (f : Nat → Nat → G) (c : Nat) : part size f c 0 = flat size f c := by simp [part]
theorem part_size (size : Nat) (f : Nat → Nat → G) (c : Nat) : part size f c size = flat size f (c + 1) := rfl
theorem part_succ (size : Nat) (f : Nat → Nat → G) (c p : Nat) : part size f c (p + 1) = part size f c p ++ [f c p] := by simp [part, List.range_succ]

theorem conv_own {w : World} {base n : Nat} {v : Value} (l : List G) (h : w.ownsRow base 5 1 v n (l.map bv)) : (convert 72 9 v).run Try.prog w = .ok (.string ⟨l.toArray⟩) w := by
  have hn : l.length = n := by have := h.1; simpa using this
  rcases h.2 with ⟨rfl, rfl⟩ | ⟨b, cap, cur, rfl, hb, hg, hnc, hcm, _⟩
  · have : l = [] := List.length_eq_zero_iff.1 hn
    subst this
    rw [run_convert_bytes_string w 72 9 5 none 0 0 Try.underlying72 Try.underlying5 Try.underlying9]; rfl
  · subst hn
    refine run_convert_bytes_back w 72 9 5 ⟨b, 0, none⟩ cap l Try.underlying72 Try.underlying5 Try.underlying9 (fun j hj => ?_)
    exact h.cells (g := b) rfl j _ (by simp [bv, hj])

def symF (n : Nat) (ns : Nat → Nat) (s : ByteArray) (size first c p : Nat) : G := lag n (gx ns) (fun i => byteAt s (i * size + p)) (g (first + c))

set_option maxHeartbeats 2000000 in
theorem symbolsFrom_nat (first count n b off cap size : Nat) (ns : Nat → Nat) (s : ByteArray) (w : World) (hfc : first + count ≤ 16) (hns : ∀ i, i < n → ns i < 16) (hb : b < w.heap.size) (hn : n ≤ 8) (hn0 : 0 < n)
    (hs1 : 1 ≤ size) (hs16 : size ≤ 16) (hs : s.size = n * size) (hcell : ∀ i, i < n → w.cell? ⟨b, off + i, none⟩ = some (.int .i64 (ns i))) :
    Calls Try.prog 85 #[.int .i64 first, .int .i64 count, .slice (some ⟨b, off, none⟩) n cap, .string s, .int .i64 size] w
      fun e w' => e = .returned (.string ⟨(flat size (symF n ns s size first) count).toArray⟩) ∧ Below w.heap.size w w' := by
  obtain ⟨i0, hi, hz0, hz1, hz2⟩ := info_parts infoByte
  have HO : (w.alloc (Obj.cells #[] 5)).ownsRow w.heap.size 5 1 (.slice (some ⟨w.heap.size, 0, none⟩) 0 0) (0 * size) ((flat size (symF n ns s size first) 0).map bv) := by
    rw [Nat.zero_mul]; exact World.ownsRow_made w #[] 0 (Nat.le_refl _) (by decide) rfl
  go_enter Try.func85, Try.ntmps85
  go_wp2
  go_loopw [11, 12] (fun v t wr => ∃ c : Nat, c ≤ count ∧ t = .int .i64 (first + c : Nat) ∧ wr.ownsRow w.heap.size 5 1 v (c * size) ((flat size (symF n ns s size first) c).map bv) ∧ Below w.heap.size w wr) (fun _ t _ => first + count - (intOf t).toNat)
  case atStart => exact ⟨0, Nat.zero_le _, rfl, HO, (Below.refl _ _).alloc (Nat.le_refl _) _⟩
  case round =>
    obtain ⟨c, hc, rfl, hown, hnx⟩ := hrel
    clear HO
    have hsz := hnx.size
    by_cases hlt : c < count
    · have hcr : ∀ i, i < n → wr.cell? ⟨b, off + i, none⟩ = some (.int .i64 (ns i)) := fun i hi => (hnx.cell (p := ⟨b, off + i, none⟩) hb).trans (hcell i hi)
      have HC := sharesAt_nat (first + c) n b off cap ns wr (by omega) hns (by omega) hn hcr
      clear hcr hcell hns
      obtain ⟨T, hT⟩ : ∃ T, T = first + c := ⟨_, rfl⟩
      rw [← hT] at HC
      rw [← hT]
      have hTl : (T : Int) < (first : Int) + (count : Int) := by omega
      have hTf : first ≤ T := by omega
      have HT : Hid (T = first + c) := hT
      clear hT
      go_wp2_with fail
      refine HC.mono ?_
      rintro e w' ⟨v, rfl, hsv, hbel⟩
      clear HC
      obtain ⟨sb, scap, rfl, hsb1, hsb2, _, _, hsc⟩ := row_cells hsv hn0
      have hown1 : w'.ownsRow w.heap.size 5 1 u11 (c * size) ((part size (symF n ns s size first) c 0).map bv) := by
        rw [part_zero]
        exact hown.kept (row := none) ⟨hbel.os, hbel.tape, hbel.output, hbel.size, fun k hk _ => hbel.block k hk⟩ (by cases u11.ownBlock <;> simp)
      have hne : u11.ownBlock ≠ some sb := fun e => by have := (hown.lt sb e).2; omega
      have hb1 : Below w.heap.size w w' := hnx.trans (hbel.mono hsz)
      have hsz1 : w.heap.size ≤ w'.heap.size := hb1.size
      clear hown hnx hsz hbel hsv
      go_wp2
      go_loopw [11, 14] (fun v i wr => ∃ p : Nat, p ≤ size ∧ i = .int .i64 p ∧ wr.ownsRow w.heap.size 5 1 v (c * size + p) ((part size (symF n ns s size first) c p).map bv) ∧ v.ownBlock ≠ some sb ∧ sb < wr.heap.size ∧ (∀ i, i < n → wr.cell? ⟨sb, i, none⟩ = some (u8v (share n (gx ns) (g T)) i)) ∧ Below w.heap.size w wr) (fun _ i _ => size - (intOf i).toNat)
      case atStart => exact ⟨0, Nat.zero_le _, rfl, hown1, hne, hsb2, hsc, hb1⟩
      case round =>
        obtain ⟨p, hp, rfl, hown, hne, hsb2, hsc, hnx⟩ := hrel
        clear hown1 hb1
        have hsz := hnx.size
        by_cases hlp : p < size
        · have HV := valueAt_nat p n sb scap size (share n (gx ns) (g T)) s wr hlp hs16 hn hs hsc
          have HF : Hid (symF n ns s size first c p = sumTo n (fun i => fm (share n (gx ns) (g T) i) (byteAt s (i * size + p)))) := by
            unfold Hid; rw [HT.out]; rfl
          have HSC : Hid (∀ i, i < n → wr.cell? ⟨sb, i, none⟩ = some (u8v (share n (gx ns) (g T)) i)) := hsc
          have HSS : Hid (s.size = n * size) := hs
          clear hsc hs
          go_wp2_with fail
          refine HV.mono ?_
          rintro e w2 ⟨rfl, m, rfl⟩
          clear HV
          have hownd : (wr.drewN m).ownsRow w.heap.size 5 1 u11 (c * size + p) ((part size (symF n ns s size first) c p).map bv) := hown
          have hnxd : Below w.heap.size w (wr.drewN m) := below_drewN hnx m
          have hszd : w.heap.size ≤ (wr.drewN m).heap.size := hsz
          have hsbd : sb < (wr.drewN m).heap.size := hsb2
          have HSD : Hid (∀ i, i < n → (wr.drewN m).cell? ⟨sb, i, none⟩ = some (u8v (share n (gx ns) (g T)) i)) := HSC.out
          clear hown hnx hsz hsb2 HSC
          generalize wr.drewN m = wx at *
          have HBV : Hid (bv (symF n ns s size first c p) = .int .u8 (sumTo n (fun i => fm (share n (gx ns) (g T) i) (byteAt s (i * size + p)))).toNat) := by unfold Hid bv; rw [HF.out]
          generalize sumTo n (fun i => fm (share n (gx ns) (g T) i) (byteAt s (i * size + p))) = V at *
          have hcs : c * size ≤ 16 * 16 := Nat.mul_le_mul (by omega) hs16
          go_wp2_with (at_builtin; refine App.wpList_append_apart _ rfl _ _ 72 rfl w.heap.size 5 i0 (.int .u8 0) 1 1 Try.underlying72 hi hz0 hz1 hz2 rfl (by decide) _ _ _ rfl (hownd.alloc _) ⟨wx.heap.size, 0, none⟩ 1 1 [.int .u8 V.toNat] rfl rfl one_news ?c2 ?c3 ?c4 ?c5 ?_ (by decide))
          case c2 => intro u hu; simp at hu; subst hu; rfl
          case c3 => unfold maxLen; omega
          case c4 => omega
          case c5 => simp; omega
          · intro v' w1 hown' hgrow hap
            have hb2 := below_append hnxd hszd hownd hgrow
            have hown2 : w1.ownsRow w.heap.size 5 1 v' (c * size + (p + 1)) ((part size (symF n ns s size first) c (p + 1)).map bv) := by
              rw [part_succ, List.map_append, List.map_cons, List.map_nil, HBV.out]; exact hown'
            have hne2 := App.apart_ne hap hsbd hne
            have hsb3 : sb < w1.heap.size := Nat.lt_of_lt_of_le hsbd (by have := hgrow.size; simp at this; omega)
            have HS3 : Hid (∀ i, i < n → w1.cell? ⟨sb, i, none⟩ = some (u8v (share n (gx ns) (g T)) i)) := fun i hi => App.cells_stay hgrow hsbd hne (HSD.out i hi) rfl
            clear hownd hgrow hnxd hown' hap hne HSD hszd
            go_wp2
            go_roundw
            case rel => exact ⟨p + 1, by omega, by go_num, hown2, hne2, hsb3, HS3.out, hb2⟩
            case measure => simp [intOf]; omega
        · have e : p = size := by omega
          subst e
          have hown2 : wr.ownsRow w.heap.size 5 1 u11 ((c + 1) * p) ((flat p (symF n ns s p first) (c + 1)).map bv) := by
            rw [← part_size, Nat.succ_mul]; exact hown
          clear hown hsc hs
          go_wp2
          go_roundw
          case rel => exact ⟨c + 1, by omega, by have := HT.out; go_num, hown2, hnx⟩
          case measure => have := HT.out; simp [intOf]; omega
    · have e : c = count := by omega
      subst e
      have hcv := conv_own _ hown
      clear hcell hns hs
      go_wp2
      go_ret
      exact ⟨rfl, hnx⟩
end Cod
end Go.Proofs.Ytkgnmcekeeannab
/-
  A sender in plain words: its numbers, its objects, what it owes block by block, how many symbols it has sent in their order.
-/
namespace Go.Proofs.Ytkgnmcekeeannab
namespace Sn
open Ms (M txt text ok)

structure Nm where
  size : Nat
  block : Nat
  spare : Nat
def Nm.ok (n : Nm) : Prop := 1 ≤ n.size ∧ n.size ≤ 16 ∧ 1 ≤ n.block ∧ n.block ≤ 8 ∧ n.spare ≤ 8
/-- how many symbols an object of that length has -/
def Nm.all (n : Nm) (len : Nat) : Nat := (len + n.size - 1) / n.size
def Nm.blocks (n : Nm) (len : Nat) : Nat := (n.all len + n.block - 1) / n.block
/-- how many symbols a block has; 0: there is no such block -/
def Nm.many (n : Nm) (len b : Nat) : Nat := min (n.all len - b * n.block) n.block

/-- what is owed for a block, and its turn -/
structure Db where
  o : Nat
  b : Nat
  owes : Nat
  turn : Nat
structure St where
  n : Nm
  objs : List ByteArray
  debts : List Db
  sent : Nat

theorem all_le (n : Nm) (hn : n.ok) (len : Nat) (h : len ≤ 256) : n.all len ≤ 256 := by
  unfold Nm.all
  obtain ⟨h1, _⟩ := hn
  have : (len + n.size - 1) / n.size ≤ len := by
    by_cases h0 : len = 0
    · subst h0; rw [Nat.zero_add, Nat.div_eq_of_lt (by omega)]; omega
    · rw [Nat.div_le_iff_le_mul (by omega)]
      have : len * n.size ≥ len := Nat.le_mul_of_pos_right _ (by omega)
      have h2 : len * n.size + n.size - 1 = len * n.size + (n.size - 1) := by omega
      omega
  omega
theorem many_le (n : Nm) (len b : Nat) : n.many len b ≤ n.block := Nat.min_le_right _ _

/-- block b of an object, filled up with zeros -/
def filledB (n : Nm) (o : ByteArray) (b : Nat) : List UInt8 := (List.range (n.many o.size b * n.size)).map (fun i => o.data.toList.getD (b * n.block * n.size + i) 0)
/-- a symbol of a block, spare or not -/
def symOf (n : Nm) (o : ByteArray) (b num : Nat) : List UInt8 := Cod.flat n.size (Cod.symF (n.many o.size b) id (txt (filledB n o b)) n.size num) 1
/-- the message that tells it -/
def dataM (n : Nm) (o : ByteArray) (i b num : Nat) : M := ⟨1, i, b, num, o.size, txt (symOf n o b num), [], 0⟩
def endM (k : Nat) : M := ⟨3, 0, 0, 0, 0, ⟨#[]⟩, [], k⟩

/-! ### the calls -/
def enq (s : St) (o : ByteArray) : St × Int × Int :=
  if o.size = 0 ∨ 256 < o.size then (s, 0, 7)
  else if s.objs.length = 8 then (s, 0, 8)
  else ({ s with objs := s.objs ++ [o], debts := s.debts ++ (List.range (s.n.blocks o.size)).map (fun b => ⟨s.objs.length, b, 0, 0⟩) }, s.objs.length, 0)
/-- the first block for which something is owed -/
def owing (l : List Db) : Option Nat := l.findIdx? (fun d => decide (0 < d.owes))
/-- the symbol that is next in their order: its object, and its number among the object's -/
def order (n : Nm) : List ByteArray → Nat → Nat → Option (Nat × Nat)
  | [], _, _ => none
  | o :: l, i, left => if left < n.all o.size then some (i, left) else order n l (i + 1) (left - n.all o.size)
def objOf (s : St) (i : Nat) : ByteArray := s.objs.getD i ⟨#[]⟩
def debtOf (s : St) (i : Nat) : Db := s.debts.getD i ⟨0, 0, 0, 0⟩
def nxt (s : St) : St × ByteArray :=
  match owing s.debts with
  | some i =>
    let d := debtOf s i
    let k := s.n.many (objOf s d.o).size d.b
    ({ s with debts := s.debts.set i { d with owes := d.owes - 1, turn := d.turn + 1 } }, txt (text (dataM s.n (objOf s d.o) d.o d.b ((k + d.turn) % (k + s.n.spare)))))
  | none =>
    match order s.n s.objs 0 s.sent with
    | some (i, left) => ({ s with sent := s.sent + 1 }, txt (text (dataM s.n (objOf s i) i (left / s.n.block) (left % s.n.block))))
    | none => (s, txt (text (endM s.objs.length)))
/-- what one item makes the sender owe for one block -/
def due (s : St) (t : Ms.It) (d : Db) : Db :=
  if (d.o : Int) ≠ t.o ∨ (0 < t.c ∧ (d.b : Int) ≠ t.b) then d
  else
    let k := s.n.many (objOf s d.o).size d.b
    let n : Nat := if 0 < t.c ∧ t.c < (k : Int) then t.c.toNat else k
    if d.owes < n then { d with owes := n } else d
def dues (s : St) (l : List Ms.It) : List Db := l.foldl (fun ds t => ds.map (due s t)) s.debts
end Sn
end Go.Proofs.Ytkgnmcekeeannab
namespace Go.Proofs.Ytkgnmcekeeannab
open Go.RowKit Go.Deep
namespace Sn
open Bs
set_option linter.unusedVariables false

/-- the error of three numbers -/
def rightE (a b c : Int) : Int := if a < 1 ∨ 16 < a then 2 else if b < 1 ∨ 8 < b then 3 else if c < 0 ∨ 8 < c then 4 else 0
abbrev nV (a b c : Int) : Value := .agg #[.int .i64 a, .int .i64 b, .int .i64 c]
abbrev nmV (n : Nm) : Value := nV n.size n.block n.spare
theorem div_nat (x z : Nat) (hz : 0 < z) : ((x : Int)).tdiv (z : Int) = ((x / z : Nat) : Int) := by
  rw [Int.tdiv_eq_ediv_of_nonneg (by omega), ← Int.natCast_ediv]

end Sn
end Go.Proofs.Ytkgnmcekeeannab
