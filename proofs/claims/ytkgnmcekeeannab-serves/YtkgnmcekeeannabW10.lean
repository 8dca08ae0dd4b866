import Derived.Test.YtkgnmcekeeannabW06
import Derived.Test.YtkgnmcekeeannabW08
/-
  A receiver in plain words: its numbers, the data that it has heard and not refused, in their order; of how many objects it knows; how many it has handed over.
-/
namespace Go.Proofs.Ytkgnmcekeeannab
namespace Sn
open Ms (M It txt text ok)

structure Rt where
  n : Nm
  heard : List M
  known : Nat
  taken : Nat
def Rt.fresh (n : Nm) : Rt := ⟨n, [], 0, 0⟩
/-- an object's length; 0: it is not known -/
def lenIn : List M → Int → Int
  | [], _ => 0
  | m :: l, o => if m.obj = o then m.len else lenIn l o
def Rt.len (r : Rt) (o : Nat) : Nat := (lenIn r.heard o).toNat
/-- whether one more symbol has come -/
def fresh1 (o b : Int) (acc : List M) (m : M) : Bool := decide (m.obj = o) && decide (m.blk = b) && acc.all (fun x => decide (x.num ≠ m.num))
/-- the symbols of a block that have come: the first ones with different numbers, no more than k -/
def comeIn (o b : Int) (k : Nat) (acc : List M) : List M → List M
  | [] => acc
  | m :: l => if k ≤ acc.length then acc else if fresh1 o b acc m then comeIn o b k (acc ++ [m]) l else comeIn o b k acc l
def Rt.come (r : Rt) (o b : Nat) : List M := comeIn o b (r.n.many (r.len o) b) [] r.heard
def Rt.lacks (r : Rt) (o : Nat) : List It :=
  if r.len o = 0 then [⟨o, 0, 0⟩]
  else (List.range (r.n.blocks (r.len o))).filterMap (fun b =>
    if (r.come o b).length < r.n.many (r.len o) b then some ⟨o, b, ((r.n.many (r.len o) b - (r.come o b).length : Nat) : Int)⟩ else none)
def Rt.items (r : Rt) : List It := (List.range r.known).flatMap r.lacks
def reqM (l : List It) : M := ⟨2, 0, 0, 0, 0, ⟨#[]⟩, l, 0⟩
def Rt.request (r : Rt) : ByteArray := if r.items = [] then ⟨#[]⟩ else txt (text (reqM (r.items.take 8)))
/-- what a message does, and the answer -/
def Rt.hear (r : Rt) (m : M) : Rt × Int :=
  if m.kind = 2 then (r, 6)
  else if m.kind = 3 then ({ r with known := max r.known m.objs.toNat }, 0)
  else
    let k := r.n.many m.len.toNat m.blk.toNat
    if m.sym.size ≠ r.n.size ∨ k = 0 ∨ k + r.n.spare ≤ m.num.toNat then (r, 6)
    else if 0 < lenIn r.heard m.obj ∧ lenIn r.heard m.obj ≠ m.len then (r, 9)
    else ({ r with heard := r.heard ++ [m], known := max r.known (m.obj.toNat + 1) }, 0)
def symsOf (l : List M) : List UInt8 := l.flatMap (fun m => m.sym.data.toList)
def numAt (l : List M) (i : Nat) : Nat := ((l[i]?).elim 0 (fun m => m.num)).toNat
/-- a block that is complete -/
def Rt.blockOf (r : Rt) (o b : Nat) : List UInt8 :=
  let l := r.come o b
  Cod.flat r.n.size (Cod.symF l.length (numAt l) (txt (symsOf l)) r.n.size 0) l.length
def Rt.obj (r : Rt) (o : Nat) : List UInt8 := ((List.range (r.n.blocks (r.len o))).flatMap (r.blockOf o)).take (r.len o)
def Rt.take (r : Rt) : Rt × ByteArray × Bool :=
  if r.known ≤ r.taken ∨ r.lacks r.taken ≠ [] then (r, ⟨#[]⟩, false)
  else ({ r with taken := r.taken + 1 }, txt (r.obj r.taken), true)

theorem comeIn_len (o b : Int) (k : Nat) : ∀ (l acc : List M), acc.length ≤ k → (comeIn o b k acc l).length ≤ k
  | [], _, h => h
  | m :: l, acc, h => by
    unfold comeIn
    split
    · exact h
    · split
      · exact comeIn_len o b k l _ (by simp; omega)
      · exact comeIn_len o b k l _ h
theorem come_len (r : Rt) (o b : Nat) : (r.come o b).length ≤ r.n.many (r.len o) b := comeIn_len _ _ _ _ _ (Nat.zero_le _)
/-- all that have come are of the block, and of different numbers -/
def Come (o b : Int) (l : List M) : Prop := (∀ m ∈ l, m.obj = o ∧ m.blk = b) ∧ (l.map M.num).Nodup
theorem comeIn_come (o b : Int) (k : Nat) : ∀ (l acc : List M), Come o b acc → Come o b (comeIn o b k acc l)
  | [], _, h => h
  | m :: l, acc, h => by
    unfold comeIn
    split
    · exact h
    · split
      · rename_i hf
        refine comeIn_come o b k l _ ?_
        simp only [fresh1, Bool.and_eq_true, decide_eq_true_eq, List.all_eq_true] at hf
        refine ⟨fun x hx => ?_, ?_⟩
        · rcases List.mem_append.1 hx with hx | hx
          · exact h.1 x hx
          · rw [List.mem_singleton.1 hx]; exact hf.1
        · rw [List.map_append, List.nodup_append]
          refine ⟨h.2, by simp, fun a ha c hc => ?_⟩
          obtain ⟨x, hx, rfl⟩ := List.mem_map.1 ha
          rw [List.map_cons, List.map_nil, List.mem_singleton] at hc
          rw [hc]; exact hf.2 x hx
      · exact comeIn_come o b k l _ h
theorem come_come (r : Rt) (o b : Nat) : Come o b (r.come o b) := comeIn_come _ _ _ _ _ ⟨by simp, by simp⟩
theorem comeIn_mem (o b : Int) (k : Nat) : ∀ (l acc : List M) (m : M), m ∈ comeIn o b k acc l → m ∈ acc ∨ m ∈ l
  | [], _, _, h => .inl h
  | x :: l, acc, m, h => by
    unfold comeIn at h
    split at h
    · exact .inl h
    · split at h
      · rcases comeIn_mem o b k l _ m h with h | h
        · rcases List.mem_append.1 h with h | h
          · exact .inl h
          · exact .inr (by rw [List.mem_singleton.1 h]; simp)
        · exact .inr (List.mem_cons_of_mem _ h)
      · rcases comeIn_mem o b k l _ m h with h | h
        · exact .inl h
        · exact .inr (List.mem_cons_of_mem _ h)
theorem come_mem {r : Rt} {o b : Nat} {m : M} (h : m ∈ r.come o b) : m ∈ r.heard := by
  rcases comeIn_mem _ _ _ _ _ m h with h | h
  · simp at h
  · exact h
end Sn
end Go.Proofs.Ytkgnmcekeeannab
/-
  A receiver of the reference in memory.
-/
namespace Go.Proofs.Ytkgnmcekeeannab
open Go.RowKit Go.Deep
namespace Sn
open Bs
open Ms (M It)
set_option linter.unusedVariables false

/-- data that was heard, and what lies where its items would -/
structure Hm where
  m : M
  a : Option Addr
  n : Nat
  c : Nat
def Hm.v (h : Hm) : Value := .slice h.a h.n h.c
def h0 : Hm := ⟨⟨0, 0, 0, 0, 0, ⟨#[]⟩, [], 0⟩, none, 0, 0⟩
def hv (h : Hm) : List Value := [.int .i64 h.m.kind, .int .i64 h.m.obj, .int .i64 h.m.blk, .int .i64 h.m.num, .int .i64 h.m.len, .string h.m.sym, h.v, .int .i64 h.m.objs]
def hvs : List Hm → List Value
  | [] => []
  | d :: l => hv d ++ hvs l
theorem hvs_append (a b : List Hm) : hvs (a ++ b) = hvs a ++ hvs b := by
  induction a with
  | nil => rfl
  | cons d a ih => simp [hvs, ih]
theorem hvs_length (l : List Hm) : (hvs l).length = l.length * 8 := by
  induction l with
  | nil => rfl
  | cons d l ih => simp only [hvs, List.length_append, ih, hv, List.length_cons, List.length_nil]; omega
theorem hvs_get (l : List Hm) (d0 : Hm) : ∀ (i : Nat), i < l.length → ∀ r, r < 8 → (hvs l)[i * 8 + r]? = (hv (l.getD i d0))[r]? := by
  induction l with
  | nil => intro i hi; simp at hi
  | cons d l ih =>
    intro i hi r hr
    simp only [hvs]
    cases i with
    | zero => rw [List.getElem?_append_left (by simp [hv]; omega)]; simp
    | succ i =>
      rw [List.getElem?_append_right (by simp [hv]; omega)]
      have e : (i + 1) * 8 + r - (hv d).length = i * 8 + r := by simp [hv]; omega
      rw [e, ih i (by simpa using hi) r hr]; simp
def rRow (n : Nm) (vh : Value) (known taken : Nat) (j : Nat) : Value := ([.int .i64 n.size, .int .i64 n.block, .int .i64 n.spare, vh, .int .i64 known, .int .i64 taken] : List Value).getD j undef
/-! ### an object's length -/
theorem lenIn_drop (l : List M) (o : Int) (i : Nat) (h : i < l.length) (x0 : M) : lenIn (l.drop i) o = if (l.getD i x0).obj = o then (l.getD i x0).len else lenIn (l.drop (i + 1)) o := by
  have e : l.getD i x0 = l[i] := by simp [List.getD_eq_getElem?_getD, h]
  rw [List.drop_eq_getElem_cons h, e]; rfl
end Sn
end Go.Proofs.Ytkgnmcekeeannab
namespace Go.Proofs.Ytkgnmcekeeannab
open Go.RowKit
namespace Cod
open Pol (G fm fi prodBut share lag sumTo)
open Fld (ret_int val_int i64_xor_nat)

def nil : ByteArray := ⟨#[]⟩
/-- what Encode answers -/
def encOut (data : ByteArray) (size spare : Int) : ByteArray × Int :=
  if size < 1 ∨ 16 < size then (nil, 2)
  else if data.size = 0 ∨ data.size % size.toNat ≠ 0 ∨ 8 < data.size / size.toNat then (nil, 3)
  else if spare < 0 ∨ 8 < spare then (nil, 4)
  else (⟨(flat size.toNat (symF (data.size / size.toNat) id data size.toNat (data.size / size.toNat)) spare.toNat).toArray⟩, 0)

abbrev encV (data : ByteArray) (size spare : Int) : Value := .tuple #[.string (encOut data size spare).1, .int .i64 (encOut data size spare).2]

theorem ints_vals (k : Nat) : ints k = vals (fun i => .int .i64 (i : Nat)) k := rfl

set_option maxHeartbeats 1000000 in
theorem encode_ok (data : ByteArray) (z sp k : Nat) (w : World) (hd : data.size ≤ maxLen) (hz1 : 1 ≤ z) (hz : z ≤ 16) (hk0 : 0 < k) (hk : k ≤ 8) (hdk : data.size = k * z) (hsp : sp ≤ 8) :
    Calls Try.prog 83 #[.string data, .int .i64 z, .int .i64 sp] w fun e w' => e = .returned (.tuple #[.string ⟨(flat z (symF k id data z k) sp).toArray⟩, .int .i64 0]) ∧ Below w.heap.size w w' := by
  unfold maxLen at hd
  have hq : data.size / z = k := by rw [hdk]; exact Nat.mul_div_cancel _ hz1
  have hr : data.size % z = 0 := by rw [hdk]; exact Nat.mul_mod_left _ _
  have h0 : 0 < data.size := by rw [hdk]; exact Nat.mul_pos hk0 hz1
  have t1 : (((data.size : Nat) : Int) == 0) = false := beq_eq_false_iff_ne.2 (by omega)
  have e2 : ((data.size : Int) % (z : Int)) = 0 := by rw [← Int.natCast_emod, hr]; rfl
  have e3 : ((data.size : Int) / (z : Int)) = (k : Int) := by rw [← hq]; simp
  have HC := numbersBelow_nat k
  have HD : Hid (data.size = k * z) := hdk
  clear hdk hq hr
  go_enter Try.func83, Try.ntmps83
  go_wp2_with fail
  refine (HC _ hk).mono ?_
  rintro e w' ⟨v, rfl, hown, hbel⟩
  rw [ints_vals] at hown
  obtain ⟨b, cap, rfl, hb1, hb2, _, _, hc⟩ := row_cells hown hk0
  have HS := symbolsFrom_nat k sp k b 0 cap z id data w' (by omega) (fun i hi => by show i < 16; omega) hb2 hk hk0 hz1 hz HD.out (fun i hi => by rw [Nat.zero_add]; exact hc i hi)
  clear hown hc HC
  go_wp2_with fail
  refine HS.mono ?_
  rintro e w2 ⟨rfl, hbel2⟩
  clear HS
  have hb := hbel.trans (hbel2.mono hbel.size)
  go_wp2
  go_ret2
  exact ⟨rfl, hb⟩
theorem encode_size (data : ByteArray) (z sp : Int) (w : World) (hz : z < 1 ∨ 16 < z) :
    Calls Try.prog 83 #[.string data, .int .i64 z, .int .i64 sp] w fun e w' => e = .returned (.tuple #[.string nil, .int .i64 2]) ∧ w' = w := by
  by_cases h1 : z < 1
  · clear hz
    go_enter Try.func83, Try.ntmps83
    go_wp2
    go_ret2
    exact ⟨rfl, rfl⟩
  · have h2 : 16 < z := hz.resolve_left h1
    clear hz
    have h3 : 1 ≤ z := by omega
    clear h1
    go_enter Try.func83, Try.ntmps83
    go_wp2
    go_ret2
    exact ⟨rfl, rfl⟩
theorem encode_block (data : ByteArray) (z : Nat) (sp : Int) (w : World) (hd : data.size ≤ maxLen) (hz1 : 1 ≤ z) (hz : z ≤ 16) (hb : data.size = 0 ∨ data.size % z ≠ 0 ∨ 8 < data.size / z) :
    Calls Try.prog 83 #[.string data, .int .i64 z, .int .i64 sp] w fun e w' => e = .returned (.tuple #[.string nil, .int .i64 3]) ∧ w' = w := by
  unfold maxLen at hd
  have e2 : ((data.size : Int) % (z : Int)) = ((data.size % z : Nat) : Int) := (Int.natCast_emod _ _).symm
  have e3 : ((data.size : Int) / (z : Int)) = ((data.size / z : Nat) : Int) := (Int.natCast_ediv _ _).symm
  have hql : data.size / z ≤ data.size := Nat.div_le_self _ _
  generalize data.size % z = r at *
  generalize data.size / z = q at *
  by_cases h1 : data.size = 0
  · have t1 : (((data.size : Nat) : Int) == 0) = true := by simp [h1]
    clear hb h1 e2 e3
    go_enter Try.func83, Try.ntmps83
    go_wp2
    go_ret2
    exact ⟨rfl, rfl⟩
  · have t1 : (((data.size : Nat) : Int) == 0) = false := by simp [h1]
    by_cases h2 : r = 0
    · have t2 : (((r : Nat) : Int) != 0) = false := by simp [h2]
      have h3 : 8 < q := by omega
      clear hb h1 h2
      go_enter Try.func83, Try.ntmps83
      go_wp2
      go_ret2
      exact ⟨rfl, rfl⟩
    · have t2 : (((r : Nat) : Int) != 0) = true := by simp [h2]
      clear hb h1 h2
      go_enter Try.func83, Try.ntmps83
      go_wp2
      go_ret2
      exact ⟨rfl, rfl⟩
theorem encode_spare (data : ByteArray) (z : Nat) (sp : Int) (w : World) (hd : data.size ≤ maxLen) (hz1 : 1 ≤ z) (hz : z ≤ 16) (h0 : data.size ≠ 0) (hr : data.size % z = 0) (hq : data.size / z ≤ 8) (hs : sp < 0 ∨ 8 < sp) :
    Calls Try.prog 83 #[.string data, .int .i64 z, .int .i64 sp] w fun e w' => e = .returned (.tuple #[.string nil, .int .i64 4]) ∧ w' = w := by
  unfold maxLen at hd
  have e2 : ((data.size : Int) % (z : Int)) = ((data.size % z : Nat) : Int) := (Int.natCast_emod _ _).symm
  have e3 : ((data.size : Int) / (z : Int)) = ((data.size / z : Nat) : Int) := (Int.natCast_ediv _ _).symm
  rw [hr] at e2
  generalize data.size / z = q at *
  have t1 : (((data.size : Nat) : Int) == 0) = false := by simp [h0]
  by_cases h1 : sp < 0
  · clear hs hr
    go_enter Try.func83, Try.ntmps83
    go_wp2
    go_ret2
    exact ⟨rfl, rfl⟩
  · have h2 : 8 < sp := hs.resolve_left h1
    have h3 : 0 ≤ sp := by omega
    clear hs h1 hr
    go_enter Try.func83, Try.ntmps83
    go_wp2
    go_ret2
    exact ⟨rfl, rfl⟩
theorem below_same {w w' : World} (h : w' = w) : Below w.heap.size w w' := by subst h; exact Below.refl _ _

/-- every Encode -/
theorem encode_any (data : ByteArray) (size spare : Int) (w : World) (hd : data.size ≤ maxLen) :
    Calls Try.prog 83 #[.string data, .int .i64 size, .int .i64 spare] w fun e w' => e = .returned (encV data size spare) ∧ Below w.heap.size w w' := by
  unfold encV encOut
  by_cases h1 : size < 1 ∨ 16 < size
  · simp only [h1, if_true]
    exact (encode_size data size spare w h1).mono fun e w' ⟨h, g⟩ => ⟨h, below_same g⟩
  · simp only [h1, if_false]
    obtain ⟨z, rfl⟩ := Int.eq_ofNat_of_zero_le (show 0 ≤ size by omega)
    simp only [Int.toNat_natCast]
    have hz1 : 1 ≤ z := by omega
    have hz : z ≤ 16 := by omega
    by_cases h2 : data.size = 0 ∨ data.size % z ≠ 0 ∨ 8 < data.size / z
    · simp only [h2, if_true]
      exact (encode_block data z spare w hd hz1 hz h2).mono fun e w' ⟨h, g⟩ => ⟨h, below_same g⟩
    · simp only [h2, if_false]
      by_cases h3 : spare < 0 ∨ 8 < spare
      · simp only [h3, if_true]
        exact (encode_spare data z spare w hd hz1 hz (fun e => h2 (.inl e)) (by omega) (by omega) h3).mono fun e w' ⟨h, g⟩ => ⟨h, below_same g⟩
      · simp only [h3, if_false]
        obtain ⟨sp, rfl⟩ := Int.eq_ofNat_of_zero_le (show 0 ≤ spare by omega)
        simp only [Int.toNat_natCast]
        have hr : data.size % z = 0 := by omega
        have hdk : data.size = data.size / z * z := (Nat.div_mul_cancel (Nat.dvd_of_mod_eq_zero hr)).symm
        have hk0 : 0 < data.size / z := by
          rcases Nat.eq_zero_or_pos (data.size / z) with h | h
          · rw [h, Nat.zero_mul] at hdk; exact absurd (.inl hdk) h2
          · exact h
        exact encode_ok data z sp (data.size / z) w hd hz1 hz hk0 (by omega) hdk (by omega)

end Cod
end Go.Proofs.Ytkgnmcekeeannab
namespace Go.Proofs.Ytkgnmcekeeannab
open Go.RowKit
namespace Cod
open Pol (G fm fi prodBut share lag sumTo)
open Fld (ret_int val_int i64_xor_nat)

/-- these may be a block's numbers, each there once -/
def Good (n : Nat) (zs : Nat → Int) : Prop := ∀ i, i < n → (0 ≤ zs i ∧ zs i < 16) ∧ ∀ j, j < i → zs j ≠ zs i
theorem ret_bool {a b : Bool} (h : a = b) : Ending.returned (.bool a) = .returned (.bool b) := by rw [h]

set_option maxHeartbeats 1000000 in
theorem areNumbers_any (n b off cap : Nat) (zs : Nat → Int) (w : World) (hn : n ≤ 8)
    (hcell : ∀ i, i < n → w.cell? ⟨b, off + i, none⟩ = some (.int .i64 (zs i))) :
    Calls Try.prog 84 #[.slice (some ⟨b, off, none⟩) n cap] w fun e w' => (∃ r : Bool, e = .returned (.bool r) ∧ (r = true ↔ Good n zs)) ∧ ∃ m, w' = w.drewN m := by
  have HC : Hid (∀ i, i < n → w.cell? ⟨b, off + i, none⟩ = some (.int .i64 (zs i))) := hcell
  clear hcell
  have cells : ∀ wr, Hid (∃ m, wr = w.drewN m) → ∀ i, i < n → wr.cell? ⟨b, off + i, none⟩ = some (.int .i64 (zs i)) := fun wr h => by
    obtain ⟨m, rfl⟩ := h.out; exact HC.out
  have HCS : Hid (∀ wr, Hid (∃ m, wr = w.drewN m) → ∀ i, i < n → wr.cell? ⟨b, off + i, none⟩ = some (.int .i64 (zs i))) := cells
  clear cells
  go_enter Try.func84, Try.ntmps84
  go_wp2
  go_loopw [3] (fun i wr => ∃ k : Nat, k ≤ n ∧ i = .int .i64 k ∧ Good k zs ∧ ∃ m, wr = w.drewN m) (fun i _ => n - (intOf i).toNat)
  case atStart => exact ⟨0, Nat.zero_le _, rfl, fun i hi => by omega, 0, rfl⟩
  case round =>
    obtain ⟨k, hk, rfl, hg, hwr⟩ := hrel
    have HG : Hid (Good k zs) := hg
    clear hg
    have HW : Hid (∃ m, wr = w.drewN m) := hwr
    clear hwr
    by_cases hlt : k < n
    · have ck := HCS.out wr HW k hlt
      by_cases hr : 0 ≤ zs k ∧ zs k < 16
      · obtain ⟨hr0, hr1⟩ := hr
        go_wp2
        clear ck
        go_loopw [4] (fun j w2 => ∃ m : Nat, m ≤ k ∧ j = .int .i64 m ∧ (∀ i, i < m → zs i ≠ zs k) ∧ ∃ q, w2 = w.drewN q) (fun j _ => k - (intOf j).toNat)
        case atStart => exact ⟨0, Nat.zero_le _, rfl, fun i hi => by omega, HW.out⟩
        case round =>
          clear HW
          obtain ⟨m, hm, rfl, hne, hw2⟩ := hrel
          have HW : Hid (∃ m, wr = w.drewN m) := hw2
          have HN : Hid (∀ i, i < m → zs i ≠ zs k) := hne
          clear hne hw2
          by_cases hlm : m < k
          · have ck := HCS.out wr HW k hlt
            have cm := HCS.out wr HW m (by omega)
            by_cases he : zs m = zs k
            · have ht : (zs m == zs k) = true := by simp [he]
              have HF : Hid (¬ Good n zs) := fun h => (h k hlt).2 m hlm he
              clear he
              go_wp2_with fail
              go_quiet (fail)
              go_wp2
              go_ret
              exact ⟨⟨false, rfl, by simp [HF.out]⟩, drawn_more HW.out⟩
            · have ht : (zs m == zs k) = false := by simp [he]
              have HE : Hid (zs m ≠ zs k) := he
              clear he
              go_wp2_with fail
              go_quiet (fail)
              go_wp2
              go_roundw
              case rel =>
                refine ⟨m + 1, by omega, by go_num, fun i hi => ?_, drawn_more HW.out⟩
                by_cases e : i = m
                · rw [e]; exact HE.out
                · exact HN.out i (by omega)
              case measure => simp [intOf]; omega
          · have e : m = k := by omega
            subst e
            go_wp2
            go_roundw
            case rel =>
              refine ⟨m + 1, by omega, by go_num, fun i hi => ?_, HW.out⟩
              by_cases e : i = m
              · rw [e]; exact ⟨⟨hr0, hr1⟩, HN.out⟩
              · exact HG.out i (by omega)
            case measure => simp [intOf]; omega
      · have HF : Hid (¬ Good n zs) := fun h => hr (h k hlt).1
        by_cases h0 : zs k < 0
        · clear hr
          go_wp2
          go_ret
          exact ⟨⟨false, rfl, by simp [HF.out]⟩, HW.out⟩
        · have h1 : 0 ≤ zs k := by omega
          have h2 : 16 ≤ zs k := by omega
          clear hr h0
          go_wp2
          go_ret
          exact ⟨⟨false, rfl, by simp [HF.out]⟩, HW.out⟩
    · have e : k = n := by omega
      subst e
      go_wp2
      go_ret
      exact ⟨⟨true, rfl, by simp [HG.out]⟩, HW.out⟩
end Cod
end Go.Proofs.Ytkgnmcekeeannab
