import Derived.Test.YtkgnmcekeeannabW01
import Derived.Test.YtkgnmcekeeannabW02
import Derived.Test.YtkgnmcekeeannabRows
import Derived.WalkKit
import Derived.Deep.QuietTactic
import Derived.BigQuiet
import Derived.WalkSmall
/-
  Messages in memory: what the walks over both programs share.
-/
namespace Go.Proofs.Ytkgnmcekeeannab
open Go.RowKit Go.Deep
namespace Ms
open Bs
set_option linter.unusedVariables false

/-- how items lie in memory -/
def ItemsAt (w : World) (ao : Option Addr) (n : Nat) (its : Nat → It) : Prop :=
  n = 0 ∨ ∃ b off, ao = some ⟨b, off, none⟩ ∧ b < w.heap.size ∧ ∀ i, i < n → w.cell? ⟨b, off + i * 3, none⟩ = some (.int .i64 (its i).o) ∧ w.cell? ⟨b, off + i * 3 + 1, none⟩ = some (.int .i64 (its i).b) ∧ w.cell? ⟨b, off + i * 3 + 2, none⟩ = some (.int .i64 (its i).c)
/-- a message as a value; its items a slice -/
abbrev mV (kd ob bl nu le : Int) (sy : ByteArray) (ao : Option Addr) (n cap : Nat) (os : Int) : Value := .agg #[.int .i64 kd, .int .i64 ob, .int .i64 bl, .int .i64 nu, .int .i64 le, .string sy, .slice ao n cap, .int .i64 os]
abbrev mBox (kd ob bl nu le : Int) (sy : ByteArray) (ao : Option Addr) (n cap : Nat) (os : Int) : Obj := .cells #[.int .i64 kd, .int .i64 ob, .int .i64 bl, .int .i64 nu, .int .i64 le, .string sy, .slice ao n cap, .int .i64 os] 24
def NoData (ob bl nu le : Int) (sy : ByteArray) : Prop := ob = 0 ∧ bl = 0 ∧ nu = 0 ∧ le = 0 ∧ sy.size = 0

theorem size_isEmpty (s : ByteArray) : s.toList.isEmpty = decide (s.size = 0) := by
  rw [ByteArray.toList_eq, Bool.eq_iff_iff, List.isEmpty_iff]
  have h2 : s.data.toList.length = s.size := by simp
  rw [decide_eq_true_eq, ← h2, List.length_eq_zero_iff]
def DataFits (ob bl nu le : Int) (sy : ByteArray) : Prop := 0 ≤ ob ∧ ob ≤ 7 ∧ 0 ≤ bl ∧ bl ≤ 255 ∧ 0 ≤ nu ∧ nu ≤ 15 ∧ 1 ≤ le ∧ le ≤ 256 ∧ 1 ≤ sy.size ∧ sy.size ≤ 16

def itsT (its : Nat → It) : Nat → List UInt8
  | 0 => []
  | i + 1 => itsT its i ++ itL (its i)
def ReqFits (ob bl nu le : Int) (sy : ByteArray) (n : Nat) (its : Nat → It) (os : Int) : Prop := NoData ob bl nu le sy ∧ os = 0 ∧ 1 ≤ n ∧ n ≤ 8 ∧ ∀ i, i < n → itOK (its i)
theorem itsT_length (its : Nat → It) : ∀ i, (itsT its i).length = 3 * i
  | 0 => rfl
  | i + 1 => by simp only [itsT, List.length_append, itsT_length its i, itL, List.length_cons, List.length_nil]; omega

def reqB (n : Nat) (its : Nat → It) (i : Nat) : ByteArray := ⟨(([82, u8w n] : List UInt8) ++ itsT its i).toArray⟩
theorem reqB_size (n : Nat) (its : Nat → It) (i : Nat) : (reqB n its i).size = 2 + 3 * i := by
  simp [reqB, ByteArray.size, itsT_length]; omega
def itF (l : List It) (i : Nat) : It := l.getD i ⟨0, 0, 0⟩
abbrev mVm (m : M) (ao : Option Addr) (cap : Nat) : Value := mV m.kind m.obj m.blk m.num m.len m.sym ao m.items.length cap m.objs

theorem itsL_append (a b : List It) : itsL (a ++ b) = itsL a ++ itsL b := by
  induction a with
  | nil => rfl
  | cons t a ih => simp [itsL, ih]
theorem itsT_take (l : List It) : ∀ i, i ≤ l.length → itsT (itF l) i = itsL (l.take i) := by
  intro i
  induction i with
  | zero => intro _; rfl
  | succ i ih =>
    intro h
    have h' : i < l.length := by omega
    rw [itsT, ih (by omega), List.take_succ_eq_append_getElem h', itsL_append]
    congr 1
    simp only [itsL, List.append_nil, itF]
    rw [List.getD_eq_getElem?_getD, List.getElem?_eq_getElem h']; rfl
theorem itsT_all (l : List It) : itsT (itF l) l.length = itsL l := by rw [itsT_take l _ (Nat.le_refl _), List.take_length]
theorem itF_mem (l : List It) : (∀ i, i < l.length → itOK (itF l i)) ↔ ∀ t ∈ l, itOK t := by
  constructor
  · intro h t ht
    obtain ⟨i, hi, rfl⟩ := List.mem_iff_getElem.1 ht
    have := h i hi
    rw [itF, List.getD_eq_getElem?_getD, List.getElem?_eq_getElem hi] at this
    exact this
  · intro h i hi
    rw [itF, List.getD_eq_getElem?_getD, List.getElem?_eq_getElem hi]
    exact h _ (List.getElem_mem hi)

def txt (l : List UInt8) : ByteArray := ⟨l.toArray⟩
theorem txt_data (l : List UInt8) : (txt l).data.toList = l := rfl
theorem txt_size (l : List UInt8) : (txt l).size = l.length := by simp [txt, ByteArray.size]
theorem txt_append (a b : List UInt8) : txt a ++ txt b = txt (a ++ b) := by unfold txt; rw [ByteArray.mk_append_mk]
theorem txt_of (s : ByteArray) : txt s.data.toList = s := rfl

theorem body_len {m : M} (h : ok m) : 2 ≤ (body m).length ∧ (body m).length ≤ 26 := by
  unfold body
  rcases h with ⟨k, h⟩ | ⟨k, h⟩ | ⟨k, h⟩
  · rw [if_pos k]
    have h1 := h.2.2.2.2.2.2.2.2.1
    have h2 := h.2.2.2.2.2.2.2.2.2.1
    rw [List.length_append, ← len_eq]; simp; omega
  · rw [if_neg (by rw [k]; decide), if_pos k]
    have := h.2.2.2.1
    rw [List.length_append, itsL_length]; simp; omega
  · rw [if_neg (by rw [k]; decide), if_neg (by rw [k]; decide)]; simp
theorem text_len {m : M} (h : ok m) : 4 ≤ (text m).length ∧ (text m).length ≤ 28 := by
  have := body_len h
  simp only [text, checked, List.length_append, List.length_cons, List.length_nil]; omega
/-- what Write answers -/
def WriteOut (m : M) (e : Ending) : Prop := (ok m ∧ e = .returned (.tuple #[.string (txt (text m)), .int .i64 0])) ∨ (¬ ok m ∧ e = .returned (.tuple #[.string ⟨#[]⟩, .int .i64 6]))

theorem ItemsAt.stay {w w' : World} {ao : Option Addr} {n : Nat} {its : Nat → It} (h : ItemsAt w ao n its) (hb : Below w.heap.size w w') : ItemsAt w' ao n its := by
  rcases h with h | ⟨b, off, h1, h2, h3⟩
  · exact .inl h
  · have hs := hb.size
    exact .inr ⟨b, off, h1, by omega, fun i hi => ⟨(hb.cell (p := ⟨b, off + i * 3, none⟩) h2).trans (h3 i hi).1, (hb.cell (p := ⟨b, off + i * 3 + 1, none⟩) h2).trans (h3 i hi).2.1, (hb.cell (p := ⟨b, off + i * 3 + 2, none⟩) h2).trans (h3 i hi).2.2⟩⟩

theorem infoItem : (Try.prog.info? 106).map (fun i => (i.zero, i.size, i.bytes)) = some (some (.agg #[.int .i64 0, .int .i64 0, .int .i64 0]), 3, 24) := by kernel_rfl
theorem sizeItem : (Try.prog.info? 106).map (·.size) = some 3 := by kernel_rfl
def zc : Array Value := #[.int .i64 0, .int .i64 0, .int .i64 0]
/-- cell j of a row of items -/
def icell (its : Nat → It) (j : Nat) : Value := if j % 3 = 0 then .int .i64 (its (j / 3)).o else if j % 3 = 1 then .int .i64 (its (j / 3)).b else .int .i64 (its (j / 3)).c
theorem icell_one (its : Nat → It) (j : Nat) : (icell its j).oneCell' = true := by unfold icell; split; rfl; split <;> rfl
def icells (its : Nat → It) (n : Nat) : List Value := (List.range (n * 3)).map (icell its)
theorem icells_length (its : Nat → It) (n : Nat) : (icells its n).length = n * 3 := by simp [icells]
theorem icells_get (its : Nat → It) (n j : Nat) (h : j < n * 3) : (icells its n)[j]? = some (icell its j) := by simp [icells, h]
theorem at_icell {w : World} {b off n : Nat} {its : Nat → It} (hc : ∀ i, i < n → w.cell? ⟨b, off + i * 3, none⟩ = some (.int .i64 (its i).o) ∧ w.cell? ⟨b, off + i * 3 + 1, none⟩ = some (.int .i64 (its i).b) ∧ w.cell? ⟨b, off + i * 3 + 2, none⟩ = some (.int .i64 (its i).c)) (j : Nat) (hj : j < n * 3) : w.cell? ⟨b, off + j, none⟩ = some (icell its j) := by
  have h := hc (j / 3) (by omega)
  unfold icell
  by_cases e0 : j % 3 = 0
  · rw [if_pos e0, ← h.1, show off + j / 3 * 3 = off + j from by omega]
  · by_cases e1 : j % 3 = 1
    · rw [if_neg e0, if_pos e1, ← h.2.1, show off + j / 3 * 3 + 1 = off + j from by omega]
    · rw [if_neg e0, if_neg e1, ← h.2.2, show off + j / 3 * 3 + 2 = off + j from by omega]
theorem icell_0 (its : Nat → It) (i : Nat) : icell its (i * 3) = .int .i64 (its i).o := by unfold icell; rw [if_pos (by omega), show i * 3 / 3 = i from by omega]
theorem icell_1 (its : Nat → It) (i : Nat) : icell its (i * 3 + 1) = .int .i64 (its i).b := by unfold icell; rw [if_neg (by omega), if_pos (by omega), show (i * 3 + 1) / 3 = i from by omega]
theorem icell_2 (its : Nat → It) (i : Nat) : icell its (i * 3 + 2) = .int .i64 (its i).c := by unfold icell; rw [if_neg (by omega), if_neg (by omega), show (i * 3 + 2) / 3 = i from by omega]
/-- a row whose first cells are items -/
theorem items_of_row {w : World} {b c n : Nat} {t : TypeId} {f : Nat → Value} {its : Nat → It} (h : w.rowIs b t c f) (hn : n * 3 ≤ c) (hf : ∀ j, j < n * 3 → f j = icell its j) : ItemsAt w (some ⟨b, 0, none⟩) n its := by
  by_cases h0 : n = 0
  · exact .inl h0
  · refine .inr ⟨b, 0, rfl, h.lt, fun i hi => ?_⟩
    rw [Nat.zero_add, h.cell (by omega), h.cell (by omega), h.cell (by omega), hf _ (by omega), hf _ (by omega), hf _ (by omega), icell_0, icell_1, icell_2]
    exact ⟨rfl, rfl, rfl⟩

theorem wrap_small (x : Int) (h1 : 0 ≤ x) (h2 : x < 1000000) : wrap64 x = x := by unfold wrap64; omega
theorem wrap_byt (s : ByteArray) (i : Nat) (h : i < s.size) : wrap64 (s[i].toNat : Int) = byt s i := by
  rw [byt_get s i h]
  have := UInt8.toNat_lt s[i]
  exact wrap_small _ (by omega) (by omega)
/-- what a guess answers: a message whose items are the call's own -/
def GuessOut (g : M) (e : Ending) (w w' : World) : Prop := ∃ ao cap, e = .returned (mVm g ao cap) ∧ w'.ownsRow w.heap.size 106 3 (.slice ao g.items.length cap) g.items.length (icells (itF g.items) g.items.length)
theorem zero_out (w w' : World) (kd ob bl nu le : Int) (sy : ByteArray) (os : Int) : GuessOut ⟨kd, ob, bl, nu, le, sy, [], os⟩ (.returned (mV kd ob bl nu le sy none 0 0 os)) w w' :=
  ⟨none, 0, rfl, World.ownsRow_nil _ _ _ _⟩
theorem owns_setCell {w : World} {b i base e size n : Nat} {x v : Value} {xs : List Value} (h : w.ownsRow base e size v n xs) (hne : v.ownBlock ≠ some b) : (w.setCell ⟨b, i, none⟩ x).ownsRow base e size v n xs := by
  refine ⟨h.1, ?_⟩
  rcases h.2 with hn | ⟨g, cap, cur, rfl, hb, hg, rest⟩
  · exact .inl hn
  · refine .inr ⟨g, cap, cur, rfl, hb, ?_, rest⟩
    rw [heap_setCell_other _ _ _ _ (fun e => hne (by simp [Value.ownBlock, e]))]
    exact hg
def mRow (kd ob bl nu le : Int) (sy : ByteArray) (v : Value) (os : Int) (j : Nat) : Value := ([.int .i64 kd, .int .i64 ob, .int .i64 bl, .int .i64 nu, .int .i64 le, .string sy, v, .int .i64 os] : List Value).getD j undef
theorem mRow_new {w : World} {b : Nat} (hb : b = w.heap.size) (kd ob bl nu le : Int) (sy : ByteArray) (v : Value) (os : Int) :
    (w.alloc (.cells #[.int .i64 kd, .int .i64 ob, .int .i64 bl, .int .i64 nu, .int .i64 le, .string sy, v, .int .i64 os] 24)).rowIs b 24 8 (mRow kd ob bl nu le sy v os) := by
  subst hb
  exact World.rowIs_alloc w _ _ _ (fun i hi => by
    match i, hi with
    | 0, _ => rfl
    | 1, _ => rfl
    | 2, _ => rfl
    | 3, _ => rfl
    | 4, _ => rfl
    | 5, _ => rfl
    | 6, _ => rfl
    | 7, _ => rfl)
theorem mRow_set (kd ob bl nu le : Int) (sy : ByteArray) (v v' : Value) (os : Int) (j : Nat) (hj : j < 8) : (if j = 6 then v' else mRow kd ob bl nu le sy v os j) = mRow kd ob bl nu le sy v' os j := by
  match j, hj with
  | 0, _ => rfl
  | 1, _ => rfl
  | 2, _ => rfl
  | 3, _ => rfl
  | 4, _ => rfl
  | 5, _ => rfl
  | 6, _ => rfl
  | 7, _ => rfl
theorem wrapk_byt (s : ByteArray) (i : Nat) (h : i < s.size) : IntKind.i64.wrap (s[i].toNat : Int) = byt s i := by
  rw [byt_get s i h]
  have := UInt8.toNat_lt s[i]
  exact IntWalk.i64_in _ ⟨by omega, by omega⟩
theorem owns_mono {w : World} {B B' e size n : Nat} {v : Value} {xs : List Value} (h : w.ownsRow B e size v n xs) (hB : B' ≤ B) : w.ownsRow B' e size v n xs := by
  obtain ⟨hl, h⟩ := h
  refine ⟨hl, ?_⟩
  rcases h with h | ⟨g, cap, cur, h1, h2, h3⟩
  · exact .inl h
  · exact .inr ⟨g, cap, cur, h1, by omega, h3⟩
theorem gItems_length (s : ByteArray) (k : Nat) : (gItems s k).length = k := by simp [gItems]
theorem itF_gItems (s : ByteArray) (k i : Nat) (h : i < k) : itF (gItems s k) i = gItem s i := by
  simp [itF, gItems, List.getD_eq_getElem?_getD, h]
theorem icells_congr {f g : Nat → It} {n : Nat} (h : ∀ i, i < n → f i = g i) : icells f n = icells g n := by
  unfold icells
  refine List.map_congr_left (fun j hj => ?_)
  have hj' : j < n * 3 := by simpa using hj
  unfold icell
  rw [h (j / 3) (by omega)]
theorem icells_succ (its : Nat → It) (n : Nat) : icells its (n + 1) = icells its n ++ [.int .i64 (its n).o, .int .i64 (its n).b, .int .i64 (its n).c] := by
  unfold icells
  rw [show (n + 1) * 3 = n * 3 + 3 from by omega, List.range_add, List.map_append]
  congr 1
  have e : List.range 3 = [0, 1, 2] := rfl
  rw [e]
  simp only [List.map_cons, List.map_nil, Nat.add_zero, icell_0, icell_1, icell_2]

theorem owns_items {w : World} {base n cap : Nat} {ao : Option Addr} {its : Nat → It} (h : w.ownsRow base 106 3 (.slice ao n cap) n (icells its n)) : ItemsAt w ao n its := by
  rcases h.2 with ⟨_, h0⟩ | ⟨g, cap', cur, e, _⟩
  · exact .inl h0
  · simp only [Value.slice.injEq] at e
    obtain ⟨rfl, _, _⟩ := e
    have hc := h.cells (g := g) rfl
    have hl := (h.lt g rfl).2
    refine .inr ⟨g, 0, rfl, hl, fun i hi => ?_⟩
    have c0 := hc (i * 3) _ (icells_get its n (i * 3) (by omega))
    have c1 := hc (i * 3 + 1) _ (icells_get its n (i * 3 + 1) (by omega))
    have c2 := hc (i * 3 + 2) _ (icells_get its n (i * 3 + 2) (by omega))
    rw [add_eq0] at c0 c1 c2
    rw [Nat.zero_add, c0, c1, c2, icell_0, icell_1, icell_2]
    exact ⟨rfl, rfl, rfl⟩
theorem owns_len {w : World} {base e size n : Nat} {v : Value} {xs : List Value} (h : w.ownsRow base e size v n xs) : n ≤ maxLen := by
  rcases h.2 with ⟨_, h0⟩ | ⟨g, cap, cur, _, _, _, h1, h2, _⟩
  · rw [h0]; exact Nat.zero_le _
  · omega
theorem owns_below {w w' : World} {base e size n : Nat} {v : Value} {xs : List Value} (h : w.ownsRow base e size v n xs) (hb : Below w.heap.size w w') : w'.ownsRow base e size v n xs := by
  refine ⟨h.1, ?_⟩
  rcases h.2 with hn | ⟨g, cap, cur, rfl, hbg, hg, rest⟩
  · exact .inl hn
  · refine .inr ⟨g, cap, cur, rfl, hbg, ?_, rest⟩
    rw [hb.block g (Array.getElem?_eq_some_iff.1 hg).1]
    exact hg
theorem gData_sym (s : ByteArray) : (gData s).sym.size ≤ s.size := by
  show (s.extract 6 (s.size - 2)).size ≤ s.size
  simp; omega
theorem gRef_sym (s : ByteArray) : (gRef s).sym.size ≤ s.size := by
  unfold gRef
  split
  · exact gData_sym s
  · split
    · exact Nat.zero_le _
    · split <;> exact Nat.zero_le _
theorem gLan_sym (s : ByteArray) : (gLan s).sym.size ≤ s.size := by
  unfold gLan
  split
  · exact Nat.zero_le _
  · split
    · split
      · exact Nat.zero_le _
      · exact gData_sym s
    · split
      · exact Nat.zero_le _
      · split <;> exact Nat.zero_le _
/-- what Read answers -/
def ReadOut (s : ByteArray) (e : Ending) (w w' : World) : Prop :=
  (∃ m ao cap, Tells s m ∧ e = .returned (.tuple #[mVm m ao cap, .int .i64 0]) ∧ w'.ownsRow w.heap.size 106 3 (.slice ao m.items.length cap) m.items.length (icells (itF m.items) m.items.length)) ∨
  ((∀ m, ¬ Tells s m) ∧ e = .returned (.tuple #[mV 0 0 0 0 0 ⟨#[]⟩ none 0 0 0, .int .i64 6]))
/-- so many items as a list -/
def asList (n : Nat) (its : Nat → It) : List It := (List.range n).map its
theorem asList_length (n : Nat) (its : Nat → It) : (asList n its).length = n := by simp [asList]
theorem itF_asList (n : Nat) (its : Nat → It) (i : Nat) (h : i < n) : itF (asList n its) i = its i := by
  simp [itF, asList, List.getD_eq_getElem?_getD, h]
theorem ItemsAt.congr {w : World} {ao : Option Addr} {n : Nat} {f g : Nat → It} (h : ItemsAt w ao n f) (e : ∀ i, i < n → f i = g i) : ItemsAt w ao n g := by
  rcases h with h | ⟨b, off, h1, h2, h3⟩
  · exact .inl h
  · exact .inr ⟨b, off, h1, h2, fun i hi => by rw [← e i hi]; exact h3 i hi⟩
theorem ItemsAt.list {w : World} {ao : Option Addr} {n : Nat} {its : Nat → It} (h : ItemsAt w ao n its) : ItemsAt w ao (asList n its).length (itF (asList n its)) := by
  rw [asList_length]; exact h.congr (fun i hi => (itF_asList n its i hi).symm)
end Ms
end Go.Proofs.Ytkgnmcekeeannab
namespace Go.Proofs.Ytkgnmcekeeannab
open Go.RowKit
namespace Fld

theorem ret_int {k : IntKind} {a b : Int} (h : a = b) : Ending.returned (.int k a) = .returned (.int k b) := by rw [h]
theorem val_int {k : IntKind} {a b : Int} (h : a = b) : Value.int k a = Value.int k b := by rw [h]

theorem u8_and128 (a : Nat) (ha : a < 256) : bits .and .u8 (a : Int) 128 = ((a &&& 128 : Nat) : Int) := u8_and_nat a 128 ha (by decide)
theorem u8_and1 (a : Nat) (ha : a < 256) : bits .and .u8 (a : Int) 1 = ((a % 2 : Nat) : Int) := by rw [show (1 : Int) = ((1 : Nat) : Int) from rfl, u8_and_nat a 1 ha (by decide), nat_mask1]
theorem u8_shl_xor (a : Nat) : bits .xor .u8 ((a : Int) * 2 % 256) 29 = (((a * 2 % 256) ^^^ 29 : Nat) : Int) := by
  have := u8_xor_nat (a * 2 % 256) 29 (Nat.mod_lt _ (by decide)) (by decide)
  rw [← this]; simp

theorem timesX_nat (a : Nat) (w : World) (ha : a < 256) :
    Calls Try.prog 92 #[.int .u8 a] w fun e w' => e = .returned (.int .u8 (tx a)) ∧ w' = w := by
  have h := u8_and128 a ha
  by_cases hz : a &&& 128 = 0
  · have ht : (bits BinOp.and IntKind.u8 (a : Int) 128 != 0) = false := by rw [h, hz]; rfl
    have hr : tx a = a * 2 % 256 := by simp [tx, hz]
    have HR : Hid (tx a = a * 2 % 256) := hr
    clear h hz hr
    go_enter Try.func92, Try.ntmps92
    go_wp2
    go_ret
    exact ⟨ret_int (by rw [HR.out]; simp), rfl⟩
  · have ht : (bits BinOp.and IntKind.u8 (a : Int) 128 != 0) = true := by rw [h]; simp; omega
    have HR : Hid (tx a = (a * 2 % 256) ^^^ 29) := by simp [tx, hz, Hid]
    clear h hz
    go_enter Try.func92, Try.ntmps92
    go_wp2
    go_ret
    exact ⟨ret_int (by rw [HR.out, u8_shl_xor]), rfl⟩

set_option maxHeartbeats 400000 in
theorem mul_nat (a b : Nat) (w : World) (ha : a < 256) (hb : b < 256) :
    Calls Try.prog 90 #[.int .u8 a, .int .u8 b] w fun e w' => e = .returned (.int .u8 (mul a b)) ∧ w' = w := by
  go_enter Try.func90, Try.ntmps90
  go_wp2
  go_loop [0, 1, 5, 6] (fun x y p i => ∃ k A B P : Nat, k ≤ 8 ∧ A < 256 ∧ B < 256 ∧ P < 256 ∧ x = .int .u8 A ∧ y = .int .u8 B ∧ p = .int .u8 P ∧ i = .int .i64 k ∧ mulL (8 - k) A B P = mul a b) (fun _ _ _ i => 8 - (intOf i).toNat)
  case atStart => exact ⟨0, a, b, 0, by omega, ha, hb, by omega, rfl, rfl, rfl, rfl, rfl⟩
  case round =>
    obtain ⟨k, A, B, P, hk, hA, hB, hP, rfl, rfl, rfl, rfl, hm⟩ := hrel
    have HM : Hid (mulL (8 - k) A B P = mul a b) := hm
    clear hm
    by_cases hlt : k < 8
    · have h1 := u8_and1 B hB
      have hx := u8_xor_nat P A hP hA
      have HX : Hid (bits .xor .u8 (P : Int) (A : Int) = ((P ^^^ A : Nat) : Int)) := hx
      have hs : mulL (8 - k) A B P = mulL (8 - (k + 1)) (tx A) (B / 2) (if B % 2 = 1 then P ^^^ A else P) := by
        rw [show 8 - k = (8 - (k + 1)) + 1 from by omega]; rfl
      have HS : Hid (mulL (8 - k) A B P = mulL (8 - (k + 1)) (tx A) (B / 2) (if B % 2 = 1 then P ^^^ A else P)) := hs
      have hxl : P ^^^ A < 256 := Nat.xor_lt_two_pow (n := 8) hP hA
      by_cases ho : B % 2 = 1
      · have ht : (bits BinOp.and IntKind.u8 (B : Int) 1 == 1) = true := by rw [h1, ho]; rfl
        have HO : Hid (B % 2 = 1) := ho
        clear h1 hx hs ho
        go_wp2_with (go_at_call 92; refine (timesX_nat _ _ (by omega)).mono ?_; rintro e w' ⟨rfl, rfl⟩)
        go_round
        case rel => exact ⟨k + 1, tx A, B / 2, P ^^^ A, by omega, tx_lt A, by omega, hxl, rfl, val_int (by omega), val_int HX.out, by go_num, by rw [← HM.out, HS.out, if_pos HO.out]⟩
        case measure => simp [intOf]; omega
      · have ht : (bits BinOp.and IntKind.u8 (B : Int) 1 == 1) = false := by rw [h1]; simp; omega
        have HO : Hid (¬ B % 2 = 1) := ho
        clear h1 hx hs ho
        go_wp2_with (go_at_call 92; refine (timesX_nat _ _ (by omega)).mono ?_; rintro e w' ⟨rfl, rfl⟩)
        go_round
        case rel => exact ⟨k + 1, tx A, B / 2, P, by omega, tx_lt A, by omega, hP, rfl, val_int (by omega), rfl, by go_num, by rw [← HM.out, HS.out, if_neg HO.out]⟩
        case measure => simp [intOf]; omega
    · have e8 : k = 8 := by omega
      subst e8
      go_wp2
      go_ret
      exact ⟨ret_int (by rw [← HM.out]; rfl), rfl⟩

/-- as the walks of callers want it: plain numbers, their bounds beside them -/
theorem mul_any (a b : Int) (w : World) (ha0 : 0 ≤ a) (ha : a < 256) (hb0 : 0 ≤ b) (hb : b < 256) :
    Calls Try.prog 90 #[.int .u8 a, .int .u8 b] w fun e w' => e = .returned (.int .u8 (mul a.toNat b.toNat)) ∧ w' = w := by
  obtain ⟨m, rfl⟩ := Int.eq_ofNat_of_zero_le ha0
  obtain ⟨n, rfl⟩ := Int.eq_ofNat_of_zero_le hb0
  exact mul_nat m n w (by omega) (by omega)

set_option maxHeartbeats 400000 in
theorem inverse_nat (a : Nat) (w : World) (ha : a < 256) :
    Calls Try.prog 91 #[.int .u8 a] w fun e w' => e = .returned (.int .u8 (inv a)) ∧ w' = w := by
  go_enter Try.func91, Try.ntmps91
  go_wp2
  go_loop [3, 4, 5] (fun v p i => ∃ k P V : Nat, k ≤ 7 ∧ P < 256 ∧ V < 256 ∧ p = .int .u8 P ∧ v = .int .u8 V ∧ i = .int .i64 k ∧ invL (7 - k) P V = inv a) (fun _ _ i => 7 - (intOf i).toNat)
  case atStart => exact ⟨0, a, 1, by omega, ha, by omega, rfl, rfl, rfl, rfl⟩
  case round =>
    obtain ⟨k, P, V, hk, hP, hV, rfl, rfl, rfl, hm⟩ := hrel
    have HM : Hid (invL (7 - k) P V = inv a) := hm
    clear hm
    by_cases hlt : k < 7
    · have hs : invL (7 - k) P V = invL (7 - (k + 1)) (mul P P) (mul V (mul P P)) := by
        rw [show 7 - k = (7 - (k + 1)) + 1 from by omega]; rfl
      have HS : Hid (invL (7 - k) P V = invL (7 - (k + 1)) (mul P P) (mul V (mul P P))) := hs
      have hpp := mul_lt P P hP
      have hvp := mul_lt V (mul P P) hV
      clear hs
      go_wp2_with fail
      refine (mul_nat P P _ hP hP).mono ?_
      rintro e w' ⟨rfl, rfl⟩
      go_wp2_with fail
      refine (mul_nat V (mul P P) _ hV hpp).mono ?_
      rintro e w' ⟨rfl, rfl⟩
      go_wp2
      go_round
      case rel => exact ⟨k + 1, mul P P, mul V (mul P P), by omega, hpp, hvp, rfl, rfl, by go_num, by rw [← HM.out, HS.out]⟩
      case measure => simp [intOf]; omega
    · have e7 : k = 7 := by omega
      subst e7
      go_wp2
      go_ret
      exact ⟨ret_int (by rw [← HM.out]; rfl), rfl⟩
end Fld
end Go.Proofs.Ytkgnmcekeeannab
