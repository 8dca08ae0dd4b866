import Derived.Test.YtkgnmcekeeannaaGreatY06
import Derived.Test.YtkgnmcekeeannaaGreatY08
import Derived.Test.YtkgnmcekeeannaaGreatY17
/-
  A receiver in plain words: its numbers, the data that it has heard and not refused, in their order; of how many objects it knows; how many it has handed over.
-/
namespace Go.Proofs.YtkgnmcekeeannaaGreat
namespace Sn
open Ms (M It txt text ok)

structure Rt where
  n : Nm
  heard : List M
  known : Nat
  taken : Nat
def Rt.fresh (n : Nm) : Rt := ⟨n, [], 0, 0⟩
/-- an object's length; 0: it is not known -/
def lenIn : List M → Int → Int
  | [], _ => 0
  | m :: l, o => if m.obj = o then m.len else lenIn l o
def Rt.len (r : Rt) (o : Nat) : Nat := (lenIn r.heard o).toNat
/-- whether one more symbol has come -/
def fresh1 (o b : Int) (acc : List M) (m : M) : Bool := decide (m.obj = o) && decide (m.blk = b) && acc.all (fun x => decide (x.num ≠ m.num))
/-- the symbols of a block that have come: the first ones with different numbers, no more than k -/
def comeIn (o b : Int) (k : Nat) (acc : List M) : List M → List M
  | [] => acc
  | m :: l => if k ≤ acc.length then acc else if fresh1 o b acc m then comeIn o b k (acc ++ [m]) l else comeIn o b k acc l
def Rt.come (r : Rt) (o b : Nat) : List M := comeIn o b (r.n.many (r.len o) b) [] r.heard
def Rt.lacks (r : Rt) (o : Nat) : List It :=
  if r.len o = 0 then [⟨o, 0, 0⟩]
  else (List.range (r.n.blocks (r.len o))).filterMap (fun b =>
    if (r.come o b).length < r.n.many (r.len o) b then some ⟨o, b, ((r.n.many (r.len o) b - (r.come o b).length : Nat) : Int)⟩ else none)
def Rt.items (r : Rt) : List It := (List.range r.known).flatMap r.lacks
def reqM (l : List It) : M := ⟨2, 0, 0, 0, 0, ⟨#[]⟩, l, 0⟩
def Rt.request (r : Rt) : ByteArray := if r.items = [] then ⟨#[]⟩ else txt (text (reqM (r.items.take 8)))
/-- what a message does, and the answer -/
def Rt.hear (r : Rt) (m : M) : Rt × Int :=
  if m.kind = 2 then (r, 6)
  else if m.kind = 3 then ({ r with known := max r.known m.objs.toNat }, 0)
  else
    let k := r.n.many m.len.toNat m.blk.toNat
    if m.sym.size ≠ r.n.size ∨ k = 0 ∨ k + r.n.spare ≤ m.num.toNat then (r, 6)
    else if 0 < lenIn r.heard m.obj ∧ lenIn r.heard m.obj ≠ m.len then (r, 9)
    else ({ r with heard := r.heard ++ [m], known := max r.known (m.obj.toNat + 1) }, 0)
def symsOf (l : List M) : List UInt8 := l.flatMap (fun m => m.sym.data.toList)
def numAt (l : List M) (i : Nat) : Nat := ((l[i]?).elim 0 (fun m => m.num)).toNat
/-- a block that is complete -/
def Rt.blockOf (r : Rt) (o b : Nat) : List UInt8 :=
  let l := r.come o b
  Cod.flat r.n.size (Cod.symF l.length (numAt l) (txt (symsOf l)) r.n.size 0) l.length
def Rt.obj (r : Rt) (o : Nat) : List UInt8 := ((List.range (r.n.blocks (r.len o))).flatMap (r.blockOf o)).take (r.len o)
def Rt.take (r : Rt) : Rt × ByteArray × Bool :=
  if r.known ≤ r.taken ∨ r.lacks r.taken ≠ [] then (r, ⟨#[]⟩, false)
  else ({ r with taken := r.taken + 1 }, txt (r.obj r.taken), true)

theorem comeIn_len (o b : Int) (k : Nat) : ∀ (l acc : List M), acc.length ≤ k → (comeIn o b k acc l).length ≤ k
  | [], _, h => h
  | m :: l, acc, h => by
    unfold comeIn
    split
    · exact h
    · split
      · exact comeIn_len o b k l _ (by simp; omega)
      · exact comeIn_len o b k l _ h
theorem come_len (r : Rt) (o b : Nat) : (r.come o b).length ≤ r.n.many (r.len o) b := comeIn_len _ _ _ _ _ (Nat.zero_le _)
/-- all that have come are of the block, and of different numbers -/
def Come (o b : Int) (l : List M) : Prop := (∀ m ∈ l, m.obj = o ∧ m.blk = b) ∧ (l.map M.num).Nodup
theorem comeIn_come (o b : Int) (k : Nat) : ∀ (l acc : List M), Come o b acc → Come o b (comeIn o b k acc l)
  | [], _, h => h
  | m :: l, acc, h => by
    unfold comeIn
    split
    · exact h
    · split
      · rename_i hf
        refine comeIn_come o b k l _ ?_
        simp only [fresh1, Bool.and_eq_true, decide_eq_true_eq, List.all_eq_true] at hf
        refine ⟨fun x hx => ?_, ?_⟩
        · rcases List.mem_append.1 hx with hx | hx
          · exact h.1 x hx
          · rw [List.mem_singleton.1 hx]; exact hf.1
        · rw [List.map_append, List.nodup_append]
          refine ⟨h.2, by simp, fun a ha c hc => ?_⟩
          obtain ⟨x, hx, rfl⟩ := List.mem_map.1 ha
          rw [List.map_cons, List.map_nil, List.mem_singleton] at hc
          rw [hc]; exact hf.2 x hx
      · exact comeIn_come o b k l _ h
theorem come_come (r : Rt) (o b : Nat) : Come o b (r.come o b) := comeIn_come _ _ _ _ _ ⟨by simp, by simp⟩
theorem comeIn_mem (o b : Int) (k : Nat) : ∀ (l acc : List M) (m : M), m ∈ comeIn o b k acc l → m ∈ acc ∨ m ∈ l
  | [], _, _, h => .inl h
  | x :: l, acc, m, h => by
    unfold comeIn at h
    split at h
    · exact .inl h
    · split at h
      · rcases comeIn_mem o b k l _ m h with h | h
        · rcases List.mem_append.1 h with h | h
          · exact .inl h
          · exact .inr (by rw [List.mem_singleton.1 h]; simp)
        · exact .inr (List.mem_cons_of_mem _ h)
      · rcases comeIn_mem o b k l _ m h with h | h
        · exact .inl h
        · exact .inr (List.mem_cons_of_mem _ h)
theorem come_mem {r : Rt} {o b : Nat} {m : M} (h : m ∈ r.come o b) : m ∈ r.heard := by
  rcases comeIn_mem _ _ _ _ _ m h with h | h
  · simp at h
  · exact h
end Sn
end Go.Proofs.YtkgnmcekeeannaaGreat
/-
  A receiver of the reference in memory.
-/
namespace Go.Proofs.YtkgnmcekeeannaaGreat
open Go.RowKit Go.Deep
namespace Sn
open Bs
open Ms (M It)
set_option linter.unusedVariables false

/-- data that was heard, and what lies where its items would -/
structure Hm where
  m : M
  a : Option Addr
  n : Nat
  c : Nat
def Hm.v (h : Hm) : Value := .slice h.a h.n h.c
def h0 : Hm := ⟨⟨0, 0, 0, 0, 0, ⟨#[]⟩, [], 0⟩, none, 0, 0⟩
def hv (h : Hm) : List Value := [.int .i64 h.m.kind, .int .i64 h.m.obj, .int .i64 h.m.blk, .int .i64 h.m.num, .int .i64 h.m.len, .string h.m.sym, h.v, .int .i64 h.m.objs]
def hvs : List Hm → List Value
  | [] => []
  | d :: l => hv d ++ hvs l
theorem hvs_append (a b : List Hm) : hvs (a ++ b) = hvs a ++ hvs b := by
  induction a with
  | nil => rfl
  | cons d a ih => simp [hvs, ih]
theorem hvs_length (l : List Hm) : (hvs l).length = l.length * 8 := by
  induction l with
  | nil => rfl
  | cons d l ih => simp only [hvs, List.length_append, ih, hv, List.length_cons, List.length_nil]; omega
theorem hvs_get (l : List Hm) (d0 : Hm) : ∀ (i : Nat), i < l.length → ∀ r, r < 8 → (hvs l)[i * 8 + r]? = (hv (l.getD i d0))[r]? := by
  induction l with
  | nil => intro i hi; simp at hi
  | cons d l ih =>
    intro i hi r hr
    simp only [hvs]
    cases i with
    | zero => rw [List.getElem?_append_left (by simp [hv]; omega)]; simp
    | succ i =>
      rw [List.getElem?_append_right (by simp [hv]; omega)]
      have e : (i + 1) * 8 + r - (hv d).length = i * 8 + r := by simp [hv]; omega
      rw [e, ih i (by simpa using hi) r hr]; simp
def rRow (n : Nm) (vh : Value) (known taken : Nat) (j : Nat) : Value := ([.int .i64 n.size, .int .i64 n.block, .int .i64 n.spare, vh, .int .i64 known, .int .i64 taken] : List Value).getD j undef
theorem rRow_new {w : World} {b : Nat} (hb : b = w.heap.size) (n : Nm) (vh : Value) (known taken : Nat) :
    (w.alloc (.cells #[.int .i64 n.size, .int .i64 n.block, .int .i64 n.spare, vh, .int .i64 known, .int .i64 taken] 67)).rowIs b 67 6 (rRow n vh known taken) := by
  subst hb
  exact World.rowIs_alloc w _ _ _ (fun i hi => by
    match i, hi with
    | 0, _ => rfl
    | 1, _ => rfl
    | 2, _ => rfl
    | 3, _ => rfl
    | 4, _ => rfl
    | 5, _ => rfl)
/-- a receiver in memory, between two steps of a call that began at w -/
structure RI (w wr : World) (P : Nat) (n : Nm) (hs : List Hm) (known taken : Nat) (F : Nat → Prop) (ah : Option Addr) (ch : Nat) : Prop where
  row : wr.rowIs P 67 6 (rRow n (.slice ah hs.length ch) known taken)
  hd : wr.ownsRow 0 99 8 (.slice ah hs.length ch) hs.length (hvs hs)
  fP : F P
  hp : (Value.slice ah hs.length ch).ownBlock ≠ some P
  fh : ∀ b, (Value.slice ah hs.length ch).ownBlock = some b → F b ∨ w.heap.size ≤ b
  touch : Touch w wr F
theorem RI.below {w wr w' : World} {P : Nat} {n : Nm} {hs : List Hm} {known taken : Nat} {F : Nat → Prop} {ah : Option Addr} {ch : Nat}
    (h : RI w wr P n hs known taken F ah ch) (hb : Below wr.heap.size wr w') : RI w w' P n hs known taken F ah ch :=
  ⟨h.row.of_block (hb.block P h.row.lt), Ms.owns_below h.hd hb, h.fP, h.hp, h.fh, h.touch.below hb⟩
theorem RI.heard_at {w wr : World} {P : Nat} {n : Nm} {hs : List Hm} {known taken : Nat} {F : Nat → Prop} {ah : Option Addr} {ch : Nat} (h : RI w wr P n hs known taken F ah ch) (h1 : 0 < hs.length) :
    ∃ g, ah = some ⟨g, 0, none⟩ ∧ g < wr.heap.size ∧ g ≠ P ∧ (∀ i, i < hs.length → ∀ r v, r < 8 → (hv (hs.getD i h0))[r]? = some v → wr.cell? ⟨g, i * 8 + r, none⟩ = some v) := by
  rcases h.hd.2 with ⟨_, e⟩ | ⟨g, cap, cur, e, hb, hg, _⟩
  · omega
  · simp only [Value.slice.injEq] at e
    obtain ⟨rfl, _, rfl⟩ := e
    have hc := h.hd.cells (g := g) rfl
    refine ⟨g, rfl, (h.hd.lt g rfl).2, fun e => h.hp (by rw [e]; rfl), fun i hi r v hr hv => ?_⟩
    have := hc (i * 8 + r) v (by rw [hvs_get hs h0 i hi r hr]; exact hv)
    rw [add_eq0] at this
    exact this
def RcvAt (w : World) (P : Nat) (r : Rt) (F : Nat → Prop) : Prop := ∃ hs ah ch, hs.map Hm.m = r.heard ∧ RI w w P r.n hs r.known r.taken F ah ch
def NewOutR (a b c : Int) (e : Ending) (w w' : World) : Prop :=
  (rightE a b c ≠ 0 ∧ e = .returned (.tuple #[.pointer none, .int .i64 (rightE a b c)])) ∨
  (∃ (n : Nm) (P : Nat), n.ok ∧ a = n.size ∧ b = n.block ∧ c = n.spare ∧ e = .returned (.tuple #[.pointer (some ⟨P, 0, none⟩), .int .i64 0]) ∧ RcvAt w' P (Rt.fresh n) (fun x => w.heap.size ≤ x ∧ x < w'.heap.size))

set_option maxHeartbeats 1000000 in
theorem refNewReceiver (a b c : Int) (w : World) :
    Calls Tryz.prog 10 #[.int .i64 a, .int .i64 b, .int .i64 c] w fun e w' => NewOutR a b c e w w' ∧ Below w.heap.size w w' := by
  have HR := right_any a b c (w.alloc (nBox a b c))
  have B0 : Below w.heap.size w (w.alloc (nBox a b c)) := (Below.refl _ _).alloc (Nat.le_refl _) _
  obtain ⟨E, hE⟩ : ∃ E, E = rightE a b c := ⟨_, rfl⟩
  have HE : Hid (E = rightE a b c) := hE
  rw [← hE] at HR
  clear hE
  go_enter Tryz.func10, Tryz.ntmps10
  go_wp2_with fail
  refine HR.mono ?_
  rintro e w1 ⟨rfl, hb1⟩
  have B1 := B0.trans (hb1.mono (by simp))
  have d0 : w1.cell? ⟨w.heap.size, 0, none⟩ = some (.int .i64 a) := (hb1.cell (p := ⟨w.heap.size, 0, none⟩) (by simp)).trans (cell_new rfl rfl)
  have d1 : w1.cell? ⟨w.heap.size, 1, none⟩ = some (.int .i64 b) := (hb1.cell (p := ⟨w.heap.size, 1, none⟩) (by simp)).trans (cell_new rfl rfl)
  have d2 : w1.cell? ⟨w.heap.size, 2, none⟩ = some (.int .i64 c) := (hb1.cell (p := ⟨w.heap.size, 2, none⟩) (by simp)).trans (cell_new rfl rfl)
  have z1 : w.heap.size ≤ w1.heap.size := B1.size
  clear HR hb1 B0
  by_cases h0 : E = 0
  · subst h0
    obtain ⟨n, hn, rfl, rfl, rfl⟩ := rightE_zero a b c HE.out.symm
    go_wp2
    go_ret2
    refine ⟨.inr ⟨n, w1.heap.size, hn, rfl, rfl, rfl, rfl, [], none, 0, rfl, ?_⟩, B1.alloc z1 _⟩
    refine ⟨rRow_new rfl n _ 0 0, World.ownsRow_nil _ _ _ _, ⟨z1, by simp⟩, by simp [Value.ownBlock], by simp [Value.ownBlock], Touch.refl _ _⟩
  · have t : (E != 0) = true := by simp [h0]
    clear h0
    go_wp2
    go_ret2
    exact ⟨.inl ⟨by rw [← HE.out]; simpa using t, by rw [← HE.out]; rfl⟩, B1⟩
/-! ### an object's length -/
theorem lenIn_drop (l : List M) (o : Int) (i : Nat) (h : i < l.length) (x0 : M) : lenIn (l.drop i) o = if (l.getD i x0).obj = o then (l.getD i x0).len else lenIn (l.drop (i + 1)) o := by
  have e : l.getD i x0 = l[i] := by simp [List.getD_eq_getElem?_getD, h]
  rw [List.drop_eq_getElem_cons h, e]; rfl
set_option maxHeartbeats 1000000 in
theorem refLength {w : World} {P : Nat} {n : Nm} {hs : List Hm} {known taken : Nat} {F : Nat → Prop} {ah : Option Addr} {ch : Nat} (o : Int) (h : RI w w P n hs known taken F ah ch) (hl : hs.length ≤ 4611686018427387904) :
    Calls Tryz.prog 45 #[.pointer (some ⟨P, 0, none⟩), .int .i64 o] w fun e w' => e = .returned (.int .i64 (lenIn (hs.map Hm.m) o)) ∧ w' = w := by
  have c3 : w.cell? ⟨P, 3, none⟩ = some (.slice ah hs.length ch) := h.row.cell (by decide)
  have HG : Hid (RI w w P n hs known taken F ah ch) := h
  obtain ⟨L, hL⟩ : ∃ L, L = hs.length := ⟨_, rfl⟩
  have HL : Hid (L = hs.length) := hL
  rw [← hL] at c3 hl
  clear h hL
  go_enter Tryz.func45, Tryz.ntmps45
  go_wp2
  go_loop [5] (fun x => ∃ i : Nat, i ≤ L ∧ x = .int .i64 i ∧ lenIn ((hs.map Hm.m).drop i) o = lenIn (hs.map Hm.m) o) (fun x => L - (intOf x).toNat)
  case atStart => exact ⟨0, Nat.zero_le _, rfl, rfl⟩
  case round =>
    obtain ⟨i, hi, rfl, hq⟩ := hrel
    by_cases hlt : i < L
    · obtain ⟨g, rfl, hg, hgP, hc⟩ := HG.out.heard_at (by rw [← HL.out]; omega)
      have k1 := hc i (by rw [← HL.out]; exact hlt) 1 _ (by decide) rfl
      have k4 := hc i (by rw [← HL.out]; exact hlt) 4 _ (by decide) rfl
      have hd := lenIn_drop (hs.map Hm.m) o i (by rw [List.length_map, ← HL.out]; exact hlt) h0.m
      have em : (hs.map Hm.m).getD i h0.m = (hs.getD i h0).m := by
        have : i < hs.length := by rw [← HL.out]; exact hlt
        simp [List.getD_eq_getElem?_getD, this]
      rw [em, hq] at hd
      have HD : Hid (lenIn (hs.map Hm.m) o = if (hs.getD i h0).m.obj = o then (hs.getD i h0).m.len else lenIn ((hs.map Hm.m).drop (i + 1)) o) := hd
      clear hd em hq hc hg hgP
      generalize (hs.getD i h0).m = x at *
      by_cases ho : x.obj = o
      · have e1 : (x.obj == o) = true := by simpa using ho
        have HR : Hid (x.len = lenIn (hs.map Hm.m) o) := by unfold Hid; rw [HD.out, if_pos ho]
        clear ho
        go_wp2
        go_ret
        exact ⟨ret_int HR.out, rfl⟩
      · have e1 : (x.obj == o) = false := by simpa using ho
        have HR : Hid (lenIn ((hs.map Hm.m).drop (i + 1)) o = lenIn (hs.map Hm.m) o) := by unfold Hid; rw [HD.out, if_neg ho]
        clear ho
        go_wp2
        go_round
        case rel => exact ⟨i + 1, by omega, by go_num, HR.out⟩
        case measure => simp [intOf]; omega
    · obtain rfl : i = L := by omega
      have HR : Hid ((0 : Int) = lenIn (hs.map Hm.m) o) := by
        unfold Hid
        rw [← hq, List.drop_eq_nil_of_le (by rw [List.length_map, HL.out]; exact Nat.le_refl _)]; rfl
      clear hq
      go_wp2
      go_ret
      exact ⟨ret_int HR.out, rfl⟩
end Sn
end Go.Proofs.YtkgnmcekeeannaaGreat
/-
  The reference's receiver hears what is no data.
-/
namespace Go.Proofs.YtkgnmcekeeannaaGreat
open Go.RowKit Go.Deep
namespace Sn
open Bs
open Ms (txt text ok M It mV mVm mBox mRow mRow_new itF itOK ItemsAt Tells ReadOut refRead owns_setCell owns_items icells)
set_option linter.unusedVariables false

theorem RI.done {w wr : World} {P : Nat} {n : Nm} {hs : List Hm} {known taken : Nat} {F : Nat → Prop} {ah : Option Addr} {ch : Nat}
    (h : RI w wr P n hs known taken F ah ch) : RcvAt wr P ⟨n, hs.map Hm.m, known, taken⟩ (grow F w wr) :=
  ⟨hs, ah, ch, rfl, h.row, h.hd, .inl h.fP, h.hp, fun b hb => by
    have hl := (h.hd.lt b hb).2
    rcases h.fh b hb with h' | h'
    · exact .inl (.inl h')
    · exact .inl (.inr ⟨h', hl⟩), Touch.refl _ _⟩
theorem rRow_set4 (n : Nm) (vh : Value) (known taken k : Nat) (j : Nat) (hj : j < 6) : (if j = 4 then (.int .i64 k : Value) else rRow n vh known taken j) = rRow n vh k taken j := by
  match j, hj with
  | 0, _ => rfl
  | 1, _ => rfl
  | 2, _ => rfl
  | 3, _ => rfl
  | 4, _ => rfl
  | 5, _ => rfl
theorem RI.set_known {w wr : World} {P : Nat} {n : Nm} {hs : List Hm} {known taken : Nat} {F : Nat → Prop} {ah : Option Addr} {ch : Nat}
    (h : RI w wr P n hs known taken F ah ch) (k : Nat) : RI w (wr.setCell ⟨P, 4, none⟩ (.int .i64 k)) P n hs k taken F ah ch :=
  ⟨(h.row.set 4 _).congr (fun j hj => rRow_set4 n _ known taken k j hj), owns_setCell h.hd h.hp, h.fP, h.hp, h.fh, touch_set h.touch (.inl h.fP)⟩
def HearOutR (r : Rt) (t : ByteArray) (e : Ending) (w w' : World) (P : Nat) (F : Nat → Prop) : Prop :=
  (∃ m, Tells t m ∧ e = .returned (.int .i64 (r.hear m).2) ∧ RcvAt w' P (r.hear m).1 (grow F w w')) ∨
  ((∀ m, ¬ Tells t m) ∧ e = .returned (.int .i64 6) ∧ RcvAt w' P r (grow F w w'))

set_option maxRecDepth 100000 in
set_option maxHeartbeats 4000000 in
theorem refHearR_rest (r : Rt) (tx : ByteArray) (P : Nat) (F : Nat → Prop) (w : World) (ht : tx.size ≤ 1048576) (hA : RcvAt w P r F) (hnd : ∀ m, Tells tx m → m.kind ≠ 1) (hkn : r.known ≤ 4611686018427387904) :
    Calls Tryz.prog 32 #[.pointer (some ⟨P, 0, none⟩), .string tx] w fun e w' => HearOutR r tx e w w' P F ∧ Touch w w' F := by
  obtain ⟨hs, ah, ch, hh, hI⟩ := hA
  have HR := refRead tx w ht
  have HI : Hid (RI w w P r.n hs r.known r.taken F ah ch) := hI
  have HH : Hid (hs.map Hm.m = r.heard) := hh
  have HND : Hid (∀ m, Tells tx m → m.kind ≠ 1) := hnd
  clear hI hh ht hnd
  go_enter Tryz.func32, Tryz.ntmps32
  go_wp2_with fail
  refine HR.mono ?_
  rintro e w1 ⟨ho, hb1⟩
  clear HR
  rcases ho with ⟨m, io, ci, htl, rfl, hown⟩ | ⟨hno, rfl⟩
  · have HT : Hid (Tells tx m) := htl
    have hk1 := HND.out m htl
    have HSI1 : Hid (RI w (w1.alloc (mBox m.kind m.obj m.blk m.num m.len m.sym io m.items.length ci m.objs)) P r.n hs r.known r.taken F ah ch) := (HI.out.below hb1).below ((Below.refl _ _).alloc (Nat.le_refl _) _)
    by_cases hk : m.kind = 2
    · have tk : (m.kind == 2) = true := by rw [hk]; rfl
      have HM : Hid (r.hear m = (r, 6)) := by unfold Hid Rt.hear; rw [if_pos hk]
      clear hk hk1 htl hown hb1 HI
      go_wp2
      go_ret
      refine ⟨.inl ⟨m, HT.out, by rw [HM.out]; rfl, ?_⟩, HSI1.out.touch⟩
      have := HSI1.out.done
      rw [HH.out] at this
      rw [HM.out]; exact this
    · have hk3 : m.kind = 3 ∧ 0 ≤ m.objs ∧ m.objs ≤ 255 := by
        rcases htl.1 with h | h | h
        · exact absurd h.1 hk1
        · exact absurd h.1 hk
        · exact ⟨h.1, h.2.1, by have := h.2.2.1; omega⟩
      have tk : (m.kind == 2) = false := by simpa using hk
      have tk3 : (m.kind == 3) = true := by rw [hk3.1]; rfl
      obtain ⟨N0, hN0⟩ : ∃ N0 : Nat, m.objs = (N0 : Int) := ⟨m.objs.toNat, by omega⟩
      have HM : Hid (r.hear m = ({ r with known := max r.known N0 }, 0)) := by unfold Hid Rt.hear; rw [if_neg hk, if_pos hk3.1, hN0]; rfl
      have hN8 : N0 ≤ 255 := by omega
      have c7 : (w1.alloc (mBox m.kind m.obj m.blk m.num m.len m.sym io m.items.length ci m.objs)).cell? ⟨w1.heap.size, 7, none⟩ = some (.int .i64 N0) := by rw [← hN0]; exact cell_new rfl rfl
      have c4 : (w1.alloc (mBox m.kind m.obj m.blk m.num m.len m.sym io m.items.length ci m.objs)).cell? ⟨P, 4, none⟩ = some (.int .i64 r.known) := HSI1.out.row.cell (by decide)
      have f4 := HSI1.out.row.frozen 4
      clear hk hk1 hk3 htl hown hb1 HI hN0
      go_upto_region 5 with fail
      obtain ⟨Mb, hMb⟩ : ∃ B, B = w1.heap.size := ⟨_, rfl⟩
      have hMb' : w1.heap.size = Mb := hMb.symm
      simp only [hMb'] at *
      clear hMb hMb'
      generalize w1.alloc (mBox m.kind m.obj m.blk m.num m.len m.sym io m.items.length ci m.objs) = w2 at *
      obtain ⟨K0, hK0⟩ : ∃ K, K = r.known := ⟨_, rfl⟩
      have HK0 : Hid (K0 = r.known) := hK0
      rw [← hK0] at c4 hkn
      clear hK0
      by_cases hgt : K0 < N0
      · have hgi : (K0 : Int) < N0 := by omega
        go_quiet (fail)
        have c7' : (w2.drewN nq).cell? ⟨Mb, 7, none⟩ = some (.int .i64 N0) := cell_drawn c7
        have HS2 : Hid (RI w (w2.drewN nq) P r.n hs r.known r.taken F ah ch) := HSI1.out.below (below_drewN (Below.refl _ _) nq)
        clear c7 c4 f4 HSI1
        generalize w2.drewN nq = w3 at *
        have f4 := HS2.out.row.frozen 4
        have c4 : w3.cell? ⟨P, 4, none⟩ = some (.int .i64 K0) := by rw [HK0.out]; exact HS2.out.row.cell (by decide)
        have SF := HS2.out.set_known N0
        have HF : Hid (RcvAt (w3.setCell ⟨P, 4, none⟩ (.int .i64 N0)) P (r.hear m).1 (grow F w (w3.setCell ⟨P, 4, none⟩ (.int .i64 N0)))) := by
          unfold Hid
          have := SF.done
          rw [HH.out] at this
          rw [HM.out, Nat.max_eq_right (by rw [← HK0.out]; omega)]; exact this
        have HTo : Hid (Touch w (w3.setCell ⟨P, 4, none⟩ (.int .i64 N0)) F) := SF.touch
        clear SF HS2
        go_wp2
        go_ret
        exact ⟨.inl ⟨m, HT.out, by rw [HM.out]; rfl, HF.out⟩, HTo.out⟩
      · have hge : (N0 : Int) ≤ K0 := by omega
        go_quiet (fail)
        have c7' : (w2.drewN nq).cell? ⟨Mb, 7, none⟩ = some (.int .i64 N0) := cell_drawn c7
        have HS2 : Hid (RI w (w2.drewN nq) P r.n hs r.known r.taken F ah ch) := HSI1.out.below (below_drewN (Below.refl _ _) nq)
        clear c7 c4 f4 HSI1
        generalize w2.drewN nq = w3 at *
        have f4 := HS2.out.row.frozen 4
        have c4 : w3.cell? ⟨P, 4, none⟩ = some (.int .i64 K0) := by rw [HK0.out]; exact HS2.out.row.cell (by decide)
        have HF : Hid (RcvAt w3 P (r.hear m).1 (grow F w w3)) := by
          unfold Hid
          have := HS2.out.done
          rw [HH.out] at this
          rw [HM.out, Nat.max_eq_left (by rw [← HK0.out]; omega)]; exact this
        have HTo : Hid (Touch w w3 F) := HS2.out.touch
        clear HS2 hgt
        go_wp2
        go_ret
        exact ⟨.inl ⟨m, HT.out, by rw [HM.out]; rfl, HF.out⟩, HTo.out⟩
  · have HN : Hid (∀ m', ¬ Tells tx m') := hno
    have HF : Hid (RI w (w1.alloc (mBox 0 0 0 0 0 ⟨#[]⟩ none 0 0 0)) P r.n hs r.known r.taken F ah ch) := (HI.out.below hb1).below ((Below.refl _ _).alloc (Nat.le_refl _) (mBox 0 0 0 0 0 ⟨#[]⟩ none 0 0 0))
    clear hno hb1 HI
    go_wp2
    go_ret
    refine ⟨.inr ⟨HN.out, rfl, ?_⟩, HF.out.touch⟩
    have := HF.out.done
    rw [HH.out] at this
    exact this
end Sn
end Go.Proofs.YtkgnmcekeeannaaGreat
