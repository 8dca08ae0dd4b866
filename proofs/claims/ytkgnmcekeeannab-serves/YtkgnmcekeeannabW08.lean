import Derived.Test.YtkgnmcekeeannabW06
import Derived.Test.YtkgnmcekeeannabW07
import Derived.StillTailTactics
namespace Go.Proofs.Ytkgnmcekeeannab
open Go.RowKit Go.Deep
namespace Sn
open Bs
open Ms (Two two_block two_size two_grown two_new wpList_append_two owns_mono owns_setCell)
set_option linter.unusedVariables false

theorem infoStr : (Try.prog.info? 9).map (fun i => (i.zero, i.size, i.bytes)) = some (some (.string ⟨#[]⟩), 1, 16) := by kernel_rfl
def strs (l : List ByteArray) : List Value := l.map Value.string
def dv (d : Db) : List Value := [.int .i64 d.o, .int .i64 d.b, .int .i64 d.owes, .int .i64 d.turn]
def dvs : List Db → List Value
  | [] => []
  | d :: l => dv d ++ dvs l
theorem dvs_append (a b : List Db) : dvs (a ++ b) = dvs a ++ dvs b := by
  induction a with
  | nil => rfl
  | cons d a ih => simp [dvs, ih]
theorem dvs_length (l : List Db) : (dvs l).length = l.length * 4 := by
  induction l with
  | nil => rfl
  | cons d l ih => simp only [dvs, List.length_append, ih, dv, List.length_cons, List.length_nil]; omega
def sRow (n : Nm) (vo vd : Value) (sent : Nat) (j : Nat) : Value := ([.int .i64 n.size, .int .i64 n.block, .int .i64 n.spare, vo, vd, .int .i64 sent] : List Value).getD j undef
theorem sRow_set3 (n : Nm) (vo vd v : Value) (sent j : Nat) (hj : j < 6) : (if j = 3 then v else sRow n vo vd sent j) = sRow n v vd sent j := by
  match j, hj with
  | 0, _ => rfl
  | 1, _ => rfl
  | 2, _ => rfl
  | 3, _ => rfl
  | 4, _ => rfl
  | 5, _ => rfl
theorem sRow_set4 (n : Nm) (vo vd v : Value) (sent j : Nat) (hj : j < 6) : (if j = 4 then v else sRow n vo vd sent j) = sRow n vo v sent j := by
  match j, hj with
  | 0, _ => rfl
  | 1, _ => rfl
  | 2, _ => rfl
  | 3, _ => rfl
  | 4, _ => rfl
  | 5, _ => rfl
/-- nothing outside F has turned -/
structure Touch (w w' : World) (F : Nat → Prop) : Prop where
  os : w'.os = w.os
  tape : w'.tape = w.tape
  output : w'.output = w.output
  size : w.heap.size ≤ w'.heap.size
  block : ∀ b, b < w.heap.size → ¬ F b → w'.heap[b]? = w.heap[b]?
theorem Touch.refl (w : World) (F : Nat → Prop) : Touch w w F := ⟨rfl, rfl, rfl, Nat.le_refl _, fun _ _ _ => rfl⟩
theorem Touch.below {w wr w' : World} {F : Nat → Prop} (h : Touch w wr F) (hb : Below wr.heap.size wr w') : Touch w w' F :=
  ⟨hb.os.trans h.os, hb.tape.trans h.tape, hb.output.trans h.output, Nat.le_trans h.size hb.size, fun b h1 h2 => (hb.block b (by have := h.size; omega)).trans (h.block b h1 h2)⟩
theorem touch_on {w wr w1 : World} {F : Nat → Prop} {o : Obj} {v v' x : Value} {P i : Nat} (h : Touch w wr F) (h2 : Two (wr.alloc o) w1 v v') (hv : ∀ b, v.ownBlock = some b → F b ∨ w.heap.size ≤ b) (hP : F P) : Touch w (w1.setCell ⟨P, i, none⟩ x) F := by
  have hg := two_grown h2
  refine ⟨hg.os.trans h.os, hg.tape.trans h.tape, hg.output.trans h.output, by have := h.size; have := hg.size; simp; omega, fun b hb hF => ?_⟩
  have hbP : b ≠ P := fun e => hF (e ▸ hP)
  rw [heap_setCell_other _ _ _ _ hbP, hg.block b (by have := h.size; omega) (fun e => ?_), h.block b hb hF]
  rcases hv b e.symm with h' | h'
  · exact hF h'
  · omega
end Sn
end Go.Proofs.Ytkgnmcekeeannab
namespace Go.Proofs.Ytkgnmcekeeannab
open Go.RowKit Go.Deep
namespace Sn
open Bs
open Ms (Two two_block two_size two_grown two_new wpList_append_two owns_mono owns_setCell)
set_option linter.unusedVariables false

theorem rightE_zero (a b c : Int) (h : rightE a b c = 0) : ∃ n : Nm, n.ok ∧ a = n.size ∧ b = n.block ∧ c = n.spare := by
  unfold rightE at h
  by_cases a1 : a < 1 ∨ 16 < a
  · rw [if_pos a1] at h; exact absurd h (by decide)
  · rw [if_neg a1] at h
    by_cases b1 : b < 1 ∨ 8 < b
    · rw [if_pos b1] at h; exact absurd h (by decide)
    · rw [if_neg b1] at h
      by_cases c1 : c < 0 ∨ 8 < c
      · rw [if_pos c1] at h; exact absurd h (by decide)
      · exact ⟨⟨a.toNat, b.toNat, c.toNat⟩, ⟨by show 1 ≤ a.toNat; omega, by show a.toNat ≤ 16; omega, by show 1 ≤ b.toNat; omega, by show b.toNat ≤ 8; omega, by show c.toNat ≤ 8; omega⟩, by show a = (a.toNat : Int); omega, by show b = (b.toNat : Int); omega, by show c = (c.toNat : Int); omega⟩
/-- a new sender -/
def St.fresh (n : Nm) : St := ⟨n, [], [], 0⟩
end Sn
end Go.Proofs.Ytkgnmcekeeannab
/-
  The landed sender in plain words and in memory; NewSender.
-/
namespace Go.Proofs.Ytkgnmcekeeannab
open Go.RowKit Go.Deep
namespace Sn
open Bs
open Ms (Two two_block two_size two_grown two_new wpList_append_two owns_mono owns_setCell)
set_option linter.unusedVariables false

structure LS where
  n : Nm
  objs : List ByteArray
  ow : Nat → Nat → Nat
  tu : Nat → Nat → Nat
  no : Nat
  nb : Nat
  nn : Nat
def LS.obj (s : LS) (i : Nat) : ByteArray := s.objs.getD i ⟨#[]⟩
def LS.blk (s : LS) (i : Nat) : Nat := s.n.blocks (s.obj i).size
def LS.fresh (n : Nm) : LS := ⟨n, [], fun _ _ => 0, fun _ _ => 0, 0, 0, 0⟩
theorem infoQ : (Try.prog.info? 127).map (fun i => (i.zero, i.size, i.bytes)) = some (some (.agg #[.string ⟨#[]⟩, .slice none 0 0]), 2, 40) := by kernel_rfl
theorem infoDt : (Try.prog.info? 130).map (fun i => (i.zero, i.size, i.bytes)) = some (some (.agg #[.int .i64 0, .int .i64 0]), 2, 16) := by kernel_rfl

def lRow (n : Nm) (vo : Value) (no nb nn : Nat) (j : Nat) : Value := ([.int .i64 n.size, .int .i64 n.block, .int .i64 n.spare, vo, .int .i64 no, .int .i64 nb, .int .i64 nn] : List Value).getD j undef
/-- what is kept for the i-th object, block by block -/
def dRow (s : LS) (i : Nat) (j : Nat) : Value := .int .i64 (if j % 2 = 0 then s.ow i (j / 2) else s.tu i (j / 2) : Nat)
/-- the cells of the queue -/
def qvs (n : Nm) : List ByteArray → (Nat → Nat) → Nat → List Value
  | [], _, _ => []
  | o :: l, D, i => .string o :: .slice (some ⟨D i, 0, none⟩) (n.blocks o.size) (n.blocks o.size) :: qvs n l D (i + 1)
theorem qvs_length (n : Nm) (l : List ByteArray) (D : Nat → Nat) : ∀ i, (qvs n l D i).length = l.length * 2 := by
  induction l with
  | nil => intro i; rfl
  | cons o l ih => intro i; simp only [qvs, List.length_cons, ih]; omega
theorem qvs_append (n : Nm) (l : List ByteArray) (o : ByteArray) (D : Nat → Nat) : ∀ i, qvs n (l ++ [o]) D i = qvs n l D i ++ [.string o, .slice (some ⟨D (i + l.length), 0, none⟩) (n.blocks o.size) (n.blocks o.size)] := by
  induction l with
  | nil => intro i; simp [qvs]
  | cons x l ih => intro i; simp only [List.cons_append, qvs, ih, List.length_cons, List.cons_append]; rw [show i + 1 + l.length = i + (l.length + 1) from by omega]
theorem qvs_congr (n : Nm) (l : List ByteArray) (D E : Nat → Nat) : ∀ i, (∀ j, i ≤ j → j < i + l.length → D j = E j) → qvs n l D i = qvs n l E i := by
  induction l with
  | nil => intro i _; rfl
  | cons x l ih =>
    intro i h
    simp only [qvs]
    rw [h i (Nat.le_refl _) (by simp), ih (i + 1) (fun j h1 h2 => h j (by omega) (by simp at h2 ⊢; omega))]
theorem qvs_get0 (n : Nm) (l : List ByteArray) (D : Nat → Nat) : ∀ (i j : Nat), j < l.length → (qvs n l D i)[j * 2]? = some (.string (l.getD j ⟨#[]⟩)) := by
  induction l with
  | nil => intro i j h; simp at h
  | cons x l ih =>
    intro i j h
    cases j with
    | zero => simp [qvs]
    | succ j =>
      rw [show (j + 1) * 2 = j * 2 + 1 + 1 from by omega]
      simp only [qvs, List.getElem?_cons_succ]
      rw [ih (i + 1) j (by simpa using h)]
      simp
theorem qvs_get1 (n : Nm) (l : List ByteArray) (D : Nat → Nat) : ∀ (i j : Nat), j < l.length → (qvs n l D i)[j * 2 + 1]? = some (.slice (some ⟨D (i + j), 0, none⟩) (n.blocks (l.getD j ⟨#[]⟩).size) (n.blocks (l.getD j ⟨#[]⟩).size)) := by
  induction l with
  | nil => intro i j h; simp at h
  | cons x l ih =>
    intro i j h
    cases j with
    | zero => simp [qvs]
    | succ j =>
      rw [show (j + 1) * 2 + 1 = j * 2 + 1 + 1 + 1 from by omega]
      simp only [qvs, List.getElem?_cons_succ]
      rw [ih (i + 1) j (by simpa using h)]
      simp [show i + 1 + j = i + (j + 1) from by omega]
/-- the landed sender in memory; F: where it lies -/
structure LI (w : World) (P : Nat) (s : LS) (F : Nat → Prop) (ao : Option Addr) (co : Nat) (D : Nat → Nat) : Prop where
  row : w.rowIs P 89 7 (lRow s.n (.slice ao s.objs.length co) s.no s.nb s.nn)
  ob : w.ownsRow 0 127 2 (.slice ao s.objs.length co) s.objs.length (qvs s.n s.objs D 0)
  db : ∀ i, i < s.objs.length → w.rowIs (D i) 130 (s.blk i * 2) (dRow s i)
  fP : F P
  fo : ∀ b, (Value.slice ao s.objs.length co).ownBlock = some b → F b
  fd : ∀ i, i < s.objs.length → F (D i)
  op : (Value.slice ao s.objs.length co).ownBlock ≠ some P
  dp : ∀ i, i < s.objs.length → D i ≠ P
  od : ∀ i, i < s.objs.length → (Value.slice ao s.objs.length co).ownBlock ≠ some (D i)
  dd : ∀ i j, i < s.objs.length → j < s.objs.length → D i = D j → i = j
def LndAt (w : World) (P : Nat) (s : LS) (F : Nat → Prop) : Prop := ∃ ao co D, LI w P s F ao co D
theorem LI.mono {w : World} {P : Nat} {s : LS} {F G : Nat → Prop} {ao : Option Addr} {co : Nat} {D : Nat → Nat} (h : LI w P s F ao co D) (hF : ∀ b, F b → G b) : LI w P s G ao co D :=
  ⟨h.row, h.ob, h.db, hF _ h.fP, fun b hb => hF _ (h.fo b hb), fun i hi => hF _ (h.fd i hi), h.op, h.dp, h.od, h.dd⟩
theorem LI.below {w w' : World} {P : Nat} {s : LS} {F : Nat → Prop} {ao : Option Addr} {co : Nat} {D : Nat → Nat} (h : LI w P s F ao co D) (hb : Below w.heap.size w w') : LI w' P s F ao co D :=
  ⟨h.row.of_block (hb.block P h.row.lt), Ms.owns_below h.ob hb, fun i hi => (h.db i hi).of_block (hb.block _ (h.db i hi).lt), h.fP, h.fo, h.fd, h.op, h.dp, h.od, h.dd⟩
theorem lRow_new {w : World} {b : Nat} (hb : b = w.heap.size) (n : Nm) (vo : Value) (no nb nn : Nat) :
    (w.alloc (.cells #[.int .i64 n.size, .int .i64 n.block, .int .i64 n.spare, vo, .int .i64 no, .int .i64 nb, .int .i64 nn] 89)).rowIs b 89 7 (lRow n vo no nb nn) := by
  subst hb
  exact World.rowIs_alloc w _ _ _ (fun i hi => by
    match i, hi with
    | 0, _ => rfl
    | 1, _ => rfl
    | 2, _ => rfl
    | 3, _ => rfl
    | 4, _ => rfl
    | 5, _ => rfl
    | 6, _ => rfl)
abbrev sAgg (a b c : Int) : Value := .agg #[.int .i64 a, .int .i64 b, .int .i64 c, .slice none 0 0, .int .i64 0, .int .i64 0, .int .i64 0]

set_option maxHeartbeats 1000000 in
theorem lanNew (a b c : Int) (w : World) :
    Calls Try.prog 48 #[.int .i64 a, .int .i64 b, .int .i64 c] w fun e w' => e = .returned (.tuple #[if rightE a b c = 0 then sAgg a b c else sAgg 0 0 0, .int .i64 (rightE a b c)]) ∧ Below w.heap.size w w' := by
  have HN := fun W => layNew_any a b c W
  obtain ⟨E, hE⟩ : ∃ E, E = rightE a b c := ⟨_, rfl⟩
  rw [← hE] at HN ⊢
  clear hE
  obtain ⟨x, y, z, h1, h2⟩ : ∃ x y z : Int, (if E = 0 then nV a b c else nV 0 0 0) = nV x y z ∧ (if E = 0 then sAgg a b c else sAgg 0 0 0) = sAgg x y z := by
    by_cases h : E = 0
    · exact ⟨a, b, c, by rw [if_pos h], by rw [if_pos h]⟩
    · exact ⟨0, 0, 0, by rw [if_neg h], by rw [if_neg h]⟩
  rw [h1] at HN
  rw [h2]
  clear h1 h2
  have R0 := World.rowIs_alloc w #[.int .i64 0, .int .i64 0, .int .i64 0, .slice none 0 0, .int .i64 0, .int .i64 0, .int .i64 0] 87 (fun j => ([.int .i64 0, .int .i64 0, .int .i64 0, .slice none 0 0, .int .i64 0, .int .i64 0, .int .i64 0] : List Value).getD j undef) (fun i hi => by
    match i, hi with
    | 0, _ => rfl
    | 1, _ => rfl
    | 2, _ => rfl
    | 3, _ => rfl
    | 4, _ => rfl
    | 5, _ => rfl
    | 6, _ => rfl)
  have B0 : Below w.heap.size w (w.alloc (.cells #[.int .i64 0, .int .i64 0, .int .i64 0, .slice none 0 0, .int .i64 0, .int .i64 0, .int .i64 0] 87)) := (Below.refl _ _).alloc (Nat.le_refl _) _
  go_enter Try.func48, Try.ntmps48
  go_wp2_with fail
  refine (HN _).mono ?_
  rintro e w1 ⟨rfl, hb1⟩
  have R1 := R0.of_block (hb1.block _ R0.lt)
  have B1 := B0.trans (hb1.mono (by simp))
  have f0 := R1.frozen 0
  have f1 := R1.frozen 1
  have f2 := R1.frozen 2
  have f3 := R1.frozen 3
  have f4 := R1.frozen 4
  have f5 := R1.frozen 5
  have f6 := R1.frozen 6
  have x0 := R1.cell (i := 0) (by decide)
  have x1 := R1.cell (i := 1) (by decide)
  have x2 := R1.cell (i := 2) (by decide)
  have x3 := R1.cell (i := 3) (by decide)
  have x4 := R1.cell (i := 4) (by decide)
  have x5 := R1.cell (i := 5) (by decide)
  have x6 := R1.cell (i := 6) (by decide)
  simp only [List.getD_cons_zero, List.getD_cons_succ] at x0 x1 x2 x3 x4 x5 x6
  have z1 : w.heap.size < w1.heap.size := R1.lt
  clear R0 R1 hb1 HN B0
  obtain ⟨N, hN⟩ : ∃ N, N = w.heap.size := ⟨_, rfl⟩
  have HN : Hid (N = w.heap.size) := hN
  have HB : Hid (∀ v0 v1 v2 v3 v4 v5 v6 o, Below w.heap.size w ((((((((w1.setCell ⟨N, 0, none⟩ v0).setCell ⟨N, 1, none⟩ v1).setCell ⟨N, 2, none⟩ v2).setCell ⟨N, 3, none⟩ v3).setCell ⟨N, 4, none⟩ v4).setCell ⟨N, 5, none⟩ v5).setCell ⟨N, 6, none⟩ v6).alloc o)) := by
    intro v0 v1 v2 v3 v4 v5 v6 o
    have hle : w.heap.size ≤ N := by rw [hN]; exact Nat.le_refl _
    exact (((((((B1.setCell hle _).setCell hle _).setCell hle _).setCell hle _).setCell hle _).setCell hle _).setCell hle _).alloc (by simp; omega) _
  rw [← hN] at x0 x1 x2 x3 x4 x5 x6 f0 f1 f2 f3 f4 f5 f6 z1 ⊢
  clear hN B1
  go_wp2
  refine bodyPost_ret (v := .tuple #[sAgg x y z, .int .i64 E]) (by simp [results, Try.results48, go_sem, x0, x1, x2, x3, x4, x5, x6, z1]) rfl ?_
  exact ⟨rfl, by rw [HN.out] at HB ⊢; exact HB.out _ _ _ _ _ _ _ _⟩
def LNewOut (a b c : Int) (e : Ending) (w w' : World) : Prop :=
  (rightE a b c ≠ 0 ∧ e = .returned (.tuple #[.pointer none, .int .i64 (rightE a b c)])) ∨
  (∃ (n : Nm) (P : Nat), n.ok ∧ a = n.size ∧ b = n.block ∧ c = n.spare ∧ e = .returned (.tuple #[.pointer (some ⟨P, 0, none⟩), .int .i64 0]) ∧ LndAt w' P (LS.fresh n) (fun x => w.heap.size ≤ x ∧ x < w'.heap.size))
set_option maxHeartbeats 1000000 in
theorem lanNewSender (a b c : Int) (w : World) :
    Calls Try.prog 33 #[.int .i64 a, .int .i64 b, .int .i64 c] w fun e w' => LNewOut a b c e w w' ∧ Below w.heap.size w w' := by
  have HN := fun W => lanNew a b c W
  obtain ⟨E, hE⟩ : ∃ E, E = rightE a b c := ⟨_, rfl⟩
  have HE : Hid (E = rightE a b c) := hE
  rw [← hE] at HN
  clear hE
  by_cases h0 : E = 0
  · subst h0
    obtain ⟨n, hn, rfl, rfl, rfl⟩ := rightE_zero a b c HE.out.symm
    simp only [if_true] at HN
    go_enter Try.func33, Try.ntmps33
    go_wp2_with fail
    refine (HN _).mono ?_
    rintro e w1 ⟨rfl, hb1⟩
    have z1 := hb1.size
    clear HN
    go_wp2
    go_ret2
    refine ⟨.inr ⟨n, w1.heap.size + 1, hn, rfl, rfl, rfl, rfl, none, 0, fun _ => 0, ?_⟩, (hb1.alloc z1 _).alloc (by simp; omega) _⟩
    refine ⟨lRow_new (by simp) n _ 0 0 0, World.ownsRow_nil _ _ _ _, by simp [LS.fresh], ⟨by omega, by simp⟩, by simp [Value.ownBlock], by simp [LS.fresh], by simp [Value.ownBlock], by simp [LS.fresh], by simp [LS.fresh], by simp [LS.fresh]⟩
  · have t : (E != 0) = true := by simp [h0]
    rw [if_neg h0] at HN
    clear h0
    go_enter Try.func33, Try.ntmps33
    go_wp2_with fail
    refine (HN _).mono ?_
    rintro e w1 ⟨rfl, hb1⟩
    clear HN
    go_wp2
    go_ret2
    refine ⟨.inl ⟨by rw [← HE.out]; simpa using t, by rw [← HE.out]; rfl⟩, hb1.alloc hb1.size _⟩
end Sn
end Go.Proofs.Ytkgnmcekeeannab
/-
  What reads the landed sender: symbols.
-/
namespace Go.Proofs.Ytkgnmcekeeannab
open Go.RowKit Go.Deep
namespace Sn
open Bs
set_option linter.unusedVariables false

/-- what always holds of a landed sender -/
structure LOk (s : LS) : Prop where
  nok : s.n.ok
  len : s.objs.length ≤ 8
  sz : ∀ i, i < s.objs.length → 1 ≤ (s.obj i).size ∧ (s.obj i).size ≤ 256
theorem LI.drew {w : World} {P : Nat} {s : LS} {F : Nat → Prop} {ao : Option Addr} {co : Nat} {D : Nat → Nat} (h : LI w P s F ao co D) : LI w.drew P s F ao co D := ⟨h.row, h.ob, h.db, h.fP, h.fo, h.fd, h.op, h.dp, h.od, h.dd⟩
theorem LI.cells {w : World} {P : Nat} {s : LS} {F : Nat → Prop} {ao : Option Addr} {co : Nat} {D : Nat → Nat} (h : LI w P s F ao co D) :
    w.cell? ⟨P, 0, none⟩ = some (.int .i64 s.n.size) ∧ w.cell? ⟨P, 1, none⟩ = some (.int .i64 s.n.block) ∧ w.cell? ⟨P, 2, none⟩ = some (.int .i64 s.n.spare) ∧ w.cell? ⟨P, 3, none⟩ = some (.slice ao s.objs.length co) ∧ w.cell? ⟨P, 4, none⟩ = some (.int .i64 s.no) ∧ w.cell? ⟨P, 5, none⟩ = some (.int .i64 s.nb) ∧ w.cell? ⟨P, 6, none⟩ = some (.int .i64 s.nn) :=
  ⟨h.row.cell (by decide), h.row.cell (by decide), h.row.cell (by decide), h.row.cell (by decide), h.row.cell (by decide), h.row.cell (by decide), h.row.cell (by decide)⟩
theorem LI.slot {w : World} {P : Nat} {s : LS} {F : Nat → Prop} {ao : Option Addr} {co : Nat} {D : Nat → Nat} (h : LI w P s F ao co D) (h0 : 0 < s.objs.length) :
    ∃ g, ao = some ⟨g, 0, none⟩ ∧ g < w.heap.size ∧ ∀ i, i < s.objs.length → w.cell? ⟨g, i * 2, none⟩ = some (.string (s.obj i)) ∧ w.cell? ⟨g, i * 2 + 1, none⟩ = some (.slice (some ⟨D i, 0, none⟩) (s.blk i) (s.blk i)) := by
  rcases h.ob.2 with ⟨_, e⟩ | ⟨g, cap, cur, e, _⟩
  · omega
  · simp only [Value.slice.injEq] at e
    obtain ⟨rfl, _, rfl⟩ := e
    have hc := h.ob.cells (g := g) rfl
    refine ⟨g, rfl, (h.ob.lt g rfl).2, fun i hi => ⟨?_, ?_⟩⟩
    · have := hc (i * 2) _ (qvs_get0 s.n s.objs D 0 i hi)
      rw [add_eq0] at this
      exact this
    · have := hc (i * 2 + 1) _ (qvs_get1 s.n s.objs D 0 i hi)
      rw [add_eq0, Nat.zero_add] at this
      exact this
set_option maxHeartbeats 1000000 in
set_option maxRecDepth 100000 in
theorem lanSymbols (s : LS) (i b P : Nat) (F : Nat → Prop) (ao : Option Addr) (co : Nat) (D : Nat → Nat) (w : World) (hs : LOk s) (hi : i < s.objs.length) (hb : b ≤ 65536) (hA : LI w P s F ao co D) :
    Calls Try.prog 72 #[.pointer (some ⟨P, 0, none⟩), .int .i64 i, .int .i64 b] w fun e w' => e = .returned (.int .i64 (s.n.many (s.obj i).size b : Nat)) ∧ Below w.heap.size w w' := by
  obtain ⟨wd, hwd⟩ : ∃ wd, wd = w.drew := ⟨_, rfl⟩
  have hA' : LI wd P s F ao co D := by rw [hwd]; exact hA.drew
  have B0 : Below w.heap.size w wd := by rw [hwd]; exact (Below.refl _ _).drew
  have hsz : wd.heap.size = w.heap.size := by rw [hwd]; rfl
  obtain ⟨g, rfl, hg, hsl⟩ := hA'.slot (by omega)
  obtain ⟨c0, c1, c2, c3, c4, c5, c6⟩ := hA'.cells
  have s0 := (hsl i hi).1
  have hz := hs.sz i hi
  have hlen := hs.len
  have HS := laySymbols s.n (s.obj i).size b wd hs.nok (by omega) hb
  generalize s.obj i = o at *
  generalize s.n.many o.size b = R at *
  generalize s.objs.length = L at *
  simp only [nmV] at HS
  clear hA hA' hsl c4 c5 c6
  go_enter Try.func72, Try.ntmps72
  go_wp2_with fail
  (refine wp_region_still_tail 14 (by kernel_rfl) (by kernel_rfl) ?_; change wpStill _ _ (World.drew _) (fun a' => wpList _ _ _ _ a' (World.drew _)) _ _; simp only [← hwd]; clear hwd; simp only [List.take_succ_cons, List.take_zero, List.drop_succ_cons, List.drop_zero]; (repeat still_step); refine wpStill_nil ?_)
  go_wp2_with fail
  refine HS.mono ?_
  rintro e w1 ⟨rfl, hb1⟩
  have B1 := B0.trans (hb1.mono (by omega))
  clear HS c0 c1 c2 c3 s0
  go_wp2
  go_ret
  exact ⟨rfl, B1⟩
end Sn
end Go.Proofs.Ytkgnmcekeeannab
