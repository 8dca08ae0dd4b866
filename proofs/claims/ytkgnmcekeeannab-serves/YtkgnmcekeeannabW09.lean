import Derived.Test.YtkgnmcekeeannabW08
namespace Go.Proofs.Ytkgnmcekeeannab
open Go.RowKit Go.Deep
namespace Sn
open Bs
open Ms (Two two_block two_size two_grown two_new wpList_append_two owns_mono owns_setCell size_isEmpty)
set_option linter.unusedVariables false

theorem blocks_le (n : Nm) (hn : n.ok) (len : Nat) (h : len ≤ 256) : n.blocks len ≤ 256 := by
  have h1 := all_le n hn len h
  unfold Nm.blocks
  obtain ⟨_, _, h3, _⟩ := hn
  generalize n.all len = A at *
  by_cases h0 : A = 0
  · subst h0; rw [Nat.zero_add, Nat.div_eq_of_lt (by omega)]; omega
  · have : (A + n.block - 1) / n.block ≤ A := by
      rw [Nat.div_le_iff_le_mul (by omega)]
      have : A * n.block ≥ A := Nat.le_mul_of_pos_right _ (by omega)
      have h2 : A * n.block + n.block - 1 = A * n.block + (n.block - 1) := by omega
      omega
    omega
/-- what always holds of a sender -/
structure SOk (s : St) : Prop where
  nok : s.n.ok
  len : s.objs.length ≤ 8
  sz : ∀ o ∈ s.objs, 1 ≤ o.size ∧ o.size ≤ 256
  dl : s.debts.length ≤ 256 * s.objs.length
theorem news4 {w : World} {x y z u : Value} {t : TypeId} : ∀ j v, ([x, y, z, u] : List Value)[j]? = some v → (w.alloc (.cells #[x, y, z, u] t)).cell? ((⟨w.heap.size, 0, none⟩ : Addr).add j) = some v := by
  intro j v hj
  rw [add_eq0]
  have h : (w.alloc (.cells #[x, y, z, u] t)).heap[w.heap.size]? = some (.cells #[x, y, z, u] t) := heap_alloc_new w _
  simp only [World.cell?]
  rw [h]
  simpa using hj
def grow (F : Nat → Prop) (w w' : World) : Nat → Prop := fun b => F b ∨ (w.heap.size ≤ b ∧ b < w'.heap.size)
def firsts (i j : Nat) : List Db := (List.range j).map (fun b => ⟨i, b, 0, 0⟩)
theorem firsts_succ (i j : Nat) : firsts i (j + 1) = firsts i j ++ [⟨i, j, 0, 0⟩] := by simp [firsts, List.range_succ]

end Sn
end Go.Proofs.Ytkgnmcekeeannab
/-
  The landed Enqueue.
-/
namespace Go.Proofs.Ytkgnmcekeeannab
open Go.RowKit Go.Deep
namespace Sn
open Bs
open Ms (Two two_block two_size two_grown two_new wpList_append_two owns_mono owns_setCell)
set_option linter.unusedVariables false

def LS.enq (s : LS) (o : ByteArray) : LS × Int × Int :=
  if o.size = 0 ∨ 256 < o.size then (s, 0, 7)
  else if 8 ≤ s.objs.length then (s, 0, 8)
  else ({ s with objs := s.objs ++ [o], ow := fun i j => if i = s.objs.length then 0 else s.ow i j, tu := fun i j => if i = s.objs.length then 0 else s.tu i j }, s.objs.length, 0)
theorem LndAt.grows {w : World} {P : Nat} {s : LS} {F : Nat → Prop} (h : LndAt w P s F) (w' : World) : LndAt w P s (grow F w w') := by
  obtain ⟨ao, co, D, h⟩ := h
  exact ⟨ao, co, D, h.mono (fun b hb => .inl hb)⟩
theorem LndAt.below {w w' : World} {P : Nat} {s : LS} {F : Nat → Prop} (h : LndAt w P s F) (hb : Below w.heap.size w w') : LndAt w' P s (grow F w w') := by
  obtain ⟨ao, co, D, h⟩ := h
  exact ⟨ao, co, D, (h.below hb).mono (fun b hb => .inl hb)⟩
theorem lRow_set3 (n : Nm) (vo v : Value) (no nb nn j : Nat) (hj : j < 7) : (if j = 3 then v else lRow n vo no nb nn j) = lRow n v no nb nn j := by
  match j, hj with
  | 0, _ => rfl
  | 1, _ => rfl
  | 2, _ => rfl
  | 3, _ => rfl
  | 4, _ => rfl
  | 5, _ => rfl
  | 6, _ => rfl
theorem LS.obj_app (s : LS) (o : ByteArray) (f g : Nat → Nat → Nat) (i : Nat) (h : i < s.objs.length) : LS.obj ⟨s.n, s.objs ++ [o], f, g, s.no, s.nb, s.nn⟩ i = s.obj i := by
  simp [LS.obj, List.getD_eq_getElem?_getD, List.getElem?_append_left h]
theorem LS.obj_last (s : LS) (o : ByteArray) (f g : Nat → Nat → Nat) : LS.obj ⟨s.n, s.objs ++ [o], f, g, s.no, s.nb, s.nn⟩ s.objs.length = o := by
  simp [LS.obj, List.getD_eq_getElem?_getD]
theorem LI.enq {w1 W w2 : World} {P L Bn co co2 : Nat} {s : LS} {F G : Nat → Prop} {ao ao2 : Option Addr} {D : Nat → Nat} {o : ByteArray} {obj : Obj} (h : LI w1 P s F ao co D) (hW : Below w1.heap.size w1 W) (hL : L = s.objs.length) (hBn : Bn = s.n.blocks o.size)
    (rN : W.rowIs w1.heap.size 130 (Bn * 2) (fun _ => .int .i64 0))
    (hown : w2.ownsRow 0 127 2 (.slice ao2 (L + 1) co2) (L + 1) (qvs s.n s.objs D 0 ++ [.string o, .slice (some ⟨w1.heap.size, 0, none⟩) Bn Bn]))
    (hg : (W.alloc obj).grownBy w2 (Value.slice ao L co).ownBlock) (hat : (Value.slice ao2 (L + 1) co2).ownBlock = (Value.slice ao L co).ownBlock ∨ (Value.slice ao2 (L + 1) co2).ownBlock = some (W.alloc obj).heap.size)
    (hG : ∀ b, F b → G b) (hGn : ∀ b, w1.heap.size ≤ b → b < w2.heap.size → G b) :
    LI (w2.setCell ⟨P, 3, none⟩ (.slice ao2 (L + 1) co2)) P ⟨s.n, s.objs ++ [o], fun i j => if i = L then 0 else s.ow i j, fun i j => if i = L then 0 else s.tu i j, s.no, s.nb, s.nn⟩ G ao2 co2 (fun i => if i = L then w1.heap.size else D i) := by
  subst hL
  have hl : (s.objs ++ [o]).length = s.objs.length + 1 := by simp
  have hsz := hW.size
  have hPl := h.row.lt
  have blk : ∀ b, b < W.heap.size → (Value.slice ao s.objs.length co).ownBlock ≠ some b → w2.heap[b]? = W.heap[b]? := fun b hb hne => (hg.block b (by simp; omega) (fun e => hne e.symm)).trans (Below.heap_alloc W _ b hb)
  have hNP : w1.heap.size ≠ P := by omega
  have hNo : (Value.slice ao s.objs.length co).ownBlock ≠ some w1.heap.size := fun e => by have := (h.ob.lt _ e).2; omega
  have hne : ∀ b, b < W.heap.size → (Value.slice ao s.objs.length co).ownBlock ≠ some b → (Value.slice ao2 (s.objs.length + 1) co2).ownBlock ≠ some b := fun b hb hn e => by
    rcases hat with e' | e'
    · rw [e'] at e; exact hn e
    · rw [e'] at e; simp at e; omega
  have hNl := rN.lt
  have RP := h.row.of_block ((blk P (by omega) h.op).trans (hW.block P hPl))
  refine ⟨?_, ?_, ?_, hG _ h.fP, ?_, ?_, ?_, ?_, ?_, ?_⟩
  · show World.rowIs _ P _ 7 (lRow s.n (.slice ao2 (s.objs ++ [o]).length co2) s.no s.nb s.nn)
    rw [hl]
    exact (RP.set 3 _).congr (fun j hj => lRow_set3 s.n _ _ s.no s.nb s.nn j hj)
  · show World.ownsRow _ 0 _ 2 (.slice ao2 (s.objs ++ [o]).length co2) (s.objs ++ [o]).length (qvs s.n (s.objs ++ [o]) _ 0)
    rw [hl, qvs_append, Nat.zero_add, if_pos rfl, ← hBn, qvs_congr s.n s.objs (fun i => if i = s.objs.length then w1.heap.size else D i) D 0 (fun j _ hj => by simp at hj ⊢; intro e; omega)]
    exact owns_setCell hown (hne P (by omega) h.op)
  · intro i hi
    have hi' : i < s.objs.length + 1 := by rw [← hl]; exact hi
    by_cases e : i = s.objs.length
    · subst e
      simp only [if_true]
      have e2 : LS.blk ⟨s.n, s.objs ++ [o], fun i j => if i = s.objs.length then 0 else s.ow i j, fun i j => if i = s.objs.length then 0 else s.tu i j, s.no, s.nb, s.nn⟩ s.objs.length = Bn := by
        unfold LS.blk; rw [LS.obj_last, hBn]
      rw [e2]
      refine ((rN.of_block (blk _ hNl hNo)).setOther (a := ⟨P, 3, none⟩) hNP _).congr (fun j hj => ?_)
      simp [dRow]
    · have hi2 : i < s.objs.length := by omega
      simp only [if_neg e]
      have e2 : LS.blk ⟨s.n, s.objs ++ [o], fun i j => if i = s.objs.length then 0 else s.ow i j, fun i j => if i = s.objs.length then 0 else s.tu i j, s.no, s.nb, s.nn⟩ i = s.blk i := by
        unfold LS.blk; rw [LS.obj_app s o _ _ i hi2]
      rw [e2]
      have hDl := (h.db i hi2).lt
      refine (((h.db i hi2).of_block ((blk _ (by omega) (h.od i hi2)).trans (hW.block _ hDl))).setOther (a := ⟨P, 3, none⟩) (h.dp i hi2) _).congr (fun j hj => ?_)
      simp [dRow, e]
  · show ∀ b, (Value.slice ao2 (s.objs ++ [o]).length co2).ownBlock = some b → G b
    rw [hl]
    intro b hb
    have hlt := (hown.lt b hb).2
    rcases hat with e' | e'
    · rw [e'] at hb; exact hG _ (h.fo b hb)
    · rw [e'] at hb; simp at hb; exact hGn b (by omega) hlt
  · intro i hi
    have hi' : i < s.objs.length + 1 := by rw [← hl]; exact hi
    by_cases e : i = s.objs.length
    · simp only [if_pos e]; exact hGn _ (Nat.le_refl _) (by have := hg.size; simp at this; omega)
    · simp only [if_neg e]; exact hG _ (h.fd i (by omega))
  · show (Value.slice ao2 (s.objs ++ [o]).length co2).ownBlock ≠ some P
    rw [hl]; exact hne P (by omega) h.op
  · intro i hi
    have hi' : i < s.objs.length + 1 := by rw [← hl]; exact hi
    by_cases e : i = s.objs.length
    · simp only [if_pos e]; exact hNP
    · simp only [if_neg e]; exact h.dp i (by omega)
  · show ∀ i, i < (s.objs ++ [o]).length → (Value.slice ao2 (s.objs ++ [o]).length co2).ownBlock ≠ some _
    rw [hl]
    intro i hi
    by_cases e : i = s.objs.length
    · simp only [if_pos e]; exact hne _ hNl hNo
    · simp only [if_neg e]
      have hDl := (h.db i (by omega)).lt
      exact hne _ (by omega) (h.od i (by omega))
  · intro i j hi hj
    have hi' : i < s.objs.length + 1 := by rw [← hl]; exact hi
    have hj' : j < s.objs.length + 1 := by rw [← hl]; exact hj
    by_cases e : i = s.objs.length
    · by_cases e2 : j = s.objs.length
      · intro _; omega
      · simp only [if_pos e, if_neg e2]
        have hDl := (h.db j (by omega)).lt
        intro e3; omega
    · by_cases e2 : j = s.objs.length
      · simp only [if_neg e, if_pos e2]
        have hDl := (h.db i (by omega)).lt
        intro e3; omega
      · simp only [if_neg e, if_neg e2]
        exact h.dd i j (by omega) (by omega)
theorem news2 {w : World} {x y : Value} {t : TypeId} : ∀ j v, ([x, y] : List Value)[j]? = some v → (w.alloc (.cells #[x, y] t)).cell? ((⟨w.heap.size, 0, none⟩ : Addr).add j) = some v := by
  intro j v hj
  rw [add_eq0]
  have h : (w.alloc (.cells #[x, y] t)).heap[w.heap.size]? = some (.cells #[x, y] t) := heap_alloc_new w _
  simp only [World.cell?]
  rw [h]
  simpa using hj
theorem made2_row (w : World) (n : Nat) (t : TypeId) : (w.alloc (.cells (madeCells #[.int .i64 0, .int .i64 0] (n * 2)) t)).rowIs w.heap.size t (n * 2) (fun _ => .int .i64 0) :=
  ⟨_, blk_alloc_new _ _, size_madeCells _ _, fun i hi => by
    have : i % 2 = 0 ∨ i % 2 = 1 := by omega
    rcases this with e | e <;> simp [madeCells, hi, e]⟩

set_option maxRecDepth 100000 in
set_option maxHeartbeats 4000000 in
theorem lanEnqueue (s : LS) (o : ByteArray) (P : Nat) (F : Nat → Prop) (w : World) (hs : LOk s) (ho : o.size ≤ maxLen) (hA : LndAt w P s F) :
    Calls Try.prog 53 #[.pointer (some ⟨P, 0, none⟩), .string o] w fun e w' => e = .returned (.tuple #[.int .i64 (s.enq o).2.1, .int .i64 (s.enq o).2.2]) ∧ LndAt w' P (s.enq o).1 (grow F w w') ∧ Touch w w' F := by
  unfold maxLen at ho
  by_cases h1 : o.size = 0 ∨ 256 < o.size
  · have HE : Hid (s.enq o = (s, 0, 7)) := by unfold Hid LS.enq; rw [if_pos h1]
    have HA : Hid (LndAt w P s F) := hA
    rw [HE.out]
    clear hA
    rcases h1 with h | h
    all_goals
      go_enter Try.func53, Try.ntmps53
      go_wp2
      go_ret2
      exact ⟨rfl, HA.out.grows w, Touch.refl _ _⟩
  · have ho1 : 1 ≤ o.size := by omega
    have ho2 : o.size ≤ 256 := by omega
    obtain ⟨ao, co, D, hI⟩ := hA
    have HI : Hid (LI w P s F ao co D) := hI
    obtain ⟨c0, c1, c2, c3, c4, c5, c6⟩ := hI.cells
    have hlen := hs.len
    by_cases h2 : 8 ≤ s.objs.length
    · have HE : Hid (s.enq o = (s, 0, 8)) := by unfold Hid LS.enq; rw [if_neg h1, if_pos h2]
      rw [HE.out]
      clear hI h1
      go_enter Try.func53, Try.ntmps53
      go_wp2
      go_ret2
      exact ⟨rfl, LndAt.grows (show LndAt w P s F from ⟨ao, co, D, HI.out⟩) w, Touch.refl _ _⟩
    · have HE : Hid (s.enq o = (({ s with objs := s.objs ++ [o], ow := fun i j => if i = s.objs.length then 0 else s.ow i j, tu := fun i j => if i = s.objs.length then 0 else s.tu i j } : LS), (s.objs.length : Int), (0 : Int))) := by unfold Hid LS.enq; rw [if_neg h1, if_neg h2]
      rw [HE.out]
      have HBL := fun W => layBlocks s.n o.size W hs.nok (by omega)
      have hB := blocks_le s.n hs.nok o.size ho2
      obtain ⟨i0, hi, hz0, hz1, hz2⟩ := info_parts3 infoQ
      obtain ⟨i1, ki, kz0, kz1, kz2⟩ := info_parts3 infoDt
      obtain ⟨L, hL⟩ : ∃ L, L = s.objs.length := ⟨_, rfl⟩
      have HL : Hid (L = s.objs.length) := hL
      have hL7 : L ≤ 7 := by omega
      rw [← hL] at c3 ⊢
      simp only [nmV] at HBL
      obtain ⟨Bn, hBn⟩ : ∃ Bn, Bn = s.n.blocks o.size := ⟨_, rfl⟩
      rw [← hBn] at HBL hB
      have HBn : Hid (Bn = s.n.blocks o.size) := hBn
      have hmk : ∀ W : World, (Instr.makeSlice 125 (.int .i64 (Bn : Int)) (.int .i64 (Bn : Int))).run Try.prog W = .ok (.slice (some ⟨W.heap.size, 0, none⟩) Bn Bn) (W.alloc (.cells (madeCells #[.int .i64 0, .int .i64 0] (Bn * 2)) 130)) := fun W => by
        have hr := run_make (P := Try.prog) W 125 130 i1 _ Try.underlying125 ki kz0 .i64 .i64 Bn Bn (by omega) (Int.le_refl _) (by rw [kz2]; omega) (by omega)
        simp only [Int.toNat_natCast, kz1] at hr
        exact hr
      have OB : Hid (w.ownsRow 0 127 2 (.slice ao L co) L (qvs s.n s.objs D 0)) := by unfold Hid; rw [hL]; exact hI.ob
      clear hI h1 h2 hs hL hlen c4 c5 c6 hBn
      go_enter Try.func53, Try.ntmps53
      go_wp2_with fail
      refine (HBL _).mono ?_
      rintro e w1 ⟨rfl, hb1⟩
      have HI1 := HI.out.below hb1
      have OB1 : Hid (w1.ownsRow 0 127 2 (.slice ao L co) L (qvs s.n s.objs D 0)) := Ms.owns_below OB.out hb1
      clear c0 c1 c2 c3
      obtain ⟨c0, c1, c2, c3, c4, c5, c6⟩ := HI1.cells
      have f3 := HI1.row.frozen 3
      have hPl := HI1.row.lt
      rw [← HL.out] at c3
      have HI1' : Hid (LI w1 P s F ao co D) := HI1
      have HB1 : Hid (Below w.heap.size w w1) := hb1
      clear HI1 hb1 HBL OB c0 c1 c2 c4 c5 c6
      have BW : Hid (∀ v, Below w1.heap.size w1 ((w1.alloc (.cells (madeCells #[.int .i64 0, .int .i64 0] (Bn * 2)) 130)).alloc v).drew) := fun v => (((Below.refl _ _).alloc (Nat.le_refl _) _).alloc (by simp) _).drew
      have RW : Hid (∀ v, ((w1.alloc (.cells (madeCells #[.int .i64 0, .int .i64 0] (Bn * 2)) 130)).alloc v).drew.rowIs w1.heap.size 130 (Bn * 2) (fun _ => .int .i64 0)) := fun v => (made2_row w1 Bn 130).alloc v
      go_wp2_with fail
      refine wp_region_any (by kernel_rfl) ?_
      change wpAny _ _ _ _ _ _ _ (World.drew _)
      have BW2 := BW.out (.cells #[.string o, .slice (some ⟨w1.heap.size, 0, none⟩) Bn Bn] 127)
      have RW2 := RW.out (.cells #[.string o, .slice (some ⟨w1.heap.size, 0, none⟩) Bn Bn] 127)
      have t0 : ((w1.alloc (.cells (madeCells #[.int .i64 0, .int .i64 0] (Bn * 2)) 130)).alloc (.cells #[.string o, .slice (some ⟨w1.heap.size, 0, none⟩) Bn Bn] 127)).drew.cell? ⟨w1.heap.size + 1, 0, none⟩ = some (.string o) := cell_new (by simp) rfl
      have t1 : ((w1.alloc (.cells (madeCells #[.int .i64 0, .int .i64 0] (Bn * 2)) 130)).alloc (.cells #[.string o, .slice (some ⟨w1.heap.size, 0, none⟩) Bn Bn] 127)).drew.cell? ⟨w1.heap.size + 1, 1, none⟩ = some (.slice (some ⟨w1.heap.size, 0, none⟩) Bn Bn) := cell_new (by simp) rfl
      have tz : ((w1.alloc (.cells (madeCells #[.int .i64 0, .int .i64 0] (Bn * 2)) 130)).alloc (.cells #[.string o, .slice (some ⟨w1.heap.size, 0, none⟩) Bn Bn] 127)).drew.heap.size = w1.heap.size + 2 := by simp [World.drew]
      obtain ⟨W, hWd⟩ : ∃ W, W = ((w1.alloc (.cells (madeCells #[.int .i64 0, .int .i64 0] (Bn * 2)) 130)).alloc (.cells #[.string o, .slice (some ⟨w1.heap.size, 0, none⟩) Bn Bn] 127)).drew := ⟨_, rfl⟩
      rw [← hWd] at BW2 RW2 t0 t1 tz
      simp only [← hWd]
      clear hWd
      have HIW := HI1'.out.below BW2
      have c3W : W.cell? ⟨P, 3, none⟩ = some (.slice ao L co) := by have := HIW.cells.2.2.2.1; rw [← HL.out] at this; exact this
      have OBW : Hid (W.ownsRow 0 127 2 (.slice ao L co) L (qvs s.n s.objs D 0)) := Ms.owns_below OB1.out BW2
      have HBW : Hid (Below w1.heap.size w1 W) := BW2
      have HRW : Hid (W.rowIs w1.heap.size 130 (Bn * 2) (fun _ => .int .i64 0)) := RW2
      have hPW : P < W.heap.size := HIW.row.lt
      clear HIW BW2 RW2 BW RW c3 f3 OB1
      generalize hXS : qvs s.n s.objs D 0 = XS at *
      have HXS : Hid (qvs s.n s.objs D 0 = XS) := hXS
      clear hXS
      have c3q : (W.alloc (.cells #[.string o, .slice (some ⟨w1.heap.size, 0, none⟩) Bn Bn] 127)).cell? ⟨P, 3, none⟩ = some (.slice ao L co) := cell_old hPW c3W
      have t0q : (W.alloc (.cells #[.string o, .slice (some ⟨w1.heap.size, 0, none⟩) Bn Bn] 127)).cell? ⟨w1.heap.size + 1, 0, none⟩ = some (.string o) := cell_old (by omega) t0
      have t1q : (W.alloc (.cells #[.string o, .slice (some ⟨w1.heap.size, 0, none⟩) Bn Bn] 127)).cell? ⟨w1.heap.size + 1, 1, none⟩ = some (.slice (some ⟨w1.heap.size, 0, none⟩) Bn Bn) := cell_old (by omega) t1
      clear tz
      refine wpAny_take (i := 0) (v := .pointer (some ⟨P, 0, none⟩)) rfl (by kernel_rfl) (by kernel_rfl) (by kernel_rfl) (fun _ _ _ h => h) (Or.inl ⟨by rfl, by intro w; go_simp⟩) ?_
      refine wpAny_take (i := 1) (v := .pointer (some ⟨P, 0, none⟩)) rfl (by kernel_rfl) (by kernel_rfl) (by kernel_rfl) (fun _ _ _ h => h) (Or.inl ⟨by rfl, by intro w; go_simp⟩) ?_
      refine wpAny_take (i := 2) (v := .pointer (some ⟨P, 0, none⟩)) rfl (by kernel_rfl) (by kernel_rfl) (by kernel_rfl) (fun _ _ _ h => h) (Or.inl ⟨by rfl, by intro w; go_simp⟩) ?_
      refine wpAny_take (i := 3) (v := .pointer (some ⟨P, 3, none⟩)) rfl (by kernel_rfl) (by kernel_rfl) (by kernel_rfl) (fun _ _ _ h => h) (Or.inl ⟨by rfl, by intro w; go_simp⟩) ?_
      refine wpAny_ready (rs := [4, 5]) (by kernel_rfl) (by simp) ?_
      refine AllReady.cons rfl (fun K hK => ?ord1) (AllReady.cons rfl (fun K hK => ?ord2) AllReady.nil)
      case' ord1 =>
        go_simp
        refine hK _ _ ?_
        clear hK K
        refine wpAny_ready (rs := [5]) (by kernel_rfl) (by simp) ?_
        refine AllReady.cons rfl (fun K hK => ?_) AllReady.nil
        go_simp
        refine hK _ _ ?_
        clear hK K
        refine wpAny_ready (rs := [6]) (by kernel_rfl) (by simp) ?_
        refine AllReady.cons rfl (fun K hK => ?_) AllReady.nil
        go_simp
        refine hK _ _ ?_
        clear hK K
      case' ord2 =>
        go_simp
        refine hK _ _ ?_
        clear hK K
        refine wpAny_ready (rs := [4, 6]) (by kernel_rfl) (by simp) ?_
        refine AllReady.cons rfl (fun K hK => ?ord3) (AllReady.cons rfl (fun K hK => ?ord4) AllReady.nil)
        case' ord3 =>
          go_simp
          refine hK _ _ ?_
          clear hK K
          refine wpAny_ready (rs := [6]) (by kernel_rfl) (by simp) ?_
          refine AllReady.cons rfl (fun K hK => ?_) AllReady.nil
          go_simp
          refine hK _ _ ?_
          clear hK K
        case' ord4 =>
          go_simp
          refine hK _ _ ?_
          clear hK K
          refine wpAny_ready (rs := [4]) (by kernel_rfl) (by simp) ?_
          refine AllReady.cons rfl (fun K hK => ?_) AllReady.nil
          go_simp
          refine hK _ _ ?_
          clear hK K
      all_goals
        refine wpAny_ready (rs := [7]) (by kernel_rfl) (by simp) ?_
        refine AllReady.cons rfl (fun K hK => ?_) AllReady.nil
        refine step_append_at rfl (.tmp 39) (.tmp 41) 83 rfl 0 127 i0 (.agg #[.string ⟨#[]⟩, .slice none 0 0]) 2 40 Try.underlying83 hi hz0 hz1 hz2 rfl (by decide) (.slice ao L co) L XS rfl (OBW.out.alloc (.cells #[.string o, .slice (some ⟨w1.heap.size, 0, none⟩) Bn Bn] 127)) ⟨W.heap.size, 0, none⟩ 1 1 [.string o, .slice (some ⟨w1.heap.size, 0, none⟩) Bn Bn] rfl rfl news2 (by intro u hu; simp at hu; rcases hu with rfl | rfl <;> rfl) (by unfold maxLen; omega) (by omega) (Nat.zero_le _) ?_
        intro v' w2 hown' hgrow hat
        obtain ⟨ao2, co2, rfl⟩ := owns_form hown'
        rw [← HXS.out] at hown'
        have hW1 := HBW.out.size
        have hgs := hgrow.size
        have LN := LI.enq (G := grow F w (w2.setCell ⟨P, 3, none⟩ (.slice ao2 (L + 1) co2))) HI1'.out HBW.out HL.out HBn.out HRW.out hown' hgrow hat (fun b hb => .inl hb) (fun b h1 h2 => .inr ⟨by have := HB1.out.size; omega, by simp; exact h2⟩)
        have TC : Touch w (w2.setCell ⟨P, 3, none⟩ (.slice ao2 (L + 1) co2)) F := by
          have TB : Touch w w1 F := (Touch.refl w F).below HB1.out
          refine ⟨hgrow.os.trans (HBW.out.os.trans TB.os), hgrow.tape.trans (HBW.out.tape.trans TB.tape), hgrow.output.trans (HBW.out.output.trans TB.output), by have := TB.size; simp at hgs ⊢; omega, fun b hb hF => ?_⟩
          have hbP : b ≠ P := fun e => hF (e ▸ HI1'.out.fP)
          rw [heap_setCell_other _ _ _ _ hbP, hgrow.block b (by have := TB.size; simp; omega) (fun e => ?_), Below.heap_alloc W _ b (by have := TB.size; omega), HBW.out.block b (by have := TB.size; omega), TB.block b hb hF]
          exact hF (HI1'.out.fo b (by rw [← HL.out]; exact e.symm))
        have HLN : Hid (LI (w2.setCell ⟨P, 3, none⟩ (.slice ao2 (L + 1) co2)) P ⟨s.n, s.objs ++ [o], fun i j => if i = L then 0 else s.ow i j, fun i j => if i = L then 0 else s.tu i j, s.no, s.nb, s.nn⟩ (grow F w (w2.setCell ⟨P, 3, none⟩ (.slice ao2 (L + 1) co2))) ao2 co2 (fun i => if i = L then w1.heap.size else D i)) := LN
        have HTC : Hid (Touch w (w2.setCell ⟨P, 3, none⟩ (.slice ao2 (L + 1) co2)) F) := TC
        have R1 : w2.rowIs P 89 7 (lRow s.n (.slice ao s.objs.length co) s.no s.nb s.nn) := by
          have h := HI1'.out
          refine h.row.of_block (((hgrow.block P (by simp; omega) (fun e => ?_)).trans (Below.heap_alloc W _ P hPW)).trans (HBW.out.block P hPl))
          exact h.op (by rw [← HL.out]; exact e.symm)
        have c3' : w2.cell? ⟨P, 3, none⟩ = some (.slice ao s.objs.length co) := R1.cell (by decide)
        have f3' := R1.frozen 3
        clear LN TC R1 hgs hW1 hgrow hown' hat OBW HBW HRW c3q c3W t0 t1 t0q t1q HI1' HB1
        refine hK _ _ ?_
        clear hK K
        refine wpAny_take (i := 8) (v := .pointer (some ⟨P, 0, none⟩)) rfl (by kernel_rfl) (by kernel_rfl) (by kernel_rfl) (fun _ _ _ h => h) (Or.inl ⟨by rfl, by intro w; go_simp⟩) ?_
        refine wpAny_take (i := 9) (v := .pointer (some ⟨P, 3, none⟩)) rfl (by kernel_rfl) (by kernel_rfl) (by kernel_rfl) (fun _ _ _ h => h) (Or.inl ⟨by rfl, by intro w; go_simp⟩) ?_
        refine wpAny_ready (rs := [10]) (by kernel_rfl) (by simp) ?_
        refine AllReady.cons rfl (fun K hK => ?_) AllReady.nil
        go_simp
        refine hK _ _ ?_
        clear hK K
        refine wpAny_done (by kernel_rfl) ?_ _
        go_wp2
        go_ret2
        have e := HLN.out
        rw [HL.out] at e HTC ⊢
        exact ⟨rfl, ⟨ao2, co2, _, e⟩, HTC.out⟩
end Sn
end Go.Proofs.Ytkgnmcekeeannab
