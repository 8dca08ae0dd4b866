import Derived.Test.YtkgnmcekeeannabW45
/-
  A trip: how many blocks and symbols all objects have; which numbers fit.
-/
namespace Go.Proofs.Ytkgnmcekeeannab
open Go.RowKit Go.Deep
namespace Sn
open Bs
open Ms (txt text M It Tells)
set_option linter.unusedVariables false

theorem total_app (n : Nm) (l : List ByteArray) (o : ByteArray) : total n (l ++ [o]) = total n l + n.all o.size := by
  induction l with
  | nil => simp [total]
  | cons x l ih => simp only [List.cons_append, total, ih]; omega
theorem total_le {n : Nm} (hn : n.ok) : ∀ (l : List ByteArray), (∀ o ∈ l, 1 ≤ o.size ∧ o.size ≤ 256) → total n l ≤ 256 * l.length ∧ totalB n l ≤ 256 * l.length
  | [], _ => by simp [total, totalB]
  | o :: l, h => by
    have h1 := h o (by simp)
    have ih := total_le hn l (fun x hx => h x (by simp [hx]))
    have ha := all_le n hn o.size h1.2
    have hb := blocks_le n hn o.size h1.2
    simp only [total, totalB, List.length_cons]
    omega
section
variable {B : Nat → Prop} {w0 w : World} {Q P R : Nat} {s : St} {r : Rt} {on bk : List ByteArray} {c : Nat}
set_option maxRecDepth 100000 in
set_option maxHeartbeats 4000000 in
theorem tripBlocks (h : TJ B w0 w Q P R s r on bk c) :
    Calls Try.prog 11 #[.pointer (some ⟨Q, 0, none⟩), .agg #[.int .i64 s.n.size, .int .i64 s.n.block, .int .i64 s.n.spare]] w fun e w' => e = .returned (.tuple #[.int .i64 (totalB s.n s.objs : Nat), .int .i64 (total s.n s.objs : Nat)]) ∧ Below w.heap.size w w' := by
  have H1 := h.above ((Below.refl _ _).alloc (Nat.le_refl _) (.cells #[.int .i64 s.n.size, .int .i64 s.n.block, .int .i64 s.n.spare] 33))
  obtain ⟨C, S, v2, v4, v5, l, hM, hT, hI⟩ := H1
  have o0 : (w.alloc (.cells #[.int .i64 s.n.size, .int .i64 s.n.block, .int .i64 s.n.spare] 33)).cell? ⟨w.heap.size, 0, none⟩ = some (.int .i64 s.n.size) := cell_new rfl rfl
  have o1 : (w.alloc (.cells #[.int .i64 s.n.size, .int .i64 s.n.block, .int .i64 s.n.spare] 33)).cell? ⟨w.heap.size, 1, none⟩ = some (.int .i64 s.n.block) := cell_new rfl rfl
  have B0 : Below w.heap.size w (w.alloc (.cells #[.int .i64 s.n.size, .int .i64 s.n.block, .int .i64 s.n.spare] 33)) := (Below.refl _ _).alloc (Nat.le_refl _) _
  have HB0 : Hid (Below w.heap.size w (w.alloc (.cells #[.int .i64 s.n.size, .int .i64 s.n.block, .int .i64 s.n.spare] 33))) := B0
  obtain ⟨d0, d1, d2, d3, d4, d5⟩ := hM.cells
  have O2 := hM.wm.own 2 (.inl rfl)
  have et : tV P R v2 r.taken v4 v5 2 = v2 := rfl
  have e2 : txs s.objs on bk 2 = s.objs := rfl
  rw [et, e2] at O2
  obtain ⟨ax, cx, hv⟩ := owns_form O2
  rw [hv] at d2
  have hl8 := hI.sok.base.len
  have HOBJ : Hid (∀ i (hi : i < s.objs.length), ∃ g, ax = some ⟨g, 0, none⟩ ∧ (w.alloc (.cells #[.int .i64 s.n.size, .int .i64 s.n.block, .int .i64 s.n.spare] 33)).cell? ⟨g, i, none⟩ = some (.string s.objs[i])) := fun i hi => by
    obtain ⟨g, cap, hv', hgo⟩ := owns_cells O2 (by omega)
    refine ⟨g, by rw [hv] at hv'; injection hv', hgo i _ ?_⟩
    unfold strs; rw [List.getElem?_map, List.getElem?_eq_getElem hi]; rfl
  have HSZ : Hid (∀ o ∈ s.objs, 1 ≤ o.size ∧ o.size ≤ 256) := hI.sok.base.sz
  have HNK : Hid s.n.ok := hI.sok.base.nok
  obtain ⟨n1, n2, n3, n4, n5⟩ := hI.sok.base.nok
  obtain ⟨L, hL⟩ : ∃ L, L = s.objs.length := ⟨_, rfl⟩
  have HL : Hid (L = s.objs.length) := hL
  rw [← hL] at d2 hl8
  clear hM hT hI O2 hv et e2 B0 hL
  go_enter Try.func11, Try.ntmps11
  go_wp2_with fail
  go_loopw [6, 7, 8] (fun x y z wr => ∃ i : Nat, i ≤ L ∧ z = .int .i64 i ∧ x = .int .i64 (totalB s.n (s.objs.take i) : Nat) ∧ y = .int .i64 (total s.n (s.objs.take i) : Nat) ∧ Below (w.alloc (.cells #[.int .i64 s.n.size, .int .i64 s.n.block, .int .i64 s.n.spare] 33)).heap.size (w.alloc (.cells #[.int .i64 s.n.size, .int .i64 s.n.block, .int .i64 s.n.spare] 33)) wr) (fun _ _ z _ => L - (intOf z).toNat)
  case atStart => exact ⟨0, Nat.zero_le _, rfl, rfl, rfl, Below.refl _ _⟩
  case round =>
    obtain ⟨i, hi, rfl, rfl, rfl, hB⟩ := hrel
    have hnW : w.heap.size < (w.alloc (.cells #[.int .i64 s.n.size, .int .i64 s.n.block, .int .i64 s.n.spare] 33)).heap.size := by simp
    have y0 : wr.cell? ⟨w.heap.size, 0, none⟩ = some (.int .i64 s.n.size) := (hB.cell (p := ⟨w.heap.size, 0, none⟩) hnW).trans o0
    have y1 : wr.cell? ⟨w.heap.size, 1, none⟩ = some (.int .i64 s.n.block) := (hB.cell (p := ⟨w.heap.size, 1, none⟩) hnW).trans o1
    have y2 : wr.cell? ⟨Q, 2, none⟩ = some (.slice ax L cx) := (hB.cell (p := ⟨Q, 2, none⟩) (cell_lt d2)).trans d2
    have hnr : w.heap.size < wr.heap.size := by have := hB.size; omega
    have HB : Hid (Below w.heap.size w wr) := HB0.out.trans (hB.mono HB0.out.size)
    have HBr : Hid (Below (w.alloc (.cells #[.int .i64 s.n.size, .int .i64 s.n.block, .int .i64 s.n.spare] 33)).heap.size (w.alloc (.cells #[.int .i64 s.n.size, .int .i64 s.n.block, .int .i64 s.n.spare] 33)) wr) := hB
    have htl := total_le HNK.out (s.objs.take i) (fun o ho => HSZ.out o (List.mem_of_mem_take ho))
    rw [List.length_take] at htl
    by_cases hlt : i < L
    · have hi2 : i < s.objs.length := by rw [← HL.out]; exact hlt
      obtain ⟨g, rfl, hc⟩ := HOBJ.out i hi2
      have y3 : wr.cell? ⟨g, i, none⟩ = some (.string s.objs[i]) := (hB.cell (p := ⟨g, i, none⟩) (cell_lt hc)).trans hc
      have hz := HSZ.out s.objs[i] (List.getElem_mem hi2)
      have HT1 : Hid (total s.n (s.objs.take (i + 1)) = total s.n (s.objs.take i) + s.n.all s.objs[i].size) := by unfold Hid; rw [List.take_succ_eq_append_getElem hi2, total_app]
      have HT2 : Hid (totalB s.n (s.objs.take (i + 1)) = totalB s.n (s.objs.take i) + s.n.blocks s.objs[i].size) := by unfold Hid; rw [List.take_succ_eq_append_getElem hi2, totalB_app]
      have hal := all_le s.n HNK.out s.objs[i].size hz.2
      have hbl := blocks_le s.n HNK.out s.objs[i].size hz.2
      obtain ⟨A, hA⟩ : ∃ A, A = s.n.all s.objs[i].size := ⟨_, rfl⟩
      obtain ⟨K, hK⟩ : ∃ K, K = s.n.blocks s.objs[i].size := ⟨_, rfl⟩
      have hq1 : ((s.objs[i].size : Int) + (s.n.size : Int) - 1) / (s.n.size : Int) = (A : Int) := by
        rw [hA]
        unfold Nm.all
        rw [Int.natCast_ediv]
        congr 1
        omega
      have hq2 : ((A : Int) + (s.n.block : Int) - 1) / (s.n.block : Int) = (K : Int) := by
        rw [hK]
        unfold Nm.blocks
        rw [← hA, Int.natCast_ediv]
        congr 1
        omega
      rw [← hA] at HT1 hal
      rw [← hK] at HT2 hbl
      clear hA hK hc hB
      generalize s.objs[i] = O at *
      generalize total s.n (s.objs.take i) = t1 at *
      generalize totalB s.n (s.objs.take i) = t2 at *
      obtain ⟨v1, hv1⟩ : ∃ v1, v1 = wr.drew := ⟨_, rfl⟩
      have z0 : v1.cell? ⟨w.heap.size, 0, none⟩ = some (.int .i64 s.n.size) := by rw [hv1]; exact y0
      have z1 : v1.cell? ⟨w.heap.size, 1, none⟩ = some (.int .i64 s.n.block) := by rw [hv1]; exact y1
      have z2 : v1.cell? ⟨Q, 2, none⟩ = some (.slice (some ⟨g, 0, none⟩) L cx) := by rw [hv1]; exact y2
      have z3 : v1.cell? ⟨g, i, none⟩ = some (.string O) := by rw [hv1]; exact y3
      have HBv : Hid (Below (w.alloc (.cells #[.int .i64 s.n.size, .int .i64 s.n.block, .int .i64 s.n.spare] 33)).heap.size (w.alloc (.cells #[.int .i64 s.n.size, .int .i64 s.n.block, .int .i64 s.n.spare] 33)) v1) := by rw [hv1]; exact HBr.out.drew
      go_wp2_with fail
      (refine wp_region_still_tail 14 (by kernel_rfl) (by kernel_rfl) ?_; change wpStill _ _ (World.drew _) (fun a' => wpList _ _ _ _ a' (World.drew _)) _ _; simp only [← hv1]; clear hv1; simp only [List.take_succ_cons, List.take_zero, List.drop_succ_cons, List.drop_zero]; (repeat still_step); refine wpStill_nil ?_)
      clear y0 y1 y2 y3 HBr
      go_wp2
      go_roundw
      case rel =>
        refine ⟨i + 1, by omega, by go_num, ?_, ?_, HBv.out⟩
        · rw [HT2.out]; go_num
        · rw [HT1.out]; go_num
      case measure => simp [intOf]; omega
    · obtain rfl : i = L := by omega
      have eT : s.objs.take i = s.objs := List.take_of_length_le (by rw [HL.out]; exact Nat.le_refl _)
      rw [eT]
      clear hlt eT htl hB
      go_wp2
      go_ret2
      exact ⟨rfl, HB.out⟩
end
def fitsB (a b c : Int) : Bool := decide (rightE a b c = 0)
theorem fits_iff (a b c : Int) : rightE a b c = 0 ↔ (1 ≤ a ∧ a ≤ 16) ∧ (1 ≤ b ∧ b ≤ 8) ∧ 0 ≤ c ∧ c ≤ 8 := by
  unfold rightE
  by_cases h1 : a < 1 ∨ 16 < a
  · rw [if_pos h1]
    constructor
    · intro h; exact absurd h (by decide)
    · intro h; omega
  · rw [if_neg h1]
    by_cases h2 : b < 1 ∨ 8 < b
    · rw [if_pos h2]
      constructor
      · intro h; exact absurd h (by decide)
      · intro h; omega
    · rw [if_neg h2]
      by_cases h3 : c < 0 ∨ 8 < c
      · rw [if_pos h3]
        constructor
        · intro h; exact absurd h (by decide)
        · intro h; omega
      · rw [if_neg h3]
        constructor
        · intro _; omega
        · intro _; rfl
set_option maxRecDepth 100000 in
set_option maxHeartbeats 4000000 in
theorem tripFits (a b c : Int) (w : World) : Calls Try.prog 32 #[.agg #[.int .i64 a, .int .i64 b, .int .i64 c]] w fun e w' => e = .returned (.bool (fitsB a b c)) ∧ Below w.heap.size w w' := by
  have HF : Hid (rightE a b c = 0 ↔ (1 ≤ a ∧ a ≤ 16) ∧ (1 ≤ b ∧ b ≤ 8) ∧ 0 ≤ c ∧ c ≤ 8) := fits_iff a b c
  have HB0 : Hid (Below w.heap.size w (w.alloc (.cells #[.int .i64 a, .int .i64 b, .int .i64 c] 33))) := (Below.refl _ _).alloc (Nat.le_refl _) _
  go_enter Try.func32, Try.ntmps32
  go_wp2
  all_goals
    go_ret
    refine ⟨congrArg (fun x => Ending.returned (Value.bool x)) ?_, HB0.out⟩
    have h := HF.out
    unfold fitsB
    first
      | exact (decide_eq_true (h.2 (by omega))).symm
      | exact (decide_eq_false (fun q => by have := h.1 q; omega)).symm
      | exact decide_eq_decide.2 ⟨fun q => h.2 (by omega), fun q => by have := h.1 q; omega⟩
end Sn
end Go.Proofs.Ytkgnmcekeeannab
/-
  A trip begins: awake.
-/
namespace Go.Proofs.Ytkgnmcekeeannab
open Go.RowKit Go.Deep
namespace Sn
open Bs
open Ms (txt text M It Tells)
set_option linter.unusedVariables false

theorem rightOk {n : Nm} (h : n.ok) : rightE n.size n.block n.spare = 0 := by
  obtain ⟨h1, h2, h3, h4, h5⟩ := h
  unfold rightE
  rw [if_neg (by omega), if_neg (by omega), if_neg (by omega)]
theorem sameNm {n m : Nm} (h1 : (n.size : Int) = m.size) (h2 : (n.block : Int) = m.block) (h3 : (n.spare : Int) = m.spare) : n = m := by
  cases n; cases m
  simp only [Nm.mk.injEq] at *
  omega
theorem makeS (n : Nm) (hn : n.ok) (W : World) : Calls Try.prog 33 #[.int .i64 n.size, .int .i64 n.block, .int .i64 n.spare] W fun e w' => ∃ P, e = .returned (.tuple #[.pointer (some ⟨P, 0, none⟩), .int .i64 0]) ∧ LndAt w' P (LS.fresh n) (fun x => W.heap.size ≤ x ∧ x < w'.heap.size) ∧ Below W.heap.size W w' := by
  refine (lanNewSender n.size n.block n.spare W).mono ?_
  rintro e w' ⟨ho, hb⟩
  rcases ho with ⟨h, _⟩ | ⟨m, P, hm, e1, e2, e3, rfl, hl⟩
  · exact absurd (rightOk hn) h
  · rw [← sameNm e1 e2 e3] at hl
    exact ⟨P, rfl, hl, hb⟩
theorem makeR (n : Nm) (hn : n.ok) (W : World) : Calls Try.prog 18 #[.int .i64 n.size, .int .i64 n.block, .int .i64 n.spare] W fun e w' => ∃ P, e = .returned (.tuple #[.pointer (some ⟨P, 0, none⟩), .int .i64 0]) ∧ LRcvAt w' P (Rt.fresh n) (fun x => W.heap.size ≤ x ∧ x < w'.heap.size) ∧ Below W.heap.size W w' := by
  refine (lanNewReceiver n.size n.block n.spare W).mono ?_
  rintro e w' ⟨ho, hb⟩
  rcases ho with ⟨h, _⟩ | ⟨m, P, hm, e1, e2, e3, rfl, hl⟩
  · exact absurd (rightOk hn) h
  · rw [← sameNm e1 e2 e3] at hl
    exact ⟨P, rfl, hl, hb⟩
/-- a sender and a receiver in memory -/
structure Pr (B : Nat) (w0 w : World) (C : Nat → Nat) (P R : Nat) (l : LS) (r : Rt) : Prop where
  sl : LndAt w P l (fun b => C b = 1)
  rl : LRcvAt w R r (fun b => C b = 2)
  bel : Below B w0 w
  low : ∀ b, b < B → C b = 0
  room : B ≤ w.heap.size
section
variable {B : Nat} {w0 w w1 : World} {C : Nat → Nat} {P R : Nat} {l : LS} {r : Rt}
theorem Pr.send {l1 : LS} (h : Pr B w0 w C P R l r) (t : Touch w w1 (fun b => C b = 1)) (hl : LndAt w1 P l1 (grow (fun b => C b = 1) w w1)) : Pr B w0 w1 (paint C 1 w.heap.size) P R l1 r :=
  ⟨hl.mono (fun b hb _ => paint_grow hb), stay_t (by omega) h.rl t, below_touch h.bel h.low t (by omega) h.room, keep_low h.low h.room _, by have := h.room; have := t.size; omega⟩
theorem Pr.recv {r1 : Rt} (h : Pr B w0 w C P R l r) (t : Touch w w1 (fun b => C b = 2)) (hl : LRcvAt w1 R r1 (grow (fun b => C b = 2) w w1)) : Pr B w0 w1 (paint C 2 w.heap.size) P R l r1 :=
  ⟨stay_l (by omega) h.sl t, hl.mono (fun b hb _ => paint_grow hb), below_touch h.bel h.low t (by omega) h.room, keep_low h.low h.room _, by have := h.room; have := t.size; omega⟩
theorem Pr.above (h : Pr B w0 w C P R l r) (hb : Below w.heap.size w w1) : Pr B w0 w1 (fun b => if w.heap.size ≤ b then 0 else C b) P R l r := by
  have t : ∀ F : Nat → Prop, Touch w w1 F := fun F => Touch.of_below hb
  have old : ∀ j b, C b = j → b < w.heap.size → (if w.heap.size ≤ b then 0 else C b) = j := fun j b h1 h2 => by rw [if_neg (by omega)]; exact h1
  exact ⟨h.sl.stay (t (fun _ => False)) (fun _ _ h => h) (old _), h.rl.stay (t (fun _ => False)) (fun _ _ h => h) (old _), h.bel.trans (hb.mono h.room), fun b hb' => by rw [if_neg (by have := h.room; omega)]; exact h.low b hb', by have := h.room; have := hb.size; omega⟩
theorem Pr.make {w2 : World} {n : Nm} (hb1 : Below w.heap.size w w1) (hl : LndAt w1 P (LS.fresh n) (fun x => w.heap.size ≤ x ∧ x < w1.heap.size)) (hb2 : Below w1.heap.size w1 w2) (hr : LRcvAt w2 R (Rt.fresh n) (fun x => w1.heap.size ≤ x ∧ x < w2.heap.size)) :
    Pr w.heap.size w w2 (fun b => if w1.heap.size ≤ b then 2 else if w.heap.size ≤ b then 1 else 0) P R (LS.fresh n) (Rt.fresh n) := by
  have z1 := hb1.size
  have z2 := hb2.size
  refine ⟨hl.stay (Touch.of_below hb2 : Touch w1 w2 (fun _ => False)) (fun _ _ h => h) (fun b h1 h2 => ?_), hr.mono (fun b h1 _ => ?_), hb1.trans (hb2.mono z1), fun b hb => ?_, by omega⟩
  · show (if w1.heap.size ≤ b then 2 else if w.heap.size ≤ b then 1 else 0) = 1
    rw [if_neg (by omega), if_pos h1.1]
  · show (if w1.heap.size ≤ b then 2 else if w.heap.size ≤ b then 1 else 0) = 2
    rw [if_pos h1.1]
  · show (if w1.heap.size ≤ b then 2 else if w.heap.size ≤ b then 1 else 0) = 0
    rw [if_neg (by omega), if_neg (by omega)]
end
/-! ### the small object -/
def nA : Nm := ⟨1, 2, 1⟩
def xyB : ByteArray := ⟨#[120, 121]⟩
def sA1 : St := ⟨nA, [xyB], [⟨0, 0, 0, 0⟩], 0⟩
def sA2 : St := ⟨nA, [xyB], [⟨0, 0, 0, 0⟩], 1⟩
def sA3 : St := ⟨nA, [xyB], [⟨0, 0, 0, 0⟩], 2⟩
def sA4 : St := ⟨nA, [xyB], [⟨0, 0, 1, 0⟩], 2⟩
def mA (k : Nat) : M := dataM nA xyB 0 0 k
def rA1 : Rt := ⟨nA, [mA 0], 1, 0⟩
def rA2 : Rt := ⟨nA, [mA 0, mA 2], 1, 0⟩
theorem nA_ok : nA.ok := ⟨by decide, by decide, by decide, by decide, by decide⟩
theorem sA_enq : enq (St.fresh nA) xyB = (sA1, 0, 0) := by rfl
theorem sA_nxt1 : (nxt sA1).1 = sA2 ∧ nxtM sA1 = mA 0 := ⟨by rfl, by rfl⟩
theorem sA_nxt2 : (nxt sA2).1 = sA3 := by rfl
theorem sA_ask : sA3.asked [⟨0, 0, 1⟩] = sA4 := by rfl
theorem sA_nxt4 : nxtM sA4 = mA 2 := by rfl
theorem rA_items : rA1.items = [⟨0, 0, 1⟩] := by rfl
theorem rA_lacks : rA2.lacks 0 = [] := by rfl
end Sn
end Go.Proofs.Ytkgnmcekeeannab
/-
  A trip begins: awake, walked.
-/
namespace Go.Proofs.Ytkgnmcekeeannab
open Go.RowKit Go.Deep
namespace Sn
open Bs
open Ms (txt text M It Tells)
set_option linter.unusedVariables false

theorem rA_hear1 : (Rt.fresh nA).hear (mA 0) = (rA1, 0) := by rfl
theorem rA_hear2 : rA1.hear (mA 2) = (rA2, 0) := by rfl
theorem aT1 : TI sA1 (Rt.fresh nA) [] [] 1 := by
  have h := (TI.new nA_ok).enq xyB
  rw [sA_enq] at h
  exact h
theorem aT2 : TI sA2 (Rt.fresh nA) [] [] 2 := by
  have h := (aT1.nxt).less (on' := []) (bk' := []) (fun t ht => by cases ht) (fun t ht => by cases ht)
  rw [sA_nxt1.1] at h
  exact h
theorem aT3 : TI sA3 (Rt.fresh nA) [] [] 3 := by
  have h := (aT2.nxt).less (on' := []) (bk' := []) (fun t ht => by cases ht) (fun t ht => by cases ht)
  rw [sA_nxt2] at h
  exact h
theorem aH0 : Honest nA [xyB] (mA 0) := by
  have h := nxtM_honest aT1.sok
  rw [sA_nxt1.2] at h
  exact h
theorem aT4 : TI sA3 rA1 [] [] 4 := by
  have h := (aT3.hear (m := mA 0) aH0 (by omega)).2
  rw [rA_hear1] at h
  exact h
theorem aT5 : TI sA4 rA1 [] [] 5 := by
  have h := aT4.asked [⟨0, 0, 1⟩]
  rw [sA_ask] at h
  exact h
theorem aH2 : Honest nA [xyB] (mA 2) := by
  have h := nxtM_honest aT5.sok
  rw [sA_nxt4] at h
  exact h
theorem aT6 : TI (nxt sA4).1 rA1 [] [] 6 := (aT5.nxt).less (on' := []) (bk' := []) (fun t ht => by cases ht) (fun t ht => by cases ht)
theorem aT7 : TI (nxt sA4).1 rA2 [] [] 7 := by
  have h := (aT6.hear (m := mA 2) (by rw [(nxt_same sA4).1, (nxt_same sA4).2]; exact aH2) (by omega)).2
  rw [rA_hear2] at h
  exact h
theorem aTake : rA2.take.2.2 = true ∧ rA2.take.2.1 = xyB := by
  have h : rA2.take.2.2 = true := by
    unfold Rt.take
    rw [if_neg]
    rintro (q | q)
    · exact absurd q (by decide)
    · exact q rA_lacks
  refine ⟨h, ?_⟩
  have q := (aT7.hon.take (aT7.rok.ok (by omega)) h).2.1
  rw [(nxt_same sA4).2] at q
  exact q
theorem aReq : ∃ m, Ms.ok m ∧ m.kind = 2 ∧ m.items = [⟨0, 0, 1⟩] ∧ rA1.request = txt (text m) := by
  have h := (aT4.request (by omega)).bks rA1.request (by simp)
  rcases h with h | ⟨m, h1, h2, h3⟩
  · exact absurd (request_empty.1 h) (by rw [rA_items]; simp)
  · refine ⟨reqM (rA1.items.take 8), ?_, rfl, by rw [rA_items]; rfl, ?_⟩
    · refine .inr (.inl ⟨rfl, ⟨rfl, rfl, rfl, rfl, rfl⟩, rfl, by rw [rA_items]; decide, by rw [rA_items]; decide, fun t ht => items_ok rA1 (aT4.rok.ok (by omega)) t (List.mem_of_mem_take ht)⟩)
    · unfold Rt.request; rw [if_neg (by rw [rA_items]; simp)]
set_option maxRecDepth 100000 in
set_option maxHeartbeats 4000000 in
theorem tripAwake (w : World) : Calls Try.prog 31 #[] w fun e w' => e = .returned (.bool true) ∧ Below w.heap.size w w' := by
  have H1 : ∀ W, Calls Try.prog 33 #[.int .i64 1, .int .i64 2, .int .i64 1] W fun e w' => ∃ P, e = .returned (.tuple #[.pointer (some ⟨P, 0, none⟩), .int .i64 0]) ∧ LndAt w' P (LS.fresh nA) (fun x => W.heap.size ≤ x ∧ x < w'.heap.size) ∧ Below W.heap.size W w' := fun W => makeS nA nA_ok W
  have H2 : ∀ W, Calls Try.prog 18 #[.int .i64 1, .int .i64 2, .int .i64 1] W fun e w' => ∃ P, e = .returned (.tuple #[.pointer (some ⟨P, 0, none⟩), .int .i64 0]) ∧ LRcvAt w' P (Rt.fresh nA) (fun x => W.heap.size ≤ x ∧ x < w'.heap.size) ∧ Below W.heap.size W w' := fun W => makeR nA nA_ok W
  go_enter Try.func31, Try.ntmps31
  go_wp2_with fail
  refine (H1 _).mono ?_
  rintro e w1 ⟨P, rfl, hl1, hb1⟩
  clear H1
  have HL1 : Hid (LndAt w1 P (LS.fresh nA) (fun x => w.heap.size ≤ x ∧ x < w1.heap.size)) := hl1
  have HB1 : Hid (Below w.heap.size w w1) := hb1
  clear hl1 hb1
  go_wp2_with fail
  refine (H2 _).mono ?_
  rintro e w2 ⟨R, rfl, hl2, hb2⟩
  clear H2
  have HP0 : Hid (∃ C, Pr w.heap.size w w2 C P R (LS.fresh nA) (Rt.fresh nA)) := ⟨_, Pr.make HB1.out HL1.out hb2 hl2⟩
  clear hl2 hb2 HL1 HB1
  obtain ⟨C0, p0⟩ := HP0.out
  obtain ⟨T0, hT0⟩ : ∃ T, Rel (St.fresh nA) (LS.fresh nA) T := ⟨_, Rel.new nA⟩
  have HE := rEnqueue (LS.fresh nA) xyB P (fun b => C0 b = 1) w2 (hT0.ok2 (SOkC.new nA_ok)).base (by show (2 : Nat) ≤ maxLen; unfold maxLen; omega) p0.sl
  obtain ⟨eq1, T1, hT1⟩ := hT0.enq (SOkC.new nA_ok) xyB
  rw [show ((LS.fresh nA).enq xyB).2.1 = 0 from by rw [eq1, sA_enq], show ((LS.fresh nA).enq xyB).2.2 = 0 from by rw [eq1, sA_enq]] at HE
  rw [sA_enq] at hT1
  have HR1 : Hid (Rel sA1 ((LS.fresh nA).enq xyB).1 T1) := hT1
  have HPr : Hid (Pr w.heap.size w w2 C0 P R (LS.fresh nA) (Rt.fresh nA)) := p0
  generalize ((LS.fresh nA).enq xyB).1 = l1 at *
  clear p0 HP0 hT0 hT1 eq1
  have exy : xyB = (⟨#[120, 121]⟩ : ByteArray) := rfl
  rw [exy] at HE
  clear exy
  go_wp2_with fail
  refine HE.mono ?_
  rintro e w3 ⟨rfl, hl3, t3⟩
  have HP1 : Hid (∃ C, Pr w.heap.size w w3 C P R l1 (Rt.fresh nA)) := ⟨_, HPr.out.send t3 hl3⟩
  clear HE hl3 t3 HPr
  obtain ⟨C1, p1⟩ := HP1.out
  obtain ⟨la, lc, LD, hLI⟩ := p1.sl
  have HN := rNext l1 P (fun b => C1 b = 1) la lc LD w3 (HR1.out.ok2 aT1.sok) hLI
  have HPr : Hid (Pr w.heap.size w w3 C1 P R l1 (Rt.fresh nA)) := p1
  clear p1 HP1 hLI
  go_wp2_with fail
  refine HN.mono ?_
  rintro e w4 ⟨l2, ho, hl4, t4⟩
  obtain ⟨rfl, T2, hT2⟩ := HR1.out.nxt aT1.sok ho
  rw [sA_nxt1.1] at hT2
  have HR2 : Hid (Rel sA2 l2 T2) := hT2
  have HP2 : Hid (∃ C, Pr w.heap.size w w4 C P R l2 (Rt.fresh nA)) := ⟨_, HPr.out.send t4 (LndAt.mono ⟨la, lc, LD, hl4⟩ (fun b hb _ => .inl hb))⟩
  have eA : (nxt sA1).2 = txt (text (mA 0)) := by rw [nxt_M, sA_nxt1.2]
  rw [eA]
  clear HN hl4 t4 HPr HR1 hT2 ho eA
  obtain ⟨C2, p2⟩ := HP2.out
  obtain ⟨la, lc, LD, hLI⟩ := p2.sl
  have HN := rNext l2 P (fun b => C2 b = 1) la lc LD w4 (HR2.out.ok2 aT2.sok) hLI
  have HPr : Hid (Pr w.heap.size w w4 C2 P R l2 (Rt.fresh nA)) := p2
  have hlA := (Ms.text_len (aT3.ok (m := mA 0) aH0)).2
  have hzA : (txt (text (mA 0))).size ≤ 28 := by rw [Ms.txt_size]; exact hlA
  have HTA : Hid (Tells (txt (text (mA 0))) (mA 0)) := tells_text (aT3.ok (m := mA 0) aH0)
  generalize txt (text (mA 0)) = TA at *
  clear p2 HP2 hLI hlA
  go_wp2_with fail
  refine HN.mono ?_
  rintro e w5 ⟨l3, ho, hl5, t5⟩
  obtain ⟨rfl, T3, hT3⟩ := HR2.out.nxt aT2.sok ho
  rw [sA_nxt2] at hT3
  have HR3 : Hid (Rel sA3 l3 T3) := hT3
  have HP3 : Hid (∃ C, Pr w.heap.size w w5 C P R l3 (Rt.fresh nA)) := ⟨_, HPr.out.send t5 (LndAt.mono ⟨la, lc, LD, hl5⟩ (fun b hb _ => .inl hb))⟩
  generalize (nxt sA2).2 = TB at *
  clear HN hl5 t5 HPr HR2 hT3 ho
  obtain ⟨C3, p3⟩ := HP3.out
  have HH := rHearR (Rt.fresh nA) TA R (fun b => C3 b = 2) w5 (by omega) (aT3.rok.ok (by omega)) p3.rl
  have HPr : Hid (Pr w.heap.size w w5 C3 P R l3 (Rt.fresh nA)) := p3
  clear p3 HP3
  go_wp2_with fail
  refine HH.mono ?_
  rintro e w6 ⟨ho, t6⟩
  rcases ho with ⟨m', h5, rfl, hl6⟩ | ⟨h5, _, _⟩
  rotate_left
  · exact absurd HTA.out (h5 _)
  have em : m' = mA 0 := by rw [← Ms.tells_lan h5, Ms.tells_lan HTA.out]
  subst em
  rw [rA_hear1] at hl6 ⊢
  have HP4 : Hid (∃ C, Pr w.heap.size w w6 C P R l3 rA1) := ⟨_, HPr.out.recv t6 hl6⟩
  clear HH hl6 t6 HPr h5
  obtain ⟨C4, p4⟩ := HP4.out
  have HQ := rRequestR rA1 R (fun b => C4 b = 2) w6 (aT4.rok.ok (by omega)) aT4.tw p4.rl
  have HPr : Hid (Pr w.heap.size w w6 C4 P R l3 rA1) := p4
  obtain ⟨mq, q1, q2, q3, q4⟩ := aReq
  have hzq : rA1.request.size ≤ 28 := by rw [q4, Ms.txt_size]; exact (Ms.text_len q1).2
  have HTQ : Hid (Tells rA1.request mq) := by rw [q4]; exact tells_text q1
  have HKQ : Hid (mq.kind = 2 ∧ mq.items = [⟨0, 0, 1⟩]) := ⟨q2, q3⟩
  generalize rA1.request = TQ at *
  clear p4 HP4 q1 q2 q3 q4
  go_wp2_with fail
  refine HQ.mono ?_
  rintro e w7 ⟨rfl, hb7⟩
  have HP5 : Hid (∃ C, Pr w.heap.size w w7 C P R l3 rA1) := ⟨_, HPr.out.above hb7⟩
  clear HQ hb7 HPr
  obtain ⟨C5, p5⟩ := HP5.out
  obtain ⟨la, lc, LD, hLI⟩ := p5.sl
  have HOK2 := HR3.out.ok2 aT4.sok
  have HH := rHear l3 TQ P (fun b => C5 b = 1) la lc LD w7 HOK2.base HOK2.ow8 (by omega) hLI
  have HPr : Hid (Pr w.heap.size w w7 C5 P R l3 rA1) := p5
  clear p5 HP5 hLI HOK2
  go_wp2_with fail
  refine HH.mono ?_
  rintro e w8 ⟨l4, ho, hl8, t8⟩
  rcases ho with ⟨m', h5, h6, rfl, rfl⟩ | ⟨h5, _, _⟩
  rotate_left
  · exact absurd HKQ.out.1 (h5 _ HTQ.out)
  have em : m' = mq := by rw [← Ms.tells_lan h5, Ms.tells_lan HTQ.out]
  subst em
  have HR4 : Hid (Rel sA4 (l3.anss m'.items) T3) := by
    have h := HR3.out.dues aT4.sok m'.items (by
      rcases HTQ.out.1 with h | h | h
      · rw [HKQ.out.1] at h; exact absurd h.1 (by decide)
      · exact h.2.2.2.2.2
      · rw [HKQ.out.1] at h; exact absurd h.1 (by decide))
    have e : (⟨sA3.n, sA3.objs, dues sA3 m'.items, sA3.sent⟩ : St) = sA4 := by rw [HKQ.out.2]; exact sA_ask
    rw [e] at h
    exact h
  have HP6 : Hid (∃ C, Pr w.heap.size w w8 C P R (l3.anss m'.items) rA1) := ⟨_, HPr.out.send t8 (LndAt.mono ⟨la, lc, LD, hl8⟩ (fun b hb _ => .inl hb))⟩
  generalize l3.anss m'.items = l4 at *
  clear HH hl8 t8 HPr h5 h6 HR3
  obtain ⟨C6, p6⟩ := HP6.out
  obtain ⟨la, lc, LD, hLI⟩ := p6.sl
  have HN := rNext l4 P (fun b => C6 b = 1) la lc LD w8 (HR4.out.ok2 aT5.sok) hLI
  have HPr : Hid (Pr w.heap.size w w8 C6 P R l4 rA1) := p6
  clear p6 HP6 hLI
  go_wp2_with fail
  refine HN.mono ?_
  rintro e w9 ⟨l5, ho, hl9, t9⟩
  obtain ⟨rfl, T5, hT5⟩ := HR4.out.nxt aT5.sok ho
  have HP7 : Hid (∃ C, Pr w.heap.size w w9 C P R l5 rA1) := ⟨_, HPr.out.send t9 (LndAt.mono ⟨la, lc, LD, hl9⟩ (fun b hb _ => .inl hb))⟩
  have eA : (nxt sA4).2 = txt (text (mA 2)) := by rw [nxt_M, sA_nxt4]
  rw [eA]
  have hok2 := aT3.ok (m := mA 2) aH2
  have hzC : (txt (text (mA 2))).size ≤ 28 := by rw [Ms.txt_size]; exact (Ms.text_len hok2).2
  have HTC : Hid (Tells (txt (text (mA 2))) (mA 2)) := tells_text hok2
  generalize txt (text (mA 2)) = TC at *
  clear HN hl9 t9 HPr HR4 hT5 ho eA hok2
  obtain ⟨C7, p7⟩ := HP7.out
  have HH := rHearR rA1 TC R (fun b => C7 b = 2) w9 (by omega) (aT4.rok.ok (by omega)) p7.rl
  have HPr : Hid (Pr w.heap.size w w9 C7 P R l5 rA1) := p7
  clear p7 HP7
  go_wp2_with fail
  refine HH.mono ?_
  rintro e w10 ⟨ho, t10⟩
  rcases ho with ⟨m', h5, rfl, hl10⟩ | ⟨h5, _, _⟩
  rotate_left
  · exact absurd HTC.out (h5 _)
  have em : m' = mA 2 := by rw [← Ms.tells_lan h5, Ms.tells_lan HTC.out]
  subst em
  rw [rA_hear2] at hl10 ⊢
  have HP8 : Hid (∃ C, Pr w.heap.size w w10 C P R l5 rA2) := ⟨_, HPr.out.recv t10 hl10⟩
  clear HH hl10 t10 HPr h5
  obtain ⟨C8, p8⟩ := HP8.out
  have HK := rTakeR rA2 R (fun b => C8 b = 2) w10 (aT7.rok.ok (by omega)) aT7.tw p8.rl
  rw [aTake.1, aTake.2] at HK
  have HPr : Hid (Pr w.heap.size w w10 C8 P R l5 rA2) := p8
  clear p8 HP8
  have exy : xyB = (⟨#[120, 121]⟩ : ByteArray) := rfl
  rw [exy] at HK
  clear exy
  go_wp2_with fail
  refine HK.mono ?_
  rintro e w11 ⟨rfl, hl11, t11⟩
  have HB : Hid (Below w.heap.size w w11) := (HPr.out.recv t11 hl11).bel
  clear HK hl11 t11 HPr
  go_wp2
  go_ret
  exact ⟨by simp, HB.out⟩
end Sn
end Go.Proofs.Ytkgnmcekeeannab
