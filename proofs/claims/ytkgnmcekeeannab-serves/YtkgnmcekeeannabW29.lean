import Derived.Test.YtkgnmcekeeannabW27
import Derived.Test.YtkgnmcekeeannabW28
/-
  The landed Next.
-/
namespace Go.Proofs.Ytkgnmcekeeannab
open Go.RowKit Go.Deep
namespace Sn
open Bs
open Ms (M txt text ok mV mVm WriteOut mWrite)
set_option linter.unusedVariables false

structure LOk2 (s : LS) : Prop where
  base : LOk s
  ow8 : ∀ i b, i < s.objs.length → b < s.blk i → s.ow i b ≤ 8
  tuA : ∀ i b, i < s.objs.length → b < s.blk i → s.tu i b < s.n.many (s.obj i).size b + s.n.spare
  nx : s.no < s.objs.length → s.nb < s.blk s.no ∧ s.nn < s.n.many (s.obj s.no).size s.nb
def LS.none (s : LS) : Prop := ∀ i', i' < s.objs.length → ∀ b', b' < s.blk i' → s.ow i' b' = 0
def LS.first (s : LS) (i b : Nat) : Prop := i < s.objs.length ∧ b < s.blk i ∧ 0 < s.ow i b ∧ (∀ b', b' < b → s.ow i b' = 0) ∧ (∀ i', i' < i → ∀ b', b' < s.blk i' → s.ow i' b' = 0)
/-- what Next answers and leaves -/
def NextOut (s s' : LS) (e : Ending) : Prop :=
  (∃ i b, s.first i b ∧ s' = s.paid i b ∧ e = .returned (.string (txt (text (dataM s.n (s.obj i) i b (s.payNum i b)))))) ∨
  (s.none ∧ s.no < s.objs.length ∧ s' = s.step ∧ e = .returned (.string (txt (text (dataM s.n (s.obj s.no) s.no s.nb s.nn))))) ∨
  (s.none ∧ s.objs.length ≤ s.no ∧ s' = s ∧ e = .returned (.string (txt (text (endM s.objs.length)))))
theorem paid_ok {s : LS} (h : LOk s) (i b : Nat) : LOk (s.paid i b) := ⟨h.nok, h.len, h.sz⟩
theorem step_eqs (s : LS) : s.step.n = s.n ∧ s.step.objs = s.objs ∧ s.step.ow = s.ow ∧ s.step.tu = s.tu := by
  unfold LS.step
  split
  · exact ⟨rfl, rfl, rfl, rfl⟩
  · split <;> exact ⟨rfl, rfl, rfl, rfl⟩
theorem step_ok {s : LS} (h : LOk s) : LOk s.step := by
  obtain ⟨e1, e2, _, _⟩ := step_eqs s
  refine ⟨by rw [e1]; exact h.nok, by rw [e2]; exact h.len, fun i hi => ?_⟩
  rw [e2] at hi
  have : s.step.obj i = s.obj i := by unfold LS.obj; rw [e2]
  rw [this]; exact h.sz i hi
theorem blk_many {s : LS} (h : LOk s) {i b : Nat} (hb : b < s.blk i) : 0 < s.n.many (s.obj i).size b := many_pos s.n h.nok _ _ hb
theorem payNum_lt {s : LS} {i b : Nat} (hk : 0 < s.n.many (s.obj i).size b) (ht : s.tu i b < s.n.many (s.obj i).size b + s.n.spare) : s.payNum i b < s.n.many (s.obj i).size b + s.n.spare := by
  unfold LS.payNum; split <;> omega

theorem LI.tight {w : World} {P : Nat} {s : LS} {F : Nat → Prop} {ao : Option Addr} {co : Nat} {D : Nat → Nat} (h : LI w P s F ao co D) : LI w P s (fun b => F b ∧ b < w.heap.size) ao co D :=
  ⟨h.row, h.ob, h.db, ⟨h.fP, h.row.lt⟩, fun b hb => ⟨h.fo b hb, (h.ob.lt b hb).2⟩, fun i hi => ⟨h.fd i hi, (h.db i hi).lt⟩, h.op, h.dp, h.od, h.dd⟩
theorem Touch.mono {w w' : World} {F G : Nat → Prop} (h : Touch w w' F) (hF : ∀ b, F b → G b) : Touch w w' G := ⟨h.os, h.tape, h.output, h.size, fun b h1 h2 => h.block b h1 (fun e => h2 (hF b e))⟩
theorem Touch.trans {w w' w'' : World} {F : Nat → Prop} (h : Touch w w' F) (k : Touch w' w'' F) : Touch w w'' F :=
  ⟨k.os.trans h.os, k.tape.trans h.tape, k.output.trans h.output, Nat.le_trans h.size k.size, fun b h1 h2 => (k.block b (by have := h.size; omega) h2).trans (h.block b h1 h2)⟩
theorem Touch.of_below {w w' : World} {F : Nat → Prop} (h : Below w.heap.size w w') : Touch w w' F := (Touch.refl w F).below h
theorem Touch.cell {w w' : World} {F : Nat → Prop} (h : Touch w w' F) {b j : Nat} {v : Value} (hb : b < w.heap.size) (hF : ¬ F b) (hv : w.cell? ⟨b, j, none⟩ = some v) : w'.cell? ⟨b, j, none⟩ = some v :=
  (World.cell?_of_block (a := ⟨b, j, none⟩) (h.block b hb hF)).trans hv

set_option maxRecDepth 100000 in
set_option maxHeartbeats 4000000 in
theorem lanNext (s : LS) (P : Nat) (F : Nat → Prop) (ao : Option Addr) (co : Nat) (D : Nat → Nat) (w : World) (hs : LOk2 s) (hA : LI w P s F ao co D) :
    Calls Try.prog 41 #[.pointer (some ⟨P, 0, none⟩)] w fun e w' => ∃ s', NextOut s s' e ∧ LI w' P s' F ao co D ∧ Touch w w' F := by
  have HF := lanFirst s P F ao co D w hs.base hA
  have HA : Hid (LI w P s F ao co D) := hA
  have HS : Hid (LOk2 s) := hs
  clear hA hs
  go_enter Try.func41, Try.ntmps41
  go_wp2_with fail
  refine HF.mono ?_
  rintro e w1 ⟨ho, hb1⟩
  have L1 := (HA.out.below hb1).tight
  have HT1 : Hid (Touch w w1 F) := Touch.of_below hb1
  have h8 := HS.out.base.len
  clear HF
  rcases ho with ⟨i, b, hi, hb, how, hz1, hz2, rfl⟩ | ⟨hz, rfl⟩
  · have B2 : Below w1.heap.size w1 (w1.alloc (.cells #[.int .i64 i, .int .i64 b, .int .i64 0] 85)) := (Below.refl _ _).alloc (Nat.le_refl _) _
    have L2 := L1.below B2
    have HP := lanPay s i b P _ ao co D _ HS.out.base hi hb how (HS.out.ow8 i b hi hb) (HS.out.tuA i b hi hb) L2
    have HX : Hid (s.first i b) := ⟨hi, hb, how, hz1, hz2⟩
    have hbl := blk_le s HS.out.base i hi
    have k0 : (w1.alloc (.cells #[.int .i64 i, .int .i64 b, .int .i64 0] 85)).cell? ⟨w1.heap.size, 0, none⟩ = some (.int .i64 i) := cell_new (w := w1) rfl rfl
    have k1 : (w1.alloc (.cells #[.int .i64 i, .int .i64 b, .int .i64 0] 85)).cell? ⟨w1.heap.size, 1, none⟩ = some (.int .i64 b) := cell_new (w := w1) rfl rfl
    have k2 : (w1.alloc (.cells #[.int .i64 i, .int .i64 b, .int .i64 0] 85)).cell? ⟨w1.heap.size, 2, none⟩ = some (.int .i64 0) := cell_new (w := w1) rfl rfl
    have HK0 : Hid ((w1.alloc (.cells #[.int .i64 i, .int .i64 b, .int .i64 0] 85)).rowIs w1.heap.size 85 3 (fun j => ([.int .i64 i, .int .i64 b, .int .i64 0] : List Value).getD j undef)) := World.rowIs_alloc w1 _ _ _ (fun i hi => by
      match i, hi with
      | 0, _ => rfl
      | 1, _ => rfl
      | 2, _ => rfl)
    have HB2 : Hid (Below w1.heap.size w1 (w1.alloc (.cells #[.int .i64 i, .int .i64 b, .int .i64 0] 85))) := B2
    clear hi hb how hz1 hz2 L1 L2 B2 hb1
    go_wp2_with fail
    refine HP.mono ?_
    rintro e w2 ⟨rfl, L3, T3⟩
    have hN2 : w1.heap.size < w2.heap.size := by have := T3.size; simp at this; omega
    have RN : w2.rowIs w1.heap.size 85 3 (fun j => ([.int .i64 i, .int .i64 b, .int .i64 0] : List Value).getD j undef) := HK0.out.of_block (T3.block _ (by simp) (fun h => by have := h.2; omega))
    have q0 : w2.cell? ⟨w1.heap.size, 0, none⟩ = some (.int .i64 i) := RN.cell (by decide)
    have q1 : w2.cell? ⟨w1.heap.size, 1, none⟩ = some (.int .i64 b) := RN.cell (by decide)
    have q2 : w2.cell? ⟨w1.heap.size, 2, none⟩ = some (.int .i64 0) := RN.cell (by decide)
    have f2 := RN.frozen 2
    have HL3 : Hid (LI (w2.setCell ⟨w1.heap.size, 2, none⟩ (.int .i64 (s.payNum i b : Nat))) P (s.paid i b) F ao co D) := by
      have h := L3
      have hF : ∀ x, x < w1.heap.size → x ≠ w1.heap.size := fun x hx => by omega
      have hne : ∀ x, (F x ∧ x < w1.heap.size) → x ≠ w1.heap.size := fun x hx => by have := hx.2; omega
      exact ⟨h.row.setOther (a := ⟨w1.heap.size, 2, none⟩) (hne _ h.fP) _, Ms.owns_setCell h.ob (fun e => hne _ (h.fo _ e) rfl), fun j hj => (h.db j hj).setOther (a := ⟨w1.heap.size, 2, none⟩) (hne _ (h.fd j hj)) _, h.fP.1, fun x hx => (h.fo x hx).1, fun j hj => (h.fd j hj).1, h.op, h.dp, h.od, h.dd⟩
    have HT3 : Hid (Touch w (w2.setCell ⟨w1.heap.size, 2, none⟩ (.int .i64 (s.payNum i b : Nat))) F) := by
      have t := (HT1.out.trans (Touch.of_below HB2.out)).trans (T3.mono (fun x hx => hx.1))
      have hs1 := HT1.out.size
      exact ⟨t.os, t.tape, t.output, by simp; exact t.size, fun x h1 h2 => by rw [heap_setCell_other _ _ _ _ (by omega : x ≠ w1.heap.size), t.block x h1 h2]⟩
    have hnum := payNum_lt (blk_many HS.out.base HX.out.2.1) (HS.out.tuA i b HX.out.1 HX.out.2.1)
    have hmb := many_le s.n (s.obj i).size b
    have hnn := HS.out.base.nok
    have HD := lanData (s.paid i b) i b (s.payNum i b) P F ao co D _ (paid_ok HS.out.base i b) HX.out.1 (by have := HX.out.2.1; omega) (blk_many HS.out.base HX.out.2.1) hnum (by obtain ⟨_, _, _, _, _⟩ := hnn; omega) HL3.out
    have eO : (s.paid i b).obj i = s.obj i := rfl
    have eN : (s.paid i b).n = s.n := rfl
    rw [eO, eN] at HD
    simp only [pV] at HD
    have HNO : Hid (NextOut s (s.paid i b) (.returned (.string (txt (text (dataM s.n (s.obj i) i b (s.payNum i b))))))) := .inl ⟨i, b, HX.out, rfl, rfl⟩
    clear HP L3 T3 RN k0 k1 k2 HK0 hnum hmb hnn
    generalize s.payNum i b = PN at *
    generalize txt (text (dataM s.n (s.obj i) i b PN)) = TX at *
    go_wp2_with fail
    refine HD.mono ?_
    rintro e w3 ⟨rfl, hb3⟩
    have HL4 : Hid (LI w3 P (s.paid i b) F ao co D) := HL3.out.below hb3
    have HT4 : Hid (Touch w w3 F) := HT3.out.below hb3
    clear HD hb3
    go_wp2
    go_ret
    exact ⟨_, HNO.out, HL4.out, HT4.out⟩
  · have B2 : Below w1.heap.size w1 (w1.alloc (.cells #[.int .i64 0, .int .i64 0, .int .i64 0] 85)).drew := ((Below.refl _ _).alloc (Nat.le_refl _) _).drew
    have RN0 : (w1.alloc (.cells #[.int .i64 0, .int .i64 0, .int .i64 0] 85)).rowIs w1.heap.size 85 3 (fun j => .int .i64 0) := World.rowIs_alloc w1 _ _ _ (fun i hi => by
      match i, hi with
      | 0, _ => rfl
      | 1, _ => rfl
      | 2, _ => rfl)
    obtain ⟨wd, hwd⟩ : ∃ wd, wd = (w1.alloc (.cells #[.int .i64 0, .int .i64 0, .int .i64 0] 85)).drew := ⟨_, rfl⟩
    have L2 : LI wd P s (fun b => F b ∧ b < w1.heap.size) ao co D := by rw [hwd]; exact L1.below B2
    have RN : wd.rowIs w1.heap.size 85 3 (fun j => .int .i64 0) := by rw [hwd]; exact RN0
    have HBD : Hid (Below w1.heap.size w1 wd) := by unfold Hid; rw [hwd]; exact B2
    have HZ : Hid s.none := hz
    obtain ⟨c0, c1, c2, c3, c4, c5, c6⟩ := L2.cells
    have q0 := RN.cell (i := 0) (by decide)
    have q1 := RN.cell (i := 1) (by decide)
    have q2 := RN.cell (i := 2) (by decide)
    have f0 := RN.frozen 0
    have f1 := RN.frozen 1
    have f2 := RN.frozen 2
    have HL2 : Hid (LI wd P s (fun b => F b ∧ b < w1.heap.size) ao co D) := L2
    have HRN : Hid (wd.rowIs w1.heap.size 85 3 (fun j => .int .i64 0)) := RN
    clear L1 L2 B2 RN0 RN hz hb1 c0 c1 c2
    go_wp2_with fail
    (refine wp_region_still_tail 10 (by kernel_rfl) (by kernel_rfl) ?_; change wpStill _ _ (World.drew _) (fun a' => wpList _ _ _ _ a' (World.drew _)) _ _; simp only [← hwd]; clear hwd; simp only [List.take_succ_cons, List.take_zero, List.drop_succ_cons, List.drop_zero]; (repeat still_step); refine wpStill_nil ?_)
    by_cases hno : s.no < s.objs.length
    · have HX : Hid (s.no < s.objs.length) := hno
      obtain ⟨hnb, hnn⟩ := HS.out.nx hno
      have hmb := many_le s.n (s.obj s.no).size s.nb
      have hbl := blk_le s HS.out.base s.no hno
      have hnk := HS.out.base.nok
      obtain ⟨N, hN⟩ : ∃ N, N = w1.heap.size := ⟨_, rfl⟩
      rw [← hN] at q0 q1 q2 f0 f1 f2 HL2 HRN
      obtain ⟨v, hv⟩ : ∃ v, v = ((wd.setCell ⟨N, 0, none⟩ (.int .i64 s.no)).setCell ⟨N, 1, none⟩ (.int .i64 s.nb)).setCell ⟨N, 2, none⟩ (.int .i64 s.nn) := ⟨_, rfl⟩
      have LV : LI v P s (fun b => F b ∧ b < N) ao co D := by
        have hne : ∀ x, (F x ∧ x < N) → x ≠ N := fun x hx => by have := hx.2; omega
        have one : ∀ (u : World) (j : Nat) (y : Value), LI u P s (fun b => F b ∧ b < N) ao co D → LI (u.setCell ⟨N, j, none⟩ y) P s (fun b => F b ∧ b < N) ao co D := fun u j y h =>
          ⟨h.row.setOther (a := ⟨N, j, none⟩) (hne _ h.fP) _, Ms.owns_setCell h.ob (fun e => hne _ (h.fo _ e) rfl), fun q hq => (h.db q hq).setOther (a := ⟨N, j, none⟩) (hne _ (h.fd q hq)) _, h.fP, h.fo, h.fd, h.op, h.dp, h.od, h.dd⟩
        rw [hv]
        exact one _ _ _ (one _ _ _ (one _ _ _ HL2.out))
      have RV : v.rowIs N 85 3 (fun j => ([.int .i64 s.no, .int .i64 s.nb, .int .i64 s.nn] : List Value).getD j undef) := by
        rw [hv]
        refine (((HRN.out.set 0 _).set 1 _).set 2 _).congr (fun j hj => ?_)
        match j, hj with
        | 0, _ => rfl
        | 1, _ => rfl
        | 2, _ => rfl
      have TV : Touch w v F := by
        have t := HT1.out.below HBD.out
        have hs1 := HT1.out.size
        have one : ∀ (u : World) (j : Nat) (y : Value), Touch w u F → Touch w (u.setCell ⟨N, j, none⟩ y) F := fun u j y t =>
          ⟨t.os, t.tape, t.output, by simp; exact t.size, fun x h1 h2 => by rw [heap_setCell_other _ _ _ _ (by omega : x ≠ N), t.block x h1 h2]⟩
        rw [hv]
        exact one _ _ _ (one _ _ _ (one _ _ _ t))
      have HG := lanGoOn s P _ ao co D v HS.out.base hno hnb (by obtain ⟨_, _, _, _, _⟩ := hnk; omega) LV
      have HNO : Hid (NextOut s s.step (.returned (.string (txt (text (dataM s.n (s.obj s.no) s.no s.nb s.nn)))))) := .inr (.inl ⟨HZ.out, HX.out, rfl, rfl⟩)
      have HRV : Hid (v.rowIs N 85 3 (fun j => ([.int .i64 s.no, .int .i64 s.nb, .int .i64 s.nn] : List Value).getD j undef)) := RV
      have HTV : Hid (Touch w v F) := TV
      have HLV : Hid (LI v P s (fun b => F b ∧ b < N) ao co D) := LV
      have hNv : N < v.heap.size := RV.lt
      clear LV RV TV
      rw [hN] at q0 q1 q2 f0 f1 f2
      go_wp2_with fail
      simp only [← hN]
      simp only [← hv]
      clear hv hN q0 q1 q2 f0 f1 f2
      refine HG.mono ?_
      rintro e w2 ⟨rfl, L3, T3⟩
      have R3 := HRV.out.of_block (T3.block N hNv (fun h => by have := h.2; omega))
      have q0 : w2.cell? ⟨N, 0, none⟩ = some (.int .i64 s.no) := R3.cell (by decide)
      have q1 : w2.cell? ⟨N, 1, none⟩ = some (.int .i64 s.nb) := R3.cell (by decide)
      have q2 : w2.cell? ⟨N, 2, none⟩ = some (.int .i64 s.nn) := R3.cell (by decide)
      have HL3 : Hid (LI w2 P s.step F ao co D) := L3.mono (fun x hx => hx.1)
      have HT3 : Hid (Touch w w2 F) := HTV.out.trans (T3.mono (fun x hx => hx.1))
      obtain ⟨e1, e2, _, _⟩ := step_eqs s
      have eO : s.step.obj s.no = s.obj s.no := by unfold LS.obj; rw [e2]
      have HD := lanData s.step s.no s.nb s.nn P F ao co D w2 (step_ok HS.out.base) (by rw [e2]; exact HX.out) (by omega) (by rw [eO, e1]; omega) (by rw [eO, e1]; omega) (by obtain ⟨_, _, _, _, _⟩ := hnk; omega) HL3.out
      rw [eO, e1] at HD
      simp only [pV] at HD
      clear HG L3 T3 R3 e1 e2 eO
      generalize txt (text (dataM s.n (s.obj s.no) s.no s.nb s.nn)) = TX at *
      go_wp2_with fail
      refine HD.mono ?_
      rintro e w3 ⟨rfl, hb3⟩
      have HL4 : Hid (LI w3 P s.step F ao co D) := HL3.out.below hb3
      have HT4 : Hid (Touch w w3 F) := HT3.out.below hb3
      clear HD hb3
      go_wp2
      go_ret
      exact ⟨_, HNO.out, HL4.out, HT4.out⟩
    · have HNO : Hid (NextOut s s (.returned (.string (txt (text (endM s.objs.length)))))) := .inr (.inr ⟨HZ.out, by omega, rfl, rfl⟩)
      have hK := endM_ok s.objs.length h8
      have HW : ∀ W, Calls Try.prog 28 #[mV 3 0 0 0 0 ⟨#[]⟩ none 0 0 s.objs.length] W fun e w' => e = .returned (.tuple #[.string (txt (text (endM s.objs.length))), .int .i64 0]) ∧ Below W.heap.size W w' := fun W => by
        refine (mWrite (endM s.objs.length) none 0 W (Nat.zero_le _) (Nat.zero_le _) (.inl rfl)).mono ?_
        rintro e w' ⟨ho, hb⟩
        rcases ho with ⟨_, rfl⟩ | ⟨h, _⟩
        · exact ⟨rfl, hb⟩
        · exact absurd hK h
      have HTD : Hid (Touch w wd F) := HT1.out.below HBD.out
      generalize txt (text (endM s.objs.length)) = TX at *
      have HLD : Hid (LI wd P s F ao co D) := HL2.out.mono (fun x hx => hx.1)
      clear hK HL2 HRN
      go_wp2_with fail
      refine (HW _).mono ?_
      rintro e w3 ⟨rfl, hb3⟩
      have HL4 : Hid (LI w3 P s F ao co D) := HLD.out.below hb3
      have HT4 : Hid (Touch w w3 F) := HTD.out.below hb3
      clear HW hb3
      go_wp2
      go_ret
      exact ⟨_, HNO.out, HL4.out, HT4.out⟩
end Sn
end Go.Proofs.Ytkgnmcekeeannab
/-
  The landed sender's answer.
-/
namespace Go.Proofs.Ytkgnmcekeeannab
open Go.RowKit Go.Deep
namespace Sn
open Bs
set_option linter.unusedVariables false

def LS.owedAll (s : LS) (o j : Nat) : LS := { s with ow := fun i b => if i = o ∧ b < j then max (s.ow i b) (min 8 (s.n.many (s.obj i).size b)) else s.ow i b }
theorem owedAll_zero (s : LS) (o : Nat) : s.owedAll o 0 = s := by
  cases s; simp [LS.owedAll]
theorem owedAll_succ (s : LS) (o j : Nat) : (s.owedAll o j).owed o j 8 = s.owedAll o (j + 1) := by
  cases s with
  | mk n objs ow tu no nb nn =>
    simp only [LS.owedAll, LS.owed, LS.mk.injEq, true_and, and_true]
    funext i b
    unfold upd
    by_cases h : i = o ∧ b = j
    · obtain ⟨rfl, rfl⟩ := h
      simp [LS.obj]
    · rw [if_neg h]
      simp only []
      by_cases h2 : i = o ∧ b < j
      · rw [if_pos h2, if_pos ⟨h2.1, by omega⟩]
      · rw [if_neg h2, if_neg (by omega)]
def LS.ans (s : LS) (o b c : Nat) : LS :=
  if s.objs.length ≤ o then s
  else if 0 < c then (if b < s.blk o then s.owed o b c else s)
  else s.owedAll o (s.blk o)
def OW8 (s : LS) : Prop := ∀ i b, i < s.objs.length → b < s.blk i → s.ow i b ≤ 8
theorem many8 {s : LS} (h : LOk s) (i b : Nat) : s.n.many (s.obj i).size b ≤ 8 := by
  have := many_le s.n (s.obj i).size b
  have := h.nok.2.2.2.1
  omega
theorem owed_ow8 {s : LS} (hs : LOk s) (h : OW8 s) (i b c : Nat) : OW8 (s.owed i b c) := by
  intro i' b' hi' hb'
  have h1 := h i' b' hi' hb'
  show upd s.ow i b _ i' b' ≤ 8
  unfold upd
  split
  · rename_i e
    have := many8 hs i b
    rw [e.1, e.2] at h1
    omega
  · exact h1
theorem owedAll_ow8 {s : LS} (hs : LOk s) (h : OW8 s) (o j : Nat) : OW8 (s.owedAll o j) := by
  intro i' b' hi' hb'
  have h1 := h i' b' hi' hb'
  show (if i' = o ∧ b' < j then max (s.ow i' b') (min 8 (s.n.many (s.obj i').size b')) else s.ow i' b') ≤ 8
  split <;> omega
theorem owed_ok {s : LS} (h : LOk s) (i b c : Nat) : LOk (s.owed i b c) := ⟨h.nok, h.len, h.sz⟩
theorem owedAll_ok {s : LS} (h : LOk s) (o j : Nat) : LOk (s.owedAll o j) := ⟨h.nok, h.len, h.sz⟩
theorem ans_ok {s : LS} (h : LOk s) (o b c : Nat) : LOk (s.ans o b c) := by
  unfold LS.ans
  split
  · exact h
  · split
    · split
      · exact owed_ok h _ _ _
      · exact h
    · exact owedAll_ok h _ _
theorem ans_ow8 {s : LS} (hs : LOk s) (h : OW8 s) (o b c : Nat) : OW8 (s.ans o b c) := by
  unfold LS.ans
  split
  · exact h
  · split
    · split
      · exact owed_ow8 hs h _ _ _
      · exact h
    · exact owedAll_ow8 hs h _ _

set_option maxRecDepth 100000 in
set_option maxHeartbeats 4000000 in
theorem lanAnswer (s : LS) (o b c P : Nat) (F : Nat → Prop) (ao : Option Addr) (co : Nat) (D : Nat → Nat) (w : World) (hs : LOk s) (h8 : OW8 s) (ho : o ≤ 7) (hb : b ≤ 255) (hc : c ≤ 8) (hA : LI w P s F ao co D) :
    Calls Try.prog 51 #[.pointer (some ⟨P, 0, none⟩), .agg #[.int .i64 o, .int .i64 b, .int .i64 c]] w fun e w' => e = .returned (.tuple #[]) ∧ LI w' P (s.ans o b c) F ao co D ∧ Touch w w' F := by
  have B0 : Below w.heap.size w (w.alloc (.cells #[.int .i64 o, .int .i64 b, .int .i64 c] 106)).drew := ((Below.refl _ _).alloc (Nat.le_refl _) _).drew
  have R0 : (w.alloc (.cells #[.int .i64 o, .int .i64 b, .int .i64 c] 106)).drew.rowIs w.heap.size 106 3 (fun j => ([.int .i64 o, .int .i64 b, .int .i64 c] : List Value).getD j undef) := World.rowIs_alloc w _ _ _ (fun i hi => by
    match i, hi with
    | 0, _ => rfl
    | 1, _ => rfl
    | 2, _ => rfl)
  obtain ⟨wd, hwd⟩ : ∃ wd, wd = (w.alloc (.cells #[.int .i64 o, .int .i64 b, .int .i64 c] 106)).drew := ⟨_, rfl⟩
  rw [← hwd] at B0 R0
  have L0 := hA.tight.below B0
  have hlen := hs.len
  have q0 : wd.cell? ⟨w.heap.size, 0, none⟩ = some (.int .i64 o) := R0.cell (by decide)
  have c3 := L0.cells.2.2.2.1
  have HB : Hid (Below w.heap.size w wd) := B0
  have HR : Hid (wd.rowIs w.heap.size 106 3 (fun j => ([.int .i64 o, .int .i64 b, .int .i64 c] : List Value).getD j undef)) := R0
  have HL : Hid (LI wd P s (fun x => F x ∧ x < w.heap.size) ao co D) := L0
  have HS : Hid (LOk s) := hs
  have H8 : Hid (OW8 s) := h8
  have HA : Hid (s.ans o b c = if s.objs.length ≤ o then s else if 0 < c then (if b < s.blk o then s.owed o b c else s) else s.owedAll o (s.blk o)) := rfl
  obtain ⟨N, hN⟩ : ∃ N, N = w.heap.size := ⟨_, rfl⟩
  clear B0 R0 L0 hs h8 hA
  by_cases hx : s.objs.length ≤ o
  · have HE : Hid (s.ans o b c = s) := by unfold Hid; rw [HA.out, if_pos hx]
    go_enter Try.func51, Try.ntmps51
    go_wp2_with fail
    (refine wp_region_still_tail 7 (by kernel_rfl) (by kernel_rfl) ?_; change wpStill _ _ (World.drew _) (fun a' => wpList _ _ _ _ a' (World.drew _)) _ _; simp only [← hwd]; clear hwd; simp only [List.take_succ_cons, List.take_zero, List.drop_succ_cons, List.drop_zero]; (repeat still_step); refine wpStill_nil ?_)
    go_wp2
    refine bodyPost_ret (v := .tuple #[]) (by simp [results, Try.results51]) rfl ?_
    rw [HE.out]
    exact ⟨rfl, HL.out.mono (fun x hx => hx.1), Touch.of_below HB.out⟩
  · have hi : o < s.objs.length := by omega
    have HI : Hid (o < s.objs.length) := hi
    have hbl := blk_le s HS.out o hi
    by_cases hc0 : 0 < c
    · obtain ⟨v, hv⟩ : ∃ v, v = wd.drew := ⟨_, rfl⟩
      have LV : LI v P s (fun x => F x ∧ x < w.heap.size) ao co D := by rw [hv]; exact HL.out.drew
      have RV : v.rowIs w.heap.size 106 3 (fun j => ([.int .i64 o, .int .i64 b, .int .i64 c] : List Value).getD j undef) := by rw [hv]; exact HR.out
      have BV : Below w.heap.size w v := by rw [hv]; exact HB.out.drew
      obtain ⟨g, rfl, hg, hsl⟩ := LV.slot (by omega)
      have s1 := (hsl o hi).2
      have d3 := LV.cells.2.2.2.1
      have k0 : v.cell? ⟨w.heap.size, 0, none⟩ = some (.int .i64 o) := RV.cell (by decide)
      have k1 : v.cell? ⟨w.heap.size, 1, none⟩ = some (.int .i64 b) := RV.cell (by decide)
      have k2 : v.cell? ⟨w.heap.size, 2, none⟩ = some (.int .i64 c) := RV.cell (by decide)
      have HLV : Hid (LI v P s (fun x => F x ∧ x < w.heap.size) (some ⟨g, 0, none⟩) co D) := LV
      have HRV : Hid (v.rowIs w.heap.size 106 3 (fun j => ([.int .i64 o, .int .i64 b, .int .i64 c] : List Value).getD j undef)) := RV
      have HBV : Hid (Below w.heap.size w v) := BV
      clear LV RV BV hsl HL HR HB
      go_enter Try.func51, Try.ntmps51
      go_wp2_with fail
      (refine wp_region_still_tail 7 (by kernel_rfl) (by kernel_rfl) ?_; change wpStill _ _ (World.drew _) (fun a' => wpList _ _ _ _ a' (World.drew _)) _ _; simp only [← hwd]; clear hwd; simp only [List.take_succ_cons, List.take_zero, List.drop_succ_cons, List.drop_zero]; (repeat still_step); refine wpStill_nil ?_)
      go_wp2_with fail
      (refine wp_region_still_tail 10 (by kernel_rfl) (by kernel_rfl) ?_; change wpStill _ _ (World.drew _) (fun a' => wpList _ _ _ _ a' (World.drew _)) _ _; simp only [← hv]; clear hv; simp only [List.take_succ_cons, List.take_zero, List.drop_succ_cons, List.drop_zero]; (repeat still_step); refine wpStill_nil ?_)
      clear q0 c3 d3 s1
      by_cases hbk : b < s.blk o
      · have HE : Hid (s.ans o b c = s.owed o b c) := by unfold Hid; rw [HA.out, if_neg hx, if_pos hc0, if_pos hbk]
        have HO := lanOwe s o b c P _ (some ⟨g, 0, none⟩) co D v HS.out hi hbk (H8.out o b hi hbk) (by omega) HLV.out
        clear hx
        go_wp2_with fail
        refine HO.mono ?_
        rintro e w2 ⟨rfl, L2, T2⟩
        have HL2 : Hid (LI w2 P (s.owed o b c) F (some ⟨g, 0, none⟩) co D) := L2.mono (fun x hx => hx.1)
        have HT2 : Hid (Touch w w2 F) := (Touch.of_below HBV.out).trans (T2.mono (fun x hx => hx.1))
        clear HO L2 T2 k0 k1 k2
        go_wp2
        refine bodyPost_ret (v := .tuple #[]) (by simp [results, Try.results51]) rfl ?_
        rw [HE.out]
        exact ⟨rfl, HL2.out, HT2.out⟩
      · have HE : Hid (s.ans o b c = s) := by unfold Hid; rw [HA.out, if_neg hx, if_pos hc0, if_neg hbk]
        clear hx
        go_wp2
        refine bodyPost_ret (v := .tuple #[]) (by simp [results, Try.results51]) rfl ?_
        rw [HE.out]
        exact ⟨rfl, HLV.out.mono (fun x hx => hx.1), Touch.of_below HBV.out⟩
    · have HE : Hid (s.ans o b c = s.owedAll o (s.blk o)) := by unfold Hid; rw [HA.out, if_neg hx, if_neg hc0]
      obtain ⟨C, hC⟩ : ∃ C : Int, C = (c : Int) := ⟨_, rfl⟩
      have cz : C ≤ 0 := by omega
      rw [← hC] at hwd HR ⊢
      generalize s.ans o b c = SA at *
      clear hC hc hc0 HA hx
      obtain ⟨v, hv⟩ : ∃ v, v = wd.drew := ⟨_, rfl⟩
      have LV : LI v P s (fun x => F x ∧ x < w.heap.size) ao co D := by rw [hv]; exact HL.out.drew
      have RV : v.rowIs w.heap.size 106 3 (fun j => ([.int .i64 o, .int .i64 b, .int .i64 C] : List Value).getD j undef) := by rw [hv]; exact HR.out
      have BV : Below w.heap.size w v := by rw [hv]; exact HB.out.drew
      obtain ⟨g, rfl, hg, hsl⟩ := LV.slot (by omega)
      have s1 := (hsl o hi).2
      have d3 := LV.cells.2.2.2.1
      have k0 : v.cell? ⟨w.heap.size, 0, none⟩ = some (.int .i64 o) := RV.cell (by decide)
      have k1 : v.cell? ⟨w.heap.size, 1, none⟩ = some (.int .i64 b) := RV.cell (by decide)
      have k2 : v.cell? ⟨w.heap.size, 2, none⟩ = some (.int .i64 C) := RV.cell (by decide)
      have HLV : Hid (LI v P s (fun x => F x ∧ x < w.heap.size) (some ⟨g, 0, none⟩) co D) := LV
      have HRV : Hid (v.rowIs w.heap.size 106 3 (fun j => ([.int .i64 o, .int .i64 b, .int .i64 C] : List Value).getD j undef)) := RV
      have HBV : Hid (Below w.heap.size w v) := BV
      clear LV RV BV hsl HL HR HB
      go_enter Try.func51, Try.ntmps51
      go_wp2_with fail
      (refine wp_region_still_tail 7 (by kernel_rfl) (by kernel_rfl) ?_; change wpStill _ _ (World.drew _) (fun a' => wpList _ _ _ _ a' (World.drew _)) _ _; simp only [← hwd]; clear hwd; simp only [List.take_succ_cons, List.take_zero, List.drop_succ_cons, List.drop_zero]; (repeat still_step); refine wpStill_nil ?_)
      go_wp2_with fail
      (refine wp_region_still_tail 10 (by kernel_rfl) (by kernel_rfl) ?_; change wpStill _ _ (World.drew _) (fun a' => wpList _ _ _ _ a' (World.drew _)) _ _; simp only [← hv]; clear hv; simp only [List.take_succ_cons, List.take_zero, List.drop_succ_cons, List.drop_zero]; (repeat still_step); refine wpStill_nil ?_)
      clear q0 c3 d3 s1
      obtain ⟨Bk, hBk⟩ : ∃ Bk, Bk = s.blk o := ⟨_, rfl⟩
      have HBk : Hid (Bk = s.blk o) := hBk
      rw [← hBk] at hbl ⊢
      clear hBk
      have HT0 : Hid (Touch w v F) := Touch.of_below HBV.out
      go_wp2
      go_loopw [5] (fun x wr => ∃ j : Nat, j ≤ Bk ∧ x = .int .i64 j ∧ LI wr P (s.owedAll o j) (fun x => F x ∧ x < w.heap.size) (some ⟨g, 0, none⟩) co D ∧ wr.rowIs w.heap.size 106 3 (fun j => ([.int .i64 o, .int .i64 b, .int .i64 C] : List Value).getD j undef) ∧ Touch w wr F) (fun x _ => Bk - (intOf x).toNat)
      case atStart => exact ⟨0, Nat.zero_le _, rfl, by rw [owedAll_zero]; exact HLV.out, HRV.out, HT0.out⟩
      case round =>
        clear k0 k1 k2 HT0 HLV HRV HBV hg
        obtain ⟨j, hj, rfl, hL, hR, hT⟩ := hrel
        have HRj : Hid (wr.rowIs w.heap.size 106 3 (fun j => ([.int .i64 o, .int .i64 b, .int .i64 C] : List Value).getD j undef)) := hR
        have HTj : Hid (Touch w wr F) := hT
        by_cases hlt : j < Bk
        · have k0 : wr.cell? ⟨w.heap.size, 0, none⟩ = some (.int .i64 o) := hR.cell (by decide)
          have HO := lanOwe (s.owedAll o j) o j 8 P _ (some ⟨g, 0, none⟩) co D wr (owedAll_ok HS.out o j) hi (by show j < s.blk o; rw [← HBk.out]; exact hlt) (owedAll_ow8 HS.out H8.out o j o j hi (by show j < s.blk o; rw [← HBk.out]; exact hlt)) (by omega) hL
          rw [owedAll_succ] at HO
          clear hL hR hT
          go_wp2_with fail
          refine HO.mono ?_
          rintro e w2 ⟨rfl, L2, T2⟩
          have HL2 : Hid (LI w2 P (s.owedAll o (j + 1)) (fun x => F x ∧ x < w.heap.size) (some ⟨g, 0, none⟩) co D) := L2
          have HR2 : Hid (w2.rowIs w.heap.size 106 3 (fun j => ([.int .i64 o, .int .i64 b, .int .i64 C] : List Value).getD j undef)) := HRj.out.of_block (T2.block _ HRj.out.lt (fun h => by have := h.2; omega))
          have HT2 : Hid (Touch w w2 F) := HTj.out.trans (T2.mono (fun x hx => hx.1))
          clear HO L2 T2 k0 HRj HTj
          go_wp2
          go_roundw
          case rel => exact ⟨j + 1, by omega, by go_num, HL2.out, HR2.out, HT2.out⟩
          case measure => simp [intOf]; omega
        · have e : j = Bk := by omega
          have HL2 : Hid (LI wr P (s.owedAll o (s.blk o)) F (some ⟨g, 0, none⟩) co D) := by unfold Hid; rw [← HBk.out, ← e]; exact hL.mono (fun x hx => hx.1)
          clear hL hR hT HRj
          subst e
          go_wp2
          refine bodyPost_end (v := .tuple #[]) (by simp [results, Try.results51]) rfl ?_
          rw [HE.out]
          exact ⟨rfl, HL2.out, HTj.out⟩
end Sn
end Go.Proofs.Ytkgnmcekeeannab
