import Derived.Test.YtkgnmcekeeannaaGreatY18
import Derived.Test.YtkgnmcekeeannaaGreatY19
import Derived.Test.YtkgnmcekeeannaaGreatY08
import Derived.Test.YtkgnmcekeeannaaGreatY12
/-
  The landed sender's pay, owe and goOn.
-/
namespace Go.Proofs.YtkgnmcekeeannaaGreat
open Go.RowKit Go.Deep
namespace Sn
open Bs
open Ms (owns_setCell)
set_option linter.unusedVariables false

def upd (f : Nat → Nat → Nat) (i b v : Nat) : Nat → Nat → Nat := fun i' b' => if i' = i ∧ b' = b then v else f i' b'
theorem upd_same (f : Nat → Nat → Nat) (i b : Nat) : upd f i b (f i b) = f := by
  funext i' b'
  unfold upd
  by_cases h : i' = i ∧ b' = b
  · rw [if_pos h, h.1, h.2]
  · rw [if_neg h]
theorem upd_upd (f : Nat → Nat → Nat) (i b v v' : Nat) : upd (upd f i b v) i b v' = upd f i b v' := by
  funext i' b'
  unfold upd
  by_cases h : i' = i ∧ b' = b
  · rw [if_pos h, if_pos h]
  · rw [if_neg h, if_neg h, if_neg h]
theorem Touch.set {w wr : World} {F : Nat → Prop} {b j : Nat} {v : Value} (h : Touch w wr F) (hb : F b) : Touch w (wr.setCell ⟨b, j, none⟩ v) F :=
  ⟨h.os, h.tape, h.output, by simp; exact h.size, fun x h1 h2 => by rw [heap_setCell_other _ _ _ _ (fun e => h2 (by rw [e]; exact hb)), h.block x h1 h2]⟩
theorem Touch.drew {w wr : World} {F : Nat → Prop} (h : Touch w wr F) : Touch w wr.drew F := ⟨h.os, h.tape, h.output, h.size, h.block⟩
theorem LI.setOw {w : World} {P : Nat} {s : LS} {F : Nat → Prop} {ao : Option Addr} {co : Nat} {D : Nat → Nat} (h : LI w P s F ao co D) {i b : Nat} (hi : i < s.objs.length) (hb : b < s.blk i) (v : Nat) :
    LI (w.setCell ⟨D i, b * 2, none⟩ (.int .i64 v)) P { s with ow := upd s.ow i b v } F ao co D := by
  refine ⟨h.row.setOther (a := ⟨D i, b * 2, none⟩) (fun e => h.dp i hi e.symm) _, owns_setCell h.ob (h.od i hi), fun j hj => ?_, h.fP, h.fo, h.fd, h.op, h.dp, h.od, h.dd⟩
  by_cases e : j = i
  · subst e
    refine ((h.db j hj).set (b * 2) _).congr (fun q hq => ?_)
    unfold dRow upd
    by_cases e : q = b * 2
    · subst e; simp [show b * 2 / 2 = b from by omega]
    · rw [if_neg e]
      by_cases e2 : q % 2 = 0
      · have : q / 2 ≠ b := by omega
        simp [e2, this]
      · simp [e2]
  · refine ((h.db j hj).setOther (a := ⟨D i, b * 2, none⟩) (fun e' => e (h.dd j i hj hi e')) _).congr (fun q hq => ?_)
    simp [dRow, upd, e]
theorem LI.setTu {w : World} {P : Nat} {s : LS} {F : Nat → Prop} {ao : Option Addr} {co : Nat} {D : Nat → Nat} (h : LI w P s F ao co D) {i b : Nat} (hi : i < s.objs.length) (hb : b < s.blk i) (v : Nat) :
    LI (w.setCell ⟨D i, b * 2 + 1, none⟩ (.int .i64 v)) P { s with tu := upd s.tu i b v } F ao co D := by
  refine ⟨h.row.setOther (a := ⟨D i, b * 2 + 1, none⟩) (fun e => h.dp i hi e.symm) _, owns_setCell h.ob (h.od i hi), fun j hj => ?_, h.fP, h.fo, h.fd, h.op, h.dp, h.od, h.dd⟩
  by_cases e : j = i
  · subst e
    refine ((h.db j hj).set (b * 2 + 1) _).congr (fun q hq => ?_)
    unfold dRow upd
    by_cases e : q = b * 2 + 1
    · subst e; simp [show (b * 2 + 1) / 2 = b from by omega]
    · rw [if_neg e]
      by_cases e2 : q % 2 = 0
      · simp [e2]
      · have : q / 2 ≠ b := by omega
        simp [e2, this]
  · refine ((h.db j hj).setOther (a := ⟨D i, b * 2 + 1, none⟩) (fun e' => e (h.dd j i hj hi e')) _).congr (fun q hq => ?_)
    simp [dRow, upd, e]
theorem LI.setNo {w : World} {P : Nat} {s : LS} {F : Nat → Prop} {ao : Option Addr} {co : Nat} {D : Nat → Nat} (h : LI w P s F ao co D) (v : Nat) : LI (w.setCell ⟨P, 4, none⟩ (.int .i64 v)) P { s with no := v } F ao co D := by
  refine ⟨(h.row.set 4 _).congr (fun j hj => ?_), owns_setCell h.ob h.op, fun i hi => ((h.db i hi).setOther (a := ⟨P, 4, none⟩) (h.dp i hi) _).congr (fun q hq => rfl), h.fP, h.fo, h.fd, h.op, h.dp, h.od, h.dd⟩
  match j, hj with
  | 0, _ => rfl
  | 1, _ => rfl
  | 2, _ => rfl
  | 3, _ => rfl
  | 4, _ => rfl
  | 5, _ => rfl
  | 6, _ => rfl
theorem LI.setNb {w : World} {P : Nat} {s : LS} {F : Nat → Prop} {ao : Option Addr} {co : Nat} {D : Nat → Nat} (h : LI w P s F ao co D) (v : Nat) : LI (w.setCell ⟨P, 5, none⟩ (.int .i64 v)) P { s with nb := v } F ao co D := by
  refine ⟨(h.row.set 5 _).congr (fun j hj => ?_), owns_setCell h.ob h.op, fun i hi => ((h.db i hi).setOther (a := ⟨P, 5, none⟩) (h.dp i hi) _).congr (fun q hq => rfl), h.fP, h.fo, h.fd, h.op, h.dp, h.od, h.dd⟩
  match j, hj with
  | 0, _ => rfl
  | 1, _ => rfl
  | 2, _ => rfl
  | 3, _ => rfl
  | 4, _ => rfl
  | 5, _ => rfl
  | 6, _ => rfl
theorem LI.setNn {w : World} {P : Nat} {s : LS} {F : Nat → Prop} {ao : Option Addr} {co : Nat} {D : Nat → Nat} (h : LI w P s F ao co D) (v : Nat) : LI (w.setCell ⟨P, 6, none⟩ (.int .i64 v)) P { s with nn := v } F ao co D := by
  refine ⟨(h.row.set 6 _).congr (fun j hj => ?_), owns_setCell h.ob h.op, fun i hi => ((h.db i hi).setOther (a := ⟨P, 6, none⟩) (h.dp i hi) _).congr (fun q hq => rfl), h.fP, h.fo, h.fd, h.op, h.dp, h.od, h.dd⟩
  match j, hj with
  | 0, _ => rfl
  | 1, _ => rfl
  | 2, _ => rfl
  | 3, _ => rfl
  | 4, _ => rfl
  | 5, _ => rfl
  | 6, _ => rfl

/-- what pay leaves -/
def LS.paid (s : LS) (i b : Nat) : LS := { s with ow := upd s.ow i b (s.ow i b - 1), tu := upd s.tu i b (if s.tu i b + 1 < s.n.many (s.obj i).size b + s.n.spare then s.tu i b + 1 else 0) }
def LS.payNum (s : LS) (i b : Nat) : Nat := if s.tu i b < s.n.spare then s.n.many (s.obj i).size b + s.tu i b else s.tu i b - s.n.spare
set_option maxRecDepth 100000 in
set_option maxHeartbeats 4000000 in
theorem lanPay (s : LS) (i b P : Nat) (F : Nat → Prop) (ao : Option Addr) (co : Nat) (D : Nat → Nat) (w : World) (hs : LOk s) (hi : i < s.objs.length) (hb : b < s.blk i) (ho : 0 < s.ow i b) (ho2 : s.ow i b ≤ 8) (ht : s.tu i b < s.n.many (s.obj i).size b + s.n.spare) (hA : LI w P s F ao co D) :
    Calls Tryz.prog 54 #[.pointer (some ⟨P, 0, none⟩), .int .i64 i, .int .i64 b] w fun e w' => e = .returned (.int .i64 (s.payNum i b : Nat)) ∧ LI w' P (s.paid i b) F ao co D ∧ Touch w w' F := by
  obtain ⟨g, rfl, hg, hsl⟩ := hA.slot (by omega)
  obtain ⟨c0, c1, c2, c3, c4, c5, c6⟩ := hA.cells
  have s1 := (hsl i hi).2
  have hlen := hs.len
  have hbl := blk_le s hs i hi
  have HSY := lanSymbols s i b P F (some ⟨g, 0, none⟩) co D w hs hi (by omega) hA
  have hM := many_le s.n (s.obj i).size b
  obtain ⟨_, _, _, hbk, hsp8⟩ := hs.nok
  have HA : Hid (LI w P s F (some ⟨g, 0, none⟩) co D) := hA
  have HPN : Hid (s.payNum i b = if s.tu i b < s.n.spare then s.n.many (s.obj i).size b + s.tu i b else s.tu i b - s.n.spare) := rfl
  have HPD : Hid (s.paid i b = { s with ow := upd s.ow i b (s.ow i b - 1), tu := upd s.tu i b (if s.tu i b + 1 < s.n.many (s.obj i).size b + s.n.spare then s.tu i b + 1 else 0) }) := rfl
  generalize s.payNum i b = PN at *
  generalize s.n.many (s.obj i).size b = k at *
  have HI : Hid (i < s.objs.length) := hi
  have HB : Hid (b < s.blk i) := hb
  obtain ⟨sp, hsp⟩ : ∃ sp, sp = s.n.spare := ⟨_, rfl⟩
  have HSP : Hid (sp = s.n.spare) := hsp
  obtain ⟨L, hL⟩ : ∃ L, L = s.objs.length := ⟨_, rfl⟩
  obtain ⟨Bk, hBk⟩ : ∃ Bk, Bk = s.blk i := ⟨_, rfl⟩
  obtain ⟨O, hO⟩ : ∃ O, O = s.ow i b := ⟨_, rfl⟩
  have HO : Hid (O = s.ow i b) := hO
  obtain ⟨Tn, hTn⟩ : ∃ O, O = s.tu i b := ⟨_, rfl⟩
  have HT : Hid (Tn = s.tu i b) := hTn
  rw [← hsp, ← hTn] at ht
  rw [← hsp] at hsp8
  rw [← hL] at hi hlen c3
  rw [← hBk] at hb hbl s1
  rw [← hO] at ho ho2
  rw [← hTn, ← hsp] at HPN
  have hk8 : k ≤ 8 := by omega
  clear hsp hL hBk hO hTn hA hsl c0 c1 c4 c5 c6 hM hbk c2
  go_enter Tryz.func54, Tryz.ntmps54
  go_wp2_with fail
  refine HSY.mono ?_
  rintro e w1 ⟨rfl, hb1⟩
  have LI1 := HA.out.below hb1
  have T1 : Touch w w1 F := (Touch.refl _ _).below hb1
  obtain ⟨q0, q1⟩ := LI1.owes HI.out HB.out
  have c2 := LI1.cells.2.2.1
  rw [← HSP.out] at c2
  rw [← HO.out] at q0
  rw [← HT.out] at q1
  have f0 := (LI1.db i HI.out).frozen (b * 2)
  have f1 := (LI1.db i HI.out).frozen (b * 2 + 1)
  have L2 := (LI1.setOw HI.out HB.out (O - 1)).setTu (i := i) (b := b) HI.out HB.out
  have T2 : ∀ v v', Touch w ((w1.setCell ⟨D i, b * 2, none⟩ v).setCell ⟨D i, b * 2 + 1, none⟩ v') F := fun v v' => (T1.set (LI1.fd i HI.out)).set (LI1.fd i HI.out)
  have HL2 : Hid (∀ v : Nat, LI ((w1.setCell ⟨D i, b * 2, none⟩ (.int .i64 (O - 1 : Nat))).setCell ⟨D i, b * 2 + 1, none⟩ (.int .i64 v)) P { s with ow := upd s.ow i b (O - 1), tu := upd s.tu i b v } F (some ⟨g, 0, none⟩) co D) := L2
  have HT2 : Hid (∀ v v', Touch w ((w1.setCell ⟨D i, b * 2, none⟩ v).setCell ⟨D i, b * 2 + 1, none⟩ v') F) := T2
  clear LI1 T1 L2 T2 hb1 HSY HA c3 s1
  have eO : (O : Int) - 1 = ((O - 1 : Nat) : Int) := by omega
  have tO : wrap64 ((O : Int) - 1) = ((O - 1 : Nat) : Int) := by rw [eO]; unfold wrap64; omega
  have HE2 : Hid (s.paid i b = { s with ow := upd s.ow i b (O - 1), tu := upd s.tu i b (if Tn + 1 < k + sp then Tn + 1 else 0) }) := by unfold Hid; rw [HPD.out, ← HO.out, ← HT.out, ← HSP.out]
  clear HPD
  have HL3 : Hid (∀ v : Nat, LI (((w1.setCell ⟨D i, b * 2, none⟩ (.int .i64 (O - 1 : Nat))).setCell ⟨D i, b * 2 + 1, none⟩ (.int .i64 v)).setCell ⟨D i, b * 2 + 1, none⟩ (.int .i64 (0 : Nat))) P { s with ow := upd s.ow i b (O - 1), tu := upd s.tu i b 0 } F (some ⟨g, 0, none⟩) co D) := fun v => by
    have h := (HL2.out v).setTu (i := i) (b := b) HI.out HB.out 0
    rw [show upd (upd s.tu i b v) i b 0 = upd s.tu i b 0 from upd_upd _ _ _ _ _] at h
    exact h
  have HT3 : Hid (∀ v v' v'', Touch w (((w1.setCell ⟨D i, b * 2, none⟩ v).setCell ⟨D i, b * 2 + 1, none⟩ v').setCell ⟨D i, b * 2 + 1, none⟩ v'') F) := fun v v' v'' => (HT2.out v v').set ((HL2.out 0).fd i HI.out)
  by_cases hn : Tn < sp
  · have e1 : PN = k + Tn := by rw [HPN.out, if_pos hn]
    subst e1
    by_cases hw : Tn + 1 < k + sp
    · go_wp2
      go_ret
      rw [HE2.out, if_pos hw]
      exact ⟨rfl, HL2.out (Tn + 1), HT2.out _ _⟩
    · go_wp2
      go_ret
      rw [HE2.out, if_neg hw]
      exact ⟨rfl, HL3.out (Tn + 1), HT3.out _ _ _⟩
  · have e1 : (PN : Int) = (Tn : Int) - (sp : Int) := by rw [HPN.out, if_neg hn]; omega
    have HE1 : Hid ((PN : Int) = (Tn : Int) - (sp : Int)) := e1
    clear e1
    have hn2 : (k : Int) + (sp : Int) ≤ (k : Int) + (Tn : Int) := by omega
    clear hn
    by_cases hw : Tn + 1 < k + sp
    · go_wp2
      go_ret
      rw [HE2.out, if_pos hw]
      exact ⟨Fld.ret_int (by rw [HE1.out]; omega), HL2.out (Tn + 1), HT2.out _ _⟩
    · go_wp2
      go_ret
      rw [HE2.out, if_neg hw]
      exact ⟨Fld.ret_int (by rw [HE1.out]; omega), HL3.out (Tn + 1), HT3.out _ _ _⟩
/-- what owe leaves -/
def LS.owed (s : LS) (i b c : Nat) : LS := { s with ow := upd s.ow i b (max (s.ow i b) (min c (s.n.many (s.obj i).size b))) }
set_option maxRecDepth 100000 in
set_option maxHeartbeats 4000000 in
theorem lanOwe (s : LS) (i b c P : Nat) (F : Nat → Prop) (ao : Option Addr) (co : Nat) (D : Nat → Nat) (w : World) (hs : LOk s) (hi : i < s.objs.length) (hb : b < s.blk i) (ho2 : s.ow i b ≤ 8) (hc : c ≤ 65536) (hA : LI w P s F ao co D) :
    Calls Tryz.prog 80 #[.pointer (some ⟨P, 0, none⟩), .int .i64 i, .int .i64 b, .int .i64 c] w fun e w' => e = .returned (.tuple #[]) ∧ LI w' P (s.owed i b c) F ao co D ∧ Touch w w' F := by
  obtain ⟨g, rfl, hg, hsl⟩ := hA.slot (by omega)
  obtain ⟨c0, c1, c2, c3, c4, c5, c6⟩ := hA.cells
  have s1 := (hsl i hi).2
  have hlen := hs.len
  have hbl := blk_le s hs i hi
  have HSY := lanSymbols s i b P F (some ⟨g, 0, none⟩) co D w hs hi (by omega) hA
  have hM := many_le s.n (s.obj i).size b
  obtain ⟨_, _, _, hbk, hsp8⟩ := hs.nok
  have HA : Hid (LI w P s F (some ⟨g, 0, none⟩) co D) := hA
  have HPD : Hid (s.owed i b c = { s with ow := upd s.ow i b (max (s.ow i b) (min c (s.n.many (s.obj i).size b))) }) := rfl
  generalize s.n.many (s.obj i).size b = k at *
  have HI : Hid (i < s.objs.length) := hi
  have HB : Hid (b < s.blk i) := hb
  obtain ⟨L, hL⟩ : ∃ L, L = s.objs.length := ⟨_, rfl⟩
  obtain ⟨Bk, hBk⟩ : ∃ Bk, Bk = s.blk i := ⟨_, rfl⟩
  obtain ⟨O, hO⟩ : ∃ O, O = s.ow i b := ⟨_, rfl⟩
  have HO : Hid (O = s.ow i b) := hO
  rw [← hL] at hi hlen c3
  rw [← hBk] at hb hbl s1
  rw [← hO] at ho2
  have hk8 : k ≤ 8 := by omega
  clear hL hBk hO hA hsl c0 c1 c2 c4 c5 c6 hM hbk
  go_enter Tryz.func80, Tryz.ntmps80
  go_wp2_with fail
  refine HSY.mono ?_
  rintro e w1 ⟨rfl, hb1⟩
  have LI1 := HA.out.below hb1
  have T1 : Touch w w1 F := (Touch.refl _ _).below hb1
  obtain ⟨q0, q1⟩ := LI1.owes HI.out HB.out
  rw [← HO.out] at q0
  have f0 := (LI1.db i HI.out).frozen (b * 2)
  have HL1 : Hid (LI w1 P s F (some ⟨g, 0, none⟩) co D) := LI1
  have HL2 : Hid (∀ v : Nat, LI (w1.setCell ⟨D i, b * 2, none⟩ (.int .i64 v)) P { s with ow := upd s.ow i b v } F (some ⟨g, 0, none⟩) co D) := fun v => LI1.setOw HI.out HB.out v
  have HT1 : Hid (Touch w w1 F) := T1
  have HT2 : Hid (∀ v, Touch w (w1.setCell ⟨D i, b * 2, none⟩ v) F) := fun v => T1.set (LI1.fd i HI.out)
  clear LI1 T1 hb1 HSY HA c3 s1 q1
  have HE2 : Hid (s.owed i b c = { s with ow := upd s.ow i b (max O (min c k)) }) := by unfold Hid; rw [HPD.out, ← HO.out]
  clear HPD
  by_cases hn : k < c
  · by_cases hw : O < k
    · go_wp2
      refine bodyPost_end (v := .tuple #[]) (by simp [results, Tryz.results80]) rfl ?_
      rw [HE2.out, show max O (min c k) = k from by omega]
      exact ⟨rfl, HL2.out k, HT2.out _⟩
    · go_wp2
      refine bodyPost_end (v := .tuple #[]) (by simp [results, Tryz.results80]) rfl ?_
      rw [HE2.out, show max O (min c k) = O from by omega, HO.out, upd_same]
      exact ⟨rfl, HL1.out, HT1.out⟩
  · by_cases hw : O < c
    · go_wp2
      refine bodyPost_end (v := .tuple #[]) (by simp [results, Tryz.results80]) rfl ?_
      rw [HE2.out, show max O (min c k) = c from by omega]
      exact ⟨rfl, HL2.out c, HT2.out _⟩
    · go_wp2
      refine bodyPost_end (v := .tuple #[]) (by simp [results, Tryz.results80]) rfl ?_
      rw [HE2.out, show max O (min c k) = O from by omega, HO.out, upd_same]
      exact ⟨rfl, HL1.out, HT1.out⟩
end Sn
end Go.Proofs.YtkgnmcekeeannaaGreat
/-
  The landed sender's goOn.
-/
namespace Go.Proofs.YtkgnmcekeeannaaGreat
open Go.RowKit Go.Deep
namespace Sn
open Bs
set_option linter.unusedVariables false

def LS.step (s : LS) : LS :=
  if s.nn + 1 < s.n.many (s.obj s.no).size s.nb then { s with nn := s.nn + 1 }
  else if s.nb + 1 < s.blk s.no then { s with nn := 0, nb := s.nb + 1 }
  else { s with nn := 0, nb := 0, no := s.no + 1 }
set_option maxRecDepth 100000 in
set_option maxHeartbeats 4000000 in
theorem lanGoOn (s : LS) (P : Nat) (F : Nat → Prop) (ao : Option Addr) (co : Nat) (D : Nat → Nat) (w : World) (hs : LOk s) (hi : s.no < s.objs.length) (hb : s.nb < s.blk s.no) (hn : s.nn ≤ 8) (hA : LI w P s F ao co D) :
    Calls Tryz.prog 56 #[.pointer (some ⟨P, 0, none⟩)] w fun e w' => e = .returned (.tuple #[]) ∧ LI w' P s.step F ao co D ∧ Touch w w' F := by
  obtain ⟨c0, c1, c2, c3, c4, c5, c6⟩ := hA.cells
  have f6 := hA.row.frozen 6
  have hlen := hs.len
  have hbl := blk_le s hs s.no hi
  have hA1 : LI (w.setCell ⟨P, 6, none⟩ (.int .i64 ((s.nn : Int) + 1))) P { s with nn := s.nn + 1 } F ao co D := hA.setNn (s.nn + 1)
  have T1 : Touch w (w.setCell ⟨P, 6, none⟩ (.int .i64 ((s.nn : Int) + 1))) F := (Touch.refl _ _).set hA.fP
  obtain ⟨wd, hwd⟩ : ∃ wd, wd = (w.setCell ⟨P, 6, none⟩ (.int .i64 ((s.nn : Int) + 1))).drew := ⟨_, rfl⟩
  have hAd : LI wd P { s with nn := s.nn + 1 } F ao co D := by rw [hwd]; exact hA1.drew
  have TD : Touch w wd F := by rw [hwd]; exact T1.drew
  have HSY := lanSymbols { s with nn := s.nn + 1 } s.no s.nb P F ao co D wd ⟨hs.nok, hs.len, hs.sz⟩ hi (by omega) hAd
  have hM := many_le s.n (s.obj s.no).size s.nb
  obtain ⟨_, _, _, hbk, _⟩ := hs.nok
  have HST : Hid (s.step = if s.nn + 1 < s.n.many (s.obj s.no).size s.nb then { s with nn := s.nn + 1 } else if s.nb + 1 < s.blk s.no then { s with nn := 0, nb := s.nb + 1 } else { s with nn := 0, nb := 0, no := s.no + 1 }) := rfl
  have eM : ({ s with nn := s.nn + 1 } : LS).n.many (({ s with nn := s.nn + 1 } : LS).obj s.no).size s.nb = s.n.many (s.obj s.no).size s.nb := rfl
  rw [eM] at HSY
  generalize s.n.many (s.obj s.no).size s.nb = k at *
  have HAD : Hid (LI wd P { s with nn := s.nn + 1 } F ao co D) := hAd
  clear hA hA1 T1 c0 c1 c2 c3 hs eM
  obtain ⟨d0, d1, d2, d3, d4, d5, d6⟩ := hAd.cells
  simp only at d4 d5 d6
  clear d0 d1 d2 d3 hAd
  go_enter Tryz.func56, Tryz.ntmps56
  go_wp2_with fail
  (refine wp_region_still_tail 11 (by kernel_rfl) (by kernel_rfl) ?_; change wpStill _ _ (World.drew _) (fun a' => wpList _ _ _ _ a' (World.drew _)) _ _; simp only [← hwd]; clear hwd; simp only [List.take_succ_cons, List.take_zero, List.drop_succ_cons, List.drop_zero]; (repeat still_step); refine wpStill_nil ?_)
  go_wp2_with fail
  refine HSY.mono ?_
  rintro e w1 ⟨rfl, hb1⟩
  have L1 := HAD.out.below hb1
  have T1 := TD.below hb1
  clear HSY HAD hb1 TD d4 d5 d6 c4 c5 c6 f6
  have HL1 : Hid (LI w1 P { s with nn := s.nn + 1 } F ao co D) := L1
  have HT1 : Hid (Touch w w1 F) := T1
  obtain ⟨c0, c1, c2, c3, c4, c5, c6⟩ := L1.cells
  have f4 := L1.row.frozen 4
  have f5 := L1.row.frozen 5
  have f6 := L1.row.frozen 6
  simp only at c4 c5 c6
  by_cases hx : s.nn + 1 < k
  · have e : s.step = { s with nn := s.nn + 1 } := by rw [HST.out, if_pos hx]
    have HE : Hid (s.step = { s with nn := s.nn + 1 }) := e
    clear e L1 T1 c0 c1 c2 c3
    go_wp2
    refine bodyPost_ret (v := .tuple #[]) (by simp [results, Tryz.results56]) rfl ?_
    rw [HE.out]
    exact ⟨rfl, HL1.out, HT1.out⟩
  · have L2 := (L1.setNn 0).setNb (s.nb + 1)
    have T2 : Touch w ((w1.setCell ⟨P, 6, none⟩ (.int .i64 0)).setCell ⟨P, 5, none⟩ (.int .i64 ((s.nb : Int) + 1))) F := (T1.set L1.fP).set L1.fP
    have L2' : LI ((w1.setCell ⟨P, 6, none⟩ (.int .i64 0)).setCell ⟨P, 5, none⟩ (.int .i64 ((s.nb : Int) + 1))) P { s with nn := 0, nb := s.nb + 1 } F ao co D := L2
    obtain ⟨v, hv⟩ : ∃ v, v = ((w1.setCell ⟨P, 6, none⟩ (.int .i64 0)).setCell ⟨P, 5, none⟩ (.int .i64 ((s.nb : Int) + 1))).drew := ⟨_, rfl⟩
    have LV : LI v P { s with nn := 0, nb := s.nb + 1 } F ao co D := by rw [hv]; exact L2'.drew
    have TV : Touch w v F := by rw [hv]; exact T2.drew
    have HLV : Hid (LI v P { s with nn := 0, nb := s.nb + 1 } F ao co D) := LV
    have HTV : Hid (Touch w v F) := TV
    obtain ⟨g, rfl, hg, hsl⟩ := LV.slot (by show 0 < s.objs.length; omega)
    have s1 := (hsl s.no hi).2
    have HI : Hid (s.no < s.objs.length) := hi
    obtain ⟨d0, d1, d2, d3, d4, d5, d6⟩ := LV.cells
    simp only at d3 d4 d5 d6
    have g4 := LV.row.frozen 4
    have g5 := LV.row.frozen 5
    have s1' : v.cell? ⟨g, s.no * 2 + 1, none⟩ = some (.slice (some ⟨D s.no, 0, none⟩) (s.blk s.no) (s.blk s.no)) := s1
    clear L1 L2 L2' T1 T2 c0 c1 c2 c3 s1 d0 d1 d2 LV TV hsl HL1 HT1
    go_wp2_with fail
    (refine wp_region_still_tail 18 (by kernel_rfl) (by kernel_rfl) ?_; change wpStill _ _ (World.drew _) (fun a' => wpList _ _ _ _ a' (World.drew _)) _ _; simp only [← hv]; clear hv; simp only [List.take_succ_cons, List.take_zero, List.drop_succ_cons, List.drop_zero]; (repeat still_step); refine wpStill_nil ?_)
    clear c4 c5 c6 f4 f5 f6
    by_cases hy : s.nb + 1 < s.blk s.no
    · have HE : Hid (s.step = { s with nn := 0, nb := s.nb + 1 }) := by unfold Hid; rw [HST.out, if_neg hx, if_pos hy]
      clear hx
      go_wp2
      refine bodyPost_ret (v := .tuple #[]) (by simp [results, Tryz.results56]) rfl ?_
      rw [HE.out]
      exact ⟨rfl, HLV.out, HTV.out⟩
    · have HE : Hid (s.step = { s with nn := 0, nb := 0, no := s.no + 1 }) := by unfold Hid; rw [HST.out, if_neg hx, if_neg hy]
      have HLZ : Hid (LI ((v.setCell ⟨P, 5, none⟩ (.int .i64 (0 : Nat))).setCell ⟨P, 4, none⟩ (.int .i64 (s.no + 1 : Nat))) P { s with nn := 0, nb := 0, no := s.no + 1 } F (some ⟨g, 0, none⟩) co D) := (HLV.out.setNb 0).setNo (s.no + 1)
      have HTZ : Hid (∀ a b, Touch w ((v.setCell ⟨P, 5, none⟩ a).setCell ⟨P, 4, none⟩ b) F) := fun a b => (HTV.out.set HLV.out.fP).set HLV.out.fP
      clear hx
      go_wp2
      refine bodyPost_end (v := .tuple #[]) (by simp [results, Tryz.results56]) rfl ?_
      rw [HE.out]
      exact ⟨rfl, HLZ.out, HTZ.out _ _⟩
end Sn
end Go.Proofs.YtkgnmcekeeannaaGreat
/-
  The landed layout's Data: a block's symbols, filled up.
-/
namespace Go.Proofs.YtkgnmcekeeannaaGreat
open Go.RowKit Go.Deep
namespace Sn
open Bs
open Ms (txt)
set_option linter.unusedVariables false

open Cod (conv_own one_news)
def flB (o : ByteArray) (Q j : Nat) : List UInt8 := (List.range j).map (fun i => o.data.toList.getD (Q + i) 0)
theorem flB_succ (o : ByteArray) (Q j : Nat) : flB o Q (j + 1) = flB o Q j ++ [o.data.toList.getD (Q + j) 0] := by simp [flB, List.range_succ]
set_option maxRecDepth 100000 in
set_option maxHeartbeats 4000000 in
theorem layData (n : Nm) (o : ByteArray) (b : Nat) (w : World) (hn : n.ok) (ho : o.size ≤ 256) (hbb : b ≤ 255) :
    Calls Tryz.prog 88 #[nmV n, .string o, .int .i64 b] w fun e w' => e = .returned (.string (txt (filledB n o b))) ∧ Below w.heap.size w w' := by
  have B0 : Below w.heap.size w (w.alloc (lBox n.size n.block n.spare)).drew := ((Below.refl _ _).alloc (Nat.le_refl _) _).drew
  have HS : Calls Tryz.prog 81 #[nmV n, .int .i64 o.size, .int .i64 b] (w.alloc (lBox n.size n.block n.spare)).drew fun e w' => e = .returned (.int .i64 (n.many o.size b : Nat)) ∧ Below w.heap.size w w' ∧ w'.cell? ⟨w.heap.size, 0, none⟩ = some (.int .i64 n.size) ∧ w'.cell? ⟨w.heap.size, 1, none⟩ = some (.int .i64 n.block) ∧ w'.cell? ⟨w.heap.size, 2, none⟩ = some (.int .i64 n.spare) := by
    refine (laySymbols n o.size b _ hn (by omega) (by omega)).mono ?_
    rintro e w1 ⟨rfl, hb1⟩
    exact ⟨rfl, B0.trans (hb1.mono (by simp)), (hb1.cell (p := ⟨w.heap.size, 0, none⟩) (by simp)).trans (cell_new (w := w) rfl rfl), (hb1.cell (p := ⟨w.heap.size, 1, none⟩) (by simp)).trans (cell_new (w := w) rfl rfl), (hb1.cell (p := ⟨w.heap.size, 2, none⟩) (by simp)).trans (cell_new (w := w) rfl rfl)⟩
  have hM := many_le n o.size b
  have HFB : Hid (filledB n o b = (List.range (n.many o.size b * n.size)).map (fun i => o.data.toList.getD (b * n.block * n.size + i) 0)) := rfl
  obtain ⟨z, bk, sp⟩ := n
  obtain ⟨h1, h2, h3, h4, h5⟩ := hn
  simp only at h1 h2 h3 h4 h5 hM HFB HS B0 ⊢
  generalize filledB ⟨z, bk, sp⟩ o b = FB at *
  generalize (⟨z, bk, sp⟩ : Nm).many o.size b = k at *
  simp only [nmV] at HS
  obtain ⟨Q1, hQ1⟩ : ∃ Q, Q = b * bk := ⟨_, rfl⟩
  have q1b : Q1 ≤ 255 * 8 := by rw [hQ1]; exact Nat.mul_le_mul hbb h4
  have q1 : (b : Int) * (bk : Int) = (Q1 : Int) := by rw [hQ1]; simp
  rw [← hQ1] at HFB
  obtain ⟨Q2, hQ2⟩ : ∃ Q, Q = Q1 * z := ⟨_, rfl⟩
  have q2b : Q2 ≤ 255 * 8 * 16 := by rw [hQ2]; exact Nat.mul_le_mul q1b h2
  have q2 : (Q1 : Int) * (z : Int) = (Q2 : Int) := by rw [hQ2]; simp
  rw [← hQ2] at HFB
  obtain ⟨R, hRz⟩ : ∃ Q, Q = k * z := ⟨_, rfl⟩
  have rb : R ≤ 8 * 16 := by rw [hRz]; exact Nat.mul_le_mul (by omega) h2
  have r1 : (k : Int) * (z : Int) = (R : Int) := by rw [hRz]; simp
  rw [← hRz] at HFB
  clear hQ1 hQ2 hRz
  obtain ⟨i0, hi, hz0, hz1, hz2⟩ := info_parts3 Cod.infoByte
  have hb0 : 0 ≤ (b : Int) := by omega
  have hk0 : 0 ≤ (k : Int) := by omega
  have e1 : IntKind.i64.wrap (Q1 : Int) = (Q1 : Int) := IntWalk.i64_in _ ⟨by omega, by omega⟩
  have e2 : IntKind.i64.wrap (Q2 : Int) = (Q2 : Int) := IntWalk.i64_in _ ⟨by omega, by omega⟩
  have e3 : IntKind.i64.wrap (R : Int) = (R : Int) := IntWalk.i64_in _ ⟨by omega, by omega⟩
  go_enter Tryz.func88, Tryz.ntmps88
  clear B0
  go_wp2_with fail
  go_region_held3 (fun w' => w'.cell? ⟨w.heap.size, 0, none⟩ = some (.int .i64 z) ∧ w'.cell? ⟨w.heap.size, 1, none⟩ = some (.int .i64 bk) ∧ w'.cell? ⟨w.heap.size, 2, none⟩ = some (.int .i64 sp)) (go_keep)
    (first | (go_at_call 81; refine HS.mono ?_; rintro e w1 ⟨rfl, B1, k0, d1, k2⟩))
  clear HS
  have B2 : Below w.heap.size w w1 := B1
  clear B1
  obtain ⟨w2, hw2⟩ : ∃ w2, w2 = w1 := ⟨_, rfl⟩
  rw [← hw2] at B2 k0 d1 k2 ⊢
  clear hw2
  have hz2' := B2.size
  have h0 : (w2.alloc (Obj.cells #[] 5)).ownsRow w.heap.size 5 1 (.slice (some ⟨w2.heap.size, 0, none⟩) 0 0) 0 ((flB o Q2 0).map Cod.bv) := World.ownsRow_made w2 #[] 0 hz2' (by decide) rfl
  have HO : Hid ((w2.alloc (Obj.cells #[] 5)).ownsRow w.heap.size 5 1 (.slice (some ⟨w2.heap.size, 0, none⟩) 0 0) 0 ((flB o Q2 0).map Cod.bv)) := h0
  have B3 : Hid (Below w.heap.size w (w2.alloc (Obj.cells #[] 5))) := B2.alloc hz2' _
  clear h0 B2
  go_wp2
  clear k0 d1 k2
  go_loopw [9, 10] (fun v i wr => ∃ j : Nat, j ≤ R ∧ i = .int .i64 (Q2 + j : Nat) ∧ wr.ownsRow w.heap.size 5 1 v j ((flB o Q2 j).map Cod.bv) ∧ Below w.heap.size w wr) (fun _ i _ => Q2 + R - (intOf i).toNat)
  case atStart => exact ⟨0, Nat.zero_le _, rfl, HO.out, B3.out⟩
  case round =>
    clear HO B3
    obtain ⟨j, hj, rfl, hown, hnx⟩ := hrel
    have hsz := hnx.size
    obtain ⟨p, hp⟩ : ∃ p, p = Q2 + j := ⟨_, rfl⟩
    rw [← hp]
    have HP : Hid (p = Q2 + j) := hp
    have pb : p ≤ 40000 := by omega
    by_cases hlt : j < R
    · have lt1 : (p : Int) < (Q2 : Int) + (R : Int) := by omega
      by_cases hin : p < o.size
      · have HV : Hid ((flB o Q2 j).map Cod.bv ++ [.int .u8 (o[p].toNat : Nat)] = (flB o Q2 (j + 1)).map Cod.bv) := by
          unfold Hid
          rw [flB_succ, List.map_append]
          congr 1
          show [_] = [Cod.bv _]
          rw [List.getD_eq_getElem?_getD, ← hp, List.getElem?_eq_getElem (by simpa using hin)]; rfl
        clear hp
        go_wp2_with (at_builtin; refine wpList_append_own _ rfl _ _ 76 rfl w.heap.size 5 i0 (.int .u8 0) 1 1 Tryz.underlying76 hi hz0 hz1 hz2 rfl (by decide) _ _ _ rfl (hown.alloc _) ⟨wr.heap.size, 0, none⟩ 1 1 [.int .u8 (o[p].toNat : Nat)] rfl rfl one_news ?c2 ?c3 ?c4 ?c5 ?_)
        case c2 => intro u hu; simp at hu; subst hu; rfl
        case c3 => unfold maxLen; omega
        case c4 => omega
        case c5 => simp; omega
        · intro v' w3 hown' hgrow _
          have hb := Cod.below_append hnx hsz hown hgrow
          rw [HV.out] at hown'
          clear hown hgrow hnx
          go_wp2
          go_roundw
          case rel => exact ⟨j + 1, by omega, by rw [HP.out]; go_num, hown', hb⟩
          case measure => simp [intOf]; omega
      · have HV : Hid ((flB o Q2 j).map Cod.bv ++ [.int .u8 0] = (flB o Q2 (j + 1)).map Cod.bv) := by
          unfold Hid
          rw [flB_succ, List.map_append]
          congr 1
          show [_] = [Cod.bv _]
          rw [List.getD_eq_getElem?_getD, ← hp, List.getElem?_eq_none (by simpa using hin)]; rfl
        have hin2 : (o.size : Int) ≤ (p : Int) := by omega
        clear hp hin
        go_wp2_with (at_builtin; refine wpList_append_own _ rfl _ _ 76 rfl w.heap.size 5 i0 (.int .u8 0) 1 1 Tryz.underlying76 hi hz0 hz1 hz2 rfl (by decide) _ _ _ rfl (hown.alloc _) ⟨wr.heap.size, 0, none⟩ 1 1 [.int .u8 0] rfl rfl one_news ?c2 ?c3 ?c4 ?c5 ?_)
        case c2 => intro u hu; simp at hu; subst hu; rfl
        case c3 => unfold maxLen; omega
        case c4 => omega
        case c5 => simp; omega
        · intro v' w3 hown' hgrow _
          have hb := Cod.below_append hnx hsz hown hgrow
          rw [HV.out] at hown'
          clear hown hgrow hnx
          go_wp2
          go_roundw
          case rel => exact ⟨j + 1, by omega, by rw [HP.out]; go_num, hown', hb⟩
          case measure => simp [intOf]; omega
    · obtain rfl : j = R := by omega
      have HV : Hid (flB o Q2 j = FB) := by unfold Hid flB; rw [HFB.out]
      have hcv := conv_own (flB o Q2 j) hown
      rw [HV.out] at hcv
      have lt1 : (Q2 : Int) + (j : Int) ≤ (p : Int) := by omega
      clear hown hp hlt
      go_wp2
      go_ret
      exact ⟨rfl, hnx⟩
end Sn
end Go.Proofs.YtkgnmcekeeannaaGreat
