import Derived.Test.YtkgnmcekeeannaaGreatY39
import Derived.Test.YtkgnmcekeeannaaGreatY38
import Derived.Test.YtkgnmcekeeannaaGreatY25
import Derived.Deep.RegionHeld3
/-
  The reference's receiver: Known; what its calls keep; what stays of it.
-/
namespace Go.Proofs.YtkgnmcekeeannaaGreat
open Go.RowKit Go.Deep
namespace Sn
open Bs
open Ms (txt text ok M It Tells)
set_option linter.unusedVariables false

theorem refKnown (r : Rt) (P : Nat) (F : Nat → Prop) (w : World) (hA : RcvAt w P r F) :
    Calls Tryz.prog 28 #[.pointer (some ⟨P, 0, none⟩)] w fun e w' => e = .returned (.int .i64 r.known) ∧ w' = w := by
  obtain ⟨hs, ah, ch, hh, hI⟩ := hA
  have x4 : w.cell? ⟨P, 4, none⟩ = some (.int .i64 r.known) := hI.row.cell (by decide)
  clear hI hh
  go_enter Tryz.func28, Tryz.ntmps28
  go_wp2
  go_ret
  exact ⟨rfl, rfl⟩
/-- with a count of the calls -/
structure ROkC (r : Rt) (c : Nat) : Prop where
  nok : r.n.ok
  kn : r.known ≤ 8
  tk : r.taken ≤ r.known
  hl : r.heard.length ≤ c
  hd : ∀ m ∈ r.heard, m.kind = 1 ∧ Ms.dataOK m ∧ m.sym.size = r.n.size
theorem ROkC.ok {r : Rt} {c : Nat} (h : ROkC r c) (hc : c ≤ 1048576) : ROk r := ⟨h.nok, h.kn, by have := h.hl; omega, h.hd⟩
theorem ROkC.mono {r : Rt} {c c' : Nat} (h : ROkC r c) (hc : c ≤ c') : ROkC r c' := ⟨h.nok, h.kn, h.tk, by have := h.hl; omega, h.hd⟩
theorem ROkC.new {n : Nm} (hn : n.ok) : ROkC (Rt.fresh n) 0 := ⟨hn, by simp [Rt.fresh], by simp [Rt.fresh], by simp [Rt.fresh], by simp [Rt.fresh]⟩
theorem ROkC.hear {r : Rt} {c : Nat} (h : ROkC r c) {m : M} (hm : Ms.ok m) : ROkC (r.hear m).1 (c + 1) := by
  have h0 := h.mono (Nat.le_succ c)
  unfold Rt.hear
  split
  · exact h0
  · rename_i k2
    split
    · rename_i k3
      have ho : m.objs ≤ 8 := by
        rcases hm with q | q | q
        · rw [k3] at q; exact absurd q.1 (by decide)
        · rw [k3] at q; exact absurd q.1 (by decide)
        · exact q.2.2.1
      exact ⟨h.nok, by show max r.known m.objs.toNat ≤ 8; have := h.kn; omega, by show r.taken ≤ max r.known m.objs.toNat; have := h.tk; omega, h0.hl, h.hd⟩
    · rename_i k3
      have hd : m.kind = 1 ∧ Ms.dataOK m := by
        rcases hm with q | q | q
        · exact q
        · exact absurd q.1 k2
        · exact absurd q.1 k3
      simp only []
      split
      · exact h0
      · rename_i hg
        split
        · exact h0
        · have hs : m.sym.size = r.n.size := by
            by_cases e : m.sym.size = r.n.size
            · exact e
            · exact absurd (.inl e) hg
          have ho := hd.2.2.1
          refine ⟨h.nok, ?_, ?_, ?_, ?_⟩
          · show max r.known (m.obj.toNat + 1) ≤ 8
            have := h.kn
            obtain ⟨_, q2, _⟩ := hd.2
            omega
          · show r.taken ≤ max r.known _
            have := h.tk
            omega
          · show (r.heard ++ [m]).length ≤ c + 1
            have := h.hl
            simp; omega
          · intro x hx
            rcases List.mem_append.1 hx with e | e
            · exact h.hd x e
            · rw [List.mem_singleton.1 e]; exact ⟨hd.1, hd.2, hs⟩
theorem ROkC.take {r : Rt} {c : Nat} (h : ROkC r c) : ROkC r.take.1 c := by
  unfold Rt.take
  split
  · exact h
  · rename_i hn
    have : ¬ r.known ≤ r.taken := fun e => hn (.inl e)
    exact ⟨h.nok, h.kn, by show r.taken + 1 ≤ r.known; omega, h.hl, h.hd⟩
theorem owns_same' {w w' : World} {base e size n : Nat} {v : Value} {xs : List Value} (h : w.ownsRow base e size v n xs) (hb : ∀ b, v.ownBlock = some b → w'.heap[b]? = w.heap[b]?) : w'.ownsRow base e size v n xs := by
  refine ⟨h.1, ?_⟩
  rcases h.2 with hn | ⟨g, cap, cur, e, hb', hg, rest⟩
  · exact .inl hn
  · refine .inr ⟨g, cap, cur, e, hb', ?_, rest⟩
    rw [hb g (by rw [e]; rfl)]
    exact hg
theorem RcvAt.stay {w w' : World} {P : Nat} {r : Rt} {F F' G : Nat → Prop} (h : RcvAt w P r F) (t : Touch w w' G) (hd : ∀ b, F b → ¬ G b) (hF : ∀ b, F b → b < w.heap.size → F' b) : RcvAt w' P r F' := by
  obtain ⟨hs, ah, ch, hh, h⟩ := h
  have fh : ∀ b, (Value.slice ah hs.length ch).ownBlock = some b → F b := fun b hb => (h.fh b hb).elim id (fun e => absurd (h.hd.lt b hb).2 (by omega))
  exact ⟨hs, ah, ch, hh, h.row.of_block (t.block _ h.row.lt (hd _ h.fP)), owns_same' h.hd (fun b hb => t.block b (h.hd.lt b hb).2 (hd _ (fh b hb))), hF _ h.fP h.row.lt, h.hp, fun b hb => .inl (hF _ (fh b hb) (h.hd.lt b hb).2), Touch.refl _ _⟩
end Sn
end Go.Proofs.YtkgnmcekeeannaaGreat
/-
  The landed receiver's Hear.
-/
namespace Go.Proofs.YtkgnmcekeeannaaGreat
open Go.RowKit Go.Deep
namespace Sn
open Bs
open Ms (M It txt text ok mV mVm mBox dataOK owns_setCell Tells ReadOut mRead)
set_option linter.unusedVariables false

def LHearOutR (r : Rt) (t : ByteArray) (e : Ending) (w w' : World) (P : Nat) (F : Nat → Prop) : Prop :=
  (∃ m, Tells t m ∧ e = .returned (.int .i64 (r.hear m).2) ∧ LRIs w w' P (LR.of (r.hear m).1) F) ∨
  ((∀ m, ¬ Tells t m) ∧ e = .returned (.int .i64 6) ∧ LRIs w w' P (LR.of r) F)
theorem LRIs.call {w w1 w2 : World} {P : Nat} {r r' : LR} {F : Nat → Prop} (h : LRIs w w1 P r F) (h2 : LRIs w1 w2 P r' (grow F w w1)) : LRIs w w2 P r' F := h2.trans h.2
theorem LRIs.tight {w w1 : World} {P : Nat} {r : LR} {F : Nat → Prop} (h : LRIs w w1 P r F) : LRIs w1 w1 P r (grow F w w1) := by
  obtain ⟨⟨K, ao, co, D, nv, sv, h⟩, _⟩ := h
  exact LRIs.refl h
theorem come_small {r : Rt} (hr : ROk r) (o b : Nat) : ((r.come o b).map M.num).length ≤ 8 ∧ (symsOf (r.come o b)).length ≤ 128 := by
  have h1 := come_len r o b
  have h2 := many_le r.n (r.len o) b
  obtain ⟨_, hz, _, hb, _⟩ := hr.nok
  have h3 := syms_size r hr o b
  rw [Ms.txt_size] at h3
  have : (r.come o b).length * r.n.size ≤ 8 * 16 := Nat.mul_le_mul (by omega) hz
  rw [List.length_map]
  omega
set_option maxHeartbeats 4000000 in
set_option maxRecDepth 100000 in
/-- data, as it was read -/
theorem lanHearData (r : Rt) (m : M) (io : Option Addr) (ci : Nat) (P : Nat) (F : Nat → Prop) (w : World) (hr : ROk r) (hm : m.kind = 1 ∧ dataOK m) (hA : LRIs w w P (LR.of r) F) :
    Calls Tryz.prog 69 #[.pointer (some ⟨P, 0, none⟩), mVm m io ci] w fun e w' => e = .returned (.int .i64 (r.hear m).2) ∧ LRIs w w' P (LR.of (r.hear m).1) F := by
  obtain ⟨hk, q1, q2, q3, q4, q5, q6, q7, q8, q9, q10, q11⟩ := hm
  obtain ⟨o, ho⟩ := Int.eq_ofNat_of_zero_le q1
  obtain ⟨b, hb⟩ := Int.eq_ofNat_of_zero_le q3
  obtain ⟨x, hx⟩ := Int.eq_ofNat_of_zero_le q5
  obtain ⟨L, hL⟩ := Int.eq_ofNat_of_zero_le (show 0 ≤ m.len by omega)
  have eo : m.obj.toNat = o := by omega
  have eb : m.blk.toNat = b := by omega
  have ex : m.num.toNat = x := by omega
  have eL : m.len.toNat = L := by omega
  have hbd : Bad r m ↔ (LR.of r).badD b x L m.sym := by
    unfold Bad LR.badD
    rw [eb, ex, eL]
    exact Iff.rfl
  have hsz := (hr.len o).1
  by_cases hB : Bad r m
  · have H := lanHearData_bad (LR.of r) m.kind o b x L m.sym io m.items.length ci m.objs P F w hr.nok (by omega) (by omega) (by omega) (by omega) (by omega) (by omega) hA (hbd.1 hB)
    rw [hear_bad hk hB]
    show Calls _ _ #[_, mV m.kind m.obj m.blk m.num m.len m.sym io m.items.length ci m.objs] _ _
    rw [ho, hb, hx, hL]
    exact H
  · have H := lanHearData_good (LR.of r) m.kind o b x L m.sym io m.items.length ci m.objs P F w hr.nok (by omega) (by omega) (by omega) (by omega) (by omega) (by omega) hA (fun q => hB (hbd.2 q)) hr.kn (fun b => (come_small hr o b).1) (fun b => (come_small hr o b).2) (fun h0 b => by
      have : r.come o b = [] := come_zero h0
      show (r.come o b).map M.num = [] ∧ symsOf (r.come o b) = []
      rw [this]; exact ⟨rfl, rfl⟩)
    show Calls _ _ #[_, mV m.kind m.obj m.blk m.num m.len m.sym io m.items.length ci m.objs] _ _
    have H2 := H
    rw [← ho, ← hb, ← hx, ← hL] at H2
    refine H2.mono ?_
    rintro e w' ho'
    rcases ho' with ⟨⟨n1, n2⟩, rfl, hl⟩ | ⟨hc, rfl, hl⟩
    · have n1' : r.len o ≠ 0 := n1
      have n2' : r.len o ≠ L := n2
      rw [hear_clash hk hB (by rw [ho]; constructor <;> omega)]
      exact ⟨rfl, hl⟩
    · have hc' : r.len o = 0 ∨ r.len o = L := hc
      rw [hear_got hk hB (by rw [ho]; omega)]
      refine ⟨rfl, ?_⟩
      obtain ⟨⟨K, ao, co, D, nv, sv, hI⟩, ht⟩ := hl
      refine ⟨⟨K, ao, co, D, nv, sv, got_lr (r1 := (LR.of r).began o L) hr (by omega) (by rw [eo]; omega) q1 q3 (by rw [eo, eL]; rfl) ?_⟩, ht⟩
      rw [eo, eb, eL]
      have hlv : ((LR.of r).began o L).live o ↔ r.taken ≤ o := by
        constructor
        · exact fun h => h.2.2
        · intro h
          refine ⟨by show o < max r.known (o + 1); omega, ?_, h⟩
          show upd1 r.len o L o ≠ 0
          simp [upd1]; omega
      rw [hlv]
      unfold LR.gotD at hI
      refine ⟨fun h => ?_, fun h => ?_⟩
      · rw [if_pos (show (LR.of r).tk ≤ o from h), ← hx] at hI
        exact hI
      · rw [if_neg (show ¬ (LR.of r).tk ≤ o from h)] at hI
        exact hI
set_option maxHeartbeats 4000000 in
set_option maxRecDepth 100000 in
theorem lanHearR (r : Rt) (tx : ByteArray) (P : Nat) (F : Nat → Prop) (w : World) (ht : tx.size ≤ 1048576) (hr : ROk r) (hA : LRIs w w P (LR.of r) F) :
    Calls Tryz.prog 51 #[.pointer (some ⟨P, 0, none⟩), .string tx] w fun e w' => LHearOutR r tx e w w' P F := by
  have HR := mRead tx w ht
  have HA : Hid (LRIs w w P (LR.of r) F) := hA
  have HRO : Hid (ROk r) := hr
  clear hA ht hr
  go_enter Tryz.func51, Tryz.ntmps51
  go_wp2_with fail
  refine HR.mono ?_
  rintro e w1 ⟨ho, hb1⟩
  have HA1 : Hid (LRIs w w1 P (LR.of r) F) := HA.out.below hb1
  clear HR HA
  rcases ho with ⟨m, io, ci, htl, rfl, hown⟩ | ⟨hno, rfl⟩
  · have HT : Hid (Tells tx m) := htl
    have B2 : Below w1.heap.size w1 (w1.alloc (mBox m.kind m.obj m.blk m.num m.len m.sym io m.items.length ci m.objs)) := (Below.refl _ _).alloc (Nat.le_refl _) _
    have HA2 : Hid (LRIs w (w1.alloc (mBox m.kind m.obj m.blk m.num m.len m.sym io m.items.length ci m.objs)) P (LR.of r) F) := HA1.out.below B2
    have m0 : ∀ (j : Nat) (v : Value), (#[.int .i64 m.kind, .int .i64 m.obj, .int .i64 m.blk, .int .i64 m.num, .int .i64 m.len, .string m.sym, .slice io m.items.length ci, .int .i64 m.objs] : Array Value)[j]? = some v → (w1.alloc (mBox m.kind m.obj m.blk m.num m.len m.sym io m.items.length ci m.objs)).cell? ⟨w1.heap.size, j, none⟩ = some v := fun j v h => cell_new rfl h
    clear hown hb1 B2 HA1
    rcases htl.1 with hk | hk | hk
    · obtain ⟨hk1, hd⟩ := hk
      have tk : (m.kind == 1) = true := by rw [hk1]; rfl
      have HD := lanHearData r m io ci P _ _ HRO.out ⟨hk1, hd⟩ HA2.out.tight
      clear hk1 hd htl
      go_wp2_with fail
      refine HD.mono ?_
      rintro e w3 ⟨rfl, hl⟩
      have HF : Hid (LRIs w w3 P (LR.of (r.hear m).1) F) := HA2.out.call hl
      clear HD hl HA2 m0
      go_wp2_with fail
      go_ret
      exact .inl ⟨m, HT.out, rfl, HF.out⟩
    · have hk2 : m.kind = 2 := hk.1
      have HM : Hid (r.hear m = (r, 6)) := by unfold Hid Rt.hear; rw [if_pos hk2]
      have t1 : (m.kind == 1) = false := by rw [hk2]; rfl
      have t2 : (m.kind == 3) = false := by rw [hk2]; rfl
      clear hk hk2 htl
      have c0 := m0 0 _ rfl
      clear m0
      go_wp2_with fail
      go_ret
      exact .inl ⟨m, HT.out, by rw [HM.out]; rfl, by rw [HM.out]; exact HA2.out⟩
    · have hk3 : m.kind = 3 := hk.1
      have ho1 : 0 ≤ m.objs := hk.2.1
      have ho2 : m.objs ≤ 8 := hk.2.2.1
      have HM : Hid (r.hear m = ({ r with known := max r.known m.objs.toNat }, 0)) := by unfold Hid Rt.hear; rw [if_neg (by omega), if_pos hk3]
      have t1 : (m.kind == 1) = false := by rw [hk3]; rfl
      have t2 : (m.kind == 3) = true := by rw [hk3]; rfl
      have c0 := m0 0 _ rfl
      have c7 := m0 7 _ rfl
      clear hk hk3 htl m0
      obtain ⟨C, hC⟩ := Int.eq_ofNat_of_zero_le ho1
      have HC : Hid (m.objs = (C : Int)) := hC
      have hC8 : C ≤ 8 := by omega
      obtain ⟨⟨K, ao, co, D, nv, sv, hI⟩, hT⟩ := HA2.out
      have HKO := lanKnowOf (LR.of r) C P _ K ao co D nv sv _ HRO.out.kn hC8 hI
      have HT2 : Hid (Touch w (w1.alloc (mBox m.kind m.obj m.blk m.num m.len m.sym io m.items.length ci m.objs)) F) := hT
      rw [← hC] at HKO
      clear hI hT ho1 ho2 hC HA2
      go_wp2_with fail
      refine HKO.mono ?_
      rintro e w3 ⟨rfl, ⟨⟨K3, ao3, co3, hI3⟩, hT3⟩⟩
      have HF : Hid (LRIs w w3 P { LR.of r with kn := max r.known C } F) := LRIs.trans HT2.out ⟨⟨K3, ao3, co3, D, nv, sv, hI3⟩, hT3⟩
      clear HKO hI3 hT3 HT2 c0 c7
      go_wp2_with fail
      go_ret
      refine .inl ⟨m, HT.out, by rw [HM.out]; rfl, ?_⟩
      rw [HM.out]
      have e : m.objs.toNat = C := by rw [HC.out]; simp
      simp only [e]
      exact HF.out
  · have HNO : Hid (∀ m, ¬ Tells tx m) := hno
    have HA2 : Hid (∀ o, LRIs w (w1.alloc o) P (LR.of r) F) := fun o => HA1.out.below ((Below.refl _ _).alloc (Nat.le_refl _) _)
    clear hno hb1 HA1
    go_wp2_with fail
    go_ret
    exact .inr ⟨HNO.out, rfl, HA2.out _⟩
end Sn
end Go.Proofs.YtkgnmcekeeannaaGreat
/-
  The landed receiver's lacking.
-/
namespace Go.Proofs.YtkgnmcekeeannaaGreat
open Go.RowKit Go.Deep
namespace Sn
open Bs
open Ms (txt text ok M It mV mVm mBox itF itOK ItemsAt owns_setCell owns_items icells icell)
set_option linter.unusedVariables false

/-- what was handed over is whole -/
def TW (r : Rt) : Prop := ∀ o, o < r.taken → Whole r o
theorem whole_lacks {r : Rt} {o : Nat} (h : Whole r o) : r.lacks o = [] := by
  rw [lacks_eq, if_neg h.1]
  unfold lackTo
  refine List.filterMap_eq_nil_iff.2 (fun b hb => ?_)
  unfold lackOf
  rw [if_neg (by rw [h.2 b (List.mem_range.1 hb)]; omega)]
theorem TW.new (n : Nm) : TW (Rt.fresh n) := fun o ho => absurd ho (Nat.not_lt_zero _)
theorem TW.take {r : Rt} (h : TW r) : TW r.take.1 := by
  unfold Rt.take
  split
  · exact h
  · rename_i hn
    have hl : r.lacks r.taken = [] := by
      by_cases e : r.lacks r.taken = []
      · exact e
      · exact absurd (.inr e) hn
    intro o ho
    have ho' : o < r.taken + 1 := ho
    by_cases e : o = r.taken
    · rw [e]; exact whole_of hl
    · exact h o (by omega)
theorem whole_got {r : Rt} {m : M} {o : Nat} (hr : ROk r) (hm : 1 ≤ m.len) (hc : r.len m.obj.toNat = 0 ∨ (r.len m.obj.toNat : Int) = m.len) (ho : 0 ≤ m.obj) (hb : 0 ≤ m.blk) (h : Whole r o) : Whole (r.got m) o := by
  have el : (r.got m).len o = r.len o := by
    rw [got_len hr hm hc ho]
    by_cases e : (o : Int) = m.obj
    · rw [if_pos e]
      have e2 : m.obj.toNat = o := by omega
      have := h.1
      rw [e2] at hc
      omega
    · rw [if_neg e]
  refine ⟨by rw [el]; exact h.1, fun b hb' => ?_⟩
  rw [el] at hb' ⊢
  have hw := h.2 b hb'
  rw [got_come hr hm hc ho hb]
  have en : (r.got m).n = r.n := rfl
  rw [en]
  split
  · rename_i q
    exfalso
    have e2 : m.obj.toNat = o := by have := q.1.1; omega
    have e3 : m.blk.toNat = b := by have := q.1.2; omega
    have hlen : r.len o = m.len.toNat := by have := h.1; rw [e2] at hc; omega
    have := q.2.1
    rw [hw, hlen] at this
    omega
  · exact hw
theorem TW.hear {r : Rt} (hr : ROk r) (h : TW r) {m : M} (hm : Ms.ok m) : TW (r.hear m).1 := by
  rcases hm with hk | hk | hk
  · obtain ⟨hk1, q1, q2, q3, q4, q5, q6, q7, q8, q9, q10, q11⟩ := hk
    by_cases hB : Bad r m
    · rw [hear_bad hk1 hB]; exact h
    · by_cases hc : 0 < lenIn r.heard m.obj ∧ lenIn r.heard m.obj ≠ m.len
      · rw [hear_clash hk1 hB hc]; exact h
      · rw [hear_got hk1 hB hc]
        have e : lenIn r.heard m.obj = (r.len m.obj.toNat : Int) := by
          have := (hr.len m.obj.toNat).1
          rw [← this]; congr 1; omega
        rw [e] at hc
        intro o ho
        exact whole_got hr q7 (by omega) q1 q3 (h o ho)
  · have : r.hear m = (r, 6) := by unfold Rt.hear; rw [if_pos hk.1]
    rw [this]; exact h
  · have e : r.hear m = ({ r with known := max r.known m.objs.toNat }, 0) := by unfold Rt.hear; rw [if_neg (by have := hk.1; omega), if_pos hk.1]
    rw [e]; exact h
set_option maxRecDepth 100000 in
set_option maxHeartbeats 4000000 in
theorem lanLacking (r : Rt) (o : Nat) (P : Nat) (F : Nat → Prop) (w : World) (hr : ROk r) (hw : TW r) (ho : o < r.known) (hA : LRcvAt w P r F) :
    Calls Tryz.prog 65 #[.pointer (some ⟨P, 0, none⟩), .int .i64 o] w fun e w' => ∃ v, e = .returned v ∧ w'.ownsRow w.heap.size 103 3 v (r.lacks o).length (icells (itF (r.lacks o)) (r.lacks o).length) ∧ Below w.heap.size w w' := by
  obtain ⟨K, ao, co, D, nv, sv, hI⟩ := hA
  obtain ⟨_, hln⟩ := hr.len o
  have hk8 := hr.kn
  obtain ⟨g, rfl, hgl, _, s0, s1, _⟩ := hI.slot (o := o) ho
  obtain ⟨c0, c1, c2, c3, c4⟩ := hI.cells
  have hPl := hI.row.lt
  have e0 : (LR.of r).ln o = r.len o := rfl
  have e3 : (LR.of r).kn = r.known := rfl
  rw [e0] at s0
  rw [e3] at c3
  have HI : Hid (LRI w P (LR.of r) F K (some ⟨g, 0, none⟩) co D nv sv) := hI
  obtain ⟨Q, hQ⟩ : ∃ Q, Q = r.known := ⟨_, rfl⟩
  have HO : Hid (o < r.known) := ho
  rw [← hQ] at c3 ho hk8
  clear hI hQ
  by_cases h0 : r.len o = 0
  · have HL0 : Hid (r.lacks o = [⟨o, 0, 0⟩]) := by unfold Hid; rw [lacks_eq, if_pos h0]
    rw [HL0.out]
    rw [h0] at s0
    clear h0
    go_enter Tryz.func65, Tryz.ntmps65
    go_wp2
    go_ret
    refine ⟨_, rfl, ?_, (Below.refl _ _).alloc (Nat.le_refl _) _⟩
    exact World.ownsRow_lit w #[.int .i64 o, .int .i64 0, .int .i64 0] 1 (Nat.le_refl _) (by decide) rfl
  · have t0 : (((r.len o : Nat) : Int) == 0) = false := by simpa using h0
    by_cases htk : r.taken ≤ o
    · have eg : gval (LR.of r) D o = .slice (some ⟨D o, 0, none⟩) (r.n.blocks (r.len o)) (r.n.blocks (r.len o)) := by unfold gval; rw [if_pos ⟨h0, htk⟩]; rfl
      rw [eg] at s1
      have HL0 : Hid (r.lacks o = lackTo r o (r.n.blocks (r.len o))) := by unfold Hid; rw [lacks_eq, if_neg h0]
      rw [HL0.out]
      have hlive : (LR.of r).live o := ⟨HO.out, h0, htk⟩
      have HLV : Hid ((LR.of r).live o) := hlive
      have hBl := blocks_le r.n hr.nok (r.len o) hln
      have HMA := fun W b (hb : b ≤ 255) => laySymbols r.n (r.len o) b W hr.nok (by omega) (by omega)
      have hM8 : ∀ b, r.n.many (r.len o) b ≤ 8 := fun b => by have := many_le r.n (r.len o) b; have := hr.nok.2.2.2.1; omega
      have HM8 : Hid (∀ b, r.n.many (r.len o) b ≤ 8) := hM8
      have HLO : Hid (∀ b, lackOf r o b = if (r.come o b).length < r.n.many (r.len o) b then some ⟨o, b, ((r.n.many (r.len o) b - (r.come o b).length : Nat) : Int)⟩ else none) := fun b => rfl
      have HCL : Hid (∀ b, (r.come o b).length ≤ r.n.many (r.len o) b) := fun b => come_len r o b
      obtain ⟨i0, hi0, hz0, hz1, hz2⟩ := info_parts3 Ms.infoItem
      simp only [nmV] at HMA
      obtain ⟨Bn, hBn⟩ : ∃ Bn, Bn = r.n.blocks (r.len o) := ⟨_, rfl⟩
      have HBn : Hid (Bn = r.n.blocks (r.len o)) := hBn
      rw [← hBn] at hBl s1 ⊢
      obtain ⟨LN, hLN⟩ : ∃ LN, LN = r.len o := ⟨_, rfl⟩
      rw [← hLN] at t0 hln s0
      simp only [← hLN] at HMA HM8 HLO HCL
      clear h0 hBn hM8 hLN eg hlive e0 e3
      go_enter Tryz.func65, Tryz.ntmps65
      have B1 : Below w.heap.size w (w.alloc (Obj.cells #[] 103)) := (Below.refl _ _).alloc (Nat.le_refl _) _
      have HB1 : Hid (Below w.heap.size w (w.alloc (Obj.cells #[] 103))) := B1
      have HO1 : Hid ((w.alloc (Obj.cells #[] 103)).ownsRow w.heap.size 103 3 (.slice (some ⟨w.heap.size, 0, none⟩) 0 0) 0 []) := World.ownsRow_made w #[] 0 (Nat.le_refl _) (by decide) rfl
      clear B1
      go_wp2_with fail
      clear c0 c1 c2 c3 c4 s0 s1
      go_loopw [6, 8] (fun v y wr => ∃ (j : Nat) (av : Option Addr) (cv : Nat), j ≤ Bn ∧ y = .int .i64 j ∧ v = .slice av (lackTo r o j).length cv ∧ wr.ownsRow w.heap.size 103 3 (.slice av (lackTo r o j).length cv) (lackTo r o j).length (icells (itF (lackTo r o j)) (lackTo r o j).length) ∧ Below w.heap.size w wr) (fun _ y _ => Bn - (intOf y).toNat)
      case atStart => exact ⟨0, _, _, Nat.zero_le _, rfl, rfl, HO1.out, HB1.out⟩
      case round =>
        clear HB1 HO1
        obtain ⟨j, av, cv, hj, rfl, rfl, hown, hB⟩ := hrel
        have HOW : Hid (wr.ownsRow w.heap.size 103 3 (.slice av (lackTo r o j).length cv) (lackTo r o j).length (icells (itF (lackTo r o j)) (lackTo r o j).length)) := hown
        have HLL := lackTo_len r o j
        have HLS : Hid (lackTo r o (j + 1) = lackTo r o j ++ (lackOf r o j).toList) := lackTo_succ r o j
        obtain ⟨A, hA⟩ : ∃ A, A = (lackTo r o j).length := ⟨_, rfl⟩
        have HAl : Hid (A = (lackTo r o j).length) := hA
        rw [← hA] at HOW HLL ⊢
        clear hA hown
        by_cases hlt : j < Bn
        · have hcl := HCL.out j
          have hm8 := HM8.out j
          have hlo := HLO.out j
          have HMJ := fun W => HMA W j (by omega)
          have hbk : j < (LR.of r).bks o := by show j < r.n.blocks (r.len o); rw [← HBn.out]; exact hlt
          have HIr : Hid (LRI wr P (LR.of r) F _ (some ⟨g, 0, none⟩) co D nv sv) := HI.out.below hB
          have hPr := HIr.out.row.lt
          have hDr := (HIr.out.bl o HLV.out).lt
          have enm : (LR.of r).nm o j = (r.come o j).map M.num := rfl
          obtain ⟨an, cp, hnv⟩ := owns_form (HIr.out.nu o j HLV.out hbk)
          rw [enm, List.length_map] at hnv
          have HCE : Hid (∀ W, Below wr.heap.size wr W → W.cell? ⟨P, 0, none⟩ = some (.int .i64 r.n.size) ∧ W.cell? ⟨P, 1, none⟩ = some (.int .i64 r.n.block) ∧ W.cell? ⟨P, 2, none⟩ = some (.int .i64 r.n.spare) ∧ W.cell? ⟨D o, j * 2, none⟩ = some (.slice an (r.come o j).length cp)) := fun W hW => by
            have q := HIr.out.below hW
            obtain ⟨c0, c1, c2, _, _⟩ := q.cells
            refine ⟨c0, c1, c2, ?_⟩
            rw [(q.bl o HLV.out).cell (i := j * 2) (by omega)]
            unfold bRow
            rw [if_pos (by omega), show j * 2 / 2 = j from by omega, hnv]
          generalize r.n.many LN j = k at *
          obtain ⟨c, hc⟩ : ∃ c, c = (r.come o j).length := ⟨_, rfl⟩
          rw [← hc] at hcl hlo
          simp only [← hc] at HCE
          have HLO2 : Hid (lackOf r o j = if c < k then some ⟨o, j, ((k - c : Nat) : Int)⟩ else none) := hlo
          have HMC : Calls Tryz.prog 81 #[.agg #[.int .i64 r.n.size, .int .i64 r.n.block, .int .i64 r.n.spare], .int .i64 LN, .int .i64 j] wr.drew fun e W => e = .returned (.int .i64 k) ∧ Hid (Below wr.heap.size wr W) ∧ W.cell? ⟨P, 0, none⟩ = some (.int .i64 r.n.size) ∧ W.cell? ⟨P, 1, none⟩ = some (.int .i64 r.n.block) ∧ W.cell? ⟨P, 2, none⟩ = some (.int .i64 r.n.spare) ∧ W.cell? ⟨D o, j * 2, none⟩ = some (.slice an c cp) := by
            refine (HMJ wr.drew).mono ?_
            rintro e W ⟨rfl, hb⟩
            have hW : Below wr.heap.size wr W := ((Below.refl wr.heap.size wr).drew).trans hb
            exact ⟨rfl, hW, HCE.out W hW⟩
          obtain ⟨c0, c1, c2, s1⟩ := HCE.out wr (Below.refl _ _)
          clear hc hlo HMA hnv enm HIr HCE HMJ
          go_wp2_with fail
          go_region_held3 (fun w' => w'.cell? ⟨P, 0, none⟩ = some (.int .i64 r.n.size) ∧ w'.cell? ⟨P, 1, none⟩ = some (.int .i64 r.n.block) ∧ w'.cell? ⟨P, 2, none⟩ = some (.int .i64 r.n.spare) ∧ w'.cell? ⟨D o, j * 2, none⟩ = some (.slice an c cp)) (go_keep)
            (first | (go_at_call 81; refine HMC.mono ?_; rintro e w4 ⟨rfl, hb4, k0, k1, k2, k3⟩))
          clear HMC c0 c1 c2 s1 k0 k1 k2 k3
          have HB4 : Hid (Below w.heap.size w w4) := hB.trans (hb4.out.mono hB.size)
          have HO4 : Hid (w4.ownsRow w.heap.size 103 3 (.slice av A cv) A (icells (itF (lackTo r o j)) A)) := Ms.owns_below HOW.out hb4.out
          clear hb4 hB HOW
          by_cases hck : c < k
          · have HN1 : Hid (lackTo r o (j + 1) = lackTo r o j ++ [⟨o, j, ((k - c : Nat) : Int)⟩]) := by unfold Hid; rw [HLS.out, HLO2.out, if_pos hck]; rfl
            have HX : Hid (icells (itF (lackTo r o j)) A ++ [.int .i64 o, .int .i64 j, .int .i64 ((k : Int) - (c : Int))] = icells (itF (lackTo r o (j + 1))) (A + 1)) := by
              unfold Hid
              rw [HN1.out, HAl.out, icells_app]
              have e : ((k - c : Nat) : Int) = (k : Int) - (c : Int) := by omega
              simp only [e]
            have HA1 : Hid ((lackTo r o (j + 1)).length = A + 1) := by unfold Hid; rw [HN1.out, List.length_append, ← HAl.out]; rfl
            have hz4 := HB4.out.size
            generalize icells (itF (lackTo r o j)) A = XS at *
            go_wp2_with (at_builtin; refine wpList_append_own _ rfl _ _ 97 rfl w.heap.size 103 i0 (.agg #[.int .i64 0, .int .i64 0, .int .i64 0]) 3 24 Tryz.underlying97 hi0 hz0 hz1 hz2 rfl (by decide) (.slice av A cv) A XS rfl (HO4.out.alloc _) ⟨w4.heap.size, 0, none⟩ 1 1 [.int .i64 o, .int .i64 j, .int .i64 ((k : Int) - (c : Int))] rfl rfl news3 (by intro u hu; simp at hu; rcases hu with rfl | rfl | rfl <;> rfl) (by unfold maxLen; omega) (by omega) (by simp; omega) ?_)
            intro v' w5 hown' hgrow _
            obtain ⟨av2, cv2, rfl⟩ := owns_form hown'
            have hb5 := Cod.below_append HB4.out HB4.out.size HO4.out hgrow
            rw [HX.out] at hown'
            have HO5 : Hid (w5.ownsRow w.heap.size 103 3 (.slice av2 (A + 1) cv2) (A + 1) (icells (itF (lackTo r o (j + 1))) (A + 1))) := hown'
            clear hown' hgrow HO4 HB4
            go_wp2
            go_roundw
            case rel =>
              refine ⟨j + 1, av2, cv2, by omega, by go_num, by rw [HA1.out], ?_, hb5⟩
              rw [HA1.out]; exact HO5.out
            case measure => simp [intOf]; omega
          · have HN1 : Hid (lackTo r o (j + 1) = lackTo r o j) := by unfold Hid; rw [HLS.out, HLO2.out, if_neg hck]; simp
            have hck2 : (k : Int) ≤ (c : Int) := by omega
            clear hck
            go_wp2
            go_roundw
            case rel =>
              refine ⟨j + 1, av, cv, by omega, by go_num, by rw [HN1.out, ← HAl.out], ?_, HB4.out⟩
              rw [HN1.out, ← HAl.out]; exact HO4.out
            case measure => simp [intOf]; omega
        · obtain rfl : j = Bn := by omega
          clear hlt
          go_wp2
          go_ret
          rw [← HAl.out]
          exact ⟨_, rfl, HOW.out, hB⟩
    · have HL0 : Hid (r.lacks o = []) := whole_lacks (hw o (by omega))
      rw [HL0.out]
      have eg : gval (LR.of r) D o = .slice none 0 0 := by unfold gval; rw [if_neg (fun q => htk q.2)]
      rw [eg] at s1
      clear h0 htk eg
      generalize r.len o = LN at *
      go_enter Tryz.func65, Tryz.ntmps65
      have HO1 : Hid ((w.alloc (Obj.cells #[] 103)).ownsRow w.heap.size 103 3 (.slice (some ⟨w.heap.size, 0, none⟩) 0 0) 0 []) := World.ownsRow_made w #[] 0 (Nat.le_refl _) (by decide) rfl
      have HB1 : Hid (Below w.heap.size w (w.alloc (Obj.cells #[] 103))) := (Below.refl _ _).alloc (Nat.le_refl _) _
      go_wp2_with fail
      go_loop [6, 8] (fun v y => v = .slice (some ⟨w.heap.size, 0, none⟩) 0 0 ∧ y = .int .i64 0) (fun _ _ => 0)
      case atStart => exact ⟨rfl, rfl⟩
      case round =>
        obtain ⟨rfl, rfl⟩ := hrel
        go_wp2
        go_ret
        exact ⟨_, rfl, HO1.out, HB1.out⟩
end Sn
end Go.Proofs.YtkgnmcekeeannaaGreat
