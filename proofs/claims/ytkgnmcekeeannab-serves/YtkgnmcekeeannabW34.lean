import Derived.Test.YtkgnmcekeeannabW33
import Derived.Test.YtkgnmcekeeannabW26
import Derived.Test.YtkgnmcekeeannabW32
import Derived.Test.YtkgnmcekeeannabW31
/-
  The reference's receiver: Take.
-/
namespace Go.Proofs.Ytkgnmcekeeannab
open Go.RowKit Go.Deep
namespace Sn
open Bs
open Ms (txt text ok M It mV mVm mBox mRow mRow_new itF itOK ItemsAt Tells ReadOut owns_setCell owns_items icells icell icells_succ icells_congr)
set_option linter.unusedVariables false

def objTo (r : Rt) (o j : Nat) : List UInt8 := (List.range j).flatMap (r.blockOf o)
theorem objTo_succ (r : Rt) (o j : Nat) : objTo r o (j + 1) = objTo r o j ++ r.blockOf o j := by
  unfold objTo
  rw [List.range_succ, List.flatMap_append]; simp
theorem blockOf_length (r : Rt) (o b : Nat) : (r.blockOf o b).length = (r.come o b).length * r.n.size := by
  unfold Rt.blockOf; rw [Cod.flat_length]
/-- an object of which nothing lacks -/
def Whole (r : Rt) (o : Nat) : Prop := r.len o ≠ 0 ∧ ∀ b, b < r.n.blocks (r.len o) → (r.come o b).length = r.n.many (r.len o) b
theorem whole_of {r : Rt} {o : Nat} (h : r.lacks o = []) : Whole r o := by
  rw [lacks_eq] at h
  split at h
  · cases h
  · rename_i h0
    refine ⟨h0, fun b hb => ?_⟩
    have hl := come_len r o b
    by_cases e : (r.come o b).length < r.n.many (r.len o) b
    · exfalso
      have hm : lackOf r o b = some ⟨o, b, ((r.n.many (r.len o) b - (r.come o b).length : Nat) : Int)⟩ := by unfold lackOf; rw [if_pos e]
      have : (⟨o, b, ((r.n.many (r.len o) b - (r.come o b).length : Nat) : Int)⟩ : It) ∈ lackTo r o (r.n.blocks (r.len o)) := List.mem_filterMap.2 ⟨b, List.mem_range.2 hb, hm⟩
      rw [h] at this
      cases this
    · omega
theorem many_sum (n : Nm) (hn : n.ok) (len j : Nat) (hj : j ≤ n.blocks len) : min (j * n.block) (n.all len) + n.many len j = min ((j + 1) * n.block) (n.all len) := by
  obtain ⟨_, _, h3, _⟩ := hn
  have hjb : j * n.block ≤ n.all len + n.block - 1 := by
    unfold Nm.blocks at hj
    exact (Nat.le_div_iff_mul_le (by omega)).1 hj
  unfold Nm.many
  rw [Nat.succ_mul]
  omega
theorem objTo_length (r : Rt) (hr : ROk r) (o : Nat) (h : Whole r o) : ∀ j, j ≤ r.n.blocks (r.len o) → (objTo r o j).length = min (j * r.n.block) (r.n.all (r.len o)) * r.n.size := by
  intro j
  induction j with
  | zero => intro _; simp [objTo]
  | succ j ih =>
    intro hj
    rw [objTo_succ, List.length_append, ih (by omega), blockOf_length, h.2 j (by omega), ← Nat.add_mul, many_sum r.n hr.nok _ _ (by omega)]
theorem objTo_enough (r : Rt) (hr : ROk r) (o : Nat) (h : Whole r o) : r.len o ≤ (objTo r o (r.n.blocks (r.len o))).length := by
  rw [objTo_length r hr o h _ (Nat.le_refl _)]
  obtain ⟨h1, _, h3, _⟩ := hr.nok
  have hb : r.n.all (r.len o) ≤ r.n.blocks (r.len o) * r.n.block := by
    unfold Nm.blocks
    have := Nat.div_add_mod (r.n.all (r.len o) + r.n.block - 1) r.n.block
    have hm := Nat.mod_lt (r.n.all (r.len o) + r.n.block - 1) (show 0 < r.n.block by omega)
    rw [Nat.mul_comm] at this
    omega
  rw [Nat.min_eq_right hb]
  unfold Nm.all
  have := Nat.div_add_mod (r.len o + r.n.size - 1) r.n.size
  have hm := Nat.mod_lt (r.len o + r.n.size - 1) (show 0 < r.n.size by omega)
  rw [Nat.mul_comm] at this
  omega
theorem syms_size (r : Rt) (hr : ROk r) (o b : Nat) : (txt (symsOf (r.come o b))).size = (r.come o b).length * r.n.size := by
  have key : ∀ l : List M, (∀ m ∈ l, m.sym.size = r.n.size) → (symsOf l).length = l.length * r.n.size := by
    intro l
    induction l with
    | nil => intro _; simp [symsOf]
    | cons m l ih =>
      intro h
      have e : (symsOf (m :: l)).length = m.sym.size + (symsOf l).length := by simp [symsOf]
      rw [e, ih (fun x hx => h x (by simp [hx])), h m (by simp), List.length_cons, Nat.succ_mul]; omega
  rw [Ms.txt_size]
  exact key _ (fun m hm => (hr.hd m (come_mem hm)).2.2)
theorem num_at (r : Rt) (hr : ROk r) (o b i : Nat) (hi : i < (r.come o b).length) : numAt (r.come o b) i < 16 ∧ (((r.come o b)[i]).num : Int) = (numAt (r.come o b) i : Int) := by
  obtain ⟨_, hd, _⟩ := hr.hd _ (come_mem (List.getElem_mem hi))
  obtain ⟨_, _, _, _, q5, q6, _⟩ := hd
  have e : numAt (r.come o b) i = ((r.come o b)[i]).num.toNat := by unfold numAt; rw [List.getElem?_eq_getElem hi]; rfl
  rw [e]
  omega
theorem num_apart (r : Rt) (hr : ROk r) (o b : Nat) : ∀ i j, i < (r.come o b).length → j < (r.come o b).length → i ≠ j → numAt (r.come o b) i ≠ numAt (r.come o b) j := by
  intro i j hi hj hne e
  have hnd := (come_come r o b).2
  have e1 := (num_at r hr o b i hi).2
  have e2 := (num_at r hr o b j hj).2
  rw [e, ← e2] at e1
  have h1 : i < ((r.come o b).map M.num).length := by rw [List.length_map]; exact hi
  have h2 : j < ((r.come o b).map M.num).length := by rw [List.length_map]; exact hj
  have := (List.getElem_inj (h₀ := h1) (h₁ := h2) hnd).1 (by simpa using e1)
  exact hne this
theorem rRow_set5 (n : Nm) (vh : Value) (known taken k : Nat) (j : Nat) (hj : j < 6) : (if j = 5 then (.int .i64 k : Value) else rRow n vh known taken j) = rRow n vh known k j := by
  match j, hj with
  | 0, _ => rfl
  | 1, _ => rfl
  | 2, _ => rfl
  | 3, _ => rfl
  | 4, _ => rfl
  | 5, _ => rfl
end Sn
end Go.Proofs.Ytkgnmcekeeannab
/-
  The reference's receiver: Known; what its calls keep; what stays of it.
-/
namespace Go.Proofs.Ytkgnmcekeeannab
open Go.RowKit Go.Deep
namespace Sn
open Bs
open Ms (txt text ok M It Tells)
set_option linter.unusedVariables false

/-- with a count of the calls -/
structure ROkC (r : Rt) (c : Nat) : Prop where
  nok : r.n.ok
  kn : r.known ≤ 8
  tk : r.taken ≤ r.known
  hl : r.heard.length ≤ c
  hd : ∀ m ∈ r.heard, m.kind = 1 ∧ Ms.dataOK m ∧ m.sym.size = r.n.size
theorem ROkC.ok {r : Rt} {c : Nat} (h : ROkC r c) (hc : c ≤ 4611686018427387904) : ROk r := ⟨h.nok, h.kn, by have := h.hl; omega, h.hd⟩
theorem ROkC.mono {r : Rt} {c c' : Nat} (h : ROkC r c) (hc : c ≤ c') : ROkC r c' := ⟨h.nok, h.kn, h.tk, by have := h.hl; omega, h.hd⟩
theorem ROkC.new {n : Nm} (hn : n.ok) : ROkC (Rt.fresh n) 0 := ⟨hn, by simp [Rt.fresh], by simp [Rt.fresh], by simp [Rt.fresh], by simp [Rt.fresh]⟩
theorem ROkC.hear {r : Rt} {c : Nat} (h : ROkC r c) {m : M} (hm : Ms.ok m) : ROkC (r.hear m).1 (c + 1) := by
  have h0 := h.mono (Nat.le_succ c)
  unfold Rt.hear
  split
  · exact h0
  · rename_i k2
    split
    · rename_i k3
      have ho : m.objs ≤ 8 := by
        rcases hm with q | q | q
        · rw [k3] at q; exact absurd q.1 (by decide)
        · rw [k3] at q; exact absurd q.1 (by decide)
        · exact q.2.2.1
      exact ⟨h.nok, by show max r.known m.objs.toNat ≤ 8; have := h.kn; omega, by show r.taken ≤ max r.known m.objs.toNat; have := h.tk; omega, h0.hl, h.hd⟩
    · rename_i k3
      have hd : m.kind = 1 ∧ Ms.dataOK m := by
        rcases hm with q | q | q
        · exact q
        · exact absurd q.1 k2
        · exact absurd q.1 k3
      simp only []
      split
      · exact h0
      · rename_i hg
        split
        · exact h0
        · have hs : m.sym.size = r.n.size := by
            by_cases e : m.sym.size = r.n.size
            · exact e
            · exact absurd (.inl e) hg
          have ho := hd.2.2.1
          refine ⟨h.nok, ?_, ?_, ?_, ?_⟩
          · show max r.known (m.obj.toNat + 1) ≤ 8
            have := h.kn
            obtain ⟨_, q2, _⟩ := hd.2
            omega
          · show r.taken ≤ max r.known _
            have := h.tk
            omega
          · show (r.heard ++ [m]).length ≤ c + 1
            have := h.hl
            simp; omega
          · intro x hx
            rcases List.mem_append.1 hx with e | e
            · exact h.hd x e
            · rw [List.mem_singleton.1 e]; exact ⟨hd.1, hd.2, hs⟩
theorem ROkC.take {r : Rt} {c : Nat} (h : ROkC r c) : ROkC r.take.1 c := by
  unfold Rt.take
  split
  · exact h
  · rename_i hn
    have : ¬ r.known ≤ r.taken := fun e => hn (.inl e)
    exact ⟨h.nok, h.kn, by show r.taken + 1 ≤ r.known; omega, h.hl, h.hd⟩
theorem owns_same' {w w' : World} {base e size n : Nat} {v : Value} {xs : List Value} (h : w.ownsRow base e size v n xs) (hb : ∀ b, v.ownBlock = some b → w'.heap[b]? = w.heap[b]?) : w'.ownsRow base e size v n xs := by
  refine ⟨h.1, ?_⟩
  rcases h.2 with hn | ⟨g, cap, cur, e, hb', hg, rest⟩
  · exact .inl hn
  · refine .inr ⟨g, cap, cur, e, hb', ?_, rest⟩
    rw [hb g (by rw [e]; rfl)]
    exact hg
end Sn
end Go.Proofs.Ytkgnmcekeeannab
/-
  The landed receiver's Hear.
-/
namespace Go.Proofs.Ytkgnmcekeeannab
open Go.RowKit Go.Deep
namespace Sn
open Bs
open Ms (M It txt text ok mV mVm mBox dataOK owns_setCell Tells ReadOut mRead)
set_option linter.unusedVariables false

def LHearOutR (r : Rt) (t : ByteArray) (e : Ending) (w w' : World) (P : Nat) (F : Nat → Prop) : Prop :=
  (∃ m, Tells t m ∧ e = .returned (.int .i64 (r.hear m).2) ∧ LRIs w w' P (LR.of (r.hear m).1) F) ∨
  ((∀ m, ¬ Tells t m) ∧ e = .returned (.int .i64 6) ∧ LRIs w w' P (LR.of r) F)
theorem LRIs.call {w w1 w2 : World} {P : Nat} {r r' : LR} {F : Nat → Prop} (h : LRIs w w1 P r F) (h2 : LRIs w1 w2 P r' (grow F w w1)) : LRIs w w2 P r' F := h2.trans h.2
theorem LRIs.tight {w w1 : World} {P : Nat} {r : LR} {F : Nat → Prop} (h : LRIs w w1 P r F) : LRIs w1 w1 P r (grow F w w1) := by
  obtain ⟨⟨K, ao, co, D, nv, sv, h⟩, _⟩ := h
  exact LRIs.refl h
theorem come_small {r : Rt} (hr : ROk r) (o b : Nat) : ((r.come o b).map M.num).length ≤ 8 ∧ (symsOf (r.come o b)).length ≤ 128 := by
  have h1 := come_len r o b
  have h2 := many_le r.n (r.len o) b
  obtain ⟨_, hz, _, hb, _⟩ := hr.nok
  have h3 := syms_size r hr o b
  rw [Ms.txt_size] at h3
  have : (r.come o b).length * r.n.size ≤ 8 * 16 := Nat.mul_le_mul (by omega) hz
  rw [List.length_map]
  omega
set_option maxHeartbeats 4000000 in
set_option maxRecDepth 100000 in
/-- data, as it was read -/
theorem lanHearData (r : Rt) (m : M) (io : Option Addr) (ci : Nat) (P : Nat) (F : Nat → Prop) (w : World) (hr : ROk r) (hm : m.kind = 1 ∧ dataOK m) (hA : LRIs w w P (LR.of r) F) :
    Calls Try.prog 67 #[.pointer (some ⟨P, 0, none⟩), mVm m io ci] w fun e w' => e = .returned (.int .i64 (r.hear m).2) ∧ LRIs w w' P (LR.of (r.hear m).1) F := by
  obtain ⟨hk, q1, q2, q3, q4, q5, q6, q7, q8, q9, q10, q11⟩ := hm
  obtain ⟨o, ho⟩ := Int.eq_ofNat_of_zero_le q1
  obtain ⟨b, hb⟩ := Int.eq_ofNat_of_zero_le q3
  obtain ⟨x, hx⟩ := Int.eq_ofNat_of_zero_le q5
  obtain ⟨L, hL⟩ := Int.eq_ofNat_of_zero_le (show 0 ≤ m.len by omega)
  have eo : m.obj.toNat = o := by omega
  have eb : m.blk.toNat = b := by omega
  have ex : m.num.toNat = x := by omega
  have eL : m.len.toNat = L := by omega
  have hbd : Bad r m ↔ (LR.of r).badD b x L m.sym := by
    unfold Bad LR.badD
    rw [eb, ex, eL]
    exact Iff.rfl
  have hsz := (hr.len o).1
  by_cases hB : Bad r m
  · have H := lanHearData_bad (LR.of r) m.kind o b x L m.sym io m.items.length ci m.objs P F w hr.nok (by omega) (by omega) (by omega) (by omega) (by omega) (by omega) hA (hbd.1 hB)
    rw [hear_bad hk hB]
    show Calls _ _ #[_, mV m.kind m.obj m.blk m.num m.len m.sym io m.items.length ci m.objs] _ _
    rw [ho, hb, hx, hL]
    exact H
  · have H := lanHearData_good (LR.of r) m.kind o b x L m.sym io m.items.length ci m.objs P F w hr.nok (by omega) (by omega) (by omega) (by omega) (by omega) (by omega) hA (fun q => hB (hbd.2 q)) hr.kn (fun b => (come_small hr o b).1) (fun b => (come_small hr o b).2) (fun h0 b => by
      have : r.come o b = [] := come_zero h0
      show (r.come o b).map M.num = [] ∧ symsOf (r.come o b) = []
      rw [this]; exact ⟨rfl, rfl⟩)
    show Calls _ _ #[_, mV m.kind m.obj m.blk m.num m.len m.sym io m.items.length ci m.objs] _ _
    have H2 := H
    rw [← ho, ← hb, ← hx, ← hL] at H2
    refine H2.mono ?_
    rintro e w' ho'
    rcases ho' with ⟨⟨n1, n2⟩, rfl, hl⟩ | ⟨hc, rfl, hl⟩
    · have n1' : r.len o ≠ 0 := n1
      have n2' : r.len o ≠ L := n2
      rw [hear_clash hk hB (by rw [ho]; constructor <;> omega)]
      exact ⟨rfl, hl⟩
    · have hc' : r.len o = 0 ∨ r.len o = L := hc
      rw [hear_got hk hB (by rw [ho]; omega)]
      refine ⟨rfl, ?_⟩
      obtain ⟨⟨K, ao, co, D, nv, sv, hI⟩, ht⟩ := hl
      refine ⟨⟨K, ao, co, D, nv, sv, got_lr (r1 := (LR.of r).began o L) hr (by omega) (by rw [eo]; omega) q1 q3 (by rw [eo, eL]; rfl) ?_⟩, ht⟩
      rw [eo, eb, eL]
      have hlv : ((LR.of r).began o L).live o ↔ r.taken ≤ o := by
        constructor
        · exact fun h => h.2.2
        · intro h
          refine ⟨by show o < max r.known (o + 1); omega, ?_, h⟩
          show upd1 r.len o L o ≠ 0
          simp [upd1]; omega
      rw [hlv]
      unfold LR.gotD at hI
      refine ⟨fun h => ?_, fun h => ?_⟩
      · rw [if_pos (show (LR.of r).tk ≤ o from h), ← hx] at hI
        exact hI
      · rw [if_neg (show ¬ (LR.of r).tk ≤ o from h)] at hI
        exact hI
set_option maxHeartbeats 4000000 in
set_option maxRecDepth 100000 in
theorem lanHearR (r : Rt) (tx : ByteArray) (P : Nat) (F : Nat → Prop) (w : World) (ht : tx.size ≤ 1048576) (hr : ROk r) (hA : LRIs w w P (LR.of r) F) :
    Calls Try.prog 49 #[.pointer (some ⟨P, 0, none⟩), .string tx] w fun e w' => LHearOutR r tx e w w' P F := by
  have HR := mRead tx w ht
  have HA : Hid (LRIs w w P (LR.of r) F) := hA
  have HRO : Hid (ROk r) := hr
  clear hA ht hr
  go_enter Try.func49, Try.ntmps49
  go_wp2_with fail
  refine HR.mono ?_
  rintro e w1 ⟨ho, hb1⟩
  have HA1 : Hid (LRIs w w1 P (LR.of r) F) := HA.out.below hb1
  clear HR HA
  rcases ho with ⟨m, io, ci, htl, rfl, hown⟩ | ⟨hno, rfl⟩
  · have HT : Hid (Tells tx m) := htl
    have B2 : Below w1.heap.size w1 (w1.alloc (mBox m.kind m.obj m.blk m.num m.len m.sym io m.items.length ci m.objs)) := (Below.refl _ _).alloc (Nat.le_refl _) _
    have HA2 : Hid (LRIs w (w1.alloc (mBox m.kind m.obj m.blk m.num m.len m.sym io m.items.length ci m.objs)) P (LR.of r) F) := HA1.out.below B2
    have m0 : ∀ (j : Nat) (v : Value), (#[.int .i64 m.kind, .int .i64 m.obj, .int .i64 m.blk, .int .i64 m.num, .int .i64 m.len, .string m.sym, .slice io m.items.length ci, .int .i64 m.objs] : Array Value)[j]? = some v → (w1.alloc (mBox m.kind m.obj m.blk m.num m.len m.sym io m.items.length ci m.objs)).cell? ⟨w1.heap.size, j, none⟩ = some v := fun j v h => cell_new rfl h
    clear hown hb1 B2 HA1
    rcases htl.1 with hk | hk | hk
    · obtain ⟨hk1, hd⟩ := hk
      have tk : (m.kind == 1) = true := by rw [hk1]; rfl
      have HD := lanHearData r m io ci P _ _ HRO.out ⟨hk1, hd⟩ HA2.out.tight
      clear hk1 hd htl
      go_wp2_with fail
      refine HD.mono ?_
      rintro e w3 ⟨rfl, hl⟩
      have HF : Hid (LRIs w w3 P (LR.of (r.hear m).1) F) := HA2.out.call hl
      clear HD hl HA2 m0
      go_wp2_with fail
      go_ret
      exact .inl ⟨m, HT.out, rfl, HF.out⟩
    · have hk2 : m.kind = 2 := hk.1
      have HM : Hid (r.hear m = (r, 6)) := by unfold Hid Rt.hear; rw [if_pos hk2]
      have t1 : (m.kind == 1) = false := by rw [hk2]; rfl
      have t2 : (m.kind == 3) = false := by rw [hk2]; rfl
      clear hk hk2 htl
      have c0 := m0 0 _ rfl
      clear m0
      go_wp2_with fail
      go_ret
      exact .inl ⟨m, HT.out, by rw [HM.out]; rfl, by rw [HM.out]; exact HA2.out⟩
    · have hk3 : m.kind = 3 := hk.1
      have ho1 : 0 ≤ m.objs := hk.2.1
      have ho2 : m.objs ≤ 8 := hk.2.2.1
      have HM : Hid (r.hear m = ({ r with known := max r.known m.objs.toNat }, 0)) := by unfold Hid Rt.hear; rw [if_neg (by omega), if_pos hk3]
      have t1 : (m.kind == 1) = false := by rw [hk3]; rfl
      have t2 : (m.kind == 3) = true := by rw [hk3]; rfl
      have c0 := m0 0 _ rfl
      have c7 := m0 7 _ rfl
      clear hk hk3 htl m0
      obtain ⟨C, hC⟩ := Int.eq_ofNat_of_zero_le ho1
      have HC : Hid (m.objs = (C : Int)) := hC
      have hC8 : C ≤ 8 := by omega
      obtain ⟨⟨K, ao, co, D, nv, sv, hI⟩, hT⟩ := HA2.out
      have HKO := lanKnowOf (LR.of r) C P _ K ao co D nv sv _ HRO.out.kn hC8 hI
      have HT2 : Hid (Touch w (w1.alloc (mBox m.kind m.obj m.blk m.num m.len m.sym io m.items.length ci m.objs)) F) := hT
      rw [← hC] at HKO
      clear hI hT ho1 ho2 hC HA2
      go_wp2_with fail
      refine HKO.mono ?_
      rintro e w3 ⟨rfl, ⟨⟨K3, ao3, co3, hI3⟩, hT3⟩⟩
      have HF : Hid (LRIs w w3 P { LR.of r with kn := max r.known C } F) := LRIs.trans HT2.out ⟨⟨K3, ao3, co3, D, nv, sv, hI3⟩, hT3⟩
      clear HKO hI3 hT3 HT2 c0 c7
      go_wp2_with fail
      go_ret
      refine .inl ⟨m, HT.out, by rw [HM.out]; rfl, ?_⟩
      rw [HM.out]
      have e : m.objs.toNat = C := by rw [HC.out]; simp
      simp only [e]
      exact HF.out
  · have HNO : Hid (∀ m, ¬ Tells tx m) := hno
    have HA2 : Hid (∀ o, LRIs w (w1.alloc o) P (LR.of r) F) := fun o => HA1.out.below ((Below.refl _ _).alloc (Nat.le_refl _) _)
    clear hno hb1 HA1
    go_wp2_with fail
    go_ret
    exact .inr ⟨HNO.out, rfl, HA2.out _⟩
end Sn
end Go.Proofs.Ytkgnmcekeeannab
