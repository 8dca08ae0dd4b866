import Derived.Test.YtkgnmcekeeannabW34
import Derived.Deep.RegionHeld3
/-
  The landed receiver's lacking.
-/
namespace Go.Proofs.Ytkgnmcekeeannab
open Go.RowKit Go.Deep
namespace Sn
open Bs
open Ms (txt text ok M It mV mVm mBox itF itOK ItemsAt owns_setCell owns_items icells icell)
set_option linter.unusedVariables false

/-- what was handed over is whole -/
def TW (r : Rt) : Prop := ∀ o, o < r.taken → Whole r o
theorem whole_lacks {r : Rt} {o : Nat} (h : Whole r o) : r.lacks o = [] := by
  rw [lacks_eq, if_neg h.1]
  unfold lackTo
  refine List.filterMap_eq_nil_iff.2 (fun b hb => ?_)
  unfold lackOf
  rw [if_neg (by rw [h.2 b (List.mem_range.1 hb)]; omega)]
theorem TW.new (n : Nm) : TW (Rt.fresh n) := fun o ho => absurd ho (Nat.not_lt_zero _)
theorem TW.take {r : Rt} (h : TW r) : TW r.take.1 := by
  unfold Rt.take
  split
  · exact h
  · rename_i hn
    have hl : r.lacks r.taken = [] := by
      by_cases e : r.lacks r.taken = []
      · exact e
      · exact absurd (.inr e) hn
    intro o ho
    have ho' : o < r.taken + 1 := ho
    by_cases e : o = r.taken
    · rw [e]; exact whole_of hl
    · exact h o (by omega)
theorem whole_got {r : Rt} {m : M} {o : Nat} (hr : ROk r) (hm : 1 ≤ m.len) (hc : r.len m.obj.toNat = 0 ∨ (r.len m.obj.toNat : Int) = m.len) (ho : 0 ≤ m.obj) (hb : 0 ≤ m.blk) (h : Whole r o) : Whole (r.got m) o := by
  have el : (r.got m).len o = r.len o := by
    rw [got_len hr hm hc ho]
    by_cases e : (o : Int) = m.obj
    · rw [if_pos e]
      have e2 : m.obj.toNat = o := by omega
      have := h.1
      rw [e2] at hc
      omega
    · rw [if_neg e]
  refine ⟨by rw [el]; exact h.1, fun b hb' => ?_⟩
  rw [el] at hb' ⊢
  have hw := h.2 b hb'
  rw [got_come hr hm hc ho hb]
  have en : (r.got m).n = r.n := rfl
  rw [en]
  split
  · rename_i q
    exfalso
    have e2 : m.obj.toNat = o := by have := q.1.1; omega
    have e3 : m.blk.toNat = b := by have := q.1.2; omega
    have hlen : r.len o = m.len.toNat := by have := h.1; rw [e2] at hc; omega
    have := q.2.1
    rw [hw, hlen] at this
    omega
  · exact hw
theorem TW.hear {r : Rt} (hr : ROk r) (h : TW r) {m : M} (hm : Ms.ok m) : TW (r.hear m).1 := by
  rcases hm with hk | hk | hk
  · obtain ⟨hk1, q1, q2, q3, q4, q5, q6, q7, q8, q9, q10, q11⟩ := hk
    by_cases hB : Bad r m
    · rw [hear_bad hk1 hB]; exact h
    · by_cases hc : 0 < lenIn r.heard m.obj ∧ lenIn r.heard m.obj ≠ m.len
      · rw [hear_clash hk1 hB hc]; exact h
      · rw [hear_got hk1 hB hc]
        have e : lenIn r.heard m.obj = (r.len m.obj.toNat : Int) := by
          have := (hr.len m.obj.toNat).1
          rw [← this]; congr 1; omega
        rw [e] at hc
        intro o ho
        exact whole_got hr q7 (by omega) q1 q3 (h o ho)
  · have : r.hear m = (r, 6) := by unfold Rt.hear; rw [if_pos hk.1]
    rw [this]; exact h
  · have e : r.hear m = ({ r with known := max r.known m.objs.toNat }, 0) := by unfold Rt.hear; rw [if_neg (by have := hk.1; omega), if_pos hk.1]
    rw [e]; exact h
set_option maxRecDepth 100000 in
set_option maxHeartbeats 4000000 in
theorem lanLacking (r : Rt) (o : Nat) (P : Nat) (F : Nat → Prop) (w : World) (hr : ROk r) (hw : TW r) (ho : o < r.known) (hA : LRcvAt w P r F) :
    Calls Try.prog 50 #[.pointer (some ⟨P, 0, none⟩), .int .i64 o] w fun e w' => ∃ v, e = .returned v ∧ w'.ownsRow w.heap.size 106 3 v (r.lacks o).length (icells (itF (r.lacks o)) (r.lacks o).length) ∧ Below w.heap.size w w' := by
  obtain ⟨K, ao, co, D, nv, sv, hI⟩ := hA
  obtain ⟨_, hln⟩ := hr.len o
  have hk8 := hr.kn
  obtain ⟨g, rfl, hgl, _, s0, s1, _⟩ := hI.slot (o := o) ho
  obtain ⟨c0, c1, c2, c3, c4⟩ := hI.cells
  have hPl := hI.row.lt
  have e0 : (LR.of r).ln o = r.len o := rfl
  have e3 : (LR.of r).kn = r.known := rfl
  rw [e0] at s0
  rw [e3] at c3
  have HI : Hid (LRI w P (LR.of r) F K (some ⟨g, 0, none⟩) co D nv sv) := hI
  obtain ⟨Q, hQ⟩ : ∃ Q, Q = r.known := ⟨_, rfl⟩
  have HO : Hid (o < r.known) := ho
  rw [← hQ] at c3 ho hk8
  clear hI hQ
  by_cases h0 : r.len o = 0
  · have HL0 : Hid (r.lacks o = [⟨o, 0, 0⟩]) := by unfold Hid; rw [lacks_eq, if_pos h0]
    rw [HL0.out]
    rw [h0] at s0
    clear h0
    go_enter Try.func50, Try.ntmps50
    go_wp2
    go_ret
    refine ⟨_, rfl, ?_, (Below.refl _ _).alloc (Nat.le_refl _) _⟩
    exact World.ownsRow_lit w #[.int .i64 o, .int .i64 0, .int .i64 0] 1 (Nat.le_refl _) (by decide) rfl
  · have t0 : (((r.len o : Nat) : Int) == 0) = false := by simpa using h0
    by_cases htk : r.taken ≤ o
    · have eg : gval (LR.of r) D o = .slice (some ⟨D o, 0, none⟩) (r.n.blocks (r.len o)) (r.n.blocks (r.len o)) := by unfold gval; rw [if_pos ⟨h0, htk⟩]; rfl
      rw [eg] at s1
      have HL0 : Hid (r.lacks o = lackTo r o (r.n.blocks (r.len o))) := by unfold Hid; rw [lacks_eq, if_neg h0]
      rw [HL0.out]
      have hlive : (LR.of r).live o := ⟨HO.out, h0, htk⟩
      have HLV : Hid ((LR.of r).live o) := hlive
      have hBl := blocks_le r.n hr.nok (r.len o) hln
      have HMA := fun W b (hb : b ≤ 255) => laySymbols r.n (r.len o) b W hr.nok (by omega) (by omega)
      have hM8 : ∀ b, r.n.many (r.len o) b ≤ 8 := fun b => by have := many_le r.n (r.len o) b; have := hr.nok.2.2.2.1; omega
      have HM8 : Hid (∀ b, r.n.many (r.len o) b ≤ 8) := hM8
      have HLO : Hid (∀ b, lackOf r o b = if (r.come o b).length < r.n.many (r.len o) b then some ⟨o, b, ((r.n.many (r.len o) b - (r.come o b).length : Nat) : Int)⟩ else none) := fun b => rfl
      have HCL : Hid (∀ b, (r.come o b).length ≤ r.n.many (r.len o) b) := fun b => come_len r o b
      obtain ⟨i0, hi0, hz0, hz1, hz2⟩ := info_parts3 Ms.infoItem
      simp only [nmV] at HMA
      obtain ⟨Bn, hBn⟩ : ∃ Bn, Bn = r.n.blocks (r.len o) := ⟨_, rfl⟩
      have HBn : Hid (Bn = r.n.blocks (r.len o)) := hBn
      rw [← hBn] at hBl s1 ⊢
      obtain ⟨LN, hLN⟩ : ∃ LN, LN = r.len o := ⟨_, rfl⟩
      rw [← hLN] at t0 hln s0
      simp only [← hLN] at HMA HM8 HLO HCL
      clear h0 hBn hM8 hLN eg hlive e0 e3
      go_enter Try.func50, Try.ntmps50
      have B1 : Below w.heap.size w (w.alloc (Obj.cells #[] 106)) := (Below.refl _ _).alloc (Nat.le_refl _) _
      have HB1 : Hid (Below w.heap.size w (w.alloc (Obj.cells #[] 106))) := B1
      have HO1 : Hid ((w.alloc (Obj.cells #[] 106)).ownsRow w.heap.size 106 3 (.slice (some ⟨w.heap.size, 0, none⟩) 0 0) 0 []) := World.ownsRow_made w #[] 0 (Nat.le_refl _) (by decide) rfl
      clear B1
      go_wp2_with fail
      clear c0 c1 c2 c3 c4 s0 s1
      go_loopw [6, 8] (fun v y wr => ∃ (j : Nat) (av : Option Addr) (cv : Nat), j ≤ Bn ∧ y = .int .i64 j ∧ v = .slice av (lackTo r o j).length cv ∧ wr.ownsRow w.heap.size 106 3 (.slice av (lackTo r o j).length cv) (lackTo r o j).length (icells (itF (lackTo r o j)) (lackTo r o j).length) ∧ Below w.heap.size w wr) (fun _ y _ => Bn - (intOf y).toNat)
      case atStart => exact ⟨0, _, _, Nat.zero_le _, rfl, rfl, HO1.out, HB1.out⟩
      case round =>
        clear HB1 HO1
        obtain ⟨j, av, cv, hj, rfl, rfl, hown, hB⟩ := hrel
        have HOW : Hid (wr.ownsRow w.heap.size 106 3 (.slice av (lackTo r o j).length cv) (lackTo r o j).length (icells (itF (lackTo r o j)) (lackTo r o j).length)) := hown
        have HLL := lackTo_len r o j
        have HLS : Hid (lackTo r o (j + 1) = lackTo r o j ++ (lackOf r o j).toList) := lackTo_succ r o j
        obtain ⟨A, hA⟩ : ∃ A, A = (lackTo r o j).length := ⟨_, rfl⟩
        have HAl : Hid (A = (lackTo r o j).length) := hA
        rw [← hA] at HOW HLL ⊢
        clear hA hown
        by_cases hlt : j < Bn
        · have hcl := HCL.out j
          have hm8 := HM8.out j
          have hlo := HLO.out j
          have HMJ := fun W => HMA W j (by omega)
          have hbk : j < (LR.of r).bks o := by show j < r.n.blocks (r.len o); rw [← HBn.out]; exact hlt
          have HIr : Hid (LRI wr P (LR.of r) F _ (some ⟨g, 0, none⟩) co D nv sv) := HI.out.below hB
          have hPr := HIr.out.row.lt
          have hDr := (HIr.out.bl o HLV.out).lt
          have enm : (LR.of r).nm o j = (r.come o j).map M.num := rfl
          obtain ⟨an, cp, hnv⟩ := owns_form (HIr.out.nu o j HLV.out hbk)
          rw [enm, List.length_map] at hnv
          have HCE : Hid (∀ W, Below wr.heap.size wr W → W.cell? ⟨P, 0, none⟩ = some (.int .i64 r.n.size) ∧ W.cell? ⟨P, 1, none⟩ = some (.int .i64 r.n.block) ∧ W.cell? ⟨P, 2, none⟩ = some (.int .i64 r.n.spare) ∧ W.cell? ⟨D o, j * 2, none⟩ = some (.slice an (r.come o j).length cp)) := fun W hW => by
            have q := HIr.out.below hW
            obtain ⟨c0, c1, c2, _, _⟩ := q.cells
            refine ⟨c0, c1, c2, ?_⟩
            rw [(q.bl o HLV.out).cell (i := j * 2) (by omega)]
            unfold bRow
            rw [if_pos (by omega), show j * 2 / 2 = j from by omega, hnv]
          generalize r.n.many LN j = k at *
          obtain ⟨c, hc⟩ : ∃ c, c = (r.come o j).length := ⟨_, rfl⟩
          rw [← hc] at hcl hlo
          simp only [← hc] at HCE
          have HLO2 : Hid (lackOf r o j = if c < k then some ⟨o, j, ((k - c : Nat) : Int)⟩ else none) := hlo
          have HMC : Calls Try.prog 69 #[.agg #[.int .i64 r.n.size, .int .i64 r.n.block, .int .i64 r.n.spare], .int .i64 LN, .int .i64 j] wr.drew fun e W => e = .returned (.int .i64 k) ∧ Hid (Below wr.heap.size wr W) ∧ W.cell? ⟨P, 0, none⟩ = some (.int .i64 r.n.size) ∧ W.cell? ⟨P, 1, none⟩ = some (.int .i64 r.n.block) ∧ W.cell? ⟨P, 2, none⟩ = some (.int .i64 r.n.spare) ∧ W.cell? ⟨D o, j * 2, none⟩ = some (.slice an c cp) := by
            refine (HMJ wr.drew).mono ?_
            rintro e W ⟨rfl, hb⟩
            have hW : Below wr.heap.size wr W := ((Below.refl wr.heap.size wr).drew).trans hb
            exact ⟨rfl, hW, HCE.out W hW⟩
          obtain ⟨c0, c1, c2, s1⟩ := HCE.out wr (Below.refl _ _)
          clear hc hlo HMA hnv enm HIr HCE HMJ
          go_wp2_with fail
          go_region_held3 (fun w' => w'.cell? ⟨P, 0, none⟩ = some (.int .i64 r.n.size) ∧ w'.cell? ⟨P, 1, none⟩ = some (.int .i64 r.n.block) ∧ w'.cell? ⟨P, 2, none⟩ = some (.int .i64 r.n.spare) ∧ w'.cell? ⟨D o, j * 2, none⟩ = some (.slice an c cp)) (go_keep)
            (first | (go_at_call 69; refine HMC.mono ?_; rintro e w4 ⟨rfl, hb4, k0, k1, k2, k3⟩))
          clear HMC c0 c1 c2 s1 k0 k1 k2 k3
          have HB4 : Hid (Below w.heap.size w w4) := hB.trans (hb4.out.mono hB.size)
          have HO4 : Hid (w4.ownsRow w.heap.size 106 3 (.slice av A cv) A (icells (itF (lackTo r o j)) A)) := Ms.owns_below HOW.out hb4.out
          clear hb4 hB HOW
          by_cases hck : c < k
          · have HN1 : Hid (lackTo r o (j + 1) = lackTo r o j ++ [⟨o, j, ((k - c : Nat) : Int)⟩]) := by unfold Hid; rw [HLS.out, HLO2.out, if_pos hck]; rfl
            have HX : Hid (icells (itF (lackTo r o j)) A ++ [.int .i64 o, .int .i64 j, .int .i64 ((k : Int) - (c : Int))] = icells (itF (lackTo r o (j + 1))) (A + 1)) := by
              unfold Hid
              rw [HN1.out, HAl.out, icells_app]
              have e : ((k - c : Nat) : Int) = (k : Int) - (c : Int) := by omega
              simp only [e]
            have HA1 : Hid ((lackTo r o (j + 1)).length = A + 1) := by unfold Hid; rw [HN1.out, List.length_append, ← HAl.out]; rfl
            have hz4 := HB4.out.size
            generalize icells (itF (lackTo r o j)) A = XS at *
            go_wp2_with (at_builtin; refine wpList_append_own _ rfl _ _ 22 rfl w.heap.size 106 i0 (.agg #[.int .i64 0, .int .i64 0, .int .i64 0]) 3 24 Try.underlying22 hi0 hz0 hz1 hz2 rfl (by decide) (.slice av A cv) A XS rfl (HO4.out.alloc _) ⟨w4.heap.size, 0, none⟩ 1 1 [.int .i64 o, .int .i64 j, .int .i64 ((k : Int) - (c : Int))] rfl rfl news3 (by intro u hu; simp at hu; rcases hu with rfl | rfl | rfl <;> rfl) (by unfold maxLen; omega) (by omega) (by simp; omega) ?_)
            intro v' w5 hown' hgrow _
            obtain ⟨av2, cv2, rfl⟩ := owns_form hown'
            have hb5 := Cod.below_append HB4.out HB4.out.size HO4.out hgrow
            rw [HX.out] at hown'
            have HO5 : Hid (w5.ownsRow w.heap.size 106 3 (.slice av2 (A + 1) cv2) (A + 1) (icells (itF (lackTo r o (j + 1))) (A + 1))) := hown'
            clear hown' hgrow HO4 HB4
            go_wp2
            go_roundw
            case rel =>
              refine ⟨j + 1, av2, cv2, by omega, by go_num, by rw [HA1.out], ?_, hb5⟩
              rw [HA1.out]; exact HO5.out
            case measure => simp [intOf]; omega
          · have HN1 : Hid (lackTo r o (j + 1) = lackTo r o j) := by unfold Hid; rw [HLS.out, HLO2.out, if_neg hck]; simp
            have hck2 : (k : Int) ≤ (c : Int) := by omega
            clear hck
            go_wp2
            go_roundw
            case rel =>
              refine ⟨j + 1, av, cv, by omega, by go_num, by rw [HN1.out, ← HAl.out], ?_, HB4.out⟩
              rw [HN1.out, ← HAl.out]; exact HO4.out
            case measure => simp [intOf]; omega
        · obtain rfl : j = Bn := by omega
          clear hlt
          go_wp2
          go_ret
          rw [← HAl.out]
          exact ⟨_, rfl, HOW.out, hB⟩
    · have HL0 : Hid (r.lacks o = []) := whole_lacks (hw o (by omega))
      rw [HL0.out]
      have eg : gval (LR.of r) D o = .slice none 0 0 := by unfold gval; rw [if_neg (fun q => htk q.2)]
      rw [eg] at s1
      clear h0 htk eg
      generalize r.len o = LN at *
      go_enter Try.func50, Try.ntmps50
      have HO1 : Hid ((w.alloc (Obj.cells #[] 106)).ownsRow w.heap.size 106 3 (.slice (some ⟨w.heap.size, 0, none⟩) 0 0) 0 []) := World.ownsRow_made w #[] 0 (Nat.le_refl _) (by decide) rfl
      have HB1 : Hid (Below w.heap.size w (w.alloc (Obj.cells #[] 106))) := (Below.refl _ _).alloc (Nat.le_refl _) _
      go_wp2_with fail
      go_loop [6, 8] (fun v y => v = .slice (some ⟨w.heap.size, 0, none⟩) 0 0 ∧ y = .int .i64 0) (fun _ _ => 0)
      case atStart => exact ⟨rfl, rfl⟩
      case round =>
        obtain ⟨rfl, rfl⟩ := hrel
        go_wp2
        go_ret
        exact ⟨_, rfl, HO1.out, HB1.out⟩
end Sn
end Go.Proofs.Ytkgnmcekeeannab
/-
  The landed receiver's Request.
-/
namespace Go.Proofs.Ytkgnmcekeeannab
open Go.RowKit Go.Deep
namespace Sn
open Bs
open Ms (txt text ok M It mV mVm mBox itF itOK ItemsAt owns_setCell owns_items icells icell mWrite)
set_option linter.unusedVariables false

def reqI (r : Rt) (j i : Nat) : List It := (itsTo r j ++ (r.lacks j).take i).take 8
theorem reqI_zero (r : Rt) (j : Nat) : reqI r j 0 = (itsTo r j).take 8 := by simp [reqI]
theorem reqI_len (r : Rt) (j i : Nat) : (reqI r j i).length ≤ 8 := by unfold reqI; rw [List.length_take]; omega
theorem reqI_next (r : Rt) (j : Nat) : reqI r j (r.lacks j).length = reqI r (j + 1) 0 := by
  rw [reqI_zero, itsTo_succ]; unfold reqI; rw [List.take_length]
theorem reqI_full (r : Rt) (j i : Nat) (h : (reqI r j i).length = 8) : reqI r j i = reqI r (j + 1) 0 := by
  rw [← reqI_next]
  unfold reqI at h ⊢
  rw [List.length_take] at h
  have h2 : 8 ≤ (itsTo r j ++ (r.lacks j).take i).length := by omega
  rw [List.take_length]
  have e : itsTo r j ++ r.lacks j = (itsTo r j ++ (r.lacks j).take i) ++ (r.lacks j).drop i := by rw [List.append_assoc, List.take_append_drop]
  rw [e, List.take_append_of_le_length h2]
theorem reqI_more (r : Rt) (j i : Nat) (h : (reqI r j i).length < 8) (hi : i < (r.lacks j).length) : reqI r j (i + 1) = reqI r j i ++ [itF (r.lacks j) i] := by
  unfold reqI at h ⊢
  rw [List.length_take] at h
  have h2 : (itsTo r j ++ (r.lacks j).take i).length < 8 := by omega
  have e : itF (r.lacks j) i = (r.lacks j)[i] := by simp [itF, List.getD_eq_getElem?_getD, hi]
  have l1 : (itsTo r j ++ (r.lacks j).take i ++ [(r.lacks j)[i]]).length ≤ 8 := by rw [List.length_append]; simp only [List.length_cons, List.length_nil]; omega
  rw [List.take_succ_eq_append_getElem hi, ← List.append_assoc, List.take_of_length_le l1, List.take_of_length_le (Nat.le_of_lt h2), e]
set_option maxRecDepth 100000 in
set_option maxHeartbeats 4000000 in
theorem lanRequest (r : Rt) (P : Nat) (F : Nat → Prop) (w : World) (hr : ROk r) (hw : TW r) (hA : LRcvAt w P r F) :
    Calls Try.prog 36 #[.pointer (some ⟨P, 0, none⟩)] w fun e w' => e = .returned (.string r.request) ∧ Below w.heap.size w w' := by
  have HA : Hid (LRcvAt w P r F) := hA
  have HR : Hid (ROk r) := hr
  have HTW : Hid (TW r) := hw
  have hkn := hr.kn
  obtain ⟨i0, hi0, hz0, hz1, hz2⟩ := info_parts3 Ms.infoItem
  have HO1 : Hid ((w.alloc (Obj.cells #[] 106)).ownsRow w.heap.size 106 3 (.slice (some ⟨w.heap.size, 0, none⟩) 0 0) 0 []) := World.ownsRow_made w #[] 0 (Nat.le_refl _) (by decide) rfl
  have HB1 : Hid (Below w.heap.size w (w.alloc (Obj.cells #[] 106))) := (Below.refl _ _).alloc (Nat.le_refl _) _
  clear hA hr hw
  go_enter Try.func36, Try.ntmps36
  go_wp2_with fail
  go_loopw [3, 4] (fun v y wr => ∃ (j : Nat) (av : Option Addr) (cv : Nat), j ≤ r.known ∧ y = .int .i64 j ∧ v = .slice av (reqI r j 0).length cv ∧ wr.ownsRow w.heap.size 106 3 (.slice av (reqI r j 0).length cv) (reqI r j 0).length (icells (itF (reqI r j 0)) (reqI r j 0).length) ∧ Below w.heap.size w wr) (fun _ y _ => r.known - (intOf y).toNat)
  case atStart => exact ⟨0, _, _, Nat.zero_le _, rfl, rfl, HO1.out, HB1.out⟩
  case round =>
    clear HO1 HB1
    obtain ⟨j, av, cv, hj, rfl, rfl, hown, hB⟩ := hrel
    have HOW : Hid (wr.ownsRow w.heap.size 106 3 (.slice av (reqI r j 0).length cv) (reqI r j 0).length (icells (itF (reqI r j 0)) (reqI r j 0).length)) := hown
    have HLL := reqI_len r j 0
    have HBr : Hid (Below w.heap.size w wr) := hB
    have HAr : Hid (LRcvAt wr P r (grow F w wr)) := HA.out.below hB
    obtain ⟨K, ao, co, D, nv, sv, hI⟩ := HAr.out
    have k3 : wr.cell? ⟨P, 3, none⟩ = some (.slice ao r.known co) := hI.cells.2.2.2.1
    clear hI
    by_cases hlt : j < r.known
    · have HLK := lanLacking r j P (grow F w wr) wr HR.out HTW.out hlt HAr.out
      have hlk := lacks_len r HR.out j
      obtain ⟨N, hN⟩ : ∃ N, N = (r.lacks j).length := ⟨_, rfl⟩
      have HNl : Hid (N = (r.lacks j).length) := hN
      rw [← hN] at HLK hlk
      clear hN hown hB
      go_wp2_with fail
      refine HLK.mono ?_
      rintro e w2 ⟨vv, rfl, ho2, hb2⟩
      have HB2 : Hid (Below w.heap.size w w2) := HBr.out.trans (hb2.mono HBr.out.size)
      have HO2 : Hid (w2.ownsRow w.heap.size 106 3 (.slice av (reqI r j 0).length cv) (reqI r j 0).length (icells (itF (reqI r j 0)) (reqI r j 0).length)) := Ms.owns_below HOW.out hb2
      obtain ⟨al, cl, rfl⟩ := owns_form ho2
      have HAP : Hid (∀ g, (Value.slice av (reqI r j 0).length cv).ownBlock = some g → (Value.slice al N cl).ownBlock ≠ some g) := fun g h1 h2 => by
        have := (HOW.out.lt g h1).2
        have := (ho2.lt g h2).1
        omega
      have HL2 : Hid (w2.ownsRow wr.heap.size 106 3 (.slice al N cl) N (icells (itF (r.lacks j)) N)) := ho2
      obtain ⟨B0, hB0⟩ : ∃ B0, B0 = wr.heap.size := ⟨_, rfl⟩
      rw [← hB0] at HL2
      clear HLK hb2 HOW HBr k3 ho2 HLL hB0
      go_wp2_with fail
      go_loopw [3, 6] (fun v y W => ∃ (i : Nat) (av : Option Addr) (cv : Nat), i ≤ N ∧ y = .int .i64 i ∧ v = .slice av (reqI r j i).length cv ∧ W.ownsRow w.heap.size 106 3 (.slice av (reqI r j i).length cv) (reqI r j i).length (icells (itF (reqI r j i)) (reqI r j i).length) ∧ Below w.heap.size w W ∧ W.ownsRow B0 106 3 (.slice al N cl) N (icells (itF (r.lacks j)) N) ∧ (∀ g, (Value.slice av (reqI r j i).length cv).ownBlock = some g → (Value.slice al N cl).ownBlock ≠ some g)) (fun _ y _ => N - (intOf y).toNat)
      case atStart => exact ⟨0, _, _, Nat.zero_le _, rfl, rfl, HO2.out, HB2.out, HL2.out, HAP.out⟩
      case round =>
        clear HO2 HB2 HL2 HAP
        obtain ⟨i, av, cv, hi, rfl, rfl, hown, hB, hL, hap⟩ := hrel
        have HOW : Hid (wr.ownsRow w.heap.size 106 3 (.slice av (reqI r j i).length cv) (reqI r j i).length (icells (itF (reqI r j i)) (reqI r j i).length)) := hown
        have HBr : Hid (Below w.heap.size w wr) := hB
        have HL : Hid (wr.ownsRow B0 106 3 (.slice al N cl) N (icells (itF (r.lacks j)) N)) := hL
        have HAP : Hid (∀ g, (Value.slice av (reqI r j i).length cv).ownBlock = some g → (Value.slice al N cl).ownBlock ≠ some g) := hap
        have hq8 := reqI_len r j i
        clear hown hB hL hap
        by_cases hiN : i < N
        · by_cases h8 : (reqI r j i).length < 8
          · have HMO : Hid (reqI r j (i + 1) = reqI r j i ++ [itF (r.lacks j) i]) := reqI_more r j i h8 (by rw [← HNl.out]; exact hiN)
            obtain ⟨g, hg, hgl, hc⟩ : ∃ g, al = some ⟨g, 0, none⟩ ∧ g < wr.heap.size ∧ ∀ q u, (icells (itF (r.lacks j)) N)[q]? = some u → wr.cell? ⟨g, q, none⟩ = some u := by
              rcases HL.out.2 with ⟨_, e⟩ | ⟨g, cap, cur, e, _⟩
              · omega
              · have e' : al = some ⟨g, 0, none⟩ := by injection e
                refine ⟨g, e', (HL.out.lt g (by rw [e']; rfl)).2, fun q u hq => ?_⟩
                have := HL.out.cells (g := g) (by rw [e']; rfl) q u hq
                rw [add_eq0] at this; exact this
            subst hg
            have i1 := hc (i * 3) _ (by rw [Ms.icells_get _ _ _ (by omega), Ms.icell_0])
            have i2 := hc (i * 3 + 1) _ (by rw [Ms.icells_get _ _ _ (by omega), Ms.icell_1])
            have i3 := hc (i * 3 + 2) _ (by rw [Ms.icells_get _ _ _ (by omega), Ms.icell_2])
            have HX : Hid (icells (itF (reqI r j i)) (reqI r j i).length ++ [.int .i64 (itF (r.lacks j) i).o, .int .i64 (itF (r.lacks j) i).b, .int .i64 (itF (r.lacks j) i).c] = icells (itF (reqI r j (i + 1))) ((reqI r j i).length + 1)) := by
              unfold Hid; rw [HMO.out, icells_app]
            have HA1 : Hid ((reqI r j (i + 1)).length = (reqI r j i).length + 1) := by unfold Hid; rw [HMO.out, List.length_append]; rfl
            clear hc
            generalize (itF (r.lacks j) i).o = t0 at *
            generalize (itF (r.lacks j) i).b = t1 at *
            generalize (itF (r.lacks j) i).c = t2 at *
            obtain ⟨A, hA⟩ : ∃ A, A = (reqI r j i).length := ⟨_, rfl⟩
            have HAl : Hid (A = (reqI r j i).length) := hA
            rw [← hA] at HOW HX h8 HA1 HAP
            rw [← hA]
            have hzr := HBr.out.size
            generalize icells (itF (reqI r j i)) A = XS at *
            clear hA hq8
            have hlt2 : (i : Int) < (N : Int) := by omega
            go_wp2_with (at_builtin; refine wpList_append_own_at _ rfl _ _ 22 rfl w.heap.size 106 i0 (.agg #[.int .i64 0, .int .i64 0, .int .i64 0]) 3 24 Try.underlying22 hi0 hz0 hz1 hz2 rfl (by decide) (.slice av A cv) A XS rfl (HOW.out.alloc _) ⟨wr.heap.size, 0, none⟩ 1 1 [.int .i64 t0, .int .i64 t1, .int .i64 t2] rfl rfl news3 (by intro u hu; simp at hu; rcases hu with rfl | rfl | rfl <;> rfl) (by unfold maxLen; omega) (by omega) (by simp; omega) ?_)
            intro v' w5 hown' hgrow _ hat
            obtain ⟨av2, cv2, rfl⟩ := owns_form hown'
            have hb5 := Cod.below_append HBr.out HBr.out.size HOW.out hgrow
            have hgz := hgrow.size
            rw [HX.out] at hown'
            have HO5 : Hid (w5.ownsRow w.heap.size 106 3 (.slice av2 (A + 1) cv2) (A + 1) (icells (itF (reqI r j (i + 1))) (A + 1))) := hown'
            have HL5 : Hid (w5.ownsRow B0 106 3 (.slice (some ⟨g, 0, none⟩) N cl) N (icells (itF (r.lacks j)) N)) := owns_still HL.out (fun b hb => (hgrow.block b (by have := (HL.out.lt b hb).2; simp; omega) (fun e => HAP.out b e.symm hb)).trans (Below.heap_alloc wr _ b (HL.out.lt b hb).2))
            have HAP5 : Hid (∀ q, (Value.slice av2 (A + 1) cv2).ownBlock = some q → (Value.slice (some ⟨g, 0, none⟩) N cl).ownBlock ≠ some q) := fun q h1 h2 => by
              rcases hat with e | e
              · exact HAP.out q (by rw [← e]; exact h1) h2
              · have h3 := (HL.out.lt q h2).2
                have h4 : some q = some _ := h1.symm.trans e
                simp at h4
                omega
            clear hown' hgrow HOW HBr HL HAP hat i1 i2 i3
            go_wp2
            go_roundw
            case rel =>
              refine ⟨i + 1, av2, cv2, by omega, by go_num, by rw [HA1.out], ?_, hb5, HL5.out, ?_⟩
              · rw [HA1.out]; exact HO5.out
              · rw [HA1.out]; exact HAP5.out
            case measure => simp [intOf]; omega
          · have HF : Hid (reqI r j i = reqI r (j + 1) 0) := reqI_full r j i (by omega)
            have h8' : (reqI r j i).length = 8 := by omega
            have HE : Hid (wr.ownsRow w.heap.size 106 3 (.slice av (reqI r (j + 1) 0).length cv) (reqI r (j + 1) 0).length (icells (itF (reqI r (j + 1) 0)) (reqI r (j + 1) 0).length)) := by unfold Hid; rw [← HF.out]; exact HOW.out
            rw [h8']
            have HV : Hid ((reqI r (j + 1) 0).length = 8) := by unfold Hid; rw [← HF.out]; exact h8'
            have hlt2 : (i : Int) < (N : Int) := by omega
            clear h8 h8' hq8 HOW HL HAP
            go_wp2
            go_roundw
            case rel => exact ⟨j + 1, av, cv, by omega, by go_num, by rw [HV.out], HE.out, HBr.out⟩
            case measure => simp [intOf]; omega
        · have hiN2 : i = N := by omega
          have HF : Hid (reqI r j i = reqI r (j + 1) 0) := by unfold Hid; rw [hiN2, HNl.out]; exact reqI_next r j
          have HE : Hid (wr.ownsRow w.heap.size 106 3 (.slice av (reqI r (j + 1) 0).length cv) (reqI r (j + 1) 0).length (icells (itF (reqI r (j + 1) 0)) (reqI r (j + 1) 0).length)) := by unfold Hid; rw [← HF.out]; exact HOW.out
          rw [HF.out]
          have hlt2 : (N : Int) ≤ (i : Int) := by omega
          clear hiN hiN2 HOW HL HAP hq8
          go_wp2
          go_roundw
          case rel => exact ⟨j + 1, av, cv, by omega, by go_num, rfl, HE.out, HBr.out⟩
          case measure => simp [intOf]; omega
    · obtain rfl : j = r.known := by omega
      have eI : reqI r r.known 0 = r.items.take 8 := reqI_zero r r.known
      rw [eI] at HOW HLL hown ⊢
      have HIT : Hid (ItemsAt wr av (r.items.take 8).length (itF (r.items.take 8))) := owns_items hown
      have HOKs : Hid (∀ t ∈ r.items, itOK t) := items_ok r HR.out
      have HRQ : Hid (r.request = if r.items = [] then ⟨#[]⟩ else txt (text (reqM (r.items.take 8)))) := rfl
      have HW : Hid (r.items ≠ [] → ∀ W ao cp, ItemsAt W ao (r.items.take 8).length (itF (r.items.take 8)) → Calls Try.prog 28 #[mV 2 0 0 0 0 ⟨#[]⟩ ao (r.items.take 8).length cp 0] W fun e w' => e = .returned (.tuple #[.string (txt (text (reqM (r.items.take 8)))), .int .i64 0]) ∧ Below W.heap.size W w') := fun hne W ao cp hit => by
        have hok : ok (reqM (r.items.take 8)) := by
          refine .inr (.inl ⟨rfl, ⟨rfl, rfl, rfl, rfl, rfl⟩, rfl, ?_, ?_, fun t ht => HOKs.out t (List.mem_of_mem_take ht)⟩)
          · show 1 ≤ (r.items.take 8).length
            have := List.length_pos_iff.2 hne
            rw [List.length_take]; omega
          · show (r.items.take 8).length ≤ 8
            rw [List.length_take]; omega
        refine (mWrite (reqM (r.items.take 8)) ao cp W (by show (r.items.take 8).length ≤ maxLen; rw [List.length_take]; unfold maxLen; omega) (Nat.zero_le _) hit).mono ?_
        rintro e w' ⟨ho, hb⟩
        rcases ho with ⟨_, rfl⟩ | ⟨h, _⟩
        · exact ⟨rfl, hb⟩
        · exact absurd hok h
      have HTL : Hid ((r.items.take 8).length = min 8 r.items.length) := List.length_take
      obtain ⟨A, hA⟩ : ∃ A, A = (r.items.take 8).length := ⟨_, rfl⟩
      have HAl : Hid (A = (r.items.take 8).length) := hA
      rw [← hA] at HLL HTL HW HIT
      rw [← hA]
      clear hA hown hB HOW hlt eI
      by_cases h0 : A = 0
      · have HE : Hid (r.request = ⟨#[]⟩) := by unfold Hid; rw [HRQ.out, if_pos (List.length_eq_zero_iff.1 (by have := HTL.out; omega))]
        subst h0
        clear HW HIT
        go_wp2
        go_ret
        exact ⟨by rw [HE.out]; rfl, HBr.out⟩
      · have hne : r.items ≠ [] := fun e => h0 (by have := HTL.out; rw [e] at this; simpa using this)
        have HE : Hid (r.request = txt (text (reqM (r.items.take 8)))) := by unfold Hid; rw [HRQ.out, if_neg hne]
        have HWW := HW.out hne wr av cv HIT.out
        have t0 : ((A : Int) == 0) = false := by simpa using h0
        clear HW hne h0 HIT
        generalize txt (text (reqM (r.items.take 8))) = TX at *
        go_wp2_with fail
        refine HWW.mono ?_
        rintro e w3 ⟨rfl, hb3⟩
        have HB3 : Hid (Below w.heap.size w w3) := HBr.out.trans (hb3.mono HBr.out.size)
        clear HWW hb3
        go_wp2
        go_ret
        exact ⟨by rw [HE.out]; rfl, HB3.out⟩
end Sn
end Go.Proofs.Ytkgnmcekeeannab
