import Derived.Test.YtkgnmcekeeannabW35
import Derived.Test.YtkgnmcekeeannabW11
/-
  The landed receiver's text and Take.
-/
namespace Go.Proofs.Ytkgnmcekeeannab
open Go.RowKit Go.Deep
namespace Sn
open Bs
open Ms (txt text ok M It mV mVm mBox itF itOK ItemsAt owns_setCell owns_items icells icell)
set_option linter.unusedVariables false

def numI (l : List M) (i : Nat) : Int := (l[i]?).elim 0 (fun m => m.num)
theorem natOf_numI (l : List M) : Cod.natOf (numI l) = numAt l := rfl
theorem numI_good {r : Rt} (hr : ROk r) (o b : Nat) : Cod.Good (r.come o b).length (numI (r.come o b)) := by
  have h1 := num_at r hr o b
  have h2 := num_apart r hr o b
  have e : ∀ i, i < (r.come o b).length → numI (r.come o b) i = (numAt (r.come o b) i : Int) := fun i hi => by
    rw [← (h1 i hi).2]
    unfold numI
    rw [List.getElem?_eq_getElem hi]; rfl
  intro i hi
  refine ⟨by rw [e i hi]; have := (h1 i hi).1; omega, fun j hj => ?_⟩
  rw [e i hi, e j (by omega)]
  have := h2 i j hi (by omega) (by omega)
  omega
set_option maxRecDepth 100000 in
set_option maxHeartbeats 4000000 in
theorem lanText (r : Rt) (o : Nat) (P : Nat) (F : Nat → Prop) (w : World) (hr : ROk r) (ho : o < r.known) (htk : r.taken ≤ o) (hwh : Whole r o) (hA : LRcvAt w P r F) :
    Calls Try.prog 58 #[.pointer (some ⟨P, 0, none⟩), .int .i64 o] w fun e w' => e = .returned (.string (txt (r.obj o))) ∧ Below w.heap.size w w' := by
  have HA : Hid (LRcvAt w P r F) := hA
  obtain ⟨K, ao, co, D, nv, sv, hI⟩ := hA
  obtain ⟨_, hln⟩ := hr.len o
  have hk8 := hr.kn
  have hPl := hI.row.lt
  obtain ⟨g, rfl, hgl, _, s0, s1, _⟩ := hI.slot (o := o) ho
  obtain ⟨c0, c1, c2, c3, c4⟩ := hI.cells
  have e0 : (LR.of r).ln o = r.len o := rfl
  have e3 : (LR.of r).kn = r.known := rfl
  have eg : gval (LR.of r) D o = .slice (some ⟨D o, 0, none⟩) (r.n.blocks (r.len o)) (r.n.blocks (r.len o)) := by unfold gval; rw [if_pos ⟨hwh.1, htk⟩]; rfl
  rw [e0] at s0
  rw [e3] at c3
  rw [eg] at s1
  have HI : Hid (LRI w P (LR.of r) F K (some ⟨g, 0, none⟩) co D nv sv) := hI
  have HLV : Hid ((LR.of r).live o) := ⟨ho, hwh.1, htk⟩
  have HWH : Hid (Whole r o) := hwh
  have HR : Hid (ROk r) := hr
  have HOB : Hid (r.obj o = (objTo r o (r.n.blocks (r.len o))).take (r.len o)) := rfl
  have hBl := blocks_le r.n hr.nok (r.len o) hln
  have HEN : Hid (r.len o ≤ (objTo r o (r.n.blocks (r.len o))).length) := objTo_enough r hr o hwh
  obtain ⟨Q, hQ⟩ : ∃ Q, Q = r.known := ⟨_, rfl⟩
  have HQ : Hid (Q = r.known) := hQ
  rw [← hQ] at c3 ho hk8
  obtain ⟨LN, hLN⟩ : ∃ LN, LN = r.len o := ⟨_, rfl⟩
  obtain ⟨Bn, hBn⟩ : ∃ Bn, Bn = r.n.blocks (r.len o) := ⟨_, rfl⟩
  have HBn : Hid (Bn = r.n.blocks (r.len o)) := hBn
  have HLN : Hid (LN = r.len o) := hLN
  rw [← hBn] at HOB HEN hBl s1
  rw [← hLN] at HOB HEN hln s0
  clear hI hQ hLN hBn eg e0 e3 hwh hr htk
  go_enter Try.func58, Try.ntmps58
  go_wp2_with fail
  clear c0 c1 c2 c3 c4 s0 s1
  go_loopw [5, 7] (fun v y wr => ∃ j : Nat, j ≤ Bn ∧ y = .int .i64 j ∧ v = .string (txt (objTo r o j)) ∧ Below w.heap.size w wr) (fun _ y _ => Bn - (intOf y).toNat)
  case atStart => exact ⟨0, Nat.zero_le _, rfl, rfl, Below.refl _ _⟩
  case round =>
    obtain ⟨j, hj, rfl, rfl, hB⟩ := hrel
    have HB : Hid (Below w.heap.size w wr) := hB
    have hol := objTo_length r HR.out o HWH.out j (by rw [← HBn.out]; exact hj)
    have hall := all_le r.n HR.out.nok (r.len o) (HR.out.len o).2
    have hz16 := HR.out.nok.2.1
    have hsz : (txt (objTo r o j)).size ≤ 256 * 16 := by
      rw [Ms.txt_size, hol]
      exact Nat.mul_le_mul (by omega) hz16
    have HIr : Hid (LRI wr P (LR.of r) F _ (some ⟨g, 0, none⟩) co D nv sv) := HI.out.below hB
    clear hol hall hB
    by_cases hlj : j < Bn
    · have hcl : (r.come o j).length = r.n.many (r.len o) j := HWH.out.2 j (by rw [← HBn.out]; exact hlj)
      have hpos := many_pos r.n HR.out.nok (r.len o) j (by rw [← HBn.out]; exact hlj)
      have hm := many_le r.n (r.len o) j
      have hb8 := HR.out.nok.2.2.2.1
      have hbk : j < (LR.of r).bks o := by show j < r.n.blocks (r.len o); rw [← HBn.out]; exact hlj
      have HSU : Hid (txt (objTo r o j) ++ txt (r.blockOf o j) = txt (objTo r o (j + 1))) := by unfold Hid; rw [objTo_succ, Ms.txt_append]
      have hbs : (txt (r.blockOf o j)).size ≤ 8 * 16 := by
        rw [Ms.txt_size, blockOf_length, hcl]
        exact Nat.mul_le_mul (by omega) hz16
      have enm : (LR.of r).nm o j = (r.come o j).map M.num := rfl
      have esm : (LR.of r).sm o j = symsOf (r.come o j) := rfl
      have HU := HIr.out.nu o j HLV.out hbk
      have HY := HIr.out.sy o j HLV.out hbk
      rw [enm, List.length_map] at HU
      rw [esm] at HY
      obtain ⟨gn, cp, hnv, hgc⟩ := owns_cells HU (by omega)
      obtain ⟨sa, cq, hsv⟩ := owns_form HY
      have hgn : gn < wr.heap.size := by rw [hnv] at HU; exact (HU.lt gn rfl).2
      have HNC : Hid (∀ i, i < (r.come o j).length → wr.cell? ⟨gn, i, none⟩ = some (.int .i64 (numI (r.come o j) i))) := fun i hi => by
        refine hgc i _ ?_
        unfold ints numI
        rw [List.map_map, List.getElem?_map, List.getElem?_eq_getElem hi]; rfl
      have HDE := fun (W : World) (hW : Below wr.heap.size wr W) => Cod.decode_good gn 0 (r.come o j).length cp r.n.size (numI (r.come o j)) (txt (symsOf (r.come o j))) W (by omega) (by omega) HR.out.nok.1 HR.out.nok.2.1 (syms_size r HR.out o j) (by have := hW.size; omega) (fun i hi => by rw [Nat.zero_add]; exact (hW.cell (p := ⟨gn, i, none⟩) hgn).trans (HNC.out i hi)) (numI_good HR.out o j)
      rw [natOf_numI] at HDE
      have HCE : Hid (∀ W, Below wr.heap.size wr W → W.cell? ⟨P, 0, none⟩ = some (.int .i64 r.n.size) ∧ W.cell? ⟨D o, j * 2, none⟩ = some (.slice (some ⟨gn, 0, none⟩) (r.come o j).length cp) ∧ W.cell? ⟨D o, j * 2 + 1, none⟩ = some (.slice sa (symsOf (r.come o j)).length cq) ∧ (convert 72 9 (.slice sa (symsOf (r.come o j)).length cq)).run Try.prog W = .ok (.string (txt (symsOf (r.come o j)))) W) := fun W hW => by
        have q := HIr.out.below hW
        obtain ⟨c0, _, _, _, _⟩ := q.cells
        refine ⟨c0, ?_, ?_, ?_⟩
        · rw [(q.bl o HLV.out).cell (i := j * 2) (by omega)]
          unfold bRow
          rw [if_pos (by omega), show j * 2 / 2 = j from by omega, hnv]
        · rw [(q.bl o HLV.out).cell (i := j * 2 + 1) (by omega)]
          unfold bRow
          rw [if_neg (by omega), show (j * 2 + 1) / 2 = j from by omega, hsv]
        · have y := q.sy o j HLV.out hbk
          rw [esm, hsv] at y
          exact Cod.conv_own _ y
      have HBO : Hid ((⟨(Cod.flat r.n.size (Cod.symF (r.come o j).length (numAt (r.come o j)) (txt (symsOf (r.come o j))) r.n.size 0) (r.come o j).length).toArray⟩ : ByteArray) = txt (r.blockOf o j)) := rfl
      rw [HBO.out] at HDE
      generalize txt (objTo r o j) = TA at *
      generalize txt (r.blockOf o j) = TB at *
      generalize txt (symsOf (r.come o j)) = TC at *
      obtain ⟨M, hM⟩ : ∃ M, M = (symsOf (r.come o j)).length := ⟨_, rfl⟩
      simp only [← hM] at HCE
      obtain ⟨c, hc⟩ : ∃ c, c = (r.come o j).length := ⟨_, rfl⟩
      simp only [← hc] at HCE HDE
      have hc8 : c ≤ 8 := by omega
      have hadd : ∀ W, (Op.stringOp .add TA TB).run Try.prog W = .ok (.string (TA ++ TB)) W := fun W => run_string_add_sum W _ _ (by omega)
      have HMC : Calls Try.prog 74 #[.slice (some ⟨gn, 0, none⟩) c cp, .string TC, .int .i64 r.n.size] wr.drew fun e w' => e = .returned (.tuple #[.string TB, .int .i64 0]) ∧ Hid (Below wr.heap.size wr w') ∧ w'.cell? ⟨P, 0, none⟩ = some (.int .i64 r.n.size) ∧ w'.cell? ⟨D o, j * 2, none⟩ = some (.slice (some ⟨gn, 0, none⟩) c cp) ∧ w'.cell? ⟨D o, j * 2 + 1, none⟩ = some (.slice sa M cq) ∧ (convert 72 9 (.slice sa M cq)).run Try.prog w' = .ok (.string TC) w' := by
        refine (HDE wr.drew (Below.refl _ _).drew).mono ?_
        rintro e W ⟨rfl, hb⟩
        have hW : Below wr.heap.size wr W := ((Below.refl wr.heap.size wr).drew).trans hb
        exact ⟨rfl, hW, HCE.out W hW⟩
      obtain ⟨c0, c1, c2, c3⟩ := HCE.out wr.drew (Below.refl _ _).drew
      clear hM hc hcl hpos hm enm esm HU HY hgc hnv hsv HNC HDE HCE HBO HIr hbk
      go_wp2_with fail
      go_region_held3 (fun w' => w'.cell? ⟨P, 0, none⟩ = some (.int .i64 r.n.size) ∧ w'.cell? ⟨D o, j * 2, none⟩ = some (.slice (some ⟨gn, 0, none⟩) c cp) ∧ w'.cell? ⟨D o, j * 2 + 1, none⟩ = some (.slice sa M cq) ∧ (convert 72 9 (.slice sa M cq)).run Try.prog w' = .ok (.string TC) w') (go_keep)
        (first | (go_at_call 74; refine HMC.mono ?_; rintro e w4 ⟨rfl, hb4, k0, k1, k2, k3⟩))
      clear HMC c0 c1 c2 c3 k0 k1 k2 k3
      have HB4 : Hid (Below w.heap.size w w4) := HB.out.trans (hb4.out.mono HB.out.size)
      clear hb4 HB
      go_wp2
      go_roundw
      case rel => exact ⟨j + 1, by omega, by go_num, by rw [← HSU.out], HB4.out⟩
      case measure => simp [intOf]; omega
    · obtain rfl : j = Bn := by omega
      have hen : LN ≤ (txt (objTo r o j)).size := by rw [Ms.txt_size]; exact HEN.out
      have HV : Hid ((txt (objTo r o j)).extract 0 LN = txt (r.obj o)) := by
        unfold Hid
        rw [HOB.out]
        apply ByteArray.ext
        apply Array.ext'
        rw [Lib.extract_data, List.drop_zero]
        simp [txt]
      have hsl : ∀ W : World, (Instr.slice 9 (.string (txt (objTo r o j))) none (some (.int .i64 (LN : Int))) none).run Try.prog W = .ok (.string ((txt (objTo r o j)).extract 0 LN)) W := fun W => by
        have h := run_slice_string_to_if (P := Try.prog) W 9 (txt (objTo r o j)) .i64 (LN : Int) Try.underlying9
        rw [h]
        simp
        omega
      rw [HV.out] at hsl
      obtain ⟨g', eg, hgl', _, s0, _, _⟩ := HIr.out.slot (o := o) HLV.out.1
      obtain rfl : g = g' := by simpa using eg
      have s0' : wr.cell? ⟨g, o * 2, none⟩ = some (.int .i64 LN) := by rw [HLN.out]; exact s0
      have c3 : wr.cell? ⟨P, 3, none⟩ = some (.slice (some ⟨g, 0, none⟩) Q co) := by rw [HQ.out]; exact HIr.out.cells.2.2.2.1
      generalize txt (objTo r o j) = TA at *
      clear hlj eg s0 HIr
      go_wp2
      go_ret
      exact ⟨rfl, HB.out⟩
def LRTakeOut (r : Rt) (e : Ending) (w w' : World) (P : Nat) (F : Nat → Prop) : Prop := e = .returned (.tuple #[.string r.take.2.1, .bool r.take.2.2]) ∧ LRIs w w' P (LR.of r.take.1) F
set_option maxRecDepth 100000 in
set_option maxHeartbeats 4000000 in
theorem lanTake (r : Rt) (P : Nat) (F : Nat → Prop) (w : World) (hr : ROk r) (hw : TW r) (hA : LRcvAt w P r F) :
    Calls Try.prog 43 #[.pointer (some ⟨P, 0, none⟩)] w fun e w' => LRTakeOut r e w w' P F := by
  have HA : Hid (LRcvAt w P r F) := hA
  have HR : Hid (ROk r) := hr
  have HTW : Hid (TW r) := hw
  have hk8 := hr.kn
  have HTK : Hid (r.take = if r.known ≤ r.taken ∨ r.lacks r.taken ≠ [] then (r, ⟨#[]⟩, false) else ({ r with taken := r.taken + 1 }, txt (r.obj r.taken), true)) := rfl
  obtain ⟨K, ao, co, D, nv, sv, hI⟩ := hA
  have HS : Hid (LRIs w w P (LR.of r) F) := LRIs.refl hI
  have c3 : w.cell? ⟨P, 3, none⟩ = some (.slice ao r.known co) := hI.cells.2.2.2.1
  have c4 : w.cell? ⟨P, 4, none⟩ = some (.int .i64 r.taken) := hI.cells.2.2.2.2
  clear hI hr hw HA
  go_enter Try.func43, Try.ntmps43
  go_wp2_with fail
  by_cases hno : r.known ≤ r.taken
  · have HE : Hid (r.take = (r, ⟨#[]⟩, false)) := by unfold Hid; rw [HTK.out, if_pos (.inl hno)]
    have hno2 : (r.known : Int) ≤ (r.taken : Int) := by omega
    clear hno HTK
    go_quiet (fail)
    have HF : Hid (LRIs w (w.drewN nq) P (LR.of r) F) := HS.out.below (below_drewN (Below.refl _ _) nq)
    clear HS c3 c4
    generalize w.drewN nq = w1 at *
    go_wp2
    go_ret2
    unfold LRTakeOut
    rw [HE.out]
    exact ⟨rfl, HF.out⟩
  · have hlt : r.taken < r.known := by omega
    clear hno
    go_quiet (fail)
    have HS1 : Hid (LRIs w (w.drewN nq) P (LR.of r) F) := HS.out.below (below_drewN (Below.refl _ _) nq)
    clear HS c3 c4
    generalize w.drewN nq = w1 at *
    obtain ⟨⟨K1, ao1, co1, D1, nv1, sv1, hI1⟩, hT1⟩ := HS1.out
    have c4 : w1.cell? ⟨P, 4, none⟩ = some (.int .i64 r.taken) := hI1.cells.2.2.2.2
    have HA1 : Hid (LRcvAt w1 P r (grow F w w1)) := ⟨_, _, _, _, _, _, hI1⟩
    have HLK := lanLacking r r.taken P _ w1 HR.out HTW.out hlt HA1.out
    obtain ⟨N, hN⟩ : ∃ N, N = (r.lacks r.taken).length := ⟨_, rfl⟩
    have HN : Hid (N = (r.lacks r.taken).length) := hN
    have hN2 := lacks_len r HR.out r.taken
    rw [← hN] at HLK hN2
    clear hN hI1 hT1
    go_wp2_with fail
    refine HLK.mono ?_
    rintro e w2 ⟨vv, rfl, ho2, hb2⟩
    obtain ⟨al, cl, rfl⟩ := owns_form ho2
    have HS2 : Hid (LRIs w w2 P (LR.of r) F) := HS1.out.below hb2
    clear HLK ho2 hb2 HS1 HA1 c4
    by_cases h0 : 0 < N
    · have HE : Hid (r.take = (r, ⟨#[]⟩, false)) := by
        unfold Hid
        rw [HTK.out, if_pos (.inr (fun e => by rw [HN.out, e] at h0; simp at h0))]
      clear HTK
      go_wp2
      go_ret2
      unfold LRTakeOut
      rw [HE.out]
      exact ⟨rfl, HS2.out⟩
    · have hN0 : N = 0 := by omega
      have hlk : r.lacks r.taken = [] := List.length_eq_zero_iff.1 (by rw [← HN.out]; exact hN0)
      have HE : Hid (r.take = ({ r with taken := r.taken + 1 }, txt (r.obj r.taken), true)) := by
        unfold Hid
        rw [HTK.out, if_neg]
        rintro (h | h)
        · omega
        · exact h hlk
      have HWH : Hid (Whole r r.taken) := whole_of hlk
      obtain ⟨⟨K2, ao2, co2, D2, nv2, sv2, hI2⟩, hT2⟩ := HS2.out
      have c4 : w2.cell? ⟨P, 4, none⟩ = some (.int .i64 r.taken) := hI2.cells.2.2.2.2
      have HTX := lanText r r.taken P _ w2 HR.out hlt (Nat.le_refl _) HWH.out ⟨_, _, _, _, _, _, hI2⟩
      generalize txt (r.obj r.taken) = TX at *
      clear hI2 hT2 HTK HN hlk
      subst hN0
      go_wp2_with fail
      refine HTX.mono ?_
      rintro e w3 ⟨rfl, hb3⟩
      have HS3 : Hid (LRIs w w3 P (LR.of r) F) := HS2.out.below hb3
      clear HTX hb3 HS2 c4
      obtain ⟨v3, hv3⟩ : ∃ v3, v3 = w3.drew := ⟨_, rfl⟩
      have HS4 : Hid (LRIs w v3 P (LR.of r) F) := by rw [hv3]; exact HS3.out.below ((Below.refl _ _).drew)
      obtain ⟨⟨K3, ao3, co3, D3, nv3, sv3, hI3⟩, hT3⟩ := HS4.out
      obtain ⟨g, rfl, hgl, hgK, s0, s1, hfz⟩ := hI3.slot (o := r.taken) hlt
      have c3 : v3.cell? ⟨P, 3, none⟩ = some (.slice (some ⟨g, 0, none⟩) r.known co3) := hI3.cells.2.2.2.1
      have c4 : v3.cell? ⟨P, 4, none⟩ = some (.int .i64 r.taken) := hI3.cells.2.2.2.2
      have f1 := hfz (r.taken * 2 + 1)
      have f4 := hI3.row.frozen 4
      have hgP : g ≠ P := fun e => by rw [e, hI3.kP] at hgK; cases hgK
      have HI3 : Hid (LRI v3 P (LR.of r) (grow F w v3) K3 (some ⟨g, 0, none⟩) co3 D3 nv3 sv3) := hI3
      have HT3 : Hid (Touch w v3 F) := hT3
      clear hfz hI3 hT3 s0
      have HF : Hid (LRIs w ((v3.setCell ⟨g, r.taken * 2 + 1, none⟩ (.slice none 0 0)).setCell ⟨P, 4, none⟩ (.int .i64 (r.taken + 1 : Nat))) P (LR.of { r with taken := r.taken + 1 }) F) := by
        have LN := HI3.out.taken (by exact hlt) (by show r.len r.taken ≠ 0; exact HWH.out.1)
        refine ⟨⟨_, _, _, _, _, _, LN.mono (G := grow F w ((v3.setCell ⟨g, r.taken * 2 + 1, none⟩ (.slice none 0 0)).setCell ⟨P, 4, none⟩ (.int .i64 (r.taken + 1 : Nat)))) (fun b hb _ => hb.imp id (fun q => ⟨q.1, by simpa using q.2⟩))⟩, ?_⟩
        have kg : F g ∨ w.heap.size ≤ g := (HI3.out.kF g hgl (by rw [hgK]; simp)).imp id (fun q => q.1)
        have kP : F P ∨ w.heap.size ≤ P := (HI3.out.kF P HI3.out.row.lt (by rw [HI3.out.kP]; simp)).imp id (fun q => q.1)
        exact touch_set (touch_set HT3.out kg) kP
      have c4' : (v3.setCell ⟨g, r.taken * 2 + 1, none⟩ (.slice none 0 0)).cell? ⟨P, 4, none⟩ = some (.int .i64 r.taken) := by
        rw [World.cell?_of_block (a := ⟨P, 4, none⟩) (heap_setCell_other _ _ _ _ (fun e => hgP e.symm))]; exact c4
      have f4' : (v3.setCell ⟨g, r.taken * 2 + 1, none⟩ (.slice none 0 0)).frozen? ⟨P, 4, none⟩ = false := by
        rw [World.frozen?_of_block (a := ⟨P, 4, none⟩) (heap_setCell_other _ _ _ _ (fun e => hgP e.symm))]; exact f4
      clear HI3 HT3 HS3 HS4 hgK
      go_wp2_with fail
      (refine wp_region_still_tail 10 (by kernel_rfl) (by kernel_rfl) ?_; change wpStill _ _ (World.drew _) (fun a' => wpList _ _ _ _ a' (World.drew _)) _ _; simp only [← hv3]; clear hv3; simp only [List.take_succ_cons, List.take_zero, List.drop_succ_cons, List.drop_zero]; (repeat still_step); refine wpStill_nil ?_)
      go_wp2
      go_ret2
      unfold LRTakeOut
      rw [HE.out]
      exact ⟨rfl, HF.out⟩
end Sn
end Go.Proofs.Ytkgnmcekeeannab
/-
  The landed receiver's calls, as the caller sees them.
-/
namespace Go.Proofs.Ytkgnmcekeeannab
open Go.RowKit Go.Deep
namespace Sn
open Bs
open Ms (Tells)
set_option linter.unusedVariables false

def LHeard (r : Rt) (t : ByteArray) (e : Ending) (w w' : World) (P : Nat) (F : Nat → Prop) : Prop :=
  (∃ m, Tells t m ∧ e = .returned (.int .i64 (r.hear m).2) ∧ LRcvAt w' P (r.hear m).1 (grow F w w')) ∨
  ((∀ m, ¬ Tells t m) ∧ e = .returned (.int .i64 6) ∧ LRcvAt w' P r (grow F w w'))
theorem LRIs.at_ {w w' : World} {P : Nat} {r : Rt} {F : Nat → Prop} (h : LRIs w w' P (LR.of r) F) : LRcvAt w' P r (grow F w w') := by
  obtain ⟨⟨K, ao, co, D, nv, sv, h⟩, _⟩ := h
  exact ⟨_, _, _, _, _, _, h⟩
theorem LRcvAt.is {w : World} {P : Nat} {r : Rt} {F : Nat → Prop} (h : LRcvAt w P r F) : LRIs w w P (LR.of r) F := by
  obtain ⟨K, ao, co, D, nv, sv, h⟩ := h
  exact LRIs.refl h
set_option maxHeartbeats 1000000 in
theorem rHearR (r : Rt) (tx : ByteArray) (P : Nat) (F : Nat → Prop) (w : World) (ht : tx.size ≤ 1048576) (hr : ROk r) (hA : LRcvAt w P r F) :
    Calls Try.prog 35 #[.pointer (some ⟨P, 0, none⟩), .string tx] w fun e w' => LHeard r tx e w w' P F ∧ Touch w w' F := by
  have H2 : Calls Try.prog 49 #[.pointer (some ⟨P, 0, none⟩), .string tx] w fun e w' => ∃ v : Int, e = .returned (.int .i64 v) ∧ Hid (LHeard r tx (.returned (.int .i64 v)) w w' P F ∧ Touch w w' F) := by
    refine (lanHearR r tx P F w ht hr hA.is).mono ?_
    rintro e w' ho
    rcases ho with ⟨m, h1, rfl, h2⟩ | ⟨h1, rfl, h2⟩
    · exact ⟨_, rfl, .inl ⟨m, h1, rfl, h2.at_⟩, h2.2⟩
    · exact ⟨_, rfl, .inr ⟨h1, rfl, h2.at_⟩, h2.2⟩
  clear hA hr
  go_enter Try.func35, Try.ntmps35
  go_wp2_with fail
  refine H2.mono ?_
  rintro e w1 ⟨v, rfl, h1⟩
  clear H2
  go_wp2
  go_ret
  exact h1.out
set_option maxHeartbeats 1000000 in
theorem rKnownR (r : Rt) (P : Nat) (F : Nat → Prop) (w : World) (hA : LRcvAt w P r F) :
    Calls Try.prog 16 #[.pointer (some ⟨P, 0, none⟩)] w fun e w' => e = .returned (.int .i64 r.known) ∧ w' = w := by
  obtain ⟨K, ao, co, D, nv, sv, h⟩ := hA
  have H := lanKnown (LR.of r) P F K ao co D nv sv w h
  have e : (LR.of r).kn = r.known := rfl
  rw [e] at H
  clear h e
  go_enter Try.func16, Try.ntmps16
  go_wp2_with fail
  refine H.mono ?_
  rintro e w1 ⟨rfl, rfl⟩
  clear H
  go_wp2
  go_ret
  exact ⟨rfl, rfl⟩
set_option maxHeartbeats 1000000 in
theorem rRequestR (r : Rt) (P : Nat) (F : Nat → Prop) (w : World) (hr : ROk r) (hw : TW r) (hA : LRcvAt w P r F) :
    Calls Try.prog 13 #[.pointer (some ⟨P, 0, none⟩)] w fun e w' => e = .returned (.string r.request) ∧ Below w.heap.size w w' := by
  have H := lanRequest r P F w hr hw hA
  clear hA hr hw
  generalize r.request = Q at *
  go_enter Try.func13, Try.ntmps13
  go_wp2_with fail
  refine H.mono ?_
  rintro e w1 ⟨rfl, hb⟩
  clear H
  go_wp2
  go_ret
  exact ⟨rfl, hb⟩
set_option maxHeartbeats 1000000 in
theorem rTakeR (r : Rt) (P : Nat) (F : Nat → Prop) (w : World) (hr : ROk r) (hw : TW r) (hA : LRcvAt w P r F) :
    Calls Try.prog 27 #[.pointer (some ⟨P, 0, none⟩)] w fun e w' => e = .returned (.tuple #[.string r.take.2.1, .bool r.take.2.2]) ∧ LRcvAt w' P r.take.1 (grow F w w') ∧ Touch w w' F := by
  have H : Calls Try.prog 43 #[.pointer (some ⟨P, 0, none⟩)] w fun e w' => e = .returned (.tuple #[.string r.take.2.1, .bool r.take.2.2]) ∧ Hid (LRcvAt w' P r.take.1 (grow F w w') ∧ Touch w w' F) := by
    refine (lanTake r P F w hr hw hA).mono ?_
    rintro e w' ⟨he, h⟩
    exact ⟨he, h.at_, h.2⟩
  clear hA hr hw
  generalize r.take.1 = R at *
  generalize r.take.2.1 = A at *
  generalize r.take.2.2 = B at *
  go_enter Try.func27, Try.ntmps27
  go_wp2_with fail
  refine H.mono ?_
  rintro e w1 ⟨rfl, hb⟩
  clear H
  go_wp2
  go_ret2
  exact ⟨rfl, hb.out⟩
end Sn
end Go.Proofs.Ytkgnmcekeeannab
