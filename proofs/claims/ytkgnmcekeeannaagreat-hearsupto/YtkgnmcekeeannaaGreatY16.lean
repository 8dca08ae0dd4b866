import Derived.Test.YtkgnmcekeeannaaGreatY15
import Derived.Test.YtkgnmcekeeannaaGreatY03
namespace Go.Proofs.YtkgnmcekeeannaaGreat
open Go.RowKit Go.Deep
namespace Sn
open Bs
open Ms (txt text ok M mV mVm WriteOut refWrite owns_setCell)
set_option linter.unusedVariables false

theorem sRow_set5 (n : Nm) (vo vd : Value) (a b j : Nat) (hj : j < 6) : (if j = 5 then .int .i64 b else sRow n vo vd a j) = sRow n vo vd b j := by
  match j, hj with
  | 0, _ => rfl
  | 1, _ => rfl
  | 2, _ => rfl
  | 3, _ => rfl
  | 4, _ => rfl
  | 5, _ => rfl
theorem SI.set_sent {w wr : World} {P : Nat} {n : Nm} {objs : List ByteArray} {ds : List Db} {sent : Nat} {F : Nat → Prop} {ao : Option Addr} {co : Nat} {ad : Option Addr} {cd : Nat}
    (h : SI w wr P n objs ds sent F ao co ad cd) (b : Nat) : SI w (wr.setCell ⟨P, 5, none⟩ (.int .i64 b)) P n objs ds b F ao co ad cd :=
  ⟨(h.row.set 5 _).congr (fun j hj => sRow_set5 n _ _ sent b j hj), owns_setCell h.ob h.op, owns_setCell h.db h.dp, h.fP, h.op, h.dp, h.od, h.fo, h.fd, touch_set h.touch (.inl h.fP)⟩
theorem order_cons (n : Nm) (o : ByteArray) (l : List ByteArray) (i left : Nat) : order n (o :: l) i left = if left < n.all o.size then some (i, left) else order n l (i + 1) (left - n.all o.size) := rfl
theorem drop_obj (s : St) (i : Nat) (hi : i < s.objs.length) : s.objs.drop i = objOf s i :: s.objs.drop (i + 1) := by
  rw [List.drop_eq_getElem_cons hi]
  congr 1
  simp [objOf, List.getD_eq_getElem?_getD, hi]
theorem endM_ok (k : Nat) (h : k ≤ 8) : ok (endM k) := .inr (.inr ⟨rfl, by show (0 : Int) ≤ (k : Int); omega, by show (k : Int) ≤ 8; omega, ⟨rfl, rfl, rfl, rfl, rfl⟩, rfl⟩)
/-- Next, where nothing is owed -/
def rest (s : St) : St × ByteArray :=
  match order s.n s.objs 0 s.sent with
  | some (i, left) => ({ s with sent := s.sent + 1 }, txt (text (dataM s.n (objOf s i) i (left / s.n.block) (left % s.n.block))))
  | none => (s, txt (text (endM s.objs.length)))
theorem nxt_rest {s : St} (h : owing s.debts = none) : nxt s = rest s := by unfold nxt; rw [h]; rfl

set_option maxRecDepth 100000 in
set_option maxHeartbeats 8000000 in
theorem next_rest (s : St) (P : Nat) (F : Nat → Prop) (w : World) (hs : SOk2 s) (ao : Option Addr) (co : Nat) (ad : Option Addr) (cd : Nat) (h0 : ∀ j, j < s.debts.length → (debtOf s j).owes = 0) (hI : SI w w P s.n s.objs s.debts s.sent F ao co ad cd) :
    Calls Tryz.prog 22 #[.pointer (some ⟨P, 0, none⟩)] w fun e w' => e = .returned (.string (rest s).2) ∧ SndAt w' P (rest s).1 (grow F w w') ∧ Touch w w' F := by
  have HI : Hid (SI w w P s.n s.objs s.debts s.sent F ao co ad cd) := hI
  have hdl : s.debts.length ≤ 2048 := by have := hs.base.dl; have := hs.base.len; omega
  obtain ⟨D, hD⟩ : ∃ D, D = s.debts.length := ⟨_, rfl⟩
  have HD : Hid (D = s.debts.length) := hD
  have H0 : Hid (∀ j, j < s.debts.length → (debtOf s j).owes = 0) := h0
  have HS : Hid (SOk2 s) := hs
  rw [← hD] at hdl
  clear hI h0 hs hD
  go_enter Tryz.func22, Tryz.ntmps22
  go_wp2
  go_loopw [3] (fun x wr => ∃ j : Nat, j ≤ D ∧ x = .int .i64 j ∧ SI w wr P s.n s.objs s.debts s.sent F ao co ad cd) (fun x _ => D - (intOf x).toNat)
  case atStart => exact ⟨0, Nat.zero_le _, rfl, HI.out⟩
  case round =>
    clear HI
    obtain ⟨j, hj, rfl, hS⟩ := hrel
    have c4 : wr.cell? ⟨P, 4, none⟩ = some (.slice ad D cd) := by rw [HD.out]; exact hS.row.cell (by decide)
    have c5 : wr.cell? ⟨P, 5, none⟩ = some (.int .i64 s.sent) := hS.row.cell (by decide)
    have HSI : Hid (SI w wr P s.n s.objs s.debts s.sent F ao co ad cd) := hS
    by_cases hjD : j < D
    · obtain ⟨dg, rfl, hdg, hdP, hdc, hdf⟩ := hS.debt_at (by rw [← HD.out]; omega)
      have k0 := hdc j (by rw [← HD.out]; exact hjD) 0 _ (by decide) rfl
      have k1 := hdc j (by rw [← HD.out]; exact hjD) 1 _ (by decide) rfl
      have k2 := hdc j (by rw [← HD.out]; exact hjD) 2 _ (by decide) rfl
      have k3 := hdc j (by rw [← HD.out]; exact hjD) 3 _ (by decide) rfl
      simp only [Nat.add_zero] at k0
      have ez := H0.out j (by rw [← HD.out]; exact hjD)
      unfold debtOf at ez
      rw [ez] at k2
      clear hS hdc hdf ez
      generalize s.debts.getD j ⟨0, 0, 0, 0⟩ = d at *
      have HSI2 : Hid (SI w (wr.alloc (.cells #[.int .i64 d.o, .int .i64 d.b, .int .i64 0, .int .i64 d.turn] 93)) P s.n s.objs s.debts s.sent F ao co (some ⟨dg, 0, none⟩) cd) := HSI.out.below ((Below.refl _ _).alloc (Nat.le_refl _) _)
      go_wp2
      go_roundw
      case rel => exact ⟨j + 1, by omega, by go_num, HSI2.out⟩
      case measure => simp [intOf]; omega
    · obtain rfl : j = D := by omega
      clear hS
      have hlen := HS.out.base.len
      obtain ⟨n1, n2, n3, n4, n5⟩ := HS.out.base.nok
      have hsent := HS.out.snt
      obtain ⟨L, hL⟩ : ∃ L, L = s.objs.length := ⟨_, rfl⟩
      have HLN : Hid (L = s.objs.length) := hL
      rw [← hL] at hlen
      clear hL hjD hj
      go_wp2
      clear c4 c5
      go_loopw [6, 7] (fun l x wr => ∃ i left : Nat, i ≤ L ∧ x = .int .i64 i ∧ l = .int .i64 left ∧ left ≤ 4611686018427387904 ∧ order s.n (s.objs.drop i) i left = order s.n s.objs 0 s.sent ∧ SI w wr P s.n s.objs s.debts s.sent F ao co ad cd) (fun _ x _ => L - (intOf x).toNat)
      case atStart => exact ⟨0, s.sent, Nat.zero_le _, rfl, rfl, hsent, rfl, HSI.out⟩
      case round =>
        clear HSI
        obtain ⟨i, left, hiL, rfl, rfl, hleft, hord, hS⟩ := hrel
        have HORD : Hid (order s.n (s.objs.drop i) i left = order s.n s.objs 0 s.sent) := hord
        have c3 : wr.cell? ⟨P, 3, none⟩ = some (.slice ao L co) := by rw [HLN.out]; exact hS.row.cell (by decide)
        have HSI : Hid (SI w wr P s.n s.objs s.debts s.sent F ao co ad cd) := hS
        clear hord hS
        by_cases hlt : i < L
        · obtain ⟨g, hao, hSR⟩ := HSI.out.reads (s := s) (by rw [← HLN.out]; omega)
          subst hao
          have hiL' : i < s.objs.length := by rw [← HLN.out]; exact hlt
          have hos := obj_size HS.out.base hiL'
          have HAL := fun W => all_any s.n (objOf s i).size W HS.out.base.nok (by omega)
          have hA := all_le s.n HS.out.base.nok (objOf s i).size hos.2
          have HO2 : Hid ((if left < s.n.all (objOf s i).size then some (i, left) else order s.n (s.objs.drop (i + 1)) (i + 1) (left - s.n.all (objOf s i).size)) = order s.n s.objs 0 s.sent) := by
            unfold Hid
            rw [← HORD.out, drop_obj s i hiL', order_cons]
          have HSR : Hid (SR wr P s g co) := hSR
          clear hSR hiL' HORD
          go_wp2_with fail
          obtain ⟨wd, hwd⟩ : ∃ wd, wd = wr.drew := ⟨_, rfl⟩
          have x0 : wd.cell? ⟨P, 0, none⟩ = some (.int .i64 s.n.size) := by rw [hwd]; exact HSR.out.c0
          have x1 : wd.cell? ⟨P, 1, none⟩ = some (.int .i64 s.n.block) := by rw [hwd]; exact HSR.out.c1
          have x2 : wd.cell? ⟨P, 2, none⟩ = some (.int .i64 s.n.spare) := by rw [hwd]; exact HSR.out.c2
          have x3 : wd.cell? ⟨P, 3, none⟩ = some (.slice (some ⟨g, 0, none⟩) L co) := by rw [hwd]; exact c3
          have cO : wd.cell? ⟨g, i, none⟩ = some (.string (objOf s i)) := by rw [hwd]; exact HSR.out.ob i (by rw [← HLN.out]; exact hlt)
          have HSD : Hid (SI w wd P s.n s.objs s.debts s.sent F (some ⟨g, 0, none⟩) co ad cd) := by unfold Hid; rw [hwd]; exact HSI.out.drawn
          refine wp_region_still_tail 12 (by kernel_rfl) (by kernel_rfl) ?_
          change wpStill _ _ (World.drew _) (fun a' => wpList _ _ _ _ a' (World.drew _)) _ _
          simp only [← hwd]
          clear hwd HSI HSR c3
          simp only [List.take_succ_cons, List.take_zero, List.drop_succ_cons, List.drop_zero]
          repeat still_step
          refine wpStill_nil ?_
          go_wp2_with fail
          refine (HAL _).mono ?_
          rintro e w2 ⟨rfl, hb2⟩
          have HS2 : Hid (SI w w2 P s.n s.objs s.debts s.sent F (some ⟨g, 0, none⟩) co ad cd) := HSD.out.below hb2
          clear HAL hb2 HSD x0 x1 x2 x3 cO
          obtain ⟨A, hAe⟩ : ∃ A, A = s.n.all (objOf s i).size := ⟨_, rfl⟩
          have HAE : Hid (A = s.n.all (objOf s i).size) := hAe
          rw [← hAe] at hA HO2 ⊢
          clear hAe
          by_cases hin : left < A
          · have HOO : Hid (order s.n s.objs 0 s.sent = some (i, left)) := by unfold Hid; rw [← HO2.out, if_pos hin]
            have c5 : w2.cell? ⟨P, 5, none⟩ = some (.int .i64 s.sent) := HS2.out.row.cell (by decide)
            have f5 := HS2.out.row.frozen 5
            obtain ⟨nx, hnx⟩ : ∃ x, x = s.sent + 1 := ⟨_, rfl⟩
            have HNX : Hid (nx = s.sent + 1) := hnx
            have enx : (s.sent : Int) + 1 = (nx : Int) := by omega
            have HS3 : Hid (SI w (w2.setCell ⟨P, 5, none⟩ (.int .i64 nx)) P s.n s.objs s.debts nx F (some ⟨g, 0, none⟩) co ad cd) := HS2.out.set_sent nx
            clear HO2 HS2 hnx
            go_upto_region 17 with fail
            clear c5 f5 enx
            generalize w2.setCell ⟨P, 5, none⟩ (.int .i64 nx) = w3 at *
            obtain ⟨v5, hv5⟩ : ∃ v, v = w3.drew := ⟨_, rfl⟩
            have HS4 : Hid (SI w v5 P s.n s.objs s.debts nx F (some ⟨g, 0, none⟩) co ad cd) := by unfold Hid; rw [hv5]; exact HS3.out.drawn
            obtain ⟨g', hao, hSR⟩ := HS4.out.reads (s := s) (by rw [← HLN.out]; omega)
            clear hao
            obtain ⟨bk, hbk⟩ : ∃ b, b = s.n.block := ⟨_, rfl⟩
            have HBK : Hid (bk = s.n.block) := hbk
            rw [← hbk] at n3 n4
            have x1 : v5.cell? ⟨P, 1, none⟩ = some (.int .i64 bk) := by rw [hbk]; exact hSR.c1
            obtain ⟨q, hq⟩ : ∃ q, q = left / bk := ⟨_, rfl⟩
            obtain ⟨r, hr⟩ : ∃ r, r = left % bk := ⟨_, rfl⟩
            have hql : q ≤ left := by rw [hq]; exact Nat.div_le_self _ _
            have hrl : r < bk := by rw [hr]; exact Nat.mod_lt _ (by omega)
            have hqb : q * bk ≤ left := by rw [hq]; exact Nat.div_mul_le_self _ _
            have r1 : (left : Int).tdiv (bk : Int) = (q : Int) := by rw [hq]; exact div_nat _ _ (by omega)
            have r2 : (left : Int).tmod (bk : Int) = (r : Int) := by rw [hr, Int.tmod_eq_emod_of_nonneg (by omega), ← Int.natCast_emod]
            have r3 : IntKind.i64.wrap (q : Int) = (q : Int) := IntWalk.i64_in _ ⟨by omega, by omega⟩
            have r4 : ((bk : Int) == 0) = false := by simp; omega
            have r5 : (bk : Int) ≠ 0 := by omega
            have r6 : ¬ bk = 0 := by omega
            have HMN : Hid (0 < s.n.many (objOf s i).size q) := by
              unfold Hid Nm.many
              rw [← HAE.out, ← hbk]
              omega
            have HDT := refData s i q r P g' co v5 HS.out.base (by rw [← HLN.out]; exact hlt) (by omega) HMN.out (by omega) hSR
            have HRE : Hid (rest s = ({ s with sent := s.sent + 1 }, txt (text (dataM s.n (objOf s i) i q r)))) := by
              unfold Hid rest
              rw [HOO.out, hq, hr, hbk]
            obtain ⟨T, hT⟩ : ∃ T, T = txt (text (dataM s.n (objOf s i) i q r)) := ⟨_, rfl⟩
            rw [← hT] at HRE HDT
            clear hq hr hbk hSR HS3 hqb hT HOO
            refine wp_region_still_tail 16 (by kernel_rfl) (by kernel_rfl) ?_
            change wpStill _ _ (World.drew _) (fun a' => wpList _ _ _ _ a' (World.drew _)) _ _
            simp only [← hv5]
            clear hv5
            simp only [List.take_succ_cons, List.take_zero, List.drop_succ_cons, List.drop_zero]
            repeat still_step
            refine wpStill_nil ?_
            go_wp2_with fail
            refine HDT.mono ?_
            rintro e w9 ⟨rfl, hb9⟩
            have HF := HS4.out.below hb9
            clear HDT hb9
            go_wp2
            go_ret
            refine ⟨?_, ?_, HF.touch⟩
            · rw [HRE.out]; rfl
            · rw [HRE.out]
              have h := HF.done
              rw [HNX.out] at h
              exact h
          · have HOO : Hid (order s.n (s.objs.drop (i + 1)) (i + 1) (left - A) = order s.n s.objs 0 s.sent) := by unfold Hid; rw [← HO2.out, if_neg hin]
            have hge : (A : Int) ≤ (left : Int) := by omega
            obtain ⟨l2, hl2⟩ : ∃ x, x = left - A := ⟨_, rfl⟩
            have el2 : (left : Int) - (A : Int) = (l2 : Int) := by omega
            rw [← hl2] at HOO
            have hl2b : l2 ≤ 4611686018427387904 := by omega
            clear HO2 hin hl2
            go_wp2
            go_roundw
            case rel => exact ⟨i + 1, l2, by omega, by go_num, by go_num, hl2b, HOO.out, HS2.out⟩
            case measure => simp [intOf]; omega
        · obtain rfl : i = L := by omega
          have HOO : Hid (order s.n s.objs 0 s.sent = none) := by
            unfold Hid
            rw [← HORD.out, HLN.out, List.drop_length]
            rfl
          have HRE : Hid (rest s = (s, txt (text (endM s.objs.length)))) := by unfold Hid rest; rw [HOO.out]
          have HW : Calls Tryz.prog 41 #[mV 3 0 0 0 0 ⟨#[]⟩ none 0 0 (s.objs.length : Int)] wr fun e w' => e = .returned (.tuple #[.string (txt (text (endM s.objs.length))), .int .i64 0]) ∧ Below wr.heap.size wr w' := by
            refine (refWrite (endM s.objs.length) none 0 wr (Nat.zero_le _) (Nat.zero_le _) (.inl rfl)).mono ?_
            rintro e w' ⟨ho, hb⟩
            rcases ho with ⟨_, rfl⟩ | ⟨h, _⟩
            · exact ⟨rfl, hb⟩
            · exact absurd (endM_ok _ (by rw [← HLN.out]; exact hlen)) h
          obtain ⟨T, hT⟩ : ∃ T, T = txt (text (endM s.objs.length)) := ⟨_, rfl⟩
          rw [← hT] at HRE HW
          rw [← HLN.out] at HW
          clear hT
          clear hlt HORD HOO
          go_wp2_with fail
          refine HW.mono ?_
          rintro e w2 ⟨rfl, hb2⟩
          have HF := HSI.out.below hb2
          clear HW hb2 c3
          go_wp2
          go_ret
          refine ⟨?_, ?_, HF.touch⟩
          · rw [HRE.out]; rfl
          · rw [HRE.out]; exact HF.done
end Sn
end Go.Proofs.YtkgnmcekeeannaaGreat
namespace Go.Proofs.YtkgnmcekeeannaaGreat
open Go.RowKit Go.Deep
namespace Ms
open Bs
set_option linter.unusedVariables false

def zBox : Obj := mBox 0 0 0 0 0 ⟨#[]⟩ none 0 0 0

set_option maxRecDepth 100000 in
set_option maxHeartbeats 4000000 in
theorem guess_data (s : ByteArray) (w : World) (hs : s.size ≤ maxLen) (h9 : 9 ≤ s.size) (h0 : byt s 0 = 68) :
    Calls Tryz.prog 64 #[.string s] w fun e w' => GuessOut (gData s) e w w' ∧ Below w.heap.size w w' := by
  unfold maxLen at hs
  have g0 : ((s[0].toNat : Int) == 68) = true := by rw [← byt_get s 0 (by omega), h0]; rfl
  have i4 : (4 : Int) < (s.size : Int) := by omega
  have i5 : (5 : Int) < (s.size : Int) := by omega
  have j5 : 5 < s.size := by omega
  have j4 : 4 < s.size := by omega
  have hss : ∀ W', (Instr.slice 9 (.string s) (some (.int .i64 6)) (some (.int .i64 ((s.size : Int) - 2))) none).run Tryz.prog W' = .ok (.string (s.extract 6 (s.size - 2))) W' := fun W' => by
    have h := run_slice_string (P := Tryz.prog) W' 9 s .i64 .i64 6 ((s.size : Int) - 2) Tryz.underlying9 (by omega) (by omega) (by omega)
    rw [show ((s.size : Int) - 2).toNat = s.size - 2 from by omega] at h
    exact h
  have r1 := byt_range s 1
  have r2 := byt_range s 2
  have r3 := byt_range s 3
  have r4 := byt_range s 4
  have r5 := byt_range s 5
  have g67 : wrap64 (byt s 4 * 256) = byt s 4 * 256 ∧ wrap64 (byt s 4 * 256 + byt s 5) = byt s 4 * 256 + byt s 5 := ⟨wrap_small _ (by omega) (by omega), wrap_small _ (by omega) (by omega)⟩
  obtain ⟨g6, g7⟩ := g67
  have g1 : wrap64 (s[1].toNat : Int) = byt s 1 := wrap_byt s 1 (Nat.lt_of_lt_of_le (by decide) h9)
  have g2 : wrap64 (s[2].toNat : Int) = byt s 2 := wrap_byt s 2 (Nat.lt_of_lt_of_le (by decide) h9)
  have g3 : wrap64 (s[3].toNat : Int) = byt s 3 := wrap_byt s 3 (Nat.lt_of_lt_of_le (by decide) h9)
  have g4 : wrap64 (s[4].toNat : Int) = byt s 4 := wrap_byt s 4 (Nat.lt_of_lt_of_le (by decide) h9)
  have g5 : wrap64 (s[5].toNat : Int) = byt s 5 := wrap_byt s 5 (Nat.lt_of_lt_of_le (by decide) h9)
  clear r1 r2 r3 r4 r5
  clear h0
  go_enter Tryz.func64, Tryz.ntmps64
  go_wp2
  go_region
  go_wp2
  refine bodyPost_ret (v := mV 1 (byt s 1) (byt s 2) (byt s 3) (byt s 4 * 256 + byt s 5) (s.extract 6 (s.size - 2)) none 0 0 0) (by simp [results, Tryz.results64, go_sem]) rfl ?_
  exact ⟨zero_out _ _ _ _ _ _ _ _ _, (((Below.refl _ _).alloc (Nat.le_refl _) _).alloc (by simp) _).drew⟩

set_option maxRecDepth 100000 in
set_option maxHeartbeats 4000000 in
theorem guess_end (s : ByteArray) (w : World) (h4 : s.size = 4) (h0 : byt s 0 = 69) :
    Calls Tryz.prog 64 #[.string s] w fun e w' => GuessOut (gEnd s) e w w' ∧ Below w.heap.size w w' := by
  have g68 : ((s[0].toNat : Int) == 68) = false := by rw [← byt_get s 0 (by omega), h0]; rfl
  have g82 : ((s[0].toNat : Int) == 82) = false := by rw [← byt_get s 0 (by omega), h0]; rfl
  have g69 : ((s[0].toNat : Int) == 69) = true := by rw [← byt_get s 0 (by omega), h0]; rfl
  have hi : (s.size : Int) = 4 := by omega
  have g1 : wrap64 (s[1].toNat : Int) = byt s 1 := wrap_byt s 1 (by omega)
  clear h0
  go_enter Tryz.func64, Tryz.ntmps64
  go_wp2
  refine bodyPost_ret (v := mV 3 0 0 0 0 ⟨#[]⟩ none 0 0 (byt s 1)) (by simp [results, Tryz.results64, go_sem]) rfl ?_
  exact ⟨zero_out _ _ _ _ _ _ _ _ _, (((Below.refl _ _).alloc (Nat.le_refl _) _).alloc (by simp) _)⟩

set_option maxRecDepth 100000 in
set_option maxHeartbeats 4000000 in
theorem guess_small (s : ByteArray) (w : World) (h4 : s.size < 4) :
    Calls Tryz.prog 64 #[.string s] w fun e w' => GuessOut zeroM e w w' ∧ Below w.heap.size w w' := by
  have hi : (s.size : Int) < 4 := by omega
  go_enter Tryz.func64, Tryz.ntmps64
  go_wp2
  all_goals
    refine bodyPost_ret (v := mV 0 0 0 0 0 ⟨#[]⟩ none 0 0 0) (by simp [results, Tryz.results64, go_sem]) rfl ?_
    exact ⟨zero_out _ _ _ _ _ _ _ _ _, (((Below.refl _ _).alloc (Nat.le_refl _) _).alloc (by simp) _)⟩
set_option maxRecDepth 100000 in
set_option maxHeartbeats 4000000 in
theorem guess_other (s : ByteArray) (w : World) (hs : s.size ≤ maxLen) (h4 : 4 ≤ s.size) (h1 : ¬ (9 ≤ s.size ∧ byt s 0 = 68)) (h2 : ¬ byt s 0 = 82) (h3 : ¬ (s.size = 4 ∧ byt s 0 = 69)) :
    Calls Tryz.prog 64 #[.string s] w fun e w' => GuessOut zeroM e w w' ∧ Below w.heap.size w w' := by
  unfold maxLen at hs
  have g82 : ((s[0].toNat : Int) == 82) = false := by rw [← byt_get s 0 (by omega)]; simpa using h2
  by_cases h9 : 9 ≤ s.size
  · have g68 : ((s[0].toNat : Int) == 68) = false := by rw [← byt_get s 0 (by omega)]; simpa [h9] using h1
    clear h1 h2 h3
    go_enter Tryz.func64, Tryz.ntmps64
    go_wp2
    all_goals
      refine bodyPost_ret (v := mV 0 0 0 0 0 ⟨#[]⟩ none 0 0 0) (by simp [results, Tryz.results64, go_sem]) rfl ?_
      exact ⟨zero_out _ _ _ _ _ _ _ _ _, (((Below.refl _ _).alloc (Nat.le_refl _) _).alloc (by simp) _)⟩
  · have h9' : (s.size : Int) < 9 := by omega
    by_cases h5 : s.size = 4
    · have g69 : ((s[0].toNat : Int) == 69) = false := by rw [← byt_get s 0 (by omega)]; simpa [h5] using h3
      have hi : (s.size : Int) = 4 := by omega
      clear h1 h2 h3 h9 h9'
      go_enter Tryz.func64, Tryz.ntmps64
      go_wp2
      all_goals
        refine bodyPost_ret (v := mV 0 0 0 0 0 ⟨#[]⟩ none 0 0 0) (by simp [results, Tryz.results64, go_sem]) rfl ?_
        exact ⟨zero_out _ _ _ _ _ _ _ _ _, (((Below.refl _ _).alloc (Nat.le_refl _) _).alloc (by simp) _)⟩
    · have h5' : (((s.size : Int) - 2) == 2) = false := by simp; omega
      clear h1 h2 h3 h9 h5
      go_enter Tryz.func64, Tryz.ntmps64
      go_wp2
      all_goals
        refine bodyPost_ret (v := mV 0 0 0 0 0 ⟨#[]⟩ none 0 0 0) (by simp [results, Tryz.results64, go_sem]) rfl ?_
        exact ⟨zero_out _ _ _ _ _ _ _ _ _, (((Below.refl _ _).alloc (Nat.le_refl _) _).alloc (by simp) _)⟩
end Ms
end Go.Proofs.YtkgnmcekeeannaaGreat
