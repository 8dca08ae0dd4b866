import Derived.Test.YtkgnmcekeeannaaWT
import Derived.Test.YtkgnmcekeeannaaLB
import Derived.OpenShut
namespace Go.Proofs.Ytkgnmcekeeannaa
open Go.RowKit Go.Deep
namespace Kp
open Pol (G fm fi lag)
open Cod (bv byteAt byteAt_eq flat flat_get flat_length symF conv_row infoByte infoInt vals vals_succ vals_length vals_get iv ints ints_succ ints_vals one_news below_append Lies encOut rEncode encV row_cells g gx decOut decV rDecode goodB goodB_iff Good natOf drawn_more)
open Fld (ret_int val_int)

theorem chosen_at (ao : Option Addr) (n cap k most : Nat) (mI : Int) (hmI : mI = (most : Int)) (zs : Nat → Int) (w : World) (hn : n ≤ maxLen) (hk : k ≤ most) (hm0 : 0 < most) (hm : most ≤ 16) (hl : Lies w ao n zs) (hzs : ∀ i, i < n → -9223372036854775808 ≤ zs i ∧ zs i ≤ 9223372036854775807) :
    Calls Try.prog 36 #[.slice ao n cap, .int .i64 k, .int .i64 mI] w fun e w' => ∃ (v : Value) (ns : Nat → Nat), e = .returned v ∧ (∀ a, a < k → ns a < most) ∧ (∀ a b, a < k → b < k → a ≠ b → ns a ≠ ns b) ∧ w'.ownsRow w.heap.size 3 1 v k (vals (fun i => .int .i64 (ns i : Nat)) k) ∧ Below w.heap.size w w' := by
  subst hmI; exact chosen_any ao n cap k most zs w hn hk hm0 hm hl hzs

theorem apart_of {n : Nat} {ns : Nat → Nat} (hl : ∀ i, i < n → ns i < 16) (hd : ∀ i j, i < n → j < n → i ≠ j → ns i ≠ ns j) : Pol.Apart n (gx ns) := fun i j hi hj hne e => by
  have h1 := congrArg UInt8.toNat e
  unfold gx at h1
  rw [Cod.toNat_g (by have := hl i hi; omega), Cod.toNat_g (by have := hl j hj; omega)] at h1
  exact hd i j hi hj hne h1
/-- symbol j of the block x, place p -/
def Y (k z : Nat) (x : ByteArray) (j p : Nat) : G := symF k id x z 0 j p
theorem apart_id (k : Nat) (hk : k ≤ 8) : Pol.Apart k (gx id) := apart_of (fun i hi => by show i < 16; omega) (fun i j _ _ h => h)
theorem Y_own (k z : Nat) (x : ByteArray) (j p : Nat) (hk : k ≤ 8) (hj : j < k) : Y k z x j p = byteAt x (j * z + p) := by
  unfold Y symF
  rw [Nat.zero_add]
  exact Pol.lag_at (apart_id k hk) _ j hj
theorem Y_spare (k z : Nat) (x : ByteArray) (j p : Nat) (hj : k ≤ j) : Y k z x j p = symF k id x z k (j - k) p := by
  unfold Y symF
  rw [Nat.zero_add, show k + (j - k) = j from by omega]
theorem byteAt_append (x v : ByteArray) (i : Nat) : byteAt (x ++ v) i = if i < x.size then byteAt x i else byteAt v (i - x.size) := by
  unfold byteAt
  rw [ByteArray.data_append, Array.toList_append, List.getD_eq_getElem?_getD, List.getD_eq_getElem?_getD, List.getD_eq_getElem?_getD]
  have hl : x.data.toList.length = x.size := by simp
  by_cases h : i < x.size
  · rw [List.getElem?_append_left (by omega), if_pos h]
  · rw [List.getElem?_append_right (by omega), if_neg h, hl]
theorem all_bytes (k z : Nat) (x v : ByteArray) (hk : k ≤ 8) (hx : x.size = k * z) (hv : v = ⟨(flat z (symF k id x z k) 8).toArray⟩) (j p : Nat) (hj : j < k + 8) (hp : p < z) : byteAt (x ++ v) (j * z + p) = Y k z x j p := by
  rw [byteAt_append, hx]
  by_cases h : j < k
  · have h1 : j * z + z ≤ k * z := by rw [← Nat.succ_mul]; exact Nat.mul_le_mul_right _ h
    rw [if_pos (by omega), Y_own k z x j p hk h]
  · have h1 : k * z ≤ j * z := Nat.mul_le_mul_right _ (by omega)
    rw [if_neg (by omega), Y_spare k z x j p (by omega), hv, byteAt_mk, List.getD_eq_getElem?_getD]
    have e : j * z + p - k * z = (j - k) * z + p := by rw [Nat.sub_mul]; omega
    have h2 : (j - k) * z + z ≤ 8 * z := by rw [← Nat.succ_mul]; exact Nat.mul_le_mul_right _ (by omega)
    have hd : ((j - k) * z + p) / z = j - k := by rw [Nat.mul_comm, Nat.mul_add_div (by omega), Nat.div_eq_of_lt hp]; omega
    have hm : ((j - k) * z + p) % z = p := by rw [Nat.mul_comm, Nat.mul_add_mod, Nat.mod_eq_of_lt hp]
    rw [e, flat_get z _ 8 _ (by omega), hd, hm]
    rfl
theorem byteAt_extract (A : ByteArray) (lo hi i : Nat) (h : i < hi - lo) : byteAt (A.extract lo hi) i = byteAt A (lo + i) := by
  unfold byteAt
  rw [Lib.extract_data, List.getD_eq_getElem?_getD, List.getD_eq_getElem?_getD, List.getElem?_take, if_pos h, List.getElem?_drop]
theorem dec_back (k z : Nat) (x h : ByteArray) (ns : Nat → Nat) (hk0 : 0 < k) (hk : k ≤ 8) (hz1 : 1 ≤ z) (hz : z ≤ 16) (hx : x.size = k * z) (hh : h.size = k * z) (hl : ∀ a, a < k → ns a < k + 8) (hd : ∀ a b, a < k → b < k → a ≠ b → ns a ≠ ns b)
    (hy : ∀ m p, m < k → p < z → byteAt h (m * z + p) = Y k z x (ns m) p) : decOut k (fun i => (ns i : Int)) h z = (x, 0) := by
  have hg : goodB k (fun i => (ns i : Int)) = true := (goodB_iff _ _).2 (fun i hi => ⟨⟨by omega, by have := hl i hi; omega⟩, fun j hj => by have := hd j i (by omega) hi (by omega); omega⟩)
  unfold decOut
  simp only [Int.toNat_natCast]
  rw [if_neg (by omega), if_neg (by omega), if_neg (by rw [hg]; simp)]
  have hnat : natOf (fun i => (ns i : Int)) = ns := by funext i; simp [natOf]
  rw [hnat]
  congr 1
  have hlen : (flat z (symF k ns h z 0) k).length = x.data.toList.length := by rw [flat_length]; simp; omega
  have key : flat z (symF k ns h z 0) k = x.data.toList := by
    refine List.ext_getElem? (fun a => ?_)
    by_cases ha : a < k * z
    · rw [flat_get z _ k a ha]
      have hc : a / z < k := Nat.div_lt_of_lt_mul (by rw [Nat.mul_comm]; exact ha)
      have hp : a % z < z := Nat.mod_lt _ hz1
      have e1 : symF k ns h z 0 (a / z) (a % z) = byteAt x (a / z * z + a % z) := by
        unfold symF
        rw [Pol.lag_congr (us := fun i => lag k (gx id) (fun i => byteAt x (i * z + a % z)) (gx ns i)) (fun i hi => by rw [hy i (a % z) hi hp]; unfold Y symF; rw [Nat.zero_add]; rfl), Nat.zero_add]
        exact Pol.lag_back (apart_id k hk) (apart_of (fun i hi => by have := hl i hi; omega) hd) _ (a / z) hc
      have e2 : a / z * z + a % z = a := by rw [Nat.mul_comm]; exact Nat.div_add_mod a z
      rw [e1, e2, byteAt_eq x a (by omega)]
      rw [List.getElem?_eq_getElem (by simp; omega)]
      rfl
    · rw [List.getElem?_eq_none (by rw [flat_length]; omega), List.getElem?_eq_none (by simp; omega)]
  rw [key]

set_option maxRecDepth 100000 in
set_option maxHeartbeats 4000000 in
theorem anyK_core (s : ByteArray) (a b : Int) (ao : Option Addr) (n cap : Nat) (zs : Nat → Int) (w : World) (hs : s.size ≤ maxLen) (a1 : -9223372036854775808 ≤ a) (a2 : a ≤ 9223372036854775807) (b1 : -9223372036854775808 ≤ b) (b2 : b ≤ 9223372036854775807) (hn : n ≤ maxLen) (hl : Lies w ao n zs) (hzs : ∀ i, i < n → -9223372036854775808 ≤ zs i ∧ zs i ≤ 9223372036854775807) :
    Calls Try.prog 12 #[.string s, .int .i64 a, .int .i64 b, .slice ao n cap] w fun e w' => e = .returned (.bool true) ∧ Below w.heap.size w w' := by
  have HN := numbers_any a b 8 w a1 a2 b1 b2 (by decide) (by decide)
  have HL : Hid (Lies w ao n zs) := hl
  have HZ : Hid (∀ i, i < n → -9223372036854775808 ≤ zs i ∧ zs i ≤ 9223372036854775807) := hzs
  clear hl hzs
  go_enter Try.func12, Try.ntmps12
  go_wp2_with fail
  refine HN.mono ?_
  rintro e w1 ⟨z, k, sp, hz1, hz, hk1, hk, hsp, rfl, hb1⟩
  clear HN a1 a2 b1 b2
  have hP : ((z : Int) * (k : Int)) = ((k * z : Nat) : Int) := by rw [Nat.mul_comm]; simp
  have hPl : k * z ≤ 8 * 16 := Nat.mul_le_mul hk hz
  obtain ⟨P, hPe⟩ : ∃ P, P = k * z := ⟨_, rfl⟩
  rw [← hPe] at hP hPl
  have HPE : Hid (P = k * z) := hPe
  clear hPe
  have S1 := St.start (z := z) (k := k) (sp := sp) hb1
  obtain ⟨B, hB⟩ : ∃ B, B = w1.heap.size := ⟨_, rfl⟩
  rw [← hB] at S1
  have hB' : w1.heap.size = B := hB.symm
  clear hB hb1
  go_wp2_with fail
  generalize w1.alloc (.cells #[.int .i64 z, .int .i64 k, .int .i64 sp] 63) = w2 at *
  refine (filled_any s P w2 hs (by omega)).mono ?_
  rintro e w3 ⟨x, hx, rfl, hb3⟩
  have S3 := S1.step hb3
  have HX : Hid (x.size = P) := hx
  clear S1 hb3 hB' hx hP
  have d0 := S3.c0
  go_wp2_with fail
  clear d0
  obtain ⟨v, hv⟩ : ∃ v : ByteArray, v = ⟨(flat z (symF k id x z k) 8).toArray⟩ := ⟨_, rfl⟩
  have sv1 := size_d hv
  have Hv : Hid (v = ⟨(flat z (symF k id x z k) 8).toArray⟩) := hv
  have HSV : Hid (v.size = 8 * z) := sv1
  have t3 : ((v.size : Int) != (z : Int) * 8) = false := by rw [sv1]; simp; omega
  have l2 : v.size ≤ 1000 := by rw [sv1]; omega
  have l3 : x.size ≤ 1000 := by rw [HX.out]; omega
  clear hv sv1
  refine (rEncode_d x z 8 k v _ hz1 hz hk1 hk (by rw [HX.out, HPE.out]) (by decide) Hv.out).mono ?_
  rintro e w4 ⟨rfl, hb4⟩
  have S4 := S3.step hb4
  clear S3 hb4
  have d0 := S4.c0
  have d1 := S4.c1
  go_wp2_with fail
  clear d0 d1 t3
  have L4 : Lies w4 ao n zs := by
    rcases HL.out with h | ⟨b, off, h, hbl, hc⟩
    · exact .inl h
    · exact .inr ⟨b, off, h, Nat.lt_of_lt_of_le hbl S4.below.size, fun i hi => (S4.below.cell (p := ⟨b, off + i, none⟩) hbl).trans (hc i hi)⟩
  refine (chosen_at ao n cap k (k + 8) _ (by omega) zs w4 hn (by omega) (by omega) (by omega) L4 HZ.out).mono ?_
  rintro e w5 ⟨v5, ns, rfl, hnl, hnd, hown, hb5⟩
  obtain ⟨ab, acap, rfl, hab1, hab2, hac, hacm, hcells⟩ := row_cells hown hk1
  have S5 := S4.step hb5
  have HNL : Hid (∀ a, a < k → ns a < k + 8) := hnl
  have HND : Hid (∀ a b, a < k → b < k → a ≠ b → ns a ≠ ns b) := hnd
  have HAC : Hid (∀ i, i < k → w5.cell? ⟨ab, i, none⟩ = some (.int .i64 (ns i : Nat))) := hcells
  have HA : Hid (∀ j p, j < k + 8 → p < z → byteAt (x ++ v) (j * z + p) = Y k z x j p) := fun j p hj hp => all_bytes k z x v hk (by rw [HX.out, HPE.out]) Hv.out j p hj hp
  have HAS : Hid ((x ++ v).size = (k + 8) * z) := by unfold Hid; rw [ByteArray.size_append, HX.out, HPE.out, HSV.out, Nat.add_mul]
  have lA : (x ++ v).size ≤ 2000 := by rw [ByteArray.size_append]; omega
  clear S4 hb5 hown hnl hnd hcells L4
  go_wp2
  generalize x ++ v = A at *
  go_loopw [15, 16] (fun hv xi wr => ∃ (i : Nat) (h : ByteArray), i ≤ k ∧ xi = .int .i64 i ∧ hv = .string h ∧ h.size = i * z ∧ (∀ m p, m < i → p < z → byteAt h (m * z + p) = Y k z x (ns m) p) ∧ ∃ m, wr = w5.drewN m) (fun _ xi _ => k - (intOf xi).toNat)
  case atStart => exact ⟨0, ⟨#[]⟩, Nat.zero_le _, rfl, rfl, by simp [ByteArray.size], fun m p hm => by omega, 0, rfl⟩
  case round =>
    obtain ⟨i, h, hik, rfl, rfl, hhs, hhy, hwr⟩ := hrel
    have HW : Hid (∃ m, wr = w5.drewN m) := hwr
    have HHS : Hid (h.size = i * z) := hhs
    have HHY : Hid (∀ m p, m < i → p < z → byteAt h (m * z + p) = Y k z x (ns m) p) := hhy
    have S6 : St w wr B z k sp := by obtain ⟨m, rfl⟩ := hwr; exact ⟨S5.c0, S5.c1, S5.c2, S5.lt, S5.ge, below_drewN S5.below m⟩
    have HAC6 : Hid (∀ i, i < k → wr.cell? ⟨ab, i, none⟩ = some (.int .i64 (ns i : Nat))) := by obtain ⟨m, rfl⟩ := hwr; exact HAC.out
    have hab6 : ab < wr.heap.size := by obtain ⟨m, rfl⟩ := hwr; exact hab2
    have lh : h.size ≤ 128 := by rw [hhs]; have : i * z ≤ 8 * 16 := Nat.mul_le_mul (by omega) hz; omega
    clear S5 HAC hab2 hwr hhs hhy
    by_cases hlk : i < k
    · have ci := HAC6.out i hlk
      have hni := HNL.out i hlk
      have d0 := S6.c0
      have m1 : ((ns i : Int) * (z : Int)) = ((ns i * z : Nat) : Int) := by simp
      have m2 : (((ns i : Int) + 1) * (z : Int)) = (((ns i + 1) * z : Nat) : Int) := by simp
      have lx : (ns i + 1) * z ≤ A.size := by rw [HAS.out]; exact Nat.mul_le_mul_right _ (by omega)
      have ly : ns i * z ≤ (ns i + 1) * z := Nat.mul_le_mul_right _ (by omega)
      have lz : (ns i + 1) * z = ns i * z + z := Nat.succ_mul _ _
      have HLZ : Hid ((ns i + 1) * z = ns i * z + z) := lz
      clear lz
      have HLO : Hid (∀ m p, m < i + 1 → p < z → byteAt (h ++ A.extract (ns i * z) ((ns i + 1) * z)) (m * z + p) = Y k z x (ns m) p) := fun m p hm hp => by
        rw [byteAt_append, HHS.out]
        by_cases e : m < i
        · have h1 : m * z + z ≤ i * z := by rw [← Nat.succ_mul]; exact Nat.mul_le_mul_right _ e
          rw [if_pos (by omega)]; exact HHY.out m p e hp
        · obtain rfl : m = i := by omega
          rw [if_neg (by omega), show m * z + p - m * z = p from by omega, byteAt_extract A _ _ p (by rw [HLZ.out]; omega)]
          exact HA.out (ns m) p hni hp
      have HSZ : Hid ((h ++ A.extract (ns i * z) ((ns i + 1) * z)).size = (i + 1) * z) := by
        unfold Hid; rw [ByteArray.size_append, ByteArray.size_extract, Nat.min_eq_left lx, HLZ.out, HHS.out, Nat.succ_mul]; omega
      obtain ⟨q1, e1⟩ : ∃ q1, q1 = ns i * z := ⟨_, rfl⟩
      obtain ⟨q2, e2⟩ : ∃ q2, q2 = (ns i + 1) * z := ⟨_, rfl⟩
      rw [← e1] at m1 HLO HSZ ly
      rw [← e2] at m2 HLO HSZ lx ly
      clear e1 e2 HLZ
      have w0 : IntKind.i64.wrap ((ns i : Int) + 1) = (ns i : Int) + 1 := IntWalk.i64_in _ ⟨by omega, by omega⟩
      have v1 : IntKind.i64.wrap (q1 : Int) = (q1 : Int) := IntWalk.i64_in _ ⟨by omega, by omega⟩
      have v2 : IntKind.i64.wrap (q2 : Int) = (q2 : Int) := IntWalk.i64_in _ ⟨by omega, by omega⟩
      have lx' : (q2 : Int) ≤ (A.size : Int) := by omega
      have ly' : (q1 : Int) ≤ (q2 : Int) := by omega
      have hss : ∀ W, (Instr.slice 9 (.string A) (some (.int .i64 q1)) (some (.int .i64 q2)) none).run Try.prog W = .ok (.string (A.extract q1 q2)) W := fun W => by
        simpa using run_slice_string (P := Try.prog) W 9 A .i64 .i64 (q1 : Int) (q2 : Int) Try.underlying9 (by omega) ly' lx'
      have hadd : ∀ W, (Op.stringOp .add h (A.extract q1 q2)).run Try.prog W = .ok (.string (h ++ A.extract q1 q2)) W := fun W => run_string_add_sum W _ _ (by rw [ByteArray.size_extract]; omega)
      generalize A.extract q1 q2 = X at *
      go_wp2_with fail
      go_quiet (fail)
      go_wp2
      go_roundw
      case rel => exact ⟨i + 1, h ++ X, by omega, by go_num, rfl, HSZ.out, HLO.out, drawn_more HW.out⟩
      case measure => simp [intOf]; omega
    · obtain rfl : i = k := by omega
      have HDB : Hid (decOut i (fun j => (ns j : Int)) h z = (x, 0)) := dec_back i z x h ns hk1 hk hz1 hz (by rw [HX.out, HPE.out]) HHS.out HNL.out HND.out HHY.out
      have L6 : Lies wr (some ⟨ab, 0, none⟩) i (fun j => (ns j : Int)) := .inr ⟨ab, 0, rfl, hab6, fun j hj => by rw [Nat.zero_add]; exact HAC6.out j hj⟩
      have HD := rDecode (some ⟨ab, 0, none⟩) i acap (fun j => (ns j : Int)) h z wr (by unfold maxLen; omega) L6
      unfold decV at HD
      rw [HDB.out] at HD
      have d0 := S6.c0
      clear L6
      go_wp2_with fail
      refine HD.mono ?_
      rintro e w7 ⟨rfl, hb7⟩
      have S7 := S6.step hb7
      clear HD S6 hb7 d0
      go_wp2
      go_ret
      exact ⟨by simp, S7.below⟩

theorem anyK_said (a0 : ByteArray) (a1 a2 : Int) (a3 : Option Addr) (len3 cap3 : Nat) (z3 : List Int) (w : World) (h0 : a0.size ≤ maxLen) (h1 : (Lit.int .i64 a1).wf = true) (h2 : (Lit.int .i64 a2).wf = true)
    (h3 : (a3 = none ∧ len3 = 0 ∧ cap3 = 0 ∧ z3 = []) ∨ ∃ x, a3 = some x ∧ len3 ≤ cap3 ∧ cap3 ≤ maxLen ∧ z3.length = cap3 ∧ (∀ i, i < z3.length → w.cell? (x.add i) = some (.int .i64 (z3.getD i 0))) ∧ ∀ n ∈ z3, (Lit.int .i64 n).wf = true) :
    Calls Try.prog 12 #[.string a0, .int .i64 a1, .int .i64 a2, .slice a3 len3 cap3] w fun e w' => e = .returned (.bool true) ∧ Below w.heap.size w w' := by
  have b1 := bounds_i64 h1
  have b2 := bounds_i64 h2
  rcases h3 with ⟨rfl, rfl, rfl, rfl⟩ | ⟨x, rfl, hl, hm, hz, hc, hw⟩
  · exact anyK_core a0 a1 a2 none 0 0 (fun _ => 0) w h0 b1.1 b1.2 b2.1 b2.2 (Nat.zero_le _) (.inl rfl) (fun i hi => by omega)
  · refine anyK_core a0 a1 a2 (some x) len3 cap3 (fun i => z3.getD i 0) w h0 b1.1 b1.2 b2.1 b2.2 (by omega) ?_ (fun i hi => ?_)
    · rcases Nat.eq_zero_or_pos len3 with h | h
      · exact .inl h
      · obtain ⟨b, off, rfl, hcell⟩ := ints_at hc (by omega)
        exact .inr ⟨b, off, rfl, World.block_lt_of_cell? w ⟨b, off + 0, none⟩ (hcell 0 (by omega)), fun i hi => hcell i (by omega)⟩
    · have := range_i64 hw i
      rw [List.getD_eq_getElem?_getD]
      exact this
end Kp
end Go.Proofs.Ytkgnmcekeeannaa
