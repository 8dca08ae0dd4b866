import Derived.Test.YtkgnmcekeeannaaWQ
import Derived.Lib.Strings
namespace Go.Proofs.Ytkgnmcekeeannaa
open Go.RowKit Go.Deep
namespace Kp
open Pol (G fm fi lag)
open Cod (bv byteAt byteAt_eq flat flat_get flat_length symF conv_row infoByte infoInt vals vals_succ vals_length vals_get iv ints ints_succ ints_vals one_news below_append Lies encOut rEncode encV)
open Fld (ret_int val_int)

theorem encOut_ok (data : ByteArray) (z sp k : Nat) (hz1 : 1 ≤ z) (hz : z ≤ 16) (hk0 : 0 < k) (hk : k ≤ 8) (hdk : data.size = k * z) (hsp : sp ≤ 8) : encOut data z sp = (⟨(flat z (symF k id data z k) sp).toArray⟩, 0) := by
  have hq : data.size / z = k := by rw [hdk]; exact Nat.mul_div_cancel _ hz1
  have hr : data.size % z = 0 := by rw [hdk]; exact Nat.mul_mod_left _ _
  have h0 : 0 < data.size := by rw [hdk]; exact Nat.mul_pos hk0 hz1
  unfold encOut
  simp only [Int.toNat_natCast, hq, hr]
  rw [if_neg (by omega), if_neg (by omega), if_neg (by omega)]
/-- an Encode of a block that is one -/
theorem rEncode_ok (data : ByteArray) (z sp k : Nat) (w : World) (hz1 : 1 ≤ z) (hz : z ≤ 16) (hk0 : 0 < k) (hk : k ≤ 8) (hdk : data.size = k * z) (hsp : sp ≤ 8) :
    Calls Try.prog 19 #[.string data, .int .i64 z, .int .i64 sp] w fun e w' => e = .returned (.tuple #[.string ⟨(flat z (symF k id data z k) sp).toArray⟩, .int .i64 0]) ∧ Below w.heap.size w w' := by
  have hl : k * z ≤ 8 * 16 := Nat.mul_le_mul hk hz
  have h := rEncode data z sp w (by rw [hdk]; unfold maxLen; omega)
  unfold encV at h
  rw [encOut_ok data z sp k hz1 hz hk0 hk hdk hsp] at h
  exact h

theorem byteAt_mk (l : List G) (i : Nat) : byteAt ⟨l.toArray⟩ i = l.getD i 0 := rfl
theorem size_mk (l : List G) : (ByteArray.mk l.toArray).size = l.length := by simp [ByteArray.size]
theorem symF_xor (k z first c p : Nat) (x y : ByteArray) (hx : x.size = k * z) (hp : p < z) :
    symF k id ⟨(xorL x y).toArray⟩ z first c p = symF k id x z first c p ^^^ symF k id y z first c p := by
  unfold symF
  rw [← Pol.lag_add]
  refine Pol.lag_congr (fun i hi => ?_) _
  have hl : i * z + p < x.size := by
    rw [hx]
    have : i * z + z ≤ k * z := by rw [← Nat.succ_mul]; exact Nat.mul_le_mul_right _ hi
    omega
  rw [byteAt_mk, List.getD_eq_getElem?_getD, xorL_get x y _ hl]; rfl
theorem flat_xor (k z first sp : Nat) (x y : ByteArray) (hx : x.size = k * z) (hz : 0 < z) :
    flat z (symF k id ⟨(xorL x y).toArray⟩ z first) sp = xorL ⟨(flat z (symF k id x z first) sp).toArray⟩ ⟨(flat z (symF k id y z first) sp).toArray⟩ := by
  refine List.ext_getElem? (fun a => ?_)
  by_cases h : a < sp * z
  · rw [flat_get z _ sp a h, xorL_get _ _ a (by rw [size_mk, flat_length]; exact h), byteAt_mk, byteAt_mk, List.getD_eq_getElem?_getD, List.getD_eq_getElem?_getD, flat_get z _ sp a h, flat_get z _ sp a h,
      symF_xor k z first _ _ x y hx (Nat.mod_lt _ hz)]
    rfl
  · rw [List.getElem?_eq_none (by rw [flat_length]; omega), List.getElem?_eq_none (by rw [xorL_length, size_mk, flat_length]; omega)]
theorem flat_take (z : Nat) (f : Nat → Nat → G) (c d : Nat) (h : c ≤ d) : (flat z f d).take (c * z) = flat z f c := by
  refine List.ext_getElem? (fun a => ?_)
  rw [List.getElem?_take]
  by_cases h1 : a < c * z
  · rw [if_pos h1, flat_get z f c a h1, flat_get z f d a (Nat.lt_of_lt_of_le h1 (Nat.mul_le_mul_right _ h))]
  · rw [if_neg h1, List.getElem?_eq_none (by rw [flat_length]; omega)]
theorem known_flat : flat 1 (symF 2 id ⟨#[5, 9]⟩ 1 2) 2 = [29, 17] := by decide +kernel

/-- the three numbers in block B, while the calls go on -/
structure St (w wr : World) (B : Nat) (z k sp : Nat) : Prop where
  c0 : wr.cell? ⟨B, 0, none⟩ = some (.int .i64 z)
  c1 : wr.cell? ⟨B, 1, none⟩ = some (.int .i64 k)
  c2 : wr.cell? ⟨B, 2, none⟩ = some (.int .i64 sp)
  lt : B < wr.heap.size
  ge : w.heap.size ≤ B
  below : Below w.heap.size w wr
theorem St.start {w w1 : World} {z k sp : Nat} (h : Below w.heap.size w w1) : St w (w1.alloc (.cells #[.int .i64 z, .int .i64 k, .int .i64 sp] 63)) w1.heap.size z k sp :=
  ⟨by simp, by simp, by simp, by simp, h.size, h.alloc h.size _⟩
theorem St.step {w wr w' : World} {B z k sp : Nat} (h : St w wr B z k sp) (hb : Below wr.heap.size wr w') : St w w' B z k sp :=
  ⟨(hb.cell (p := ⟨B, 0, none⟩) h.lt).trans h.c0, (hb.cell (p := ⟨B, 1, none⟩) h.lt).trans h.c1, (hb.cell (p := ⟨B, 2, none⟩) h.lt).trans h.c2, Nat.lt_of_lt_of_le h.lt hb.size, h.ge, h.below.trans (hb.mono (by have := h.lt; have := h.ge; omega))⟩
theorem St.drew {w wr : World} {B z k sp : Nat} (h : St w wr B z k sp) : St w wr.drew B z k sp := ⟨h.c0, h.c1, h.c2, h.lt, h.ge, h.below.drew⟩
/-- an Encode of a block that is one; its answer under a name -/
theorem rEncode_d (data : ByteArray) (z sp k : Nat) (d : ByteArray) (w : World) (hz1 : 1 ≤ z) (hz : z ≤ 16) (hk0 : 0 < k) (hk : k ≤ 8) (hdk : data.size = k * z) (hsp : sp ≤ 8) (hd : d = ⟨(flat z (symF k id data z k) sp).toArray⟩) :
    Calls Try.prog 19 #[.string data, .int .i64 z, .int .i64 sp] w fun e w' => e = .returned (.tuple #[.string d, .int .i64 0]) ∧ Below w.heap.size w w' := by
  rw [hd]; exact rEncode_ok data z sp k w hz1 hz hk0 hk hdk hsp
theorem size_d {z sp : Nat} {f : Nat → Nat → G} {d : ByteArray} (hd : d = ⟨(flat z f sp).toArray⟩) : d.size = sp * z := by rw [hd, size_mk, flat_length]
theorem known_enc (w : World) : Calls Try.prog 19 #[.string ⟨#[5, 9]⟩, .int .i64 1, .int .i64 2] w fun e w' => e = .returned (.tuple #[.string ⟨#[29, 17]⟩, .int .i64 0]) ∧ Below w.heap.size w w' := by
  have h := rEncode_ok ⟨#[5, 9]⟩ 1 2 2 w (by decide) (by decide) (by decide) (by decide) rfl (by decide)
  rw [known_flat] at h
  exact h

set_option maxRecDepth 100000 in
set_option maxHeartbeats 4000000 in
theorem blend_said (s t : ByteArray) (a b c : Int) (hs : s.size ≤ maxLen) (ht : t.size ≤ maxLen) (a1 : -9223372036854775808 ≤ a) (a2 : a ≤ 9223372036854775807) (b1 : -9223372036854775808 ≤ b) (b2 : b ≤ 9223372036854775807) (c1 : -9223372036854775808 ≤ c) (c2 : c ≤ 9223372036854775807) (w : World) :
    Calls Try.prog 11 #[.string s, .string t, .int .i64 a, .int .i64 b, .int .i64 c] w fun e w' => e = .returned (.bool true) ∧ Below w.heap.size w w' := by
  have HN := numbers_any a b c w a1 a2 b1 b2 c1 c2
  go_enter Try.func11, Try.ntmps11
  go_wp2_with fail
  refine HN.mono ?_
  rintro e w1 ⟨z, k, sp, hz1, hz, hk1, hk, hsp, rfl, hb1⟩
  clear HN a1 a2 b1 b2 c1 c2
  have hP : ((z : Int) * (k : Int)) = ((k * z : Nat) : Int) := by rw [Nat.mul_comm]; simp
  have hPl : k * z ≤ 8 * 16 := Nat.mul_le_mul hk hz
  obtain ⟨P, hPe⟩ : ∃ P, P = k * z := ⟨_, rfl⟩
  rw [← hPe] at hP hPl
  have HPE : Hid (P = k * z) := hPe
  clear hPe
  have S1 := St.start (z := z) (k := k) (sp := sp) hb1
  obtain ⟨B, hB⟩ : ∃ B, B = w1.heap.size := ⟨_, rfl⟩
  rw [← hB] at S1
  have hB' : w1.heap.size = B := hB.symm
  clear hB hb1
  go_wp2_with fail
  generalize w1.alloc (.cells #[.int .i64 z, .int .i64 k, .int .i64 sp] 63) = w2 at *
  refine (filled_any s P w2 hs (by omega)).mono ?_
  rintro e w3 ⟨x, hx, rfl, hb3⟩
  have S3 := S1.step hb3
  have HX : Hid (x.size = P) := hx
  clear S1 hb3 hB' hx
  have d0 := S3.c0
  have d1 := S3.c1
  go_wp2_with fail
  clear d0 d1
  refine (filled_any t P w3 ht (by omega)).mono ?_
  rintro e w4 ⟨y, hy, rfl, hb4⟩
  have S4 := S3.step hb4
  have HY : Hid (y.size = P) := hy
  clear S3 hb4 hy
  go_wp2_with fail
  refine (known_enc w4).mono ?_
  rintro e w5 ⟨rfl, hb5⟩
  have S5 := S4.step hb5
  clear S4 hb5
  have d0 := S5.c0
  have d2 := S5.c2
  go_wp2_with fail
  clear d0 d2
  have hQ : ((z : Int) * (sp : Int)) = ((sp * z : Nat) : Int) := by rw [Nat.mul_comm]; simp
  have hQl : sp * z ≤ 8 * 16 := Nat.mul_le_mul hsp hz
  obtain ⟨p, hp⟩ : ∃ p : ByteArray, p = ⟨(flat z (symF k id x z k) sp).toArray⟩ := ⟨_, rfl⟩
  obtain ⟨q, hq⟩ : ∃ q : ByteArray, q = ⟨(flat z (symF k id y z k) sp).toArray⟩ := ⟨_, rfl⟩
  obtain ⟨u, hu⟩ : ∃ u : ByteArray, u = ⟨(flat z (symF k id ⟨(xorL x y).toArray⟩ z k) sp).toArray⟩ := ⟨_, rfl⟩
  obtain ⟨v, hv⟩ : ∃ v : ByteArray, v = ⟨(flat z (symF k id x z k) 8).toArray⟩ := ⟨_, rfl⟩
  have HUX : Hid ((⟨(xorL p q).toArray⟩ : ByteArray) = u) := by
    unfold Hid; rw [hu, hp, hq, flat_xor k z k sp x y (by rw [HX.out, HPE.out]) hz1]
  have sp1 := size_d hp
  have sq1 := size_d hq
  have sv1 := size_d hv
  have l1 : p.size ≤ v.size := by rw [sp1, sv1]; exact Nat.mul_le_mul_right z hsp
  have HSL : Hid ((v.extract 0 p.size).toList = p.toList) := by
    unfold Hid
    rw [sp1, Lib.extract_toList, Lib.toList_data, hv, hp]
    simp [flat_take z _ sp 8 hsp]
  obtain ⟨Q, hQe⟩ : ∃ Q, Q = sp * z := ⟨_, rfl⟩
  rw [← hQe] at hQ hQl sp1 sq1
  clear hQe
  have Hp : Hid (p = ⟨(flat z (symF k id x z k) sp).toArray⟩) := hp
  have Hq : Hid (q = ⟨(flat z (symF k id y z k) sp).toArray⟩) := hq
  have Hu : Hid (u = ⟨(flat z (symF k id ⟨(xorL x y).toArray⟩ z k) sp).toArray⟩) := hu
  have Hv : Hid (v = ⟨(flat z (symF k id x z k) 8).toArray⟩) := hv
  have t1 : ((p.size : Int) != (Q : Int)) = false := by rw [sp1]; simp
  have t2 : ((q.size : Int) != (p.size : Int)) = false := by rw [sp1, sq1]; simp
  have t3 : ((v.size : Int) != (z : Int) * 8) = false := by rw [sv1]; simp; omega
  have HSP : Hid (p.size = Q) := sp1
  have HSQ : Hid (q.size = Q) := sq1
  have l2 : v.size ≤ 1000 := by rw [sv1]; omega
  have t4 : (p.toList == (v.extract 0 p.size).toList) = true := by rw [HSL.out]; simp
  clear hp hq hu hv sp1 sq1 sv1
  refine (rEncode_d x z sp k p w5 hz1 hz hk1 hk (by rw [HX.out, HPE.out]) hsp Hp.out).mono ?_
  rintro e w6 ⟨rfl, hb6⟩
  have S6 := S5.step hb6
  clear S5 hb6
  have d0 := S6.c0
  have d2 := S6.c2
  go_wp2_with fail
  clear d0 d2
  refine (rEncode_d y z sp k q w6 hz1 hz hk1 hk (by rw [HY.out, HPE.out]) hsp Hq.out).mono ?_
  rintro e w7 ⟨rfl, hb7⟩
  have S7 := S6.step hb7
  clear S6 hb7
  have d0 := S7.c0
  have d2 := S7.c2
  go_wp2_with fail
  go_cut [20, 21] (fun r g wx => r = .string u ∧ g = .int .i64 0 ∧ St w wx B z k sp)
  case first =>
    clear t1 t2 t3 t4 l1 l2 hQ hQl hP
    go_region_with (first | (go_at_call 35; refine (xor_any x y _ (by rw [HY.out, HX.out]) (by rw [HX.out]; omega)).mono ?_; rintro e w8 ⟨rfl, hb8⟩; have S8 := St.step S7.drew hb8; have d0' := S8.c0; have d2' := S8.c2) | (go_at_call 19; refine (rEncode_d ⟨(xorL x y).toArray⟩ z sp k u _ hz1 hz hk1 hk (by rw [size_mk, xorL_length, HX.out, HPE.out]) hsp Hu.out).mono ?_; rintro e w9 ⟨rfl, hb9⟩; have S9 := St.step S8 hb9))
    all_goals (try go_wp2_with fail)
    all_goals go_meet
    all_goals exact ⟨rfl, rfl, S9⟩
  case rest =>
    obtain ⟨rfl, rfl, S8⟩ := hcut
    clear S7 d0 d2
    have d0 := S8.c0
    go_wp2_with fail
    clear d0
    refine (rEncode_d x z 8 k v _ hz1 hz hk1 hk (by rw [HX.out, HPE.out]) (by decide) Hv.out).mono ?_
    rintro e w9 ⟨rfl, hb9⟩
    have S9 := S8.step hb9
    clear S8 hb9
    have d0 := S9.c0
    have d2 := S9.c2
    go_wp2_with fail
    clear d0 d2
    refine (xor_any p q w9 (by rw [HSP.out, HSQ.out]) (by omega)).mono ?_
    rintro e w10 ⟨rfl, hb10⟩
    rw [HUX.out]
    have S10 := S9.step hb10
    go_wp2
    go_ret
    exact ⟨by simp, S10.below⟩
end Kp
end Go.Proofs.Ytkgnmcekeeannaa
