import Derived.Test.YtkgnmcekeeannabW42
import Derived.Test.YtkgnmcekeeannabW43
import Derived.Deep.RegionHeld3
/-
  A trip: a message or a request comes.
-/
namespace Go.Proofs.Ytkgnmcekeeannab
open Go.RowKit Go.Deep
namespace Sn
open Bs
open Ms (txt text M It Tells turned_any)
set_option linter.unusedVariables false

def TE (nn : Nm) (B : Nat → Prop) (w0 w : World) (Q P R c : Nat) : Prop := ∃ s r on bk, TJ B w0 w Q P R s r on bk c ∧ on.length ≤ c ∧ bk.length ≤ c ∧ s.n = nn
theorem tells_text {m : M} (h : Ms.ok m) : Tells (txt (text m)) m := ⟨h, rfl⟩
theorem spoilt_none {s : ByteArray} (h : Crc.goes 65535 s.data.toList ≠ 0) : ∀ m, ¬ Tells s m := fun m ht => h (by rw [ht.2]; exact Ms.goes_checked _)
theorem pickK (c : Int) (n : Nat) (h1 : -9223372036854775808 ≤ c) (h2 : c ≤ 9223372036854775807) (hn : 1 ≤ n) (hn2 : n ≤ 140737488355328) :
    ∃ r : Nat, r < n ∧ ∀ w, Calls Try.prog 30 #[.int .i64 c, .int .i64 n] w fun e w' => e = .returned (.int .i64 r) ∧ w' = w := by
  have key : ∀ x : Int, 0 ≤ x → ∃ r : Nat, r < n ∧ x % (n : Int) = (r : Int) := fun x hx => by
    obtain ⟨m, rfl⟩ := Int.eq_ofNat_of_zero_le hx
    exact ⟨m % n, Nat.mod_lt _ hn, (Int.natCast_emod _ _).symm⟩
  by_cases h : c < 0
  · have h3 : 0 ≤ -(c + 1) := by omega
    obtain ⟨r, hr, he⟩ := key (-(c + 1)) h3
    have HE : Hid (-(c + 1) % (n : Int) = (r : Int)) := he
    clear key he
    refine ⟨r, hr, fun w => ?_⟩
    go_enter Try.func30, Try.ntmps30
    go_wp2
    go_ret
    exact ⟨Fld.ret_int (by rw [← Int.neg_tmod, Int.tmod_eq_emod_of_nonneg h3]; exact HE.out), rfl⟩
  · have h3 : 0 ≤ c := by omega
    obtain ⟨r, hr, he⟩ := key c h3
    have HE : Hid (c % (n : Int) = (r : Int)) := he
    clear key he h
    refine ⟨r, hr, fun w => ?_⟩
    go_enter Try.func30, Try.ntmps30
    go_wp2
    go_ret
    exact ⟨Fld.ret_int HE.out, rfl⟩
section
variable {nn : Nm} {B : Nat → Prop} {w0 w : World} {Q P R : Nat} {s : St} {r : Rt} {on bk : List ByteArray} {c : Nat}
set_option maxRecDepth 100000 in
set_option maxHeartbeats 4000000 in
theorem comes_give (A Bv Cv : Int) (tx : ByteArray) (a1 : -9223372036854775808 ≤ A) (a2 : A ≤ 9223372036854775807) (b1 : -9223372036854775808 ≤ Bv) (b2 : Bv ≤ 9223372036854775807) (k1 : -9223372036854775808 ≤ Cv) (k2 : Cv ≤ 9223372036854775807) (hc : c ≤ 140737488355328) (h : TJ B w0 w Q P R s r on bk c) (hon : on.length ≤ c) (hbk : bk.length ≤ c) (hnn : s.n = nn) :
    Calls Try.prog 34 #[.pointer (some ⟨Q, 0, none⟩), .agg #[.int .i64 3, .int .i64 A, .int .i64 Bv, .int .i64 Cv, .string tx]] w fun e w' => e = .returned (.bool true) ∧ TE nn B w0 w' Q P R (c + 1) := by
  have HNN : Hid (s.n = nn) := hnn
  clear hnn
  have H1 : TJ B w0 (w.alloc (.cells #[.int .i64 3, .int .i64 A, .int .i64 Bv, .int .i64 Cv, .string tx] 40)) Q P R s r on bk c := h.above ((Below.refl _ _).alloc (Nat.le_refl _) _)
  have o0 : (w.alloc (.cells #[.int .i64 3, .int .i64 A, .int .i64 Bv, .int .i64 Cv, .string tx] 40)).cell? ⟨w.heap.size, 0, none⟩ = some (.int .i64 3) := cell_new rfl rfl
  have o1 : (w.alloc (.cells #[.int .i64 3, .int .i64 A, .int .i64 Bv, .int .i64 Cv, .string tx] 40)).cell? ⟨w.heap.size, 1, none⟩ = some (.int .i64 A) := cell_new rfl rfl
  have o2 : (w.alloc (.cells #[.int .i64 3, .int .i64 A, .int .i64 Bv, .int .i64 Cv, .string tx] 40)).cell? ⟨w.heap.size, 2, none⟩ = some (.int .i64 Bv) := cell_new rfl rfl
  have o3 : (w.alloc (.cells #[.int .i64 3, .int .i64 A, .int .i64 Bv, .int .i64 Cv, .string tx] 40)).cell? ⟨w.heap.size, 3, none⟩ = some (.int .i64 Cv) := cell_new rfl rfl
  have HJ : Hid (TJ B w0 (w.alloc (.cells #[.int .i64 3, .int .i64 A, .int .i64 Bv, .int .i64 Cv, .string tx] 40)) Q P R s r on bk c) := H1
  obtain ⟨C, S, v2, v4, v5, l, hM, hT, hI⟩ := H1
  have O4 := hM.wm.own 4 (.inr (.inl rfl))
  have et : tV P R v2 r.taken v4 v5 4 = v4 := rfl
  have ex : txs s.objs on bk 4 = on := rfl
  rw [et, ex] at O4
  obtain ⟨d0, d1, d2, d3, d4, d5⟩ := hM.cells
  obtain ⟨ax, cx, hv⟩ := owns_form O4
  rw [hv] at d4
  have HI : Hid (TI s r on bk c) := hI
  have HEND : Hid (∀ w', Below (w.alloc (.cells #[.int .i64 3, .int .i64 A, .int .i64 Bv, .int .i64 Cv, .string tx] 40)).heap.size (w.alloc (.cells #[.int .i64 3, .int .i64 A, .int .i64 Bv, .int .i64 Cv, .string tx] 40)) w' → TE nn B w0 w' Q P R (c + 1)) := fun w' hb => ⟨s, r, on, bk, (HJ.out.above hb).mono (by omega), by omega, by omega, HNN.out⟩
  by_cases h0 : on.length = 0
  · rw [h0] at d4
    clear hM hT hI O4 hv h0
    go_enter Try.func34, Try.ntmps34
    go_wp2
    go_ret
    exact ⟨rfl, HEND.out _ (Below.refl _ _)⟩
  · obtain ⟨k, hk, HPA⟩ := pickK A on.length a1 a2 (by omega) (by omega)
    obtain ⟨go, cap, hv', hgo⟩ := owns_cells O4 (by omega)
    have ea : ax = some ⟨go, 0, none⟩ := by rw [hv] at hv'; injection hv'
    subst ea
    have dg : (w.alloc (.cells #[.int .i64 3, .int .i64 A, .int .i64 Bv, .int .i64 Cv, .string tx] 40)).cell? ⟨go, k, none⟩ = some (.string on[k]) := hgo k _ (by unfold strs; rw [List.getElem?_map, List.getElem?_eq_getElem hk]; rfl)
    have HMEM : Hid (on[k] ∈ on) := List.getElem_mem hk
    obtain ⟨TX, hTX⟩ : ∃ TX, TX = on[k] := ⟨_, rfl⟩
    rw [← hTX] at dg HMEM
    have t0 : ((on.length : Int) == 0) = false := by simpa using h0
    obtain ⟨n, hn⟩ : ∃ n, n = on.length := ⟨_, rfl⟩
    have hn2 : n ≤ 140737488355328 := by omega
    rw [← hn] at d4 t0 HPA
    have hkn : k < n := by omega
    clear hM hT hI O4 hv hv' h0 hTX hgo et ex hk hn
    obtain ⟨N, hN⟩ : ∃ N, N = w.heap.size := ⟨_, rfl⟩
    obtain ⟨W, hW⟩ : ∃ W, W = w.alloc (.cells #[.int .i64 3, .int .i64 A, .int .i64 Bv, .int .i64 Cv, .string tx] 40) := ⟨_, rfl⟩
    go_enter Try.func34, Try.ntmps34
    go_wp2_with fail
    simp only [← hW, ← hN]
    rw [← hW] at o0 o1 o2 o3 dg HJ HEND d0 d1 d2 d3 d4 d5
    rw [← hN] at o0 o1 o2 o3
    refine (HPA _).mono ?_
    rintro e w1 ⟨rfl, rfl⟩
    clear HPA hW hN
    obtain ⟨m, hm, eTX⟩ := HI.out.ons TX HMEM.out
    have hok := HI.out.ok hm
    have hlen := Ms.text_len hok
    have hsz : TX.size = (text m).length := by rw [eTX, Ms.txt_size]
    have hT4 : 4 ≤ TX.size := by omega
    have hT28 : TX.size ≤ 28 := by omega
    have hne : TX.toList.isEmpty = false := by rw [Ms.size_isEmpty]; exact decide_eq_false (by omega)
    have HTL : Hid (Tells TX m) := by rw [eTX]; exact tells_text hok
    have HG0 : Hid (Crc.goes 65535 TX.data.toList = 0) := by rw [eTX]; exact Ms.goes_checked _
    clear hlen hsz eTX
    obtain ⟨C1, S1, u2, u4, u5, l1, m1, hT1, hI1⟩ := HJ.out
    have HM1 : Hid (Tm B w0 w1 C1 Q S1 u2 r.taken u4 u5 s.objs on bk P R l1 r) := m1
    have HT1 : Hid (∃ T, Rel s l1 T) := hT1
    have HH := rHearR r TX R (fun b => C1 b = 2) w1 (by omega) (hI1.rok.ok (by omega)) m1.rl
    have HHO := hI1.hear hm (by omega)
    have HH0 : Hid ((r.hear m).2 = 0) := HHO.1
    have HTI : Hid (TI s (r.hear m).1 on bk (c + 1)) := HHO.2
    clear m1 hT1 hI1 HHO hok hm HJ
    go_wp2_with fail
    refine HH.mono ?_
    rintro e w2 ⟨ho, t2⟩
    rcases ho with ⟨m', h5, rfl, hl2⟩ | ⟨h5, _, _⟩
    · have em : m' = m := by rw [← Ms.tells_lan h5, Ms.tells_lan HTL.out]
      subst em
      rw [HH0.out]
      have HF : Hid (TE nn B w0 w2 Q P R (c + 1)) := by
        have m2 := HM1.out.recv t2 hl2
        rw [← (hear_n r m').2] at m2
        exact ⟨s, _, on, bk, ⟨_, _, _, _, _, _, m2, HT1.out, HTI.out⟩, by omega, by omega, HNN.out⟩
      clear HH hl2 t2 h5 HM1
      go_wp2
      go_ret
      exact ⟨rfl, HF.out⟩
    · exact absurd HTL.out (h5 m)
set_option maxRecDepth 100000 in
set_option maxHeartbeats 4000000 in
theorem comes_spoilt (A Bv Cv : Int) (tx : ByteArray) (a1 : -9223372036854775808 ≤ A) (a2 : A ≤ 9223372036854775807) (b1 : -9223372036854775808 ≤ Bv) (b2 : Bv ≤ 9223372036854775807) (k1 : -9223372036854775808 ≤ Cv) (k2 : Cv ≤ 9223372036854775807) (hc : c ≤ 140737488355328) (h : TJ B w0 w Q P R s r on bk c) (hon : on.length ≤ c) (hbk : bk.length ≤ c) (hnn : s.n = nn) :
    Calls Try.prog 34 #[.pointer (some ⟨Q, 0, none⟩), .agg #[.int .i64 4, .int .i64 A, .int .i64 Bv, .int .i64 Cv, .string tx]] w fun e w' => e = .returned (.bool true) ∧ TE nn B w0 w' Q P R (c + 1) := by
  have HNN : Hid (s.n = nn) := hnn
  clear hnn
  have H1 : TJ B w0 (w.alloc (.cells #[.int .i64 4, .int .i64 A, .int .i64 Bv, .int .i64 Cv, .string tx] 40)) Q P R s r on bk c := h.above ((Below.refl _ _).alloc (Nat.le_refl _) _)
  have o0 : (w.alloc (.cells #[.int .i64 4, .int .i64 A, .int .i64 Bv, .int .i64 Cv, .string tx] 40)).cell? ⟨w.heap.size, 0, none⟩ = some (.int .i64 4) := cell_new rfl rfl
  have o1 : (w.alloc (.cells #[.int .i64 4, .int .i64 A, .int .i64 Bv, .int .i64 Cv, .string tx] 40)).cell? ⟨w.heap.size, 1, none⟩ = some (.int .i64 A) := cell_new rfl rfl
  have o2 : (w.alloc (.cells #[.int .i64 4, .int .i64 A, .int .i64 Bv, .int .i64 Cv, .string tx] 40)).cell? ⟨w.heap.size, 2, none⟩ = some (.int .i64 Bv) := cell_new rfl rfl
  have o3 : (w.alloc (.cells #[.int .i64 4, .int .i64 A, .int .i64 Bv, .int .i64 Cv, .string tx] 40)).cell? ⟨w.heap.size, 3, none⟩ = some (.int .i64 Cv) := cell_new rfl rfl
  have HJ : Hid (TJ B w0 (w.alloc (.cells #[.int .i64 4, .int .i64 A, .int .i64 Bv, .int .i64 Cv, .string tx] 40)) Q P R s r on bk c) := H1
  obtain ⟨C, S, v2, v4, v5, l, hM, hT, hI⟩ := H1
  have O4 := hM.wm.own 4 (.inr (.inl rfl))
  have et : tV P R v2 r.taken v4 v5 4 = v4 := rfl
  have ex : txs s.objs on bk 4 = on := rfl
  rw [et, ex] at O4
  obtain ⟨d0, d1, d2, d3, d4, d5⟩ := hM.cells
  obtain ⟨ax, cx, hv⟩ := owns_form O4
  rw [hv] at d4
  have HI : Hid (TI s r on bk c) := hI
  have HEND : Hid (∀ w', Below (w.alloc (.cells #[.int .i64 4, .int .i64 A, .int .i64 Bv, .int .i64 Cv, .string tx] 40)).heap.size (w.alloc (.cells #[.int .i64 4, .int .i64 A, .int .i64 Bv, .int .i64 Cv, .string tx] 40)) w' → TE nn B w0 w' Q P R (c + 1)) := fun w' hb => ⟨s, r, on, bk, (HJ.out.above hb).mono (by omega), by omega, by omega, HNN.out⟩
  by_cases h0 : on.length = 0
  · rw [h0] at d4
    clear hM hT hI O4 hv h0
    go_enter Try.func34, Try.ntmps34
    go_wp2
    go_ret
    exact ⟨rfl, HEND.out _ (Below.refl _ _)⟩
  · obtain ⟨k, hk, HPA⟩ := pickK A on.length a1 a2 (by omega) (by omega)
    obtain ⟨go, cap, hv', hgo⟩ := owns_cells O4 (by omega)
    have ea : ax = some ⟨go, 0, none⟩ := by rw [hv] at hv'; injection hv'
    subst ea
    have dg : (w.alloc (.cells #[.int .i64 4, .int .i64 A, .int .i64 Bv, .int .i64 Cv, .string tx] 40)).cell? ⟨go, k, none⟩ = some (.string on[k]) := hgo k _ (by unfold strs; rw [List.getElem?_map, List.getElem?_eq_getElem hk]; rfl)
    have HMEM : Hid (on[k] ∈ on) := List.getElem_mem hk
    obtain ⟨TX, hTX⟩ : ∃ TX, TX = on[k] := ⟨_, rfl⟩
    rw [← hTX] at dg HMEM
    have t0 : ((on.length : Int) == 0) = false := by simpa using h0
    obtain ⟨n, hn⟩ : ∃ n, n = on.length := ⟨_, rfl⟩
    have hn2 : n ≤ 140737488355328 := by omega
    rw [← hn] at d4 t0 HPA
    have hkn : k < n := by omega
    clear hM hT hI O4 hv hv' h0 hTX hgo et ex hk hn
    obtain ⟨N, hN⟩ : ∃ N, N = w.heap.size := ⟨_, rfl⟩
    obtain ⟨W, hW⟩ : ∃ W, W = w.alloc (.cells #[.int .i64 4, .int .i64 A, .int .i64 Bv, .int .i64 Cv, .string tx] 40) := ⟨_, rfl⟩
    go_enter Try.func34, Try.ntmps34
    go_wp2_with fail
    simp only [← hW, ← hN]
    rw [← hW] at o0 o1 o2 o3 dg HJ HEND d0 d1 d2 d3 d4 d5
    rw [← hN] at o0 o1 o2 o3
    refine (HPA _).mono ?_
    rintro e w1 ⟨rfl, rfl⟩
    clear HPA hW hN
    obtain ⟨m, hm, eTX⟩ := HI.out.ons TX HMEM.out
    have hok := HI.out.ok hm
    have hlen := Ms.text_len hok
    have hsz : TX.size = (text m).length := by rw [eTX, Ms.txt_size]
    have hT4 : 4 ≤ TX.size := by omega
    have hT28 : TX.size ≤ 28 := by omega
    have hne : TX.toList.isEmpty = false := by rw [Ms.size_isEmpty]; exact decide_eq_false (by omega)
    have HTL : Hid (Tells TX m) := by rw [eTX]; exact tells_text hok
    have HG0 : Hid (Crc.goes 65535 TX.data.toList = 0) := by rw [eTX]; exact Ms.goes_checked _
    clear hlen hsz eTX
    have HTU := turned_any TX Bv Cv 0 w1 hT4 hT28 HG0.out b1 b2 k1 k2 (by omega) (by omega)
    go_wp2_with fail
    refine HTU.mono ?_
    rintro e w2 ⟨⟨TY, rfl, hTY, hgY⟩, hb2⟩
    have HNO : Hid (∀ m, ¬ Tells TY m) := spoilt_none hgY
    have HJ2 : Hid (TJ B w0 w2 Q P R s r on bk c) := HJ.out.above hb2
    clear HTU hgY HJ
    obtain ⟨C1, S1, u2, u4, u5, l1, m1, hT1, hI1⟩ := HJ2.out
    have HM1 : Hid (Tm B w0 w2 C1 Q S1 u2 r.taken u4 u5 s.objs on bk P R l1 r) := m1
    have HT1 : Hid (∃ T, Rel s l1 T) := hT1
    obtain ⟨q0, q1, _, _, _, _⟩ := m1.cells
    have p0 : w2.cell? ⟨N, 0, none⟩ = some (.int .i64 4) := (hb2.cell (p := ⟨N, 0, none⟩) (cell_lt o0)).trans o0
    have HH := rHearR r TY R (fun b => C1 b = 2) w2 (by omega) (hI1.rok.ok (by omega)) m1.rl
    have HTI : Hid (TI s r on bk (c + 1)) := hI1.mono (by omega)
    clear m1 hT1 hI1 hok hm HJ2 hb2 o0 o1 o2 o3 d0 d1 d2 d3 d4 d5 dg
    go_wp2_with fail
    refine HH.mono ?_
    rintro e w3 ⟨ho, t2⟩
    rcases ho with ⟨m', h5, _, _⟩ | ⟨_, rfl, hl2⟩
    · exact absurd h5 (HNO.out m')
    · have HF : Hid (TE nn B w0 w3 Q P R (c + 1)) := ⟨s, r, on, bk, ⟨_, _, _, _, _, _, HM1.out.recv t2 hl2, HT1.out, HTI.out⟩, by omega, by omega, HNN.out⟩
      clear HH hl2 t2 HM1 p0 q0 q1
      go_wp2
      go_ret
      exact ⟨rfl, HF.out⟩
set_option maxRecDepth 100000 in
set_option maxHeartbeats 4000000 in
theorem comes_answer (A Bv Cv : Int) (tx : ByteArray) (a1 : -9223372036854775808 ≤ A) (a2 : A ≤ 9223372036854775807) (b1 : -9223372036854775808 ≤ Bv) (b2 : Bv ≤ 9223372036854775807) (k1 : -9223372036854775808 ≤ Cv) (k2 : Cv ≤ 9223372036854775807) (hc : c ≤ 140737488355328) (h : TJ B w0 w Q P R s r on bk c) (hon : on.length ≤ c) (hbk : bk.length ≤ c) (hnn : s.n = nn) :
    Calls Try.prog 34 #[.pointer (some ⟨Q, 0, none⟩), .agg #[.int .i64 6, .int .i64 A, .int .i64 Bv, .int .i64 Cv, .string tx]] w fun e w' => e = .returned (.bool true) ∧ TE nn B w0 w' Q P R (c + 1) := by
  have HNN : Hid (s.n = nn) := hnn
  clear hnn
  have H1 : TJ B w0 (w.alloc (.cells #[.int .i64 6, .int .i64 A, .int .i64 Bv, .int .i64 Cv, .string tx] 40)) Q P R s r on bk c := h.above ((Below.refl _ _).alloc (Nat.le_refl _) _)
  have o0 : (w.alloc (.cells #[.int .i64 6, .int .i64 A, .int .i64 Bv, .int .i64 Cv, .string tx] 40)).cell? ⟨w.heap.size, 0, none⟩ = some (.int .i64 6) := cell_new rfl rfl
  have o1 : (w.alloc (.cells #[.int .i64 6, .int .i64 A, .int .i64 Bv, .int .i64 Cv, .string tx] 40)).cell? ⟨w.heap.size, 1, none⟩ = some (.int .i64 A) := cell_new rfl rfl
  have o2 : (w.alloc (.cells #[.int .i64 6, .int .i64 A, .int .i64 Bv, .int .i64 Cv, .string tx] 40)).cell? ⟨w.heap.size, 2, none⟩ = some (.int .i64 Bv) := cell_new rfl rfl
  have o3 : (w.alloc (.cells #[.int .i64 6, .int .i64 A, .int .i64 Bv, .int .i64 Cv, .string tx] 40)).cell? ⟨w.heap.size, 3, none⟩ = some (.int .i64 Cv) := cell_new rfl rfl
  have HJ : Hid (TJ B w0 (w.alloc (.cells #[.int .i64 6, .int .i64 A, .int .i64 Bv, .int .i64 Cv, .string tx] 40)) Q P R s r on bk c) := H1
  obtain ⟨C, S, v2, v4, v5, l, hM, hT, hI⟩ := H1
  have O4 := hM.wm.own 5 (.inr (.inr rfl))
  have et : tV P R v2 r.taken v4 v5 5 = v5 := rfl
  have ex : txs s.objs on bk 5 = bk := rfl
  rw [et, ex] at O4
  obtain ⟨d0, d1, d2, d3, d4, d5⟩ := hM.cells
  obtain ⟨ax, cx, hv⟩ := owns_form O4
  rw [hv] at d5
  have HI : Hid (TI s r on bk c) := hI
  have HEND : Hid (∀ w', Below (w.alloc (.cells #[.int .i64 6, .int .i64 A, .int .i64 Bv, .int .i64 Cv, .string tx] 40)).heap.size (w.alloc (.cells #[.int .i64 6, .int .i64 A, .int .i64 Bv, .int .i64 Cv, .string tx] 40)) w' → TE nn B w0 w' Q P R (c + 1)) := fun w' hb => ⟨s, r, on, bk, (HJ.out.above hb).mono (by omega), by omega, by omega, HNN.out⟩
  by_cases h0 : bk.length = 0
  · rw [h0] at d5
    clear hM hT hI O4 hv h0
    go_enter Try.func34, Try.ntmps34
    go_wp2
    go_ret
    exact ⟨rfl, HEND.out _ (Below.refl _ _)⟩
  · obtain ⟨k, hk, HPA⟩ := pickK A bk.length a1 a2 (by omega) (by omega)
    obtain ⟨go, cap, hv', hgo⟩ := owns_cells O4 (by omega)
    have ea : ax = some ⟨go, 0, none⟩ := by rw [hv] at hv'; injection hv'
    subst ea
    have dg : (w.alloc (.cells #[.int .i64 6, .int .i64 A, .int .i64 Bv, .int .i64 Cv, .string tx] 40)).cell? ⟨go, k, none⟩ = some (.string bk[k]) := hgo k _ (by unfold strs; rw [List.getElem?_map, List.getElem?_eq_getElem hk]; rfl)
    have HMEM : Hid (bk[k] ∈ bk) := List.getElem_mem hk
    obtain ⟨TX, hTX⟩ : ∃ TX, TX = bk[k] := ⟨_, rfl⟩
    rw [← hTX] at dg HMEM
    have t0 : ((bk.length : Int) == 0) = false := by simpa using h0
    obtain ⟨n, hn⟩ : ∃ n, n = bk.length := ⟨_, rfl⟩
    have hn2 : n ≤ 140737488355328 := by omega
    rw [← hn] at d5 t0 HPA
    have hkn : k < n := by omega
    clear hM hT hI O4 hv hv' h0 hTX hgo et ex hk hn
    obtain ⟨N, hN⟩ : ∃ N, N = w.heap.size := ⟨_, rfl⟩
    obtain ⟨W, hW⟩ : ∃ W, W = w.alloc (.cells #[.int .i64 6, .int .i64 A, .int .i64 Bv, .int .i64 Cv, .string tx] 40) := ⟨_, rfl⟩
    go_enter Try.func34, Try.ntmps34
    go_wp2_with fail
    simp only [← hW, ← hN]
    rw [← hW] at o0 o1 o2 o3 dg HJ HEND d0 d1 d2 d3 d4 d5
    rw [← hN] at o0 o1 o2 o3
    refine (HPA _).mono ?_
    rintro e w1 ⟨rfl, rfl⟩
    clear HPA hW hN
    rcases HI.out.bks TX HMEM.out with eTX | ⟨m, hok, hkd, eTX⟩
    · have hem : TX.toList.isEmpty = true := by rw [Ms.size_isEmpty, eTX]; rfl
      clear eTX
      go_wp2
      go_ret
      exact ⟨rfl, HEND.out _ (Below.refl _ _)⟩
    · have hlen := Ms.text_len hok
      have hsz : TX.size = (text m).length := by rw [eTX, Ms.txt_size]
      have hT4 : 4 ≤ TX.size := by omega
      have hT28 : TX.size ≤ 28 := by omega
      have hne : TX.toList.isEmpty = false := by rw [Ms.size_isEmpty]; exact decide_eq_false (by omega)
      have HTL : Hid (Tells TX m) := by rw [eTX]; exact tells_text hok
      have HG0 : Hid (Crc.goes 65535 TX.data.toList = 0) := by rw [eTX]; exact Ms.goes_checked _
      clear hlen hsz eTX
      obtain ⟨C1, S1, u2, u4, u5, l1, m1, hT1, hI1⟩ := HJ.out
      have HM1 : Hid (Tm B w0 w1 C1 Q S1 u2 r.taken u4 u5 s.objs on bk P R l1 r) := m1
      have HT1 : Hid (∃ T, Rel s l1 T) := hT1
      obtain ⟨T, hT⟩ := hT1
      have HOK2 := hT.ok2 hI1.sok
      obtain ⟨la, lc, LD, hLI⟩ := m1.sl
      have HH := rHear l1 TX P (fun b => C1 b = 1) la lc LD w1 HOK2.base HOK2.ow8 (by omega) hLI
      have hits : ∀ t ∈ m.items, Ms.itOK t := by
        rcases hok with h | h | h
        · rw [hkd] at h; exact absurd h.1 (by decide)
        · exact h.2.2.2.2.2
        · rw [hkd] at h; exact absurd h.1 (by decide)
      have HRL : Hid (∃ T, Rel (s.asked m.items) (l1.anss m.items) T) := ⟨T, hT.dues hI1.sok m.items hits⟩
      have HTI : Hid (TI (s.asked m.items) r on bk (c + 1)) := hI1.asked m.items
      have HKD : Hid (m.kind = 2) := hkd
      clear m1 hT hI1 hits hok HOK2 hLI hkd HJ
      go_wp2_with fail
      refine HH.mono ?_
      rintro e w2 ⟨l2, ho, hl2, t2⟩
      rcases ho with ⟨m', h5, h6, rfl, rfl⟩ | ⟨h5, _, _⟩
      · have em : m' = m := by rw [← Ms.tells_lan h5, Ms.tells_lan HTL.out]
        subst em
        have HF : Hid (TE nn B w0 w2 Q P R (c + 1)) := ⟨s.asked m'.items, r, on, bk, ⟨_, _, _, _, _, _, HM1.out.send t2 (LndAt.mono ⟨la, lc, LD, hl2⟩ (fun b hb _ => .inl hb)), HRL.out, HTI.out⟩, by omega, by omega, HNN.out⟩
        clear HH hl2 t2 h5 h6 HM1
        go_wp2
        go_ret
        exact ⟨rfl, HF.out⟩
      · exact absurd HKD.out (h5 m HTL.out)
set_option maxRecDepth 100000 in
set_option maxHeartbeats 4000000 in
theorem comes_twisted (A Bv Cv : Int) (tx : ByteArray) (a1 : -9223372036854775808 ≤ A) (a2 : A ≤ 9223372036854775807) (b1 : -9223372036854775808 ≤ Bv) (b2 : Bv ≤ 9223372036854775807) (k1 : -9223372036854775808 ≤ Cv) (k2 : Cv ≤ 9223372036854775807) (hc : c ≤ 140737488355328) (h : TJ B w0 w Q P R s r on bk c) (hon : on.length ≤ c) (hbk : bk.length ≤ c) (hnn : s.n = nn) :
    Calls Try.prog 34 #[.pointer (some ⟨Q, 0, none⟩), .agg #[.int .i64 7, .int .i64 A, .int .i64 Bv, .int .i64 Cv, .string tx]] w fun e w' => e = .returned (.bool true) ∧ TE nn B w0 w' Q P R (c + 1) := by
  have HNN : Hid (s.n = nn) := hnn
  clear hnn
  have H1 : TJ B w0 (w.alloc (.cells #[.int .i64 7, .int .i64 A, .int .i64 Bv, .int .i64 Cv, .string tx] 40)) Q P R s r on bk c := h.above ((Below.refl _ _).alloc (Nat.le_refl _) _)
  have o0 : (w.alloc (.cells #[.int .i64 7, .int .i64 A, .int .i64 Bv, .int .i64 Cv, .string tx] 40)).cell? ⟨w.heap.size, 0, none⟩ = some (.int .i64 7) := cell_new rfl rfl
  have o1 : (w.alloc (.cells #[.int .i64 7, .int .i64 A, .int .i64 Bv, .int .i64 Cv, .string tx] 40)).cell? ⟨w.heap.size, 1, none⟩ = some (.int .i64 A) := cell_new rfl rfl
  have o2 : (w.alloc (.cells #[.int .i64 7, .int .i64 A, .int .i64 Bv, .int .i64 Cv, .string tx] 40)).cell? ⟨w.heap.size, 2, none⟩ = some (.int .i64 Bv) := cell_new rfl rfl
  have o3 : (w.alloc (.cells #[.int .i64 7, .int .i64 A, .int .i64 Bv, .int .i64 Cv, .string tx] 40)).cell? ⟨w.heap.size, 3, none⟩ = some (.int .i64 Cv) := cell_new rfl rfl
  have HJ : Hid (TJ B w0 (w.alloc (.cells #[.int .i64 7, .int .i64 A, .int .i64 Bv, .int .i64 Cv, .string tx] 40)) Q P R s r on bk c) := H1
  obtain ⟨C, S, v2, v4, v5, l, hM, hT, hI⟩ := H1
  have O4 := hM.wm.own 5 (.inr (.inr rfl))
  have et : tV P R v2 r.taken v4 v5 5 = v5 := rfl
  have ex : txs s.objs on bk 5 = bk := rfl
  rw [et, ex] at O4
  obtain ⟨d0, d1, d2, d3, d4, d5⟩ := hM.cells
  obtain ⟨ax, cx, hv⟩ := owns_form O4
  rw [hv] at d5
  have HI : Hid (TI s r on bk c) := hI
  have HEND : Hid (∀ w', Below (w.alloc (.cells #[.int .i64 7, .int .i64 A, .int .i64 Bv, .int .i64 Cv, .string tx] 40)).heap.size (w.alloc (.cells #[.int .i64 7, .int .i64 A, .int .i64 Bv, .int .i64 Cv, .string tx] 40)) w' → TE nn B w0 w' Q P R (c + 1)) := fun w' hb => ⟨s, r, on, bk, (HJ.out.above hb).mono (by omega), by omega, by omega, HNN.out⟩
  by_cases h0 : bk.length = 0
  · rw [h0] at d5
    clear hM hT hI O4 hv h0
    go_enter Try.func34, Try.ntmps34
    go_wp2
    go_ret
    exact ⟨rfl, HEND.out _ (Below.refl _ _)⟩
  · obtain ⟨k, hk, HPA⟩ := pickK A bk.length a1 a2 (by omega) (by omega)
    obtain ⟨go, cap, hv', hgo⟩ := owns_cells O4 (by omega)
    have ea : ax = some ⟨go, 0, none⟩ := by rw [hv] at hv'; injection hv'
    subst ea
    have dg : (w.alloc (.cells #[.int .i64 7, .int .i64 A, .int .i64 Bv, .int .i64 Cv, .string tx] 40)).cell? ⟨go, k, none⟩ = some (.string bk[k]) := hgo k _ (by unfold strs; rw [List.getElem?_map, List.getElem?_eq_getElem hk]; rfl)
    have HMEM : Hid (bk[k] ∈ bk) := List.getElem_mem hk
    obtain ⟨TX, hTX⟩ : ∃ TX, TX = bk[k] := ⟨_, rfl⟩
    rw [← hTX] at dg HMEM
    have t0 : ((bk.length : Int) == 0) = false := by simpa using h0
    obtain ⟨n, hn⟩ : ∃ n, n = bk.length := ⟨_, rfl⟩
    have hn2 : n ≤ 140737488355328 := by omega
    rw [← hn] at d5 t0 HPA
    have hkn : k < n := by omega
    clear hM hT hI O4 hv hv' h0 hTX hgo et ex hk hn
    obtain ⟨N, hN⟩ : ∃ N, N = w.heap.size := ⟨_, rfl⟩
    obtain ⟨W, hW⟩ : ∃ W, W = w.alloc (.cells #[.int .i64 7, .int .i64 A, .int .i64 Bv, .int .i64 Cv, .string tx] 40) := ⟨_, rfl⟩
    go_enter Try.func34, Try.ntmps34
    go_wp2_with fail
    simp only [← hW, ← hN]
    rw [← hW] at o0 o1 o2 o3 dg HJ HEND d0 d1 d2 d3 d4 d5
    rw [← hN] at o0 o1 o2 o3
    refine (HPA _).mono ?_
    rintro e w1 ⟨rfl, rfl⟩
    clear HPA hW hN
    rcases HI.out.bks TX HMEM.out with eTX | ⟨m, hok, hkd, eTX⟩
    · have hem : TX.toList.isEmpty = true := by rw [Ms.size_isEmpty, eTX]; rfl
      clear eTX
      go_wp2
      go_ret
      exact ⟨rfl, HEND.out _ (Below.refl _ _)⟩
    · have hlen := Ms.text_len hok
      have hsz : TX.size = (text m).length := by rw [eTX, Ms.txt_size]
      have hT4 : 4 ≤ TX.size := by omega
      have hT28 : TX.size ≤ 28 := by omega
      have hne : TX.toList.isEmpty = false := by rw [Ms.size_isEmpty]; exact decide_eq_false (by omega)
      have HTL : Hid (Tells TX m) := by rw [eTX]; exact tells_text hok
      have HG0 : Hid (Crc.goes 65535 TX.data.toList = 0) := by rw [eTX]; exact Ms.goes_checked _
      clear hlen hsz eTX
      have HTU := turned_any TX Bv Cv 0 w1 hT4 hT28 HG0.out b1 b2 k1 k2 (by omega) (by omega)
      go_wp2_with fail
      refine HTU.mono ?_
      rintro e w2 ⟨⟨TY, rfl, hTY, hgY⟩, hb2⟩
      have HNO : Hid (∀ m, ¬ Tells TY m) := spoilt_none hgY
      have HJ2 : Hid (TJ B w0 w2 Q P R s r on bk c) := HJ.out.above hb2
      clear HTU hgY HJ
      obtain ⟨C1, S1, u2, u4, u5, l1, m1, hT1, hI1⟩ := HJ2.out
      have HM1 : Hid (Tm B w0 w2 C1 Q S1 u2 r.taken u4 u5 s.objs on bk P R l1 r) := m1
      have HT1 : Hid (∃ T, Rel s l1 T) := hT1
      obtain ⟨q0, q1, _, _, _, _⟩ := m1.cells
      have p0 : w2.cell? ⟨N, 0, none⟩ = some (.int .i64 7) := (hb2.cell (p := ⟨N, 0, none⟩) (cell_lt o0)).trans o0
      obtain ⟨T, hT⟩ := hT1
      have HOK2 := hT.ok2 hI1.sok
      obtain ⟨la, lc, LD, hLI⟩ := m1.sl
      have HH := rHear l1 TY P (fun b => C1 b = 1) la lc LD w2 HOK2.base HOK2.ow8 (by omega) hLI
      have HTI : Hid (TI s r on bk (c + 1)) := hI1.mono (by omega)
      clear m1 hT hI1 hok HJ2 hb2 HOK2 hLI o0 o1 o2 o3 d0 d1 d2 d3 d4 d5 dg
      go_wp2_with fail
      refine HH.mono ?_
      rintro e w3 ⟨l2, ho, hl2, t2⟩
      rcases ho with ⟨m', h5, _, _, _⟩ | ⟨_, rfl, rfl⟩
      · exact absurd h5 (HNO.out m')
      · have HF : Hid (TE nn B w0 w3 Q P R (c + 1)) := ⟨s, r, on, bk, ⟨_, _, _, _, _, _, HM1.out.send t2 (LndAt.mono ⟨la, lc, LD, hl2⟩ (fun b hb _ => .inl hb)), HT1.out, HTI.out⟩, by omega, by omega, HNN.out⟩
        clear HH hl2 t2 HM1 p0 q0 q1
        go_wp2
        go_ret
        exact ⟨rfl, HF.out⟩
end
end Sn
end Go.Proofs.Ytkgnmcekeeannab
