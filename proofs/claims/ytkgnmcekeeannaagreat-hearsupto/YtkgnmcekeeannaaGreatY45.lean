import Derived.Test.YtkgnmcekeeannaaGreatY42
import Derived.Test.YtkgnmcekeeannaaGreatY44
/-
  One step of the law's game: hears.
-/
namespace Go.Proofs.YtkgnmcekeeannaaGreat
open Go.RowKit Go.Deep
namespace Sn
open Bs
open Ms (Tells)
set_option linter.unusedVariables false

structure Gk (j : Nat) (on bk : List ByteArray) (s : Nat → St) (l : Nat → LS) (r : Nat → Rt) : Prop where
  rel : ∀ i, i < 2 → ∃ T, Rel (s i) (l i) T
  sok : ∀ i, i < 2 → SOkC (s i) j
  rok : ∀ i, i < 3 → ROkC (r i) j
  tw : ∀ i, i < 3 → TW (r i)
  onl : on.length ≤ j
  bkl : bk.length ≤ j
  ons : ∀ t ∈ on, t.size ≤ 1048576
  bks : ∀ t ∈ bk, t.size ≤ 1048576
def GS6 (B : Nat) (w0 w : World) (Q : Nat) (P R P' R' : Nat → Nat) (j : Nat) : Prop := ∃ C S V on bk s l r, Gm B w0 w C Q S V on bk P R P' R' s l r r ∧ Gk j on bk s l r
theorem Gk.mono {j j' : Nat} {on bk : List ByteArray} {s : Nat → St} {l : Nat → LS} {r : Nat → Rt} (h : Gk j on bk s l r) (hj : j ≤ j') : Gk j' on bk s l r :=
  ⟨h.rel, fun i hi => (h.sok i hi).mono hj, fun i hi => (h.rok i hi).mono hj, h.tw, by have := h.onl; omega, by have := h.bkl; omega, h.ons, h.bks⟩
theorem GS6.mono {B : Nat} {w0 w : World} {Q : Nat} {P R P' R' : Nat → Nat} {j j' : Nat} (h : GS6 B w0 w Q P R P' R' j) (hj : j ≤ j') : GS6 B w0 w Q P R P' R' j' := by
  obtain ⟨C, S, V, on, bk, s, l, r, m, k⟩ := h
  exact ⟨C, S, V, on, bk, s, l, r, m, k.mono hj⟩
theorem Gk.recv {j i : Nat} {on bk : List ByteArray} {s : Nat → St} {l : Nat → LS} {r : Nat → Rt} {x : Rt} (h : Gk j on bk s l r) (h1 : ROkC x (j + 1)) (h2 : TW x) : Gk (j + 1) on bk s l (upv r i x) := by
  have h' := h.mono (Nat.le_succ j)
  refine ⟨h'.rel, h'.sok, fun k hk => ?_, fun k hk => ?_, h'.onl, h'.bkl, h'.ons, h'.bks⟩
  · by_cases e : k = i
    · rw [e, upv_same]; exact h1
    · rw [upv_other _ _ e]; exact h'.rok k hk
  · by_cases e : k = i
    · rw [e, upv_same]; exact h2
    · rw [upv_other _ _ e]; exact h'.tw k hk
theorem upv_id {α : Type} (f : Nat → α) (i : Nat) : upv f i (f i) = f := by
  funext j
  unfold upv
  by_cases e : j = i
  · rw [if_pos e, e]
  · rw [if_neg e]
theorem request_size {r : Rt} (hr : ROk r) : r.request.size ≤ 1048576 := by
  unfold Rt.request
  split
  · exact Nat.zero_le _
  · rename_i hne
    have hok : Ms.ok (reqM (r.items.take 8)) := by
      refine .inr (.inl ⟨rfl, ⟨rfl, rfl, rfl, rfl, rfl⟩, rfl, ?_, ?_, fun t ht => items_ok r hr t (List.mem_of_mem_take ht)⟩)
      · show 1 ≤ (r.items.take 8).length
        have := List.length_pos_iff.2 hne
        rw [List.length_take]; omega
      · show (r.items.take 8).length ≤ 8
        rw [List.length_take]; omega
    have := (Ms.text_len hok).2
    rw [Ms.txt_size]; omega
theorem three_ptr (f : Nat → Nat) {i : Nat} (hi : i < 3) : ([pt (f 0), pt (f 1), pt (f 2)] : List Value)[i]? = some (.pointer (some ⟨f i, 0, none⟩)) := by
  match i, hi with
  | 0, _ => rfl
  | 1, _ => rfl
  | 2, _ => rfl
theorem two_ptr (f : Nat → Nat) {i : Nat} (hi : i < 2) : ([pt (f 0), pt (f 1)] : List Value)[i]? = some (.pointer (some ⟨f i, 0, none⟩)) := by
  match i, hi with
  | 0, _ => rfl
  | 1, _ => rfl
section
variable {B : Nat} {w0 w w1 : World} {Q : Nat} {P R P' R' : Nat → Nat}
set_option maxRecDepth 100000 in
set_option maxHeartbeats 4000000 in
theorem hears_known (c : Nat) (A Bv : Int) (tx : ByteArray) (b1 : -9223372036854775808 ≤ Bv) (b2 : Bv ≤ 9223372036854775807) (htx : tx.size ≤ 1048576) (hc : c ≤ 1048576) (h : GS6 B w0 w Q P R P' R' c) :
    Calls Tryz.prog 12 #[.pointer (some ⟨Q, 0, none⟩), .agg #[.int .i64 8, .int .i64 A, .int .i64 Bv, .string tx]] w fun e w' => e = .returned (.bool true) ∧ GS6 B w0 w' Q P R P' R' (c + 1) := by
  obtain ⟨C, S, V, on, bk, s, l, r, hM, hK⟩ := h
  obtain ⟨i, hi, HPk⟩ := pickAll Bv 3 b1 b2 (by omega) (by omega)
  have HK : Hid (Gk c on bk s l r) := hK
  have HRO : Hid (ROk (r i)) := (hK.rok i hi).ok (by omega)
  have HTW : Hid (TW (r i)) := hK.tw i hi
  have HRC : Hid (ROkC (r i) c) := hK.rok i hi
  have B0 : Below w.heap.size w (w.alloc (.cells #[.int .i64 8, .int .i64 A, .int .i64 Bv, .string tx] 32)) := (Below.refl _ _).alloc (Nat.le_refl _) _
  have o0 : (w.alloc (.cells #[.int .i64 8, .int .i64 A, .int .i64 Bv, .string tx] 32)).cell? ⟨w.heap.size, 0, none⟩ = some (.int .i64 8) := cell_new rfl rfl
  have o1 : (w.alloc (.cells #[.int .i64 8, .int .i64 A, .int .i64 Bv, .string tx] 32)).cell? ⟨w.heap.size, 1, none⟩ = some (.int .i64 A) := cell_new rfl rfl
  have o2 : (w.alloc (.cells #[.int .i64 8, .int .i64 A, .int .i64 Bv, .string tx] 32)).cell? ⟨w.heap.size, 2, none⟩ = some (.int .i64 Bv) := cell_new rfl rfl
  have o3 : (w.alloc (.cells #[.int .i64 8, .int .i64 A, .int .i64 Bv, .string tx] 32)).cell? ⟨w.heap.size, 3, none⟩ = some (.string tx) := cell_new rfl rfl
  have nW : w.heap.size < (w.alloc (.cells #[.int .i64 8, .int .i64 A, .int .i64 Bv, .string tx] 32)).heap.size := by simp
  have M1 := hM.above B0
  obtain ⟨C1, hC1⟩ : ∃ C1 : Nat → Nat, C1 = fun b => if w.heap.size ≤ b then 0 else C b := ⟨_, rfl⟩
  rw [← hC1] at M1
  have n0 : C1 w.heap.size = 0 := by rw [hC1]; simp
  obtain ⟨W, hW⟩ : ∃ W, W = w.alloc (.cells #[.int .i64 8, .int .i64 A, .int .i64 Bv, .string tx] 32) := ⟨_, rfl⟩
  rw [← hW] at o0 o1 o2 o3 nW M1
  obtain ⟨N, hN⟩ : ∃ N, N = w.heap.size := ⟨_, rfl⟩
  clear hC1 hK hM B0
  obtain ⟨ga, ca, eV2, gal, hga⟩ := M1.ptr (i := 2) (n := 3) (by omega) rfl (by omega)
  obtain ⟨gb, cb, eV3, gbl, hgb⟩ := M1.ptr (i := 3) (n := 3) (by omega) rfl (by omega)
  have a0 : W.cell? ⟨Q, 2, none⟩ = some (.slice (some ⟨ga, 0, none⟩) 3 ca) := by rw [← eV2]; exact M1.cells 2 (by omega)
  have a1 : W.cell? ⟨Q, 3, none⟩ = some (.slice (some ⟨gb, 0, none⟩) 3 cb) := by rw [← eV3]; exact M1.cells 3 (by omega)
  have a2 := hga i _ (three_ptr P' hi)
  have a3 := hgb i _ (three_ptr R' hi)
  have HM1 : Hid (Gm B w0 W C1 Q S V on bk P R P' R' s l r r) := M1
  clear M1 hga hgb eV2 eV3
  go_enter Tryz.func12, Tryz.ntmps12
  go_wp2_with fail
  simp only [← hW]
  refine (HPk _).mono ?_
  rintro e w1 ⟨rfl, rfl⟩
  clear HPk hW
  rw [← hN] at o0 o1 o2 o3 nW n0 ⊢
  clear hN
  have H1 := rKnownR (r i) (P' i) (fun b => C1 b = 2 * i + 6) w1 (HM1.out.rl i hi)
  have H2 := refKnown (r i) (R' i) (fun b => C1 b = 2 * i + 7) w1 (HM1.out.rr i hi)
  have HF : Hid (GS6 B w0 w1 Q P R P' R' (c + 1)) := ⟨_, _, _, _, _, _, _, _, HM1.out, HK.out.mono (by omega)⟩
  have hk := HRO.out.kn
  generalize (r i).known = n at *
  go_wp2_with fail
  refine H1.mono ?_
  rintro e w2 ⟨rfl, rfl⟩
  clear H1
  go_wp2_with fail
  refine H2.mono ?_
  rintro e w3 ⟨rfl, rfl⟩
  clear H2
  go_wp2
  go_ret
  exact ⟨by simp, HF.out⟩
set_option maxRecDepth 100000 in
set_option maxHeartbeats 4000000 in
theorem hears_take (c : Nat) (A Bv : Int) (tx : ByteArray) (b1 : -9223372036854775808 ≤ Bv) (b2 : Bv ≤ 9223372036854775807) (htx : tx.size ≤ 1048576) (hc : c ≤ 1048576) (h : GS6 B w0 w Q P R P' R' c) :
    Calls Tryz.prog 12 #[.pointer (some ⟨Q, 0, none⟩), .agg #[.int .i64 7, .int .i64 A, .int .i64 Bv, .string tx]] w fun e w' => e = .returned (.bool true) ∧ GS6 B w0 w' Q P R P' R' (c + 1) := by
  obtain ⟨C, S, V, on, bk, s, l, r, hM, hK⟩ := h
  obtain ⟨i, hi, HPk⟩ := pickAll Bv 3 b1 b2 (by omega) (by omega)
  have HK : Hid (Gk c on bk s l r) := hK
  have HRO : Hid (ROk (r i)) := (hK.rok i hi).ok (by omega)
  have HTW : Hid (TW (r i)) := hK.tw i hi
  have HRC : Hid (ROkC (r i) c) := hK.rok i hi
  have B0 : Below w.heap.size w (w.alloc (.cells #[.int .i64 7, .int .i64 A, .int .i64 Bv, .string tx] 32)) := (Below.refl _ _).alloc (Nat.le_refl _) _
  have o0 : (w.alloc (.cells #[.int .i64 7, .int .i64 A, .int .i64 Bv, .string tx] 32)).cell? ⟨w.heap.size, 0, none⟩ = some (.int .i64 7) := cell_new rfl rfl
  have o1 : (w.alloc (.cells #[.int .i64 7, .int .i64 A, .int .i64 Bv, .string tx] 32)).cell? ⟨w.heap.size, 1, none⟩ = some (.int .i64 A) := cell_new rfl rfl
  have o2 : (w.alloc (.cells #[.int .i64 7, .int .i64 A, .int .i64 Bv, .string tx] 32)).cell? ⟨w.heap.size, 2, none⟩ = some (.int .i64 Bv) := cell_new rfl rfl
  have o3 : (w.alloc (.cells #[.int .i64 7, .int .i64 A, .int .i64 Bv, .string tx] 32)).cell? ⟨w.heap.size, 3, none⟩ = some (.string tx) := cell_new rfl rfl
  have nW : w.heap.size < (w.alloc (.cells #[.int .i64 7, .int .i64 A, .int .i64 Bv, .string tx] 32)).heap.size := by simp
  have M1 := hM.above B0
  obtain ⟨C1, hC1⟩ : ∃ C1 : Nat → Nat, C1 = fun b => if w.heap.size ≤ b then 0 else C b := ⟨_, rfl⟩
  rw [← hC1] at M1
  have n0 : C1 w.heap.size = 0 := by rw [hC1]; simp
  obtain ⟨W, hW⟩ : ∃ W, W = w.alloc (.cells #[.int .i64 7, .int .i64 A, .int .i64 Bv, .string tx] 32) := ⟨_, rfl⟩
  rw [← hW] at o0 o1 o2 o3 nW M1
  obtain ⟨N, hN⟩ : ∃ N, N = w.heap.size := ⟨_, rfl⟩
  clear hC1 hK hM B0
  obtain ⟨ga, ca, eV2, gal, hga⟩ := M1.ptr (i := 2) (n := 3) (by omega) rfl (by omega)
  obtain ⟨gb, cb, eV3, gbl, hgb⟩ := M1.ptr (i := 3) (n := 3) (by omega) rfl (by omega)
  have a0 : W.cell? ⟨Q, 2, none⟩ = some (.slice (some ⟨ga, 0, none⟩) 3 ca) := by rw [← eV2]; exact M1.cells 2 (by omega)
  have a1 : W.cell? ⟨Q, 3, none⟩ = some (.slice (some ⟨gb, 0, none⟩) 3 cb) := by rw [← eV3]; exact M1.cells 3 (by omega)
  have a2 := hga i _ (three_ptr P' hi)
  have a3 := hgb i _ (three_ptr R' hi)
  have HM1 : Hid (Gm B w0 W C1 Q S V on bk P R P' R' s l r r) := M1
  clear M1 hga hgb eV2 eV3
  go_enter Tryz.func12, Tryz.ntmps12
  go_wp2_with fail
  simp only [← hW]
  refine (HPk _).mono ?_
  rintro e w1 ⟨rfl, rfl⟩
  clear HPk hW
  rw [← hN] at o0 o1 o2 o3 nW n0 ⊢
  clear hN
  have H1 := rTakeR (r i) (P' i) (fun b => C1 b = 2 * i + 6) w1 HRO.out HTW.out (HM1.out.rl i hi)
  have HRF := fun (C2 : Nat → Nat) (W2 : World) (h : RcvAt W2 (R' i) (r i) (fun b => C2 b = 2 * i + 7)) => refTake (r i) (R' i) (fun b => C2 b = 2 * i + 7) W2 HRO.out (by have := HRC.out.tk; have := HRC.out.kn; omega) h
  have HO' : Hid (ROkC (r i).take.1 (c + 1)) := HRC.out.take.mono (by omega)
  have HT' : Hid (TW (r i).take.1) := HTW.out.take
  generalize (r i).take.1 = X at *
  generalize (r i).take.2.1 = Y at *
  generalize (r i).take.2.2 = Z at *
  go_wp2_with fail
  refine H1.mono ?_
  rintro e w2 ⟨rfl, hl2, t2⟩
  have M2 := HM1.out.recvL hi t2 hl2
  have H2 := HRF _ w2 (M2.rr i hi)
  have HM2 : Hid (Gm B w0 w2 (paint C1 (2 * i + 6) w1.heap.size) Q S V on bk P R P' R' s l (upv r i X) r) := M2
  clear H1 HRF hl2 t2 M2 HM1 a0 a1 a2 a3 o0 o1 o2 o3
  go_wp2_with fail
  refine H2.mono ?_
  rintro e w3 ⟨rfl, hr3, t3⟩
  have HF : Hid (GS6 B w0 w3 Q P R P' R' (c + 1)) := ⟨_, _, _, _, _, _, _, _, HM2.out.recvR hi t3 hr3, HK.out.recv HO'.out HT'.out⟩
  clear H2 hr3 t3 HM2
  go_wp2
  go_ret
  exact ⟨by simp, HF.out⟩
set_option maxRecDepth 100000 in
set_option maxHeartbeats 4000000 in
theorem hears_request (c : Nat) (A Bv : Int) (tx : ByteArray) (b1 : -9223372036854775808 ≤ Bv) (b2 : Bv ≤ 9223372036854775807) (htx : tx.size ≤ 1048576) (hc : c ≤ 1048576) (h : GS6 B w0 w Q P R P' R' c) :
    Calls Tryz.prog 12 #[.pointer (some ⟨Q, 0, none⟩), .agg #[.int .i64 9, .int .i64 A, .int .i64 Bv, .string tx]] w fun e w' => e = .returned (.bool true) ∧ GS6 B w0 w' Q P R P' R' (c + 1) := by
  obtain ⟨C, S, V, on, bk, s, l, r, hM, hK⟩ := h
  obtain ⟨i, hi, HPk⟩ := pickAll Bv 3 b1 b2 (by omega) (by omega)
  have HK : Hid (Gk c on bk s l r) := hK
  have HRO : Hid (ROk (r i)) := (hK.rok i hi).ok (by omega)
  have HTW : Hid (TW (r i)) := hK.tw i hi
  have HRC : Hid (ROkC (r i) c) := hK.rok i hi
  have B0 : Below w.heap.size w (w.alloc (.cells #[.int .i64 9, .int .i64 A, .int .i64 Bv, .string tx] 32)) := (Below.refl _ _).alloc (Nat.le_refl _) _
  have o0 : (w.alloc (.cells #[.int .i64 9, .int .i64 A, .int .i64 Bv, .string tx] 32)).cell? ⟨w.heap.size, 0, none⟩ = some (.int .i64 9) := cell_new rfl rfl
  have o1 : (w.alloc (.cells #[.int .i64 9, .int .i64 A, .int .i64 Bv, .string tx] 32)).cell? ⟨w.heap.size, 1, none⟩ = some (.int .i64 A) := cell_new rfl rfl
  have o2 : (w.alloc (.cells #[.int .i64 9, .int .i64 A, .int .i64 Bv, .string tx] 32)).cell? ⟨w.heap.size, 2, none⟩ = some (.int .i64 Bv) := cell_new rfl rfl
  have o3 : (w.alloc (.cells #[.int .i64 9, .int .i64 A, .int .i64 Bv, .string tx] 32)).cell? ⟨w.heap.size, 3, none⟩ = some (.string tx) := cell_new rfl rfl
  have nW : w.heap.size < (w.alloc (.cells #[.int .i64 9, .int .i64 A, .int .i64 Bv, .string tx] 32)).heap.size := by simp
  have M1 := hM.above B0
  obtain ⟨C1, hC1⟩ : ∃ C1 : Nat → Nat, C1 = fun b => if w.heap.size ≤ b then 0 else C b := ⟨_, rfl⟩
  rw [← hC1] at M1
  have n0 : C1 w.heap.size = 0 := by rw [hC1]; simp
  obtain ⟨W, hW⟩ : ∃ W, W = w.alloc (.cells #[.int .i64 9, .int .i64 A, .int .i64 Bv, .string tx] 32) := ⟨_, rfl⟩
  rw [← hW] at o0 o1 o2 o3 nW M1
  obtain ⟨N, hN⟩ : ∃ N, N = w.heap.size := ⟨_, rfl⟩
  clear hC1 hK hM B0
  obtain ⟨ga, ca, eV2, gal, hga⟩ := M1.ptr (i := 2) (n := 3) (by omega) rfl (by omega)
  obtain ⟨gb, cb, eV3, gbl, hgb⟩ := M1.ptr (i := 3) (n := 3) (by omega) rfl (by omega)
  have a0 : W.cell? ⟨Q, 2, none⟩ = some (.slice (some ⟨ga, 0, none⟩) 3 ca) := by rw [← eV2]; exact M1.cells 2 (by omega)
  have a1 : W.cell? ⟨Q, 3, none⟩ = some (.slice (some ⟨gb, 0, none⟩) 3 cb) := by rw [← eV3]; exact M1.cells 3 (by omega)
  have a2 := hga i _ (three_ptr P' hi)
  have a3 := hgb i _ (three_ptr R' hi)
  have HM1 : Hid (Gm B w0 W C1 Q S V on bk P R P' R' s l r r) := M1
  clear M1 hga hgb eV2 eV3
  go_enter Tryz.func12, Tryz.ntmps12
  go_wp2_with fail
  simp only [← hW]
  refine (HPk _).mono ?_
  rintro e w1 ⟨rfl, rfl⟩
  clear HPk hW
  rw [← hN] at o0 o1 o2 o3 nW n0 ⊢
  clear hN
  have H1 := rRequestR (r i) (P' i) (fun b => C1 b = 2 * i + 6) w1 HRO.out HTW.out (HM1.out.rl i hi)
  have HRF := fun (C2 : Nat → Nat) (W2 : World) (h : RcvAt W2 (R' i) (r i) (fun b => C2 b = 2 * i + 7)) => refRequest (r i) (R' i) (fun b => C2 b = 2 * i + 7) W2 HRO.out h
  have HSZ : Hid ((r i).request.size ≤ 1048576) := request_size HRO.out
  generalize (r i).request = X at *
  go_wp2_with fail
  refine H1.mono ?_
  rintro e w2 ⟨rfl, hb2⟩
  have M2 := HM1.out.above hb2
  have H2 := HRF _ w2 (M2.rr i hi)
  have HM2 : Hid (∃ C2, Gm B w0 w2 C2 Q S V on bk P R P' R' s l r r) := ⟨_, M2⟩
  clear H1 HRF hb2 M2 HM1 a0 a1 a2 a3 o0 o1 o2 o3
  go_wp2_with fail
  refine H2.mono ?_
  rintro e w3 ⟨rfl, hb3⟩
  obtain ⟨C2, m2⟩ := HM2.out
  have m3 := m2.above hb3
  obtain ⟨C3, hC3⟩ : ∃ C3 : Nat → Nat, C3 = fun b => if w2.heap.size ≤ b then 0 else C2 b := ⟨_, rfl⟩
  rw [← hC3] at m3
  have HM3 : Hid (Gm B w0 w3 C3 Q S V on bk P R P' R' s l r r) := m3
  have c5 : w3.cell? ⟨Q, 5, none⟩ = some (V 5) := m3.cells 5 (by omega)
  have e5 : (xs6 P R P' R' on bk 5).length = bk.length := by simp [xs6, strs]
  have OW : Hid (w3.ownsRow 0 9 1 (V 5) bk.length (strs bk)) := by
    have q := m3.wm.own 5 (by omega)
    rw [e5] at q
    exact q
  obtain ⟨i0, hi0, hz0, hz1, hz2⟩ := info_parts3 infoStr
  obtain ⟨n, hn⟩ : ∃ n, n = bk.length := ⟨_, rfl⟩
  have HNN : Hid (n = bk.length) := hn
  have hbl : n ≤ 1048576 := by rw [hn]; have := HK.out.bkl; omega
  rw [← hn] at OW
  clear H2 hb3 HM2 m2 m3 hC3 hn e5
  generalize hvk : V 5 = vk at *
  have HVK : Hid (V 5 = vk) := hvk
  generalize hXS : strs bk = XS at *
  have HXS : Hid (strs bk = XS) := hXS
  clear hXS hvk
  go_wp2_with (at_builtin; refine wpList_append_own_at _ rfl _ _ 45 rfl 0 9 i0 (.string ⟨#[]⟩) 1 16 Tryz.underlying45 hi0 hz0 hz1 hz2 rfl (by decide) vk n XS rfl (OW.out.alloc _) ⟨w3.heap.size, 0, none⟩ 1 1 [.string X] rfl rfl Cod.one_news (by intro u hu; simp at hu; subst hu; rfl) (by unfold maxLen; omega) (by omega) (Nat.zero_le _) ?_)
  intro v' w4 hown' hgrow _ hat
  have hg : w3.grownBy w4 (V 5).ownBlock := by rw [HVK.out]; exact (World.grownBy_alloc w3 _ _).trans hgrow
  rw [← HXS.out, HNN.out] at hown'
  have HF : Hid (GS6 B w0 (w4.setCell ⟨Q, 5, none⟩ v') Q P R P' R' (c + 1)) := by
    obtain ⟨C5, S5, m5⟩ := HM3.out.back (x := X) hown' hg (fun x hx => by
      rw [HVK.out]
      rcases hat with e | e
      · rw [e] at hx; exact .inl hx
      · rw [e] at hx; simp at hx; exact .inr (by omega))
    have k' := HK.out.mono (Nat.le_succ c)
    exact ⟨_, _, _, _, _, _, _, _, m5, k'.rel, k'.sok, k'.rok, k'.tw, k'.onl, by have := HK.out.bkl; simp; omega, k'.ons, fun t ht => by
      rcases List.mem_append.1 ht with q | q
      · exact k'.bks t q
      · rw [List.mem_singleton.1 q]; exact HSZ.out⟩
  have R4 := HM3.out.wm.row.of_block (hg.block Q HM3.out.wm.row.lt (fun e => by have := (HM3.out.wm.gv 5 (by omega) Q e.symm).2; rw [HM3.out.wm.sq] at this; omega))
  have c5' : w4.cell? ⟨Q, 5, none⟩ = some vk := by rw [← HVK.out]; exact R4.cell (by decide)
  have f5' := R4.frozen 5
  obtain ⟨ao2, co2, rfl⟩ := owns_form hown'
  clear hown' hgrow hat R4 c5 OW HM3 hg
  go_wp2
  go_ret
  exact ⟨by simp, HF.out⟩
set_option maxRecDepth 100000 in
set_option maxHeartbeats 4000000 in
theorem hears_hear (c : Nat) (A Bv : Int) (tx : ByteArray) (b1 : -9223372036854775808 ≤ Bv) (b2 : Bv ≤ 9223372036854775807) (htx : tx.size ≤ 1048576) (hc : c ≤ 1048576) (h : GS6 B w0 w Q P R P' R' c) :
    Calls Tryz.prog 12 #[.pointer (some ⟨Q, 0, none⟩), .agg #[.int .i64 5, .int .i64 A, .int .i64 Bv, .string tx]] w fun e w' => e = .returned (.bool true) ∧ GS6 B w0 w' Q P R P' R' (c + 1) := by
  obtain ⟨C, S, V, on, bk, s, l, r, hM, hK⟩ := h
  obtain ⟨i, hi, HPk⟩ := pickAll Bv 3 b1 b2 (by omega) (by omega)
  have HK : Hid (Gk c on bk s l r) := hK
  have HRO : Hid (ROk (r i)) := (hK.rok i hi).ok (by omega)
  have HTW : Hid (TW (r i)) := hK.tw i hi
  have HRC : Hid (ROkC (r i) c) := hK.rok i hi
  have B0 : Below w.heap.size w (w.alloc (.cells #[.int .i64 5, .int .i64 A, .int .i64 Bv, .string tx] 32)) := (Below.refl _ _).alloc (Nat.le_refl _) _
  have o0 : (w.alloc (.cells #[.int .i64 5, .int .i64 A, .int .i64 Bv, .string tx] 32)).cell? ⟨w.heap.size, 0, none⟩ = some (.int .i64 5) := cell_new rfl rfl
  have o1 : (w.alloc (.cells #[.int .i64 5, .int .i64 A, .int .i64 Bv, .string tx] 32)).cell? ⟨w.heap.size, 1, none⟩ = some (.int .i64 A) := cell_new rfl rfl
  have o2 : (w.alloc (.cells #[.int .i64 5, .int .i64 A, .int .i64 Bv, .string tx] 32)).cell? ⟨w.heap.size, 2, none⟩ = some (.int .i64 Bv) := cell_new rfl rfl
  have o3 : (w.alloc (.cells #[.int .i64 5, .int .i64 A, .int .i64 Bv, .string tx] 32)).cell? ⟨w.heap.size, 3, none⟩ = some (.string tx) := cell_new rfl rfl
  have nW : w.heap.size < (w.alloc (.cells #[.int .i64 5, .int .i64 A, .int .i64 Bv, .string tx] 32)).heap.size := by simp
  have M1 := hM.above B0
  obtain ⟨C1, hC1⟩ : ∃ C1 : Nat → Nat, C1 = fun b => if w.heap.size ≤ b then 0 else C b := ⟨_, rfl⟩
  rw [← hC1] at M1
  have n0 : C1 w.heap.size = 0 := by rw [hC1]; simp
  obtain ⟨W, hW⟩ : ∃ W, W = w.alloc (.cells #[.int .i64 5, .int .i64 A, .int .i64 Bv, .string tx] 32) := ⟨_, rfl⟩
  rw [← hW] at o0 o1 o2 o3 nW M1
  obtain ⟨N, hN⟩ : ∃ N, N = w.heap.size := ⟨_, rfl⟩
  clear hC1 hK hM B0
  obtain ⟨ga, ca, eV2, gal, hga⟩ := M1.ptr (i := 2) (n := 3) (by omega) rfl (by omega)
  obtain ⟨gb, cb, eV3, gbl, hgb⟩ := M1.ptr (i := 3) (n := 3) (by omega) rfl (by omega)
  have a0 : W.cell? ⟨Q, 2, none⟩ = some (.slice (some ⟨ga, 0, none⟩) 3 ca) := by rw [← eV2]; exact M1.cells 2 (by omega)
  have a1 : W.cell? ⟨Q, 3, none⟩ = some (.slice (some ⟨gb, 0, none⟩) 3 cb) := by rw [← eV3]; exact M1.cells 3 (by omega)
  have a2 := hga i _ (three_ptr P' hi)
  have a3 := hgb i _ (three_ptr R' hi)
  have HM1 : Hid (Gm B w0 W C1 Q S V on bk P R P' R' s l r r) := M1
  clear M1 hga hgb eV2 eV3
  go_enter Tryz.func12, Tryz.ntmps12
  go_wp2_with fail
  simp only [← hW]
  refine (HPk _).mono ?_
  rintro e w1 ⟨rfl, rfl⟩
  clear HPk hW
  rw [← hN] at o0 o1 o2 o3 nW n0 ⊢
  clear hN
  have H1 := rHearR (r i) tx (P' i) (fun b => C1 b = 2 * i + 6) w1 htx HRO.out (HM1.out.rl i hi)
  have HRF := fun (C2 : Nat → Nat) (W2 : World) (h : RcvAt W2 (R' i) (r i) (fun b => C2 b = 2 * i + 7)) => refHearR (r i) tx (R' i) (fun b => C2 b = 2 * i + 7) W2 htx h HRO.out.nok (by have := HRO.out.kn; omega) HRO.out.hl
  go_wp2_with fail
  refine H1.mono ?_
  rintro e w2 ⟨ho, t2⟩
  rcases ho with ⟨m, h3, rfl, hl2⟩ | ⟨h3, rfl, hl2⟩
  · have M2 := HM1.out.recvL hi t2 hl2
    have H2 := HRF _ w2 (M2.rr i hi)
    have HM2 : Hid (Gm B w0 w2 (paint C1 (2 * i + 6) w1.heap.size) Q S V on bk P R P' R' s l (upv r i ((r i).hear m).1) r) := M2
    have HO' : Hid (ROkC ((r i).hear m).1 (c + 1)) := HRC.out.hear h3.1
    have HT' : Hid (TW ((r i).hear m).1) := HTW.out.hear HRO.out h3.1
    have H3 : Hid (Tells tx m) := h3
    have HX : Hid (∀ m', Tells tx m' → (r i).hear m' = (r i).hear m) := fun m' h5 => by rw [show m' = m by rw [← Ms.tells_lan h5, Ms.tells_lan h3]]
    clear H1 HRF hl2 t2 M2 HM1 a0 a1 a2 a3 o0 o1 o2 o3 h3
    go_wp2_with fail
    refine H2.mono ?_
    rintro e w3 ⟨hr, t3⟩
    rcases hr with ⟨m', h5, rfl, hr3⟩ | ⟨h5, _, _⟩
    · rw [HX.out m' h5] at hr3
      have HF : Hid (GS6 B w0 w3 Q P R P' R' (c + 1)) := ⟨_, _, _, _, _, _, _, _, HM2.out.recvR hi t3 hr3, HK.out.recv HO'.out HT'.out⟩
      have HE : Hid (((r i).hear m').2 = ((r i).hear m).2) := by unfold Hid; rw [HX.out m' h5]
      rw [HX.out m' h5]
      clear H2 hr3 t3 HM2 h5 HX
      go_wp2
      go_ret
      exact ⟨by simp, HF.out⟩
    · exact absurd H3.out (h5 m)
  · have M2 := HM1.out.recvL hi t2 hl2
    rw [upv_id] at M2
    have H2 := HRF _ w2 (M2.rr i hi)
    have HM2 : Hid (Gm B w0 w2 (paint C1 (2 * i + 6) w1.heap.size) Q S V on bk P R P' R' s l r r) := M2
    have H3 : Hid (∀ m, ¬ Tells tx m) := h3
    clear H1 HRF hl2 t2 M2 HM1 a0 a1 a2 a3 o0 o1 o2 o3 h3
    go_wp2_with fail
    refine H2.mono ?_
    rintro e w3 ⟨hr, t3⟩
    rcases hr with ⟨m', h5, _, _⟩ | ⟨_, rfl, hr3⟩
    · exact absurd h5 (H3.out m')
    · have m3 := HM2.out.recvR hi t3 hr3
      rw [upv_id] at m3
      have HF : Hid (GS6 B w0 w3 Q P R P' R' (c + 1)) := ⟨_, _, _, _, _, _, _, _, m3, HK.out.mono (by omega)⟩
      clear H2 hr3 t3 HM2 m3
      go_wp2
      go_ret
      exact ⟨by simp, HF.out⟩
end
end Sn
end Go.Proofs.YtkgnmcekeeannaaGreat
