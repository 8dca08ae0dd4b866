import Derived.Test.YtkgnmcekeeannaaGreatY46
/-
  One step of the law's game: sends.
-/
namespace Go.Proofs.YtkgnmcekeeannaaGreat
open Go.RowKit Go.Deep
namespace Sn
open Bs
open Ms (Tells)
set_option linter.unusedVariables false
theorem Gk.send {j i : Nat} {on bk : List ByteArray} {s : Nat → St} {l : Nat → LS} {r : Nat → Rt} {x : St} {y : LS} (h : Gk j on bk s l r) (h1 : ∃ T, Rel x y T) (h2 : SOkC x (j + 1)) : Gk (j + 1) on bk (upv s i x) (upv l i y) r := by
  have h' := h.mono (Nat.le_succ j)
  refine ⟨fun k hk => ?_, fun k hk => ?_, h'.rok, h'.tw, h'.onl, h'.bkl, h'.ons, h'.bks⟩
  · by_cases e : k = i
    · rw [e, upv_same, upv_same]; exact h1
    · rw [upv_other _ _ e, upv_other _ _ e]; exact h'.rel k hk
  · by_cases e : k = i
    · rw [e, upv_same]; exact h2
    · rw [upv_other _ _ e]; exact h'.sok k hk
theorem nxt_size {s : St} {c : Nat} (h : SOkC s c) : (nxt s).2.size ≤ 1048576 := by
  have hz := h.base.nok.2.1
  have hd : ∀ o i b num, (Ms.txt (Ms.text (dataM s.n o i b num))).size ≤ 1048576 := fun o i b num => by
    have e : (Ms.body (dataM s.n o i b num)).length = 6 + s.n.size := by
      unfold Ms.body
      rw [if_pos (by rfl)]
      have : (dataM s.n o i b num).sym.data.toList.length = s.n.size := by
        show (symOf s.n o b num).toArray.toList.length = _
        rw [List.toList_toArray, symOf_length]
      rw [List.length_append, this]
      simp
    rw [Ms.txt_size]
    unfold Ms.text Ms.checked
    rw [List.length_append, e]
    simp only [List.length_cons, List.length_nil]
    omega
  unfold nxt
  split
  · exact hd _ _ _ _
  · split
    · exact hd _ _ _ _
    · show (Ms.txt (Ms.text (endM s.objs.length))).size ≤ 1048576
      have := (Ms.text_len (endM_ok s.objs.length h.base.len)).2
      rw [Ms.txt_size]; omega
section
variable {B : Nat} {w0 w w1 : World} {Q : Nat} {P R P' R' : Nat → Nat}
set_option maxRecDepth 100000 in
set_option maxHeartbeats 4000000 in
theorem sends6_enq (c : Nat) (A Bv : Int) (tx : ByteArray) (b1 : -9223372036854775808 ≤ Bv) (b2 : Bv ≤ 9223372036854775807) (htx : tx.size ≤ 1048576) (hc : c ≤ 1048576) (h : GS6 B w0 w Q P R P' R' c) :
    Calls Tryz.prog 11 #[.pointer (some ⟨Q, 0, none⟩), .agg #[.int .i64 1, .int .i64 A, .int .i64 Bv, .string tx]] w fun e w' => e = .returned (.bool true) ∧ GS6 B w0 w' Q P R P' R' (c + 1) := by
  obtain ⟨C, S, V, on, bk, s, l, r, hM, hK⟩ := h
  obtain ⟨i, hi, HPk⟩ := pickAll Bv 2 b1 b2 (by omega) (by omega)
  have HK : Hid (Gk c on bk s l r) := hK
  obtain ⟨T, hT⟩ := hK.rel i hi
  have HT : Hid (Rel (s i) (l i) T) := hT
  have HOK : Hid (SOkC (s i) c) := hK.sok i hi
  have HOK2 : Hid (LOk2 (l i)) := hT.ok2 (hK.sok i hi)
  have HS2 : Hid (SOk2 (s i)) := (hK.sok i hi).ok2 (by omega)
  have B0 : Below w.heap.size w (w.alloc (.cells #[.int .i64 1, .int .i64 A, .int .i64 Bv, .string tx] 32)) := (Below.refl _ _).alloc (Nat.le_refl _) _
  have o0 : (w.alloc (.cells #[.int .i64 1, .int .i64 A, .int .i64 Bv, .string tx] 32)).cell? ⟨w.heap.size, 0, none⟩ = some (.int .i64 1) := cell_new rfl rfl
  have o1 : (w.alloc (.cells #[.int .i64 1, .int .i64 A, .int .i64 Bv, .string tx] 32)).cell? ⟨w.heap.size, 1, none⟩ = some (.int .i64 A) := cell_new rfl rfl
  have o2 : (w.alloc (.cells #[.int .i64 1, .int .i64 A, .int .i64 Bv, .string tx] 32)).cell? ⟨w.heap.size, 2, none⟩ = some (.int .i64 Bv) := cell_new rfl rfl
  have o3 : (w.alloc (.cells #[.int .i64 1, .int .i64 A, .int .i64 Bv, .string tx] 32)).cell? ⟨w.heap.size, 3, none⟩ = some (.string tx) := cell_new rfl rfl
  have nW : w.heap.size < (w.alloc (.cells #[.int .i64 1, .int .i64 A, .int .i64 Bv, .string tx] 32)).heap.size := by simp
  have M1 := hM.above B0
  obtain ⟨C1, hC1⟩ : ∃ C1 : Nat → Nat, C1 = fun b => if w.heap.size ≤ b then 0 else C b := ⟨_, rfl⟩
  rw [← hC1] at M1
  have n0 : C1 w.heap.size = 0 := by rw [hC1]; simp
  obtain ⟨W, hW⟩ : ∃ W, W = w.alloc (.cells #[.int .i64 1, .int .i64 A, .int .i64 Bv, .string tx] 32) := ⟨_, rfl⟩
  rw [← hW] at o0 o1 o2 o3 nW M1
  obtain ⟨N, hN⟩ : ∃ N, N = w.heap.size := ⟨_, rfl⟩
  clear hC1 hK hM B0 hT
  obtain ⟨ga, ca, eV2, gal, hga⟩ := M1.ptr (i := 0) (n := 2) (by omega) rfl (by omega)
  obtain ⟨gb, cb, eV3, gbl, hgb⟩ := M1.ptr (i := 1) (n := 2) (by omega) rfl (by omega)
  have a0 : W.cell? ⟨Q, 0, none⟩ = some (.slice (some ⟨ga, 0, none⟩) 2 ca) := by rw [← eV2]; exact M1.cells 0 (by omega)
  have a1 : W.cell? ⟨Q, 1, none⟩ = some (.slice (some ⟨gb, 0, none⟩) 2 cb) := by rw [← eV3]; exact M1.cells 1 (by omega)
  have a2 := hga i _ (two_ptr P hi)
  have a3 := hgb i _ (two_ptr R hi)
  have HM1 : Hid (Gm B w0 W C1 Q S V on bk P R P' R' s l r r) := M1
  clear M1 hga hgb eV2 eV3
  go_enter Tryz.func11, Tryz.ntmps11
  go_wp2_with fail
  simp only [← hW]
  refine (HPk _).mono ?_
  rintro e w1 ⟨rfl, rfl⟩
  clear HPk hW
  rw [← hN] at o0 o1 o2 o3 nW n0 ⊢
  clear hN
  have HEL := rEnqueue (l i) tx (P i) (fun b => C1 b = 2 * i + 1) w1 HOK2.out.base (by unfold maxLen; omega) (HM1.out.sl i hi)
  obtain ⟨eq2, T', hT'⟩ := HT.out.enq HOK.out tx
  rw [show ((l i).enq tx).2.1 = (enq (s i) tx).2.1 from by rw [eq2], show ((l i).enq tx).2.2 = (enq (s i) tx).2.2 from by rw [eq2]] at HEL
  have HER := fun (C2 : Nat → Nat) (W2 : World) (h : SndAt W2 (R i) (s i) (fun b => C2 b = 2 * i + 2)) => refEnqueue (s i) tx (R i) (fun b => C2 b = 2 * i + 2) W2 HOK.out.base (by unfold maxLen; omega) h
  have HT' : Hid (∃ T, Rel (enq (s i) tx).1 ((l i).enq tx).1 T) := ⟨T', hT'⟩
  have HO' : Hid (SOkC (enq (s i) tx).1 (c + 1)) := (HOK.out.enq tx).mono (by omega)
  clear hT' eq2
  generalize (enq (s i) tx).1 = S1 at *
  generalize ((l i).enq tx).1 = L1 at *
  generalize (enq (s i) tx).2.1 = r1 at *
  generalize (enq (s i) tx).2.2 = r2 at *
  go_wp2_with fail
  refine HEL.mono ?_
  rintro e w2 ⟨rfl, hl2, t2⟩
  have M2 := HM1.out.sendL hi t2 hl2
  have o3' : w2.cell? ⟨N, 3, none⟩ = some (.string tx) := t2.cell nW (fun e => by rw [n0] at e; omega) o3
  have HER2 := HER _ w2 (M2.sr i hi)
  have HM2 : Hid (Gm B w0 w2 (paint C1 (2 * i + 1) w1.heap.size) Q S V on bk P R P' R' s (upv l i L1) r r) := M2
  clear HEL HER hl2 t2 M2 HM1 a0 a1 a2 a3 o0 o1 o2 o3
  go_wp2_with fail
  refine HER2.mono ?_
  rintro e w3 ⟨rfl, hr3, t3⟩
  have HF : Hid (GS6 B w0 w3 Q P R P' R' (c + 1)) := ⟨_, _, _, _, _, _, _, _, HM2.out.sendR hi t3 hr3, HK.out.send HT'.out HO'.out⟩
  clear HER2 hr3 t3 HM2 o3'
  go_wp2
  go_ret
  exact ⟨by simp, HF.out⟩
set_option maxRecDepth 100000 in
set_option maxHeartbeats 4000000 in
theorem sends6_next (c : Nat) (A Bv : Int) (tx : ByteArray) (b1 : -9223372036854775808 ≤ Bv) (b2 : Bv ≤ 9223372036854775807) (htx : tx.size ≤ 1048576) (hc : c ≤ 1048576) (h : GS6 B w0 w Q P R P' R' c) :
    Calls Tryz.prog 11 #[.pointer (some ⟨Q, 0, none⟩), .agg #[.int .i64 2, .int .i64 A, .int .i64 Bv, .string tx]] w fun e w' => e = .returned (.bool true) ∧ GS6 B w0 w' Q P R P' R' (c + 1) := by
  obtain ⟨C, S, V, on, bk, s, l, r, hM, hK⟩ := h
  obtain ⟨i, hi, HPk⟩ := pickAll Bv 2 b1 b2 (by omega) (by omega)
  have HK : Hid (Gk c on bk s l r) := hK
  obtain ⟨T, hT⟩ := hK.rel i hi
  have HT : Hid (Rel (s i) (l i) T) := hT
  have HOK : Hid (SOkC (s i) c) := hK.sok i hi
  have HOK2 : Hid (LOk2 (l i)) := hT.ok2 (hK.sok i hi)
  have HS2 : Hid (SOk2 (s i)) := (hK.sok i hi).ok2 (by omega)
  have B0 : Below w.heap.size w (w.alloc (.cells #[.int .i64 2, .int .i64 A, .int .i64 Bv, .string tx] 32)) := (Below.refl _ _).alloc (Nat.le_refl _) _
  have o0 : (w.alloc (.cells #[.int .i64 2, .int .i64 A, .int .i64 Bv, .string tx] 32)).cell? ⟨w.heap.size, 0, none⟩ = some (.int .i64 2) := cell_new rfl rfl
  have o1 : (w.alloc (.cells #[.int .i64 2, .int .i64 A, .int .i64 Bv, .string tx] 32)).cell? ⟨w.heap.size, 1, none⟩ = some (.int .i64 A) := cell_new rfl rfl
  have o2 : (w.alloc (.cells #[.int .i64 2, .int .i64 A, .int .i64 Bv, .string tx] 32)).cell? ⟨w.heap.size, 2, none⟩ = some (.int .i64 Bv) := cell_new rfl rfl
  have o3 : (w.alloc (.cells #[.int .i64 2, .int .i64 A, .int .i64 Bv, .string tx] 32)).cell? ⟨w.heap.size, 3, none⟩ = some (.string tx) := cell_new rfl rfl
  have nW : w.heap.size < (w.alloc (.cells #[.int .i64 2, .int .i64 A, .int .i64 Bv, .string tx] 32)).heap.size := by simp
  have M1 := hM.above B0
  obtain ⟨C1, hC1⟩ : ∃ C1 : Nat → Nat, C1 = fun b => if w.heap.size ≤ b then 0 else C b := ⟨_, rfl⟩
  rw [← hC1] at M1
  have n0 : C1 w.heap.size = 0 := by rw [hC1]; simp
  obtain ⟨W, hW⟩ : ∃ W, W = w.alloc (.cells #[.int .i64 2, .int .i64 A, .int .i64 Bv, .string tx] 32) := ⟨_, rfl⟩
  rw [← hW] at o0 o1 o2 o3 nW M1
  obtain ⟨N, hN⟩ : ∃ N, N = w.heap.size := ⟨_, rfl⟩
  clear hC1 hK hM B0 hT
  obtain ⟨ga, ca, eV2, gal, hga⟩ := M1.ptr (i := 0) (n := 2) (by omega) rfl (by omega)
  obtain ⟨gb, cb, eV3, gbl, hgb⟩ := M1.ptr (i := 1) (n := 2) (by omega) rfl (by omega)
  have a0 : W.cell? ⟨Q, 0, none⟩ = some (.slice (some ⟨ga, 0, none⟩) 2 ca) := by rw [← eV2]; exact M1.cells 0 (by omega)
  have a1 : W.cell? ⟨Q, 1, none⟩ = some (.slice (some ⟨gb, 0, none⟩) 2 cb) := by rw [← eV3]; exact M1.cells 1 (by omega)
  have a2 := hga i _ (two_ptr P hi)
  have a3 := hgb i _ (two_ptr R hi)
  have HM1 : Hid (Gm B w0 W C1 Q S V on bk P R P' R' s l r r) := M1
  clear M1 hga hgb eV2 eV3
  go_enter Tryz.func11, Tryz.ntmps11
  go_wp2_with fail
  simp only [← hW]
  refine (HPk _).mono ?_
  rintro e w1 ⟨rfl, rfl⟩
  clear HPk hW
  rw [← hN] at o0 o1 o2 o3 nW n0 ⊢
  clear hN
  obtain ⟨ao, co, D, hLI⟩ := HM1.out.sl i hi
  have HEL := rNext (l i) (P i) (fun b => C1 b = 2 * i + 1) ao co D w1 HOK2.out hLI
  have HER := fun (C2 : Nat → Nat) (W2 : World) (h : SndAt W2 (R i) (s i) (fun b => C2 b = 2 * i + 2)) => refNext (s i) (R i) (fun b => C2 b = 2 * i + 2) W2 HS2.out h
  have HSZ : Hid ((nxt (s i)).2.size ≤ 1048576) := nxt_size HOK.out
  clear hLI
  go_wp2_with fail
  refine HEL.mono ?_
  rintro e w2 ⟨l1, ho, hl2, t2⟩
  obtain ⟨rfl, T', hT'⟩ := HT.out.nxt HOK.out ho
  have HT' : Hid (∃ T, Rel (nxt (s i)).1 l1 T) := ⟨T', hT'⟩
  have HO' : Hid (SOkC (nxt (s i)).1 (c + 1)) := HOK.out.nxt
  have M2 := HM1.out.sendL hi t2 (LndAt.mono ⟨ao, co, D, hl2⟩ (fun b hb _ => .inl hb))
  have HER2 := HER _ w2 (M2.sr i hi)
  have HM2 : Hid (Gm B w0 w2 (paint C1 (2 * i + 1) w1.heap.size) Q S V on bk P R P' R' s (upv l i l1) r r) := M2
  clear HEL HER hl2 t2 M2 HM1 a0 a1 a2 a3 o0 o1 o2 o3 ho hT'
  generalize (nxt (s i)).1 = S1 at *
  generalize (nxt (s i)).2 = X at *
  go_wp2_with fail
  refine HER2.mono ?_
  rintro e w3 ⟨rfl, hr3, t3⟩
  have m3 := HM2.out.sendR hi t3 hr3
  obtain ⟨C3, hC3⟩ : ∃ C3, C3 = paint (paint C1 (2 * i + 1) w1.heap.size) (2 * i + 2) w2.heap.size := ⟨_, rfl⟩
  rw [← hC3] at m3
  have HM3 : Hid (Gm B w0 w3 C3 Q S V on bk P R P' R' (upv s i S1) (upv l i l1) r r) := m3
  have c4 : w3.cell? ⟨Q, 4, none⟩ = some (V 4) := m3.cells 4 (by omega)
  have e4 : (xs6 P R P' R' on bk 4).length = on.length := by simp [xs6, strs]
  have OW : Hid (w3.ownsRow 0 9 1 (V 4) on.length (strs on)) := by
    have q := m3.wm.own 4 (by omega)
    rw [e4] at q
    exact q
  obtain ⟨i0, hi0, hz0, hz1, hz2⟩ := info_parts3 infoStr
  obtain ⟨n, hn⟩ : ∃ n, n = on.length := ⟨_, rfl⟩
  have HNN : Hid (n = on.length) := hn
  have hbl : n ≤ 1048576 := by rw [hn]; have := HK.out.onl; omega
  rw [← hn] at OW
  clear HER2 hr3 t3 HM2 m3 hC3 hn e4
  generalize hvk : V 4 = vk at *
  have HVK : Hid (V 4 = vk) := hvk
  generalize hXS : strs on = XS at *
  have HXS : Hid (strs on = XS) := hXS
  clear hXS hvk
  go_wp2_with (at_builtin; refine wpList_append_own_at _ rfl _ _ 45 rfl 0 9 i0 (.string ⟨#[]⟩) 1 16 Tryz.underlying45 hi0 hz0 hz1 hz2 rfl (by decide) vk n XS rfl (OW.out.alloc _) ⟨w3.heap.size, 0, none⟩ 1 1 [.string X] rfl rfl Cod.one_news (by intro u hu; simp at hu; subst hu; rfl) (by unfold maxLen; omega) (by omega) (Nat.zero_le _) ?_)
  intro v' w4 hown' hgrow _ hat
  have hg : w3.grownBy w4 (V 4).ownBlock := by rw [HVK.out]; exact (World.grownBy_alloc w3 _ _).trans hgrow
  rw [← HXS.out, HNN.out] at hown'
  have HF : Hid (GS6 B w0 (w4.setCell ⟨Q, 4, none⟩ v') Q P R P' R' (c + 1)) := by
    obtain ⟨C5, S5, m5⟩ := HM3.out.onto (x := X) hown' hg (fun x hx => by
      rw [HVK.out]
      rcases hat with e | e
      · rw [e] at hx; exact .inl hx
      · rw [e] at hx; simp at hx; exact .inr (by omega))
    have k' := HK.out.send (i := i) HT'.out HO'.out
    exact ⟨_, _, _, _, _, _, _, _, m5, k'.rel, k'.sok, k'.rok, k'.tw, by have := HK.out.onl; simp; omega, k'.bkl, fun t ht => by
      rcases List.mem_append.1 ht with q | q
      · exact k'.ons t q
      · rw [List.mem_singleton.1 q]; exact HSZ.out, k'.bks⟩
  have R4 := HM3.out.wm.row.of_block (hg.block Q HM3.out.wm.row.lt (fun e => by have := (HM3.out.wm.gv 4 (by omega) Q e.symm).2; rw [HM3.out.wm.sq] at this; omega))
  have c5' : w4.cell? ⟨Q, 4, none⟩ = some vk := by rw [← HVK.out]; exact R4.cell (by decide)
  have f5' := R4.frozen 4
  obtain ⟨ao2, co2, rfl⟩ := owns_form hown'
  clear hown' hgrow hat R4 c4 OW HM3 hg
  go_wp2
  go_ret
  exact ⟨by simp, HF.out⟩
set_option maxRecDepth 100000 in
set_option maxHeartbeats 4000000 in
theorem sends6_hear (c : Nat) (A Bv : Int) (tx : ByteArray) (b1 : -9223372036854775808 ≤ Bv) (b2 : Bv ≤ 9223372036854775807) (htx : tx.size ≤ 1048576) (hc : c ≤ 1048576) (h : GS6 B w0 w Q P R P' R' c) :
    Calls Tryz.prog 11 #[.pointer (some ⟨Q, 0, none⟩), .agg #[.int .i64 3, .int .i64 A, .int .i64 Bv, .string tx]] w fun e w' => e = .returned (.bool true) ∧ GS6 B w0 w' Q P R P' R' (c + 1) := by
  obtain ⟨C, S, V, on, bk, s, l, r, hM, hK⟩ := h
  obtain ⟨i, hi, HPk⟩ := pickAll Bv 2 b1 b2 (by omega) (by omega)
  have HK : Hid (Gk c on bk s l r) := hK
  obtain ⟨T, hT⟩ := hK.rel i hi
  have HT : Hid (Rel (s i) (l i) T) := hT
  have HOK : Hid (SOkC (s i) c) := hK.sok i hi
  have HOK2 : Hid (LOk2 (l i)) := hT.ok2 (hK.sok i hi)
  have HS2 : Hid (SOk2 (s i)) := (hK.sok i hi).ok2 (by omega)
  have B0 : Below w.heap.size w (w.alloc (.cells #[.int .i64 3, .int .i64 A, .int .i64 Bv, .string tx] 32)) := (Below.refl _ _).alloc (Nat.le_refl _) _
  have o0 : (w.alloc (.cells #[.int .i64 3, .int .i64 A, .int .i64 Bv, .string tx] 32)).cell? ⟨w.heap.size, 0, none⟩ = some (.int .i64 3) := cell_new rfl rfl
  have o1 : (w.alloc (.cells #[.int .i64 3, .int .i64 A, .int .i64 Bv, .string tx] 32)).cell? ⟨w.heap.size, 1, none⟩ = some (.int .i64 A) := cell_new rfl rfl
  have o2 : (w.alloc (.cells #[.int .i64 3, .int .i64 A, .int .i64 Bv, .string tx] 32)).cell? ⟨w.heap.size, 2, none⟩ = some (.int .i64 Bv) := cell_new rfl rfl
  have o3 : (w.alloc (.cells #[.int .i64 3, .int .i64 A, .int .i64 Bv, .string tx] 32)).cell? ⟨w.heap.size, 3, none⟩ = some (.string tx) := cell_new rfl rfl
  have nW : w.heap.size < (w.alloc (.cells #[.int .i64 3, .int .i64 A, .int .i64 Bv, .string tx] 32)).heap.size := by simp
  have M1 := hM.above B0
  obtain ⟨C1, hC1⟩ : ∃ C1 : Nat → Nat, C1 = fun b => if w.heap.size ≤ b then 0 else C b := ⟨_, rfl⟩
  rw [← hC1] at M1
  have n0 : C1 w.heap.size = 0 := by rw [hC1]; simp
  obtain ⟨W, hW⟩ : ∃ W, W = w.alloc (.cells #[.int .i64 3, .int .i64 A, .int .i64 Bv, .string tx] 32) := ⟨_, rfl⟩
  rw [← hW] at o0 o1 o2 o3 nW M1
  obtain ⟨N, hN⟩ : ∃ N, N = w.heap.size := ⟨_, rfl⟩
  clear hC1 hK hM B0 hT
  obtain ⟨ga, ca, eV2, gal, hga⟩ := M1.ptr (i := 0) (n := 2) (by omega) rfl (by omega)
  obtain ⟨gb, cb, eV3, gbl, hgb⟩ := M1.ptr (i := 1) (n := 2) (by omega) rfl (by omega)
  have a0 : W.cell? ⟨Q, 0, none⟩ = some (.slice (some ⟨ga, 0, none⟩) 2 ca) := by rw [← eV2]; exact M1.cells 0 (by omega)
  have a1 : W.cell? ⟨Q, 1, none⟩ = some (.slice (some ⟨gb, 0, none⟩) 2 cb) := by rw [← eV3]; exact M1.cells 1 (by omega)
  have a2 := hga i _ (two_ptr P hi)
  have a3 := hgb i _ (two_ptr R hi)
  have HM1 : Hid (Gm B w0 W C1 Q S V on bk P R P' R' s l r r) := M1
  clear M1 hga hgb eV2 eV3
  go_enter Tryz.func11, Tryz.ntmps11
  go_wp2_with fail
  simp only [← hW]
  refine (HPk _).mono ?_
  rintro e w1 ⟨rfl, rfl⟩
  clear HPk hW
  rw [← hN] at o0 o1 o2 o3 nW n0 ⊢
  clear hN
  obtain ⟨ao, co, D, hLI⟩ := HM1.out.sl i hi
  have HEL := rHear (l i) tx (P i) (fun b => C1 b = 2 * i + 1) ao co D w1 HOK2.out.base HOK2.out.ow8 htx hLI
  have HER := fun (C2 : Nat → Nat) (W2 : World) (h : SndAt W2 (R i) (s i) (fun b => C2 b = 2 * i + 2)) => refHear (s i) tx (R i) (fun b => C2 b = 2 * i + 2) W2 HS2.out htx h
  clear hLI
  go_wp2_with fail
  refine HEL.mono ?_
  rintro e w2 ⟨l1, ho, hl2, t2⟩
  have M2 := HM1.out.sendL hi t2 (LndAt.mono ⟨ao, co, D, hl2⟩ (fun b hb _ => .inl hb))
  have HER2 := HER _ w2 (M2.sr i hi)
  have HM2 : Hid (Gm B w0 w2 (paint C1 (2 * i + 1) w1.heap.size) Q S V on bk P R P' R' s (upv l i l1) r r) := M2
  clear HEL HER hl2 t2 M2 HM1 a0 a1 a2 a3 o0 o1 o2 o3
  rcases ho with ⟨m, h3, h4, rfl, rfl⟩ | ⟨h3, rfl, rfl⟩
  · have hits : ∀ t ∈ m.items, Ms.itOK t := by
      rcases h3.1 with h | h | h
      · rw [h4] at h; exact absurd h.1 (by decide)
      · exact h.2.2.2.2.2
      · rw [h4] at h; exact absurd h.1 (by decide)
    have HT' : Hid (∃ T, Rel ⟨(s i).n, (s i).objs, dues (s i) m.items, (s i).sent⟩ ((l i).anss m.items) T) := ⟨T, HT.out.dues HOK.out m.items hits⟩
    have HO' : Hid (SOkC ⟨(s i).n, (s i).objs, dues (s i) m.items, (s i).sent⟩ (c + 1)) := (HOK.out.dues m.items).mono (by omega)
    have H3 : Hid (Ms.Tells tx m) := h3
    have H4 : Hid (m.kind = 2) := h4
    clear hits h3 h4
    go_wp2_with fail
    refine HER2.mono ?_
    rintro e w3 ⟨hr, t3⟩
    rcases hr with ⟨m', h5, h6, rfl, hr3⟩ | ⟨h5, _, _⟩
    · have em : m' = m := by rw [← Ms.tells_lan h5, Ms.tells_lan H3.out]
      rw [em] at hr3
      have HF : Hid (GS6 B w0 w3 Q P R P' R' (c + 1)) := ⟨_, _, _, _, _, _, _, _, HM2.out.sendR hi t3 hr3, HK.out.send HT'.out HO'.out⟩
      clear HER2 hr3 t3 HM2 h5 h6 em
      go_wp2
      go_ret
      exact ⟨by simp, HF.out⟩
    · exact absurd H4.out (h5 m H3.out)
  · have H3 : Hid (∀ m, Ms.Tells tx m → m.kind ≠ 2) := h3
    clear h3
    go_wp2_with fail
    refine HER2.mono ?_
    rintro e w3 ⟨hr, t3⟩
    rcases hr with ⟨m', h5, h6, _, _⟩ | ⟨_, rfl, hr3⟩
    · exact absurd h6 (H3.out m' h5)
    · have m3 := HM2.out.sendR hi t3 hr3
      have HF : Hid (GS6 B w0 w3 Q P R P' R' (c + 1)) := ⟨_, _, _, _, _, _, _, _, m3, HK.out.send ⟨T, HT.out⟩ (HOK.out.mono (by omega))⟩
      clear HER2 hr3 t3 HM2 m3
      go_wp2
      go_ret
      exact ⟨by simp, HF.out⟩
set_option maxRecDepth 100000 in
set_option maxHeartbeats 4000000 in
theorem sends6_answer (c : Nat) (A Bv : Int) (tx : ByteArray) (b1 : -9223372036854775808 ≤ Bv) (b2 : Bv ≤ 9223372036854775807) (htx : tx.size ≤ 1048576) (hc : c ≤ 1048576) (g1 : -9223372036854775808 ≤ A) (g2 : A ≤ 9223372036854775807) (h : GS6 B w0 w Q P R P' R' c) :
    Calls Tryz.prog 11 #[.pointer (some ⟨Q, 0, none⟩), .agg #[.int .i64 4, .int .i64 A, .int .i64 Bv, .string tx]] w fun e w' => e = .returned (.bool true) ∧ GS6 B w0 w' Q P R P' R' (c + 1) := by
  obtain ⟨C, S, V, on, bk, s, l, r, hM, hK⟩ := h
  obtain ⟨i, hi, HPk⟩ := pickAll Bv 2 b1 b2 (by omega) (by omega)
  have HK : Hid (Gk c on bk s l r) := hK
  obtain ⟨T, hT⟩ := hK.rel i hi
  have HT : Hid (Rel (s i) (l i) T) := hT
  have HOK : Hid (SOkC (s i) c) := hK.sok i hi
  have HOK2 : Hid (LOk2 (l i)) := hT.ok2 (hK.sok i hi)
  have HS2 : Hid (SOk2 (s i)) := (hK.sok i hi).ok2 (by omega)
  have B0 : Below w.heap.size w (w.alloc (.cells #[.int .i64 4, .int .i64 A, .int .i64 Bv, .string tx] 32)) := (Below.refl _ _).alloc (Nat.le_refl _) _
  have o0 : (w.alloc (.cells #[.int .i64 4, .int .i64 A, .int .i64 Bv, .string tx] 32)).cell? ⟨w.heap.size, 0, none⟩ = some (.int .i64 4) := cell_new rfl rfl
  have o1 : (w.alloc (.cells #[.int .i64 4, .int .i64 A, .int .i64 Bv, .string tx] 32)).cell? ⟨w.heap.size, 1, none⟩ = some (.int .i64 A) := cell_new rfl rfl
  have o2 : (w.alloc (.cells #[.int .i64 4, .int .i64 A, .int .i64 Bv, .string tx] 32)).cell? ⟨w.heap.size, 2, none⟩ = some (.int .i64 Bv) := cell_new rfl rfl
  have o3 : (w.alloc (.cells #[.int .i64 4, .int .i64 A, .int .i64 Bv, .string tx] 32)).cell? ⟨w.heap.size, 3, none⟩ = some (.string tx) := cell_new rfl rfl
  have nW : w.heap.size < (w.alloc (.cells #[.int .i64 4, .int .i64 A, .int .i64 Bv, .string tx] 32)).heap.size := by simp
  have M1 := hM.above B0
  obtain ⟨C1, hC1⟩ : ∃ C1 : Nat → Nat, C1 = fun b => if w.heap.size ≤ b then 0 else C b := ⟨_, rfl⟩
  rw [← hC1] at M1
  have n0 : C1 w.heap.size = 0 := by rw [hC1]; simp
  obtain ⟨W, hW⟩ : ∃ W, W = w.alloc (.cells #[.int .i64 4, .int .i64 A, .int .i64 Bv, .string tx] 32) := ⟨_, rfl⟩
  rw [← hW] at o0 o1 o2 o3 nW M1
  obtain ⟨N, hN⟩ : ∃ N, N = w.heap.size := ⟨_, rfl⟩
  clear hC1 hK hM B0 hT
  obtain ⟨ga, ca, eV2, gal, hga⟩ := M1.ptr (i := 0) (n := 2) (by omega) rfl (by omega)
  obtain ⟨gb, cb, eV3, gbl, hgb⟩ := M1.ptr (i := 1) (n := 2) (by omega) rfl (by omega)
  have a0 : W.cell? ⟨Q, 0, none⟩ = some (.slice (some ⟨ga, 0, none⟩) 2 ca) := by rw [← eV2]; exact M1.cells 0 (by omega)
  have a1 : W.cell? ⟨Q, 1, none⟩ = some (.slice (some ⟨gb, 0, none⟩) 2 cb) := by rw [← eV3]; exact M1.cells 1 (by omega)
  have a2 := hga i _ (two_ptr P hi)
  have a3 := hgb i _ (two_ptr R hi)
  have HM1 : Hid (Gm B w0 W C1 Q S V on bk P R P' R' s l r r) := M1
  clear M1 hga hgb eV2 eV3
  go_enter Tryz.func11, Tryz.ntmps11
  go_wp2_with fail
  simp only [← hW]
  refine (HPk _).mono ?_
  rintro e w1 ⟨rfl, rfl⟩
  clear HPk hW
  rw [← hN] at o0 o1 o2 o3 nW n0 ⊢
  clear hN
  have O4 := HM1.out.wm.own 5 (by omega)
  have e4 : (xs6 P R P' R' on bk 5).length = bk.length := by simp [xs6, strs]
  rw [e4] at O4
  obtain ⟨a4, c4, hV4⟩ := owns_form O4
  have d4 : w1.cell? ⟨Q, 5, none⟩ = some (.slice a4 bk.length c4) := by rw [← hV4]; exact HM1.out.cells 5 (by omega)
  have hol := HK.out.bkl
  by_cases h0 : bk.length = 0
  · have HF : Hid (GS6 B w0 w1 Q P R P' R' (c + 1)) := ⟨_, _, _, _, _, _, _, _, HM1.out, HK.out.mono (by omega)⟩
    rw [h0] at d4
    clear HM1 O4 hV4 h0 e4
    go_wp2
    go_ret
    exact ⟨rfl, HF.out⟩
  · obtain ⟨k, hk, HPA⟩ := pickAll A bk.length g1 g2 (by omega) (by omega)
    obtain ⟨go, cap, eV, gol, hgo⟩ := HM1.out.ptr (i := 5) (n := bk.length) (by omega) e4.symm (by omega)
    have ea : a4 = some ⟨go, 0, none⟩ := by rw [hV4] at eV; injection eV
    subst ea
    have d5 : w1.cell? ⟨go, k, none⟩ = some (.string bk[k]) := hgo k _ (by simp [xs6, strs, hk])
    have HTXx : bk[k].size ≤ 1048576 := HK.out.bks _ (List.getElem_mem hk)
    obtain ⟨TX, hTX⟩ : ∃ TX, TX = bk[k] := ⟨_, rfl⟩
    rw [← hTX] at d5 HTXx
    have t0 : ((bk.length : Int) == 0) = false := by simpa using h0
    obtain ⟨n, hn⟩ : ∃ n, n = bk.length := ⟨_, rfl⟩
    rw [← hn] at d4 hk hol t0 HPA
    clear O4 hV4 eV e4 hgo h0 hTX hn
    have HM2 : Hid (Gm B w0 w1.drew (fun b => if w1.heap.size ≤ b then 0 else C1 b) Q S V on bk P R P' R' s l r r) := HM1.out.above (Below.refl _ _).drew
    have HPC : Calls Tryz.prog 18 #[.int .i64 A, .int .i64 n] w1.drew fun e w' => e = .returned (.int .i64 k) ∧ w' = w1.drew ∧ w'.cell? ⟨Q, 5, none⟩ = some (.slice (some ⟨go, 0, none⟩) n c4) ∧ w'.cell? ⟨N, 1, none⟩ = some (.int .i64 A) ∧ w'.cell? ⟨go, k, none⟩ = some (.string TX) := by
      refine (HPA w1.drew).mono ?_
      rintro e w' ⟨rfl, rfl⟩
      exact ⟨rfl, rfl, d4, o1, d5⟩
    go_wp2_with fail
    go_region_held3 (fun w' => w' = w1.drew ∧ w'.cell? ⟨Q, 5, none⟩ = some (.slice (some ⟨go, 0, none⟩) n c4) ∧ w'.cell? ⟨N, 1, none⟩ = some (.int .i64 A) ∧ w'.cell? ⟨go, k, none⟩ = some (.string TX)) (go_keep)
      (first | (go_at_call 18; refine HPC.mono ?_; rintro e w5 ⟨rfl, rfl, k0, k1, k2⟩))
    clear HPA HPC HM1 k0 k1 k2 d4 d5
    obtain ⟨C9, hC9⟩ : ∃ C9 : Nat → Nat, C9 = fun b => if w1.heap.size ≤ b then 0 else C1 b := ⟨_, rfl⟩
    rw [← hC9] at HM2
    generalize w1.drew = w9 at *
    have HM9 : Hid (Gm B w0 w9 C9 Q S V on bk P R P' R' s l r r) := HM2
    clear hC9 HM2
    obtain ⟨ao, co, D, hLI⟩ := HM9.out.sl i hi
    have HEL := rHear (l i) TX (P i) (fun b => C9 b = 2 * i + 1) ao co D w9 HOK2.out.base HOK2.out.ow8 HTXx hLI
    have HER := fun (C2 : Nat → Nat) (W2 : World) (h : SndAt W2 (R i) (s i) (fun b => C2 b = 2 * i + 2)) => refHear (s i) TX (R i) (fun b => C2 b = 2 * i + 2) W2 HS2.out HTXx h
    clear hLI
    go_wp2_with fail
    refine HEL.mono ?_
    rintro e w2 ⟨l1, ho, hl2, t2⟩
    have M2 := HM9.out.sendL hi t2 (LndAt.mono ⟨ao, co, D, hl2⟩ (fun b hb _ => .inl hb))
    have HER2 := HER _ w2 (M2.sr i hi)
    have HM2 : Hid (Gm B w0 w2 (paint C9 (2 * i + 1) w9.heap.size) Q S V on bk P R P' R' s (upv l i l1) r r) := M2
    clear HEL HER hl2 t2 M2 HM9 a0 a1 a2 a3 o0 o1 o2 o3
    rcases ho with ⟨m, h3, h4, rfl, rfl⟩ | ⟨h3, rfl, rfl⟩
    · have hits : ∀ t ∈ m.items, Ms.itOK t := by
        rcases h3.1 with h | h | h
        · rw [h4] at h; exact absurd h.1 (by decide)
        · exact h.2.2.2.2.2
        · rw [h4] at h; exact absurd h.1 (by decide)
      have HT' : Hid (∃ T, Rel ⟨(s i).n, (s i).objs, dues (s i) m.items, (s i).sent⟩ ((l i).anss m.items) T) := ⟨T, HT.out.dues HOK.out m.items hits⟩
      have HO' : Hid (SOkC ⟨(s i).n, (s i).objs, dues (s i) m.items, (s i).sent⟩ (c + 1)) := (HOK.out.dues m.items).mono (by omega)
      have H3 : Hid (Ms.Tells TX m) := h3
      have H4 : Hid (m.kind = 2) := h4
      clear hits h3 h4
      go_wp2_with fail
      refine HER2.mono ?_
      rintro e w3 ⟨hr, t3⟩
      rcases hr with ⟨m', h5, h6, rfl, hr3⟩ | ⟨h5, _, _⟩
      · have em : m' = m := by rw [← Ms.tells_lan h5, Ms.tells_lan H3.out]
        rw [em] at hr3
        have HF : Hid (GS6 B w0 w3 Q P R P' R' (c + 1)) := ⟨_, _, _, _, _, _, _, _, HM2.out.sendR hi t3 hr3, HK.out.send HT'.out HO'.out⟩
        clear HER2 hr3 t3 HM2 h5 h6 em
        go_wp2
        go_ret
        exact ⟨by simp, HF.out⟩
      · exact absurd H4.out (h5 m H3.out)
    · have H3 : Hid (∀ m, Ms.Tells TX m → m.kind ≠ 2) := h3
      clear h3
      go_wp2_with fail
      refine HER2.mono ?_
      rintro e w3 ⟨hr, t3⟩
      rcases hr with ⟨m', h5, h6, _, _⟩ | ⟨_, rfl, hr3⟩
      · exact absurd h6 (H3.out m' h5)
      · have m3 := HM2.out.sendR hi t3 hr3
        have HF : Hid (GS6 B w0 w3 Q P R P' R' (c + 1)) := ⟨_, _, _, _, _, _, _, _, m3, HK.out.send ⟨T, HT.out⟩ (HOK.out.mono (by omega))⟩
        clear HER2 hr3 t3 HM2 m3
        go_wp2
        go_ret
        exact ⟨by simp, HF.out⟩
end
end Sn
end Go.Proofs.YtkgnmcekeeannaaGreat
