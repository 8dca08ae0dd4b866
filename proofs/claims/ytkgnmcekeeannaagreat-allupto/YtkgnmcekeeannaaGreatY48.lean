import Derived.Test.YtkgnmcekeeannaaGreatY01
import Derived.Test.YtkgnmcekeeannaaGreatY02
import Derived.Lib.ConvBytes
import Derived.Test.YtkgnmcekeeannaaGreatY47
/-
  What is spoilt: reservekeep.turned.
-/
namespace Go.Proofs.YtkgnmcekeeannaaGreat
open Go.RowKit Go.Deep
namespace Ms
open Bs
set_option linter.unusedVariables false

/-- a row of bytes, none frozen -/
structure BRow (w : World) (g : Nat) (l : List UInt8) : Prop where
  cell : ∀ j, j < l.length → w.cell? ⟨g, j, none⟩ = some (bv (l.getD j 0))
  frozen : ∀ j, j < l.length → w.frozen? ⟨g, j, none⟩ = false
theorem BRow.set {w : World} {g : Nat} {l : List UInt8} (h : BRow w g l) (k : Nat) (x : UInt8) : BRow (w.setCell ⟨g, k, none⟩ (bv x)) g (l.set k x) := by
  refine ⟨fun j hj => ?_, fun j hj => ?_⟩
  · rw [List.length_set] at hj
    by_cases e : k = j
    · subst e
      rw [World.cell?_setCell_same _ _ _ (h.cell k hj)]
      simp [List.getD_eq_getElem?_getD, hj]
    · rw [World.cell?_setCell_other _ _ _ _ (fun e' => e (by simpa using congrArg Addr.off e')), h.cell j hj]
      simp [List.getD_eq_getElem?_getD, List.getElem?_set_ne e]
  · rw [List.length_set] at hj
    rw [World.frozen?_setCell]
    exact h.frozen j hj
theorem BRow.drawn {w : World} {g : Nat} {l : List UInt8} (h : BRow w g l) : BRow w.drew g l := ⟨h.cell, h.frozen⟩
theorem BRow.conv {w : World} {g cap : Nat} {l : List UInt8} (h : BRow w g l) : (convert 76 9 (.slice (some ⟨g, 0, none⟩) l.length cap)).run Tryz.prog w = .ok (.string ⟨l.toArray⟩) w := by
  refine run_convert_bytes_back w 76 9 5 ⟨g, 0, none⟩ cap l Tryz.underlying76 Tryz.underlying5 Tryz.underlying9 (fun j hj => ?_)
  have e : (⟨g, 0, none⟩ : Addr).add j = ⟨g, j, none⟩ := by
    unfold Addr.add
    by_cases e : j = 0
    · subst e; rfl
    · simp [e]
  rw [e, h.cell j hj, List.getD_eq_getElem?_getD, List.getElem?_eq_getElem hj]
  rfl
theorem bytes_row (w : World) (s : ByteArray) : BRow (Lib.bytesWorld w 5 s) w.heap.size s.data.toList := by
  refine ⟨fun j hj => ?_, fun j hj => ?_⟩
  · exact Lib.bytesWorld_cell w 5 s j (by simpa using hj)
  · have hn := Lib.bytesWorld_at_new w 5 s
    have hsz : s.size ≤ (Lib.bytesCells w 5 s).size := by simp [Lib.bytesCells]
    have hj' : j < s.size := by simpa using hj
    unfold World.frozen?
    rw [hn]
    simp
    omega
theorem bytes_below (w : World) (s : ByteArray) : Below w.heap.size w (Lib.bytesWorld w 5 s) :=
  ⟨rfl, rfl, rfl, by rw [Lib.bytesWorld_size]; omega, fun k hk => Lib.bytesWorld_at_old w 5 s k hk⟩
theorem xor_u8 (a : UInt8) (r : Nat) (hr : r < 256) : bits .xor .u8 (a.toNat : Int) (r : Int) = (((a ^^^ UInt8.ofNat r).toNat : Nat) : Int) := by
  rw [u8_xor_nat a.toNat r (UInt8.toNat_lt a) hr, UInt8.toNat_xor, UInt8.toNat_ofNat_of_lt' (show r < 256 from hr)]
theorem ne_xor (x a : UInt8) (ha : a ≠ 0) : x ≠ x ^^^ a := fun e => ha (by
  have h : x ^^^ x = x ^^^ (x ^^^ a) := congrArg (x ^^^ ·) e
  rw [← UInt8.xor_assoc] at h
  simpa using h.symm)
theorem spoilt_last (l : List UInt8) (k : Nat) (a : UInt8) (hk : k + 1 = l.length) (ha : a ≠ 0) (h : Crc.goes 65535 l = 0) : Crc.goes 65535 (l.set k (l.getD k 0 ^^^ a)) ≠ 0 := by
  have hk' : k < l.length := by omega
  have e : l = l.take k ++ [l[k]] := by
    have := List.take_append_drop k l
    rw [List.drop_eq_getElem_cons hk', List.drop_of_length_le (by omega)] at this
    exact this.symm
  have hg : l.getD k 0 = l[k] := by rw [List.getD_eq_getElem?_getD, List.getElem?_eq_getElem hk']; rfl
  rw [hg]
  generalize l[k] = x at *
  generalize hA : l.take k = A at *
  have hAl : A.length = k := by rw [← hA]; simp; omega
  subst e
  rw [← hAl]
  have es : (A ++ [x]).set A.length (x ^^^ a) = A ++ [x ^^^ a] := by simp
  rw [es]
  exact spoilt_one A x _ (ne_xor x a ha) h
theorem spoilt_in (l : List UInt8) (k : Nat) (a b : UInt8) (hk : k + 1 < l.length) (ha : a ≠ 0) (h : Crc.goes 65535 l = 0) : Crc.goes 65535 ((l.set k (l.getD k 0 ^^^ a)).set (k + 1) (l.getD (k + 1) 0 ^^^ b)) ≠ 0 := by
  have hk' : k < l.length := by omega
  have e : l = l.take k ++ l[k] :: l[k + 1] :: l.drop (k + 2) := by
    have := List.take_append_drop k l
    rw [List.drop_eq_getElem_cons hk', List.drop_eq_getElem_cons hk] at this
    exact this.symm
  have hg : l.getD k 0 = l[k] := by rw [List.getD_eq_getElem?_getD, List.getElem?_eq_getElem hk']; rfl
  have hg2 : l.getD (k + 1) 0 = l[k + 1] := by rw [List.getD_eq_getElem?_getD, List.getElem?_eq_getElem hk]; rfl
  rw [hg, hg2]
  generalize l[k] = x at *
  generalize l[k + 1] = y at *
  generalize hA : l.take k = A at *
  generalize l.drop (k + 2) = B at *
  have hAl : A.length = k := by rw [← hA]; simp; omega
  subst e
  rw [← hAl]
  have es : ((A ++ x :: y :: B).set A.length (x ^^^ a)).set (A.length + 1) (y ^^^ b) = A ++ (x ^^^ a) :: (y ^^^ b) :: B := by simp
  rw [es]
  exact spoilt_two A B x y _ _ (ne_xor x a ha) h

end Ms
end Go.Proofs.YtkgnmcekeeannaaGreat
/-
  A message on its way is spoilt.
-/
namespace Go.Proofs.YtkgnmcekeeannaaGreat
open Go.RowKit Go.Deep
namespace Sn
open Bs
open Ms (BRow bytes_row bytes_below)
set_option linter.unusedVariables false
section
variable {B : Nat} {w0 w w1 : World} {Q : Nat} {P R P' R' : Nat → Nat}
theorem Gm.aside {C : Nat → Nat} {S : Nat → Nat} {V : Nat → Value} {on bk : List ByteArray} {s : Nat → St} {l : Nat → LS} {q r : Nat → Rt} (h : Gm B w0 w C Q S V on bk P R P' R' s l q r) (t : Touch w w1 (fun b => C b = 0 ∧ B ≤ b)) : Gm B w0 w1 (fun b => if w.heap.size ≤ b then 0 else C b) Q S V on bk P R P' R' s l q r := by
  have old : ∀ j b, C b = j → b < w.heap.size → (if w.heap.size ≤ b then 0 else C b) = j := fun j b h1 h2 => by rw [if_neg (by omega)]; exact h1
  have nb : ∀ j, j ≠ 0 → ∀ b, C b = j → ¬ (C b = 0 ∧ B ≤ b) := fun j hj b h1 h2 => hj (by rw [← h1]; exact h2.1)
  exact ⟨fun i hi => (h.sl i hi).stay t (nb _ (by omega)) (old _), fun i hi => (h.sr i hi).stay t (nb _ (by omega)) (old _), fun i hi => (h.rl i hi).stay t (nb _ (by omega)) (old _), fun i hi => (h.rr i hi).stay t (nb _ (by omega)) (old _), h.wm.stay t (nb _ (by omega)) (old 5),
    ⟨t.os.trans h.bel.os, t.tape.trans h.bel.tape, t.output.trans h.bel.output, by have := h.bel.size; have := t.size; omega, fun b hb => (t.block b (by have := h.room; omega) (fun q => by omega)).trans (h.bel.block b hb)⟩, fun b hb' => by rw [if_neg (by have := h.room; omega)]; exact h.low b hb', by have := h.room; have := t.size; omega⟩
set_option maxRecDepth 100000 in
set_option maxHeartbeats 4000000 in
theorem spoil_step (c : Nat) (A Bv : Int) (tx : ByteArray) (b1 : -9223372036854775808 ≤ Bv) (b2 : Bv ≤ 9223372036854775807) (g1 : -9223372036854775808 ≤ A) (g2 : A ≤ 9223372036854775807) (hc : c ≤ 1048576) (h : GS6 B w0 w Q P R P' R' c) :
    Calls Tryz.prog 13 #[.pointer (some ⟨Q, 0, none⟩), .agg #[.int .i64 10, .int .i64 A, .int .i64 Bv, .string tx]] w fun e w' => e = .returned (.tuple #[]) ∧ GS6 B w0 w' Q P R P' R' (c + 1) := by
  obtain ⟨C, S, V, on, bk, s, l, r, hM, hK⟩ := h
  have HK : Hid (Gk c on bk s l r) := hK
  have B0 : Below w.heap.size w (w.alloc (.cells #[.int .i64 10, .int .i64 A, .int .i64 Bv, .string tx] 32)) := (Below.refl _ _).alloc (Nat.le_refl _) _
  have o1 : (w.alloc (.cells #[.int .i64 10, .int .i64 A, .int .i64 Bv, .string tx] 32)).cell? ⟨w.heap.size, 1, none⟩ = some (.int .i64 A) := cell_new rfl rfl
  have o2 : (w.alloc (.cells #[.int .i64 10, .int .i64 A, .int .i64 Bv, .string tx] 32)).cell? ⟨w.heap.size, 2, none⟩ = some (.int .i64 Bv) := cell_new rfl rfl
  have nW : w.heap.size < (w.alloc (.cells #[.int .i64 10, .int .i64 A, .int .i64 Bv, .string tx] 32)).heap.size := by simp
  have M1 := hM.above B0
  obtain ⟨C1, hC1⟩ : ∃ C1 : Nat → Nat, C1 = fun b => if w.heap.size ≤ b then 0 else C b := ⟨_, rfl⟩
  rw [← hC1] at M1
  have HM1 : Hid (Gm B w0 (w.alloc (.cells #[.int .i64 10, .int .i64 A, .int .i64 Bv, .string tx] 32)) C1 Q S V on bk P R P' R' s l r r) := M1
  have O4 := M1.wm.own 4 (by omega)
  have e4 : (xs6 P R P' R' on bk 4).length = on.length := by simp [xs6, strs]
  rw [e4] at O4
  obtain ⟨a4, c4, hV4⟩ := owns_form O4
  have d4 : (w.alloc (.cells #[.int .i64 10, .int .i64 A, .int .i64 Bv, .string tx] 32)).cell? ⟨Q, 4, none⟩ = some (.slice a4 on.length c4) := by rw [← hV4]; exact M1.cells 4 (by omega)
  have hol := hK.onl
  have hQl : Q < w.heap.size := by have := hM.wm.row.lt; exact this
  have d4w : w.cell? ⟨Q, 4, none⟩ = some (.slice a4 on.length c4) := by rw [← hV4]; exact hM.cells 4 (by omega)
  clear hC1 hK hM B0 M1
  by_cases h0 : on.length = 0
  · have HF : Hid (GS6 B w0 (w.alloc (.cells #[.int .i64 10, .int .i64 A, .int .i64 Bv, .string tx] 32)) Q P R P' R' (c + 1)) := ⟨_, _, _, _, _, _, _, _, HM1.out, HK.out.mono (by omega)⟩
    rw [h0] at d4 d4w
    clear HM1 O4 hV4 h0 e4
    go_enter Tryz.func13, Tryz.ntmps13
    go_wp2
    refine bodyPost_ret (v := .tuple #[]) (by simp [results, Tryz.results13]) rfl ?_
    exact ⟨rfl, HF.out⟩
  · obtain ⟨k, hk, HPA⟩ := pickAll A on.length g1 g2 (by omega) (by omega)
    obtain ⟨go, cap, eV, gol, hgo⟩ := HM1.out.ptr (i := 4) (n := on.length) (by omega) e4.symm (by omega)
    have ea : a4 = some ⟨go, 0, none⟩ := by rw [hV4] at eV; injection eV
    subst ea
    have d5 : (w.alloc (.cells #[.int .i64 10, .int .i64 A, .int .i64 Bv, .string tx] 32)).cell? ⟨go, k, none⟩ = some (.string on[k]) := hgo k _ (by simp [xs6, strs, hk])
    have HV4 : Hid (V 4 = .slice (some ⟨go, 0, none⟩) on.length c4) := hV4
    have hsz : on[k].size ≤ 1048576 := HK.out.ons _ (List.getElem_mem hk)
    obtain ⟨TX, hTX⟩ : ∃ TX, TX = on[k] := ⟨_, rfl⟩
    have HTX : Hid (TX = on[k]) := hTX
    rw [← hTX] at d5 hsz
    have t0 : ((on.length : Int) == 0) = false := by simpa using h0
    obtain ⟨n, hn⟩ : ∃ n, n = on.length := ⟨_, rfl⟩
    have HN : Hid (n = on.length) := hn
    have HKK : Hid (k < on.length) := hk
    rw [← hn] at d4 d4w hol t0 HPA
    have hkn : k < n := by rw [hn]; exact hk
    clear O4 hV4 eV e4 hgo h0 hTX hn
    obtain ⟨N, hNn⟩ : ∃ N, N = w.heap.size := ⟨_, rfl⟩
    obtain ⟨wd, hwd⟩ : ∃ wd, wd = (w.alloc (.cells #[.int .i64 10, .int .i64 A, .int .i64 Bv, .string tx] 32)).drew := ⟨_, rfl⟩
    have HMd : Hid (∃ Cd, Gm B w0 wd Cd Q S V on bk P R P' R' s l r r) := by rw [hwd]; exact ⟨_, HM1.out.above (Below.refl _ _).drew⟩
    have x4 : wd.cell? ⟨Q, 4, none⟩ = some (.slice (some ⟨go, 0, none⟩) n c4) := by rw [hwd]; exact d4
    have x5 : wd.cell? ⟨go, k, none⟩ = some (.string TX) := by rw [hwd]; exact d5
    have y1 : wd.cell? ⟨N, 1, none⟩ = some (.int .i64 A) := by rw [hwd, hNn]; exact o1
    have y2 : wd.cell? ⟨N, 2, none⟩ = some (.int .i64 Bv) := by rw [hwd, hNn]; exact o2
    have nWd : N < wd.heap.size := by rw [hwd, hNn]; exact nW
    have god : go < wd.heap.size := by rw [hwd]; exact gol
    go_enter Tryz.func13, Tryz.ntmps13
    go_wp2_with fail
    simp only [← hNn]
    clear o1 o2 nW d4 d4w d5 gol HM1
    clear hNn
    (refine wp_region_still_tail 7 (by kernel_rfl) (by kernel_rfl) ?_; change wpStill _ _ (World.drew _) (fun a' => wpList _ _ _ _ a' (World.drew _)) _ _; simp only [← hwd]; clear hwd; simp only [List.take_succ_cons, List.take_zero, List.drop_succ_cons, List.drop_zero]; (repeat still_step); refine wpStill_nil ?_)
    go_wp2_with fail
    refine (HPA _).mono ?_
    rintro e w1 ⟨rfl, rfl⟩
    clear HPA
    obtain ⟨Cd, md⟩ := HMd.out
    have hcv := fun W => Lib.run_convert_string_bytes (P := Tryz.prog) W 9 76 5 TX Tryz.underlying9 Tryz.underlying76 Tryz.underlying5
    have BR := bytes_row w1 TX
    have B2 := bytes_below w1 TX
    have m2 := md.above B2
    generalize hcp : grownCap w1 TX.size 0 5 = cp at *
    obtain ⟨N2, hN2⟩ : ∃ N2, N2 = w1.heap.size := ⟨_, rfl⟩
    have HM2 : Hid (∃ C2, Gm B w0 (Lib.bytesWorld w1 5 TX) C2 Q S V on bk P R P' R' s l r r ∧ C2 w1.heap.size = 0) := ⟨_, m2, by simp⟩
    have hBN : B ≤ w1.heap.size := md.room
    have hQ1 : Q < w1.heap.size := md.wm.row.lt
    have z4 : (Lib.bytesWorld w1 5 TX).cell? ⟨Q, 4, none⟩ = some (.slice (some ⟨go, 0, none⟩) n c4) := by
      have := m2.cells 4 (by omega)
      rw [HV4.out, ← HN.out] at this
      exact this
    have z2 : (Lib.bytesWorld w1 5 TX).cell? ⟨N, 2, none⟩ = some (.int .i64 Bv) := (B2.cell (p := ⟨N, 2, none⟩) nWd).trans y2
    have gz : go < (Lib.bytesWorld w1 5 TX).heap.size := by have := B2.size; omega
    have lz : TX.data.toList.length = TX.size := by simp
    have hgN : go ≠ w1.heap.size := by omega
    clear md m2 HMd
    by_cases hT0 : TX.size = 0
    · have HF : Hid (GS6 B w0 (Lib.bytesWorld w1 5 TX) Q P R P' R' (c + 1)) := by
        obtain ⟨C2, m, _⟩ := HM2.out
        exact ⟨_, _, _, _, _, _, _, _, m, HK.out.mono (by omega)⟩
      clear BR B2 HM2 hN2
      rw [hT0] at hcv
      go_wp2
      refine bodyPost_end (v := .tuple #[]) (by simp [results, Tryz.results13]) rfl ?_
      exact ⟨rfl, HF.out⟩
    · obtain ⟨k2, hk2, HPB⟩ := pickAll Bv TX.size b1 b2 (by omega) (by omega)
      have hTp : 0 < TX.size := by omega
      have hcv1 := hcv w1
      rw [hcp, ← hN2] at hcv1
      rw [← hN2] at BR B2 hgN HM2 hBN hQ1
      clear hcv
      have d2 := BR.cell k2 (by omega)
      have f2 := BR.frozen k2 (by omega)
      have HBR : Hid (BRow (Lib.bytesWorld w1 5 TX) N2 TX.data.toList) := BR
      clear hN2 BR
      go_wp2_with fail
      refine (HPB _).mono ?_
      rintro e w2 ⟨rfl, rfl⟩
      clear HPB hcv1
      generalize Lib.bytesWorld w1 5 TX = W2 at *
      obtain ⟨X, hX⟩ : ∃ X, X = TX.data.toList.getD k2 0 := ⟨_, rfl⟩
      have HX : Hid (X = TX.data.toList.getD k2 0) := hX
      have d2' : W2.cell? ⟨N2, k2, none⟩ = some (.int .u8 (X.toNat : Nat)) := by rw [hX]; exact d2
      clear d2 hX
      have hv : (((X + 1).toNat : Nat) : Int) = ((X.toNat : Int) + 1) % 256 := by
        rw [UInt8.toNat_add]
        show (((X.toNat + 1) % 256 : Nat) : Int) = _
        omega
      obtain ⟨v, hvd⟩ : ∃ v, v = (W2.setCell ⟨N2, k2, none⟩ (.int .u8 ((((X.toNat : Nat) : Int) + 1) % 256))).drew := ⟨_, rfl⟩
      have BRv : BRow v N2 (TX.data.toList.set k2 (X + 1)) := by
        rw [hvd, ← hv]; exact (HBR.out.set k2 (X + 1)).drawn
      have cvv := BRv.conv (cap := cp)
      rw [List.length_set, lz] at cvv
      obtain ⟨C2, m2, hC2⟩ := HM2.out
      have hN2l : N2 < W2.heap.size := cell_lt d2'
      have m3 := m2.aside (w1 := v) (by
        rw [hvd]
        have t0 : Touch W2 (W2.setCell ⟨N2, k2, none⟩ (.int .u8 ((((X.toNat : Nat) : Int) + 1) % 256))) (fun b => C2 b = 0 ∧ B ≤ b) := touch_set (Touch.refl _ _) (.inl ⟨hC2, hBN⟩)
        exact ⟨t0.os, t0.tape, t0.output, t0.size, t0.block⟩)
      have HM3 : Hid (∃ C3, Gm B w0 v C3 Q S V on bk P R P' R' s l r r) := ⟨_, m3⟩
      have z4v : v.cell? ⟨Q, 4, none⟩ = some (.slice (some ⟨go, 0, none⟩) n c4) := by
        have := m3.cells 4 (by omega)
        rw [HV4.out, ← HN.out] at this
        exact this
      have O4 := m3.wm.own 4 (by omega)
      rw [HV4.out] at O4
      have e4 : (xs6 P R P' R' on bk 4).length = on.length := by simp [xs6, strs]
      rw [e4] at O4
      have fgo := World.ownsRow.frozenAt O4 k
      have cgo : v.cell? ⟨go, k, none⟩ = some (.string TX) := by
        have h := O4.cells (g := go) rfl k (.string on[k]) (by show (strs on)[k]? = _; unfold strs; rw [List.getElem?_map, List.getElem?_eq_getElem HKK.out]; rfl)
        rw [add_eq0] at h
        rw [HTX.out]; exact h
      obtain ⟨Y, hY⟩ : ∃ Y : ByteArray, Y = ⟨(TX.data.toList.set k2 (X + 1)).toArray⟩ := ⟨_, rfl⟩
      have hYs : Y.size = TX.size := by rw [hY]; show (TX.data.toList.set k2 (X + 1)).toArray.size = _; rw [List.size_toArray, List.length_set, lz]
      rw [← hY] at cvv
      have HF : Hid (GS6 B w0 (v.setCell ⟨go, k, none⟩ (.string Y)) Q P R P' R' (c + 1)) := by
        obtain ⟨C4, m4⟩ := m3.spoil (k := k) (x := Y) HV4.out
        have k' := HK.out.mono (Nat.le_succ c)
        refine ⟨_, _, _, _, _, _, _, _, m4, k'.rel, k'.sok, k'.rok, k'.tw, by rw [List.length_set]; exact k'.onl, k'.bkl, fun t ht => ?_, k'.bks⟩
        rcases List.mem_or_eq_of_mem_set ht with q | q
        · exact k'.ons t q
        · rw [q, hYs]; exact hsz
      clear BRv m2 m3 O4 e4 HM2 HM3 hC2 HBR hv z4 z2 y1 y2 x4 x5 hY B2
      go_wp2_with fail
      clear d2' f2
      (refine wp_region_still_tail 8 (by kernel_rfl) (by kernel_rfl) ?_; change wpStill _ _ (World.drew _) (fun a' => wpList _ _ _ _ a' (World.drew _)) _ _; simp only [← hvd]; clear hvd; simp only [List.take_succ_cons, List.take_zero, List.drop_succ_cons, List.drop_zero]; (repeat still_step); refine wpStill_nil ?_)
      go_wp2
      refine bodyPost_end (v := .tuple #[]) (by simp [results, Tryz.results13]) rfl ?_
      exact ⟨rfl, HF.out⟩
end
end Sn
end Go.Proofs.YtkgnmcekeeannaaGreat
