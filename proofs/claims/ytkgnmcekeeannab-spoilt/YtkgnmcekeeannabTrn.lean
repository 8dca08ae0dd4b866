import Derived.Test.YtkgnmcekeeannabBas
import Derived.Test.YtkgnmcekeeannabTel
import Derived.Lib.ConvBytes
/-
  What is spoilt: reservekeep.turned.
-/
namespace Go.Proofs.Ytkgnmcekeeannab
open Go.RowKit Go.Deep
namespace Ms
open Bs
set_option linter.unusedVariables false

theorem pick_nat (c : Int) (n : Nat) (w : World) (h1 : -9223372036854775808 ≤ c) (h2 : c ≤ 9223372036854775807) (hn : 1 ≤ n) (hn2 : n ≤ 1000) :
    Calls Try.prog 30 #[.int .i64 c, .int .i64 n] w fun e w' => (∃ r : Nat, r < n ∧ e = .returned (.int .i64 r)) ∧ w' = w := by
  have key : ∀ x : Int, 0 ≤ x → ∃ r : Nat, r < n ∧ x % (n : Int) = (r : Int) := fun x hx => by
    obtain ⟨m, rfl⟩ := Int.eq_ofNat_of_zero_le hx
    exact ⟨m % n, Nat.mod_lt _ hn, (Int.natCast_emod _ _).symm⟩
  by_cases h : c < 0
  · have h3 : 0 ≤ -(c + 1) := by omega
    obtain ⟨r, hr, he⟩ := key (-(c + 1)) h3
    have HE : Hid (-(c + 1) % (n : Int) = (r : Int)) := he
    clear key he
    go_enter Try.func30, Try.ntmps30
    go_wp2
    go_ret
    exact ⟨⟨r, hr, ret_int (by rw [← Int.neg_tmod, Int.tmod_eq_emod_of_nonneg h3]; exact HE.out)⟩, rfl⟩
  · have h3 : 0 ≤ c := by omega
    obtain ⟨r, hr, he⟩ := key c h3
    have HE : Hid (c % (n : Int) = (r : Int)) := he
    clear key he h
    go_enter Try.func30, Try.ntmps30
    go_wp2
    go_ret
    exact ⟨⟨r, hr, ret_int HE.out⟩, rfl⟩

/-- a row of bytes, none frozen -/
structure BRow (w : World) (g : Nat) (l : List UInt8) : Prop where
  cell : ∀ j, j < l.length → w.cell? ⟨g, j, none⟩ = some (bv (l.getD j 0))
  frozen : ∀ j, j < l.length → w.frozen? ⟨g, j, none⟩ = false
theorem BRow.set {w : World} {g : Nat} {l : List UInt8} (h : BRow w g l) (k : Nat) (x : UInt8) : BRow (w.setCell ⟨g, k, none⟩ (bv x)) g (l.set k x) := by
  refine ⟨fun j hj => ?_, fun j hj => ?_⟩
  · rw [List.length_set] at hj
    by_cases e : k = j
    · subst e
      rw [World.cell?_setCell_same _ _ _ (h.cell k hj)]
      simp [List.getD_eq_getElem?_getD, hj]
    · rw [World.cell?_setCell_other _ _ _ _ (fun e' => e (by simpa using congrArg Addr.off e')), h.cell j hj]
      simp [List.getD_eq_getElem?_getD, List.getElem?_set_ne e]
  · rw [List.length_set] at hj
    rw [World.frozen?_setCell]
    exact h.frozen j hj
theorem BRow.drawn {w : World} {g : Nat} {l : List UInt8} (h : BRow w g l) : BRow w.drew g l := ⟨h.cell, h.frozen⟩
theorem BRow.conv {w : World} {g cap : Nat} {l : List UInt8} (h : BRow w g l) : (convert 72 9 (.slice (some ⟨g, 0, none⟩) l.length cap)).run Try.prog w = .ok (.string ⟨l.toArray⟩) w := by
  refine run_convert_bytes_back w 72 9 5 ⟨g, 0, none⟩ cap l Try.underlying72 Try.underlying5 Try.underlying9 (fun j hj => ?_)
  have e : (⟨g, 0, none⟩ : Addr).add j = ⟨g, j, none⟩ := by
    unfold Addr.add
    by_cases e : j = 0
    · subst e; rfl
    · simp [e]
  rw [e, h.cell j hj, List.getD_eq_getElem?_getD, List.getElem?_eq_getElem hj]
  rfl
theorem bytes_row (w : World) (s : ByteArray) : BRow (Lib.bytesWorld w 5 s) w.heap.size s.data.toList := by
  refine ⟨fun j hj => ?_, fun j hj => ?_⟩
  · exact Lib.bytesWorld_cell w 5 s j (by simpa using hj)
  · have hn := Lib.bytesWorld_at_new w 5 s
    have hsz : s.size ≤ (Lib.bytesCells w 5 s).size := by simp [Lib.bytesCells]
    have hj' : j < s.size := by simpa using hj
    unfold World.frozen?
    rw [hn]
    simp
    omega
theorem bytes_below (w : World) (s : ByteArray) : Below w.heap.size w (Lib.bytesWorld w 5 s) :=
  ⟨rfl, rfl, rfl, by rw [Lib.bytesWorld_size]; omega, fun k hk => Lib.bytesWorld_at_old w 5 s k hk⟩
theorem xor_u8 (a : UInt8) (r : Nat) (hr : r < 256) : bits .xor .u8 (a.toNat : Int) (r : Int) = (((a ^^^ UInt8.ofNat r).toNat : Nat) : Int) := by
  rw [u8_xor_nat a.toNat r (UInt8.toNat_lt a) hr, UInt8.toNat_xor, UInt8.toNat_ofNat_of_lt' (show r < 256 from hr)]
theorem ne_xor (x a : UInt8) (ha : a ≠ 0) : x ≠ x ^^^ a := fun e => ha (by
  have h : x ^^^ x = x ^^^ (x ^^^ a) := congrArg (x ^^^ ·) e
  rw [← UInt8.xor_assoc] at h
  simpa using h.symm)
theorem spoilt_last (l : List UInt8) (k : Nat) (a : UInt8) (hk : k + 1 = l.length) (ha : a ≠ 0) (h : Crc.goes 65535 l = 0) : Crc.goes 65535 (l.set k (l.getD k 0 ^^^ a)) ≠ 0 := by
  have hk' : k < l.length := by omega
  have e : l = l.take k ++ [l[k]] := by
    have := List.take_append_drop k l
    rw [List.drop_eq_getElem_cons hk', List.drop_of_length_le (by omega)] at this
    exact this.symm
  have hg : l.getD k 0 = l[k] := by rw [List.getD_eq_getElem?_getD, List.getElem?_eq_getElem hk']; rfl
  rw [hg]
  generalize l[k] = x at *
  generalize hA : l.take k = A at *
  have hAl : A.length = k := by rw [← hA]; simp; omega
  subst e
  rw [← hAl]
  have es : (A ++ [x]).set A.length (x ^^^ a) = A ++ [x ^^^ a] := by simp
  rw [es]
  exact spoilt_one A x _ (ne_xor x a ha) h
theorem spoilt_in (l : List UInt8) (k : Nat) (a b : UInt8) (hk : k + 1 < l.length) (ha : a ≠ 0) (h : Crc.goes 65535 l = 0) : Crc.goes 65535 ((l.set k (l.getD k 0 ^^^ a)).set (k + 1) (l.getD (k + 1) 0 ^^^ b)) ≠ 0 := by
  have hk' : k < l.length := by omega
  have e : l = l.take k ++ l[k] :: l[k + 1] :: l.drop (k + 2) := by
    have := List.take_append_drop k l
    rw [List.drop_eq_getElem_cons hk', List.drop_eq_getElem_cons hk] at this
    exact this.symm
  have hg : l.getD k 0 = l[k] := by rw [List.getD_eq_getElem?_getD, List.getElem?_eq_getElem hk']; rfl
  have hg2 : l.getD (k + 1) 0 = l[k + 1] := by rw [List.getD_eq_getElem?_getD, List.getElem?_eq_getElem hk]; rfl
  rw [hg, hg2]
  generalize l[k] = x at *
  generalize l[k + 1] = y at *
  generalize hA : l.take k = A at *
  generalize l.drop (k + 2) = B at *
  have hAl : A.length = k := by rw [← hA]; simp; omega
  subst e
  rw [← hAl]
  have es : ((A ++ x :: y :: B).set A.length (x ^^^ a)).set (A.length + 1) (y ^^^ b) = A ++ (x ^^^ a) :: (y ^^^ b) :: B := by simp
  rw [es]
  exact spoilt_two A B x y _ _ (ne_xor x a ha) h

set_option maxRecDepth 100000 in
set_option maxHeartbeats 4000000 in
theorem turned_any (s : ByteArray) (k x y : Int) (w : World) (h4 : 4 ≤ s.size) (h28 : s.size ≤ 28) (hg : Crc.goes 65535 s.data.toList = 0)
    (hk1 : -9223372036854775808 ≤ k) (hk2 : k ≤ 9223372036854775807) (hx1 : -9223372036854775808 ≤ x) (hx2 : x ≤ 9223372036854775807) (hy1 : -9223372036854775808 ≤ y) (hy2 : y ≤ 9223372036854775807) :
    Calls Try.prog 8 #[.string s, .int .i64 k, .int .i64 x, .int .i64 y] w fun e w' => (∃ s' : ByteArray, e = .returned (.string s') ∧ s'.size ≤ 28 ∧ Crc.goes 65535 s'.data.toList ≠ 0) ∧ Below w.heap.size w w' := by
  have HG : Hid (Crc.goes 65535 s.data.toList = 0) := hg
  have P1 := fun W => pick_nat k s.size W hk1 hk2 (by omega) (by omega)
  have P2 := fun W => pick_nat x 255 W hx1 hx2 (by omega) (by omega)
  have P3 := fun W => pick_nat y 256 W hy1 hy2 (by omega) (by omega)
  have hcv := fun W => Lib.run_convert_string_bytes (P := Try.prog) W 9 72 5 s Try.underlying9 Try.underlying72 Try.underlying5
  have BR := bytes_row w s
  have B0 := bytes_below w s
  clear hg
  obtain ⟨N, hN⟩ : ∃ N, N = w.heap.size := ⟨_, rfl⟩
  rw [← hN] at BR B0 ⊢
  have hN' : w.heap.size = N := hN.symm
  clear hN
  generalize hc : grownCap w s.size 0 5 = cp at *
  go_enter Try.func8, Try.ntmps8
  go_wp2_with fail
  refine (P1 _).mono ?_
  rintro e w1 ⟨⟨K, hK, rfl⟩, rfl⟩
  generalize Lib.bytesWorld w 5 s = W at *
  have lz : s.data.toList.length = s.size := by simp
  have c0 : W.cell? ⟨N, K, none⟩ = some (.int .u8 (s.data.toList.getD K 0).toNat) := BR.cell K (by omega)
  have f0 := BR.frozen K (by omega)
  have HBR : Hid (BRow W N s.data.toList) := BR
  clear P1 hcv BR
  obtain ⟨xK, hxK⟩ : ∃ xK, xK = s.data.toList.getD K 0 := ⟨_, rfl⟩
  have HXK : Hid (xK = s.data.toList.getD K 0) := hxK
  rw [← hxK] at c0
  clear hxK
  go_wp2_with fail
  go_region_with (go_at_call 30; refine (P2 _).mono ?_; rintro e w2 ⟨⟨r, hr, rfl⟩, rfl⟩)
  all_goals
    have hv : bits BinOp.xor IntKind.u8 (xK.toNat : Int) (IntKind.u8.wrap (IntKind.i64.wrap (1 + (r : Int)))) = (((xK ^^^ UInt8.ofNat (1 + r)).toNat : Nat) : Int) := by
      rw [IntWalk.i64_in _ ⟨by omega, by omega⟩, IntKind.wrap_u8, ← xor_u8 xK (1 + r) (by omega)]
      congr 1
      omega
    rw [hv]
    have BR1 : BRow (W.setCell ⟨N, K, none⟩ (bv (xK ^^^ UInt8.ofNat (1 + r)))).drew N (s.data.toList.set K (xK ^^^ UInt8.ofNat (1 + r))) := (HBR.out.set K _).drawn
    have B1 : Below N w (W.setCell ⟨N, K, none⟩ (bv (xK ^^^ UInt8.ofNat (1 + r)))).drew := (B0.setCell (Nat.le_refl _) _).drew
    have hne : UInt8.ofNat (1 + r) ≠ 0 := fun e => by
      have := congrArg UInt8.toNat e
      rw [UInt8.toNat_ofNat_of_lt' (show 1 + r < 256 by omega)] at this
      simp at this
    unfold bv at BR1 B1
    have lz1 : (s.data.toList.set K (xK ^^^ UInt8.ofNat (1 + r))).length = s.size := by rw [List.length_set]; exact lz
    generalize (W.setCell ⟨N, K, none⟩ (.int .u8 (((xK ^^^ UInt8.ofNat (1 + r)).toNat : Nat) : Int))).drew = W1 at *
    have HNE : Hid (UInt8.ofNat (1 + r) ≠ 0) := hne
    clear hv HBR B0 c0 f0 P2 hne
    generalize UInt8.ofNat (1 + r) = q at *
    by_cases hlast : K + 1 < s.size
    · have c1 : W1.cell? ⟨N, K + 1, none⟩ = some (.int .u8 ((s.data.toList.set K (xK ^^^ q)).getD (K + 1) 0).toNat) := BR1.cell (K + 1) (by omega)
      have f1 := BR1.frozen (K + 1) (by omega)
      have hgd : (s.data.toList.set K (xK ^^^ q)).getD (K + 1) 0 = s.data.toList.getD (K + 1) 0 := by
        simp [List.getD_eq_getElem?_getD]
      rw [hgd] at c1
      obtain ⟨yK, hyK⟩ : ∃ yK, yK = s.data.toList.getD (K + 1) 0 := ⟨_, rfl⟩
      have HYK : Hid (yK = s.data.toList.getD (K + 1) 0) := hyK
      rw [← hyK] at c1
      clear hyK hgd
      have HBR1 : Hid (BRow W1 N (s.data.toList.set K (xK ^^^ q))) := BR1
      clear BR1
      have ew : IntKind.i64.wrap ((K : Int) + 1) = (K : Int) + 1 := IntWalk.i64_in _ ⟨by omega, by omega⟩
      go_wp2_with fail
      go_region_with (go_at_call 30; refine (P3 _).mono ?_; rintro e w3 ⟨⟨r2, hr2, rfl⟩, rfl⟩)
      all_goals
        have hv : bits BinOp.xor IntKind.u8 (yK.toNat : Int) (r2 : Int) = (((yK ^^^ UInt8.ofNat r2).toNat : Nat) : Int) := xor_u8 yK r2 (by omega)
        have hw : IntKind.u8.wrap (r2 : Int) = (r2 : Int) := IntWalk.u8_in _ ⟨by omega, by omega⟩
        try rw [hw]
        rw [hv]
        clear hw
        have BR2 : BRow (W1.setCell ⟨N, K + 1, none⟩ (bv (yK ^^^ UInt8.ofNat r2))).drew N ((s.data.toList.set K (xK ^^^ q)).set (K + 1) (yK ^^^ UInt8.ofNat r2)) := (HBR1.out.set (K + 1) _).drawn
        have B2 : Below N w (W1.setCell ⟨N, K + 1, none⟩ (bv (yK ^^^ UInt8.ofNat r2))).drew := (B1.setCell (Nat.le_refl _) _).drew
        unfold bv at BR2 B2
        generalize (W1.setCell ⟨N, K + 1, none⟩ (.int .u8 (((yK ^^^ UInt8.ofNat r2).toNat : Nat) : Int))).drew = W2 at *
        have hcv := BR2.conv (cap := cp)
        rw [List.length_set, lz1] at hcv
        have HF : Hid (Crc.goes 65535 ((s.data.toList.set K (xK ^^^ q)).set (K + 1) (yK ^^^ UInt8.ofNat r2)) ≠ 0) := by
          unfold Hid
          rw [HXK.out, HYK.out]
          exact spoilt_in _ _ _ _ (by omega) HNE.out HG.out
        have HZ : Hid (((s.data.toList.set K (xK ^^^ q)).set (K + 1) (yK ^^^ UInt8.ofNat r2)).length = s.size) := by unfold Hid; rw [List.length_set]; exact lz1
        clear hv BR2 HBR1 B1 c1 f1 P3 lz1
        generalize (s.data.toList.set K (xK ^^^ q)).set (K + 1) (yK ^^^ UInt8.ofNat r2) = L2 at *
        go_wp2
        go_ret
        exact ⟨⟨⟨L2.toArray⟩, rfl, by have := HZ.out; simp only [ByteArray.size, List.size_toArray]; omega, HF.out⟩, B2⟩
    · have hcv := BR1.conv (cap := cp)
      rw [lz1] at hcv
      have HF : Hid (Crc.goes 65535 (s.data.toList.set K (xK ^^^ q)) ≠ 0) := by
        unfold Hid
        rw [HXK.out]
        exact spoilt_last _ _ _ (by omega) HNE.out HG.out
      have HZ : Hid ((s.data.toList.set K (xK ^^^ q)).length = s.size) := lz1
      have hl' : (s.size : Int) ≤ (K : Int) + 1 := by omega
      clear BR1 P3 lz1 hlast
      generalize s.data.toList.set K (xK ^^^ q) = L2 at *
      go_wp2
      go_ret
      exact ⟨⟨⟨L2.toArray⟩, rfl, by have := HZ.out; simp only [ByteArray.size, List.size_toArray]; omega, HF.out⟩, B1⟩
end Ms
end Go.Proofs.Ytkgnmcekeeannab
