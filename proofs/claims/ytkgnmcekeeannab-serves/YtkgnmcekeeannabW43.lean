import Derived.Test.YtkgnmcekeeannabW01
import Derived.Test.YtkgnmcekeeannabW02
import Derived.Lib.ConvBytes
import Derived.Test.YtkgnmcekeeannabW31
/-
  What is spoilt: reservekeep.turned.
-/
namespace Go.Proofs.Ytkgnmcekeeannab
open Go.RowKit Go.Deep
namespace Ms
open Bs
set_option linter.unusedVariables false

theorem pick_nat (c : Int) (n : Nat) (w : World) (h1 : -9223372036854775808 ≤ c) (h2 : c ≤ 9223372036854775807) (hn : 1 ≤ n) (hn2 : n ≤ 1000) :
    Calls Try.prog 30 #[.int .i64 c, .int .i64 n] w fun e w' => (∃ r : Nat, r < n ∧ e = .returned (.int .i64 r)) ∧ w' = w := by
  have key : ∀ x : Int, 0 ≤ x → ∃ r : Nat, r < n ∧ x % (n : Int) = (r : Int) := fun x hx => by
    obtain ⟨m, rfl⟩ := Int.eq_ofNat_of_zero_le hx
    exact ⟨m % n, Nat.mod_lt _ hn, (Int.natCast_emod _ _).symm⟩
  by_cases h : c < 0
  · have h3 : 0 ≤ -(c + 1) := by omega
    obtain ⟨r, hr, he⟩ := key (-(c + 1)) h3
    have HE : Hid (-(c + 1) % (n : Int) = (r : Int)) := he
    clear key he
    go_enter Try.func30, Try.ntmps30
    go_wp2
    go_ret
    exact ⟨⟨r, hr, ret_int (by rw [← Int.neg_tmod, Int.tmod_eq_emod_of_nonneg h3]; exact HE.out)⟩, rfl⟩
  · have h3 : 0 ≤ c := by omega
    obtain ⟨r, hr, he⟩ := key c h3
    have HE : Hid (c % (n : Int) = (r : Int)) := he
    clear key he h
    go_enter Try.func30, Try.ntmps30
    go_wp2
    go_ret
    exact ⟨⟨r, hr, ret_int HE.out⟩, rfl⟩

/-- a row of bytes, none frozen -/
structure BRow (w : World) (g : Nat) (l : List UInt8) : Prop where
  cell : ∀ j, j < l.length → w.cell? ⟨g, j, none⟩ = some (bv (l.getD j 0))
  frozen : ∀ j, j < l.length → w.frozen? ⟨g, j, none⟩ = false
theorem BRow.set {w : World} {g : Nat} {l : List UInt8} (h : BRow w g l) (k : Nat) (x : UInt8) : BRow (w.setCell ⟨g, k, none⟩ (bv x)) g (l.set k x) := by
  refine ⟨fun j hj => ?_, fun j hj => ?_⟩
  · rw [List.length_set] at hj
    by_cases e : k = j
    · subst e
      rw [World.cell?_setCell_same _ _ _ (h.cell k hj)]
      simp [List.getD_eq_getElem?_getD, hj]
    · rw [World.cell?_setCell_other _ _ _ _ (fun e' => e (by simpa using congrArg Addr.off e')), h.cell j hj]
      simp [List.getD_eq_getElem?_getD, List.getElem?_set_ne e]
  · rw [List.length_set] at hj
    rw [World.frozen?_setCell]
    exact h.frozen j hj
theorem BRow.drawn {w : World} {g : Nat} {l : List UInt8} (h : BRow w g l) : BRow w.drew g l := ⟨h.cell, h.frozen⟩
theorem BRow.conv {w : World} {g cap : Nat} {l : List UInt8} (h : BRow w g l) : (convert 72 9 (.slice (some ⟨g, 0, none⟩) l.length cap)).run Try.prog w = .ok (.string ⟨l.toArray⟩) w := by
  refine run_convert_bytes_back w 72 9 5 ⟨g, 0, none⟩ cap l Try.underlying72 Try.underlying5 Try.underlying9 (fun j hj => ?_)
  have e : (⟨g, 0, none⟩ : Addr).add j = ⟨g, j, none⟩ := by
    unfold Addr.add
    by_cases e : j = 0
    · subst e; rfl
    · simp [e]
  rw [e, h.cell j hj, List.getD_eq_getElem?_getD, List.getElem?_eq_getElem hj]
  rfl
theorem bytes_row (w : World) (s : ByteArray) : BRow (Lib.bytesWorld w 5 s) w.heap.size s.data.toList := by
  refine ⟨fun j hj => ?_, fun j hj => ?_⟩
  · exact Lib.bytesWorld_cell w 5 s j (by simpa using hj)
  · have hn := Lib.bytesWorld_at_new w 5 s
    have hsz : s.size ≤ (Lib.bytesCells w 5 s).size := by simp [Lib.bytesCells]
    have hj' : j < s.size := by simpa using hj
    unfold World.frozen?
    rw [hn]
    simp
    omega
theorem bytes_below (w : World) (s : ByteArray) : Below w.heap.size w (Lib.bytesWorld w 5 s) :=
  ⟨rfl, rfl, rfl, by rw [Lib.bytesWorld_size]; omega, fun k hk => Lib.bytesWorld_at_old w 5 s k hk⟩
theorem xor_u8 (a : UInt8) (r : Nat) (hr : r < 256) : bits .xor .u8 (a.toNat : Int) (r : Int) = (((a ^^^ UInt8.ofNat r).toNat : Nat) : Int) := by
  rw [u8_xor_nat a.toNat r (UInt8.toNat_lt a) hr, UInt8.toNat_xor, UInt8.toNat_ofNat_of_lt' (show r < 256 from hr)]
theorem ne_xor (x a : UInt8) (ha : a ≠ 0) : x ≠ x ^^^ a := fun e => ha (by
  have h : x ^^^ x = x ^^^ (x ^^^ a) := congrArg (x ^^^ ·) e
  rw [← UInt8.xor_assoc] at h
  simpa using h.symm)
theorem spoilt_last (l : List UInt8) (k : Nat) (a : UInt8) (hk : k + 1 = l.length) (ha : a ≠ 0) (h : Crc.goes 65535 l = 0) : Crc.goes 65535 (l.set k (l.getD k 0 ^^^ a)) ≠ 0 := by
  have hk' : k < l.length := by omega
  have e : l = l.take k ++ [l[k]] := by
    have := List.take_append_drop k l
    rw [List.drop_eq_getElem_cons hk', List.drop_of_length_le (by omega)] at this
    exact this.symm
  have hg : l.getD k 0 = l[k] := by rw [List.getD_eq_getElem?_getD, List.getElem?_eq_getElem hk']; rfl
  rw [hg]
  generalize l[k] = x at *
  generalize hA : l.take k = A at *
  have hAl : A.length = k := by rw [← hA]; simp; omega
  subst e
  rw [← hAl]
  have es : (A ++ [x]).set A.length (x ^^^ a) = A ++ [x ^^^ a] := by simp
  rw [es]
  exact spoilt_one A x _ (ne_xor x a ha) h
theorem spoilt_in (l : List UInt8) (k : Nat) (a b : UInt8) (hk : k + 1 < l.length) (ha : a ≠ 0) (h : Crc.goes 65535 l = 0) : Crc.goes 65535 ((l.set k (l.getD k 0 ^^^ a)).set (k + 1) (l.getD (k + 1) 0 ^^^ b)) ≠ 0 := by
  have hk' : k < l.length := by omega
  have e : l = l.take k ++ l[k] :: l[k + 1] :: l.drop (k + 2) := by
    have := List.take_append_drop k l
    rw [List.drop_eq_getElem_cons hk', List.drop_eq_getElem_cons hk] at this
    exact this.symm
  have hg : l.getD k 0 = l[k] := by rw [List.getD_eq_getElem?_getD, List.getElem?_eq_getElem hk']; rfl
  have hg2 : l.getD (k + 1) 0 = l[k + 1] := by rw [List.getD_eq_getElem?_getD, List.getElem?_eq_getElem hk]; rfl
  rw [hg, hg2]
  generalize l[k] = x at *
  generalize l[k + 1] = y at *
  generalize hA : l.take k = A at *
  generalize l.drop (k + 2) = B at *
  have hAl : A.length = k := by rw [← hA]; simp; omega
  subst e
  rw [← hAl]
  have es : ((A ++ x :: y :: B).set A.length (x ^^^ a)).set (A.length + 1) (y ^^^ b) = A ++ (x ^^^ a) :: (y ^^^ b) :: B := by simp
  rw [es]
  exact spoilt_two A B x y _ _ (ne_xor x a ha) h

set_option maxRecDepth 100000 in
set_option maxHeartbeats 4000000 in
theorem turned_any (s : ByteArray) (k x y : Int) (w : World) (h4 : 4 ≤ s.size) (h28 : s.size ≤ 28) (hg : Crc.goes 65535 s.data.toList = 0)
    (hk1 : -9223372036854775808 ≤ k) (hk2 : k ≤ 9223372036854775807) (hx1 : -9223372036854775808 ≤ x) (hx2 : x ≤ 9223372036854775807) (hy1 : -9223372036854775808 ≤ y) (hy2 : y ≤ 9223372036854775807) :
    Calls Try.prog 8 #[.string s, .int .i64 k, .int .i64 x, .int .i64 y] w fun e w' => (∃ s' : ByteArray, e = .returned (.string s') ∧ s'.size ≤ 28 ∧ Crc.goes 65535 s'.data.toList ≠ 0) ∧ Below w.heap.size w w' := by
  have HG : Hid (Crc.goes 65535 s.data.toList = 0) := hg
  have P1 := fun W => pick_nat k s.size W hk1 hk2 (by omega) (by omega)
  have P2 := fun W => pick_nat x 255 W hx1 hx2 (by omega) (by omega)
  have P3 := fun W => pick_nat y 256 W hy1 hy2 (by omega) (by omega)
  have hcv := fun W => Lib.run_convert_string_bytes (P := Try.prog) W 9 72 5 s Try.underlying9 Try.underlying72 Try.underlying5
  have BR := bytes_row w s
  have B0 := bytes_below w s
  clear hg
  obtain ⟨N, hN⟩ : ∃ N, N = w.heap.size := ⟨_, rfl⟩
  rw [← hN] at BR B0 ⊢
  have hN' : w.heap.size = N := hN.symm
  clear hN
  generalize hc : grownCap w s.size 0 5 = cp at *
  go_enter Try.func8, Try.ntmps8
  go_wp2_with fail
  refine (P1 _).mono ?_
  rintro e w1 ⟨⟨K, hK, rfl⟩, rfl⟩
  generalize Lib.bytesWorld w 5 s = W at *
  have lz : s.data.toList.length = s.size := by simp
  have c0 : W.cell? ⟨N, K, none⟩ = some (.int .u8 (s.data.toList.getD K 0).toNat) := BR.cell K (by omega)
  have f0 := BR.frozen K (by omega)
  have HBR : Hid (BRow W N s.data.toList) := BR
  clear P1 hcv BR
  obtain ⟨xK, hxK⟩ : ∃ xK, xK = s.data.toList.getD K 0 := ⟨_, rfl⟩
  have HXK : Hid (xK = s.data.toList.getD K 0) := hxK
  rw [← hxK] at c0
  clear hxK
  go_wp2_with fail
  go_region_with (go_at_call 30; refine (P2 _).mono ?_; rintro e w2 ⟨⟨r, hr, rfl⟩, rfl⟩)
  all_goals
    have hv : bits BinOp.xor IntKind.u8 (xK.toNat : Int) (IntKind.u8.wrap (IntKind.i64.wrap (1 + (r : Int)))) = (((xK ^^^ UInt8.ofNat (1 + r)).toNat : Nat) : Int) := by
      rw [IntWalk.i64_in _ ⟨by omega, by omega⟩, IntKind.wrap_u8, ← xor_u8 xK (1 + r) (by omega)]
      congr 1
      omega
    rw [hv]
    have BR1 : BRow (W.setCell ⟨N, K, none⟩ (bv (xK ^^^ UInt8.ofNat (1 + r)))).drew N (s.data.toList.set K (xK ^^^ UInt8.ofNat (1 + r))) := (HBR.out.set K _).drawn
    have B1 : Below N w (W.setCell ⟨N, K, none⟩ (bv (xK ^^^ UInt8.ofNat (1 + r)))).drew := (B0.setCell (Nat.le_refl _) _).drew
    have hne : UInt8.ofNat (1 + r) ≠ 0 := fun e => by
      have := congrArg UInt8.toNat e
      rw [UInt8.toNat_ofNat_of_lt' (show 1 + r < 256 by omega)] at this
      simp at this
    unfold bv at BR1 B1
    have lz1 : (s.data.toList.set K (xK ^^^ UInt8.ofNat (1 + r))).length = s.size := by rw [List.length_set]; exact lz
    generalize (W.setCell ⟨N, K, none⟩ (.int .u8 (((xK ^^^ UInt8.ofNat (1 + r)).toNat : Nat) : Int))).drew = W1 at *
    have HNE : Hid (UInt8.ofNat (1 + r) ≠ 0) := hne
    clear hv HBR B0 c0 f0 P2 hne
    generalize UInt8.ofNat (1 + r) = q at *
    by_cases hlast : K + 1 < s.size
    · have c1 : W1.cell? ⟨N, K + 1, none⟩ = some (.int .u8 ((s.data.toList.set K (xK ^^^ q)).getD (K + 1) 0).toNat) := BR1.cell (K + 1) (by omega)
      have f1 := BR1.frozen (K + 1) (by omega)
      have hgd : (s.data.toList.set K (xK ^^^ q)).getD (K + 1) 0 = s.data.toList.getD (K + 1) 0 := by
        simp [List.getD_eq_getElem?_getD]
      rw [hgd] at c1
      obtain ⟨yK, hyK⟩ : ∃ yK, yK = s.data.toList.getD (K + 1) 0 := ⟨_, rfl⟩
      have HYK : Hid (yK = s.data.toList.getD (K + 1) 0) := hyK
      rw [← hyK] at c1
      clear hyK hgd
      have HBR1 : Hid (BRow W1 N (s.data.toList.set K (xK ^^^ q))) := BR1
      clear BR1
      have ew : IntKind.i64.wrap ((K : Int) + 1) = (K : Int) + 1 := IntWalk.i64_in _ ⟨by omega, by omega⟩
      go_wp2_with fail
      go_region_with (go_at_call 30; refine (P3 _).mono ?_; rintro e w3 ⟨⟨r2, hr2, rfl⟩, rfl⟩)
      all_goals
        have hv : bits BinOp.xor IntKind.u8 (yK.toNat : Int) (r2 : Int) = (((yK ^^^ UInt8.ofNat r2).toNat : Nat) : Int) := xor_u8 yK r2 (by omega)
        have hw : IntKind.u8.wrap (r2 : Int) = (r2 : Int) := IntWalk.u8_in _ ⟨by omega, by omega⟩
        try rw [hw]
        rw [hv]
        clear hw
        have BR2 : BRow (W1.setCell ⟨N, K + 1, none⟩ (bv (yK ^^^ UInt8.ofNat r2))).drew N ((s.data.toList.set K (xK ^^^ q)).set (K + 1) (yK ^^^ UInt8.ofNat r2)) := (HBR1.out.set (K + 1) _).drawn
        have B2 : Below N w (W1.setCell ⟨N, K + 1, none⟩ (bv (yK ^^^ UInt8.ofNat r2))).drew := (B1.setCell (Nat.le_refl _) _).drew
        unfold bv at BR2 B2
        generalize (W1.setCell ⟨N, K + 1, none⟩ (.int .u8 (((yK ^^^ UInt8.ofNat r2).toNat : Nat) : Int))).drew = W2 at *
        have hcv := BR2.conv (cap := cp)
        rw [List.length_set, lz1] at hcv
        have HF : Hid (Crc.goes 65535 ((s.data.toList.set K (xK ^^^ q)).set (K + 1) (yK ^^^ UInt8.ofNat r2)) ≠ 0) := by
          unfold Hid
          rw [HXK.out, HYK.out]
          exact spoilt_in _ _ _ _ (by omega) HNE.out HG.out
        have HZ : Hid (((s.data.toList.set K (xK ^^^ q)).set (K + 1) (yK ^^^ UInt8.ofNat r2)).length = s.size) := by unfold Hid; rw [List.length_set]; exact lz1
        clear hv BR2 HBR1 B1 c1 f1 P3 lz1
        generalize (s.data.toList.set K (xK ^^^ q)).set (K + 1) (yK ^^^ UInt8.ofNat r2) = L2 at *
        go_wp2
        go_ret
        exact ⟨⟨⟨L2.toArray⟩, rfl, by have := HZ.out; simp only [ByteArray.size, List.size_toArray]; omega, HF.out⟩, B2⟩
    · have hcv := BR1.conv (cap := cp)
      rw [lz1] at hcv
      have HF : Hid (Crc.goes 65535 (s.data.toList.set K (xK ^^^ q)) ≠ 0) := by
        unfold Hid
        rw [HXK.out]
        exact spoilt_last _ _ _ (by omega) HNE.out HG.out
      have HZ : Hid ((s.data.toList.set K (xK ^^^ q)).length = s.size) := lz1
      have hl' : (s.size : Int) ≤ (K : Int) + 1 := by omega
      clear BR1 P3 lz1 hlast
      generalize s.data.toList.set K (xK ^^^ q) = L2 at *
      go_wp2
      go_ret
      exact ⟨⟨⟨L2.toArray⟩, rfl, by have := HZ.out; simp only [ByteArray.size, List.size_toArray]; omega, HF.out⟩, B1⟩
end Ms
end Go.Proofs.Ytkgnmcekeeannab
namespace Go.Proofs.Ytkgnmcekeeannab
open Go.RowKit Go.Deep
namespace Ms
open Bs
set_option linter.unusedVariables false

def endTwo : M := ⟨3, 0, 0, 0, 0, ⟨#[]⟩, [], 2⟩
theorem endTwo_ok : ok endTwo := .inr (.inr ⟨rfl, by decide, by decide, ⟨rfl, rfl, rfl, rfl, rfl⟩, rfl⟩)
theorem endTwo_size : (txt (text endTwo)).size = 4 := by rw [txt_size]; rfl
theorem endTwo_head : (txt (text endTwo)).extract 0 2 = ⟨#[69, 2]⟩ := by
  apply bytes_ext
  rw [Lib.extract_data, txt_data]
  rfl
theorem tells_text {m : M} (h : ok m) : Tells (txt (text m)) m := ⟨h, txt_data _⟩
theorem tells_one {s : ByteArray} {m m' : M} (h : Tells s m) (h' : Tells s m') : m = m' := (tells_lan h).symm.trans (tells_lan h')

set_option maxRecDepth 100000 in
set_option maxHeartbeats 4000000 in
theorem spoilt_core (m : M) (ao : Option Addr) (cap : Nat) (k x y : Int) (w : World) (hn : m.items.length ≤ maxLen) (hs : m.sym.size ≤ maxLen) (hits : ItemsAt w ao m.items.length (itF m.items))
    (hk1 : -9223372036854775808 ≤ k) (hk2 : k ≤ 9223372036854775807) (hx1 : -9223372036854775808 ≤ x) (hx2 : x ≤ 9223372036854775807) (hy1 : -9223372036854775808 ≤ y) (hy2 : y ≤ 9223372036854775807) :
    Calls Try.prog 3 #[mVm m ao cap, .int .i64 k, .int .i64 x, .int .i64 y] w fun e w' => e = .returned (.bool true) ∧ Below w.heap.size w w' := by
  obtain ⟨N, hN⟩ : ∃ N, N = w.heap.size := ⟨_, rfl⟩
  have B0 : Below N w (w.alloc (mBox m.kind m.obj m.blk m.num m.len m.sym ao m.items.length cap m.objs)) := by rw [hN]; exact (Below.refl _ _).alloc (Nat.le_refl _) _
  have RB : (w.alloc (mBox m.kind m.obj m.blk m.num m.len m.sym ao m.items.length cap m.objs)).rowIs N 24 8 (mRow m.kind m.obj m.blk m.num m.len m.sym (.slice ao m.items.length cap) m.objs) := mRow_new hN _ _ _ _ _ _ _ _
  have hz : (w.alloc (mBox m.kind m.obj m.blk m.num m.len m.sym ao m.items.length cap m.objs)).heap.size = N + 1 := by simp; omega
  have HI : Hid (∀ w', Below N w w' → ItemsAt w' ao m.items.length (itF m.items)) := fun w' hb => hits.stay (by rw [← hN]; exact hb)
  have H0 := rWrite endTwo none 0 (w.alloc (mBox m.kind m.obj m.blk m.num m.len m.sym ao m.items.length cap m.objs)) (by decide) (by decide) (.inl rfl)
  have H0' : Calls Try.prog 6 #[mV 3 0 0 0 0 ⟨#[]⟩ none 0 0 2] (w.alloc (mBox m.kind m.obj m.blk m.num m.len m.sym ao m.items.length cap m.objs)) fun e w' => e = .returned (.tuple #[.string (txt (text endTwo)), .int .i64 0]) ∧ Below (N + 1) (w.alloc (mBox m.kind m.obj m.blk m.num m.len m.sym ao m.items.length cap m.objs)) w' := by
    refine H0.mono ?_
    rintro e w' ⟨ho, hb⟩
    rw [hz] at hb
    rcases ho with ⟨_, rfl⟩ | ⟨h, _⟩
    · exact ⟨rfl, hb⟩
    · exact absurd endTwo_ok h
  have hN' : w.heap.size = N := hN.symm
  rw [hN']
  clear hN hits H0 hz
  have s0 := endTwo_size
  have x0 := endTwo_head
  generalize txt (text endTwo) = T0 at *
  go_enter Try.func3, Try.ntmps3
  go_wp2_with fail
  refine H0'.mono ?_
  rintro e w1 ⟨rfl, hb1⟩
  have B1 : Below N w w1 := B0.trans (hb1.mono (by omega))
  have R1 := RB.of_block (hb1.block N (by omega))
  have d0 : w1.cell? ⟨N, 0, none⟩ = some (.int .i64 m.kind) := R1.cell (by decide)
  have d1 : w1.cell? ⟨N, 1, none⟩ = some (.int .i64 m.obj) := R1.cell (by decide)
  have d2 : w1.cell? ⟨N, 2, none⟩ = some (.int .i64 m.blk) := R1.cell (by decide)
  have d3 : w1.cell? ⟨N, 3, none⟩ = some (.int .i64 m.num) := R1.cell (by decide)
  have d4 : w1.cell? ⟨N, 4, none⟩ = some (.int .i64 m.len) := R1.cell (by decide)
  have d5 : w1.cell? ⟨N, 5, none⟩ = some (.string m.sym) := R1.cell (by decide)
  have d6 : w1.cell? ⟨N, 6, none⟩ = some (.slice ao m.items.length cap) := R1.cell (by decide)
  have d7 : w1.cell? ⟨N, 7, none⟩ = some (.int .i64 m.objs) := R1.cell (by decide)
  have H1 := rWrite m ao cap w1 hn hs (HI.out w1 B1)
  clear H0' hb1 B0 RB R1 HI
  go_wp2_with fail
  refine H1.mono ?_
  rintro e w2 ⟨ho, hb2⟩
  have B2 : Below N w w2 := B1.trans (hb2.mono (by have := B1.size; omega))
  clear H1 hb2 B1 d0 d1 d2 d3 d4 d5 d6 d7
  rcases ho with ⟨hok, rfl⟩ | ⟨hno, rfl⟩
  · have HK : Hid (ok m) := hok
    have tl := text_len hok
    have tz : 4 ≤ (txt (text m)).size := by rw [txt_size]; exact tl.1
    have tz2 : (txt (text m)).size ≤ 28 := by rw [txt_size]; exact tl.2
    have HT : Hid (Tells (txt (text m)) m) := tells_text hok
    have H2 := rRead (txt (text m)) w2 (by omega)
    have H4 := fun W => turned_any (txt (text m)) k x y W tz tz2 (tells_goes HT.out) hk1 hk2 hx1 hx2 hy1 hy2
    clear hok tl
    obtain ⟨T, hT⟩ : ∃ T, T = txt (text m) := ⟨_, rfl⟩
    have HTT : Hid (T = txt (text m)) := hT
    rw [← hT] at H2 H4 tz tz2 HT ⊢
    clear hT
    go_wp2_with fail
    refine H2.mono ?_
    rintro e w3 ⟨ho, hb3⟩
    have B3 : Below N w w3 := B2.trans (hb3.mono (by have := B2.size; omega))
    clear H2 hb3
    rcases ho with ⟨m', ao', cap', ht', rfl, hown⟩ | ⟨hno, rfl⟩
    · obtain rfl : m' = m := tells_one ht' HT.out
      have O4 := (hown.alloc (mBox m'.kind m'.obj m'.blk m'.num m'.len m'.sym ao' m'.items.length cap' m'.objs))
      have H3 := rWrite m' ao' cap' (w3.alloc (mBox m'.kind m'.obj m'.blk m'.num m'.len m'.sym ao' m'.items.length cap' m'.objs)) hn hs (owns_items O4)
      have B4 := B3.alloc (by have := B3.size; omega) (mBox m'.kind m'.obj m'.blk m'.num m'.len m'.sym ao' m'.items.length cap' m'.objs)
      clear ht' hown O4 B3 B2
      go_wp2_with fail
      refine H3.mono ?_
      rintro e w5 ⟨ho, hb5⟩
      have B5 : Below N w w5 := B4.trans (hb5.mono (by have := B4.size; omega))
      clear H3 hb5 B4
      rcases ho with ⟨_, rfl⟩ | ⟨h, _⟩
      · rw [← HTT.out]
        go_wp2_with fail
        refine (H4 _).mono ?_
        rintro e w6 ⟨⟨s', rfl, hs', hg⟩, hb6⟩
        have B6 : Below N w w6 := B5.trans (hb6.mono (by have := B5.size; omega))
        have HN : Hid (∀ m, ¬ Tells s' m) := fun m h => hg (tells_goes h)
        have H5 := rRead s' w6 (by omega)
        clear H4 hb6 hg B5
        go_wp2_with fail
        refine H5.mono ?_
        rintro e w7 ⟨ho, hb7⟩
        have B7 : Below N w w7 := B6.trans (hb7.mono (by have := B6.size; omega))
        clear H5 hb7 B6
        rcases ho with ⟨m'', _, _, ht'', _⟩ | ⟨_, rfl⟩
        · exact absurd ht'' (HN.out m'')
        · have B8 := B7.alloc (by have := B7.size; omega) (mBox 0 0 0 0 0 ⟨#[]⟩ none 0 0 0)
          go_wp2
          go_ret
          exact ⟨by simp, B8⟩
      · exact absurd HK.out h
    · exact absurd HT.out (hno m)
  · go_wp2
    go_ret
    exact ⟨by simp, B2⟩
end Ms
end Go.Proofs.Ytkgnmcekeeannab
