import Derived.Test.YtkgnmcekeeannaaGreatY20
import Derived.Test.YtkgnmcekeeannaaGreatY09
import Derived.Test.YtkgnmcekeeannaaGreatY03
/-
  The landed sender's symbol and data.
-/
namespace Go.Proofs.YtkgnmcekeeannaaGreat
open Go.RowKit Go.Deep
namespace Sn
open Bs
open Ms (txt txt_size)
open Cod (byteAt flat flat_get flat_length symF gx)
set_option linter.unusedVariables false

theorem bytes_ext {A B : ByteArray} (hs : A.size = B.size) (h : ∀ i, i < A.size → byteAt A i = byteAt B i) : A = B := by
  apply ByteArray.ext
  apply Array.ext'
  apply List.ext_getElem?
  intro i
  have ha : A.data.toList.length = A.size := by simp
  have hb : B.data.toList.length = B.size := by simp
  by_cases hi : i < A.size
  · have := h i hi
    unfold byteAt at this
    rw [List.getD_eq_getElem?_getD, List.getD_eq_getElem?_getD, List.getElem?_eq_getElem (by omega), List.getElem?_eq_getElem (by omega)] at this
    rw [List.getElem?_eq_getElem (by omega), List.getElem?_eq_getElem (by omega)]
    simpa using this
  · rw [List.getElem?_eq_none (by omega), List.getElem?_eq_none (by omega)]
theorem sbyteAt_append (x v : ByteArray) (i : Nat) : byteAt (x ++ v) i = if i < x.size then byteAt x i else byteAt v (i - x.size) := by
  unfold byteAt
  rw [ByteArray.data_append, Array.toList_append, List.getD_eq_getElem?_getD, List.getD_eq_getElem?_getD, List.getD_eq_getElem?_getD]
  have hl : x.data.toList.length = x.size := by simp
  by_cases h : i < x.size
  · rw [List.getElem?_append_left (by omega), if_pos h]
  · rw [List.getElem?_append_right (by omega), if_neg h, hl]
theorem sbyteAt_extract (A : ByteArray) (lo hi i : Nat) (h : i < hi - lo) : byteAt (A.extract lo hi) i = byteAt A (lo + i) := by
  unfold byteAt
  rw [Lib.extract_data, List.getD_eq_getElem?_getD, List.getD_eq_getElem?_getD, List.getElem?_take, if_pos h, List.getElem?_drop]
theorem sym_own (k z num p : Nat) (x : ByteArray) (hk : k ≤ 8) (hj : num < k) : symF k id x z num 0 p = byteAt x (num * z + p) := by
  unfold symF
  rw [Nat.add_zero]
  exact Pol.lag_at (Cod.apart_of (fun i hi => by show i < 16; omega) (fun i j _ _ h => h)) _ num hj
theorem one_flat (k z num i : Nat) (x : ByteArray) (hi : i < z) : byteAt (txt (flat z (symF k id x z num) 1)) i = symF k id x z num 0 i := by
  show (flat z (symF k id x z num) 1).getD i 0 = _
  simp [flat, List.getD_eq_getElem?_getD, hi]
theorem sym_cut_own (k z num : Nat) (x : ByteArray) (hk : k ≤ 8) (hx : x.size = k * z) (hj : num < k) : x.extract (num * z) (num * z + z) = txt (flat z (symF k id x z num) 1) := by
  have h1 : num * z + z ≤ k * z := by rw [← Nat.succ_mul]; exact Nat.mul_le_mul_right _ hj
  have hs : (x.extract (num * z) (num * z + z)).size = z := by simp; omega
  refine bytes_ext (by rw [hs, txt_size, flat_length]; omega) (fun i hi => ?_)
  rw [hs] at hi
  rw [sbyteAt_extract _ _ _ _ (by omega), one_flat _ _ _ _ _ hi, sym_own k z num i x hk hj]
theorem sym_cut_spare (k z sp num : Nat) (x : ByteArray) (hk : k ≤ 8) (hx : x.size = k * z) (hj : k ≤ num) (hj2 : num < k + sp) :
    (x ++ (⟨(flat z (symF k id x z k) sp).toArray⟩ : ByteArray)).extract (num * z) (num * z + z) = txt (flat z (symF k id x z num) 1) := by
  have h1 : num * z + z ≤ (k + sp) * z := by rw [← Nat.succ_mul]; exact Nat.mul_le_mul_right _ hj2
  have h2 : (x ++ (⟨(flat z (symF k id x z k) sp).toArray⟩ : ByteArray)).size = (k + sp) * z := by
    rw [ByteArray.size_append, hx, Nat.add_mul]
    congr 1
    show (flat z (symF k id x z k) sp).toArray.size = _
    simp [flat_length]
  have hs : ((x ++ (⟨(flat z (symF k id x z k) sp).toArray⟩ : ByteArray)).extract (num * z) (num * z + z)).size = z := by
    rw [ByteArray.size_extract, h2]; omega
  refine bytes_ext (by rw [hs, txt_size, flat_length]; omega) (fun i hi => ?_)
  rw [hs] at hi
  rw [sbyteAt_extract _ _ _ _ (by omega), one_flat _ _ _ _ _ hi, sbyteAt_append, hx]
  have h3 : k * z ≤ num * z := Nat.mul_le_mul_right _ hj
  rw [if_neg (by omega)]
  show (flat z (symF k id x z k) sp).getD _ 0 = _
  have e : num * z + i - k * z = (num - k) * z + i := by rw [Nat.sub_mul]; omega
  have h4 : (num - k) * z + z ≤ sp * z := by rw [← Nat.succ_mul]; exact Nat.mul_le_mul_right _ (by omega)
  have hd : ((num - k) * z + i) / z = num - k := by rw [Nat.mul_comm, Nat.mul_add_div (by omega), Nat.div_eq_of_lt hi]; omega
  have hm : ((num - k) * z + i) % z = i := by rw [Nat.mul_comm, Nat.mul_add_mod, Nat.mod_eq_of_lt hi]
  rw [e, List.getD_eq_getElem?_getD, flat_get z _ sp _ (by omega), hd, hm]
  show symF k id x z k (num - k) i = _
  unfold symF
  rw [show k + (num - k) = num + 0 from by omega]
set_option maxRecDepth 100000 in
set_option maxHeartbeats 4000000 in
theorem lanSymbol (s : LS) (o : ByteArray) (b num P : Nat) (F : Nat → Prop) (ao : Option Addr) (co : Nat) (D : Nat → Nat) (w : World) (hs : LOk s) (ho : o.size ≤ 256) (hbb : b ≤ 255) (hk : 0 < s.n.many o.size b) (hnum : num < s.n.many o.size b + s.n.spare) (hA : LI w P s F ao co D) :
    Calls Tryz.prog 73 #[.pointer (some ⟨P, 0, none⟩), .string o, .int .i64 b, .int .i64 num] w fun e w' => e = .returned (.string (txt (symOf s.n o b num))) ∧ Below w.heap.size w w' := by
  have HD := layData s.n o b w hs.nok ho hbb
  have hM := many_le s.n o.size b
  have hfl := filledB_length s.n o b
  have HSO : Hid (symOf s.n o b num = flat s.n.size (symF (s.n.many o.size b) id (txt (filledB s.n o b)) s.n.size num) 1) := rfl
  obtain ⟨h1, h2, h3, h4, h5⟩ := hs.nok
  rw [HSO.out]
  clear HSO
  obtain ⟨c0, c1, c2, c3, c4, c5, c6⟩ := hA.cells
  have HA : Hid (LI w P s F ao co D) := hA
  clear hA c3 c4 c5 c6
  simp only [nmV] at HD
  generalize filledB s.n o b = FB at *
  generalize s.n.many o.size b = k at *
  obtain ⟨X, hX⟩ : ∃ X, X = txt FB := ⟨_, rfl⟩
  have hXs : X.size = k * s.n.size := by rw [hX, txt_size]; exact hfl
  rw [← hX] at HD ⊢
  clear hX hfl
  obtain ⟨z, hz⟩ : ∃ z, z = s.n.size := ⟨_, rfl⟩
  obtain ⟨sp, hsp⟩ : ∃ z, z = s.n.spare := ⟨_, rfl⟩
  have HZ : Hid (z = s.n.size) := hz
  have HSP : Hid (sp = s.n.spare) := hsp
  rw [← hz] at hXs h1 h2 c0 HD ⊢
  rw [← hsp] at hnum h5 c2 HD
  clear hz hsp
  have HXS : Hid (X.size = k * z) := hXs
  obtain ⟨Fi, hFi⟩ : ∃ Q, Q = num * z := ⟨_, rfl⟩
  have fib : Fi ≤ 16 * 16 := by rw [hFi]; exact Nat.mul_le_mul (by omega) h2
  have fi1 : (num : Int) * (z : Int) = (Fi : Int) := by rw [hFi]; simp
  have HFi : Hid (Fi = num * z) := hFi
  have xb : X.size ≤ 8 * 16 := by rw [hXs]; exact Nat.mul_le_mul (by omega) h2
  by_cases hown : num < k
  · have le1 : Fi + z ≤ X.size := by rw [hFi, hXs, ← Nat.succ_mul]; exact Nat.mul_le_mul_right _ hown
    have HV : Hid (X.extract Fi (Fi + z) = txt (flat z (symF k id X z num) 1)) := by unfold Hid; rw [hFi]; exact sym_cut_own k z num X (by omega) hXs hown
    have hsl : ∀ W : World, (Instr.slice 9 (.string X) (some (.int .i64 (Fi : Int))) (some (.int .i64 ((Fi : Int) + (z : Int)))) none).run Tryz.prog W = .ok (.string (X.extract Fi (Fi + z))) W := fun W => by
      have h := run_slice_string (P := Tryz.prog) W 9 X .i64 .i64 (Fi : Int) ((Fi : Int) + (z : Int)) Tryz.underlying9 (by omega) (by omega) (by omega)
      rw [show ((Fi : Int) + (z : Int)).toNat = Fi + z from by omega, show ((Fi : Int)).toNat = Fi from by omega] at h
      exact h
    rw [← HV.out]
    clear hFi hXs hM
    go_enter Tryz.func73, Tryz.ntmps73
    go_wp2_with fail
    refine HD.mono ?_
    rintro e w1 ⟨rfl, B1⟩
    have c0' : w1.cell? ⟨P, 0, none⟩ = some (.int .i64 z) := (B1.cell (p := ⟨P, 0, none⟩) HA.out.row.lt).trans c0
    clear HD c0 c1 c2
    go_wp2
    go_ret
    exact ⟨rfl, B1⟩
  · have le1 : X.size ≤ Fi := by rw [hFi, hXs]; exact Nat.mul_le_mul_right _ (by omega)
    have HE := fun W => Cod.encode_ok X z sp k W (by unfold maxLen; omega) h1 h2 hk (by omega) hXs h5
    have le2 : Fi + z ≤ (k + sp) * z := by rw [hFi, ← Nat.succ_mul]; exact Nat.mul_le_mul_right _ (by omega)
    have HV : Hid ((X ++ (⟨(flat z (symF k id X z k) sp).toArray⟩ : ByteArray)).extract Fi (Fi + z) = txt (flat z (symF k id X z num) 1)) := by unfold Hid; rw [hFi]; exact sym_cut_spare k z sp num X (by omega) hXs (by omega) hnum
    have hsz : (⟨(flat z (symF k id X z k) sp).toArray⟩ : ByteArray).size = sp * z := by
      show (flat z (symF k id X z k) sp).toArray.size = _
      simp [flat_length]
    have le3 : Fi + z ≤ X.size + (⟨(flat z (symF k id X z k) sp).toArray⟩ : ByteArray).size := by rw [hsz, hXs, ← Nat.add_mul]; exact le2
    have hvb : (⟨(flat z (symF k id X z k) sp).toArray⟩ : ByteArray).size ≤ 8 * 16 := by rw [hsz]; exact Nat.mul_le_mul h5 h2
    have hsl : ∀ (V : ByteArray), Fi + z ≤ X.size + V.size → ∀ W : World, (Instr.slice 9 (.string (X ++ V)) (some (.int .i64 (Fi : Int))) (some (.int .i64 ((Fi : Int) + (z : Int)))) none).run Tryz.prog W = .ok (.string ((X ++ V).extract Fi (Fi + z))) W := fun V hV W => by
      have h := run_slice_string (P := Tryz.prog) W 9 (X ++ V) .i64 .i64 (Fi : Int) ((Fi : Int) + (z : Int)) Tryz.underlying9 (by omega) (by omega) (by rw [ByteArray.size_append]; omega)
      rw [show ((Fi : Int) + (z : Int)).toNat = Fi + z from by omega, show ((Fi : Int)).toNat = Fi from by omega] at h
      exact h
    have hsl := hsl _ le3
    rw [← HV.out]
    generalize (⟨(flat z (symF k id X z k) sp).toArray⟩ : ByteArray) = V at *
    clear hFi hXs hM hsz le2
    go_enter Tryz.func73, Tryz.ntmps73
    go_wp2_with fail
    refine HD.mono ?_
    rintro e w1 ⟨rfl, B1⟩
    have c0' : w1.cell? ⟨P, 0, none⟩ = some (.int .i64 z) := (B1.cell (p := ⟨P, 0, none⟩) HA.out.row.lt).trans c0
    have c2' : w1.cell? ⟨P, 2, none⟩ = some (.int .i64 sp) := (B1.cell (p := ⟨P, 2, none⟩) HA.out.row.lt).trans c2
    clear HD c0 c1 c2
    go_wp2_with fail
    have HE1 : Calls Tryz.prog 89 #[.string X, .int .i64 z, .int .i64 sp] w1.drew fun e w' => e = .returned (.tuple #[.string V, .int .i64 0]) ∧ Below w.heap.size w w' ∧ w'.cell? ⟨P, 0, none⟩ = some (.int .i64 z) ∧ w'.cell? ⟨P, 2, none⟩ = some (.int .i64 sp) := by
      refine (HE _).mono ?_
      rintro e w2 ⟨rfl, hb2⟩
      have hPd : P < w1.drew.heap.size := by have := B1.size; have := HA.out.row.lt; show P < w1.heap.size; omega
      exact ⟨rfl, B1.drew.trans (hb2.mono B1.size), (hb2.cell (p := ⟨P, 0, none⟩) hPd).trans c0', (hb2.cell (p := ⟨P, 2, none⟩) hPd).trans c2'⟩
    clear HE
    go_region_held3 (fun w' => w'.cell? ⟨P, 0, none⟩ = some (.int .i64 z) ∧ w'.cell? ⟨P, 2, none⟩ = some (.int .i64 sp)) (go_keep)
      (first | (go_at_call 89; refine HE1.mono ?_; rintro e w2 ⟨rfl, B2, e0, e2⟩))
    all_goals
      clear HE1 B1 c0' c2'
      go_wp2
      go_ret
      exact ⟨rfl, B2⟩
end Sn
end Go.Proofs.YtkgnmcekeeannaaGreat
namespace Go.Proofs.YtkgnmcekeeannaaGreat
open Go.RowKit Go.Deep
namespace Ms
open Bs
set_option linter.unusedVariables false

def BoolIs (e : Ending) (P : Prop) : Prop := ∃ r : Bool, e = .returned (.bool r) ∧ (r = true ↔ P)
def Place (o b : Int) : Prop := 0 ≤ o ∧ o ≤ 7 ∧ 0 ≤ b ∧ b ≤ 255
set_option maxHeartbeats 1000000 in
theorem isPlace_any (o b : Int) (w : World) :
    Calls Tryz.prog 101 #[.int .i64 o, .int .i64 b] w fun e w' => BoolIs e (Place o b) ∧ w' = w := by
  go_enter Tryz.func101, Tryz.ntmps101
  go_wp2
  all_goals
    go_ret
    refine ⟨⟨_, rfl, ?_⟩, rfl⟩
    unfold Place
    simp
    try omega
set_option maxHeartbeats 1000000 in
theorem hasData_any (kd ob bl nu le : Int) (sy : ByteArray) (ao : Option Addr) (n cap : Nat) (os : Int) (w : World) (hs : sy.size ≤ maxLen) :
    Calls Tryz.prog 102 #[mV kd ob bl nu le sy ao n cap os] w fun e w' => BoolIs e (¬ NoData ob bl nu le sy) ∧ Below w.heap.size w w' := by
  unfold maxLen at hs
  obtain ⟨B1, e1⟩ : ∃ B, (ob != 0) = B := ⟨_, rfl⟩
  obtain ⟨B2, e2⟩ : ∃ B, (bl != 0) = B := ⟨_, rfl⟩
  obtain ⟨B3, e3⟩ : ∃ B, (nu != 0) = B := ⟨_, rfl⟩
  obtain ⟨B4, e4⟩ : ∃ B, (le != 0) = B := ⟨_, rfl⟩
  obtain ⟨B5, e5⟩ : ∃ B, ((sy.size : Int) != 0) = B := ⟨_, rfl⟩
  have HX : Hid ((B1 || B2 || B3 || B4 || B5) = true ↔ ¬ NoData ob bl nu le sy) := by
    unfold Hid NoData
    rw [← e1, ← e2, ← e3, ← e4, ← e5]
    simp only [Bool.or_eq_true, bne_iff_ne, ne_eq]
    omega
  have hb : Below w.heap.size w (w.alloc (mBox kd ob bl nu le sy ao n cap os)) := (Below.refl _ _).alloc (Nat.le_refl _) _
  go_enter Tryz.func102, Tryz.ntmps102
  go_wp2
  all_goals
    go_ret
    refine ⟨⟨_, rfl, ?_⟩, hb⟩
    rw [← HX.out]
    simp [*]
abbrev itV (t : It) : Value := .agg #[.int .i64 t.o, .int .i64 t.b, .int .i64 t.c]
set_option maxHeartbeats 1000000 in
theorem isItem_any (t : It) (w : World) :
    Calls Tryz.prog 103 #[itV t] w fun e w' => BoolIs e (itOK t) ∧ Below w.heap.size w w' := by
  obtain ⟨o, b, c⟩ := t
  have HP := fun W => isPlace_any o b W
  have hb : Below w.heap.size w (w.alloc (.cells #[.int .i64 o, .int .i64 b, .int .i64 c] 103)) := (Below.refl _ _).alloc (Nat.le_refl _) _
  go_enter Tryz.func103, Tryz.ntmps103
  go_wp2_with fail
  refine (HP _).mono ?_
  rintro e w' ⟨⟨r, rfl, hr⟩, rfl⟩
  clear HP
  have HR : Hid (r = true ↔ Place o b) := hr
  clear hr
  cases r with
  | false =>
    have h : Hid (¬ Place o b) := fun h => by have := HR.out.2 h; cases this
    go_wp2
    go_ret
    refine ⟨⟨_, rfl, ?_⟩, hb⟩
    have := h.out
    unfold Place at this
    unfold itOK
    simp
    omega
  | true =>
    have h : Hid (Place o b) := HR.out.1 rfl
    go_wp2
    all_goals
      go_ret
      refine ⟨⟨_, rfl, ?_⟩, hb⟩
      have := h.out
      unfold Place at this
      unfold itOK
      simp
      try omega
set_option maxHeartbeats 1000000 in
theorem isEnd_any (kd ob bl nu le : Int) (sy : ByteArray) (ao : Option Addr) (n cap : Nat) (os : Int) (w : World) (hn : n ≤ maxLen) (hs : sy.size ≤ maxLen) :
    Calls Tryz.prog 92 #[mV kd ob bl nu le sy ao n cap os] w fun e w' => BoolIs e (0 ≤ os ∧ os ≤ 8 ∧ NoData ob bl nu le sy ∧ n = 0) ∧ Below w.heap.size w w' := by
  have HD := hasData_any kd ob bl nu le sy ao n cap os (w.alloc (mBox kd ob bl nu le sy ao n cap os)) hs
  unfold maxLen at hn hs
  go_enter Tryz.func92, Tryz.ntmps92
  go_wp2_with fail
  refine HD.mono ?_
  rintro e w1 ⟨⟨r, rfl, hr⟩, hb1⟩
  have HR : Hid (r = true ↔ ¬ NoData ob bl nu le sy) := hr
  have B1 : Below w.heap.size w w1 := ((Below.refl _ _).alloc (Nat.le_refl _) _).trans (hb1.mono (by simp))
  have c6 : w1.cell? ⟨w.heap.size, 6, none⟩ = some (.slice ao n cap) := (hb1.cell (p := ⟨w.heap.size, 6, none⟩) (by simp)).trans (cell_new rfl rfl)
  have c7 : w1.cell? ⟨w.heap.size, 7, none⟩ = some (.int .i64 os) := (hb1.cell (p := ⟨w.heap.size, 7, none⟩) (by simp)).trans (cell_new rfl rfl)
  clear HD hr hb1
  obtain ⟨B, hB⟩ : ∃ B, ((n : Int) != 0) = B := ⟨_, rfl⟩
  have HB : Hid (B = false ↔ n = 0) := by unfold Hid; rw [← hB]; simp
  cases r with
  | true =>
    have h : Hid (¬ NoData ob bl nu le sy) := HR.out.1 rfl
    go_wp2
    go_ret
    exact ⟨⟨_, rfl, by simp [h.out]⟩, B1⟩
  | false =>
    have h : Hid (NoData ob bl nu le sy) := Classical.not_not.1 (fun h => by have := HR.out.2 h; cases this)
    cases B with
    | true =>
      have h0 : Hid (¬ n = 0) := fun h => by have := HB.out.2 h; cases this
      go_wp2
      go_ret
      exact ⟨⟨_, rfl, by simp [h0.out]⟩, B1⟩
    | false =>
      have h0 : Hid (n = 0) := HB.out.1 rfl
      go_wp2
      all_goals
        go_ret
        refine ⟨⟨_, rfl, ?_⟩, B1⟩
        have h' := h.out
        have h0' := h0.out
        simp [h', h0']
        try omega
end Ms
end Go.Proofs.YtkgnmcekeeannaaGreat
namespace Go.Proofs.YtkgnmcekeeannaaGreat
open Go.RowKit Go.Deep
namespace Ms
open Bs
set_option linter.unusedVariables false

set_option maxHeartbeats 1000000 in
theorem isData_any (kd ob bl nu le : Int) (sy : ByteArray) (ao : Option Addr) (n cap : Nat) (os : Int) (w : World) (hn : n ≤ maxLen) (hs : sy.size ≤ maxLen) :
    Calls Tryz.prog 90 #[mV kd ob bl nu le sy ao n cap os] w fun e w' => BoolIs e (DataFits ob bl nu le sy ∧ n = 0 ∧ os = 0) ∧ Below w.heap.size w w' := by
  have HP := fun W => isPlace_any ob bl W
  unfold maxLen at hn hs
  have hb : Below w.heap.size w (w.alloc (mBox kd ob bl nu le sy ao n cap os)) := (Below.refl _ _).alloc (Nat.le_refl _) _
  obtain ⟨B1, e1⟩ : ∃ B, ((n : Int) != 0) = B := ⟨_, rfl⟩
  obtain ⟨B2, e2⟩ : ∃ B, (os != 0) = B := ⟨_, rfl⟩
  have HX : Hid ((B1 || B2) = false ↔ n = 0 ∧ os = 0) := by
    unfold Hid
    rw [← e1, ← e2]
    simp only [Bool.or_eq_false_iff, bne_eq_false_iff_eq]
    omega
  go_enter Tryz.func90, Tryz.ntmps90
  cases B1 with
  | true =>
    have h : Hid (¬ (n = 0 ∧ os = 0)) := fun h => by have := HX.out.2 h; cases this
    go_wp2
    go_ret
    exact ⟨⟨_, rfl, by simp; intro _ h1 h2; exact h.out ⟨h1, h2⟩⟩, hb⟩
  | false =>
    cases B2 with
    | true =>
      have h : Hid (¬ (n = 0 ∧ os = 0)) := fun h => by have := HX.out.2 h; cases this
      go_wp2
      go_ret
      exact ⟨⟨_, rfl, by simp; intro _ h1 h2; exact h.out ⟨h1, h2⟩⟩, hb⟩
    | false =>
      have h : Hid (n = 0 ∧ os = 0) := HX.out.1 rfl
      clear HX
      go_wp2_with fail
      refine (HP _).mono ?_
      rintro e w' ⟨⟨r, rfl, hr⟩, rfl⟩
      clear HP
      have HR : Hid (r = true ↔ Place ob bl) := hr
      clear hr
      cases r with
      | false =>
        have hp : Hid (¬ Place ob bl) := fun h => by have := HR.out.2 h; cases this
        go_wp2
        go_ret
        refine ⟨⟨_, rfl, ?_⟩, hb⟩
        have := hp.out
        unfold Place at this
        unfold DataFits
        simp
        omega
      | true =>
        have hp : Hid (Place ob bl) := HR.out.1 rfl
        clear HR
        go_wp2
        all_goals
          go_ret
          refine ⟨⟨_, rfl, ?_⟩, hb⟩
          have hp' := hp.out
          have h' := h.out
          unfold Place at hp'
          unfold DataFits
          simp [h']
          try omega
set_option maxHeartbeats 1000000 in
theorem isRequest_any (kd ob bl nu le : Int) (sy : ByteArray) (ao : Option Addr) (n cap : Nat) (its : Nat → It) (os : Int) (w : World) (hn : n ≤ maxLen) (hs : sy.size ≤ maxLen) (hits : ItemsAt w ao n its) :
    Calls Tryz.prog 91 #[mV kd ob bl nu le sy ao n cap os] w fun e w' => BoolIs e (ReqFits ob bl nu le sy n its os) ∧ Below w.heap.size w w' := by
  have HD := hasData_any kd ob bl nu le sy ao n cap os (w.alloc (mBox kd ob bl nu le sy ao n cap os)) hs
  have HI : Hid (ItemsAt w ao n its) := hits
  clear hits
  unfold maxLen at hn hs
  go_enter Tryz.func91, Tryz.ntmps91
  go_wp2_with fail
  refine HD.mono ?_
  rintro e w1 ⟨⟨r, rfl, hr⟩, hb1⟩
  have HR : Hid (r = true ↔ ¬ NoData ob bl nu le sy) := hr
  have B1 : Below w.heap.size w w1 := ((Below.refl _ _).alloc (Nat.le_refl _) _).trans (hb1.mono (by simp))
  have c6 : w1.cell? ⟨w.heap.size, 6, none⟩ = some (.slice ao n cap) := (hb1.cell (p := ⟨w.heap.size, 6, none⟩) (by simp)).trans (cell_new rfl rfl)
  have c7 : w1.cell? ⟨w.heap.size, 7, none⟩ = some (.int .i64 os) := (hb1.cell (p := ⟨w.heap.size, 7, none⟩) (by simp)).trans (cell_new rfl rfl)
  have hz : w.heap.size < w1.heap.size := by have := hb1.size; simp at this; omega
  clear HD hr hb1
  obtain ⟨B, hB⟩ : ∃ B, (os != 0) = B := ⟨_, rfl⟩
  have HB : Hid (B = false ↔ os = 0) := by unfold Hid; rw [← hB]; simp
  cases r with
  | true =>
    have h : Hid (¬ ReqFits ob bl nu le sy n its os) := fun h => HR.out.1 rfl h.1
    go_wp2
    go_ret
    exact ⟨⟨_, rfl, by simp [h.out]⟩, B1⟩
  | false =>
    have hnd : Hid (NoData ob bl nu le sy) := Classical.not_not.1 (fun h => by have := HR.out.2 h; cases this)
    clear HR
    cases B with
    | true =>
      have h : Hid (¬ ReqFits ob bl nu le sy n its os) := fun h => by have := HB.out.2 h.2.1; cases this
      go_wp2
      go_ret
      exact ⟨⟨_, rfl, by simp [h.out]⟩, B1⟩
    | false =>
      have hos : Hid (os = 0) := HB.out.1 rfl
      clear HB
      by_cases g1 : 1 ≤ n
      · by_cases g2 : n ≤ 8
        · go_wp2
          go_loopw [3] (fun x wr => ∃ i : Nat, i ≤ n ∧ x = .int .i64 i ∧ (∀ j, j < i → itOK (its j)) ∧ Below w.heap.size w wr ∧ wr.cell? ⟨w.heap.size, 6, none⟩ = some (.slice ao n cap) ∧ w.heap.size < wr.heap.size) (fun x _ => n - (intOf x).toNat)
          case atStart => exact ⟨0, Nat.zero_le _, rfl, fun j hj => by omega, B1, c6, hz⟩
          case round =>
            clear B1 c6 hz c7 hB
            obtain ⟨i, hin, rfl, hok, hB, c6, hz⟩ := hrel
            have HOK : Hid (∀ j, j < i → itOK (its j)) := hok
            clear hok
            by_cases hlt : i < n
            · rcases HI.out with h | ⟨b, off, rfl, hbl, hc⟩
              · omega
              · obtain ⟨i1, i2, i3⟩ := hc i hlt
                have j1 := (hB.cell (p := ⟨b, off + i * 3, none⟩) hbl).trans i1
                have j2 := (hB.cell (p := ⟨b, off + i * 3 + 1, none⟩) hbl).trans i2
                have j3 := (hB.cell (p := ⟨b, off + i * 3 + 2, none⟩) hbl).trans i3
                clear i1 i2 i3 hc
                obtain ⟨t, ht⟩ : ∃ t, t = its i := ⟨_, rfl⟩
                have HT : Hid (t = its i) := ht
                rw [← ht] at j1 j2 j3
                clear ht
                have HIT := isItem_any t wr
                go_wp2_with fail
                refine HIT.mono ?_
                rintro e w4 ⟨⟨r, rfl, hr⟩, hb4⟩
                have HR : Hid (r = true ↔ itOK t) := hr
                have B4 : Below w.heap.size w w4 := hB.trans (hb4.mono (by omega))
                have c64 := (hb4.cell (p := ⟨w.heap.size, 6, none⟩) hz).trans c6
                have hz4 : w.heap.size < w4.heap.size := by have := hb4.size; omega
                clear hr HIT hb4 hB c6 j1 j2 j3
                cases r with
                | false =>
                  have HNO : Hid (¬ ReqFits ob bl nu le sy n its os) := fun h => by
                    have := HR.out.2 (HT.out ▸ h.2.2.2.2 i hlt)
                    cases this
                  go_wp2
                  go_ret
                  exact ⟨⟨_, rfl, by simp [HNO.out]⟩, B4⟩
                | true =>
                  have HIT : Hid (itOK t) := HR.out.1 rfl
                  go_wp2
                  go_roundw
                  case rel =>
                    refine ⟨i + 1, by omega, by go_num, fun j hj => ?_, B4, c64, hz4⟩
                    by_cases e : j = i
                    · rw [e, ← HT.out]; exact HIT.out
                    · exact HOK.out j (by omega)
                  case measure => simp [intOf]; omega
            · obtain rfl : i = n := by omega
              go_wp2
              go_ret
              exact ⟨⟨true, rfl, by simp only [true_iff]; exact ⟨hnd.out, hos.out, g1, g2, HOK.out⟩⟩, hB⟩
        · have h : Hid (¬ ReqFits ob bl nu le sy n its os) := fun h => g2 h.2.2.2.1
          go_wp2
          go_ret
          exact ⟨⟨_, rfl, by simp [h.out]⟩, B1⟩
      · have h : Hid (¬ ReqFits ob bl nu le sy n its os) := fun h => g1 h.2.2.1
        have g1' : (n : Int) < 1 := by omega
        clear g1
        go_wp2
        go_ret
        exact ⟨⟨_, rfl, by simp [h.out]⟩, B1⟩
end Ms
end Go.Proofs.YtkgnmcekeeannaaGreat
