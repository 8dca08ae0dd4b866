import Derived.Test.YtkgnmcekeeannaaZ16
import Derived.Test.YtkgnmcekeeannaaZ13
import Derived.StillTailTactics
namespace Go.Proofs.Ytkgnmcekeeannaa
open Go.RowKit Go.Deep
namespace Cod
open Pol (G fm fi prodBut share lag sumTo pw gauss gstep factor coef)
open Fld (ret_int val_int i64_xor_nat)

theorem apart_of {n : Nat} {ns : Nat → Nat} (hl : ∀ i, i < n → ns i < 16) (hd : ∀ i j, i < n → j < n → i ≠ j → ns i ≠ ns j) : Pol.Apart n (gx ns) := fun i j hi hj hne e => by
  have h1 := congrArg UInt8.toNat e
  unfold gx at h1
  rw [toNat_g (by have := hl i hi; omega), toNat_g (by have := hl j hj; omega)] at h1
  exact hd i j hi hj hne h1

theorem isEmpty_no (s : ByteArray) (h : 0 < s.size) : s.toList.isEmpty = false := by
  rw [ByteArray.toList_eq, List.isEmpty_eq_false_iff]
  intro e
  have : s.data.toList.length = 0 := by rw [e]; rfl
  have h2 : s.data.toList.length = s.size := by simp
  omega
theorem isEmpty_yes (s : ByteArray) (h : s.size = 0) : s.toList.isEmpty = true := by
  rw [ByteArray.toList_eq, List.isEmpty_iff]
  have h2 : s.data.toList.length = s.size := by simp
  exact List.length_eq_zero_iff.1 (by omega)

set_option maxHeartbeats 1000000 in
theorem refEncode_ok (data : ByteArray) (z sp k : Nat) (w : World) (hd : data.size ≤ maxLen) (hz1 : 1 ≤ z) (hz : z ≤ 16) (hk0 : 0 < k) (hk : k ≤ 8) (hdk : data.size = k * z) (hsp : sp ≤ 8) :
    Calls Try.prog 20 #[.string data, .int .i64 z, .int .i64 sp] w fun e w' => e = .returned (.tuple #[.string ⟨(flat z (symF k id data z k) sp).toArray⟩, .int .i64 0]) ∧ Below w.heap.size w w' := by
  unfold maxLen at hd
  have hq : data.size / z = k := by rw [hdk]; exact Nat.mul_div_cancel _ hz1
  have hr : data.size % z = 0 := by rw [hdk]; exact Nat.mul_mod_left _ _
  have h0 : 0 < data.size := by rw [hdk]; exact Nat.mul_pos hk0 hz1
  have t1 := isEmpty_no data h0
  have e2 : ((data.size : Int) % (z : Int)) = 0 := by rw [← Int.natCast_emod, hr]; rfl
  have e3 : ((data.size : Int) / (z : Int)) = (k : Int) := by rw [← hq]; simp
  have HC := refNumbers_nat k
  have HD : Hid (data.size = k * z) := hdk
  clear hdk hq hr
  go_enter Try.func20, Try.ntmps20
  go_wp2_with fail
  refine (HC _ hk).mono ?_
  rintro e w' ⟨v, rfl, hown, hbel⟩
  rw [ints_vals] at hown
  obtain ⟨b, cap, rfl, hb1, hb2, _, _, hc⟩ := row_cells hown hk0
  have HS := refSymbols_nat k sp k b 0 cap z id data w' (by omega) (fun i hi => by show i < 16; omega) (apart_of (fun i hi => by show i < 16; omega) (fun i j _ _ h => h)) hb2 hk hk0 hz1 hz HD.out (fun i hi => by rw [Nat.zero_add]; exact hc i hi)
  clear hown hc HC
  go_wp2_with fail
  refine HS.mono ?_
  rintro e w2 ⟨rfl, hbel2⟩
  clear HS
  have hb := hbel.trans (hbel2.mono hbel.size)
  go_wp2
  go_ret2
  exact ⟨rfl, hb⟩
theorem refEncode_size (data : ByteArray) (z sp : Int) (w : World) (hz : z < 1 ∨ 16 < z) :
    Calls Try.prog 20 #[.string data, .int .i64 z, .int .i64 sp] w fun e w' => e = .returned (.tuple #[.string nil, .int .i64 2]) ∧ w' = w := by
  by_cases h1 : z < 1
  · clear hz
    go_enter Try.func20, Try.ntmps20
    go_wp2
    go_ret2
    exact ⟨rfl, rfl⟩
  · have h2 : 16 < z := hz.resolve_left h1
    clear hz
    have h3 : 1 ≤ z := by omega
    clear h1
    go_enter Try.func20, Try.ntmps20
    go_wp2
    go_ret2
    exact ⟨rfl, rfl⟩
theorem refEncode_block (data : ByteArray) (z : Nat) (sp : Int) (w : World) (hd : data.size ≤ maxLen) (hz1 : 1 ≤ z) (hz : z ≤ 16) (hb : data.size = 0 ∨ data.size % z ≠ 0 ∨ 8 < data.size / z) :
    Calls Try.prog 20 #[.string data, .int .i64 z, .int .i64 sp] w fun e w' => e = .returned (.tuple #[.string nil, .int .i64 3]) ∧ w' = w := by
  unfold maxLen at hd
  have e2 : ((data.size : Int) % (z : Int)) = ((data.size % z : Nat) : Int) := (Int.natCast_emod _ _).symm
  have e3 : ((data.size : Int) / (z : Int)) = ((data.size / z : Nat) : Int) := (Int.natCast_ediv _ _).symm
  have hql : data.size / z ≤ data.size := Nat.div_le_self _ _
  generalize data.size % z = r at *
  generalize data.size / z = q at *
  by_cases h1 : data.size = 0
  · have t1 := isEmpty_yes data h1
    clear hb h1 e2 e3
    go_enter Try.func20, Try.ntmps20
    go_wp2
    go_ret2
    exact ⟨rfl, rfl⟩
  · have t1 := isEmpty_no data (by omega)
    by_cases h2 : r = 0
    · have t2 : (((r : Nat) : Int) != 0) = false := by simp [h2]
      have h3 : 8 < q := by omega
      clear hb h1 h2
      go_enter Try.func20, Try.ntmps20
      go_wp2
      go_ret2
      exact ⟨rfl, rfl⟩
    · have t2 : (((r : Nat) : Int) != 0) = true := by simp [h2]
      clear hb h1 h2
      go_enter Try.func20, Try.ntmps20
      go_wp2
      go_ret2
      exact ⟨rfl, rfl⟩
theorem refEncode_spare (data : ByteArray) (z : Nat) (sp : Int) (w : World) (hd : data.size ≤ maxLen) (hz1 : 1 ≤ z) (hz : z ≤ 16) (h0 : data.size ≠ 0) (hr : data.size % z = 0) (hq : data.size / z ≤ 8) (hs : sp < 0 ∨ 8 < sp) :
    Calls Try.prog 20 #[.string data, .int .i64 z, .int .i64 sp] w fun e w' => e = .returned (.tuple #[.string nil, .int .i64 4]) ∧ w' = w := by
  unfold maxLen at hd
  have e2 : ((data.size : Int) % (z : Int)) = ((data.size % z : Nat) : Int) := (Int.natCast_emod _ _).symm
  have e3 : ((data.size : Int) / (z : Int)) = ((data.size / z : Nat) : Int) := (Int.natCast_ediv _ _).symm
  rw [hr] at e2
  generalize data.size / z = q at *
  have t1 := isEmpty_no data (by omega)
  by_cases h1 : sp < 0
  · clear hs hr
    go_enter Try.func20, Try.ntmps20
    go_wp2
    go_ret2
    exact ⟨rfl, rfl⟩
  · have h2 : 8 < sp := hs.resolve_left h1
    have h3 : 0 ≤ sp := by omega
    clear hs h1 hr
    go_enter Try.func20, Try.ntmps20
    go_wp2
    go_ret2
    exact ⟨rfl, rfl⟩
/-- every Encode -/
theorem refEncode_any (data : ByteArray) (size spare : Int) (w : World) (hd : data.size ≤ maxLen) :
    Calls Try.prog 20 #[.string data, .int .i64 size, .int .i64 spare] w fun e w' => e = .returned (encV data size spare) ∧ Below w.heap.size w w' := by
  unfold encV encOut
  by_cases h1 : size < 1 ∨ 16 < size
  · simp only [h1, if_true]
    exact (refEncode_size data size spare w h1).mono fun e w' ⟨h, g⟩ => ⟨h, below_same g⟩
  · simp only [h1, if_false]
    obtain ⟨z, rfl⟩ := Int.eq_ofNat_of_zero_le (show 0 ≤ size by omega)
    simp only [Int.toNat_natCast]
    have hz1 : 1 ≤ z := by omega
    have hz : z ≤ 16 := by omega
    by_cases h2 : data.size = 0 ∨ data.size % z ≠ 0 ∨ 8 < data.size / z
    · simp only [h2, if_true]
      exact (refEncode_block data z spare w hd hz1 hz h2).mono fun e w' ⟨h, g⟩ => ⟨h, below_same g⟩
    · simp only [h2, if_false]
      by_cases h3 : spare < 0 ∨ 8 < spare
      · simp only [h3, if_true]
        exact (refEncode_spare data z spare w hd hz1 hz (fun e => h2 (.inl e)) (by omega) (by omega) h3).mono fun e w' ⟨h, g⟩ => ⟨h, below_same g⟩
      · simp only [h3, if_false]
        obtain ⟨sp, rfl⟩ := Int.eq_ofNat_of_zero_le (show 0 ≤ spare by omega)
        simp only [Int.toNat_natCast]
        have hr : data.size % z = 0 := by omega
        have hdk : data.size = data.size / z * z := (Nat.div_mul_cancel (Nat.dvd_of_mod_eq_zero hr)).symm
        have hk0 : 0 < data.size / z := by
          rcases Nat.eq_zero_or_pos (data.size / z) with h | h
          · rw [h, Nat.zero_mul] at hdk; exact absurd (.inl hdk) h2
          · exact h
        exact refEncode_ok data z sp (data.size / z) w hd hz1 hz hk0 (by omega) hdk (by omega)


theorem encodes_said (a0 : ByteArray) (a1 a2 : Int) (w0 : a0.size ≤ maxLen) (w : World) :
    Calls Try.prog 5 #[.string a0, .int .i64 a1, .int .i64 a2] w fun e w' => e = .returned (.bool true) ∧ Below w.heap.size w w' := by
  have H1 := rEncode a0 a1 a2 w w0
  have H2 := fun w => refEncode_any a0 a1 a2 w w0
  unfold encV at *
  generalize encOut a0 a1 a2 = o at *
  obtain ⟨o1, o2⟩ := o
  go_enter Try.func5, Try.ntmps5
  go_wp2_with fail
  refine H1.mono ?_
  rintro e w1 ⟨rfl, hb1⟩
  go_wp2_with fail
  refine (H2 _).mono ?_
  rintro e w2 ⟨rfl, hb2⟩
  clear H1 H2
  have hb := hb1.trans (hb2.mono hb1.size)
  go_wp2
  go_ret
  exact ⟨by simp, hb⟩
end Cod
end Go.Proofs.Ytkgnmcekeeannaa
namespace Go.Proofs.Ytkgnmcekeeannaa
open Go.RowKit Go.Deep
namespace Sn
open Bs
open Ms (txt text ok M)
set_option linter.unusedVariables false

theorem filledB_length (n : Nm) (o : ByteArray) (b : Nat) : (filledB n o b).length = n.many o.size b * n.size := by simp [filledB]
theorem symOf_length (n : Nm) (o : ByteArray) (b num : Nat) : (symOf n o b num).length = n.size := by unfold symOf; rw [Cod.flat_length]; omega
theorem dataM_ok (n : Nm) (hn : n.ok) (o : ByteArray) (i b num : Nat) (ho : 1 ≤ o.size ∧ o.size ≤ 256) (hi : i ≤ 7) (hb : b ≤ 255) (hnum : num ≤ 15) : ok (dataM n o i b num) := by
  refine .inl ⟨rfl, ?_⟩
  have hz : (txt (symOf n o b num)).size = n.size := by rw [Ms.txt_size, symOf_length]
  obtain ⟨h1, h2, _⟩ := hn
  exact ⟨by show (0 : Int) ≤ (i : Int); omega, by show (i : Int) ≤ 7; omega, by show (0 : Int) ≤ (b : Int); omega, by show (b : Int) ≤ 255; omega, by show (0 : Int) ≤ (num : Int); omega, by show (num : Int) ≤ 15; omega, by show (1 : Int) ≤ (o.size : Int); omega, by show (o.size : Int) ≤ 256; omega, by show 1 ≤ (txt (symOf n o b num)).size; omega, by show (txt (symOf n o b num)).size ≤ 16; omega, rfl, rfl⟩

/-- what a call that only reads a sender finds -/
structure SR (w : World) (P : Nat) (s : St) (g co : Nat) : Prop where
  c0 : w.cell? ⟨P, 0, none⟩ = some (.int .i64 s.n.size)
  c1 : w.cell? ⟨P, 1, none⟩ = some (.int .i64 s.n.block)
  c2 : w.cell? ⟨P, 2, none⟩ = some (.int .i64 s.n.spare)
  c3 : w.cell? ⟨P, 3, none⟩ = some (.slice (some ⟨g, 0, none⟩) s.objs.length co)
  lt : P < w.heap.size
  gl : g < w.heap.size
  ob : ∀ i, i < s.objs.length → w.cell? ⟨g, i, none⟩ = some (.string (objOf s i))
theorem SndAt.reads {w : World} {P : Nat} {s : St} {F : Nat → Prop} (h : SndAt w P s F) (h0 : 0 < s.objs.length) : ∃ g co, SR w P s g co := by
  obtain ⟨ao, co, ad, cd, h⟩ := h
  rcases h.ob.2 with ⟨_, e⟩ | ⟨g, cap, cur, e, _⟩
  · omega
  · simp only [Value.slice.injEq] at e
    obtain ⟨rfl, _, rfl⟩ := e
    have hc := h.ob.cells (g := g) rfl
    refine ⟨g, co, h.row.cell (by decide), h.row.cell (by decide), h.row.cell (by decide), h.row.cell (by decide), h.row.lt, (h.ob.lt g rfl).2, fun i hi => ?_⟩
    have := hc i (.string (objOf s i)) (by simp [strs, objOf, List.getD_eq_getElem?_getD, hi])
    rw [add_eq0] at this
    exact this
theorem SR.drawn {w : World} {P : Nat} {s : St} {g co : Nat} (h : SR w P s g co) (q : Nat) : SR (w.drewN q) P s g co := ⟨h.c0, h.c1, h.c2, h.c3, h.lt, h.gl, h.ob⟩
theorem SR.below {w w' : World} {P : Nat} {s : St} {g co : Nat} (h : SR w P s g co) (hb : Below w.heap.size w w') : SR w' P s g co := by
  have hs := hb.size
  have := h.lt
  have := h.gl
  exact ⟨(hb.cell (p := ⟨P, 0, none⟩) h.lt).trans h.c0, (hb.cell (p := ⟨P, 1, none⟩) h.lt).trans h.c1, (hb.cell (p := ⟨P, 2, none⟩) h.lt).trans h.c2, (hb.cell (p := ⟨P, 3, none⟩) h.lt).trans h.c3, by omega, by omega, fun i hi => (hb.cell (p := ⟨g, i, none⟩) h.gl).trans (h.ob i hi)⟩

set_option maxRecDepth 100000 in
set_option maxHeartbeats 4000000 in
theorem refSymbol (s : St) (i b num P g co : Nat) (w : World) (hs : SOk s) (hi : i < s.objs.length) (hbb : b ≤ 255) (hk : 0 < s.n.many (objOf s i).size b) (hnum : num ≤ 15) (hR : SR w P s g co) :
    Calls Try.prog 97 #[.pointer (some ⟨P, 0, none⟩), .int .i64 i, .int .i64 b, .int .i64 num] w fun e w' => e = .returned (.string (txt (symOf s.n (objOf s i) b num))) ∧ Below w.heap.size w w' := by
  have ho : 1 ≤ (objOf s i).size ∧ (objOf s i).size ≤ 256 := by
    have e : objOf s i = s.objs[i] := by simp [objOf, List.getD_eq_getElem?_getD, hi]
    rw [e]; exact hs.sz _ (List.getElem_mem hi)
  have hM := many_le s.n (objOf s i).size b
  have HMA := fun W => many_any s.n (objOf s i).size b W hs.nok (by omega) (by omega)
  have cO := hR.ob i hi
  have x0 := hR.c0
  have x1 := hR.c1
  have x2 := hR.c2
  have x3 := hR.c3
  have hlen := hs.len
  have HSO : Hid (symOf s.n (objOf s i) b num = Cod.flat s.n.size (Cod.symF (s.n.many (objOf s i).size b) id (txt (filledB s.n (objOf s i) b)) s.n.size num) 1) := rfl
  have HFB : Hid (filledB s.n (objOf s i) b = (List.range (s.n.many (objOf s i).size b * s.n.size)).map (fun j => (objOf s i).data.toList.getD (b * s.n.block * s.n.size + j) 0)) := rfl
  have HRR : Hid (SR w P s g co) := hR
  obtain ⟨h1, h2, h3, h4, h5⟩ := hs.nok
  rw [HSO.out]
  generalize objOf s i = o at *
  generalize filledB s.n o b = FB at *
  generalize s.n.many o.size b = k at *
  obtain ⟨L, hL⟩ : ∃ L, L = s.objs.length := ⟨_, rfl⟩
  rw [← hL] at hi x3 hlen
  obtain ⟨z, hz⟩ : ∃ z, z = s.n.size := ⟨_, rfl⟩
  obtain ⟨bk, hbk⟩ : ∃ z, z = s.n.block := ⟨_, rfl⟩
  obtain ⟨sp, hsp⟩ : ∃ z, z = s.n.spare := ⟨_, rfl⟩
  simp only [nmV] at HMA
  rw [← hz] at x0 h1 h2 HFB ⊢
  rw [← hbk] at x1 h3 h4 hM HFB
  rw [← hsp] at x2 h5
  rw [← hz, ← hbk, ← hsp] at HMA
  have HZ : Hid (z = s.n.size) := hz
  have HBK : Hid (bk = s.n.block) := hbk
  have HLN : Hid (L = s.objs.length) := hL
  clear hL hz hbk hsp HSO hs
  obtain ⟨Q1, hQ1⟩ : ∃ Q, Q = b * bk := ⟨_, rfl⟩
  have q1b : Q1 ≤ 255 * 8 := by rw [hQ1]; exact Nat.mul_le_mul hbb h4
  have q1 : (b : Int) * (bk : Int) = (Q1 : Int) := by rw [hQ1]; simp
  rw [← hQ1] at HFB
  obtain ⟨Q2, hQ2⟩ : ∃ Q, Q = Q1 * z := ⟨_, rfl⟩
  have q2b : Q2 ≤ 255 * 8 * 16 := by rw [hQ2]; exact Nat.mul_le_mul q1b h2
  have q2 : (Q1 : Int) * (z : Int) = (Q2 : Int) := by rw [hQ2]; simp
  rw [← hQ2] at HFB
  obtain ⟨R, hRz⟩ : ∃ Q, Q = k * z := ⟨_, rfl⟩
  have rb : R ≤ 8 * 16 := by rw [hRz]; exact Nat.mul_le_mul (by omega) h2
  have r1 : (k : Int) * (z : Int) = (R : Int) := by rw [hRz]; simp
  have HRZ : Hid (R = k * z) := hRz
  rw [← hRz] at HFB
  clear hQ1 hQ2 hRz
  have e1 : IntKind.i64.wrap (Q1 : Int) = (Q1 : Int) := IntWalk.i64_in _ ⟨by omega, by omega⟩
  have e2 : IntKind.i64.wrap (Q2 : Int) = (Q2 : Int) := IntWalk.i64_in _ ⟨by omega, by omega⟩
  have hmk := run_make_row' (P := Try.prog) 97 5 (.int .u8 0) 1 Try.underlying97 infoByte rfl .i64 .i64 R (by omega) (by omega)
  go_enter Try.func97, Try.ntmps97
  go_wp2_with fail
  refine (HMA _).mono ?_
  rintro e w1 ⟨rfl, hb1⟩
  have HR1 : Hid (SR w1 P s g co) := HRR.out.below hb1
  have B1 : Below w.heap.size w w1 := hb1
  have y0 : w1.cell? ⟨P, 0, none⟩ = some (.int .i64 z) := by rw [HZ.out]; exact HR1.out.c0
  have y1 : w1.cell? ⟨P, 1, none⟩ = some (.int .i64 bk) := by rw [HBK.out]; exact HR1.out.c1
  clear HMA x0 x1 x2 x3 cO hb1
  go_wp2_with fail
  go_quiet (fail)
  have HR2 : Hid (SR (w1.drewN nq) P s g co) := HR1.out.drawn nq
  have B2 : Below w.heap.size w (w1.drewN nq) := below_drewN B1 nq
  clear HR1 B1 y0 y1
  generalize w1.drewN nq = w2 at *
  have y0 : w2.cell? ⟨P, 0, none⟩ = some (.int .i64 z) := by rw [HZ.out]; exact HR2.out.c0
  obtain ⟨N, hN⟩ : ∃ N, N = w2.heap.size := ⟨_, rfl⟩
  have R0 : Hid ((w2.alloc (.cells (madeCells #[.int .u8 0] R) 5)).rowIs N 5 R (fun j => if j < 0 then bv (o.data.toList.getD (Q2 + j) 0) else .int .u8 0)) := by
    unfold Hid; rw [hN]; exact (World.rowIs_made w2 (.int .u8 0) R 5).congr (fun j _ => by simp)
  have B3 : Below w.heap.size w (w2.alloc (.cells (madeCells #[.int .u8 0] R) 5)) := B2.alloc B2.size _
  have HR3 : Hid (SR (w2.alloc (.cells (madeCells #[.int .u8 0] R) 5)) P s g co) := HR2.out.below ((Below.refl _ _).alloc (Nat.le_refl _) _)
  have hNw : w.heap.size ≤ N := by rw [hN]; exact B2.size
  have hNP : P < N ∧ g < N := by rw [hN]; exact ⟨HR2.out.lt, HR2.out.gl⟩
  obtain ⟨hNP1, hNP2⟩ := hNP
  have hN' : w2.heap.size = N := hN.symm
  clear hN B2 HR2
  go_wp2
  go_loopw [13] (fun x wr => ∃ i' : Nat, i' ≤ R ∧ x = .int .i64 i' ∧ wr.rowIs N 5 R (fun j => if j < i' then bv (o.data.toList.getD (Q2 + j) 0) else .int .u8 0) ∧ Below w.heap.size w wr ∧ SR wr P s g co) (fun x _ => R - (intOf x).toNat)
  case atStart => exact ⟨0, Nat.zero_le _, rfl, R0.out, B3, HR3.out⟩
  case round =>
    clear R0 B3 HR3 y0 hN'
    obtain ⟨i', hi', rfl, hRow, hB, hSR⟩ := hrel
    have HSR : Hid (SR wr P s g co) := hSR
    clear hSR
    by_cases hlt : i' < R ∧ Q2 + i' < o.size
    · obtain ⟨l1, l2⟩ := hlt
      obtain ⟨p, hp⟩ : ∃ p, p = Q2 + i' := ⟨_, rfl⟩
      have pe : (Q2 : Int) + (i' : Int) = (p : Int) := by omega
      rw [← hp] at l2
      have oc := hRow.cell l1
      simp only [Nat.lt_irrefl, if_false] at oc
      have of := hRow.frozen i'
      have HV : Hid ((o[p].toNat : Nat) = (o.data.toList.getD (Q2 + i') 0).toNat) := by
        unfold Hid
        rw [← hp, List.getD_eq_getElem?_getD, List.getElem?_eq_getElem (by simpa using l2)]; rfl
      have HR2 : Hid ((wr.setCell ⟨N, i', none⟩ (.int .u8 (o[p].toNat : Nat))).rowIs N 5 R (fun j => if j < i' + 1 then bv (o.data.toList.getD (Q2 + j) 0) else .int .u8 0)) := (hRow.set i' _).congr (fun j _ => by
        by_cases e : j = i'
        · subst e; simp only [if_true, show j < j + 1 by omega, bv]; rw [HV.out]
        · by_cases e2 : j < i'
          · simp [e, e2, show j < i' + 1 by omega]
          · simp [e, e2, show ¬ j < i' + 1 by omega])
      have hB2 : Below w.heap.size w (wr.setCell ⟨N, i', none⟩ (.int .u8 (o[p].toNat : Nat))) := hB.setCell hNw _
      have HSR2 : Hid (SR (wr.setCell ⟨N, i', none⟩ (.int .u8 (o[p].toNat : Nat))) P s g co) := by
        have h := HSR.out
        have k1 : ∀ j v, wr.cell? ⟨P, j, none⟩ = some v → (wr.setCell ⟨N, i', none⟩ (.int .u8 (o[p].toNat : Nat))).cell? ⟨P, j, none⟩ = some v := fun j v hv => (World.cell?_of_block (a := ⟨P, j, none⟩) (heap_setCell_other _ _ _ _ (by show P ≠ N; omega))).trans hv
        exact ⟨k1 _ _ h.c0, k1 _ _ h.c1, k1 _ _ h.c2, k1 _ _ h.c3, by simp; exact h.lt, by simp; exact h.gl, fun i hi => (World.cell?_of_block (a := ⟨g, i, none⟩) (heap_setCell_other _ _ _ _ (by show g ≠ N; omega))).trans (h.ob i hi)⟩
      clear hRow hB HSR hp
      go_wp2
      go_roundw
      case rel => exact ⟨i' + 1, by omega, by go_num, HR2.out, hB2, HSR2.out⟩
      case measure => simp [intOf]; omega
    · have hRow2 : wr.rowIs N 5 R (fun j => bv (o.data.toList.getD (Q2 + j) 0)) := hRow.congr (fun j hj => by
        by_cases e : j < i'
        · simp [e]
        · have : o.size ≤ Q2 + j := by omega
          have e0 : o.data.toList.getD (Q2 + j) 0 = 0 := by rw [List.getD_eq_getElem?_getD, List.getElem?_eq_none (by simpa using this)]; rfl
          rw [e0]; simp [e, bv])
      have HRow : Hid (wr.rowIs N 5 R (fun j => bv (o.data.toList.getD (Q2 + j) 0))) := hRow2
      have HNM := Cod.refNumbers_nat k wr (by omega)
      clear hRow hRow2
      have hex : ¬ ((i' : Int) < (R : Int)) ∨ ((i' : Int) < (R : Int) ∧ (o.size : Int) ≤ (Q2 : Int) + (i' : Int)) := by omega
      clear hlt
      have key : True := trivial
      rcases hex with hx | ⟨hx, hx2⟩
      all_goals
        go_wp2_with fail
        refine HNM.mono ?_
        rintro e w3 ⟨v, rfl, hown, hb3⟩
        rw [Cod.ints_vals] at hown
        obtain ⟨nb, ncap, rfl, hnb1, hnb2, _, _, hnc⟩ := Cod.row_cells hown hk
        have B4 : Below w.heap.size w w3 := hB.trans (hb3.mono hB.size)
        have R3 := HRow.out.of_block (hb3.block N HRow.out.lt)
        have S3 := HSR.out.below hb3
        clear HNM hown hb3 hB
        go_wp2_with fail
        refine wp_region_still_tail 9 (by kernel_rfl) (by kernel_rfl) ?_
        change wpStill _ _ (World.drew _) (fun a' => wpList _ _ _ _ a' (World.drew _)) _ _
        obtain ⟨wd, hwd⟩ : ∃ wd, wd = w3.drew := ⟨_, rfl⟩
        have y0 : wd.cell? ⟨P, 0, none⟩ = some (.int .i64 z) := by rw [hwd, HZ.out]; exact S3.c0
        have hfl : FB.length = R := by rw [HFB.out]; simp
        have hcv : (convert 97 9 (.slice (some ⟨N, 0, none⟩) R R)).run Try.prog wd = .ok (.string (txt FB)) wd := by
          rw [hwd]
          exact conv_row (w := w3.drew) FB hfl R3 (fun j hj x hx => by
            rw [HFB.out] at hx
            rw [List.getElem?_map, List.getElem?_range hj] at hx
            simp only [Option.map_some, Option.some.injEq] at hx
            rw [hx])
        have HY := Cod.refSymbols_nat num 1 k nb 0 ncap z id (txt FB) wd (by omega) (fun i hi => by show i < 16; omega) (Cod.apart_of (fun i hi => by show i < 16; omega) (fun i j _ _ h => h)) (by rw [hwd]; exact hnb2) (by omega) hk h1 h2 (by rw [Ms.txt_size, hfl]; exact HRZ.out) (fun i hi => by rw [Nat.zero_add, hwd]; exact hnc i hi)
        have BD : Below w.heap.size w wd := by rw [hwd]; exact B4.drew
        simp only [← hwd]
        clear hwd R3 S3 hnc B4 hfl
        simp only [List.take_succ_cons, List.take_zero, List.drop_succ_cons, List.drop_zero]
        repeat still_step
        refine wpStill_nil ?_
        go_wp2_with fail
        refine HY.mono ?_
        rintro e w4 ⟨rfl, hb4⟩
        have B5 : Below w.heap.size w w4 := BD.trans (hb4.mono BD.size)
        clear HY hb4 BD
        go_wp2
        go_ret
        exact ⟨rfl, B5⟩
end Sn
end Go.Proofs.Ytkgnmcekeeannaa
