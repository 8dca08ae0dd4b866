import Derived.Test.YtkgnmcekeeannaaGreatY08
import Derived.Test.YtkgnmcekeeannaaGreatY06
namespace Go.Proofs.YtkgnmcekeeannaaGreat
open Go.RowKit Go.Deep
namespace Sn
open Bs
open Ms (Two two_block two_size two_grown two_new wpList_append_two owns_mono owns_setCell size_isEmpty)
set_option linter.unusedVariables false

theorem blocks_le (n : Nm) (hn : n.ok) (len : Nat) (h : len ≤ 256) : n.blocks len ≤ 256 := by
  have h1 := all_le n hn len h
  unfold Nm.blocks
  obtain ⟨_, _, h3, _⟩ := hn
  generalize n.all len = A at *
  by_cases h0 : A = 0
  · subst h0; rw [Nat.zero_add, Nat.div_eq_of_lt (by omega)]; omega
  · have : (A + n.block - 1) / n.block ≤ A := by
      rw [Nat.div_le_iff_le_mul (by omega)]
      have : A * n.block ≥ A := Nat.le_mul_of_pos_right _ (by omega)
      have h2 : A * n.block + n.block - 1 = A * n.block + (n.block - 1) := by omega
      omega
    omega
/-- what always holds of a sender -/
structure SOk (s : St) : Prop where
  nok : s.n.ok
  len : s.objs.length ≤ 8
  sz : ∀ o ∈ s.objs, 1 ≤ o.size ∧ o.size ≤ 256
  dl : s.debts.length ≤ 256 * s.objs.length
theorem news4 {w : World} {x y z u : Value} {t : TypeId} : ∀ j v, ([x, y, z, u] : List Value)[j]? = some v → (w.alloc (.cells #[x, y, z, u] t)).cell? ((⟨w.heap.size, 0, none⟩ : Addr).add j) = some v := by
  intro j v hj
  rw [add_eq0]
  have h : (w.alloc (.cells #[x, y, z, u] t)).heap[w.heap.size]? = some (.cells #[x, y, z, u] t) := heap_alloc_new w _
  simp only [World.cell?]
  rw [h]
  simpa using hj
def grow (F : Nat → Prop) (w w' : World) : Nat → Prop := fun b => F b ∨ (w.heap.size ≤ b ∧ b < w'.heap.size)
theorem SI.done {w wr : World} {P : Nat} {n : Nm} {objs : List ByteArray} {ds : List Db} {sent : Nat} {F : Nat → Prop} {ao : Option Addr} {co : Nat} {ad : Option Addr} {cd : Nat}
    (h : SI w wr P n objs ds sent F ao co ad cd) : SndAt wr P ⟨n, objs, ds, sent⟩ (grow F w wr) :=
  ⟨ao, co, ad, cd, h.row, h.ob, h.db, .inl h.fP, h.op, h.dp, h.od,
    fun b hb => .inl ((h.fo b hb).elim .inl (fun e => .inr ⟨e, (h.ob.lt b hb).2⟩)), fun b hb => .inl ((h.fd b hb).elim .inl (fun e => .inr ⟨e, (h.db.lt b hb).2⟩)), Touch.refl _ _⟩
theorem SndAt.grows {w : World} {P : Nat} {s : St} {F : Nat → Prop} (h : SndAt w P s F) (w' : World) : SndAt w P s (grow F w w') := by
  obtain ⟨ao, co, ad, cd, h⟩ := h
  exact ⟨ao, co, ad, cd, h.row, h.ob, h.db, .inl h.fP, h.op, h.dp, h.od, fun b hb => (h.fo b hb).elim (fun e => .inl (.inl e)) .inr, fun b hb => (h.fd b hb).elim (fun e => .inl (.inl e)) .inr, Touch.refl _ _⟩
def firsts (i j : Nat) : List Db := (List.range j).map (fun b => ⟨i, b, 0, 0⟩)
theorem firsts_succ (i j : Nat) : firsts i (j + 1) = firsts i j ++ [⟨i, j, 0, 0⟩] := by simp [firsts, List.range_succ]

set_option maxRecDepth 100000 in
set_option maxHeartbeats 4000000 in
theorem refEnqueue (s : St) (o : ByteArray) (P : Nat) (F : Nat → Prop) (w : World) (hs : SOk s) (ho : o.size ≤ maxLen) (hA : SndAt w P s F) :
    Calls Tryz.prog 20 #[.pointer (some ⟨P, 0, none⟩), .string o] w fun e w' => e = .returned (.tuple #[.int .i64 (enq s o).2.1, .int .i64 (enq s o).2.2]) ∧ SndAt w' P (enq s o).1 (grow F w w') ∧ Touch w w' F := by
  unfold maxLen at ho
  by_cases h1 : o.size = 0 ∨ 256 < o.size
  · have HE : Hid (enq s o = (s, 0, 7)) := by unfold Hid enq; rw [if_pos h1]
    have HA : Hid (SndAt w P s F) := hA
    rw [HE.out]
    clear hA
    rcases h1 with h | h
    · have t : o.toList.isEmpty = true := by rw [size_isEmpty]; exact decide_eq_true h
      clear h
      go_enter Tryz.func20, Tryz.ntmps20
      go_wp2
      go_ret2
      exact ⟨rfl, HA.out.grows w, Touch.refl _ _⟩
    · have t : o.toList.isEmpty = false := by rw [size_isEmpty]; exact decide_eq_false (by omega)
      go_enter Tryz.func20, Tryz.ntmps20
      go_wp2
      go_ret2
      exact ⟨rfl, HA.out.grows w, Touch.refl _ _⟩
  · have t : o.toList.isEmpty = false := by rw [size_isEmpty]; exact decide_eq_false (by omega)
    have ho2 : o.size ≤ 256 := by omega
    obtain ⟨ao, co, ad, cd, hI⟩ := hA
    have c3 : w.cell? ⟨P, 3, none⟩ = some (.slice ao s.objs.length co) := hI.row.cell (by decide)
    have f3 := hI.row.frozen 3
    have hlen := hs.len
    have HI : Hid (SI w w P s.n s.objs s.debts s.sent F ao co ad cd) := hI
    by_cases h2 : s.objs.length = 8
    · have HE : Hid (enq s o = (s, 0, 8)) := by unfold Hid enq; rw [if_neg h1, if_pos h2]
      rw [HE.out]
      have t2 : ((s.objs.length : Int) == 8) = true := by rw [h2]; rfl
      clear hI h1 h2
      go_enter Tryz.func20, Tryz.ntmps20
      go_wp2
      go_ret2
      exact ⟨rfl, SndAt.grows (show SndAt w P s F from ⟨ao, co, ad, cd, HI.out⟩) w, Touch.refl _ _⟩
    · have HE : Hid (enq s o = ((⟨s.n, s.objs ++ [o], s.debts ++ firsts s.objs.length (s.n.blocks o.size), s.sent⟩ : St), (s.objs.length : Int), (0 : Int))) := by unfold Hid enq; rw [if_neg h1, if_neg h2]; rfl
      rw [HE.out]
      have t2 : ((s.objs.length : Int) == 8) = false := by simp; omega
      have dlb : s.debts.length ≤ 2048 := by have := hs.dl; omega
      have HBL := fun W => blocks_any s.n o.size W hs.nok (by omega)
      have hB := blocks_le s.n hs.nok o.size ho2
      obtain ⟨i0, hi, hz0, hz1, hz2⟩ := info_parts3 infoStr
      obtain ⟨i1, ki, kz0, kz1, kz2⟩ := info_parts3 infoDebt
      obtain ⟨n, objs, ds, sent⟩ := s
      simp only at *
      obtain ⟨L, hL⟩ : ∃ L, L = objs.length := ⟨_, rfl⟩
      have HL : Hid (L = objs.length) := hL
      clear hI h1 h2 hs
      generalize n.blocks o.size = Bn at *
      rw [← hL] at c3 t2 hlen ⊢
      have OB : Hid (w.ownsRow 0 9 1 (.slice ao L co) L (strs objs)) := by unfold Hid; rw [hL]; exact HI.out.ob
      clear hL
      go_enter Tryz.func20, Tryz.ntmps20
      go_wp2_with (at_builtin; refine wpList_append_two _ rfl _ _ 45 rfl 9 i0 (.string ⟨#[]⟩) 1 16 Tryz.underlying45 hi hz0 hz1 hz2 rfl (by decide) (.slice ao L co) L (strs objs) rfl (OB.out.alloc _) ⟨w.heap.size, 0, none⟩ 1 1 [.string o] rfl rfl (cell_one_new _ _ _) (by intro u hu; simp at hu; subst hu; rfl) (by unfold maxLen; omega) (by omega) (by decide) ?_)
      intro v' w1 hown' h2
      obtain ⟨ao2, co2, rfl⟩ := owns_form hown'
      rw [HL.out] at hown' h2
      have HI1 := HI.out.more_o hown' h2
      have R1 := HI.out.row.of_block (two_block h2 P HI.out.row.lt HI.out.op)
      have c3' : w1.cell? ⟨P, 3, none⟩ = some (.slice ao objs.length co) := R1.cell (by decide)
      have f3' := R1.frozen 3
      rw [← HL.out] at HI1
      have HI1' : Hid (SI w (w1.setCell ⟨P, 3, none⟩ (.slice ao2 (L + 1) co2)) P n (objs ++ [o]) ds sent F ao2 co2 ad cd) := HI1
      have x0 : (w1.setCell ⟨P, 3, none⟩ (.slice ao2 (L + 1) co2)).cell? ⟨P, 0, none⟩ = some (.int .i64 n.size) := HI1.row.cell (by decide)
      have x1 : (w1.setCell ⟨P, 3, none⟩ (.slice ao2 (L + 1) co2)).cell? ⟨P, 1, none⟩ = some (.int .i64 n.block) := HI1.row.cell (by decide)
      have x2 : (w1.setCell ⟨P, 3, none⟩ (.slice ao2 (L + 1) co2)).cell? ⟨P, 2, none⟩ = some (.int .i64 n.spare) := HI1.row.cell (by decide)
      clear hown' h2 HI1 R1 HI OB c3 f3
      go_upto_region 7 with fail
      clear c3' f3'
      generalize w1.setCell ⟨P, 3, none⟩ (.slice ao2 (L + 1) co2) = W1 at *
      have HB := HBL W1
      go_wp2_with fail
      refine HB.mono ?_
      rintro e w2 ⟨rfl, hb2⟩
      have HI2 : Hid (SI w w2 P n (objs ++ [o]) (ds ++ firsts L 0) sent F ao2 co2 ad cd) := by
        unfold Hid
        have h := HI1'.out.below hb2
        have e : ds ++ firsts L 0 = ds := by simp [firsts]
        rw [e]
        exact h
      clear HB HBL hb2 HI1' x0 x1 x2
      go_wp2
      go_loopw [8] (fun x wr => ∃ (j : Nat) (ad : Option Addr) (cd : Nat), j ≤ Bn ∧ x = .int .i64 j ∧ SI w wr P n (objs ++ [o]) (ds ++ firsts L j) sent F ao2 co2 ad cd) (fun x _ => Bn - (intOf x).toNat)
      case atStart => exact ⟨0, ad, cd, Nat.zero_le _, rfl, HI2.out⟩
      case round =>
        clear HI2
        obtain ⟨j, ad, cd, hj, rfl, hS⟩ := hrel
        have HS : Hid (SI w wr P n (objs ++ [o]) (ds ++ firsts L j) sent F ao2 co2 ad cd) := hS
        obtain ⟨D, hD⟩ : ∃ D, D = (ds ++ firsts L j).length := ⟨_, rfl⟩
        have HD : Hid (D = (ds ++ firsts L j).length) := hD
        have hD2 : D ≤ 4096 := by rw [hD]; simp [firsts]; omega
        have c4 : wr.cell? ⟨P, 4, none⟩ = some (.slice ad D cd) := by rw [hD]; exact hS.row.cell (by decide)
        have DB : Hid (wr.ownsRow 0 93 4 (.slice ad D cd) D (dvs (ds ++ firsts L j))) := by unfold Hid; rw [hD]; exact hS.db
        clear hS hD
        by_cases hlt : j < Bn
        · obtain ⟨XS, hXS⟩ : ∃ XS, XS = dvs (ds ++ firsts L j) := ⟨_, rfl⟩
          have HXS : Hid (XS = dvs (ds ++ firsts L j)) := hXS
          rw [← hXS] at DB
          clear hXS
          go_wp2_with (at_builtin; refine wpList_append_two _ rfl _ _ 86 rfl 93 i1 (.agg #[.int .i64 0, .int .i64 0, .int .i64 0, .int .i64 0]) 4 32 Tryz.underlying86 ki kz0 kz1 kz2 rfl (by decide) (.slice ad D cd) D XS rfl (DB.out.alloc _) ⟨wr.heap.size, 0, none⟩ 1 1 [.int .i64 L, .int .i64 j, .int .i64 0, .int .i64 0] rfl rfl news4 (by intro u hu; simp at hu; rcases hu with rfl | rfl | rfl <;> rfl) (by unfold maxLen; omega) (by omega) (by decide) ?_)
          intro v' w3 hown' h2
          obtain ⟨ad2, cd2, rfl⟩ := owns_form hown'
          rw [HXS.out, HD.out] at hown'
          rw [HD.out] at h2
          have HS1 := HS.out.more_d (d := ⟨L, j, 0, 0⟩) hown' h2
          have R1 := HS.out.row.of_block (two_block h2 P HS.out.row.lt HS.out.dp)
          have c4' : w3.cell? ⟨P, 4, none⟩ = some (.slice ad (ds ++ firsts L j).length cd) := R1.cell (by decide)
          have f4' := R1.frozen 4
          rw [← HD.out, List.append_assoc, ← firsts_succ] at HS1
          have HS2 : Hid (SI w (w3.setCell ⟨P, 4, none⟩ (.slice ad2 (D + 1) cd2)) P n (objs ++ [o]) (ds ++ firsts L (j + 1)) sent F ao2 co2 ad2 cd2) := HS1
          clear hown' h2 HS1 R1 HS DB c4
          go_wp2
          go_roundw
          case rel => exact ⟨j + 1, ad2, cd2, by omega, by go_num, HS2.out⟩
          case measure => simp [intOf]; omega
        · obtain rfl : j = Bn := by omega
          clear c4
          go_wp2
          go_ret2
          exact ⟨rfl, HS.out.done, HS.out.touch⟩
end Sn
end Go.Proofs.YtkgnmcekeeannaaGreat
namespace Go.Proofs.YtkgnmcekeeannaaGreat
open Go.RowKit
namespace Cod
open Pol (G fm fi prodBut share lag sumTo)
open Fld (ret_int val_int i64_xor_nat)

def nil : ByteArray := ⟨#[]⟩
/-- what Encode answers -/
def encOut (data : ByteArray) (size spare : Int) : ByteArray × Int :=
  if size < 1 ∨ 16 < size then (nil, 2)
  else if data.size = 0 ∨ data.size % size.toNat ≠ 0 ∨ 8 < data.size / size.toNat then (nil, 3)
  else if spare < 0 ∨ 8 < spare then (nil, 4)
  else (⟨(flat size.toNat (symF (data.size / size.toNat) id data size.toNat (data.size / size.toNat)) spare.toNat).toArray⟩, 0)

abbrev encV (data : ByteArray) (size spare : Int) : Value := .tuple #[.string (encOut data size spare).1, .int .i64 (encOut data size spare).2]

theorem ints_vals (k : Nat) : ints k = vals (fun i => .int .i64 (i : Nat)) k := rfl

set_option maxHeartbeats 1000000 in
theorem encode_ok (data : ByteArray) (z sp k : Nat) (w : World) (hd : data.size ≤ maxLen) (hz1 : 1 ≤ z) (hz : z ≤ 16) (hk0 : 0 < k) (hk : k ≤ 8) (hdk : data.size = k * z) (hsp : sp ≤ 8) :
    Calls Tryz.prog 89 #[.string data, .int .i64 z, .int .i64 sp] w fun e w' => e = .returned (.tuple #[.string ⟨(flat z (symF k id data z k) sp).toArray⟩, .int .i64 0]) ∧ Below w.heap.size w w' := by
  unfold maxLen at hd
  have hq : data.size / z = k := by rw [hdk]; exact Nat.mul_div_cancel _ hz1
  have hr : data.size % z = 0 := by rw [hdk]; exact Nat.mul_mod_left _ _
  have h0 : 0 < data.size := by rw [hdk]; exact Nat.mul_pos hk0 hz1
  have t1 : (((data.size : Nat) : Int) == 0) = false := beq_eq_false_iff_ne.2 (by omega)
  have e2 : ((data.size : Int) % (z : Int)) = 0 := by rw [← Int.natCast_emod, hr]; rfl
  have e3 : ((data.size : Int) / (z : Int)) = (k : Int) := by rw [← hq]; simp
  have HC := numbersBelow_nat k
  have HD : Hid (data.size = k * z) := hdk
  clear hdk hq hr
  go_enter Tryz.func89, Tryz.ntmps89
  go_wp2_with fail
  refine (HC _ hk).mono ?_
  rintro e w' ⟨v, rfl, hown, hbel⟩
  rw [ints_vals] at hown
  obtain ⟨b, cap, rfl, hb1, hb2, _, _, hc⟩ := row_cells hown hk0
  have HS := symbolsFrom_nat k sp k b 0 cap z id data w' (by omega) (fun i hi => by show i < 16; omega) hb2 hk hk0 hz1 hz HD.out (fun i hi => by rw [Nat.zero_add]; exact hc i hi)
  clear hown hc HC
  go_wp2_with fail
  refine HS.mono ?_
  rintro e w2 ⟨rfl, hbel2⟩
  clear HS
  have hb := hbel.trans (hbel2.mono hbel.size)
  go_wp2
  go_ret2
  exact ⟨rfl, hb⟩
theorem encode_size (data : ByteArray) (z sp : Int) (w : World) (hz : z < 1 ∨ 16 < z) :
    Calls Tryz.prog 89 #[.string data, .int .i64 z, .int .i64 sp] w fun e w' => e = .returned (.tuple #[.string nil, .int .i64 2]) ∧ w' = w := by
  by_cases h1 : z < 1
  · clear hz
    go_enter Tryz.func89, Tryz.ntmps89
    go_wp2
    go_ret2
    exact ⟨rfl, rfl⟩
  · have h2 : 16 < z := hz.resolve_left h1
    clear hz
    have h3 : 1 ≤ z := by omega
    clear h1
    go_enter Tryz.func89, Tryz.ntmps89
    go_wp2
    go_ret2
    exact ⟨rfl, rfl⟩
theorem encode_block (data : ByteArray) (z : Nat) (sp : Int) (w : World) (hd : data.size ≤ maxLen) (hz1 : 1 ≤ z) (hz : z ≤ 16) (hb : data.size = 0 ∨ data.size % z ≠ 0 ∨ 8 < data.size / z) :
    Calls Tryz.prog 89 #[.string data, .int .i64 z, .int .i64 sp] w fun e w' => e = .returned (.tuple #[.string nil, .int .i64 3]) ∧ w' = w := by
  unfold maxLen at hd
  have e2 : ((data.size : Int) % (z : Int)) = ((data.size % z : Nat) : Int) := (Int.natCast_emod _ _).symm
  have e3 : ((data.size : Int) / (z : Int)) = ((data.size / z : Nat) : Int) := (Int.natCast_ediv _ _).symm
  have hql : data.size / z ≤ data.size := Nat.div_le_self _ _
  generalize data.size % z = r at *
  generalize data.size / z = q at *
  by_cases h1 : data.size = 0
  · have t1 : (((data.size : Nat) : Int) == 0) = true := by simp [h1]
    clear hb h1 e2 e3
    go_enter Tryz.func89, Tryz.ntmps89
    go_wp2
    go_ret2
    exact ⟨rfl, rfl⟩
  · have t1 : (((data.size : Nat) : Int) == 0) = false := by simp [h1]
    by_cases h2 : r = 0
    · have t2 : (((r : Nat) : Int) != 0) = false := by simp [h2]
      have h3 : 8 < q := by omega
      clear hb h1 h2
      go_enter Tryz.func89, Tryz.ntmps89
      go_wp2
      go_ret2
      exact ⟨rfl, rfl⟩
    · have t2 : (((r : Nat) : Int) != 0) = true := by simp [h2]
      clear hb h1 h2
      go_enter Tryz.func89, Tryz.ntmps89
      go_wp2
      go_ret2
      exact ⟨rfl, rfl⟩
theorem encode_spare (data : ByteArray) (z : Nat) (sp : Int) (w : World) (hd : data.size ≤ maxLen) (hz1 : 1 ≤ z) (hz : z ≤ 16) (h0 : data.size ≠ 0) (hr : data.size % z = 0) (hq : data.size / z ≤ 8) (hs : sp < 0 ∨ 8 < sp) :
    Calls Tryz.prog 89 #[.string data, .int .i64 z, .int .i64 sp] w fun e w' => e = .returned (.tuple #[.string nil, .int .i64 4]) ∧ w' = w := by
  unfold maxLen at hd
  have e2 : ((data.size : Int) % (z : Int)) = ((data.size % z : Nat) : Int) := (Int.natCast_emod _ _).symm
  have e3 : ((data.size : Int) / (z : Int)) = ((data.size / z : Nat) : Int) := (Int.natCast_ediv _ _).symm
  rw [hr] at e2
  generalize data.size / z = q at *
  have t1 : (((data.size : Nat) : Int) == 0) = false := by simp [h0]
  by_cases h1 : sp < 0
  · clear hs hr
    go_enter Tryz.func89, Tryz.ntmps89
    go_wp2
    go_ret2
    exact ⟨rfl, rfl⟩
  · have h2 : 8 < sp := hs.resolve_left h1
    have h3 : 0 ≤ sp := by omega
    clear hs h1 hr
    go_enter Tryz.func89, Tryz.ntmps89
    go_wp2
    go_ret2
    exact ⟨rfl, rfl⟩
theorem below_same {w w' : World} (h : w' = w) : Below w.heap.size w w' := by subst h; exact Below.refl _ _

/-- every Encode -/
theorem encode_any (data : ByteArray) (size spare : Int) (w : World) (hd : data.size ≤ maxLen) :
    Calls Tryz.prog 89 #[.string data, .int .i64 size, .int .i64 spare] w fun e w' => e = .returned (encV data size spare) ∧ Below w.heap.size w w' := by
  unfold encV encOut
  by_cases h1 : size < 1 ∨ 16 < size
  · simp only [h1, if_true]
    exact (encode_size data size spare w h1).mono fun e w' ⟨h, g⟩ => ⟨h, below_same g⟩
  · simp only [h1, if_false]
    obtain ⟨z, rfl⟩ := Int.eq_ofNat_of_zero_le (show 0 ≤ size by omega)
    simp only [Int.toNat_natCast]
    have hz1 : 1 ≤ z := by omega
    have hz : z ≤ 16 := by omega
    by_cases h2 : data.size = 0 ∨ data.size % z ≠ 0 ∨ 8 < data.size / z
    · simp only [h2, if_true]
      exact (encode_block data z spare w hd hz1 hz h2).mono fun e w' ⟨h, g⟩ => ⟨h, below_same g⟩
    · simp only [h2, if_false]
      by_cases h3 : spare < 0 ∨ 8 < spare
      · simp only [h3, if_true]
        exact (encode_spare data z spare w hd hz1 hz (fun e => h2 (.inl e)) (by omega) (by omega) h3).mono fun e w' ⟨h, g⟩ => ⟨h, below_same g⟩
      · simp only [h3, if_false]
        obtain ⟨sp, rfl⟩ := Int.eq_ofNat_of_zero_le (show 0 ≤ spare by omega)
        simp only [Int.toNat_natCast]
        have hr : data.size % z = 0 := by omega
        have hdk : data.size = data.size / z * z := (Nat.div_mul_cancel (Nat.dvd_of_mod_eq_zero hr)).symm
        have hk0 : 0 < data.size / z := by
          rcases Nat.eq_zero_or_pos (data.size / z) with h | h
          · rw [h, Nat.zero_mul] at hdk; exact absurd (.inl hdk) h2
          · exact h
        exact encode_ok data z sp (data.size / z) w hd hz1 hz hk0 (by omega) hdk (by omega)

end Cod
end Go.Proofs.YtkgnmcekeeannaaGreat
namespace Go.Proofs.YtkgnmcekeeannaaGreat
open Go.RowKit
namespace Cod
open Pol (G fm fi prodBut share lag sumTo)
open Fld (ret_int val_int i64_xor_nat)

/-- these may be a block's numbers, each there once -/
def Good (n : Nat) (zs : Nat → Int) : Prop := ∀ i, i < n → (0 ≤ zs i ∧ zs i < 16) ∧ ∀ j, j < i → zs j ≠ zs i
theorem ret_bool {a b : Bool} (h : a = b) : Ending.returned (.bool a) = .returned (.bool b) := by rw [h]

set_option maxHeartbeats 1000000 in
theorem areNumbers_any (n b off cap : Nat) (zs : Nat → Int) (w : World) (hn : n ≤ 8)
    (hcell : ∀ i, i < n → w.cell? ⟨b, off + i, none⟩ = some (.int .i64 (zs i))) :
    Calls Tryz.prog 98 #[.slice (some ⟨b, off, none⟩) n cap] w fun e w' => (∃ r : Bool, e = .returned (.bool r) ∧ (r = true ↔ Good n zs)) ∧ ∃ m, w' = w.drewN m := by
  have HC : Hid (∀ i, i < n → w.cell? ⟨b, off + i, none⟩ = some (.int .i64 (zs i))) := hcell
  clear hcell
  have cells : ∀ wr, Hid (∃ m, wr = w.drewN m) → ∀ i, i < n → wr.cell? ⟨b, off + i, none⟩ = some (.int .i64 (zs i)) := fun wr h => by
    obtain ⟨m, rfl⟩ := h.out; exact HC.out
  have HCS : Hid (∀ wr, Hid (∃ m, wr = w.drewN m) → ∀ i, i < n → wr.cell? ⟨b, off + i, none⟩ = some (.int .i64 (zs i))) := cells
  clear cells
  go_enter Tryz.func98, Tryz.ntmps98
  go_wp2
  go_loopw [3] (fun i wr => ∃ k : Nat, k ≤ n ∧ i = .int .i64 k ∧ Good k zs ∧ ∃ m, wr = w.drewN m) (fun i _ => n - (intOf i).toNat)
  case atStart => exact ⟨0, Nat.zero_le _, rfl, fun i hi => by omega, 0, rfl⟩
  case round =>
    obtain ⟨k, hk, rfl, hg, hwr⟩ := hrel
    have HG : Hid (Good k zs) := hg
    clear hg
    have HW : Hid (∃ m, wr = w.drewN m) := hwr
    clear hwr
    by_cases hlt : k < n
    · have ck := HCS.out wr HW k hlt
      by_cases hr : 0 ≤ zs k ∧ zs k < 16
      · obtain ⟨hr0, hr1⟩ := hr
        go_wp2
        clear ck
        go_loopw [4] (fun j w2 => ∃ m : Nat, m ≤ k ∧ j = .int .i64 m ∧ (∀ i, i < m → zs i ≠ zs k) ∧ ∃ q, w2 = w.drewN q) (fun j _ => k - (intOf j).toNat)
        case atStart => exact ⟨0, Nat.zero_le _, rfl, fun i hi => by omega, HW.out⟩
        case round =>
          clear HW
          obtain ⟨m, hm, rfl, hne, hw2⟩ := hrel
          have HW : Hid (∃ m, wr = w.drewN m) := hw2
          have HN : Hid (∀ i, i < m → zs i ≠ zs k) := hne
          clear hne hw2
          by_cases hlm : m < k
          · have ck := HCS.out wr HW k hlt
            have cm := HCS.out wr HW m (by omega)
            by_cases he : zs m = zs k
            · have ht : (zs m == zs k) = true := by simp [he]
              have HF : Hid (¬ Good n zs) := fun h => (h k hlt).2 m hlm he
              clear he
              go_wp2_with fail
              go_quiet (fail)
              go_wp2
              go_ret
              exact ⟨⟨false, rfl, by simp [HF.out]⟩, drawn_more HW.out⟩
            · have ht : (zs m == zs k) = false := by simp [he]
              have HE : Hid (zs m ≠ zs k) := he
              clear he
              go_wp2_with fail
              go_quiet (fail)
              go_wp2
              go_roundw
              case rel =>
                refine ⟨m + 1, by omega, by go_num, fun i hi => ?_, drawn_more HW.out⟩
                by_cases e : i = m
                · rw [e]; exact HE.out
                · exact HN.out i (by omega)
              case measure => simp [intOf]; omega
          · have e : m = k := by omega
            subst e
            go_wp2
            go_roundw
            case rel =>
              refine ⟨m + 1, by omega, by go_num, fun i hi => ?_, HW.out⟩
              by_cases e : i = m
              · rw [e]; exact ⟨⟨hr0, hr1⟩, HN.out⟩
              · exact HG.out i (by omega)
            case measure => simp [intOf]; omega
      · have HF : Hid (¬ Good n zs) := fun h => hr (h k hlt).1
        by_cases h0 : zs k < 0
        · clear hr
          go_wp2
          go_ret
          exact ⟨⟨false, rfl, by simp [HF.out]⟩, HW.out⟩
        · have h1 : 0 ≤ zs k := by omega
          have h2 : 16 ≤ zs k := by omega
          clear hr h0
          go_wp2
          go_ret
          exact ⟨⟨false, rfl, by simp [HF.out]⟩, HW.out⟩
    · have e : k = n := by omega
      subst e
      go_wp2
      go_ret
      exact ⟨⟨true, rfl, by simp [HG.out]⟩, HW.out⟩
end Cod
end Go.Proofs.YtkgnmcekeeannaaGreat
namespace Go.Proofs.YtkgnmcekeeannaaGreat
open Go.RowKit
namespace Cod
open Pol (G fm fi prodBut share lag sumTo)
open Fld (ret_int val_int i64_xor_nat)

def goodB (n : Nat) (zs : Nat → Int) : Bool := (List.range n).all fun i => decide (0 ≤ zs i) && decide (zs i < 16) && (List.range i).all fun j => zs j != zs i
theorem goodB_iff (n : Nat) (zs : Nat → Int) : goodB n zs = true ↔ Good n zs := by
  unfold goodB Good
  simp only [List.all_eq_true, List.mem_range, Bool.and_eq_true, decide_eq_true_eq, bne_iff_ne]

def natOf (zs : Nat → Int) (i : Nat) : Nat := (zs i).toNat
/-- what Decode answers -/
def decOut (n : Nat) (zs : Nat → Int) (s : ByteArray) (size : Int) : ByteArray × Int :=
  if size < 1 ∨ 16 < size then (nil, 2)
  else if n = 0 ∨ 8 < n ∨ s.size ≠ n * size.toNat then (nil, 3)
  else if goodB n zs = false then (nil, 5)
  else (⟨(flat size.toNat (symF n (natOf zs) s size.toNat 0) n).toArray⟩, 0)
abbrev decV (n : Nat) (zs : Nat → Int) (s : ByteArray) (size : Int) : Value := .tuple #[.string (decOut n zs s size).1, .int .i64 (decOut n zs s size).2]

theorem decode_size (ao : Option Addr) (n cap : Nat) (s : ByteArray) (z : Int) (w : World) (hz : z < 1 ∨ 16 < z) :
    Calls Tryz.prog 82 #[.slice ao n cap, .string s, .int .i64 z] w fun e w' => e = .returned (.tuple #[.string nil, .int .i64 2]) ∧ w' = w := by
  by_cases h1 : z < 1
  · clear hz
    go_enter Tryz.func82, Tryz.ntmps82
    go_wp2
    go_ret2
    exact ⟨rfl, rfl⟩
  · have h2 : 16 < z := hz.resolve_left h1
    clear hz
    have h3 : 1 ≤ z := by omega
    clear h1
    go_enter Tryz.func82, Tryz.ntmps82
    go_wp2
    go_ret2
    exact ⟨rfl, rfl⟩
theorem decode_block (ao : Option Addr) (n cap z : Nat) (s : ByteArray) (w : World) (hn : n ≤ maxLen) (hz1 : 1 ≤ z) (hz : z ≤ 16) (hb : n = 0 ∨ 8 < n ∨ s.size ≠ n * z) :
    Calls Tryz.prog 82 #[.slice ao n cap, .string s, .int .i64 z] w fun e w' => e = .returned (.tuple #[.string nil, .int .i64 3]) ∧ w' = w := by
  unfold maxLen at hn
  by_cases h1 : n = 0
  · have t1 : ((n : Int) == 0) = true := by simp [h1]
    clear hb h1
    go_enter Tryz.func82, Tryz.ntmps82
    go_wp2
    go_ret2
    exact ⟨rfl, rfl⟩
  · have t1 : ((n : Int) == 0) = false := by simp [h1]
    by_cases h2 : 8 < n
    · clear hb h1
      go_enter Tryz.func82, Tryz.ntmps82
      go_wp2
      go_ret2
      exact ⟨rfl, rfl⟩
    · have h3 : s.size ≠ n * z := by omega
      have hp : ((n : Int) * (z : Int)) = ((n * z : Nat) : Int) := by simp
      have hl : n * z ≤ 8 * 16 := Nat.mul_le_mul (by omega) hz
      have h4 : n ≤ 8 := by omega
      clear hb h1 h2
      generalize n * z = P at *
      have t2 : ((s.size : Int) != (P : Int)) = true := by simp; omega
      clear h3
      go_enter Tryz.func82, Tryz.ntmps82
      go_wp2
      go_ret2
      exact ⟨rfl, rfl⟩

set_option maxHeartbeats 1000000 in
theorem decode_good (b off n cap z : Nat) (zs : Nat → Int) (s : ByteArray) (w : World) (hn0 : 0 < n) (hn : n ≤ 8) (hz1 : 1 ≤ z) (hz : z ≤ 16) (hs : s.size = n * z) (hb : b < w.heap.size)
    (hcell : ∀ i, i < n → w.cell? ⟨b, off + i, none⟩ = some (.int .i64 (zs i))) (hg : Good n zs) :
    Calls Tryz.prog 82 #[.slice (some ⟨b, off, none⟩) n cap, .string s, .int .i64 z] w fun e w' => e = .returned (.tuple #[.string ⟨(flat z (symF n (natOf zs) s z 0) n).toArray⟩, .int .i64 0]) ∧ Below w.heap.size w w' := by
  have HA := areNumbers_any n b off cap zs w hn hcell
  have t1 : ((n : Int) == 0) = false := by simp; omega
  have hp : ((n : Int) * (z : Int)) = ((n * z : Nat) : Int) := by simp
  have hl : n * z ≤ 8 * 16 := Nat.mul_le_mul (by omega) hz
  have t2 : ((s.size : Int) != ((n * z : Nat) : Int)) = false := by rw [hs]; simp
  have HS : Hid (s.size = n * z) := hs
  have HG : Hid (Good n zs) := hg
  have HC : Hid (∀ i, i < n → w.cell? ⟨b, off + i, none⟩ = some (.int .i64 (zs i))) := hcell
  clear hs hg hcell
  generalize n * z = P at *
  go_enter Tryz.func82, Tryz.ntmps82
  go_wp2_with fail
  refine HA.mono ?_
  rintro e w' ⟨⟨r, rfl, hr⟩, m, rfl⟩
  obtain rfl : r = true := hr.2 HG.out
  clear HA hr
  have HSF := symbolsFrom_nat 0 n n b off cap z (natOf zs) s (w.drewN m) (by omega) (fun i hi => by have := (HG.out i hi).1; unfold natOf; omega) hb hn hn0 hz1 hz (by rw [HS.out]; exact Int.ofNat.inj hp.symm)
    (fun i hi => by show w.cell? _ = _; rw [HC.out i hi]; have := (HG.out i hi).1; unfold natOf; rw [Int.toNat_of_nonneg this.1])
  go_wp2_with fail
  refine HSF.mono ?_
  rintro e w2 ⟨rfl, hb2⟩
  clear HSF
  have hbb : Below w.heap.size w w2 := (below_drewN (Below.refl _ _) m).trans hb2
  go_wp2
  go_ret2
  exact ⟨rfl, hbb⟩
set_option maxHeartbeats 1000000 in
theorem decode_bad (b off n cap z : Nat) (zs : Nat → Int) (s : ByteArray) (w : World) (hn0 : 0 < n) (hn : n ≤ 8) (hz1 : 1 ≤ z) (hz : z ≤ 16) (hs : s.size = n * z)
    (hcell : ∀ i, i < n → w.cell? ⟨b, off + i, none⟩ = some (.int .i64 (zs i))) (hg : ¬ Good n zs) :
    Calls Tryz.prog 82 #[.slice (some ⟨b, off, none⟩) n cap, .string s, .int .i64 z] w fun e w' => e = .returned (.tuple #[.string nil, .int .i64 5]) ∧ Below w.heap.size w w' := by
  have HA := areNumbers_any n b off cap zs w hn hcell
  have t1 : ((n : Int) == 0) = false := by simp; omega
  have hp : ((n : Int) * (z : Int)) = ((n * z : Nat) : Int) := by simp
  have hl : n * z ≤ 8 * 16 := Nat.mul_le_mul (by omega) hz
  have t2 : ((s.size : Int) != ((n * z : Nat) : Int)) = false := by rw [hs]; simp
  have HG : Hid (¬ Good n zs) := hg
  clear hs hg hcell
  generalize n * z = P at *
  go_enter Tryz.func82, Tryz.ntmps82
  go_wp2_with fail
  refine HA.mono ?_
  rintro e w' ⟨⟨r, rfl, hr⟩, m, rfl⟩
  obtain rfl : r = false := by cases r with
    | false => rfl
    | true => exact absurd (hr.1 rfl) HG.out
  clear HA hr
  go_wp2
  go_ret2
  exact ⟨rfl, below_drewN (Below.refl _ _) m⟩

/-- how a list of numbers lies in memory -/
def Lies (w : World) (ao : Option Addr) (n : Nat) (zs : Nat → Int) : Prop := n = 0 ∨ ∃ b off, ao = some ⟨b, off, none⟩ ∧ b < w.heap.size ∧ ∀ i, i < n → w.cell? ⟨b, off + i, none⟩ = some (.int .i64 (zs i))

theorem decode_any (ao : Option Addr) (n cap : Nat) (zs : Nat → Int) (s : ByteArray) (size : Int) (w : World) (hn : n ≤ maxLen) (hl : Lies w ao n zs) :
    Calls Tryz.prog 82 #[.slice ao n cap, .string s, .int .i64 size] w fun e w' => e = .returned (decV n zs s size) ∧ Below w.heap.size w w' := by
  unfold decV decOut
  by_cases h1 : size < 1 ∨ 16 < size
  · simp only [h1, if_true]
    exact (decode_size ao n cap s size w h1).mono fun e w' ⟨h, g⟩ => ⟨h, below_same g⟩
  · simp only [h1, if_false]
    obtain ⟨z, rfl⟩ := Int.eq_ofNat_of_zero_le (show 0 ≤ size by omega)
    simp only [Int.toNat_natCast]
    have hz1 : 1 ≤ z := by omega
    have hz : z ≤ 16 := by omega
    by_cases h2 : n = 0 ∨ 8 < n ∨ s.size ≠ n * z
    · simp only [h2, if_true]
      exact (decode_block ao n cap z s w hn hz1 hz h2).mono fun e w' ⟨h, g⟩ => ⟨h, below_same g⟩
    · simp only [h2, if_false]
      rcases hl with h0 | ⟨b, off, rfl, hb, hc⟩
      · exact absurd (.inl h0) h2
      · by_cases h3 : goodB n zs = false
        · simp only [h3, if_true]
          exact decode_bad b off n cap z zs s w (by omega) (by omega) hz1 hz (by omega) hc (fun h => by rw [(goodB_iff n zs).2 h] at h3; cases h3)
        · simp only [h3]
          exact decode_good b off n cap z zs s w (by omega) (by omega) hz1 hz (by omega) hb hc ((goodB_iff n zs).1 (by simpa using h3))

end Cod
end Go.Proofs.YtkgnmcekeeannaaGreat
