import Derived.Test.YtkgnmcekeeannaaGreatY09
import Derived.Test.YtkgnmcekeeannaaGreatY11
import Derived.StillTailTactics
import Derived.Test.YtkgnmcekeeannaaGreatY04
import Derived.Test.YtkgnmcekeeannaaGreatY01
import Derived.Test.YtkgnmcekeeannaaGreatY02
import Derived.Test.YtkgnmcekeeannaaGreatY03
namespace Go.Proofs.YtkgnmcekeeannaaGreat
open Go.RowKit Go.Deep
namespace Sn
open Bs
open Ms (txt text ok M)
set_option linter.unusedVariables false

theorem filledB_length (n : Nm) (o : ByteArray) (b : Nat) : (filledB n o b).length = n.many o.size b * n.size := by simp [filledB]
theorem symOf_length (n : Nm) (o : ByteArray) (b num : Nat) : (symOf n o b num).length = n.size := by unfold symOf; rw [Cod.flat_length]; omega
theorem dataM_ok (n : Nm) (hn : n.ok) (o : ByteArray) (i b num : Nat) (ho : 1 ≤ o.size ∧ o.size ≤ 256) (hi : i ≤ 7) (hb : b ≤ 255) (hnum : num ≤ 15) : ok (dataM n o i b num) := by
  refine .inl ⟨rfl, ?_⟩
  have hz : (txt (symOf n o b num)).size = n.size := by rw [Ms.txt_size, symOf_length]
  obtain ⟨h1, h2, _⟩ := hn
  exact ⟨by show (0 : Int) ≤ (i : Int); omega, by show (i : Int) ≤ 7; omega, by show (0 : Int) ≤ (b : Int); omega, by show (b : Int) ≤ 255; omega, by show (0 : Int) ≤ (num : Int); omega, by show (num : Int) ≤ 15; omega, by show (1 : Int) ≤ (o.size : Int); omega, by show (o.size : Int) ≤ 256; omega, by show 1 ≤ (txt (symOf n o b num)).size; omega, by show (txt (symOf n o b num)).size ≤ 16; omega, rfl, rfl⟩

/-- what a call that only reads a sender finds -/
structure SR (w : World) (P : Nat) (s : St) (g co : Nat) : Prop where
  c0 : w.cell? ⟨P, 0, none⟩ = some (.int .i64 s.n.size)
  c1 : w.cell? ⟨P, 1, none⟩ = some (.int .i64 s.n.block)
  c2 : w.cell? ⟨P, 2, none⟩ = some (.int .i64 s.n.spare)
  c3 : w.cell? ⟨P, 3, none⟩ = some (.slice (some ⟨g, 0, none⟩) s.objs.length co)
  lt : P < w.heap.size
  gl : g < w.heap.size
  ob : ∀ i, i < s.objs.length → w.cell? ⟨g, i, none⟩ = some (.string (objOf s i))
theorem SndAt.reads {w : World} {P : Nat} {s : St} {F : Nat → Prop} (h : SndAt w P s F) (h0 : 0 < s.objs.length) : ∃ g co, SR w P s g co := by
  obtain ⟨ao, co, ad, cd, h⟩ := h
  rcases h.ob.2 with ⟨_, e⟩ | ⟨g, cap, cur, e, _⟩
  · omega
  · simp only [Value.slice.injEq] at e
    obtain ⟨rfl, _, rfl⟩ := e
    have hc := h.ob.cells (g := g) rfl
    refine ⟨g, co, h.row.cell (by decide), h.row.cell (by decide), h.row.cell (by decide), h.row.cell (by decide), h.row.lt, (h.ob.lt g rfl).2, fun i hi => ?_⟩
    have := hc i (.string (objOf s i)) (by simp [strs, objOf, List.getD_eq_getElem?_getD, hi])
    rw [add_eq0] at this
    exact this
theorem SR.drawn {w : World} {P : Nat} {s : St} {g co : Nat} (h : SR w P s g co) (q : Nat) : SR (w.drewN q) P s g co := ⟨h.c0, h.c1, h.c2, h.c3, h.lt, h.gl, h.ob⟩
theorem SR.below {w w' : World} {P : Nat} {s : St} {g co : Nat} (h : SR w P s g co) (hb : Below w.heap.size w w') : SR w' P s g co := by
  have hs := hb.size
  have := h.lt
  have := h.gl
  exact ⟨(hb.cell (p := ⟨P, 0, none⟩) h.lt).trans h.c0, (hb.cell (p := ⟨P, 1, none⟩) h.lt).trans h.c1, (hb.cell (p := ⟨P, 2, none⟩) h.lt).trans h.c2, (hb.cell (p := ⟨P, 3, none⟩) h.lt).trans h.c3, by omega, by omega, fun i hi => (hb.cell (p := ⟨g, i, none⟩) h.gl).trans (h.ob i hi)⟩

set_option maxRecDepth 100000 in
set_option maxHeartbeats 4000000 in
theorem refSymbol (s : St) (i b num P g co : Nat) (w : World) (hs : SOk s) (hi : i < s.objs.length) (hbb : b ≤ 255) (hk : 0 < s.n.many (objOf s i).size b) (hnum : num ≤ 15) (hR : SR w P s g co) :
    Calls Tryz.prog 58 #[.pointer (some ⟨P, 0, none⟩), .int .i64 i, .int .i64 b, .int .i64 num] w fun e w' => e = .returned (.string (txt (symOf s.n (objOf s i) b num))) ∧ Below w.heap.size w w' := by
  have ho : 1 ≤ (objOf s i).size ∧ (objOf s i).size ≤ 256 := by
    have e : objOf s i = s.objs[i] := by simp [objOf, List.getD_eq_getElem?_getD, hi]
    rw [e]; exact hs.sz _ (List.getElem_mem hi)
  have hM := many_le s.n (objOf s i).size b
  have HMA := fun W => many_any s.n (objOf s i).size b W hs.nok (by omega) (by omega)
  have cO := hR.ob i hi
  have x0 := hR.c0
  have x1 := hR.c1
  have x2 := hR.c2
  have x3 := hR.c3
  have hlen := hs.len
  have HSO : Hid (symOf s.n (objOf s i) b num = Cod.flat s.n.size (Cod.symF (s.n.many (objOf s i).size b) id (txt (filledB s.n (objOf s i) b)) s.n.size num) 1) := rfl
  have HFB : Hid (filledB s.n (objOf s i) b = (List.range (s.n.many (objOf s i).size b * s.n.size)).map (fun j => (objOf s i).data.toList.getD (b * s.n.block * s.n.size + j) 0)) := rfl
  have HRR : Hid (SR w P s g co) := hR
  obtain ⟨h1, h2, h3, h4, h5⟩ := hs.nok
  rw [HSO.out]
  generalize objOf s i = o at *
  generalize filledB s.n o b = FB at *
  generalize s.n.many o.size b = k at *
  obtain ⟨L, hL⟩ : ∃ L, L = s.objs.length := ⟨_, rfl⟩
  rw [← hL] at hi x3 hlen
  obtain ⟨z, hz⟩ : ∃ z, z = s.n.size := ⟨_, rfl⟩
  obtain ⟨bk, hbk⟩ : ∃ z, z = s.n.block := ⟨_, rfl⟩
  obtain ⟨sp, hsp⟩ : ∃ z, z = s.n.spare := ⟨_, rfl⟩
  simp only [nmV] at HMA
  rw [← hz] at x0 h1 h2 HFB ⊢
  rw [← hbk] at x1 h3 h4 hM HFB
  rw [← hsp] at x2 h5
  rw [← hz, ← hbk, ← hsp] at HMA
  have HZ : Hid (z = s.n.size) := hz
  have HBK : Hid (bk = s.n.block) := hbk
  have HLN : Hid (L = s.objs.length) := hL
  clear hL hz hbk hsp HSO hs
  obtain ⟨Q1, hQ1⟩ : ∃ Q, Q = b * bk := ⟨_, rfl⟩
  have q1b : Q1 ≤ 255 * 8 := by rw [hQ1]; exact Nat.mul_le_mul hbb h4
  have q1 : (b : Int) * (bk : Int) = (Q1 : Int) := by rw [hQ1]; simp
  rw [← hQ1] at HFB
  obtain ⟨Q2, hQ2⟩ : ∃ Q, Q = Q1 * z := ⟨_, rfl⟩
  have q2b : Q2 ≤ 255 * 8 * 16 := by rw [hQ2]; exact Nat.mul_le_mul q1b h2
  have q2 : (Q1 : Int) * (z : Int) = (Q2 : Int) := by rw [hQ2]; simp
  rw [← hQ2] at HFB
  obtain ⟨R, hRz⟩ : ∃ Q, Q = k * z := ⟨_, rfl⟩
  have rb : R ≤ 8 * 16 := by rw [hRz]; exact Nat.mul_le_mul (by omega) h2
  have r1 : (k : Int) * (z : Int) = (R : Int) := by rw [hRz]; simp
  have HRZ : Hid (R = k * z) := hRz
  rw [← hRz] at HFB
  clear hQ1 hQ2 hRz
  have e1 : IntKind.i64.wrap (Q1 : Int) = (Q1 : Int) := IntWalk.i64_in _ ⟨by omega, by omega⟩
  have e2 : IntKind.i64.wrap (Q2 : Int) = (Q2 : Int) := IntWalk.i64_in _ ⟨by omega, by omega⟩
  have hmk := run_make_row' (P := Tryz.prog) 76 5 (.int .u8 0) 1 Tryz.underlying76 infoByte rfl .i64 .i64 R (by omega) (by omega)
  go_enter Tryz.func58, Tryz.ntmps58
  go_wp2_with fail
  refine (HMA _).mono ?_
  rintro e w1 ⟨rfl, hb1⟩
  have HR1 : Hid (SR w1 P s g co) := HRR.out.below hb1
  have B1 : Below w.heap.size w w1 := hb1
  have y0 : w1.cell? ⟨P, 0, none⟩ = some (.int .i64 z) := by rw [HZ.out]; exact HR1.out.c0
  have y1 : w1.cell? ⟨P, 1, none⟩ = some (.int .i64 bk) := by rw [HBK.out]; exact HR1.out.c1
  clear HMA x0 x1 x2 x3 cO hb1
  go_wp2_with fail
  go_quiet (fail)
  have HR2 : Hid (SR (w1.drewN nq) P s g co) := HR1.out.drawn nq
  have B2 : Below w.heap.size w (w1.drewN nq) := below_drewN B1 nq
  clear HR1 B1 y0 y1
  generalize w1.drewN nq = w2 at *
  have y0 : w2.cell? ⟨P, 0, none⟩ = some (.int .i64 z) := by rw [HZ.out]; exact HR2.out.c0
  obtain ⟨N, hN⟩ : ∃ N, N = w2.heap.size := ⟨_, rfl⟩
  have R0 : Hid ((w2.alloc (.cells (madeCells #[.int .u8 0] R) 5)).rowIs N 5 R (fun j => if j < 0 then bv (o.data.toList.getD (Q2 + j) 0) else .int .u8 0)) := by
    unfold Hid; rw [hN]; exact (World.rowIs_made w2 (.int .u8 0) R 5).congr (fun j _ => by simp)
  have B3 : Below w.heap.size w (w2.alloc (.cells (madeCells #[.int .u8 0] R) 5)) := B2.alloc B2.size _
  have HR3 : Hid (SR (w2.alloc (.cells (madeCells #[.int .u8 0] R) 5)) P s g co) := HR2.out.below ((Below.refl _ _).alloc (Nat.le_refl _) _)
  have hNw : w.heap.size ≤ N := by rw [hN]; exact B2.size
  have hNP : P < N ∧ g < N := by rw [hN]; exact ⟨HR2.out.lt, HR2.out.gl⟩
  obtain ⟨hNP1, hNP2⟩ := hNP
  have hN' : w2.heap.size = N := hN.symm
  clear hN B2 HR2
  go_wp2
  go_loopw [13] (fun x wr => ∃ i' : Nat, i' ≤ R ∧ x = .int .i64 i' ∧ wr.rowIs N 5 R (fun j => if j < i' then bv (o.data.toList.getD (Q2 + j) 0) else .int .u8 0) ∧ Below w.heap.size w wr ∧ SR wr P s g co) (fun x _ => R - (intOf x).toNat)
  case atStart => exact ⟨0, Nat.zero_le _, rfl, R0.out, B3, HR3.out⟩
  case round =>
    clear R0 B3 HR3 y0 hN'
    obtain ⟨i', hi', rfl, hRow, hB, hSR⟩ := hrel
    have HSR : Hid (SR wr P s g co) := hSR
    clear hSR
    by_cases hlt : i' < R ∧ Q2 + i' < o.size
    · obtain ⟨l1, l2⟩ := hlt
      obtain ⟨p, hp⟩ : ∃ p, p = Q2 + i' := ⟨_, rfl⟩
      have pe : (Q2 : Int) + (i' : Int) = (p : Int) := by omega
      rw [← hp] at l2
      have oc := hRow.cell l1
      simp only [Nat.lt_irrefl, if_false] at oc
      have of := hRow.frozen i'
      have HV : Hid ((o[p].toNat : Nat) = (o.data.toList.getD (Q2 + i') 0).toNat) := by
        unfold Hid
        rw [← hp, List.getD_eq_getElem?_getD, List.getElem?_eq_getElem (by simpa using l2)]; rfl
      have HR2 : Hid ((wr.setCell ⟨N, i', none⟩ (.int .u8 (o[p].toNat : Nat))).rowIs N 5 R (fun j => if j < i' + 1 then bv (o.data.toList.getD (Q2 + j) 0) else .int .u8 0)) := (hRow.set i' _).congr (fun j _ => by
        by_cases e : j = i'
        · subst e; simp only [if_true, show j < j + 1 by omega, bv]; rw [HV.out]
        · by_cases e2 : j < i'
          · simp [e, e2, show j < i' + 1 by omega]
          · simp [e, e2, show ¬ j < i' + 1 by omega])
      have hB2 : Below w.heap.size w (wr.setCell ⟨N, i', none⟩ (.int .u8 (o[p].toNat : Nat))) := hB.setCell hNw _
      have HSR2 : Hid (SR (wr.setCell ⟨N, i', none⟩ (.int .u8 (o[p].toNat : Nat))) P s g co) := by
        have h := HSR.out
        have k1 : ∀ j v, wr.cell? ⟨P, j, none⟩ = some v → (wr.setCell ⟨N, i', none⟩ (.int .u8 (o[p].toNat : Nat))).cell? ⟨P, j, none⟩ = some v := fun j v hv => (World.cell?_of_block (a := ⟨P, j, none⟩) (heap_setCell_other _ _ _ _ (by show P ≠ N; omega))).trans hv
        exact ⟨k1 _ _ h.c0, k1 _ _ h.c1, k1 _ _ h.c2, k1 _ _ h.c3, by simp; exact h.lt, by simp; exact h.gl, fun i hi => (World.cell?_of_block (a := ⟨g, i, none⟩) (heap_setCell_other _ _ _ _ (by show g ≠ N; omega))).trans (h.ob i hi)⟩
      clear hRow hB HSR hp
      go_wp2
      go_roundw
      case rel => exact ⟨i' + 1, by omega, by go_num, HR2.out, hB2, HSR2.out⟩
      case measure => simp [intOf]; omega
    · have hRow2 : wr.rowIs N 5 R (fun j => bv (o.data.toList.getD (Q2 + j) 0)) := hRow.congr (fun j hj => by
        by_cases e : j < i'
        · simp [e]
        · have : o.size ≤ Q2 + j := by omega
          have e0 : o.data.toList.getD (Q2 + j) 0 = 0 := by rw [List.getD_eq_getElem?_getD, List.getElem?_eq_none (by simpa using this)]; rfl
          rw [e0]; simp [e, bv])
      have HRow : Hid (wr.rowIs N 5 R (fun j => bv (o.data.toList.getD (Q2 + j) 0))) := hRow2
      have HNM := Cod.refNumbers_nat k wr (by omega)
      clear hRow hRow2
      have hex : ¬ ((i' : Int) < (R : Int)) ∨ ((i' : Int) < (R : Int) ∧ (o.size : Int) ≤ (Q2 : Int) + (i' : Int)) := by omega
      clear hlt
      have key : True := trivial
      rcases hex with hx | ⟨hx, hx2⟩
      all_goals
        go_wp2_with fail
        refine HNM.mono ?_
        rintro e w3 ⟨v, rfl, hown, hb3⟩
        rw [Cod.ints_vals] at hown
        obtain ⟨nb, ncap, rfl, hnb1, hnb2, _, _, hnc⟩ := Cod.row_cells hown hk
        have B4 : Below w.heap.size w w3 := hB.trans (hb3.mono hB.size)
        have R3 := HRow.out.of_block (hb3.block N HRow.out.lt)
        have S3 := HSR.out.below hb3
        clear HNM hown hb3 hB
        go_wp2_with fail
        refine wp_region_still_tail 9 (by kernel_rfl) (by kernel_rfl) ?_
        change wpStill _ _ (World.drew _) (fun a' => wpList _ _ _ _ a' (World.drew _)) _ _
        obtain ⟨wd, hwd⟩ : ∃ wd, wd = w3.drew := ⟨_, rfl⟩
        have y0 : wd.cell? ⟨P, 0, none⟩ = some (.int .i64 z) := by rw [hwd, HZ.out]; exact S3.c0
        have hfl : FB.length = R := by rw [HFB.out]; simp
        have hcv : (convert 76 9 (.slice (some ⟨N, 0, none⟩) R R)).run Tryz.prog wd = .ok (.string (txt FB)) wd := by
          rw [hwd]
          exact conv_row (w := w3.drew) FB hfl R3 (fun j hj x hx => by
            rw [HFB.out] at hx
            rw [List.getElem?_map, List.getElem?_range hj] at hx
            simp only [Option.map_some, Option.some.injEq] at hx
            rw [hx])
        have HY := Cod.refSymbols_nat num 1 k nb 0 ncap z id (txt FB) wd (by omega) (fun i hi => by show i < 16; omega) (Cod.apart_of (fun i hi => by show i < 16; omega) (fun i j _ _ h => h)) (by rw [hwd]; exact hnb2) (by omega) hk h1 h2 (by rw [Ms.txt_size, hfl]; exact HRZ.out) (fun i hi => by rw [Nat.zero_add, hwd]; exact hnc i hi)
        have BD : Below w.heap.size w wd := by rw [hwd]; exact B4.drew
        simp only [← hwd]
        clear hwd R3 S3 hnc B4 hfl
        simp only [List.take_succ_cons, List.take_zero, List.drop_succ_cons, List.drop_zero]
        repeat still_step
        refine wpStill_nil ?_
        go_wp2_with fail
        refine HY.mono ?_
        rintro e w4 ⟨rfl, hb4⟩
        have B5 : Below w.heap.size w w4 := BD.trans (hb4.mono BD.size)
        clear HY hb4 BD
        go_wp2
        go_ret
        exact ⟨rfl, B5⟩
end Sn
end Go.Proofs.YtkgnmcekeeannaaGreat
namespace Go.Proofs.YtkgnmcekeeannaaGreat
open Go.RowKit
namespace Crc
open Fld (ret_int val_int i64_and_nat i64_xor_nat i64_bit)

theorem t_val (c m H : Nat) (hc : c < 256) (hH : H < 65536) :
    bits .xor .i64 (bits .and .i64 ((c : Int) / 2 ^ m) 1) (bits .and .i64 ((H : Int) / 32768) 1) = (((c / 2 ^ m % 2 + H / 32768) % 2 : Nat) : Int) := by
  have h1 := i64_bit c m (by omega)
  have h2 := i64_bit H 15 (by omega)
  rw [h1, show ((32768 : Int)) = 2 ^ 15 from rfl, h2, show (2 ^ 15 : Nat) = 32768 from rfl, show H / 32768 % 2 = H / 32768 from by omega]
  rcases Nat.mod_two_eq_zero_or_one (c / 2 ^ m) with p | p <;> rcases (show H / 32768 = 0 ∨ H / 32768 = 1 from by omega) with q | q <;> rw [p, q] <;> decide
theorem x_val (H : Nat) : Hid (bits .xor .i64 (bits .xor .i64 (bits .xor .i64 ((H : Int) * 2 % 65536) 1) 32) 4096 = (((H * 2 % 65536) ^^^ 4129 : Nat) : Int)) := by
  unfold Hid
  have hl : H * 2 % 65536 < 2 ^ 16 := Nat.mod_lt _ (by decide)
  have e : ((H : Int) * 2 % 65536) = ((H * 2 % 65536 : Nat) : Int) := by omega
  rw [e]
  generalize H * 2 % 65536 = x at *
  have x1 : x ^^^ 1 < 2 ^ 16 := Nat.xor_lt_two_pow hl (by decide)
  have x2 : x ^^^ 1 ^^^ 32 < 2 ^ 16 := Nat.xor_lt_two_pow x1 (by decide)
  have h1 := i64_xor_nat x 1 (by omega) (by decide)
  have h2 := i64_xor_nat (x ^^^ 1) 32 (by omega) (by decide)
  have h3 := i64_xor_nat (x ^^^ 1 ^^^ 32) 4096 (by omega) (by decide)
  have e1 : ((1 : Nat) : Int) = 1 := rfl
  have e2 : ((32 : Nat) : Int) = 32 := rfl
  have e3 : ((4096 : Nat) : Int) = 4096 := rfl
  rw [e1] at h1
  rw [e2] at h2
  rw [e3] at h3
  rw [h1, h2, h3, Nat.xor_assoc, Nat.xor_assoc, show (1 ^^^ (32 ^^^ 4096) : Nat) = 4129 from by decide]

set_option maxRecDepth 100000 in
set_option maxHeartbeats 1000000 in
theorem refCheck (s : ByteArray) (w : World) (hs : s.size ≤ maxLen) :
    Calls Tryz.prog 60 #[.string s] w fun e w' => e = .returned (.int .i64 (sum s.data.toList)) ∧ w' = w := by
  unfold maxLen at hs
  go_enter Tryz.func60, Tryz.ntmps60
  go_wp2
  go_loop [3, 4] (fun n i => ∃ k : Nat, k ≤ s.size ∧ i = .int .i64 k ∧ n = .int .i64 (sum (s.data.toList.take k))) (fun _ i => s.size - (intOf i).toNat)
  case atStart => exact ⟨0, Nat.zero_le _, rfl, rfl⟩
  case round =>
    obtain ⟨k, hk, rfl, rfl⟩ := hrel
    have hd := sum_lt (s.data.toList.take k)
    by_cases hlt : k < s.size
    · have HS : Hid (sum (s.data.toList.take (k + 1)) = byteK s[k].toNat 8 (sum (s.data.toList.take k))) := sum_take s k hlt
      generalize sum (s.data.toList.take k) = h at *
      go_wp2
      go_loop [3, 5] (fun n b => ∃ j : Nat, j ≤ 8 ∧ b = .int .i64 (7 - (j : Int)) ∧ n = .int .i64 (byteK s[k].toNat j h)) (fun _ b => (intOf b + 1).toNat)
      case atStart => exact ⟨0, Nat.zero_le _, rfl, rfl⟩
      case round =>
        obtain ⟨j, hj, rfl, rfl⟩ := hrel
        have hH := byteK_lt s[k].toNat j h hd
        have hc : s[k].toNat < 256 := UInt8.toNat_lt _
        by_cases hj8 : j < 8
        · have HT : Hid (byteK s[k].toNat (j + 1) h = bitS (byteK s[k].toNat j h) (s[k].toNat / 2 ^ (7 - j) % 2)) := rfl
          have hv := t_val s[k].toNat (7 - j) (byteK s[k].toNat j h) hc hH
          have HX := x_val (byteK s[k].toNat j h)
          by_cases ho : (s[k].toNat / 2 ^ (7 - j) % 2 + byteK s[k].toNat j h / 32768) % 2 = 1
          · have ht : (bits BinOp.xor IntKind.i64 (bits BinOp.and IntKind.i64 ((s[k].toNat : Int) / 2 ^ (7 - j)) 1) (bits BinOp.and IntKind.i64 ((byteK s[k].toNat j h : Nat) / 32768) 1) == 1) = true := by rw [hv, ho]; rfl
            have HO : Hid ((s[k].toNat / 2 ^ (7 - j) % 2 + byteK s[k].toNat j h / 32768) % 2 = 1) := ho
            clear hv ho
            go_wp2
            go_round
            case rel => exact ⟨j + 1, by omega, by go_num, val_int (by rw [HT.out, HX.out]; simp only [bitS]; rw [if_pos HO.out])⟩
            case measure => simp [intOf]; omega
          · have ht : (bits BinOp.xor IntKind.i64 (bits BinOp.and IntKind.i64 ((s[k].toNat : Int) / 2 ^ (7 - j)) 1) (bits BinOp.and IntKind.i64 ((byteK s[k].toNat j h : Nat) / 32768) 1) == 1) = false := by
              rw [hv, show (s[k].toNat / 2 ^ (7 - j) % 2 + byteK s[k].toNat j h / 32768) % 2 = 0 from by omega]; rfl
            have HO : Hid (¬ (s[k].toNat / 2 ^ (7 - j) % 2 + byteK s[k].toNat j h / 32768) % 2 = 1) := ho
            clear hv ho
            go_wp2
            go_round
            case rel => exact ⟨j + 1, by omega, by go_num, val_int (by rw [HT.out]; simp only [bitS]; rw [if_neg HO.out]; omega)⟩
            case measure => simp [intOf]; omega
        · have e8 : j = 8 := by omega
          subst e8
          go_wp2
          go_round
          case rel => exact ⟨k + 1, by omega, by go_num, by rw [HS.out]⟩
          case measure => simp [intOf]; omega
    · go_wp2
      go_ret
      exact ⟨ret_int (by rw [List.take_of_length_le (by simp; omega)]), rfl⟩
end Crc
end Go.Proofs.YtkgnmcekeeannaaGreat
namespace Go.Proofs.YtkgnmcekeeannaaGreat
open Go.RowKit Go.Deep
namespace Ms
open Bs

set_option maxHeartbeats 1000000 in
theorem letters_any (l : List Int) (b cap : Nat) (w : World) (hl : l.length ≤ 8) (hb : b < w.heap.size)
    (hc : ∀ i, i < l.length → w.cell? ⟨b, i, none⟩ = some (.int .i64 (l.getD i 0))) :
    Calls Tryz.prog 61 #[.slice (some ⟨b, 0, none⟩) l.length cap] w fun e w' => e = .returned (.string ⟨(l.map u8w).toArray⟩) ∧ Below w.heap.size w w' := by
  obtain ⟨n, hn⟩ : ∃ n, n = l.length := ⟨_, rfl⟩
  have HNL : Hid (n = l.length) := hn
  rw [← hn] at hl hc ⊢
  clear hn
  have hmk := run_make_row' (P := Tryz.prog) 76 5 (.int .u8 0) 1 Tryz.underlying76 infoByte rfl .i64 .i64 n (by omega) (by omega)
  obtain ⟨N, hN⟩ : ∃ N, N = w.heap.size := ⟨_, rfl⟩
  have HC : Hid (∀ i, i < n → w.cell? ⟨b, i, none⟩ = some (.int .i64 (l.getD i 0))) := hc
  have HR0 : Hid ((w.alloc (.cells (madeCells #[.int .u8 0] n) 5)).rowIs N 5 n (fun j => if j < 0 then bv (u8w (l.getD j 0)) else .int .u8 0)) := by
    unfold Hid; rw [hN]; exact (World.rowIs_made w (.int .u8 0) n 5).congr (fun j _ => by simp)
  have B0 : Below N w (w.alloc (.cells (madeCells #[.int .u8 0] n) 5)) := by rw [hN]; exact (Below.refl _ _).alloc (Nat.le_refl _) _
  have hN' : w.heap.size = N := hN.symm
  rw [hN'] at hb ⊢
  clear hN hc
  go_enter Tryz.func61, Tryz.ntmps61
  go_wp2
  go_loopw [4] (fun x wr => ∃ i : Nat, i ≤ n ∧ x = .int .i64 i ∧ wr.rowIs N 5 n (fun j => if j < i then bv (u8w (l.getD j 0)) else .int .u8 0) ∧ Below N w wr) (fun x _ => n - (intOf x).toNat)
  case atStart => exact ⟨0, Nat.zero_le _, rfl, HR0.out, B0⟩
  case round =>
    clear HR0 B0 hmk hN'
    obtain ⟨i, hi, rfl, hR, hB⟩ := hrel
    by_cases hlt : i < n
    · have ci := (hB.cell (p := ⟨b, i, none⟩) hb).trans (HC.out i hlt)
      have oc := hR.cell hlt
      simp only [Nat.lt_irrefl, if_false] at oc
      have of := hR.frozen i
      have hu := toNat_u8w (l.getD i 0)
      have HR2 : Hid ((wr.setCell ⟨N, i, none⟩ (.int .u8 (l.getD i 0 % 256))).rowIs N 5 n (fun j => if j < i + 1 then bv (u8w (l.getD j 0)) else .int .u8 0)) := (hR.set i _).congr (fun j _ => by
        by_cases e : j = i
        · subst e; simp only [if_true, show j < j + 1 by omega, bv]; rw [hu]
        · by_cases e2 : j < i
          · simp [e, e2, show j < i + 1 by omega]
          · simp [e, e2, show ¬ j < i + 1 by omega])
      have hB2 : Below N w (wr.setCell ⟨N, i, none⟩ (.int .u8 (l.getD i 0 % 256))) := hB.setCell (Nat.le_refl _) _
      clear hR hu
      generalize l.getD i 0 = v at *
      go_wp2
      go_roundw
      case rel => exact ⟨i + 1, by omega, by go_num, HR2.out, hB2⟩
      case measure => simp [intOf]; omega
    · obtain rfl : i = n := by omega
      have hcv := conv_row (cap := i) (l.map u8w) (by rw [List.length_map, HNL.out]) hR (fun j hj x hx => by
        rw [HNL.out] at hj
        simp [hj] at hx
        rw [if_pos (by rw [HNL.out]; exact hj), ← hx, List.getD_eq_getElem?_getD, List.getElem?_eq_getElem hj]; rfl)
      clear hR
      go_wp2
      go_ret
      exact ⟨rfl, hB⟩
/-- every number from 0 to the one beside it -/
def Within (n : Nat) (l most : Nat → Int) : Prop := ∀ i, i < n → 0 ≤ l i ∧ l i ≤ most i

set_option maxHeartbeats 1000000 in
theorem within_any (n b1 c1 b2 c2 : Nat) (l most : Nat → Int) (w : World) (hn : n ≤ 8)
    (h1 : ∀ i, i < n → w.cell? ⟨b1, i, none⟩ = some (.int .i64 (l i))) (h2 : ∀ i, i < n → w.cell? ⟨b2, i, none⟩ = some (.int .i64 (most i))) :
    Calls Tryz.prog 78 #[.slice (some ⟨b1, 0, none⟩) n c1, .slice (some ⟨b2, 0, none⟩) n c2] w fun e w' => (∃ r : Bool, e = .returned (.bool r) ∧ (r = true ↔ Within n l most)) ∧ ∃ m, w' = w.drewN m := by
  have H1 : Hid (∀ i, i < n → w.cell? ⟨b1, i, none⟩ = some (.int .i64 (l i))) := h1
  have H2 : Hid (∀ i, i < n → w.cell? ⟨b2, i, none⟩ = some (.int .i64 (most i))) := h2
  clear h1 h2
  go_enter Tryz.func78, Tryz.ntmps78
  go_wp2
  go_loopw [5] (fun x wr => ∃ k : Nat, k ≤ n ∧ x = .int .i64 k ∧ Within k l most ∧ ∃ m, wr = w.drewN m) (fun x _ => n - (intOf x).toNat)
  case atStart => exact ⟨0, Nat.zero_le _, rfl, fun i hi => by omega, 0, rfl⟩
  case round =>
    obtain ⟨k, hk, rfl, hg, hwr⟩ := hrel
    have HG : Hid (Within k l most) := hg
    have HW : Hid (∃ m, wr = w.drewN m) := hwr
    have hcr : ∀ i, i < n → wr.cell? ⟨b1, i, none⟩ = some (.int .i64 (l i)) ∧ wr.cell? ⟨b2, i, none⟩ = some (.int .i64 (most i)) := by
      obtain ⟨m, rfl⟩ := hwr; exact fun i hi => ⟨H1.out i hi, H2.out i hi⟩
    clear hg hwr
    by_cases hlt : k < n
    · obtain ⟨ck, cm⟩ := hcr k hlt
      clear hcr
      by_cases h0 : l k < 0
      · have HF : Hid (¬ Within n l most) := fun h => by have := h k hlt; omega
        have hd : decide (l k < 0) = true := by simpa using h0
        go_wp2_with fail
        go_quiet (fail)
        go_wp2
        go_ret
        exact ⟨⟨false, rfl, by simp [HF.out]⟩, drawn_more HW.out⟩
      · have hd : decide (l k < 0) = false := by simpa using h0
        have h0' : 0 ≤ l k := by omega
        clear h0
        by_cases h1 : most k < l k
        · have HF : Hid (¬ Within n l most) := fun h => by have := h k hlt; omega
          go_wp2_with fail
          go_quiet (fail)
          go_wp2
          go_ret
          exact ⟨⟨false, rfl, by simp [HF.out]⟩, drawn_more HW.out⟩
        · have h1' : l k ≤ most k := by omega
          have hd2 : decide (most k < l k) = false := by simpa using h1
          clear h1
          go_wp2_with fail
          go_quiet (fail)
          go_wp2
          go_roundw
          case rel =>
            refine ⟨k + 1, by omega, by go_num, fun i hi => ?_, drawn_more HW.out⟩
            by_cases e : i = k
            · rw [e]; exact ⟨h0', h1'⟩
            · exact HG.out i (by omega)
          case measure => simp [intOf]; omega
    · obtain rfl : k = n := by omega
      clear hcr
      go_wp2
      go_ret
      exact ⟨⟨true, rfl, by simp [HG.out]⟩, HW.out⟩
end Ms
end Go.Proofs.YtkgnmcekeeannaaGreat
namespace Go.Proofs.YtkgnmcekeeannaaGreat
open Go.RowKit Go.Deep
namespace Ms
open Bs
set_option linter.unusedVariables false

theorem end_text (x : UInt8) : (⟨#[69]⟩ : ByteArray) ++ (⟨([x] : List UInt8).toArray⟩ : ByteArray) = ⟨([69, x] : List UInt8).toArray⟩ := by
  rw [show (⟨#[69]⟩ : ByteArray) = ⟨([69] : List UInt8).toArray⟩ from rfl, ByteArray.mk_append_mk]; rfl

set_option maxRecDepth 100000 in
set_option maxHeartbeats 4000000 in
theorem body_other (kd ob bl nu le : Int) (sy : ByteArray) (ao : Option Addr) (n cap : Nat) (os : Int) (w : World) (hn : n ≤ maxLen) (hs : sy.size ≤ maxLen) (hk : kd ≠ 1 ∧ kd ≠ 2 ∧ kd ≠ 3) :
    Calls Tryz.prog 59 #[mV kd ob bl nu le sy ao n cap os] w fun e w' => (∃ s : ByteArray, e = .returned (.tuple #[.string s, .bool false])) ∧ Below w.heap.size w w' := by
  unfold maxLen at hn hs
  obtain ⟨nd, hnd⟩ : ∃ nd : Bool, nd = true ↔ NoData ob bl nu le sy := (Classical.em (NoData ob bl nu le sy)).elim (fun h => ⟨true, by simp [h]⟩) (fun h => ⟨false, by simp [h]⟩)
  have HND : Hid (nd = true ↔ NoData ob bl nu le sy) := hnd
  clear hnd
  have k1 : (kd == 1) = false := by simp [hk.1]
  have k2 : (kd == 2) = false := by simp [hk.2.1]
  have k3 : (kd == 3) = false := by simp [hk.2.2]
  clear hk
  go_enter Tryz.func59, Tryz.ntmps59
  go_upto_region 1 with fail
  go_cut [4] (fun x wx => x = .bool nd ∧ wx = w.alloc (mBox kd ob bl nu le sy ao n cap os))
  case first =>
    clear k1 k2 k3
    obtain ⟨B1, e1⟩ : ∃ B, (ob == 0) = B := ⟨_, rfl⟩
    obtain ⟨B2, e2⟩ : ∃ B, (bl == 0) = B := ⟨_, rfl⟩
    obtain ⟨B3, e3⟩ : ∃ B, (nu == 0) = B := ⟨_, rfl⟩
    obtain ⟨B4, e4⟩ : ∃ B, (le == 0) = B := ⟨_, rfl⟩
    obtain ⟨B5, e5⟩ : ∃ B, sy.toList.isEmpty = B := ⟨_, rfl⟩
    have HX : Hid (nd = (B1 && B2 && B3 && B4 && B5)) := by
      unfold Hid
      have h := HND.out
      unfold NoData at h
      rw [Bool.eq_iff_iff, h, ← e1, ← e2, ← e3, ← e4, ← e5, size_isEmpty]
      simp [and_assoc]
    go_wp2
    all_goals go_meet
    all_goals exact ⟨congrArg Value.bool (by rw [HX.out]; simp [*]), rfl⟩
  case rest =>
    obtain ⟨rfl, rfl⟩ := hcut
    go_wp2
    go_ret2
    exact ⟨⟨_, rfl⟩, (Below.refl _ _).alloc (Nat.le_refl _) _⟩

end Ms
end Go.Proofs.YtkgnmcekeeannaaGreat
