import Derived.Test.YtkgnmcekeeannaaGreatY14
namespace Go.Proofs.YtkgnmcekeeannaaGreat
open Go.RowKit Go.Deep
namespace Sn
open Bs
open Ms (txt text ok M mV mVm WriteOut refWrite owns_setCell)
set_option linter.unusedVariables false

structure SOk2 (s : St) : Prop where
  base : SOk s
  deb : ∀ i, i < s.debts.length → (debtOf s i).o < s.objs.length ∧ (debtOf s i).b ≤ 255 ∧ 0 < s.n.many (objOf s (debtOf s i).o).size (debtOf s i).b ∧ (debtOf s i).owes ≤ 8 ∧ (debtOf s i).turn ≤ 4611686018427387904
  snt : s.sent ≤ 4611686018427387904
theorem owing_some {l : List Db} {i : Nat} (hi : i < l.length) (h0 : ∀ j, j < i → (l.getD j ⟨0, 0, 0, 0⟩).owes = 0) (hp : 0 < (l.getD i ⟨0, 0, 0, 0⟩).owes) : owing l = some i := by
  unfold owing
  rw [List.findIdx?_eq_some_iff_getElem]
  refine ⟨hi, ?_, fun j hj => ?_⟩
  · have : l.getD i ⟨0, 0, 0, 0⟩ = l[i] := by simp [List.getD_eq_getElem?_getD, hi]
    rw [this] at hp
    simpa using hp
  · have hj' : j < l.length := by omega
    have e : l.getD j ⟨0, 0, 0, 0⟩ = l[j] := by simp [List.getD_eq_getElem?_getD, hj']
    have := h0 j hj
    rw [e] at this
    simp [this]
theorem owing_none {l : List Db} (h0 : ∀ j, j < l.length → (l.getD j ⟨0, 0, 0, 0⟩).owes = 0) : owing l = none := by
  unfold owing
  rw [List.findIdx?_eq_none_iff]
  intro d hd
  obtain ⟨j, hj, rfl⟩ := List.mem_iff_getElem.1 hd
  have e : l.getD j ⟨0, 0, 0, 0⟩ = l[j] := by simp [List.getD_eq_getElem?_getD, hj]
  have := h0 j hj
  rw [e] at this
  simp [this]

/-- Next, where something is owed for block i -/
def owed (s : St) (i : Nat) : St × ByteArray :=
  ({ s with debts := s.debts.set i { debtOf s i with owes := (debtOf s i).owes - 1, turn := (debtOf s i).turn + 1 } }, txt (text (dataM s.n (objOf s (debtOf s i).o) (debtOf s i).o (debtOf s i).b ((s.n.many (objOf s (debtOf s i).o).size (debtOf s i).b + (debtOf s i).turn) % (s.n.many (objOf s (debtOf s i).o).size (debtOf s i).b + s.n.spare)))))
theorem nxt_owed {s : St} {i : Nat} (h : owing s.debts = some i) : nxt s = owed s i := by unfold nxt; rw [h]; rfl

set_option maxRecDepth 100000 in
set_option maxHeartbeats 8000000 in
theorem next_owed (s : St) (P : Nat) (F : Nat → Prop) (w : World) (hs : SOk2 s) (ao : Option Addr) (co : Nat) (ad : Option Addr) (cd i : Nat) (hi : i < s.debts.length) (h0 : ∀ j, j < i → (debtOf s j).owes = 0) (hp : 0 < (debtOf s i).owes) (hI : SI w w P s.n s.objs s.debts s.sent F ao co ad cd) :
    Calls Tryz.prog 22 #[.pointer (some ⟨P, 0, none⟩)] w fun e w' => e = .returned (.string (owed s i).2) ∧ SndAt w' P (owed s i).1 (grow F w w') ∧ Touch w w' F := by
  have HI : Hid (SI w w P s.n s.objs s.debts s.sent F ao co ad cd) := hI
  have hdl : s.debts.length ≤ 2048 := by have := hs.base.dl; have := hs.base.len; omega
  obtain ⟨D, hD⟩ : ∃ D, D = s.debts.length := ⟨_, rfl⟩
  have HD : Hid (D = s.debts.length) := hD
  have H0 : Hid (∀ j, j < i → (debtOf s j).owes = 0) := h0
  have HS : Hid (SOk2 s) := hs
  rw [← hD] at hi hdl
  clear hI h0 hs hD
  go_enter Tryz.func22, Tryz.ntmps22
  go_wp2
  go_loopw [3] (fun x wr => ∃ j : Nat, j ≤ i ∧ x = .int .i64 j ∧ SI w wr P s.n s.objs s.debts s.sent F ao co ad cd) (fun x _ => i - (intOf x).toNat)
  case atStart => exact ⟨0, Nat.zero_le _, rfl, HI.out⟩
  case round =>
    clear HI
    obtain ⟨j, hj, rfl, hS⟩ := hrel
    have hjD : j < D := by omega
    obtain ⟨dg, rfl, hdg, hdP, hdc, hdf⟩ := hS.debt_at (by rw [← HD.out]; omega)
    have c4 : wr.cell? ⟨P, 4, none⟩ = some (.slice (some ⟨dg, 0, none⟩) D cd) := by rw [HD.out]; exact hS.row.cell (by decide)
    have k0 := hdc j (by rw [← HD.out]; exact hjD) 0 _ (by decide) rfl
    have k1 := hdc j (by rw [← HD.out]; exact hjD) 1 _ (by decide) rfl
    have k2 := hdc j (by rw [← HD.out]; exact hjD) 2 _ (by decide) rfl
    have k3 := hdc j (by rw [← HD.out]; exact hjD) 3 _ (by decide) rfl
    simp only [Nat.add_zero] at k0
    have HSI : Hid (SI w wr P s.n s.objs s.debts s.sent F ao co (some ⟨dg, 0, none⟩) cd) := hS
    by_cases hji : j < i
    · have ez := H0.out j hji
      unfold debtOf at ez
      rw [ez] at k2
      clear hS hdc hdf ez
      generalize s.debts.getD j ⟨0, 0, 0, 0⟩ = d at *
      have HSI2 : Hid (SI w (wr.alloc (.cells #[.int .i64 d.o, .int .i64 d.b, .int .i64 0, .int .i64 d.turn] 93)) P s.n s.objs s.debts s.sent F ao co (some ⟨dg, 0, none⟩) cd) := HSI.out.below ((Below.refl _ _).alloc (Nat.le_refl _) _)
      go_wp2
      go_roundw
      case rel => exact ⟨j + 1, by omega, by go_num, HSI2.out⟩
      case measure => simp [intOf]; omega
    · obtain rfl : j = i := by omega
      obtain ⟨g1, g2, g3, g4, g5⟩ := HS.out.deb j (by rw [← HD.out]; exact hjD)
      obtain ⟨d, hd⟩ : ∃ d, d = debtOf s j := ⟨_, rfl⟩
      have HDD : Hid (d = debtOf s j) := hd
      change wr.cell? ⟨dg, j * 4, none⟩ = some (.int .i64 (debtOf s j).o) at k0
      change wr.cell? ⟨dg, j * 4 + 1, none⟩ = some (.int .i64 (debtOf s j).b) at k1
      change wr.cell? ⟨dg, j * 4 + 2, none⟩ = some (.int .i64 (debtOf s j).owes) at k2
      change wr.cell? ⟨dg, j * 4 + 3, none⟩ = some (.int .i64 (debtOf s j).turn) at k3
      rw [← hd] at k0 k1 k2 k3 g1 g2 g3 g4 g5 hp
      clear hd hS hdc hji hj
      have hpos : (0 : Int) < (d.owes : Int) := by omega
      go_upto_region 6 with fail
      have SI6 := HSI.out.below ((Below.refl wr.heap.size wr).alloc (Nat.le_refl _) (.cells #[.int .i64 d.o, .int .i64 d.b, .int .i64 d.owes, .int .i64 d.turn] 93))
      have bx : ∀ t v, (#[Value.int .i64 d.o, .int .i64 d.b, .int .i64 d.owes, .int .i64 d.turn] : Array Value)[t]? = some v → (wr.alloc (.cells #[.int .i64 d.o, .int .i64 d.b, .int .i64 d.owes, .int .i64 d.turn] 93)).cell? ⟨wr.heap.size, t, none⟩ = some v := fun t v hv => cell_new rfl hv
      obtain ⟨Bx, hBx⟩ : ∃ B, B = wr.heap.size := ⟨_, rfl⟩
      rw [← hBx] at bx
      have hBl : Bx < (wr.alloc (.cells #[.int .i64 d.o, .int .i64 d.b, .int .i64 d.owes, .int .i64 d.turn] 93)).heap.size := by simp; omega
      have hBd : Bx ≠ dg ∧ Bx ≠ P := by have := HSI.out.row.lt; omega
      obtain ⟨hBd1, hBd2⟩ := hBd
      have hBx' : wr.heap.size = Bx := hBx.symm
      simp only [hBx'] at *
      clear hBx hBx' hdf
      generalize wr.alloc (.cells #[.int .i64 d.o, .int .i64 d.b, .int .i64 d.owes, .int .i64 d.turn] 93) = W6 at *
      clear k0 k1 k2 k3 c4 HSI hdg
      obtain ⟨g, hao, hSR⟩ := SI6.reads (by omega)
      clear hao
      have hlen := HS.out.base.len
      obtain ⟨n1, n2, n3, n4, n5⟩ := HS.out.base.nok
      have hos := obj_size HS.out.base g1
      obtain ⟨L, hL⟩ : ∃ L, L = s.objs.length := ⟨_, rfl⟩
      have HLN : Hid (L = s.objs.length) := hL
      obtain ⟨k, hk⟩ : ∃ k, k = s.n.many (objOf s d.o).size d.b := ⟨_, rfl⟩
      have HKK : Hid (k = s.n.many (objOf s d.o).size d.b) := hk
      have hk8 : k ≤ 8 := by rw [hk]; have := many_le s.n (objOf s d.o).size d.b; omega
      have G3 : Hid (0 < s.n.many (objOf s d.o).size d.b) := g3
      rw [← hk] at g3
      rw [← hL] at g1 hlen
      obtain ⟨sp, hsp⟩ : ∃ z, z = s.n.spare := ⟨_, rfl⟩
      have HSP : Hid (sp = s.n.spare) := hsp
      rw [← hsp] at n5
      clear hL hk hsp
      have HMA := fun W => many_any s.n (objOf s d.o).size d.b W HS.out.base.nok (by omega) (by omega)
      have HSI6 : Hid (SI w W6 P s.n s.objs s.debts s.sent F ao co (some ⟨dg, 0, none⟩) cd) := SI6
      have HSR6 : Hid (SR W6 P s g co) := hSR
      clear SI6 hSR
      obtain ⟨wd, hwd⟩ : ∃ wd, wd = W6.drew := ⟨_, rfl⟩
      have x0 : wd.cell? ⟨P, 0, none⟩ = some (.int .i64 s.n.size) := by rw [hwd]; exact HSR6.out.c0
      have x1 : wd.cell? ⟨P, 1, none⟩ = some (.int .i64 s.n.block) := by rw [hwd]; exact HSR6.out.c1
      have x2 : wd.cell? ⟨P, 2, none⟩ = some (.int .i64 s.n.spare) := by rw [hwd]; exact HSR6.out.c2
      have x3 : wd.cell? ⟨P, 3, none⟩ = some (.slice (some ⟨g, 0, none⟩) L co) := by rw [hwd, HLN.out]; exact HSR6.out.c3
      have cO : wd.cell? ⟨g, d.o, none⟩ = some (.string (objOf s d.o)) := by rw [hwd]; exact HSR6.out.ob d.o (by rw [← HLN.out]; exact g1)
      have b0 : wd.cell? ⟨Bx, 0, none⟩ = some (.int .i64 d.o) := by rw [hwd]; exact bx 0 _ rfl
      have b1 : wd.cell? ⟨Bx, 1, none⟩ = some (.int .i64 d.b) := by rw [hwd]; exact bx 1 _ rfl
      have b2 : wd.cell? ⟨Bx, 2, none⟩ = some (.int .i64 d.owes) := by rw [hwd]; exact bx 2 _ rfl
      have b3 : wd.cell? ⟨Bx, 3, none⟩ = some (.int .i64 d.turn) := by rw [hwd]; exact bx 3 _ rfl
      have HSID : Hid (SI w wd P s.n s.objs s.debts s.sent F ao co (some ⟨dg, 0, none⟩) cd) := by unfold Hid; rw [hwd]; exact HSI6.out.drawn
      have hBl' : Bx < wd.heap.size := by rw [hwd]; exact hBl
      refine wp_region_still_tail 15 (by kernel_rfl) (by kernel_rfl) ?_
      change wpStill _ _ (World.drew _) (fun a' => wpList _ _ _ _ a' (World.drew _)) _ _
      simp only [← hwd]
      clear hwd HSI6 HSR6 bx hBl
      simp only [List.take_succ_cons, List.take_zero, List.drop_succ_cons, List.drop_zero]
      repeat still_step
      refine wpStill_nil ?_
      go_wp2_with fail
      refine (HMA _).mono ?_
      rintro e w7 ⟨rfl, hb7⟩
      rw [← HKK.out]
      have keep : ∀ t v, wd.cell? ⟨Bx, t, none⟩ = some v → w7.cell? ⟨Bx, t, none⟩ = some v := fun t v hv => (hb7.cell (p := ⟨Bx, t, none⟩) hBl').trans hv
      have HSI7 : Hid (SI w w7 P s.n s.objs s.debts s.sent F ao co (some ⟨dg, 0, none⟩) cd) := HSID.out.below hb7
      have b0' := keep 0 _ b0
      have b1' := keep 1 _ b1
      have b2' := keep 2 _ b2
      have b3' := keep 3 _ b3
      clear HMA keep b0 b1 b2 b3 x0 x1 x2 x3 cO HSID hb7 hBl'
      go_wp2_with fail
      obtain ⟨v1, hv1⟩ : ∃ v, v = w7.drew := ⟨_, rfl⟩
      have SI8 : SI w v1 P s.n s.objs s.debts s.sent F ao co (some ⟨dg, 0, none⟩) cd := by rw [hv1]; exact HSI7.out.drawn
      have c0 : v1.cell? ⟨Bx, 0, none⟩ = some (.int .i64 d.o) := by rw [hv1]; exact b0'
      have c1 : v1.cell? ⟨Bx, 1, none⟩ = some (.int .i64 d.b) := by rw [hv1]; exact b1'
      have c2 : v1.cell? ⟨Bx, 2, none⟩ = some (.int .i64 d.owes) := by rw [hv1]; exact b2'
      have c3 : v1.cell? ⟨Bx, 3, none⟩ = some (.int .i64 d.turn) := by rw [hv1]; exact b3'
      obtain ⟨dg', e', _, _, hdc, hdf⟩ := SI8.debt_at (by rw [← HD.out]; omega)
      simp only [Option.some.injEq, Addr.mk.injEq, and_true] at e'
      subst e'
      have c4 : v1.cell? ⟨P, 4, none⟩ = some (.slice (some ⟨dg, 0, none⟩) D cd) := by rw [HD.out]; exact SI8.row.cell (by decide)
      have q2 := hdc j (by rw [← HD.out]; exact hjD) 2 _ (by decide) rfl
      have f2 := hdf (j * 4 + 2)
      obtain ⟨ow, how⟩ : ∃ o, o = d.owes - 1 := ⟨_, rfl⟩
      have ew : IntKind.i64.wrap ((d.owes : Int) - 1) = (ow : Int) := by rw [how, show ((d.owes : Int) - 1) = ((d.owes - 1 : Nat) : Int) from by omega]; exact IntWalk.i64_in _ ⟨by omega, by omega⟩
      have HOW : Hid (ow = d.owes - 1) := how
      have HSI8 : Hid (SI w v1 P s.n s.objs s.debts s.sent F ao co (some ⟨dg, 0, none⟩) cd) := SI8
      clear SI8 how hdc HSI7 b0' b1' b2' b3'
      refine wp_region_still_tail 10 (by kernel_rfl) (by kernel_rfl) ?_
      change wpStill _ _ (World.drew _) (fun a' => wpList _ _ _ _ a' (World.drew _)) _ _
      simp only [← hv1]
      clear hv1
      simp only [List.take_succ_cons, List.take_zero, List.drop_succ_cons, List.drop_zero]
      repeat still_step
      refine wpStill_nil ?_
      have SI9 := HSI8.out.set_debt (j := j * 4 + 2) (v := .int .i64 ow) (ds' := s.debts.set j { s.debts.getD j ⟨0, 0, 0, 0⟩ with owes := ow }) (by rw [← HD.out]; omega) (by simp) (dvs_set_owes s.debts ⟨0, 0, 0, 0⟩ ow j (by rw [← HD.out]; exact hjD))
      have kp : ∀ t v, v1.cell? ⟨Bx, t, none⟩ = some v → (v1.setCell ⟨dg, j * 4 + 2, none⟩ (.int .i64 ow)).cell? ⟨Bx, t, none⟩ = some v := fun t v hv => (World.cell?_of_block (a := ⟨Bx, t, none⟩) (heap_setCell_other _ _ _ _ hBd1)).trans hv
      have e0 := kp 0 _ c0
      have e1 := kp 1 _ c1
      have e2 := kp 2 _ c2
      have e3 := kp 3 _ c3
      obtain ⟨D1, hD1⟩ : ∃ D1, D1 = s.debts.set j { s.debts.getD j ⟨0, 0, 0, 0⟩ with owes := ow } := ⟨_, rfl⟩
      have HD1 : Hid (D1 = s.debts.set j { s.debts.getD j ⟨0, 0, 0, 0⟩ with owes := ow }) := hD1
      rw [← hD1] at SI9
      have HD1L : Hid (D = D1.length) := by unfold Hid; rw [hD1, List.length_set]; exact HD.out
      have HSI9 : Hid (SI w (v1.setCell ⟨dg, j * 4 + 2, none⟩ (.int .i64 ow)) P s.n s.objs D1 s.sent F ao co (some ⟨dg, 0, none⟩) cd) := SI9
      clear SI9 hD1 HSI8 c0 c1 c2 c3 kp hdf
      go_upto_region 8 with fail
      clear c4 q2 f2 ew
      generalize v1.setCell ⟨dg, j * 4 + 2, none⟩ (.int .i64 ow) = v2 at *
      obtain ⟨v3, hv3⟩ : ∃ v, v = v2.drew := ⟨_, rfl⟩
      have SI10 : SI w v3 P s.n s.objs D1 s.sent F ao co (some ⟨dg, 0, none⟩) cd := by rw [hv3]; exact HSI9.out.drawn
      have c0 : v3.cell? ⟨Bx, 0, none⟩ = some (.int .i64 d.o) := by rw [hv3]; exact e0
      have c1 : v3.cell? ⟨Bx, 1, none⟩ = some (.int .i64 d.b) := by rw [hv3]; exact e1
      have c2 : v3.cell? ⟨Bx, 2, none⟩ = some (.int .i64 d.owes) := by rw [hv3]; exact e2
      have c3 : v3.cell? ⟨Bx, 3, none⟩ = some (.int .i64 d.turn) := by rw [hv3]; exact e3
      obtain ⟨dg', e', _, _, hdc, hdf⟩ := SI10.debt_at (by rw [← HD1L.out]; omega)
      simp only [Option.some.injEq, Addr.mk.injEq, and_true] at e'
      subst e'
      have c4 : v3.cell? ⟨P, 4, none⟩ = some (.slice (some ⟨dg, 0, none⟩) D cd) := by rw [HD1L.out]; exact SI10.row.cell (by decide)
      have q3 := hdc j (by rw [← HD1L.out]; exact hjD) 3 _ (by decide) rfl
      have f3 := hdf (j * 4 + 3)
      obtain ⟨tu, htu⟩ : ∃ o, o = d.turn + 1 := ⟨_, rfl⟩
      have et : IntKind.i64.wrap ((d.turn : Int) + 1) = (tu : Int) := by rw [htu, show ((d.turn : Int) + 1) = ((d.turn + 1 : Nat) : Int) from by omega]; exact IntWalk.i64_in _ ⟨by omega, by omega⟩
      have HTU : Hid (tu = d.turn + 1) := htu
      have HSI10 : Hid (SI w v3 P s.n s.objs D1 s.sent F ao co (some ⟨dg, 0, none⟩) cd) := SI10
      clear SI10 htu hdc HSI9 e0 e1 e2 e3
      refine wp_region_still_tail 10 (by kernel_rfl) (by kernel_rfl) ?_
      change wpStill _ _ (World.drew _) (fun a' => wpList _ _ _ _ a' (World.drew _)) _ _
      simp only [← hv3]
      clear hv3
      simp only [List.take_succ_cons, List.take_zero, List.drop_succ_cons, List.drop_zero]
      repeat still_step
      refine wpStill_nil ?_
      have SI11 := HSI10.out.set_debt (j := j * 4 + 3) (v := .int .i64 tu) (ds' := D1.set j { D1.getD j ⟨0, 0, 0, 0⟩ with turn := tu }) (by rw [← HD1L.out]; omega) (by simp) (dvs_set_turn D1 ⟨0, 0, 0, 0⟩ tu j (by rw [← HD1L.out]; exact hjD))
      have kp : ∀ t v, v3.cell? ⟨Bx, t, none⟩ = some v → (v3.setCell ⟨dg, j * 4 + 3, none⟩ (.int .i64 tu)).cell? ⟨Bx, t, none⟩ = some v := fun t v hv => (World.cell?_of_block (a := ⟨Bx, t, none⟩) (heap_setCell_other _ _ _ _ hBd1)).trans hv
      have e0 := kp 0 _ c0
      have e1 := kp 1 _ c1
      have e3 := kp 3 _ c3
      have HDE : Hid (D1.set j { D1.getD j ⟨0, 0, 0, 0⟩ with turn := tu } = s.debts.set j { debtOf s j with owes := (debtOf s j).owes - 1, turn := (debtOf s j).turn + 1 }) := by
        unfold Hid
        have hj2 : j < s.debts.length := by rw [← HD.out]; exact hjD
        have hg : D1.getD j ⟨0, 0, 0, 0⟩ = { s.debts.getD j ⟨0, 0, 0, 0⟩ with owes := ow } := by rw [HD1.out]; simp [List.getD_eq_getElem?_getD, hj2]
        rw [hg, HD1.out, List.set_set, HTU.out, HOW.out, HDD.out]
        rfl
      rw [HDE.out] at SI11
      have HSI11 : Hid (SI w (v3.setCell ⟨dg, j * 4 + 3, none⟩ (.int .i64 tu)) P s.n s.objs (s.debts.set j { debtOf s j with owes := (debtOf s j).owes - 1, turn := (debtOf s j).turn + 1 }) s.sent F ao co (some ⟨dg, 0, none⟩) cd) := SI11
      clear SI11 HSI10 c0 c1 c2 c3 kp hdf
      go_upto_region 9 with fail
      clear c4 q3 f3 et
      generalize v3.setCell ⟨dg, j * 4 + 3, none⟩ (.int .i64 tu) = v4 at *
      obtain ⟨v5, hv5⟩ : ∃ v, v = v4.drew := ⟨_, rfl⟩
      have HSI12 : Hid (SI w v5 P s.n s.objs (s.debts.set j { debtOf s j with owes := (debtOf s j).owes - 1, turn := (debtOf s j).turn + 1 }) s.sent F ao co (some ⟨dg, 0, none⟩) cd) := by unfold Hid; rw [hv5]; exact HSI11.out.drawn
      obtain ⟨g', hao, hSR⟩ := HSI12.out.reads (s := s) (by rw [← HLN.out]; omega)
      clear hao
      have c0 : v5.cell? ⟨Bx, 0, none⟩ = some (.int .i64 d.o) := by rw [hv5]; exact e0
      have c1 : v5.cell? ⟨Bx, 1, none⟩ = some (.int .i64 d.b) := by rw [hv5]; exact e1
      have c3 : v5.cell? ⟨Bx, 3, none⟩ = some (.int .i64 d.turn) := by rw [hv5]; exact e3
      have x2 : v5.cell? ⟨P, 2, none⟩ = some (.int .i64 sp) := by rw [HSP.out]; exact hSR.c2
      obtain ⟨a1, ha1⟩ : ∃ a, a = k + d.turn := ⟨_, rfl⟩
      obtain ⟨a2, ha2⟩ : ∃ a, a = k + sp := ⟨_, rfl⟩
      obtain ⟨nu, hnu⟩ : ∃ a, a = a1 % a2 := ⟨_, rfl⟩
      have r1 : IntKind.i64.wrap ((k : Int) + (d.turn : Int)) = (a1 : Int) := by rw [ha1, show ((k : Int) + (d.turn : Int)) = ((k + d.turn : Nat) : Int) from by omega]; exact IntWalk.i64_in _ ⟨by omega, by omega⟩
      have r2 : IntKind.i64.wrap ((k : Int) + (sp : Int)) = (a2 : Int) := by rw [ha2, show ((k : Int) + (sp : Int)) = ((k + sp : Nat) : Int) from by omega]; exact IntWalk.i64_in _ ⟨by omega, by omega⟩
      have r3 : (a1 : Int).tmod (a2 : Int) = (nu : Int) := by rw [hnu, Int.tmod_eq_emod_of_nonneg (by omega), ← Int.natCast_emod]
      have r4 : ((a2 : Int) == 0) = false := by simp; omega
      have r5 : (a2 : Int) ≠ 0 := by omega
      have r6 : ¬ a2 = 0 := by omega
      have hnu15 : nu ≤ 15 := by rw [hnu]; have := Nat.mod_lt a1 (show 0 < a2 by omega); omega
      have HNU : Hid (nu = (k + d.turn) % (k + sp)) := by unfold Hid; rw [hnu, ha1, ha2]
      have HDT := refData s d.o d.b nu P g' co v5 HS.out.base (by rw [← HLN.out]; exact g1) g2 G3.out hnu15 hSR
      clear hnu ha1 ha2 hSR e0 e1 e3
      refine wp_region_still_tail 17 (by kernel_rfl) (by kernel_rfl) ?_
      change wpStill _ _ (World.drew _) (fun a' => wpList _ _ _ _ a' (World.drew _)) _ _
      simp only [← hv5]
      clear hv5 HSI11
      simp only [List.take_succ_cons, List.take_zero, List.drop_succ_cons, List.drop_zero]
      repeat still_step
      refine wpStill_nil ?_
      go_wp2_with fail
      refine HDT.mono ?_
      rintro e w9 ⟨rfl, hb9⟩
      have HF := HSI12.out.below hb9
      clear HDT hb9
      go_wp2
      go_ret
      refine ⟨?_, HF.done, HF.touch⟩
      show Ending.returned _ = Ending.returned (.string (owed s j).2)
      unfold owed
      rw [HNU.out, HKK.out, HSP.out, HDD.out]
      rfl
end Sn
end Go.Proofs.YtkgnmcekeeannaaGreat
