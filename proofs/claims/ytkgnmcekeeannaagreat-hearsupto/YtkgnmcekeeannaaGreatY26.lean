import Derived.Test.YtkgnmcekeeannaaGreatY17
namespace Go.Proofs.YtkgnmcekeeannaaGreat
open Go.RowKit Go.Deep
namespace Sn
open Bs
open Ms (txt text ok M It mV mVm mBox mRow mRow_new itF itOK ItemsAt Tells ReadOut refRead owns_setCell owns_items icells)
set_option linter.unusedVariables false

def HearOut (s : St) (t : ByteArray) (e : Ending) (w w' : World) (P : Nat) (F : Nat → Prop) : Prop :=
  (∃ m, Tells t m ∧ m.kind = 2 ∧ e = .returned (.int .i64 0) ∧ SndAt w' P ⟨s.n, s.objs, dues s m.items, s.sent⟩ (grow F w w')) ∨
  ((∀ m, Tells t m → m.kind ≠ 2) ∧ e = .returned (.int .i64 6) ∧ SndAt w' P s (grow F w w'))
/-- nothing below has turned but where the debts lie -/
def KD (w2 wr : World) (own : Option Nat) : Prop := w2.heap.size ≤ wr.heap.size ∧ ∀ b, b < w2.heap.size → own ≠ some b → wr.heap[b]? = w2.heap[b]?
theorem KD.refl (w : World) (own : Option Nat) : KD w w own := ⟨Nat.le_refl _, fun _ _ _ => rfl⟩
theorem KD.below {w2 wr w' : World} {own : Option Nat} (h : KD w2 wr own) (hb : Below wr.heap.size wr w') : KD w2 w' own := ⟨Nat.le_trans h.1 hb.size, fun b h1 h2 => (hb.block b (by have := h.1; omega)).trans (h.2 b h1 h2)⟩
theorem KD.trans {a b c : World} {own : Option Nat} (h : KD a b own) (k : KD b c own) : KD a c own := ⟨Nat.le_trans h.1 k.1, fun x h1 h2 => (k.2 x (by have := h.1; omega) h2).trans (h.2 x h1 h2)⟩
theorem KD.set {w2 wr : World} {g j : Nat} {v : Value} (h : KD w2 wr (some g)) : KD w2 (wr.setCell ⟨g, j, none⟩ v) (some g) := ⟨by simp; exact h.1, fun b h1 h2 => by rw [heap_setCell_other _ _ _ _ (fun e => h2 (by rw [e])), h.2 b h1 h2]⟩
theorem KD.drew {w2 wr : World} {own : Option Nat} (h : KD w2 wr own) : KD w2 wr.drew own := ⟨h.1, h.2⟩
theorem KD.cell {w2 wr : World} {own : Option Nat} (h : KD w2 wr own) {b j : Nat} {v : Value} (hb : b < w2.heap.size) (hne : own ≠ some b) (hv : w2.cell? ⟨b, j, none⟩ = some v) : wr.cell? ⟨b, j, none⟩ = some v :=
  (World.cell?_of_block (a := ⟨b, j, none⟩) (h.2 b hb hne)).trans hv
/-- how many an item asks for -/
def askN (k : Nat) (t : It) : Nat := if 0 < t.c ∧ t.c < (k : Int) then t.c.toNat else k
theorem due_skip (s : St) (t : It) (d : Db) (h : (d.o : Int) ≠ t.o ∨ (0 < t.c ∧ (d.b : Int) ≠ t.b)) : due s t d = d := by unfold due; rw [if_pos h]
theorem due_ask (s : St) (t : It) (d : Db) (h : ¬ ((d.o : Int) ≠ t.o ∨ (0 < t.c ∧ (d.b : Int) ≠ t.b))) : due s t d = if d.owes < askN (s.n.many (objOf s d.o).size d.b) t then { d with owes := askN (s.n.many (objOf s d.o).size d.b) t } else d := by unfold due; rw [if_neg h]; rfl

set_option maxRecDepth 100000 in
set_option maxHeartbeats 8000000 in
theorem refHear (s : St) (tx : ByteArray) (P : Nat) (F : Nat → Prop) (w : World) (hs : SOk2 s) (ht : tx.size ≤ 1048576) (hA : SndAt w P s F) :
    Calls Tryz.prog 24 #[.pointer (some ⟨P, 0, none⟩), .string tx] w fun e w' => HearOut s tx e w w' P F ∧ Touch w w' F := by
  obtain ⟨ao, co, ad, cd, hI⟩ := hA
  have HR := refRead tx w ht
  have HI : Hid (SI w w P s.n s.objs s.debts s.sent F ao co ad cd) := hI
  have hdl : s.debts.length ≤ 2048 := by have := hs.base.dl; have := hs.base.len; omega
  have ownad : ∀ b, (Value.slice ad s.debts.length cd).ownBlock = some b → b < w.heap.size := fun b hb => (hI.db.lt b hb).2
  have HS : Hid (SOk2 s) := hs
  clear hI hs ht
  go_enter Tryz.func24, Tryz.ntmps24
  go_wp2_with fail
  refine HR.mono ?_
  rintro e w1 ⟨ho, hb1⟩
  clear HR
  rcases ho with ⟨m, io, ci, htl, rfl, hown⟩ | ⟨hno, rfl⟩
  · have HT : Hid (Tells tx m) := htl
    have HSI1 : Hid (SI w (w1.alloc (mBox m.kind m.obj m.blk m.num m.len m.sym io m.items.length ci m.objs)) P s.n s.objs s.debts s.sent F ao co ad cd) := (HI.out.below hb1).below ((Below.refl _ _).alloc (Nat.le_refl _) _)
    by_cases hk : m.kind = 2
    · have tk : (m.kind != 2) = false := by rw [hk]; rfl
      have hm8 : m.items.length ≤ 8 := by
        rcases htl.1 with h | h | h
        · rw [hk] at h; exact absurd h.1 (by decide)
        · exact h.2.2.2.2.1
        · rw [hk] at h; exact absurd h.1 (by decide)
      have HK : Hid (m.kind = 2) := hk
      have own2 := hown.alloc (mBox m.kind m.obj m.blk m.num m.len m.sym io m.items.length ci m.objs)
      have c6 : (w1.alloc (mBox m.kind m.obj m.blk m.num m.len m.sym io m.items.length ci m.objs)).cell? ⟨w1.heap.size, 6, none⟩ = some (.slice io m.items.length ci) := cell_new rfl rfl
      have hz1 := hb1.size
      have hMl : w1.heap.size < (w1.alloc (mBox m.kind m.obj m.blk m.num m.len m.sym io m.items.length ci m.objs)).heap.size := by simp
      clear hk htl hown hb1 HI
      go_upto_region 4 with fail
      obtain ⟨Mb, hMb⟩ : ∃ B, B = w1.heap.size := ⟨_, rfl⟩
      have hMb' : w1.heap.size = Mb := hMb.symm
      simp only [hMb'] at *
      clear hMb hMb'
      generalize w1.alloc (mBox m.kind m.obj m.blk m.num m.len m.sym io m.items.length ci m.objs) = w2 at *
      have HIT : Hid (m.items.length = 0 ∨ ∃ ib off, io = some ⟨ib, off, none⟩ ∧ ib < w2.heap.size ∧ w.heap.size ≤ ib ∧ ∀ i, i < m.items.length → w2.cell? ⟨ib, off + i * 3, none⟩ = some (.int .i64 (itF m.items i).o) ∧ w2.cell? ⟨ib, off + i * 3 + 1, none⟩ = some (.int .i64 (itF m.items i).b) ∧ w2.cell? ⟨ib, off + i * 3 + 2, none⟩ = some (.int .i64 (itF m.items i).c)) := by
        rcases owns_items own2 with h | ⟨b, off, h1, h2, h3⟩
        · exact .inl h
        · exact .inr ⟨b, off, h1, h2, (own2.lt b (by rw [h1]; rfl)).1, h3⟩
      obtain ⟨D, hD⟩ : ∃ D, D = s.debts.length := ⟨_, rfl⟩
      have HD : Hid (D = s.debts.length) := hD
      rw [← hD] at hdl ownad
      obtain ⟨nI, hnI⟩ : ∃ n, n = m.items.length := ⟨_, rfl⟩
      have HNI : Hid (nI = m.items.length) := hnI
      rw [← hnI] at hm8 c6 HIT
      have hMo : (Value.slice ad D cd).ownBlock ≠ some Mb := fun e => by have := ownad Mb e; omega
      clear hD hnI own2
      go_wp2
      go_loopw [7] (fun x wr => ∃ j : Nat, j ≤ nI ∧ x = .int .i64 j ∧ SI w wr P s.n s.objs (duesTo s m.items j) s.sent F ao co ad cd ∧ KD w2 wr (Value.slice ad D cd).ownBlock) (fun x _ => nI - (intOf x).toNat)
      case atStart => exact ⟨0, Nat.zero_le _, rfl, HSI1.out, KD.refl _ _⟩
      case round =>
        clear HSI1
        obtain ⟨j, hj, rfl, hS, hKD⟩ := hrel
        have c6r := hKD.cell hMl hMo c6
        have HSI : Hid (SI w wr P s.n s.objs (duesTo s m.items j) s.sent F ao co ad cd) := hS
        by_cases hjn : j < nI
        · rcases HIT.out with h0 | ⟨ib, off, rfl, hib1, hib2, hic⟩
          · omega
          · obtain ⟨i1, i2, i3⟩ := hic j hjn
            have hio : (Value.slice ad D cd).ownBlock ≠ some ib := fun e => by have := ownad ib e; omega
            have j1 := hKD.cell hib1 hio i1
            have j2 := hKD.cell hib1 hio i2
            have j3 := hKD.cell hib1 hio i3
            obtain ⟨t, hte⟩ : ∃ t, t = itF m.items j := ⟨_, rfl⟩
            have HTE : Hid (t = itF m.items j) := hte
            rw [← hte] at j1 j2 j3
            obtain ⟨B, hBe⟩ : ∃ B, B = duesTo s m.items j := ⟨_, rfl⟩
            have HBE : Hid (B = duesTo s m.items j) := hBe
            have HSB : Hid (SameB s B) := by unfold Hid; rw [hBe]; exact SameB.duesTo s m.items j (by rw [← HNI.out]; omega)
            rw [← hBe] at HSI
            have HB0 : Hid (SI w (wr.alloc (.cells #[.int .i64 t.o, .int .i64 t.b, .int .i64 t.c] 103)) P s.n s.objs (mixD (due s t) B 0) s.sent F ao co ad cd) := by
              unfold Hid
              rw [mixD_zero]
              exact HSI.out.below ((Below.refl _ _).alloc (Nat.le_refl _) _)
            have hKD3 : KD w2 (wr.alloc (.cells #[.int .i64 t.o, .int .i64 t.b, .int .i64 t.c] 103)) (Value.slice ad D cd).ownBlock := hKD.below ((Below.refl _ _).alloc (Nat.le_refl _) _)
            have y0 : (wr.alloc (.cells #[.int .i64 t.o, .int .i64 t.b, .int .i64 t.c] 103)).cell? ⟨wr.heap.size, 0, none⟩ = some (.int .i64 t.o) := cell_new rfl rfl
            have y1 : (wr.alloc (.cells #[.int .i64 t.o, .int .i64 t.b, .int .i64 t.c] 103)).cell? ⟨wr.heap.size, 1, none⟩ = some (.int .i64 t.b) := cell_new rfl rfl
            have y2 : (wr.alloc (.cells #[.int .i64 t.o, .int .i64 t.b, .int .i64 t.c] 103)).cell? ⟨wr.heap.size, 2, none⟩ = some (.int .i64 t.c) := cell_new rfl rfl
            have hXl : wr.heap.size < (wr.alloc (.cells #[.int .i64 t.o, .int .i64 t.b, .int .i64 t.c] 103)).heap.size := by simp
            have hwr : w.heap.size ≤ wr.heap.size := by have := hKD.1; omega
            clear hS hic i1 i2 i3 hte hBe HSI
            go_upto_region 8 with fail
            obtain ⟨Xb, hXb⟩ : ∃ X, X = wr.heap.size := ⟨_, rfl⟩
            have hXb' : wr.heap.size = Xb := hXb.symm
            simp only [hXb'] at *
            clear hXb hXb' j1 j2 j3 c6r hKD
            generalize wr.alloc (.cells #[.int .i64 t.o, .int .i64 t.b, .int .i64 t.c] 103) = w3 at *
            have hXo : (Value.slice ad D cd).ownBlock ≠ some Xb := fun e => by have := ownad Xb e; omega
            go_wp2
            go_loopw [9] (fun x wv => ∃ i : Nat, i ≤ D ∧ x = .int .i64 i ∧ SI w wv P s.n s.objs (mixD (due s t) B i) s.sent F ao co ad cd ∧ KD w3 wv (Value.slice ad D cd).ownBlock) (fun x _ => D - (intOf x).toNat)
            case atStart => exact ⟨0, Nat.zero_le _, rfl, HB0.out, KD.refl _ _⟩
            case round =>
              clear HB0
              obtain ⟨i, hiD, rfl, hS, hKV⟩ := hrel
              have hBL : B.length = D := by rw [HD.out]; exact HSB.out.1
              have HBL : Hid (B.length = D) := hBL
              have hml : (mixD (due s t) B i).length = D := by rw [mixD_length _ _ _ (by omega), hBL]
              have HML : Hid ((mixD (due s t) B i).length = D) := hml
              have c4 : wr.cell? ⟨P, 4, none⟩ = some (.slice ad D cd) := by rw [← hml]; exact hS.row.cell (by decide)
              have HSI : Hid (SI w wr P s.n s.objs (mixD (due s t) B i) s.sent F ao co ad cd) := hS
              have z0 := hKV.cell hXl hXo y0
              have z1 := hKV.cell hXl hXo y1
              have z2 := hKV.cell hXl hXo y2
              by_cases hlt : i < D
              · obtain ⟨dg, rfl, hdg, hdP, hdc, hdf⟩ := hS.debt_at (by rw [hml]; omega)
                have k0 := hdc i (by rw [hml]; exact hlt) 0 _ (by decide) rfl
                have k1 := hdc i (by rw [hml]; exact hlt) 1 _ (by decide) rfl
                have k2 := hdc i (by rw [hml]; exact hlt) 2 _ (by decide) rfl
                have k3 := hdc i (by rw [hml]; exact hlt) 3 _ (by decide) rfl
                simp only [Nat.add_zero] at k0
                rw [mixD_at (due s t) B i (by rw [hBL]; exact hlt)] at k0 k1 k2 k3
                obtain ⟨d, hd⟩ : ∃ d, d = B.getD i ⟨0, 0, 0, 0⟩ := ⟨_, rfl⟩
                have HDD : Hid (d = B.getD i ⟨0, 0, 0, 0⟩) := hd
                rw [← hd] at k0 k1 k2 k3
                have hob := HSB.out.2 i (by rw [← HD.out]; exact hlt)
                rw [← hd] at hob
                obtain ⟨g1, g2, g3, g4, g5⟩ := HS.out.deb i (by rw [← HD.out]; exact hlt)
                rw [← hob.1] at g1
                rw [← hob.2] at g2
                have HG1 : Hid (d.o < s.objs.length) := g1
                obtain ⟨L, hL⟩ : ∃ L, L = s.objs.length := ⟨_, rfl⟩
                have HLN : Hid (L = s.objs.length) := hL
                rw [← hL] at g1
                have hlen : L ≤ 8 := by rw [hL]; exact HS.out.base.len
                clear hL hob g3 g4 g5 hd hS hdc hdf hml hBL
                have hXr : Xb < wr.heap.size := by have := hKV.1; omega
                have v0 : (wr.alloc (.cells #[.int .i64 d.o, .int .i64 d.b, .int .i64 d.owes, .int .i64 d.turn] 93)).cell? ⟨Xb, 0, none⟩ = some (.int .i64 t.o) := (((Below.refl wr.heap.size wr).alloc (Nat.le_refl _) _).cell (p := ⟨Xb, 0, none⟩) hXr).trans z0
                have v1 : (wr.alloc (.cells #[.int .i64 d.o, .int .i64 d.b, .int .i64 d.owes, .int .i64 d.turn] 93)).cell? ⟨Xb, 1, none⟩ = some (.int .i64 t.b) := (((Below.refl wr.heap.size wr).alloc (Nat.le_refl _) _).cell (p := ⟨Xb, 1, none⟩) hXr).trans z1
                have v2 : (wr.alloc (.cells #[.int .i64 d.o, .int .i64 d.b, .int .i64 d.owes, .int .i64 d.turn] 93)).cell? ⟨Xb, 2, none⟩ = some (.int .i64 t.c) := (((Below.refl wr.heap.size wr).alloc (Nat.le_refl _) _).cell (p := ⟨Xb, 2, none⟩) hXr).trans z2
                clear hXr z0 z1 z2
                by_cases hc1 : (d.o : Int) = t.o
                · have e1 : ((d.o : Int) != t.o) = false := by simpa using hc1
                  by_cases hc2 : 0 < t.c
                  · by_cases hc3 : (d.b : Int) = t.b
                    · have e3 : ((d.b : Int) != t.b) = false := by simpa using hc3
                      have HSK : Hid (¬ ((d.o : Int) ≠ t.o ∨ (0 < t.c ∧ (d.b : Int) ≠ t.b))) := by unfold Hid; simp [hc1, hc3]
                      clear hc1 hc3
                      have HDA : Hid (due s t d = if d.owes < askN (s.n.many (objOf s d.o).size d.b) t then { d with owes := askN (s.n.many (objOf s d.o).size d.b) t } else d) := due_ask s t d HSK.out
                      have SI6 := HSI.out.below ((Below.refl wr.heap.size wr).alloc (Nat.le_refl _) (.cells #[.int .i64 d.o, .int .i64 d.b, .int .i64 d.owes, .int .i64 d.turn] 93))
                      have bx : ∀ r v, (#[Value.int .i64 d.o, .int .i64 d.b, .int .i64 d.owes, .int .i64 d.turn] : Array Value)[r]? = some v → (wr.alloc (.cells #[.int .i64 d.o, .int .i64 d.b, .int .i64 d.owes, .int .i64 d.turn] 93)).cell? ⟨wr.heap.size, r, none⟩ = some v := fun r v hv => cell_new rfl hv
                      have hBl : wr.heap.size < (wr.alloc (.cells #[.int .i64 d.o, .int .i64 d.b, .int .i64 d.owes, .int .i64 d.turn] 93)).heap.size := by simp
                      have hK6 : KD w3 (wr.alloc (.cells #[.int .i64 d.o, .int .i64 d.b, .int .i64 d.owes, .int .i64 d.turn] 93)) (Value.slice (some ⟨dg, 0, none⟩) D cd).ownBlock := hKV.below ((Below.refl _ _).alloc (Nat.le_refl _) _)
                      go_upto_region 13 with fail
                      obtain ⟨Bx, hBx⟩ : ∃ X, X = wr.heap.size := ⟨_, rfl⟩
                      have hBx' : wr.heap.size = Bx := hBx.symm
                      simp only [hBx'] at *
                      clear hBx hBx' k0 k1 k2 k3 c4 HSI v0 v1 v2 hKV hdg
                      generalize (wr.alloc (.cells #[.int .i64 d.o, .int .i64 d.b, .int .i64 d.owes, .int .i64 d.turn] 93)) = W6 at *
                      obtain ⟨g, hao, hSR⟩ := SI6.reads (s := s) (by rw [← HLN.out]; omega)
                      clear hao
                      have HMA := fun W => many_any s.n (objOf s d.o).size d.b W HS.out.base.nok (by have := obj_size HS.out.base HG1.out; omega) (by omega)
                      obtain ⟨wd, hwd⟩ : ∃ wd, wd = W6.drew := ⟨_, rfl⟩
                      have x0 : wd.cell? ⟨P, 0, none⟩ = some (.int .i64 s.n.size) := by rw [hwd]; exact hSR.c0
                      have x1 : wd.cell? ⟨P, 1, none⟩ = some (.int .i64 s.n.block) := by rw [hwd]; exact hSR.c1
                      have x2 : wd.cell? ⟨P, 2, none⟩ = some (.int .i64 s.n.spare) := by rw [hwd]; exact hSR.c2
                      have x3 : wd.cell? ⟨P, 3, none⟩ = some (.slice (some ⟨g, 0, none⟩) L co) := by rw [hwd, HLN.out]; exact hSR.c3
                      have cO : wd.cell? ⟨g, d.o, none⟩ = some (.string (objOf s d.o)) := by rw [hwd]; exact hSR.ob d.o HG1.out
                      have b0 : wd.cell? ⟨Bx, 0, none⟩ = some (.int .i64 d.o) := by rw [hwd]; exact bx 0 _ rfl
                      have b1 : wd.cell? ⟨Bx, 1, none⟩ = some (.int .i64 d.b) := by rw [hwd]; exact bx 1 _ rfl
                      have b2 : wd.cell? ⟨Bx, 2, none⟩ = some (.int .i64 d.owes) := by rw [hwd]; exact bx 2 _ rfl
                      have HSD : Hid (SI w wd P s.n s.objs (mixD (due s t) B i) s.sent F ao co (some ⟨dg, 0, none⟩) cd) := by unfold Hid; rw [hwd]; exact SI6.drawn
                      have hKd : KD w3 wd (Value.slice (some ⟨dg, 0, none⟩) D cd).ownBlock := by rw [hwd]; exact hK6.drew
                      have hBl' : Bx < wd.heap.size := by rw [hwd]; exact hBl
                      refine wp_region_still_tail 15 (by kernel_rfl) (by kernel_rfl) ?_
                      change wpStill _ _ (World.drew _) (fun a' => wpList _ _ _ _ a' (World.drew _)) _ _
                      simp only [← hwd]
                      clear hwd SI6 hSR bx hBl hK6
                      simp only [List.take_succ_cons, List.take_zero, List.drop_succ_cons, List.drop_zero]
                      repeat still_step
                      refine wpStill_nil ?_
                      go_wp2_with fail
                      refine (HMA _).mono ?_
                      rintro e w7 ⟨rfl, hb7⟩
                      have HSI7 : Hid (SI w w7 P s.n s.objs (mixD (due s t) B i) s.sent F ao co (some ⟨dg, 0, none⟩) cd) := HSD.out.below hb7
                      have hK7 := hKd.below hb7
                      have b2' : w7.cell? ⟨Bx, 2, none⟩ = some (.int .i64 d.owes) := (hb7.cell (p := ⟨Bx, 2, none⟩) hBl').trans b2
                      have u2 : w7.cell? ⟨Xb, 2, none⟩ = some (.int .i64 t.c) := hK7.cell hXl hXo y2
                      have c4 : w7.cell? ⟨P, 4, none⟩ = some (.slice (some ⟨dg, 0, none⟩) D cd) := by rw [← HML.out]; exact HSI7.out.row.cell (by decide)
                      obtain ⟨dg', e', _, _, hdc, hdf⟩ := HSI7.out.debt_at (by rw [HML.out]; omega)
                      simp only [Option.some.injEq, Addr.mk.injEq, and_true] at e'
                      subst e'
                      have q2 := hdc i (by rw [HML.out]; exact hlt) 2 _ (by decide) rfl
                      have f2 := hdf (i * 4 + 2)
                      obtain ⟨k, hkk⟩ : ∃ k, k = s.n.many (objOf s d.o).size d.b := ⟨_, rfl⟩
                      have HKK : Hid (k = s.n.many (objOf s d.o).size d.b) := hkk
                      have hk8 : k ≤ 8 := by rw [hkk]; have := many_le s.n (objOf s d.o).size d.b; have := HS.out.base.nok.2.2.2.1; omega
                      rw [← hkk] at HDA ⊢
                      clear hkk hdc hdf HMA x0 x1 x2 x3 cO b0 b1 b2 HSD hKd hb7 hBl'
                      by_cases hck : t.c < (k : Int)
                      · obtain ⟨N0, hN0⟩ : ∃ N0 : Nat, t.c = (N0 : Int) := ⟨t.c.toNat, by omega⟩
                        have HNV : Hid (N0 = askN k t) := by unfold Hid askN; rw [if_pos ⟨hc2, hck⟩, hN0]; simp
                        rw [hN0] at u2 hc2 hck
                        clear hN0
                        by_cases hge : d.owes < N0
                        · have HDU : Hid (due s t d = { d with owes := N0 }) := by unfold Hid; rw [HDA.out, if_pos (by rw [← HNV.out]; exact hge), ← HNV.out]
                          have SF := HSI7.out.set_debt (j := i * 4 + 2) (v := .int .i64 N0) (ds' := (mixD (due s t) B i).set i { (mixD (due s t) B i).getD i ⟨0, 0, 0, 0⟩ with owes := N0 }) (by rw [HML.out]; omega) (by simp) (dvs_set_owes _ ⟨0, 0, 0, 0⟩ N0 i (by rw [HML.out]; exact hlt))
                          have HF : Hid (SI w (w7.setCell ⟨dg, i * 4 + 2, none⟩ (.int .i64 N0)) P s.n s.objs (mixD (due s t) B (i + 1)) s.sent F ao co (some ⟨dg, 0, none⟩) cd) := by
                            unfold Hid
                            rw [← mixD_succ (due s t) B i (by rw [HBL.out]; exact hlt) ⟨0, 0, 0, 0⟩, ← HDD.out, HDU.out]
                            rw [mixD_at (due s t) B i (by rw [HBL.out]; exact hlt), ← HDD.out] at SF
                            exact SF
                          have hKF : KD w3 (w7.setCell ⟨dg, i * 4 + 2, none⟩ (.int .i64 N0)) (Value.slice (some ⟨dg, 0, none⟩) D cd).ownBlock := hK7.set
                          clear SF hK7 HSI7
                          go_wp2
                          go_roundw
                          case rel => exact ⟨i + 1, by omega, by go_num, HF.out, hKF⟩
                          case measure => simp [intOf]; omega
                        · have HF : Hid (SI w w7 P s.n s.objs (mixD (due s t) B (i + 1)) s.sent F ao co (some ⟨dg, 0, none⟩) cd) := by
                            unfold Hid
                            rw [mixD_same (due s t) B i (by rw [HBL.out]; exact hlt) ⟨0, 0, 0, 0⟩ (by rw [← HDD.out, HDA.out, if_neg (by rw [← HNV.out]; exact hge)])]
                            exact HSI7.out
                          have hge' : (N0 : Int) ≤ (d.owes : Int) := by omega
                          clear HSI7 hge
                          go_wp2
                          go_roundw
                          case rel => exact ⟨i + 1, by omega, by go_num, HF.out, hK7⟩
                          case measure => simp [intOf]; omega
                      · have HNV : Hid (k = askN k t) := by unfold Hid askN; rw [if_neg (fun h => hck h.2)]
                        have hck' : (k : Int) ≤ t.c := by omega
                        clear hck
                        by_cases hge : d.owes < k
                        · have HDU : Hid (due s t d = { d with owes := k }) := by unfold Hid; rw [HDA.out, if_pos (by rw [← HNV.out]; exact hge), ← HNV.out]
                          have SF := HSI7.out.set_debt (j := i * 4 + 2) (v := .int .i64 k) (ds' := (mixD (due s t) B i).set i { (mixD (due s t) B i).getD i ⟨0, 0, 0, 0⟩ with owes := k }) (by rw [HML.out]; omega) (by simp) (dvs_set_owes _ ⟨0, 0, 0, 0⟩ k i (by rw [HML.out]; exact hlt))
                          have HF : Hid (SI w (w7.setCell ⟨dg, i * 4 + 2, none⟩ (.int .i64 k)) P s.n s.objs (mixD (due s t) B (i + 1)) s.sent F ao co (some ⟨dg, 0, none⟩) cd) := by
                            unfold Hid
                            rw [← mixD_succ (due s t) B i (by rw [HBL.out]; exact hlt) ⟨0, 0, 0, 0⟩, ← HDD.out, HDU.out]
                            rw [mixD_at (due s t) B i (by rw [HBL.out]; exact hlt), ← HDD.out] at SF
                            exact SF
                          have hKF : KD w3 (w7.setCell ⟨dg, i * 4 + 2, none⟩ (.int .i64 k)) (Value.slice (some ⟨dg, 0, none⟩) D cd).ownBlock := hK7.set
                          clear SF hK7 HSI7
                          go_wp2
                          go_roundw
                          case rel => exact ⟨i + 1, by omega, by go_num, HF.out, hKF⟩
                          case measure => simp [intOf]; omega
                        · have HF : Hid (SI w w7 P s.n s.objs (mixD (due s t) B (i + 1)) s.sent F ao co (some ⟨dg, 0, none⟩) cd) := by
                            unfold Hid
                            rw [mixD_same (due s t) B i (by rw [HBL.out]; exact hlt) ⟨0, 0, 0, 0⟩ (by rw [← HDD.out, HDA.out, if_neg (by rw [← HNV.out]; exact hge)])]
                            exact HSI7.out
                          have hge' : (k : Int) ≤ (d.owes : Int) := by omega
                          clear HSI7 hge
                          go_wp2
                          go_roundw
                          case rel => exact ⟨i + 1, by omega, by go_num, HF.out, hK7⟩
                          case measure => simp [intOf]; omega
                    · have e3 : ((d.b : Int) != t.b) = true := by simpa using hc3
                      have HSK : Hid ((d.o : Int) ≠ t.o ∨ (0 < t.c ∧ (d.b : Int) ≠ t.b)) := .inr ⟨hc2, hc3⟩
                      clear hc1 hc3
                      have HF : Hid (SI w (wr.alloc (.cells #[.int .i64 d.o, .int .i64 d.b, .int .i64 d.owes, .int .i64 d.turn] 93)) P s.n s.objs (mixD (due s t) B (i + 1)) s.sent F ao co (some ⟨dg, 0, none⟩) cd) := by
                        unfold Hid
                        rw [mixD_same (due s t) B i (by rw [HBL.out]; exact hlt) ⟨0, 0, 0, 0⟩ (by rw [← HDD.out]; exact due_skip s t d HSK.out)]
                        exact HSI.out.below ((Below.refl _ _).alloc (Nat.le_refl _) _)
                      have hKF : KD w3 (wr.alloc (.cells #[.int .i64 d.o, .int .i64 d.b, .int .i64 d.owes, .int .i64 d.turn] 93)) (Value.slice (some ⟨dg, 0, none⟩) D cd).ownBlock := hKV.below ((Below.refl _ _).alloc (Nat.le_refl _) _)
                      clear HSI hKV
                      go_wp2
                      go_roundw
                      case rel => exact ⟨i + 1, by omega, by go_num, HF.out, hKF⟩
                      case measure => simp [intOf]; omega
                  · have hc2' : t.c ≤ 0 := by omega
                    have HSK : Hid (¬ ((d.o : Int) ≠ t.o ∨ (0 < t.c ∧ (d.b : Int) ≠ t.b))) := by unfold Hid; simp [hc1, hc2]
                    have HC2 : Hid (¬ 0 < t.c) := hc2
                    clear hc1 hc2
                    have HDA : Hid (due s t d = if d.owes < askN (s.n.many (objOf s d.o).size d.b) t then { d with owes := askN (s.n.many (objOf s d.o).size d.b) t } else d) := due_ask s t d HSK.out
                    have SI6 := HSI.out.below ((Below.refl wr.heap.size wr).alloc (Nat.le_refl _) (.cells #[.int .i64 d.o, .int .i64 d.b, .int .i64 d.owes, .int .i64 d.turn] 93))
                    have bx : ∀ r v, (#[Value.int .i64 d.o, .int .i64 d.b, .int .i64 d.owes, .int .i64 d.turn] : Array Value)[r]? = some v → (wr.alloc (.cells #[.int .i64 d.o, .int .i64 d.b, .int .i64 d.owes, .int .i64 d.turn] 93)).cell? ⟨wr.heap.size, r, none⟩ = some v := fun r v hv => cell_new rfl hv
                    have hBl : wr.heap.size < (wr.alloc (.cells #[.int .i64 d.o, .int .i64 d.b, .int .i64 d.owes, .int .i64 d.turn] 93)).heap.size := by simp
                    have hK6 : KD w3 (wr.alloc (.cells #[.int .i64 d.o, .int .i64 d.b, .int .i64 d.owes, .int .i64 d.turn] 93)) (Value.slice (some ⟨dg, 0, none⟩) D cd).ownBlock := hKV.below ((Below.refl _ _).alloc (Nat.le_refl _) _)
                    go_upto_region 13 with fail
                    obtain ⟨Bx, hBx⟩ : ∃ X, X = wr.heap.size := ⟨_, rfl⟩
                    have hBx' : wr.heap.size = Bx := hBx.symm
                    simp only [hBx'] at *
                    clear hBx hBx' k0 k1 k2 k3 c4 HSI v0 v1 v2 hKV hdg
                    generalize (wr.alloc (.cells #[.int .i64 d.o, .int .i64 d.b, .int .i64 d.owes, .int .i64 d.turn] 93)) = W6 at *
                    obtain ⟨g, hao, hSR⟩ := SI6.reads (s := s) (by rw [← HLN.out]; omega)
                    clear hao
                    have HMA := fun W => many_any s.n (objOf s d.o).size d.b W HS.out.base.nok (by have := obj_size HS.out.base HG1.out; omega) (by omega)
                    obtain ⟨wd, hwd⟩ : ∃ wd, wd = W6.drew := ⟨_, rfl⟩
                    have x0 : wd.cell? ⟨P, 0, none⟩ = some (.int .i64 s.n.size) := by rw [hwd]; exact hSR.c0
                    have x1 : wd.cell? ⟨P, 1, none⟩ = some (.int .i64 s.n.block) := by rw [hwd]; exact hSR.c1
                    have x2 : wd.cell? ⟨P, 2, none⟩ = some (.int .i64 s.n.spare) := by rw [hwd]; exact hSR.c2
                    have x3 : wd.cell? ⟨P, 3, none⟩ = some (.slice (some ⟨g, 0, none⟩) L co) := by rw [hwd, HLN.out]; exact hSR.c3
                    have cO : wd.cell? ⟨g, d.o, none⟩ = some (.string (objOf s d.o)) := by rw [hwd]; exact hSR.ob d.o HG1.out
                    have b0 : wd.cell? ⟨Bx, 0, none⟩ = some (.int .i64 d.o) := by rw [hwd]; exact bx 0 _ rfl
                    have b1 : wd.cell? ⟨Bx, 1, none⟩ = some (.int .i64 d.b) := by rw [hwd]; exact bx 1 _ rfl
                    have b2 : wd.cell? ⟨Bx, 2, none⟩ = some (.int .i64 d.owes) := by rw [hwd]; exact bx 2 _ rfl
                    have HSD : Hid (SI w wd P s.n s.objs (mixD (due s t) B i) s.sent F ao co (some ⟨dg, 0, none⟩) cd) := by unfold Hid; rw [hwd]; exact SI6.drawn
                    have hKd : KD w3 wd (Value.slice (some ⟨dg, 0, none⟩) D cd).ownBlock := by rw [hwd]; exact hK6.drew
                    have hBl' : Bx < wd.heap.size := by rw [hwd]; exact hBl
                    refine wp_region_still_tail 15 (by kernel_rfl) (by kernel_rfl) ?_
                    change wpStill _ _ (World.drew _) (fun a' => wpList _ _ _ _ a' (World.drew _)) _ _
                    simp only [← hwd]
                    clear hwd SI6 hSR bx hBl hK6
                    simp only [List.take_succ_cons, List.take_zero, List.drop_succ_cons, List.drop_zero]
                    repeat still_step
                    refine wpStill_nil ?_
                    go_wp2_with fail
                    refine (HMA _).mono ?_
                    rintro e w7 ⟨rfl, hb7⟩
                    have HSI7 : Hid (SI w w7 P s.n s.objs (mixD (due s t) B i) s.sent F ao co (some ⟨dg, 0, none⟩) cd) := HSD.out.below hb7
                    have hK7 := hKd.below hb7
                    have b2' : w7.cell? ⟨Bx, 2, none⟩ = some (.int .i64 d.owes) := (hb7.cell (p := ⟨Bx, 2, none⟩) hBl').trans b2
                    have u2 : w7.cell? ⟨Xb, 2, none⟩ = some (.int .i64 t.c) := hK7.cell hXl hXo y2
                    have c4 : w7.cell? ⟨P, 4, none⟩ = some (.slice (some ⟨dg, 0, none⟩) D cd) := by rw [← HML.out]; exact HSI7.out.row.cell (by decide)
                    obtain ⟨dg', e', _, _, hdc, hdf⟩ := HSI7.out.debt_at (by rw [HML.out]; omega)
                    simp only [Option.some.injEq, Addr.mk.injEq, and_true] at e'
                    subst e'
                    have q2 := hdc i (by rw [HML.out]; exact hlt) 2 _ (by decide) rfl
                    have f2 := hdf (i * 4 + 2)
                    obtain ⟨k, hkk⟩ : ∃ k, k = s.n.many (objOf s d.o).size d.b := ⟨_, rfl⟩
                    have HKK : Hid (k = s.n.many (objOf s d.o).size d.b) := hkk
                    have hk8 : k ≤ 8 := by rw [hkk]; have := many_le s.n (objOf s d.o).size d.b; have := HS.out.base.nok.2.2.2.1; omega
                    rw [← hkk] at HDA ⊢
                    clear hkk hdc hdf HMA x0 x1 x2 x3 cO b0 b1 b2 HSD hKd hb7 hBl'
                    have HNV : Hid (k = askN k t) := by unfold Hid askN; rw [if_neg (fun h => absurd h.1 (Int.not_lt.2 HC2.out))]
                    by_cases hge : d.owes < k
                    · have HDU : Hid (due s t d = { d with owes := k }) := by unfold Hid; rw [HDA.out, if_pos (by rw [← HNV.out]; exact hge), ← HNV.out]
                      have SF := HSI7.out.set_debt (j := i * 4 + 2) (v := .int .i64 k) (ds' := (mixD (due s t) B i).set i { (mixD (due s t) B i).getD i ⟨0, 0, 0, 0⟩ with owes := k }) (by rw [HML.out]; omega) (by simp) (dvs_set_owes _ ⟨0, 0, 0, 0⟩ k i (by rw [HML.out]; exact hlt))
                      have HF : Hid (SI w (w7.setCell ⟨dg, i * 4 + 2, none⟩ (.int .i64 k)) P s.n s.objs (mixD (due s t) B (i + 1)) s.sent F ao co (some ⟨dg, 0, none⟩) cd) := by
                        unfold Hid
                        rw [← mixD_succ (due s t) B i (by rw [HBL.out]; exact hlt) ⟨0, 0, 0, 0⟩, ← HDD.out, HDU.out]
                        rw [mixD_at (due s t) B i (by rw [HBL.out]; exact hlt), ← HDD.out] at SF
                        exact SF
                      have hKF : KD w3 (w7.setCell ⟨dg, i * 4 + 2, none⟩ (.int .i64 k)) (Value.slice (some ⟨dg, 0, none⟩) D cd).ownBlock := hK7.set
                      clear SF hK7 HSI7
                      go_wp2
                      go_roundw
                      case rel => exact ⟨i + 1, by omega, by go_num, HF.out, hKF⟩
                      case measure => simp [intOf]; omega
                    · have HF : Hid (SI w w7 P s.n s.objs (mixD (due s t) B (i + 1)) s.sent F ao co (some ⟨dg, 0, none⟩) cd) := by
                        unfold Hid
                        rw [mixD_same (due s t) B i (by rw [HBL.out]; exact hlt) ⟨0, 0, 0, 0⟩ (by rw [← HDD.out, HDA.out, if_neg (by rw [← HNV.out]; exact hge)])]
                        exact HSI7.out
                      have hge' : (k : Int) ≤ (d.owes : Int) := by omega
                      clear HSI7 hge
                      go_wp2
                      go_roundw
                      case rel => exact ⟨i + 1, by omega, by go_num, HF.out, hK7⟩
                      case measure => simp [intOf]; omega
                · have e1 : ((d.o : Int) != t.o) = true := by simpa using hc1
                  have HSK : Hid ((d.o : Int) ≠ t.o ∨ (0 < t.c ∧ (d.b : Int) ≠ t.b)) := .inl hc1
                  clear hc1
                  have HF : Hid (SI w (wr.alloc (.cells #[.int .i64 d.o, .int .i64 d.b, .int .i64 d.owes, .int .i64 d.turn] 93)) P s.n s.objs (mixD (due s t) B (i + 1)) s.sent F ao co (some ⟨dg, 0, none⟩) cd) := by
                    unfold Hid
                    rw [mixD_same (due s t) B i (by rw [HBL.out]; exact hlt) ⟨0, 0, 0, 0⟩ (by rw [← HDD.out]; exact due_skip s t d HSK.out)]
                    exact HSI.out.below ((Below.refl _ _).alloc (Nat.le_refl _) _)
                  have hKF : KD w3 (wr.alloc (.cells #[.int .i64 d.o, .int .i64 d.b, .int .i64 d.owes, .int .i64 d.turn] 93)) (Value.slice (some ⟨dg, 0, none⟩) D cd).ownBlock := hKV.below ((Below.refl _ _).alloc (Nat.le_refl _) _)
                  clear HSI hKV
                  go_wp2
                  go_roundw
                  case rel => exact ⟨i + 1, by omega, by go_num, HF.out, hKF⟩
                  case measure => simp [intOf]; omega
              · obtain rfl : i = D := by omega
                have hS2 := hS
                rw [← HBL.out, mixD_all, HBE.out, HTE.out, ← duesTo_succ s m.items j (by rw [← HNI.out]; exact hjn)] at hS2
                have HF : Hid (SI w wr P s.n s.objs (duesTo s m.items (j + 1)) s.sent F ao co ad cd) := hS2
                have hKF := hKD3.trans hKV
                clear hS hS2 hKV HSI z0 z1 z2
                go_wp2
                go_roundw
                case rel => exact ⟨j + 1, by omega, by go_num, HF.out, hKF⟩
                case measure => simp [intOf]; omega
        · obtain rfl : j = nI := by omega
          have HF := hS
          rw [HNI.out, duesTo_all] at HF
          clear hS
          go_wp2
          go_ret
          exact ⟨.inl ⟨m, HT.out, HK.out, rfl, HF.done⟩, HF.touch⟩
    · have tk : (m.kind != 2) = true := by simpa using hk
      have HN : Hid (∀ m', Tells tx m' → m'.kind ≠ 2) := fun m' h' => by
        have e : m' = m := (Ms.tells_ref h').symm.trans (Ms.tells_ref HT.out)
        rw [e]; exact hk
      clear hk htl hown hb1 HI
      go_wp2
      go_ret
      exact ⟨.inr ⟨HN.out, rfl, HSI1.out.done⟩, HSI1.out.touch⟩
  · have HN : Hid (∀ m', Tells tx m' → m'.kind ≠ 2) := fun m' h' => absurd h' (hno m')
    have HF := (HI.out.below hb1).below ((Below.refl _ _).alloc (Nat.le_refl _) (mBox 0 0 0 0 0 ⟨#[]⟩ none 0 0 0))
    clear hno hb1 HI
    go_wp2
    go_ret
    exact ⟨.inr ⟨HN.out, rfl, HF.done⟩, HF.touch⟩
end Sn
end Go.Proofs.YtkgnmcekeeannaaGreat
