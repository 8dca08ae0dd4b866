import Derived.Test.YtkgnmcekeeannaaGreatY35
/-
  The landed receiver's begin and add.
-/
namespace Go.Proofs.YtkgnmcekeeannaaGreat
open Go.RowKit Go.Deep
namespace Sn
open Bs
open Ms (M It txt text ok owns_setCell Two two_block two_size two_grown two_new wpList_append_two)
set_option linter.unusedVariables false

theorem infoGb : (Tryz.prog.info? 143).map (fun i => (i.zero, i.size, i.bytes)) = some (some (.agg #[.slice none 0 0, .slice none 0 0]), 2, 48) := by kernel_rfl
theorem made2_nil (w : World) (n : Nat) (t : TypeId) : (w.alloc (.cells (madeCells #[.slice none 0 0, .slice none 0 0] (n * 2)) t)).rowIs w.heap.size t (n * 2) (fun _ => .slice none 0 0) :=
  ⟨_, blk_alloc_new _ _, size_madeCells _ _, fun i hi => by
    have : i % 2 = 0 ∨ i % 2 = 1 := by omega
    rcases this with e | e <;> simp [madeCells, hi, e]⟩
def LRIs (w w' : World) (P : Nat) (r : LR) (F : Nat → Prop) : Prop := (∃ K ao co D nv sv, LRI w' P r (grow F w w') K ao co D nv sv) ∧ Touch w w' F
set_option maxHeartbeats 4000000 in
set_option maxRecDepth 100000 in
theorem lanBegin (r : LR) (o L : Nat) (P : Nat) (F : Nat → Prop) (K : Nat → Slot) (ao : Option Addr) (co : Nat) (D : Nat → Nat) (nv sv : Nat → Nat → Value) (w : World) (hn : r.n.ok) (hk : r.kn ≤ 8) (ho : o < r.kn) (h0 : r.ln o = 0) (hL : 1 ≤ L) (hL2 : L ≤ 256) (e1 : ∀ b, r.nm o b = []) (e2 : ∀ b, r.sm o b = []) (hA : LRI w P r F K ao co D nv sv) :
    Calls Tryz.prog 86 #[.pointer (some ⟨P, 0, none⟩), .int .i64 o, .int .i64 L] w fun e w' => e = .returned (.tuple #[]) ∧ LRIs w w' P { r with ln := upd1 r.ln o L } F := by
  obtain ⟨c0, c1, c2, c3, c4⟩ := hA.cells
  obtain ⟨g, rfl, hg, hgK, s0, s1, hfz⟩ := hA.slot ho
  have HBL := fun W => layBlocks r.n L W hn (by omega)
  have hB := blocks_le r.n hn L hL2
  obtain ⟨i1, ki, kz0, kz1, kz2⟩ := info_parts3 infoGb
  simp only [nmV] at HBL
  obtain ⟨Bn, hBn⟩ : ∃ Bn, Bn = r.n.blocks L := ⟨_, rfl⟩
  rw [← hBn] at HBL hB
  have HBn : Hid (Bn = r.n.blocks L) := hBn
  have hmk : ∀ W : World, (Instr.makeSlice 123 (.int .i64 (Bn : Int)) (.int .i64 (Bn : Int))).run Tryz.prog W = .ok (.slice (some ⟨W.heap.size, 0, none⟩) Bn Bn) (W.alloc (.cells (madeCells #[.slice none 0 0, .slice none 0 0] (Bn * 2)) 143)) := fun W => by
    have hr := run_make (P := Tryz.prog) W 123 143 i1 _ Tryz.underlying123 ki kz0 .i64 .i64 Bn Bn (by omega) (Int.le_refl _) (by rw [kz2]; omega) (by omega)
    simp only [Int.toNat_natCast, kz1] at hr
    exact hr
  have HA : Hid (LRI w P r F K (some ⟨g, 0, none⟩) co D nv sv) := hA
  have HE1 : Hid (∀ b, r.nm o b = []) := e1
  have HE2 : Hid (∀ b, r.sm o b = []) := e2
  have H0 : Hid (r.ln o = 0) := h0
  have HO : Hid (o < r.kn) := ho
  obtain ⟨N, hN⟩ : ∃ N, N = r.kn := ⟨_, rfl⟩
  rw [← hN] at c3 ho hk
  clear hA hBn hN hfz c4 e1 e2
  rw [h0] at s0
  clear h0
  go_enter Tryz.func86, Tryz.ntmps86
  go_wp2_with fail
  refine (HBL _).mono ?_
  rintro e w1 ⟨rfl, hb1⟩
  have H1 := HA.out.below hb1
  have HB1 : Hid (Below w.heap.size w w1) := hb1
  have HI1 : Hid (LRI w1 P r F (painted K .no w.heap.size) (some ⟨g, 0, none⟩) co D nv sv) := H1
  clear c0 c1 c2 c3 s0 s1 HBL hb1
  obtain ⟨c0, c1, c2, c3, c4⟩ := H1.cells
  clear H1
  go_wp2_with fail
  refine wp_region_any (by kernel_rfl) ?_
  change wpAny _ _ _ _ _ _ _ (World.drew w1)
  obtain ⟨W, hW⟩ : ∃ W, W = w1.drew := ⟨_, rfl⟩
  have HIW0 := HI1.out.drew
  rw [← hW] at HIW0 ⊢
  have HIW : Hid (LRI W P r F (painted K .no w.heap.size) (some ⟨g, 0, none⟩) co D nv sv) := HIW0
  have HBW : Hid (Below w.heap.size w W) := by rw [hW]; exact HB1.out.drew
  clear hW c0 c1 c2 c3 c4 HI1 HB1
  obtain ⟨c0, c1, c2, c3, c4⟩ := HIW0.cells
  have hgl := (HIW0.slot HO.out).choose_spec
  have hPl := HIW0.row.lt
  have hgW : g < W.heap.size := by have := HBW.out.size; omega
  obtain ⟨g', eg, _, _, s0, s1, fz⟩ := HIW0.slot HO.out
  obtain rfl : g = g' := by simpa using eg
  have f0 := fz (o * 2)
  have f1 := fz (o * 2 + 1)
  rw [H0.out] at s0
  clear HIW0 eg fz hgl
  obtain ⟨N', hN'⟩ : ∃ N', N' = r.kn := ⟨_, rfl⟩
  have hoN : o < N' := by rw [hN']; exact HO.out
  rw [← hN'] at c3
  clear hN'
  have q3 : (W.alloc (.cells (madeCells #[.slice none 0 0, .slice none 0 0] (Bn * 2)) 143)).cell? ⟨P, 3, none⟩ = some (.slice (some ⟨g, 0, none⟩) N' co) := cell_old hPl c3
  have q0 : (W.alloc (.cells (madeCells #[.slice none 0 0, .slice none 0 0] (Bn * 2)) 143)).cell? ⟨g, o * 2, none⟩ = some (.int .i64 (0 : Nat)) := cell_old hgW s0
  have q1 : (W.alloc (.cells (madeCells #[.slice none 0 0, .slice none 0 0] (Bn * 2)) 143)).cell? ⟨g, o * 2 + 1, none⟩ = some (gval r D o) := cell_old hgW s1
  have HF : Hid (LRIs w (((W.setCell ⟨g, o * 2, none⟩ (.int .i64 L)).setCell ⟨g, o * 2 + 1, none⟩ (.slice (some ⟨W.heap.size, 0, none⟩) Bn Bn)).alloc (.cells (madeCells #[.slice none 0 0, .slice none 0 0] (Bn * 2)) 143)) P { r with ln := upd1 r.ln o L } F) := by
    have e : ((W.setCell ⟨g, o * 2, none⟩ (.int .i64 L)).setCell ⟨g, o * 2 + 1, none⟩ (.slice (some ⟨W.heap.size, 0, none⟩) Bn Bn)).alloc (.cells (madeCells #[.slice none 0 0, .slice none 0 0] (Bn * 2)) 143) = ((W.alloc (.cells (madeCells #[.slice none 0 0, .slice none 0 0] (Bn * 2)) 143)).setCell ⟨g, o * 2, none⟩ (.int .i64 L)).setCell ⟨g, o * 2 + 1, none⟩ (.slice (some ⟨W.heap.size, 0, none⟩) Bn Bn) := by
      rw [World.setCell_alloc_past (hn := hgW), World.setCell_alloc_past (hn := by simp; exact hgW)]
    have hz := HBW.out.size
    have rN := made2_nil W Bn 143
    have LN := LRI.begin (G := grow F w (((W.alloc (.cells (madeCells #[.slice none 0 0, .slice none 0 0] (Bn * 2)) 143)).setCell ⟨g, o * 2, none⟩ (.int .i64 L)).setCell ⟨g, o * 2 + 1, none⟩ (.slice (some ⟨W.heap.size, 0, none⟩) Bn Bn))) (L := L) HIW.out ((Below.refl _ _).alloc (Nat.le_refl _) _) (Nat.le_refl _) HO.out H0.out (by omega) (by rw [← HBn.out]; exact rN) HE1.out HE2.out (fun b hb => .inl hb) (fun b h1 h2 => .inr ⟨by omega, by simpa using h2⟩)
    rw [← HBn.out] at LN
    have hgF : F g := HA.out.kF g hg (by rw [hgK]; simp)
    unfold Hid
    rw [e]
    refine ⟨⟨_, _, _, _, _, _, LN⟩, ?_⟩
    exact touch_set (touch_set (((Touch.refl w F).below HBW.out).below ((Below.refl _ _).alloc (Nat.le_refl _) _)) (.inl hgF)) (.inl hgF)
  refine wpAny_take (i := 0) (v := .pointer (some ⟨P, 0, none⟩)) rfl (by kernel_rfl) (by kernel_rfl) (by kernel_rfl) (fun _ _ _ h => h) (Or.inl ⟨by rfl, by intro w; go_simp⟩) ?_
  refine wpAny_take (i := 1) (v := .pointer (some ⟨P, 0, none⟩)) rfl (by kernel_rfl) (by kernel_rfl) (by kernel_rfl) (fun _ _ _ h => h) (Or.inl ⟨by rfl, by intro w; go_simp⟩) ?_
  refine wpAny_take (i := 2) (v := .pointer (some ⟨P, 3, none⟩)) rfl (by kernel_rfl) (by kernel_rfl) (by kernel_rfl) (fun _ _ _ h => h) (Or.inl ⟨by rfl, by intro w; go_simp⟩) ?_
  refine wpAny_take (i := 4) (v := .int .i64 o) rfl (by kernel_rfl) (by kernel_rfl) (by kernel_rfl) (fun _ _ _ h => h) (Or.inl ⟨by rfl, by intro w; go_simp⟩) ?_
  refine wpAny_take (i := 5) (v := .int .i64 L) rfl (by kernel_rfl) (by kernel_rfl) (by kernel_rfl) (fun _ _ _ h => h) (Or.inl ⟨by rfl, by intro w; go_simp⟩) ?_
  refine wpAny_take (i := 6) (v := .int .i64 Bn) rfl (by kernel_rfl) (by kernel_rfl) (by kernel_rfl) (fun _ _ _ h => h) (Or.inl ⟨by rfl, by intro w; go_simp⟩) ?_
  refine wpAny_ready (rs := [3, 7]) (by kernel_rfl) (by simp) ?_
  refine AllReady.cons rfl (fun K hK => ?ord1) (AllReady.cons rfl (fun K hK => ?ord2) AllReady.nil)
  case' ord1 =>
    go_simp
    refine hK _ _ ?_
    clear hK K
    refine wpAny_ready (rs := [7]) (by kernel_rfl) (by simp) ?_
    refine AllReady.cons rfl (fun K hK => ?_) AllReady.nil
    go_simp
    refine hK _ _ ?_
    clear hK K
  case' ord2 =>
    go_simp
    refine hK _ _ ?_
    clear hK K
    refine wpAny_take (i := 8) (v := .agg #[.int .i64 L, .slice (some ⟨W.heap.size, 0, none⟩) Bn Bn]) rfl (by kernel_rfl) (by kernel_rfl) (by kernel_rfl) (fun _ _ _ h => h) (Or.inl ⟨by rfl, by intro w; go_simp⟩) ?_
    refine wpAny_ready (rs := [3]) (by kernel_rfl) (by simp) ?_
    refine AllReady.cons rfl (fun K hK => ?_) AllReady.nil
    go_simp
    refine hK _ _ ?_
    clear hK K
  case' ord1 =>
    refine wpAny_take (i := 8) (v := .agg #[.int .i64 L, .slice (some ⟨W.heap.size, 0, none⟩) Bn Bn]) rfl (by kernel_rfl) (by kernel_rfl) (by kernel_rfl) (fun _ _ _ h => h) (Or.inl ⟨by rfl, by intro w; go_simp⟩) ?_
  all_goals
    refine wpAny_ready (rs := [9]) (by kernel_rfl) (by simp) ?_
    refine AllReady.cons rfl (fun K hK => ?_) AllReady.nil
    go_simp
    refine hK _ _ ?_
    clear hK K
    refine wpAny_ready (rs := [10]) (by kernel_rfl) (by simp) ?_
    refine AllReady.cons rfl (fun K hK => ?_) AllReady.nil
    go_simp
    refine hK _ _ ?_
    clear hK K
    refine wpAny_done (by kernel_rfl) ?_ _
    go_wp2
    refine bodyPost_end (v := .tuple #[]) (by simp [results, Tryz.results86]) rfl ?_
    exact ⟨rfl, HF.out⟩
end Sn
end Go.Proofs.YtkgnmcekeeannaaGreat
/-
  The landed receiver's add.
-/
namespace Go.Proofs.YtkgnmcekeeannaaGreat
open Go.RowKit Go.Deep
namespace Sn
open Bs
open Ms (M It txt text ok owns_setCell Two two_block two_size two_grown two_new wpList_append_two)
set_option linter.unusedVariables false

def LR.adds (r : LR) (o b : Nat) (x : Int) (l : List UInt8) : LR := { r with nm := updL r.nm o b (r.nm o b ++ [x]), sm := updL r.sm o b (r.sm o b ++ l) }
def LR.add (r : LR) (o b k : Nat) (x : Int) (tx : ByteArray) : LR := if (r.nm o b).length < k ∧ x ∉ r.nm o b then r.adds o b x tx.data.toList else r
theorem infoInt : (Tryz.prog.info? 3).map (fun i => (i.zero, i.size, i.bytes)) = some (some (.int .i64 0), 1, 8) := by kernel_rfl
theorem ints_get (l : List Int) (i : Nat) (h : i < l.length) : (ints l)[i]? = some (.int .i64 l[i]) := by simp [ints, h]
theorem LRI.touch {w wr w2 : World} {P : Nat} {r : LR} {F : Nat → Prop} {K : Nat → Slot} {ao : Option Addr} {co : Nat} {D : Nat → Nat} {nv sv : Nat → Nat → Value} {v : Value} {x : Value} {B j : Nat} (h : LRI wr P r (grow F w wr) K ao co D nv sv) (T : Touch w wr F) (hg : wr.grownBy w2 v.ownBlock) (hv : ∀ y, v.ownBlock = some y → K y ≠ .no) (hB : B < wr.heap.size) (hK : K B ≠ .no) : Touch w (w2.setCell ⟨B, j, none⟩ x) F := by
  have hgs := hg.size
  have hk1 : ∀ y, y < wr.heap.size → K y ≠ .no → y < w.heap.size → F y := fun y hy hk hl => (h.kF y hy hk).elim id (fun e => by omega)
  refine ⟨hg.os.trans T.os, hg.tape.trans T.tape, hg.output.trans T.output, by have := T.size; simp; omega, fun b hb hF => ?_⟩
  have hbz : b < wr.heap.size := by have := T.size; omega
  rw [heap_setCell_other _ _ _ _ (fun e => hF (hk1 b hbz (by rw [e]; exact hK) hb)), hg.block b hbz (fun e => hF (hk1 b hbz (hv b e.symm) hb)), T.block b hb hF]
def AddTo (w wr : World) (P : Nat) (r : LR) (F : Nat → Prop) (D : Nat → Nat) : Prop := (∃ K ao co nv sv, LRI wr P r (grow F w wr) K ao co D nv sv) ∧ Touch w wr F
set_option maxHeartbeats 4000000 in
set_option maxRecDepth 100000 in
theorem lanAdd (r : LR) (o b k : Nat) (x : Int) (tx : ByteArray) (P : Nat) (F : Nat → Prop) (K : Nat → Slot) (ao : Option Addr) (co : Nat) (D : Nat → Nat) (nv sv : Nat → Nat → Value) (w : World) (hk : k ≤ 8) (hl : (r.nm o b).length ≤ 8) (hs : (r.sm o b).length ≤ 128) (ht : tx.size ≤ 16) (ho : r.live o) (hb : b < r.bks o) (hA : LRI w P r F K ao co D nv sv) :
    Calls Tryz.prog 87 #[.pointer (some ⟨D o, b * 2, none⟩), .int .i64 k, .int .i64 x, .string tx] w fun e w' => e = .returned (.tuple #[]) ∧ AddTo w w' P (r.add o b k x tx) F D := by
  have R := hA.bl o ho
  have cn : w.cell? ⟨D o, b * 2, none⟩ = some (nv o b) := by
    have := R.cell (i := b * 2) (by omega)
    rw [this]; unfold bRow; rw [if_pos (by omega), show b * 2 / 2 = b from by omega]
  have cs : w.cell? ⟨D o, b * 2 + 1, none⟩ = some (sv o b) := by
    have := R.cell (i := b * 2 + 1) (by omega)
    rw [this]; unfold bRow; rw [if_neg (by omega), show (b * 2 + 1) / 2 = b from by omega]
  have fn := R.frozen (b * 2)
  have hDl := R.lt
  have HU : Hid (w.ownsRow 0 3 1 (nv o b) (r.nm o b).length (ints (r.nm o b))) := hA.nu o b ho hb
  obtain ⟨an, cp, hnv⟩ := owns_form HU.out
  have HNV : Hid (nv o b = .slice an (r.nm o b).length cp) := hnv
  obtain ⟨L, hL⟩ : ∃ L, L = (r.nm o b).length := ⟨_, rfl⟩
  have HL : Hid (L = (r.nm o b).length) := hL
  rw [hnv, ← hL] at cn
  rw [← hL] at hl
  have HA : Hid (LRI w P r F K ao co D nv sv) := hA
  have HO : Hid (r.live o) := ho
  have HB : Hid (b < r.bks o) := hb
  have HAD : Hid (r.add o b k x tx = if (r.nm o b).length < k ∧ x ∉ r.nm o b then r.adds o b x tx.data.toList else r) := rfl
  have HKeep : Hid (AddTo w w P r F D) := ⟨⟨K, ao, co, nv, sv, hA.mono (fun b hb _ => .inl hb)⟩, Touch.refl _ _⟩
  clear hA R hnv hL ho hb
  go_enter Tryz.func87, Tryz.ntmps87
  by_cases hfull : k ≤ L
  · have HE : Hid (r.add o b k x tx = r) := by unfold Hid; rw [HAD.out, if_neg (fun h => by have := h.1; rw [← HL.out] at this; omega)]
    go_wp2
    refine bodyPost_ret (v := .tuple #[]) (by simp [results, Tryz.results87]) rfl ?_
    rw [HE.out]
    exact ⟨rfl, HKeep.out⟩
  · have hlt : L < k := by omega
    clear hfull
    obtain ⟨i0, hi, hz0, hz1, hz2⟩ := info_parts3 infoInt
    go_wp2_with fail
    go_loop [8] (fun y => ∃ i : Nat, i ≤ L ∧ y = .int .i64 i ∧ Hid (x ∉ (r.nm o b).take i)) (fun y => L - (intOf y).toNat)
    case atStart => exact ⟨0, Nat.zero_le _, rfl, by unfold Hid; simp⟩
    case round =>
      obtain ⟨i, hiL, rfl, hno⟩ := hrel
      by_cases hil : i < L
      · have hil2 : i < (r.nm o b).length := by rw [← HL.out]; exact hil
        have hU2 := HU.out
        rw [HNV.out] at hU2
        obtain ⟨g, cp', eg, hgc⟩ := owns_cells hU2 (by omega)
        have eg' : an = some ⟨g, 0, none⟩ := by injection eg
        subst eg'
        have ci := hgc i _ (ints_get (r.nm o b) i hil2)
        have HT : Hid ((r.nm o b).take (i + 1) = (r.nm o b).take i ++ [(r.nm o b)[i]]) := by unfold Hid; rw [List.take_succ_eq_append_getElem hil2]
        have HM : Hid ((r.nm o b)[i] ∈ r.nm o b) := List.getElem_mem hil2
        have hgl : g < w.heap.size := cell_lt ci
        clear hgc eg hU2
        generalize (r.nm o b)[i] = Y at *
        by_cases hx : Y = x
        · have t : (Y == x) = true := by simpa using hx
          have HE : Hid (r.add o b k x tx = r) := by unfold Hid; rw [HAD.out, if_neg (fun h => h.2 (by rw [← hx]; exact HM.out))]
          clear hx
          go_wp2
          refine bodyPost_ret (v := .tuple #[]) (by simp [results, Tryz.results87]) rfl ?_
          rw [HE.out]
          exact ⟨rfl, HKeep.out⟩
        · have t : (Y == x) = false := by simpa using hx
          have HN2 : Hid (x ∉ (r.nm o b).take (i + 1)) := by
            unfold Hid
            rw [HT.out]
            intro h
            rcases List.mem_append.1 h with h | h
            · exact hno.out h
            · exact hx (List.mem_singleton.1 h).symm
          clear hx hno
          go_wp2
          go_round
          case rel => exact ⟨i + 1, by omega, by go_num, HN2⟩
          case measure => simp [intOf]; omega
      · obtain rfl : i = L := by omega
        have HE : Hid (r.add o b k x tx = r.adds o b x tx.data.toList) := by
          unfold Hid
          rw [HAD.out, if_pos ⟨by rw [← HL.out]; exact hlt, by have := hno.out; rw [HL.out, List.take_length] at this; exact this⟩]
        clear hil hno HAD
        have hU2 : Hid (w.ownsRow 0 3 1 (.slice an i cp) i (ints (r.nm o b))) := by unfold Hid; have := HU.out; rw [HNV.out, ← HL.out] at this; exact this
        generalize hXS : ints (r.nm o b) = XS at *
        have HXS : Hid (ints (r.nm o b) = XS) := hXS
        clear hXS
        go_wp2_with (at_builtin; refine wpList_append_two _ rfl _ _ 105 rfl 3 i0 (.int .i64 0) 1 8 Tryz.underlying105 hi hz0 hz1 hz2 rfl (by decide) (.slice an i cp) i XS rfl (hU2.out.alloc _) ⟨w.heap.size, 0, none⟩ 1 1 [.int .i64 x] rfl rfl (cell_one_new _ _ _) (by intro u hu; simp at hu; subst hu; rfl) (by unfold maxLen; omega) (by omega) (by decide) ?_)
        intro v' w2 hown htwo
        obtain ⟨an2, cp2, rfl⟩ := owns_form hown
        have hg := two_grown htwo
        have hgs := hg.size
        have ev : nv o b = .slice an i cp := by rw [HNV.out, HL.out]
        rw [← HXS.out] at hown
        have hg' : w.grownBy w2 (nv o b).ownBlock := by rw [ev]; exact hg
        have LN := LRI.addNum (G := grow F w (w2.setCell ⟨D o, b * 2, none⟩ (.slice an2 (i + 1) cp2))) HA.out HO.out HB.out HL.out.symm hown hg' (fun y hy => by rw [ev]; exact (two_new htwo y hy).imp id Nat.le_of_lt) (fun b hb => .inl hb) (fun b h1 h2 => .inr ⟨h1, by simp; exact h2⟩)
        have TC : Touch w (w2.setCell ⟨D o, b * 2, none⟩ (.slice an2 (i + 1) cp2)) F := (HA.out.mono (fun b hb _ => .inl hb)).touch (Touch.refl w F) hg' (fun y hy => by rw [HA.out.kn o b y HO.out HB.out hy]; simp) hDl (by rw [HA.out.kb o HO.out]; simp)
        have HK2 : Hid (AddTo w (w2.setCell ⟨D o, b * 2, none⟩ (.slice an2 (i + 1) cp2)) P (r.adds o b x []) F D) := by
          have e : r.adds o b x [] = { r with nm := updL r.nm o b (r.nm o b ++ [x]) } := by
            unfold LR.adds
            rw [List.append_nil]
            congr 1
            funext i' b'
            unfold updL
            by_cases h : i' = o ∧ b' = b
            · rw [if_pos h, h.1, h.2]
            · rw [if_neg h]
          unfold Hid AddTo
          rw [e]
          exact ⟨⟨_, _, _, _, _, LN⟩, TC⟩
        have R1 := (HA.out.bl o HO.out).of_block (w' := w2) (hg'.block _ hDl (fun e => by have := HA.out.kn o b _ HO.out HB.out e.symm; rw [HA.out.kb o HO.out] at this; simp at this))
        have cn' : w2.cell? ⟨D o, b * 2, none⟩ = some (.slice an i cp) := by
          have := R1.cell (i := b * 2) (by have := HB.out; omega)
          rw [this]; unfold bRow; rw [if_pos (by omega), show b * 2 / 2 = b from by omega, ev]
        have fn' := R1.frozen (b * 2)
        clear LN TC R1 hg hg' htwo hown hU2 HU hgs ev
        clear cn fn cs HKeep HA HNV HXS
        obtain ⟨w3, hw3⟩ : ∃ w3, w3 = w2.setCell ⟨D o, b * 2, none⟩ (.slice an2 (i + 1) cp2) := ⟨_, rfl⟩
        rw [← hw3] at HK2
        obtain ⟨i1, ki, kz0, kz1, kz2⟩ := info_parts3 Cod.infoByte
        obtain ⟨T, hT⟩ : ∃ T, T = tx.size := ⟨_, rfl⟩
        go_wp2_with fail
        simp only [← hw3]
        clear hw3 cn' fn'
        go_loopw [9] (fun y wr => ∃ j : Nat, j ≤ tx.size ∧ y = .int .i64 j ∧ Hid (AddTo w wr P (r.adds o b x (tx.data.toList.take j)) F D)) (fun y _ => tx.size - (intOf y).toNat)
        case atStart => exact ⟨0, Nat.zero_le _, rfl, HK2⟩
        case round =>
          clear HK2
          obtain ⟨j, hj, rfl, hK⟩ := hrel
          by_cases hjt : j < tx.size
          · obtain ⟨⟨K, ao, co, nv, sv, hI⟩, hT⟩ := hK.out
            have ho' : (r.adds o b x (tx.data.toList.take j)).live o := HO.out
            have hb' : b < (r.adds o b x (tx.data.toList.take j)).bks o := HB.out
            have R := hI.bl o ho'
            have cs : wr.cell? ⟨D o, b * 2 + 1, none⟩ = some (sv o b) := by
              have := R.cell (i := b * 2 + 1) (by omega)
              rw [this]; unfold bRow; rw [if_neg (by omega), show (b * 2 + 1) / 2 = b from by omega]
            have es : (r.adds o b x (tx.data.toList.take j)).sm o b = r.sm o b ++ tx.data.toList.take j := by simp [LR.adds, updL]
            have U := hI.sy o b ho' hb'
            rw [es] at U
            obtain ⟨M, hM⟩ : ∃ M, M = (r.sm o b ++ tx.data.toList.take j).length := ⟨_, rfl⟩
            rw [← hM] at U
            have hM2 : M ≤ 128 + 16 := by rw [hM]; simp; omega
            obtain ⟨sa, cq, hsv⟩ := owns_form U
            have HU : Hid (wr.ownsRow 0 5 1 (.slice sa M cq) M ((r.sm o b ++ tx.data.toList.take j).map bv)) := by unfold Hid; rw [← hsv]; exact U
            rw [hsv] at cs
            have HSV : Hid (sv o b = .slice sa M cq) := hsv
            have HM : Hid (M = (r.sm o b ++ tx.data.toList.take j).length) := hM
            have HI : Hid (LRI wr P (r.adds o b x (tx.data.toList.take j)) (grow F w wr) K ao co D nv sv) := hI
            have HT : Hid (Touch w wr F) := hT
            have hDl2 := R.lt
            have f1 := R.frozen (b * 2 + 1)
            have HV : Hid (tx.data.toList.take (j + 1) = tx.data.toList.take j ++ [tx[j]]) := by
              unfold Hid
              have hj' : j < tx.data.toList.length := by simpa using hjt
              rw [List.take_succ_eq_append_getElem hj']
              rfl
            generalize hXS : (r.sm o b ++ tx.data.toList.take j).map bv = XS at *
            have HXS : Hid ((r.sm o b ++ tx.data.toList.take j).map bv = XS) := hXS
            clear hXS hM hsv U es hI hT ho' hb' R hK
            go_wp2_with fail
            refine wp_region_any (by kernel_rfl) ?_
            change wpAny _ _ _ _ _ _ _ (World.drew wr)
            obtain ⟨W, hW⟩ : ∃ W, W = wr.drew := ⟨_, rfl⟩
            have HIW : Hid (LRI W P (r.adds o b x (tx.data.toList.take j)) (grow F w W) K ao co D nv sv) := by rw [hW]; exact HI.out.drew
            have HTW : Hid (Touch w W F) := by rw [hW]; exact ⟨HT.out.os, HT.out.tape, HT.out.output, HT.out.size, HT.out.block⟩
            have csW : W.cell? ⟨D o, b * 2 + 1, none⟩ = some (.slice sa M cq) := by rw [hW]; exact cs
            have HUW : Hid (W.ownsRow 0 5 1 (.slice sa M cq) M XS) := by rw [hW]; exact HU.out
            have hDW : D o < W.heap.size := by rw [hW]; exact hDl2
            rw [← hW]
            clear hW cs f1 HI HT HU hDl2
            have cq1 : (W.alloc (.cells #[.int .u8 (tx[j].toNat : Nat)] 5)).cell? ⟨D o, b * 2 + 1, none⟩ = some (.slice sa M cq) := cell_old hDW csW
            refine wpAny_take (i := 0) (v := .pointer (some ⟨D o, b * 2, none⟩)) rfl (by kernel_rfl) (by kernel_rfl) (by kernel_rfl) (fun _ _ _ h => h) (Or.inl ⟨by rfl, by intro w; go_simp⟩) ?_
            refine wpAny_take (i := 1) (v := .pointer (some ⟨D o, b * 2, none⟩)) rfl (by kernel_rfl) (by kernel_rfl) (by kernel_rfl) (fun _ _ _ h => h) (Or.inl ⟨by rfl, by intro w; go_simp⟩) ?_
            refine wpAny_take (i := 2) (v := .pointer (some ⟨D o, b * 2, none⟩)) rfl (by kernel_rfl) (by kernel_rfl) (by kernel_rfl) (fun _ _ _ h => h) (Or.inl ⟨by rfl, by intro w; go_simp⟩) ?_
            refine wpAny_take (i := 3) (v := .pointer (some ⟨D o, b * 2 + 1, none⟩)) rfl (by kernel_rfl) (by kernel_rfl) (by kernel_rfl) (fun _ _ _ h => h) (Or.inl ⟨by rfl, by intro w; go_simp⟩) ?_
            refine wpAny_take (i := 5) (v := .string tx) rfl (by kernel_rfl) (by kernel_rfl) (by kernel_rfl) (fun _ _ _ h => h) (Or.inl ⟨by rfl, by intro w; go_simp⟩) ?_
            refine wpAny_take (i := 6) (v := .int .i64 j) rfl (by kernel_rfl) (by kernel_rfl) (by kernel_rfl) (fun _ _ _ h => h) (Or.inl ⟨by rfl, by intro w; go_simp⟩) ?_
            refine wpAny_take (i := 7) (v := .int .u8 (tx[j].toNat : Nat)) rfl (by kernel_rfl) (by kernel_rfl) (by kernel_rfl) (fun _ _ _ h => h) (Or.inl ⟨by rfl, by intro w; go_simp⟩) ?_
            refine wpAny_ready (rs := [4, 8]) (by kernel_rfl) (by simp) ?_
            refine AllReady.cons rfl (fun K hK => ?ord1) (AllReady.cons rfl (fun K hK => ?ord2) AllReady.nil)
            case' ord1 =>
              go_simp
              refine hK _ _ ?_
              clear hK K
              refine wpAny_ready (rs := [8]) (by kernel_rfl) (by simp) ?_
              refine AllReady.cons rfl (fun K hK => ?_) AllReady.nil
              go_simp
              refine hK _ _ ?_
              clear hK K
            case' ord2 =>
              go_simp
              refine hK _ _ ?_
              clear hK K
              refine wpAny_ready (rs := [4]) (by kernel_rfl) (by simp) ?_
              refine AllReady.cons rfl (fun K hK => ?_) AllReady.nil
              go_simp
              refine hK _ _ ?_
              clear hK K
            all_goals
              refine wpAny_ready (rs := [9]) (by kernel_rfl) (by simp) ?_
              refine AllReady.cons rfl (fun KK hKK => ?_) AllReady.nil
              refine step_append_at rfl (.tmp 55) (.tmp 59) 76 rfl 0 5 i1 (.int .u8 0) 1 1 Tryz.underlying76 ki kz0 kz1 kz2 rfl (by decide) (.slice sa M cq) M XS rfl (HUW.out.alloc (.cells #[.int .u8 (tx[j].toNat : Nat)] 5)) ⟨W.heap.size, 0, none⟩ 1 1 [.int .u8 (tx[j].toNat : Nat)] rfl rfl (cell_one_new _ _ _) (by intro u hu; simp at hu; subst hu; rfl) (by unfold maxLen; omega) (by omega) (Nat.zero_le _) ?_
              intro v' w4 hown hgrow hat
              obtain ⟨sa2, cq2, rfl⟩ := owns_form hown
              have hg : W.grownBy w4 (Value.slice sa M cq).ownBlock := (World.grownBy_alloc W _ _).trans hgrow
              have hg' : W.grownBy w4 (sv o b).ownBlock := by rw [HSV.out]; exact hg
              have es : (r.adds o b x (tx.data.toList.take j)).sm o b = r.sm o b ++ tx.data.toList.take j := by simp [LR.adds, updL]
              rw [← HXS.out, ← es] at hown
              have hgs := hg.size
              have LN := LRI.addSym (G := grow F w (w4.setCell ⟨D o, b * 2 + 1, none⟩ (.slice sa2 (M + 1) cq2))) (x := tx[j]) HIW.out HO.out HB.out (by rw [es]; exact HM.out.symm) hown hg' (fun y hy => by
                rw [HSV.out]
                rcases hat with e | e
                · rw [e] at hy; exact .inl hy
                · rw [e] at hy; simp at hy; exact .inr (by omega)) (fun b hb => hb.imp id (fun h => ⟨h.1, by simp; omega⟩)) (fun b h1 h2 => .inr ⟨by have := HTW.out.size; omega, by simp; exact h2⟩)
              have TC : Touch w (w4.setCell ⟨D o, b * 2 + 1, none⟩ (.slice sa2 (M + 1) cq2)) F := HIW.out.touch HTW.out hg' (fun y hy => by rw [HIW.out.ks o b y HO.out HB.out hy]; simp) hDW (by rw [HIW.out.kb o HO.out]; simp)
              have HK2 : Hid (AddTo w (w4.setCell ⟨D o, b * 2 + 1, none⟩ (.slice sa2 (M + 1) cq2)) P (r.adds o b x (tx.data.toList.take (j + 1))) F D) := by
                have e : ({ r.adds o b x (tx.data.toList.take j) with sm := updL (r.adds o b x (tx.data.toList.take j)).sm o b ((r.adds o b x (tx.data.toList.take j)).sm o b ++ [tx[j]]) } : LR) = r.adds o b x (tx.data.toList.take (j + 1)) := by
                  rw [es, HV.out]
                  unfold LR.adds
                  simp only
                  congr 1
                  funext i' b'
                  unfold updL
                  by_cases h : i' = o ∧ b' = b
                  · rw [if_pos h, if_pos h, List.append_assoc]
                  · rw [if_neg h, if_neg h, if_neg h]
                rw [e] at LN
                exact ⟨⟨_, _, _, _, _, LN⟩, TC⟩
              have R1 := (HIW.out.bl o HO.out).of_block (w' := w4) (hg'.block _ hDW (fun e => by have := HIW.out.ks o b _ HO.out HB.out e.symm; rw [HIW.out.kb o HO.out] at this; simp at this))
              have cs' : w4.cell? ⟨D o, b * 2 + 1, none⟩ = some (.slice sa M cq) := by
                have := R1.cell (i := b * 2 + 1) (by have := HB.out; show _ < r.bks o * 2; omega)
                rw [this]; unfold bRow; rw [if_neg (by omega), show (b * 2 + 1) / 2 = b from by omega, HSV.out]
              have f1' := R1.frozen (b * 2 + 1)
              clear LN TC R1 hg hg' hgrow hat hown HUW hgs HSV HIW HTW es csW cq1
              refine hKK _ _ ?_
              clear hKK KK
              refine wpAny_take (i := 10) (v := .pointer (some ⟨D o, b * 2, none⟩)) rfl (by kernel_rfl) (by kernel_rfl) (by kernel_rfl) (fun _ _ _ h => h) (Or.inl ⟨by rfl, by intro w; go_simp⟩) ?_
              refine wpAny_take (i := 11) (v := .pointer (some ⟨D o, b * 2 + 1, none⟩)) rfl (by kernel_rfl) (by kernel_rfl) (by kernel_rfl) (fun _ _ _ h => h) (Or.inl ⟨by rfl, by intro w; go_simp⟩) ?_
              refine wpAny_ready (rs := [12]) (by kernel_rfl) (by simp) ?_
              refine AllReady.cons rfl (fun K hK => ?_) AllReady.nil
              go_simp
              refine hK _ _ ?_
              clear hK K
              refine wpAny_done (by kernel_rfl) ?_ _
              go_wp2
              go_roundw
              case rel => exact ⟨j + 1, by omega, by go_num, HK2⟩
              case measure => simp [intOf]; omega
          · have e : tx.data.toList.take j = tx.data.toList := List.take_of_length_le (by simp; exact Nat.le_of_not_lt hjt)
            have HF : Hid (AddTo w wr P (r.add o b k x tx) F D) := by unfold Hid; rw [HE.out]; have := hK.out; rw [e] at this; exact this
            have hjt2 : tx.size ≤ j := by omega
            clear hjt e hK
            go_wp2
            refine bodyPost_end (v := .tuple #[]) (by simp [results, Tryz.results87]) rfl ?_
            exact ⟨rfl, HF.out⟩
end Sn
end Go.Proofs.YtkgnmcekeeannaaGreat
