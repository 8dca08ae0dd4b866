import Derived.Test.YtbllidodcbjakaaZ18
import Derived.Deep.RegionHeld3
import Derived.Test.YtbllidodcbjakaaZ19
import Derived.Test.YtbllidodcbjakaaZ17
namespace Go.Proofs.Ytbllidodcbjakaa
open Go.RowKit Go.Deep
namespace Ms
open Bs
set_option linter.unusedVariables false

def three (a b c : Int) (i : Nat) : Int := ([a, b, c] : List Int).getD i 0
theorem req_text (x : UInt8) : (⟨#[82]⟩ : ByteArray) ++ (⟨([x] : List UInt8).toArray⟩ : ByteArray) = ⟨([82, x] : List UInt8).toArray⟩ := by
  rw [show (⟨#[82]⟩ : ByteArray) = ⟨([82] : List UInt8).toArray⟩ from rfl, ByteArray.mk_append_mk]; rfl
theorem reqB_succ (n : Nat) (its : Nat → It) (i : Nat) (t : It) (ht : t = its i) : reqB n its i ++ (⟨(([t.o, t.b, t.c] : List Int).map u8w).toArray⟩ : ByteArray) = reqB n its (i + 1) := by
  unfold reqB
  rw [ByteArray.mk_append_mk, itsT, ← ht, List.append_assoc]
  rfl

set_option maxRecDepth 100000 in
set_option maxHeartbeats 4000000 in
theorem body_req (ob bl nu le : Int) (sy : ByteArray) (ao : Option Addr) (n cap : Nat) (its : Nat → It) (os : Int) (w : World) (hn : n ≤ maxLen) (hs : sy.size ≤ maxLen) (hits : ItemsAt w ao n its) :
    Calls Try.prog 48 #[mV 2 ob bl nu le sy ao n cap os] w fun e w' => ((ReqFits ob bl nu le sy n its os ∧ e = .returned (.tuple #[.string (reqB n its n), .bool true])) ∨ (¬ ReqFits ob bl nu le sy n its os ∧ ∃ s : ByteArray, e = .returned (.tuple #[.string s, .bool false]))) ∧ Below w.heap.size w w' := by
  unfold maxLen at hn hs
  obtain ⟨nd, hnd⟩ : ∃ nd : Bool, nd = true ↔ NoData ob bl nu le sy := (Classical.em (NoData ob bl nu le sy)).elim (fun h => ⟨true, by simp [h]⟩) (fun h => ⟨false, by simp [h]⟩)
  have HND : Hid (nd = true ↔ NoData ob bl nu le sy) := hnd
  clear hnd
  have HI : Hid (ItemsAt w ao n its) := hits
  clear hits
  go_enter Try.func48, Try.ntmps48
  go_upto_region 1 with fail
  go_cut [4] (fun x wx => x = .bool nd ∧ wx = w.alloc (mBox 2 ob bl nu le sy ao n cap os))
  case first =>
    obtain ⟨B1, e1⟩ : ∃ B, (ob == 0) = B := ⟨_, rfl⟩
    obtain ⟨B2, e2⟩ : ∃ B, (bl == 0) = B := ⟨_, rfl⟩
    obtain ⟨B3, e3⟩ : ∃ B, (nu == 0) = B := ⟨_, rfl⟩
    obtain ⟨B4, e4⟩ : ∃ B, (le == 0) = B := ⟨_, rfl⟩
    obtain ⟨B5, e5⟩ : ∃ B, sy.toList.isEmpty = B := ⟨_, rfl⟩
    have HX : Hid (nd = (B1 && B2 && B3 && B4 && B5)) := by
      unfold Hid
      have h := HND.out
      unfold NoData at h
      rw [Bool.eq_iff_iff, h, ← e1, ← e2, ← e3, ← e4, ← e5, size_isEmpty]
      simp [and_assoc]
    go_wp2
    all_goals go_meet
    all_goals exact ⟨congrArg Value.bool (by rw [HX.out]; simp [*]), rfl⟩
  case rest =>
    obtain ⟨rfl, rfl⟩ := hcut
    have B1 : Below w.heap.size w (w.alloc (mBox 2 ob bl nu le sy ao n cap os)) := (Below.refl _ _).alloc (Nat.le_refl _) _
    cases nd with
    | false =>
      have HNO : Hid (¬ ReqFits ob bl nu le sy n its os) := fun h => by have := HND.out.2 h.1; cases this
      go_wp2
      go_ret2
      exact ⟨.inr ⟨HNO.out, _, rfl⟩, B1⟩
    | true =>
      have HNT : Hid (NoData ob bl nu le sy) := HND.out.1 rfl
      by_cases g1 : os = 0
      · have t1 : (os != 0) = false := by simp [g1]
        have G1 : Hid (os = 0) := g1
        clear g1
        by_cases g2 : n = 0
        · have HNO : Hid (¬ ReqFits ob bl nu le sy n its os) := fun h => by have := h.2.2.1; omega
          have t2 : ((n : Int) == 0) = true := by simp [g2]
          clear g2
          go_wp2
          go_ret2
          exact ⟨.inr ⟨HNO.out, _, rfl⟩, B1⟩
        · have t2 : ((n : Int) == 0) = false := by simp [g2]
          by_cases g3 : 8 < n
          · have HNO : Hid (¬ ReqFits ob bl nu le sy n its os) := fun h => by have := h.2.2.2.1; omega
            clear g2
            go_wp2
            go_ret2
            exact ⟨.inr ⟨HNO.out, _, rfl⟩, B1⟩
          · have g3' : n ≤ 8 := by omega
            have g2' : 1 ≤ n := by omega
            clear g2 g3
            go_wp2_with fail
            have HL := letters_any [(n : Int)] (w.heap.size + 1) 1 ((w.alloc (mBox 2 ob bl nu le sy ao n cap os)).alloc (.cells #[.int .i64 n] 3)) (by simp) (by simp) (fun i hi => by
              obtain rfl : i = 0 := by simpa using hi
              exact cell_new (by simp) rfl)
            have B2 : Below w.heap.size w ((w.alloc (mBox 2 ob bl nu le sy ao n cap os)).alloc (.cells #[.int .i64 n] 3)) := B1.alloc (by simp) _
            have c6 : ((w.alloc (mBox 2 ob bl nu le sy ao n cap os)).alloc (.cells #[.int .i64 n] 3)).cell? ⟨w.heap.size, 6, none⟩ = some (.slice ao n cap) := cell_old (by simp) (cell_new rfl rfl)
            refine HL.mono ?_
            rintro e w3 ⟨rfl, hb3⟩
            have B3 := B2.trans (hb3.mono (by simp; omega))
            have c63 : w3.cell? ⟨w.heap.size, 6, none⟩ = some (.slice ao n cap) := (hb3.cell (p := ⟨w.heap.size, 6, none⟩) (by simp; omega)).trans c6
            have hz3 : w.heap.size + 1 < w3.heap.size := by have := hb3.size; simp at this; omega
            clear HL B2 hb3 c6 B1
            have ht := req_text (u8w n)
            have HT0 : Hid ((⟨([82, u8w n] : List UInt8).toArray⟩ : ByteArray) = reqB n its 0) := by unfold Hid reqB; simp [itsT]
            go_wp2
            clear ht
            go_loopw [7, 8] (fun sv x wr => ∃ i : Nat, i ≤ n ∧ x = .int .i64 i ∧ sv = .string (reqB n its i) ∧ (∀ j, j < i → itOK (its j)) ∧ Below w.heap.size w wr ∧ wr.cell? ⟨w.heap.size, 6, none⟩ = some (.slice ao n cap) ∧ w.heap.size + 1 < wr.heap.size) (fun _ x _ => n - (intOf x).toNat)
            case atStart => exact ⟨0, Nat.zero_le _, rfl, by rw [← HT0.out], fun j hj => by omega, B3, c63, hz3⟩
            case round =>
              clear B3 c63 hz3 HT0
              obtain ⟨i, hin, rfl, rfl, hok, hB, c6, hz⟩ := hrel
              have HOK : Hid (∀ j, j < i → itOK (its j)) := hok
              clear hok
              by_cases hlt : i < n
              · rcases HI.out with h | ⟨b, off, rfl, hbl, hc⟩
                · omega
                · obtain ⟨i1, i2, i3⟩ := hc i hlt
                  have j1 := (hB.cell (p := ⟨b, off + i * 3, none⟩) hbl).trans i1
                  have j2 := (hB.cell (p := ⟨b, off + i * 3 + 1, none⟩) hbl).trans i2
                  have j3 := (hB.cell (p := ⟨b, off + i * 3 + 2, none⟩) hbl).trans i3
                  clear i1 i2 i3 hc
                  have HL := HOK.out
                  obtain ⟨t, ht⟩ : ∃ t, t = its i := ⟨_, rfl⟩
                  have HT : Hid (t = its i) := ht
                  rw [← ht] at j1 j2 j3
                  clear ht HL
                  go_wp2_with fail
                  have HW := within_any 3 (wr.heap.size + 1) 3 (wr.heap.size + 1 + 1) 3 (three t.o t.b t.c) (three 7 255 8) (((wr.alloc (.cells #[.int .i64 t.o, .int .i64 t.b, .int .i64 t.c] 40)).alloc (.cells #[.int .i64 t.o, .int .i64 t.b, .int .i64 t.c] 3)).alloc (.cells #[.int .i64 7, .int .i64 255, .int .i64 8] 3)) (by decide)
                    (fun i hi => by
                      match i, hi with
                      | 0, _ => exact cell_old (by simp) (cell_new (by simp) rfl)
                      | 1, _ => exact cell_old (by simp) (cell_new (by simp) rfl)
                      | 2, _ => exact cell_old (by simp) (cell_new (by simp) rfl))
                    (fun i hi => by
                      match i, hi with
                      | 0, _ => exact cell_new (by simp) rfl
                      | 1, _ => exact cell_new (by simp) rfl
                      | 2, _ => exact cell_new (by simp) rfl)
                  refine HW.mono ?_
                  rintro e w4 ⟨⟨r, rfl, hr⟩, q, rfl⟩
                  clear HW
                  have hrr : r = true ↔ itOK t := by
                    rw [hr]
                    unfold itOK
                    constructor
                    · intro h
                      have h0 := h 0 (by decide)
                      have h1 := h 1 (by decide)
                      have h2 := h 2 (by decide)
                      simp only [three, List.getD_cons_zero, List.getD_cons_succ] at h0 h1 h2
                      omega
                    · rintro h i hi
                      match i, hi with
                      | 0, _ => simp [three]; omega
                      | 1, _ => simp [three]; omega
                      | 2, _ => simp [three]; omega
                  have HR : Hid (r = true ↔ itOK t) := hrr
                  clear hr hrr
                  have B4 : Below w.heap.size w ((((wr.alloc (.cells #[.int .i64 t.o, .int .i64 t.b, .int .i64 t.c] 40)).alloc (.cells #[.int .i64 t.o, .int .i64 t.b, .int .i64 t.c] 3)).alloc (.cells #[.int .i64 7, .int .i64 255, .int .i64 8] 3)).drewN q) :=
                    below_drewN (((hB.alloc (by omega) _).alloc (by simp; omega) _).alloc (by simp; omega) _) q
                  have c64 : ((((wr.alloc (.cells #[.int .i64 t.o, .int .i64 t.b, .int .i64 t.c] 40)).alloc (.cells #[.int .i64 t.o, .int .i64 t.b, .int .i64 t.c] 3)).alloc (.cells #[.int .i64 7, .int .i64 255, .int .i64 8] 3)).drewN q).cell? ⟨w.heap.size, 6, none⟩ = some (.slice (some ⟨b, off, none⟩) n cap) :=
                    cell_drawn (cell_old (by simp; omega) (cell_old (by simp; omega) (cell_old (by omega) c6)))
                  have bx : ∀ j v, (#[Value.int .i64 t.o, .int .i64 t.b, .int .i64 t.c] : Array Value)[j]? = some v → ((((wr.alloc (.cells #[.int .i64 t.o, .int .i64 t.b, .int .i64 t.c] 40)).alloc (.cells #[.int .i64 t.o, .int .i64 t.b, .int .i64 t.c] 3)).alloc (.cells #[.int .i64 7, .int .i64 255, .int .i64 8] 3)).drewN q).cell? ⟨wr.heap.size, j, none⟩ = some v :=
                    fun j v hv => cell_drawn (cell_old (by simp; omega) (cell_old (by simp) (cell_new rfl hv)))
                  have z4 : ((((wr.alloc (.cells #[.int .i64 t.o, .int .i64 t.b, .int .i64 t.c] 40)).alloc (.cells #[.int .i64 t.o, .int .i64 t.b, .int .i64 t.c] 3)).alloc (.cells #[.int .i64 7, .int .i64 255, .int .i64 8] 3)).drewN q).heap.size = wr.heap.size + 1 + 1 + 1 := by simp
                  generalize (((wr.alloc (.cells #[.int .i64 t.o, .int .i64 t.b, .int .i64 t.c] 40)).alloc (.cells #[.int .i64 t.o, .int .i64 t.b, .int .i64 t.c] 3)).alloc (.cells #[.int .i64 7, .int .i64 255, .int .i64 8] 3)).drewN q = W at *
                  have y0 : W.cell? ⟨wr.heap.size, 0, none⟩ = some (.int .i64 t.o) := bx 0 _ rfl
                  have y1 : W.cell? ⟨wr.heap.size, 1, none⟩ = some (.int .i64 t.b) := bx 1 _ rfl
                  have y2 : W.cell? ⟨wr.heap.size, 2, none⟩ = some (.int .i64 t.c) := bx 2 _ rfl
                  clear bx j1 j2 j3 hB c6
                  cases r with
                  | false =>
                    have HNO : Hid (¬ ReqFits ob bl nu le sy n its os) := fun h => by
                      have := HR.out.2 (HT.out ▸ h.2.2.2.2 i hlt)
                      cases this
                    go_wp2
                    go_ret2
                    exact ⟨.inr ⟨HNO.out, _, rfl⟩, B4⟩
                  | true =>
                    have HIT : Hid (itOK t) := HR.out.1 rfl
                    go_wp2_with fail
                    have HL := letters_any [t.o, t.b, t.c] (wr.heap.size + 1 + 1 + 1) 3 (W.alloc (.cells #[.int .i64 t.o, .int .i64 t.b, .int .i64 t.c] 3)) (by simp) (by simp; omega) (fun i hi => by
                      match i, hi with
                      | 0, _ => exact cell_new (by omega) rfl
                      | 1, _ => exact cell_new (by omega) rfl
                      | 2, _ => exact cell_new (by omega) rfl)
                    refine HL.mono ?_
                    rintro e w5 ⟨rfl, hb5⟩
                    have B5 : Below w.heap.size w w5 := (B4.alloc (by omega) _).trans (hb5.mono (by simp; omega))
                    have c65 : w5.cell? ⟨w.heap.size, 6, none⟩ = some (.slice (some ⟨b, off, none⟩) n cap) := (hb5.cell (p := ⟨w.heap.size, 6, none⟩) (by simp; omega)).trans (cell_old (by omega) c64)
                    have z5 : w.heap.size + 1 < w5.heap.size := by have := hb5.size; simp at this; omega
                    clear HL hb5 B4 c64 y0 y1 y2
                    have HTX : Hid (reqB n its i ++ (⟨(([t.o, t.b, t.c] : List Int).map u8w).toArray⟩ : ByteArray) = reqB n its (i + 1)) := reqB_succ n its i t HT.out
                    have zt : (reqB n its i).size + (⟨(([t.o, t.b, t.c] : List Int).map u8w).toArray⟩ : ByteArray).size ≤ 1000 := by
                      rw [reqB_size]; simp [ByteArray.size]; omega
                    generalize (⟨(([t.o, t.b, t.c] : List Int).map u8w).toArray⟩ : ByteArray) = S3 at *
                    generalize reqB n its i = S0 at *
                    have hadd : ∀ W', (Op.stringOp .add S0 S3).run Try.prog W' = .ok (.string (S0 ++ S3)) W' := fun W' => run_string_add_sum W' _ _ (by omega)
                    go_wp2
                    go_roundw
                    case rel =>
                      refine ⟨i + 1, by omega, by go_num, by rw [HTX.out], fun j hj => ?_, B5, c65, z5⟩
                      by_cases e : j = i
                      · rw [e, ← HT.out]; exact HIT.out
                      · exact HOK.out j (by omega)
                    case measure => simp [intOf]; omega
              · obtain rfl : i = n := by omega
                go_wp2
                go_ret2
                exact ⟨.inl ⟨⟨HNT.out, G1.out, g2', g3', HOK.out⟩, rfl⟩, hB⟩
      · have HNO : Hid (¬ ReqFits ob bl nu le sy n its os) := fun h => g1 h.2.1
        have t1 : (os != 0) = true := by simp [g1]
        clear g1
        go_wp2
        go_ret2
        exact ⟨.inr ⟨HNO.out, _, rfl⟩, B1⟩
end Ms
end Go.Proofs.Ytbllidodcbjakaa
namespace Go.Proofs.Ytbllidodcbjakaa
open Go.RowKit Go.Deep
namespace Ms
open Bs
set_option linter.unusedVariables false

def BodyOut (m : M) (e : Ending) : Prop := (ok m ∧ e = .returned (.tuple #[.string (txt (body m)), .bool true])) ∨ (¬ ok m ∧ ∃ s : ByteArray, e = .returned (.tuple #[.string s, .bool false]))

theorem refBody (m : M) (ao : Option Addr) (cap : Nat) (w : World) (hn : m.items.length ≤ maxLen) (hs : m.sym.size ≤ maxLen) (hits : ItemsAt w ao m.items.length (itF m.items)) :
    Calls Try.prog 48 #[mVm m ao cap] w fun e w' => BodyOut m e ∧ Below w.heap.size w w' := by
  obtain ⟨kd, ob, bl, nu, le, sy, l, os⟩ := m
  simp only at *
  by_cases k1 : kd = 1
  · subst k1
    by_cases hf : DataFits ob bl nu le sy ∧ l.length = 0 ∧ os = 0
    · refine (body_data ob bl nu le sy ao l.length cap os w hn hs hf.1 hf.2.1 hf.2.2).mono ?_
      rintro e w' ⟨rfl, hb⟩
      refine ⟨.inl ⟨.inl ⟨rfl, ?_⟩, rfl⟩, hb⟩
      obtain ⟨⟨a1, a2, a3, a4, a5, a6, a7, a8, a9, a10⟩, h0, h1⟩ := hf
      exact ⟨a1, a2, a3, a4, a5, a6, a7, a8, a9, a10, List.length_eq_zero_iff.1 h0, h1⟩
    · refine (body_data_no ob bl nu le sy ao l.length cap os w hn hs hf).mono ?_
      rintro e w' ⟨h, hb⟩
      refine ⟨.inr ⟨?_, h⟩, hb⟩
      rintro (⟨_, h⟩ | ⟨h, _⟩ | ⟨h, _⟩)
      · obtain ⟨a1, a2, a3, a4, a5, a6, a7, a8, a9, a10, h0, h1⟩ := h
        exact hf ⟨⟨a1, a2, a3, a4, a5, a6, a7, a8, a9, a10⟩, List.length_eq_zero_iff.2 h0, h1⟩
      · exact absurd h (by simp)
      · exact absurd h (by simp)
  · by_cases k2 : kd = 2
    · subst k2
      refine (body_req ob bl nu le sy ao l.length cap (itF l) os w hn hs hits).mono ?_
      rintro e w' ⟨h, hb⟩
      refine ⟨?_, hb⟩
      rcases h with ⟨h, rfl⟩ | ⟨h, h2⟩
      · refine .inl ⟨.inr (.inl ⟨rfl, h.1, h.2.1, h.2.2.1, h.2.2.2.1, (itF_mem l).1 h.2.2.2.2⟩), ?_⟩
        simp only [body, reqB, itsT_all, txt]
        rfl
      · refine .inr ⟨?_, h2⟩
        rintro (⟨h', _⟩ | ⟨_, h'⟩ | ⟨h', _⟩)
        · exact absurd h' (by simp)
        · exact h ⟨h'.1, h'.2.1, h'.2.2.1, h'.2.2.2.1, (itF_mem l).2 h'.2.2.2.2⟩
        · exact absurd h' (by simp)
    · by_cases k3 : kd = 3
      · subst k3
        refine (body_end ob bl nu le sy ao l.length cap os w hn hs).mono ?_
        rintro e w' ⟨⟨r, rfl, hr⟩, hb⟩
        refine ⟨?_, hb⟩
        cases r with
        | true =>
          have h := hr.1 rfl
          exact .inl ⟨.inr (.inr ⟨rfl, h.1, h.2.1, h.2.2.1, List.length_eq_zero_iff.1 h.2.2.2⟩), rfl⟩
        | false =>
          refine .inr ⟨?_, _, rfl⟩
          rintro (⟨h', _⟩ | ⟨h', _⟩ | ⟨_, h'⟩)
          · exact absurd h' (by simp)
          · exact absurd h' (by simp)
          · have := hr.2 ⟨h'.1, h'.2.1, h'.2.2.1, List.length_eq_zero_iff.2 h'.2.2.2⟩
            cases this
      · refine (body_other kd ob bl nu le sy ao l.length cap os w hn hs ⟨k1, k2, k3⟩).mono ?_
        rintro e w' ⟨h, hb⟩
        refine ⟨.inr ⟨?_, h⟩, hb⟩
        rintro (⟨h', _⟩ | ⟨h', _⟩ | ⟨h', _⟩)
        · exact k1 h'
        · exact k2 h'
        · exact k3 h'
def okV (b : Bool) : Value := .int .i64 (if b then 0 else 6)
set_option maxRecDepth 100000 in
set_option maxHeartbeats 4000000 in
theorem refWrite (m : M) (ao : Option Addr) (cap : Nat) (w : World) (hn : m.items.length ≤ maxLen) (hs : m.sym.size ≤ maxLen) (hits : ItemsAt w ao m.items.length (itF m.items)) :
    Calls Try.prog 24 #[mVm m ao cap] w fun e w' => WriteOut m e ∧ Below w.heap.size w w' := by
  have B0 : Below w.heap.size w (w.alloc (mBox m.kind m.obj m.blk m.num m.len m.sym ao m.items.length cap m.objs)) := (Below.refl _ _).alloc (Nat.le_refl _) _
  have hits2 : ItemsAt (w.alloc (mBox m.kind m.obj m.blk m.num m.len m.sym ao m.items.length cap m.objs)) ao m.items.length (itF m.items) := by
    rcases hits with h | ⟨b, off, h1, h2, h3⟩
    · exact .inl h
    · exact .inr ⟨b, off, h1, by simp; omega, fun i hi => ⟨cell_old h2 (h3 i hi).1, cell_old h2 (h3 i hi).2.1, cell_old h2 (h3 i hi).2.2⟩⟩
  have HB := refBody m ao cap _ hn hs hits2
  clear hits hits2
  go_enter Try.func24, Try.ntmps24
  go_wp2_with fail
  refine HB.mono ?_
  rintro e w1 ⟨hout, hb1⟩
  have B1 := B0.trans (hb1.mono (by simp))
  clear HB hb1 B0
  rcases hout with ⟨hok, rfl⟩ | ⟨hno, s, rfl⟩
  · have HK : Hid (ok m) := hok
    have hlen := (body_len hok).2
    have hsz : (txt (body m)).size ≤ 26 := by rw [txt_size]; exact hlen
    have HX : Hid (txt (body m) ++ (⟨(([((Crc.sum (body m) : Nat) : Int) / 256, ((Crc.sum (body m) : Nat) : Int) % 256] : List Int).map u8w).toArray⟩ : ByteArray) = txt (text m)) := by
      unfold Hid
      show txt (body m) ++ txt _ = _
      rw [txt_append]
      simp only [text, checked, List.map_cons, List.map_nil, Int.natCast_ediv, Int.natCast_emod]
      rfl
    have HC := Crc.refCheck (txt (body m)) w1 (by unfold maxLen; omega)
    rw [txt_data] at HC
    have hS := Crc.sum_lt (body m)
    clear hok hlen
    generalize Crc.sum (body m) = S at *
    generalize txt (body m) = T at *
    go_wp2_with fail
    refine HC.mono ?_
    rintro e w2 ⟨rfl, rfl⟩
    clear HC
    have e1 : IntKind.i64.wrap ((S : Int).tdiv 256) = (S : Int) / 256 := by rw [Int.tdiv_eq_ediv_of_nonneg (by omega)]; exact IntWalk.i64_in _ ⟨by omega, by omega⟩
    have e2 : (S : Int).tmod 256 = (S : Int) % 256 := Int.tmod_eq_emod_of_nonneg (by omega)
    have HL := letters_any [(S : Int) / 256, (S : Int) % 256] w2.heap.size 2 (w2.alloc (.cells #[.int .i64 ((S : Int) / 256), .int .i64 ((S : Int) % 256)] 3)) (by simp) (by simp) (fun i hi => by
      match i, hi with
      | 0, _ => exact cell_new rfl rfl
      | 1, _ => exact cell_new rfl rfl)
    have z2 : (⟨(([((S : Nat) : Int) / 256, ((S : Nat) : Int) % 256] : List Int).map u8w).toArray⟩ : ByteArray).size = 2 := rfl
    generalize (⟨(([((S : Nat) : Int) / 256, ((S : Nat) : Int) % 256] : List Int).map u8w).toArray⟩ : ByteArray) = S2 at *
    have ha : ∀ W', (Op.stringOp .add T S2).run Try.prog W' = .ok (.string (T ++ S2)) W' := fun W' => run_string_add_sum W' _ _ (by omega)
    go_wp2_with fail
    refine HL.mono ?_
    rintro e w3 ⟨rfl, hb3⟩
    have B3 : Below w.heap.size w w3 := (B1.alloc (by have := B1.size; omega) _).trans (hb3.mono (by simp; have := B1.size; omega))
    clear HL hb3 B1
    go_wp2
    go_ret2
    exact ⟨.inl ⟨HK.out, by rw [← HX.out]; rfl⟩, B3⟩
  · go_wp2
    go_ret2
    exact ⟨.inr ⟨hno, rfl⟩, B1⟩
end Ms
end Go.Proofs.Ytbllidodcbjakaa
namespace Go.Proofs.Ytbllidodcbjakaa
open Go.RowKit Go.Deep
namespace Sn
open Bs
open Ms (txt text ok M mV mVm WriteOut refWrite)
set_option linter.unusedVariables false

theorem obj_size {s : St} (hs : SOk s) {i : Nat} (hi : i < s.objs.length) : 1 ≤ (objOf s i).size ∧ (objOf s i).size ≤ 256 := by
  have e : objOf s i = s.objs[i] := by simp [objOf, List.getD_eq_getElem?_getD, hi]
  rw [e]; exact hs.sz _ (List.getElem_mem hi)
set_option maxRecDepth 100000 in
set_option maxHeartbeats 4000000 in
theorem refData (s : St) (i b num P g co : Nat) (w : World) (hs : SOk s) (hi : i < s.objs.length) (hbb : b ≤ 255) (hk : 0 < s.n.many (objOf s i).size b) (hnum : num ≤ 15) (hR : SR w P s g co) :
    Calls Try.prog 79 #[.pointer (some ⟨P, 0, none⟩), .int .i64 i, .int .i64 b, .int .i64 num] w fun e w' => e = .returned (.string (txt (text (dataM s.n (objOf s i) i b num)))) ∧ Below w.heap.size w w' := by
  have ho := obj_size hs hi
  have hlen := hs.len
  have HK : Hid (ok (dataM s.n (objOf s i) i b num)) := dataM_ok s.n hs.nok (objOf s i) i b num ho (by omega) hbb hnum
  have HY := refSymbol s i b num P g co w hs hi hbb hk hnum hR
  have HW : ∀ W, Calls Try.prog 24 #[mV 1 i b num (objOf s i).size (txt (symOf s.n (objOf s i) b num)) none 0 0 0] W fun e w' => e = .returned (.tuple #[.string (txt (text (dataM s.n (objOf s i) i b num))), .int .i64 0]) ∧ Below W.heap.size W w' := fun W => by
    refine (refWrite (dataM s.n (objOf s i) i b num) none 0 W (Nat.zero_le _) (by show (txt _).size ≤ _; rw [Ms.txt_size, symOf_length]; have := hs.nok.2.1; unfold maxLen; omega) (.inl rfl)).mono ?_
    rintro e w' ⟨ho, hb⟩
    rcases ho with ⟨_, rfl⟩ | ⟨h, _⟩
    · exact ⟨rfl, hb⟩
    · exact absurd HK.out h
  have HRR : Hid (SR w P s g co) := hR
  clear hR HK hs
  generalize txt (text (dataM s.n (objOf s i) i b num)) = T at *
  generalize txt (symOf s.n (objOf s i) b num) = SY at *
  obtain ⟨L, hL⟩ : ∃ L, L = s.objs.length := ⟨_, rfl⟩
  have HLN : Hid (L = s.objs.length) := hL
  rw [← hL] at hi hlen
  clear hL
  go_enter Try.func79, Try.ntmps79
  go_wp2_with fail
  refine HY.mono ?_
  rintro e w1 ⟨rfl, hb1⟩
  have S1 := HRR.out.below hb1
  have x3 : w1.cell? ⟨P, 3, none⟩ = some (.slice (some ⟨g, 0, none⟩) L co) := by rw [HLN.out]; exact S1.c3
  have cO : w1.cell? ⟨g, i, none⟩ = some (.string (objOf s i)) := S1.ob i (by rw [← HLN.out]; exact hi)
  have HW1 := HW w1
  clear HY HW HRR S1
  generalize objOf s i = o at *
  go_wp2_with fail
  refine HW1.mono ?_
  rintro e w2 ⟨rfl, hb2⟩
  have B2 : Below w.heap.size w w2 := hb1.trans (hb2.mono hb1.size)
  clear HW1 hb1 hb2
  go_wp2
  go_ret
  exact ⟨rfl, B2⟩
end Sn
end Go.Proofs.Ytbllidodcbjakaa
