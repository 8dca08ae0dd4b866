import Derived.Test.YtkgnmcekeeannaaMC
import Derived.Test.YtkgnmcekeeannaaME
import Derived.Test.YtkgnmcekeeannaaMF
namespace Go.Proofs.Ytkgnmcekeeannaa
open Go.RowKit Go.Deep
namespace Ms
open Bs
set_option linter.unusedVariables false

def BodyOut (m : M) (e : Ending) : Prop := (ok m ∧ e = .returned (.tuple #[.string (txt (body m)), .bool true])) ∨ (¬ ok m ∧ ∃ s : ByteArray, e = .returned (.tuple #[.string s, .bool false]))

theorem refBody (m : M) (ao : Option Addr) (cap : Nat) (w : World) (hn : m.items.length ≤ maxLen) (hs : m.sym.size ≤ maxLen) (hits : ItemsAt w ao m.items.length (itF m.items)) :
    Calls Try.prog 48 #[mVm m ao cap] w fun e w' => BodyOut m e ∧ Below w.heap.size w w' := by
  obtain ⟨kd, ob, bl, nu, le, sy, l, os⟩ := m
  simp only at *
  by_cases k1 : kd = 1
  · subst k1
    by_cases hf : DataFits ob bl nu le sy ∧ l.length = 0 ∧ os = 0
    · refine (body_data ob bl nu le sy ao l.length cap os w hn hs hf.1 hf.2.1 hf.2.2).mono ?_
      rintro e w' ⟨rfl, hb⟩
      refine ⟨.inl ⟨.inl ⟨rfl, ?_⟩, rfl⟩, hb⟩
      obtain ⟨⟨a1, a2, a3, a4, a5, a6, a7, a8, a9, a10⟩, h0, h1⟩ := hf
      exact ⟨a1, a2, a3, a4, a5, a6, a7, a8, a9, a10, List.length_eq_zero_iff.1 h0, h1⟩
    · refine (body_data_no ob bl nu le sy ao l.length cap os w hn hs hf).mono ?_
      rintro e w' ⟨h, hb⟩
      refine ⟨.inr ⟨?_, h⟩, hb⟩
      rintro (⟨_, h⟩ | ⟨h, _⟩ | ⟨h, _⟩)
      · obtain ⟨a1, a2, a3, a4, a5, a6, a7, a8, a9, a10, h0, h1⟩ := h
        exact hf ⟨⟨a1, a2, a3, a4, a5, a6, a7, a8, a9, a10⟩, List.length_eq_zero_iff.2 h0, h1⟩
      · exact absurd h (by simp)
      · exact absurd h (by simp)
  · by_cases k2 : kd = 2
    · subst k2
      refine (body_req ob bl nu le sy ao l.length cap (itF l) os w hn hs hits).mono ?_
      rintro e w' ⟨h, hb⟩
      refine ⟨?_, hb⟩
      rcases h with ⟨h, rfl⟩ | ⟨h, h2⟩
      · refine .inl ⟨.inr (.inl ⟨rfl, h.1, h.2.1, h.2.2.1, h.2.2.2.1, (itF_mem l).1 h.2.2.2.2⟩), ?_⟩
        simp only [body, reqB, itsT_all, txt]
        rfl
      · refine .inr ⟨?_, h2⟩
        rintro (⟨h', _⟩ | ⟨_, h'⟩ | ⟨h', _⟩)
        · exact absurd h' (by simp)
        · exact h ⟨h'.1, h'.2.1, h'.2.2.1, h'.2.2.2.1, (itF_mem l).2 h'.2.2.2.2⟩
        · exact absurd h' (by simp)
    · by_cases k3 : kd = 3
      · subst k3
        refine (body_end ob bl nu le sy ao l.length cap os w hn hs).mono ?_
        rintro e w' ⟨⟨r, rfl, hr⟩, hb⟩
        refine ⟨?_, hb⟩
        cases r with
        | true =>
          have h := hr.1 rfl
          exact .inl ⟨.inr (.inr ⟨rfl, h.1, h.2.1, h.2.2.1, List.length_eq_zero_iff.1 h.2.2.2⟩), rfl⟩
        | false =>
          refine .inr ⟨?_, _, rfl⟩
          rintro (⟨h', _⟩ | ⟨h', _⟩ | ⟨_, h'⟩)
          · exact absurd h' (by simp)
          · exact absurd h' (by simp)
          · have := hr.2 ⟨h'.1, h'.2.1, h'.2.2.1, List.length_eq_zero_iff.2 h'.2.2.2⟩
            cases this
      · refine (body_other kd ob bl nu le sy ao l.length cap os w hn hs ⟨k1, k2, k3⟩).mono ?_
        rintro e w' ⟨h, hb⟩
        refine ⟨.inr ⟨?_, h⟩, hb⟩
        rintro (⟨h', _⟩ | ⟨h', _⟩ | ⟨h', _⟩)
        · exact k1 h'
        · exact k2 h'
        · exact k3 h'
def okV (b : Bool) : Value := .int .i64 (if b then 0 else 6)
set_option maxRecDepth 100000 in
set_option maxHeartbeats 4000000 in
theorem refWrite (m : M) (ao : Option Addr) (cap : Nat) (w : World) (hn : m.items.length ≤ maxLen) (hs : m.sym.size ≤ maxLen) (hits : ItemsAt w ao m.items.length (itF m.items)) :
    Calls Try.prog 24 #[mVm m ao cap] w fun e w' => WriteOut m e ∧ Below w.heap.size w w' := by
  have B0 : Below w.heap.size w (w.alloc (mBox m.kind m.obj m.blk m.num m.len m.sym ao m.items.length cap m.objs)) := (Below.refl _ _).alloc (Nat.le_refl _) _
  have hits2 : ItemsAt (w.alloc (mBox m.kind m.obj m.blk m.num m.len m.sym ao m.items.length cap m.objs)) ao m.items.length (itF m.items) := by
    rcases hits with h | ⟨b, off, h1, h2, h3⟩
    · exact .inl h
    · exact .inr ⟨b, off, h1, by simp; omega, fun i hi => ⟨cell_old h2 (h3 i hi).1, cell_old h2 (h3 i hi).2.1, cell_old h2 (h3 i hi).2.2⟩⟩
  have HB := refBody m ao cap _ hn hs hits2
  clear hits hits2
  go_enter Try.func24, Try.ntmps24
  go_wp2_with fail
  refine HB.mono ?_
  rintro e w1 ⟨hout, hb1⟩
  have B1 := B0.trans (hb1.mono (by simp))
  clear HB hb1 B0
  rcases hout with ⟨hok, rfl⟩ | ⟨hno, s, rfl⟩
  · have HK : Hid (ok m) := hok
    have hlen := (body_len hok).2
    have hsz : (txt (body m)).size ≤ 26 := by rw [txt_size]; exact hlen
    have HX : Hid (txt (body m) ++ (⟨(([((Crc.sum (body m) : Nat) : Int) / 256, ((Crc.sum (body m) : Nat) : Int) % 256] : List Int).map u8w).toArray⟩ : ByteArray) = txt (text m)) := by
      unfold Hid
      show txt (body m) ++ txt _ = _
      rw [txt_append]
      simp only [text, checked, List.map_cons, List.map_nil, Int.natCast_ediv, Int.natCast_emod]
      rfl
    have HC := Crc.refCheck (txt (body m)) w1 (by unfold maxLen; omega)
    rw [txt_data] at HC
    have hS := Crc.sum_lt (body m)
    clear hok hlen
    generalize Crc.sum (body m) = S at *
    generalize txt (body m) = T at *
    go_wp2_with fail
    refine HC.mono ?_
    rintro e w2 ⟨rfl, rfl⟩
    clear HC
    have e1 : IntKind.i64.wrap ((S : Int).tdiv 256) = (S : Int) / 256 := by rw [Int.tdiv_eq_ediv_of_nonneg (by omega)]; exact IntWalk.i64_in _ ⟨by omega, by omega⟩
    have e2 : (S : Int).tmod 256 = (S : Int) % 256 := Int.tmod_eq_emod_of_nonneg (by omega)
    have HL := letters_any [(S : Int) / 256, (S : Int) % 256] w2.heap.size 2 (w2.alloc (.cells #[.int .i64 ((S : Int) / 256), .int .i64 ((S : Int) % 256)] 3)) (by simp) (by simp) (fun i hi => by
      match i, hi with
      | 0, _ => exact cell_new rfl rfl
      | 1, _ => exact cell_new rfl rfl)
    have z2 : (⟨(([((S : Nat) : Int) / 256, ((S : Nat) : Int) % 256] : List Int).map u8w).toArray⟩ : ByteArray).size = 2 := rfl
    generalize (⟨(([((S : Nat) : Int) / 256, ((S : Nat) : Int) % 256] : List Int).map u8w).toArray⟩ : ByteArray) = S2 at *
    have ha : ∀ W', (Op.stringOp .add T S2).run Try.prog W' = .ok (.string (T ++ S2)) W' := fun W' => run_string_add_sum W' _ _ (by omega)
    go_wp2_with fail
    refine HL.mono ?_
    rintro e w3 ⟨rfl, hb3⟩
    have B3 : Below w.heap.size w w3 := (B1.alloc (by have := B1.size; omega) _).trans (hb3.mono (by simp; have := B1.size; omega))
    clear HL hb3 B1
    go_wp2
    go_ret2
    exact ⟨.inl ⟨HK.out, by rw [← HX.out]; rfl⟩, B3⟩
  · go_wp2
    go_ret2
    exact ⟨.inr ⟨hno, rfl⟩, B1⟩
end Ms
end Go.Proofs.Ytkgnmcekeeannaa
