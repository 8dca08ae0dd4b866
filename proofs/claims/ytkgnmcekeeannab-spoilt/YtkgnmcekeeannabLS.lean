import Derived.Test.YtkgnmcekeeannabNG
import Derived.Test.YtkgnmcekeeannabTrn
namespace Go.Proofs.Ytkgnmcekeeannab
open Go.RowKit Go.Deep
namespace Ms
open Bs
set_option linter.unusedVariables false

def endTwo : M := ⟨3, 0, 0, 0, 0, ⟨#[]⟩, [], 2⟩
theorem endTwo_ok : ok endTwo := .inr (.inr ⟨rfl, by decide, by decide, ⟨rfl, rfl, rfl, rfl, rfl⟩, rfl⟩)
theorem endTwo_size : (txt (text endTwo)).size = 4 := by rw [txt_size]; rfl
theorem endTwo_head : (txt (text endTwo)).extract 0 2 = ⟨#[69, 2]⟩ := by
  apply bytes_ext
  rw [Lib.extract_data, txt_data]
  rfl
theorem tells_text {m : M} (h : ok m) : Tells (txt (text m)) m := ⟨h, txt_data _⟩
theorem tells_one {s : ByteArray} {m m' : M} (h : Tells s m) (h' : Tells s m') : m = m' := (tells_lan h).symm.trans (tells_lan h')

set_option maxRecDepth 100000 in
set_option maxHeartbeats 4000000 in
theorem spoilt_core (m : M) (ao : Option Addr) (cap : Nat) (k x y : Int) (w : World) (hn : m.items.length ≤ maxLen) (hs : m.sym.size ≤ maxLen) (hits : ItemsAt w ao m.items.length (itF m.items))
    (hk1 : -9223372036854775808 ≤ k) (hk2 : k ≤ 9223372036854775807) (hx1 : -9223372036854775808 ≤ x) (hx2 : x ≤ 9223372036854775807) (hy1 : -9223372036854775808 ≤ y) (hy2 : y ≤ 9223372036854775807) :
    Calls Try.prog 3 #[mVm m ao cap, .int .i64 k, .int .i64 x, .int .i64 y] w fun e w' => e = .returned (.bool true) ∧ Below w.heap.size w w' := by
  obtain ⟨N, hN⟩ : ∃ N, N = w.heap.size := ⟨_, rfl⟩
  have B0 : Below N w (w.alloc (mBox m.kind m.obj m.blk m.num m.len m.sym ao m.items.length cap m.objs)) := by rw [hN]; exact (Below.refl _ _).alloc (Nat.le_refl _) _
  have RB : (w.alloc (mBox m.kind m.obj m.blk m.num m.len m.sym ao m.items.length cap m.objs)).rowIs N 24 8 (mRow m.kind m.obj m.blk m.num m.len m.sym (.slice ao m.items.length cap) m.objs) := mRow_new hN _ _ _ _ _ _ _ _
  have hz : (w.alloc (mBox m.kind m.obj m.blk m.num m.len m.sym ao m.items.length cap m.objs)).heap.size = N + 1 := by simp; omega
  have HI : Hid (∀ w', Below N w w' → ItemsAt w' ao m.items.length (itF m.items)) := fun w' hb => hits.stay (by rw [← hN]; exact hb)
  have H0 := rWrite endTwo none 0 (w.alloc (mBox m.kind m.obj m.blk m.num m.len m.sym ao m.items.length cap m.objs)) (by decide) (by decide) (.inl rfl)
  have H0' : Calls Try.prog 6 #[mV 3 0 0 0 0 ⟨#[]⟩ none 0 0 2] (w.alloc (mBox m.kind m.obj m.blk m.num m.len m.sym ao m.items.length cap m.objs)) fun e w' => e = .returned (.tuple #[.string (txt (text endTwo)), .int .i64 0]) ∧ Below (N + 1) (w.alloc (mBox m.kind m.obj m.blk m.num m.len m.sym ao m.items.length cap m.objs)) w' := by
    refine H0.mono ?_
    rintro e w' ⟨ho, hb⟩
    rw [hz] at hb
    rcases ho with ⟨_, rfl⟩ | ⟨h, _⟩
    · exact ⟨rfl, hb⟩
    · exact absurd endTwo_ok h
  have hN' : w.heap.size = N := hN.symm
  rw [hN']
  clear hN hits H0 hz
  have s0 := endTwo_size
  have x0 := endTwo_head
  generalize txt (text endTwo) = T0 at *
  go_enter Try.func3, Try.ntmps3
  go_wp2_with fail
  refine H0'.mono ?_
  rintro e w1 ⟨rfl, hb1⟩
  have B1 : Below N w w1 := B0.trans (hb1.mono (by omega))
  have R1 := RB.of_block (hb1.block N (by omega))
  have d0 : w1.cell? ⟨N, 0, none⟩ = some (.int .i64 m.kind) := R1.cell (by decide)
  have d1 : w1.cell? ⟨N, 1, none⟩ = some (.int .i64 m.obj) := R1.cell (by decide)
  have d2 : w1.cell? ⟨N, 2, none⟩ = some (.int .i64 m.blk) := R1.cell (by decide)
  have d3 : w1.cell? ⟨N, 3, none⟩ = some (.int .i64 m.num) := R1.cell (by decide)
  have d4 : w1.cell? ⟨N, 4, none⟩ = some (.int .i64 m.len) := R1.cell (by decide)
  have d5 : w1.cell? ⟨N, 5, none⟩ = some (.string m.sym) := R1.cell (by decide)
  have d6 : w1.cell? ⟨N, 6, none⟩ = some (.slice ao m.items.length cap) := R1.cell (by decide)
  have d7 : w1.cell? ⟨N, 7, none⟩ = some (.int .i64 m.objs) := R1.cell (by decide)
  have H1 := rWrite m ao cap w1 hn hs (HI.out w1 B1)
  clear H0' hb1 B0 RB R1 HI
  go_wp2_with fail
  refine H1.mono ?_
  rintro e w2 ⟨ho, hb2⟩
  have B2 : Below N w w2 := B1.trans (hb2.mono (by have := B1.size; omega))
  clear H1 hb2 B1 d0 d1 d2 d3 d4 d5 d6 d7
  rcases ho with ⟨hok, rfl⟩ | ⟨hno, rfl⟩
  · have HK : Hid (ok m) := hok
    have tl := text_len hok
    have tz : 4 ≤ (txt (text m)).size := by rw [txt_size]; exact tl.1
    have tz2 : (txt (text m)).size ≤ 28 := by rw [txt_size]; exact tl.2
    have HT : Hid (Tells (txt (text m)) m) := tells_text hok
    have H2 := rRead (txt (text m)) w2 (by omega)
    have H4 := fun W => turned_any (txt (text m)) k x y W tz tz2 (tells_goes HT.out) hk1 hk2 hx1 hx2 hy1 hy2
    clear hok tl
    obtain ⟨T, hT⟩ : ∃ T, T = txt (text m) := ⟨_, rfl⟩
    have HTT : Hid (T = txt (text m)) := hT
    rw [← hT] at H2 H4 tz tz2 HT ⊢
    clear hT
    go_wp2_with fail
    refine H2.mono ?_
    rintro e w3 ⟨ho, hb3⟩
    have B3 : Below N w w3 := B2.trans (hb3.mono (by have := B2.size; omega))
    clear H2 hb3
    rcases ho with ⟨m', ao', cap', ht', rfl, hown⟩ | ⟨hno, rfl⟩
    · obtain rfl : m' = m := tells_one ht' HT.out
      have O4 := (hown.alloc (mBox m'.kind m'.obj m'.blk m'.num m'.len m'.sym ao' m'.items.length cap' m'.objs))
      have H3 := rWrite m' ao' cap' (w3.alloc (mBox m'.kind m'.obj m'.blk m'.num m'.len m'.sym ao' m'.items.length cap' m'.objs)) hn hs (owns_items O4)
      have B4 := B3.alloc (by have := B3.size; omega) (mBox m'.kind m'.obj m'.blk m'.num m'.len m'.sym ao' m'.items.length cap' m'.objs)
      clear ht' hown O4 B3 B2
      go_wp2_with fail
      refine H3.mono ?_
      rintro e w5 ⟨ho, hb5⟩
      have B5 : Below N w w5 := B4.trans (hb5.mono (by have := B4.size; omega))
      clear H3 hb5 B4
      rcases ho with ⟨_, rfl⟩ | ⟨h, _⟩
      · rw [← HTT.out]
        go_wp2_with fail
        refine (H4 _).mono ?_
        rintro e w6 ⟨⟨s', rfl, hs', hg⟩, hb6⟩
        have B6 : Below N w w6 := B5.trans (hb6.mono (by have := B5.size; omega))
        have HN : Hid (∀ m, ¬ Tells s' m) := fun m h => hg (tells_goes h)
        have H5 := rRead s' w6 (by omega)
        clear H4 hb6 hg B5
        go_wp2_with fail
        refine H5.mono ?_
        rintro e w7 ⟨ho, hb7⟩
        have B7 : Below N w w7 := B6.trans (hb7.mono (by have := B6.size; omega))
        clear H5 hb7 B6
        rcases ho with ⟨m'', _, _, ht'', _⟩ | ⟨_, rfl⟩
        · exact absurd ht'' (HN.out m'')
        · have B8 := B7.alloc (by have := B7.size; omega) (mBox 0 0 0 0 0 ⟨#[]⟩ none 0 0 0)
          go_wp2
          go_ret
          exact ⟨by simp, B8⟩
      · exact absurd HK.out h
    · exact absurd HT.out (hno m)
  · go_wp2
    go_ret
    exact ⟨by simp, B2⟩
end Ms
end Go.Proofs.Ytkgnmcekeeannab
