import Derived.Test.YtkgnmcekeeannaaZ30
import Derived.Test.YtkgnmcekeeannaaZ29
namespace Go.Proofs.Ytkgnmcekeeannaa
open Go.RowKit Go.Deep
namespace Ms
open Bs
set_option linter.unusedVariables false

set_option maxHeartbeats 1000000 in
theorem mWrite (m : M) (ao : Option Addr) (cap : Nat) (w : World) (hn : m.items.length ≤ maxLen) (hs : m.sym.size ≤ maxLen) (hits : ItemsAt w ao m.items.length (itF m.items)) :
    Calls Try.prog 47 #[mVm m ao cap] w fun e w' => WriteOut m e ∧ Below w.heap.size w w' := by
  have B0 : Below w.heap.size w (w.alloc (mBox m.kind m.obj m.blk m.num m.len m.sym ao m.items.length cap m.objs)) := (Below.refl _ _).alloc (Nat.le_refl _) _
  have HI : Hid (ItemsAt w ao m.items.length (itF m.items)) := hits
  have HM := isMessage_any m ao cap _ hn hs (hits.stay B0)
  clear hits
  go_enter Try.func47, Try.ntmps47
  go_wp2_with fail
  refine HM.mono ?_
  rintro e w1 ⟨⟨r, rfl, hr⟩, hb1⟩
  have HR : Hid (r = true ↔ ok m) := hr
  have B1 := B0.trans (hb1.mono (by simp))
  have bx : ∀ j v, (#[Value.int .i64 m.kind, .int .i64 m.obj, .int .i64 m.blk, .int .i64 m.num, .int .i64 m.len, .string m.sym, .slice ao m.items.length cap, .int .i64 m.objs] : Array Value)[j]? = some v → w1.cell? ⟨w.heap.size, j, none⟩ = some v :=
    fun j v hv => (hb1.cell (p := ⟨w.heap.size, j, none⟩) (by simp)).trans (cell_new rfl hv)
  have d0 := bx 0 _ rfl
  have d1 := bx 1 _ rfl
  have d2 := bx 2 _ rfl
  have d3 := bx 3 _ rfl
  have d4 := bx 4 _ rfl
  have d5 := bx 5 _ rfl
  have d6 := bx 6 _ rfl
  have d7 := bx 7 _ rfl
  clear HM hr hb1 B0 bx
  cases r with
  | false =>
    have hno : Hid (¬ ok m) := fun h => by have := HR.out.2 h; cases this
    go_wp2
    go_ret2
    exact ⟨.inr ⟨hno.out, rfl⟩, B1⟩
  | true =>
    have hok : Hid (ok m) := HR.out.1 rfl
    have HB := bodyOf_any m ao cap w1 hok.out (HI.out.stay B1)
    go_wp2_with fail
    refine HB.mono ?_
    rintro e w2 ⟨rfl, hb2⟩
    have B2 := B1.trans (hb2.mono B1.size)
    clear HB hb2 B1 d0 d1 d2 d3 d4 d5 d6 d7 HI HR
    have hsz : (txt (body m)).size ≤ 26 := by rw [txt_size]; exact (body_len hok.out).2
    have HX : Hid (txt (body m) ++ (⟨([u8w ((Crc.sum (body m) / 256 : Nat) : Int), u8w ((Crc.sum (body m) % 256 : Nat) : Int)] : List UInt8).toArray⟩ : ByteArray) = txt (text m)) := by
      unfold Hid
      show txt (body m) ++ txt _ = _
      rw [txt_append]
      rfl
    have HC := Crc.checkSum (txt (body m)) w2 (by unfold maxLen; omega)
    rw [txt_data] at HC
    have hS := Crc.sum_lt (body m)
    generalize Crc.sum (body m) = S at *
    generalize txt (body m) = T at *
    go_wp2_with fail
    refine HC.mono ?_
    rintro e w3 ⟨rfl, rfl⟩
    clear HC
    have hcv := conv_new (w := w3) (n := 2) (b := w3.heap.size) (c := #[.int .u8 ((S : Int) / 256), .int .u8 ((S : Int) % 256)]) [u8w ((S / 256 : Nat) : Int), u8w ((S % 256 : Nat) : Int)] rfl (by simp [bv, toNat_u8w]; omega) rfl (by decide) (by decide)
    have B3 := B2.alloc (by have := B2.size; omega) (.cells #[.int .u8 ((S : Int) / 256), .int .u8 ((S : Int) % 256)] 5)
    have z2 : (⟨([u8w ((S / 256 : Nat) : Int), u8w ((S % 256 : Nat) : Int)] : List UInt8).toArray⟩ : ByteArray).size = 2 := rfl
    generalize (⟨([u8w ((S / 256 : Nat) : Int), u8w ((S % 256 : Nat) : Int)] : List UInt8).toArray⟩ : ByteArray) = S2 at *
    have ha : ∀ W', (Op.stringOp .add T S2).run Try.prog W' = .ok (.string (T ++ S2)) W' := fun W' => run_string_add_sum W' _ _ (by omega)
    go_wp2
    go_ret2
    exact ⟨.inl ⟨hok.out, by rw [← HX.out]; rfl⟩, B3⟩
set_option maxHeartbeats 1000000 in
theorem rWrite (m : M) (ao : Option Addr) (cap : Nat) (w : World) (hn : m.items.length ≤ maxLen) (hs : m.sym.size ≤ maxLen) (hits : ItemsAt w ao m.items.length (itF m.items)) :
    Calls Try.prog 23 #[mVm m ao cap] w fun e w' => WriteOut m e ∧ Below w.heap.size w w' := by
  have B0 : Below w.heap.size w (w.alloc (mBox m.kind m.obj m.blk m.num m.len m.sym ao m.items.length cap m.objs)) := (Below.refl _ _).alloc (Nat.le_refl _) _
  have H := mWrite m ao cap _ hn hs (hits.stay B0)
  clear hits
  go_enter Try.func23, Try.ntmps23
  go_wp2_with fail
  refine H.mono ?_
  rintro e w1 ⟨hout, hb1⟩
  have B1 := B0.trans (hb1.mono (by simp))
  clear H hb1 B0
  rcases hout with ⟨hok, rfl⟩ | ⟨hno, rfl⟩
  · have HK : Hid (ok m) := hok
    clear hok
    go_wp2
    go_ret2
    exact ⟨.inl ⟨HK.out, rfl⟩, B1⟩
  · go_wp2
    go_ret2
    exact ⟨.inr ⟨hno, rfl⟩, B1⟩
end Ms
end Go.Proofs.Ytkgnmcekeeannaa
/-
  The landed sender's data.
-/
namespace Go.Proofs.Ytkgnmcekeeannaa
open Go.RowKit Go.Deep
namespace Sn
open Bs
open Ms (M txt text ok mV mVm WriteOut mWrite)
set_option linter.unusedVariables false

abbrev pV (a b c : Int) : Value := .agg #[.int .i64 a, .int .i64 b, .int .i64 c]
abbrev pBox (a b c : Int) : Obj := .cells #[.int .i64 a, .int .i64 b, .int .i64 c] 109
set_option maxRecDepth 100000 in
set_option maxHeartbeats 4000000 in
theorem lanData (s : LS) (i b num P : Nat) (F : Nat → Prop) (ao : Option Addr) (co : Nat) (D : Nat → Nat) (w : World) (hs : LOk s) (hi : i < s.objs.length) (hbb : b ≤ 255) (hk : 0 < s.n.many (s.obj i).size b) (hnum : num < s.n.many (s.obj i).size b + s.n.spare) (hnum2 : num ≤ 15) (hA : LI w P s F ao co D) :
    Calls Try.prog 95 #[.pointer (some ⟨P, 0, none⟩), pV i b num] w fun e w' => e = .returned (.string (txt (text (dataM s.n (s.obj i) i b num)))) ∧ Below w.heap.size w w' := by
  have B0 : Below w.heap.size w (w.alloc (.cells #[.int .i64 i, .int .i64 b, .int .i64 num] 109)).drew := ((Below.refl _ _).alloc (Nat.le_refl _) _).drew
  have b0 : (w.alloc (.cells #[.int .i64 i, .int .i64 b, .int .i64 num] 109)).drew.cell? ⟨w.heap.size, 0, none⟩ = some (.int .i64 i) := cell_new (w := w) rfl rfl
  have b1 : (w.alloc (.cells #[.int .i64 i, .int .i64 b, .int .i64 num] 109)).drew.cell? ⟨w.heap.size, 1, none⟩ = some (.int .i64 b) := cell_new (w := w) rfl rfl
  have b2 : (w.alloc (.cells #[.int .i64 i, .int .i64 b, .int .i64 num] 109)).drew.cell? ⟨w.heap.size, 2, none⟩ = some (.int .i64 num) := cell_new (w := w) rfl rfl
  have bz : w.heap.size < (w.alloc (.cells #[.int .i64 i, .int .i64 b, .int .i64 num] 109)).drew.heap.size := by simp [World.drew]
  obtain ⟨wd, hwd⟩ : ∃ wd, wd = (w.alloc (.cells #[.int .i64 i, .int .i64 b, .int .i64 num] 109)).drew := ⟨_, rfl⟩
  rw [← hwd] at B0 b0 b1 b2 bz
  have hA0 := hA.below B0
  have hz := hs.sz i hi
  have hlen := hs.len
  have HK : Hid (ok (dataM s.n (s.obj i) i b num)) := dataM_ok s.n hs.nok (s.obj i) i b num hz (by omega) hbb hnum2
  have HW : ∀ W, Calls Try.prog 47 #[mV 1 i b num (s.obj i).size (txt (symOf s.n (s.obj i) b num)) none 0 0 0] W fun e w' => e = .returned (.tuple #[.string (txt (text (dataM s.n (s.obj i) i b num))), .int .i64 0]) ∧ Below W.heap.size W w' := fun W => by
    refine (mWrite (dataM s.n (s.obj i) i b num) none 0 W (Nat.zero_le _) (by show (txt _).size ≤ _; rw [Ms.txt_size, symOf_length]; have := hs.nok.2.1; unfold maxLen; omega) (.inl rfl)).mono ?_
    rintro e w' ⟨ho, hb⟩
    rcases ho with ⟨_, rfl⟩ | ⟨h, _⟩
    · exact ⟨rfl, hb⟩
    · exact absurd HK.out h
  have HY := fun W h => lanSymbol s (s.obj i) b num P F ao co D W hs hz.2 hbb hk hnum h
  obtain ⟨g, rfl, hg, hsl⟩ := hA0.slot (by omega)
  obtain ⟨c0, c1, c2, c3, c4, c5, c6⟩ := hA0.cells
  have s0 := (hsl i hi).1
  have HA : Hid (LI wd P s F (some ⟨g, 0, none⟩) co D) := hA0
  clear hsl c0 c1 c2 c4 c5 c6 hA hA0 HK
  generalize txt (text (dataM s.n (s.obj i) i b num)) = T at *
  generalize txt (symOf s.n (s.obj i) b num) = SY at *
  generalize s.obj i = o at *
  generalize s.objs.length = L at *
  go_enter Try.func95, Try.ntmps95
  go_wp2_with fail
  (refine wp_region_still_tail 9 (by kernel_rfl) (by kernel_rfl) ?_; change wpStill _ _ (World.drew _) (fun a' => wpList _ _ _ _ a' (World.drew _)) _ _; simp only [← hwd]; clear hwd; simp only [List.take_succ_cons, List.take_zero, List.drop_succ_cons, List.drop_zero]; (repeat still_step); refine wpStill_nil ?_)
  have HY1 := HY wd HA.out
  clear HY
  go_wp2_with fail
  refine HY1.mono ?_
  rintro e w1 ⟨rfl, hb1⟩
  have B1 := B0.trans (hb1.mono B0.size)
  have k0 : w1.cell? ⟨w.heap.size, 0, none⟩ = some (.int .i64 i) := (hb1.cell (p := ⟨w.heap.size, 0, none⟩) bz).trans b0
  have k1 : w1.cell? ⟨w.heap.size, 1, none⟩ = some (.int .i64 b) := (hb1.cell (p := ⟨w.heap.size, 1, none⟩) bz).trans b1
  have k2 : w1.cell? ⟨w.heap.size, 2, none⟩ = some (.int .i64 num) := (hb1.cell (p := ⟨w.heap.size, 2, none⟩) bz).trans b2
  clear HY1 hb1 B0 b0 b1 b2 bz c3 s0 HA
  go_wp2_with fail
  refine (HW _).mono ?_
  rintro e w2 ⟨rfl, hb2⟩
  have B2 : Below w.heap.size w w2 := (B1.alloc B1.size _).trans (hb2.mono (by have := B1.size; simp; omega))
  clear HW hb2 B1 k0 k1 k2
  go_wp2
  go_ret
  exact ⟨rfl, B2⟩
end Sn
end Go.Proofs.Ytkgnmcekeeannaa
