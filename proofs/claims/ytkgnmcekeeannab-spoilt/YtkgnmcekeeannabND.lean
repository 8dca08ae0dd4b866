import Derived.Test.YtkgnmcekeeannabNC
namespace Go.Proofs.Ytkgnmcekeeannab
open Go.RowKit Go.Deep
namespace Ms
open Bs
set_option linter.unusedVariables false

set_option maxHeartbeats 1000000 in
theorem mWrite (m : M) (ao : Option Addr) (cap : Nat) (w : World) (hn : m.items.length ≤ maxLen) (hs : m.sym.size ≤ maxLen) (hits : ItemsAt w ao m.items.length (itF m.items)) :
    Calls Try.prog 28 #[mVm m ao cap] w fun e w' => WriteOut m e ∧ Below w.heap.size w w' := by
  have B0 : Below w.heap.size w (w.alloc (mBox m.kind m.obj m.blk m.num m.len m.sym ao m.items.length cap m.objs)) := (Below.refl _ _).alloc (Nat.le_refl _) _
  have HI : Hid (ItemsAt w ao m.items.length (itF m.items)) := hits
  have HM := isMessage_any m ao cap _ hn hs (hits.stay B0)
  clear hits
  go_enter Try.func28, Try.ntmps28
  go_wp2_with fail
  refine HM.mono ?_
  rintro e w1 ⟨⟨r, rfl, hr⟩, hb1⟩
  have HR : Hid (r = true ↔ ok m) := hr
  have B1 := B0.trans (hb1.mono (by simp))
  have bx : ∀ j v, (#[Value.int .i64 m.kind, .int .i64 m.obj, .int .i64 m.blk, .int .i64 m.num, .int .i64 m.len, .string m.sym, .slice ao m.items.length cap, .int .i64 m.objs] : Array Value)[j]? = some v → w1.cell? ⟨w.heap.size, j, none⟩ = some v :=
    fun j v hv => (hb1.cell (p := ⟨w.heap.size, j, none⟩) (by simp)).trans (cell_new rfl hv)
  have d0 := bx 0 _ rfl
  have d1 := bx 1 _ rfl
  have d2 := bx 2 _ rfl
  have d3 := bx 3 _ rfl
  have d4 := bx 4 _ rfl
  have d5 := bx 5 _ rfl
  have d6 := bx 6 _ rfl
  have d7 := bx 7 _ rfl
  clear HM hr hb1 B0 bx
  cases r with
  | false =>
    have hno : Hid (¬ ok m) := fun h => by have := HR.out.2 h; cases this
    go_wp2
    go_ret2
    exact ⟨.inr ⟨hno.out, rfl⟩, B1⟩
  | true =>
    have hok : Hid (ok m) := HR.out.1 rfl
    have HB := bodyOf_any m ao cap w1 hok.out (HI.out.stay B1)
    go_wp2_with fail
    refine HB.mono ?_
    rintro e w2 ⟨rfl, hb2⟩
    have B2 := B1.trans (hb2.mono B1.size)
    clear HB hb2 B1 d0 d1 d2 d3 d4 d5 d6 d7 HI HR
    have hsz : (txt (body m)).size ≤ 26 := by rw [txt_size]; exact (body_len hok.out).2
    have HX : Hid (txt (body m) ++ (⟨([u8w ((Crc.sum (body m) / 256 : Nat) : Int), u8w ((Crc.sum (body m) % 256 : Nat) : Int)] : List UInt8).toArray⟩ : ByteArray) = txt (text m)) := by
      unfold Hid
      show txt (body m) ++ txt _ = _
      rw [txt_append]
      rfl
    have HC := Crc.checkSum (txt (body m)) w2 (by unfold maxLen; omega)
    rw [txt_data] at HC
    have hS := Crc.sum_lt (body m)
    generalize Crc.sum (body m) = S at *
    generalize txt (body m) = T at *
    go_wp2_with fail
    refine HC.mono ?_
    rintro e w3 ⟨rfl, rfl⟩
    clear HC
    have hcv := conv_new (w := w3) (n := 2) (b := w3.heap.size) (c := #[.int .u8 ((S : Int) / 256), .int .u8 ((S : Int) % 256)]) [u8w ((S / 256 : Nat) : Int), u8w ((S % 256 : Nat) : Int)] rfl (by simp [bv, toNat_u8w]; omega) rfl (by decide) (by decide)
    have B3 := B2.alloc (by have := B2.size; omega) (.cells #[.int .u8 ((S : Int) / 256), .int .u8 ((S : Int) % 256)] 5)
    have z2 : (⟨([u8w ((S / 256 : Nat) : Int), u8w ((S % 256 : Nat) : Int)] : List UInt8).toArray⟩ : ByteArray).size = 2 := rfl
    generalize (⟨([u8w ((S / 256 : Nat) : Int), u8w ((S % 256 : Nat) : Int)] : List UInt8).toArray⟩ : ByteArray) = S2 at *
    have ha : ∀ W', (Op.stringOp .add T S2).run Try.prog W' = .ok (.string (T ++ S2)) W' := fun W' => run_string_add_sum W' _ _ (by omega)
    go_wp2
    go_ret2
    exact ⟨.inl ⟨hok.out, by rw [← HX.out]; rfl⟩, B3⟩
set_option maxHeartbeats 1000000 in
theorem rWrite (m : M) (ao : Option Addr) (cap : Nat) (w : World) (hn : m.items.length ≤ maxLen) (hs : m.sym.size ≤ maxLen) (hits : ItemsAt w ao m.items.length (itF m.items)) :
    Calls Try.prog 6 #[mVm m ao cap] w fun e w' => WriteOut m e ∧ Below w.heap.size w w' := by
  have B0 : Below w.heap.size w (w.alloc (mBox m.kind m.obj m.blk m.num m.len m.sym ao m.items.length cap m.objs)) := (Below.refl _ _).alloc (Nat.le_refl _) _
  have H := mWrite m ao cap _ hn hs (hits.stay B0)
  clear hits
  go_enter Try.func6, Try.ntmps6
  go_wp2_with fail
  refine H.mono ?_
  rintro e w1 ⟨hout, hb1⟩
  have B1 := B0.trans (hb1.mono (by simp))
  clear H hb1 B0
  rcases hout with ⟨hok, rfl⟩ | ⟨hno, rfl⟩
  · have HK : Hid (ok m) := hok
    clear hok
    go_wp2
    go_ret2
    exact ⟨.inl ⟨HK.out, rfl⟩, B1⟩
  · go_wp2
    go_ret2
    exact ⟨.inr ⟨hno, rfl⟩, B1⟩
end Ms
end Go.Proofs.Ytkgnmcekeeannab
