import Derived.Test.YtkgnmcekeeannaaRows
import Derived.WalkKit
import Derived.WalkSmall
import Derived.Deep.OwnRows
import Derived.Deep.QuietTactic
import Derived.BigQuiet
import Derived.Deep.RegionWith
import Derived.Deep.DeepCutAuto
import Derived.Lib.Strings
import Derived.Maps.AppendAt
import Derived.Deep.RegionLaw
/-
  Small laws on rows of numbers and of bytes, for the walks over messages.
-/
namespace Go.Proofs.Ytkgnmcekeeannaa
open Go.RowKit Go.Deep
namespace Bs

theorem infoInt : (Try.prog.info? 3).map (fun i => (i.zero, i.size, i.bytes)) = some (some (.int .i64 0), 1, 8) := by kernel_rfl
theorem infoByte : (Try.prog.info? 5).map (fun i => (i.zero, i.size, i.bytes)) = some (some (.int .u8 0), 1, 1) := by kernel_rfl

theorem ret_int {k : IntKind} {a b : Int} (h : a = b) : Ending.returned (.int k a) = .returned (.int k b) := by rw [h]
theorem val_int {k : IntKind} {a b : Int} (h : a = b) : Value.int k a = Value.int k b := by rw [h]
theorem ret_bool {a b : Bool} (h : a = b) : Ending.returned (.bool a) = .returned (.bool b) := by rw [h]
theorem drawn_more {w wr : World} {q : Nat} (h : ∃ m, wr = w.drewN m) : ∃ m, wr.drewN q = w.drewN m := by
  obtain ⟨m, rfl⟩ := h
  exact ⟨m + q, World.drewN_drewN ..⟩
theorem drawn_below {w wr : World} (h : ∃ m, wr = w.drewN m) : Below w.heap.size w wr := by
  obtain ⟨m, rfl⟩ := h; exact below_drewN (Below.refl _ _) m
theorem below_same {w w' : World} (h : w' = w) : Below w.heap.size w w' := by subst h; exact Below.refl _ _

theorem cell_new {w : World} {b i : Nat} {c : Array Value} {t : TypeId} {v : Value} (hb : b = w.heap.size) (hv : c[i]? = some v) : (w.alloc (.cells c t)).cell? ⟨b, i, none⟩ = some v := by
  subst hb
  have h : (w.alloc (.cells c t)).heap[w.heap.size]? = some (.cells c t) := heap_alloc_new w _
  simp only [World.cell?]
  rw [h]
  exact hv
theorem cell_old {w : World} {b i : Nat} {o : Obj} {v : Value} (hb : b < w.heap.size) (hv : w.cell? ⟨b, i, none⟩ = some v) : (w.alloc o).cell? ⟨b, i, none⟩ = some v := by
  rw [← hv]
  exact World.cell?_of_block (a := ⟨b, i, none⟩) (Below.heap_alloc w o b hb)
theorem cell_drawn {w : World} {b i q : Nat} {v : Value} (hv : w.cell? ⟨b, i, none⟩ = some v) : (w.drewN q).cell? ⟨b, i, none⟩ = some v := hv

def bv (x : UInt8) : Value := .int .u8 x.toNat
/-- a row of bytes, as a text -/
theorem conv_row {w : World} {b n cap : Nat} {f : Nat → Value} (l : List UInt8) (hn : l.length = n) (h : w.rowIs b 5 n f) (hf : ∀ i, i < n → ∀ x, l[i]? = some x → f i = bv x) :
    (convert 97 9 (.slice (some ⟨b, 0, none⟩) n cap)).run Try.prog w = .ok (.string ⟨l.toArray⟩) w := by
  subst hn
  refine run_convert_bytes_back w 97 9 5 ⟨b, 0, none⟩ cap l Try.underlying97 Try.underlying5 Try.underlying9 (fun j hj => ?_)
  have e : (⟨b, 0, none⟩ : Addr).add j = ⟨b, j, none⟩ := by
    unfold Addr.add
    by_cases e : j = 0
    · subst e; rfl
    · simp [e]
  rw [e, h.cell hj, hf j hj l[j] (by simp [hj])]
  rfl
end Bs
end Go.Proofs.Ytkgnmcekeeannaa
/-
  append as one step of a region that draws, with where the new slice lies; rows of bytes and of items.
-/
namespace Go.Proofs.Ytkgnmcekeeannaa
open Go.RowKit Go.Deep
namespace Bs

theorem step_append_at {P : Program} {ops : Array Oper} {o : Oper} {a : Act} {w : World} {K : Act → World → Prop} {Q : Exit → Act → World → Prop} {E : Prop}
    (hg : o.guard = none) (s x : Operand) (t : TypeId) (hop : o.op = Op.call { callee := Callee.builtin Builtin.append, args := #[s, x], argTypes := #[t, t] })
    (base : Nat) (e : TypeId) (i : TypeInfo) (z : Value) (size bytes : Nat) (h1 : P.underlying t = some (.slice e)) (h2 : P.info? e = some i) (h3 : i.zero = some z) (h4 : i.size = size) (h5 : i.bytes = bytes) (h6 : z.cells.size = size) (h7 : 0 < size)
    (v : Value) (n : Nat) (xs : List Value) (hs : a.eval s = v) (hown : w.ownsRow base e size v n xs)
    (ad : Addr) (m c : Nat) (news : List Value) (hx : a.eval x = .slice (some ad) m c) (hn : news.length = m * size) (hc : ∀ j u, news[j]? = some u → w.cell? (ad.add j) = some u) (h1c : ∀ u ∈ news, u.oneCell' = true)
    (b1 : n + m ≤ maxLen) (b2 : (n + m) * bytes ≤ 140737488355328) (hbase : base ≤ w.heap.size)
    (hK : ∀ v' w', w'.ownsRow base e size v' (n + m) (xs ++ news) → w.grownBy w' v.ownBlock → (v'.ownBlock = v.ownBlock ∨ v'.ownBlock = some w.heap.size) → K (a.put o.dst v') w') :
    if Region.wanted o (yielded ops a.tmps) = true then Oper.wp P o a w K Q else E := by
  have hw : Region.wanted o (yielded ops a.tmps) = true := by simp [Region.wanted, hg]
  rw [if_pos hw]
  obtain ⟨v', w', hrun, r1, r2, _, r3⟩ := run_append_own_at (P := P) w base t o.type e i z size bytes h1 h2 h3 h4 h5 h6 h7 v n xs hown ad m c news hn hc h1c b1 b2 hbase
  unfold Oper.wp
  simp [execOp, hop, resolve, invoke, builtin, hs, hx, hrun, Result.andThen]
  exact hK v' w' r1 r2 r3

theorem info_parts3 {P : Program} {t : TypeId} {z : Value} {s b : Nat} (h : (P.info? t).map (fun i => (i.zero, i.size, i.bytes)) = some (some z, s, b)) : ∃ i, P.info? t = some i ∧ i.zero = some z ∧ i.size = s ∧ i.bytes = b := by
  cases hi : P.info? t with
  | none => rw [hi] at h; cases h
  | some i =>
    rw [hi] at h
    simp only [Option.map_some, Option.some.injEq, Prod.mk.injEq] at h
    exact ⟨i, rfl, h.1, h.2.1, h.2.2⟩
/-- what an own row looks like -/
theorem owns_form {w : World} {base e size n : Nat} {v : Value} {xs : List Value} (h : w.ownsRow base e size v n xs) : ∃ ao cap, v = .slice ao n cap := by
  rcases h.2 with ⟨rfl, rfl⟩ | ⟨g, cap, cur, rfl, _⟩
  · exact ⟨_, _, rfl⟩
  · exact ⟨_, _, rfl⟩
theorem add_eq (b off j : Nat) : (⟨b, off, none⟩ : Addr).add j = ⟨b, off + j, none⟩ := by
  unfold Addr.add
  by_cases e : j = 0
  · subst e; rfl
  · simp [e]
theorem add_eq0 (b j : Nat) : (⟨b, 0, none⟩ : Addr).add j = ⟨b, j, none⟩ := by rw [add_eq, Nat.zero_add]
/-- a row of bytes of the call's own, as a text -/
theorem conv_owned {w : World} {base n : Nat} {v : Value} (l : List UInt8) (hn : l.length = n) (hp : 0 < n) (h : w.ownsRow base 5 1 v n (l.map bv)) :
    (convert 97 9 v).run Try.prog w = .ok (.string ⟨l.toArray⟩) w := by
  rcases h.2 with ⟨_, h0⟩ | ⟨g, cap, cur, rfl, _⟩
  · omega
  · have hc := h.cells (g := g) rfl
    subst hn
    refine run_convert_bytes_back w 97 9 5 ⟨g, 0, none⟩ cap l Try.underlying97 Try.underlying5 Try.underlying9 (fun j hj => ?_)
    rw [hc j (bv l[j]) (by simp [hj])]
    rfl
/-- a row just made is the call's own -/
theorem owns_new {w : World} {base e size n : Nat} {c : Array Value} (hb : base ≤ w.heap.size) (hm : n ≤ maxLen) (hc : c.size = n * size) : (w.alloc (.cells c e)).ownsRow base e size (.slice (some ⟨w.heap.size, 0, none⟩) n n) n c.toList :=
  ⟨by simp [hc], .inr ⟨w.heap.size, n, c, rfl, hb, heap_alloc_new w _, Nat.le_refl _, hm, hc, by rw [← hc, ← Array.length_toList, List.take_length]⟩⟩
theorem conv_new {w : World} {n b : Nat} {c : Array Value} (l : List UInt8) (hb : b = w.heap.size) (hc : c.toList = l.map bv) (hn : l.length = n) (hp : 0 < n) (hm : n ≤ maxLen) :
    (convert 97 9 (.slice (some ⟨b, 0, none⟩) n n)).run Try.prog (w.alloc (.cells c 5)) = .ok (.string ⟨l.toArray⟩) (w.alloc (.cells c 5)) := by
  subst hb
  have hs : c.size = n * 1 := by rw [← Array.length_toList, hc]; simp [hn]
  have h := owns_new (w := w) (base := w.heap.size) (e := 5) (Nat.le_refl _) hm hs
  rw [hc] at h
  exact conv_owned l hn hp h
theorem news3 {w : World} {x y z : Value} {t : TypeId} : ∀ j u, ([x, y, z] : List Value)[j]? = some u → (w.alloc (.cells #[x, y, z] t)).cell? ((⟨w.heap.size, 0, none⟩ : Addr).add j) = some u := by
  intro j u hj
  rw [add_eq0]
  have h : (w.alloc (.cells #[x, y, z] t)).heap[w.heap.size]? = some (.cells #[x, y, z] t) := heap_alloc_new w _
  simp only [World.cell?]
  rw [h]
  simpa using hj
theorem below_append {B e size n : Nat} {v : Value} {xs : List Value} {w wr w1 : World} {o : Obj} (h : Below B w wr) (hB : B ≤ wr.heap.size) (hown : wr.ownsRow B e size v n xs) (hg : (wr.alloc o).grownBy w1 v.ownBlock) : Below B w w1 :=
  (h.alloc hB o).grown hg (by simp; omega) (fun k hk => (hown.lt k hk).1)
theorem below_append_d {B e size n : Nat} {v : Value} {xs : List Value} {w wr w1 : World} {o : Obj} (h : Below B w wr) (hB : B ≤ wr.heap.size) (hown : wr.ownsRow B e size v n xs) (hg : (wr.alloc o).drew.grownBy w1 v.ownBlock) : Below B w w1 :=
  below_append (o := o) h hB hown ⟨hg.os, hg.tape, hg.output, hg.size, hg.block⟩
theorem owns_drew {w : World} {base e size n : Nat} {v : Value} {xs : List Value} (h : w.ownsRow base e size v n xs) : w.drew.ownsRow base e size v n xs := h
end Bs
end Go.Proofs.Ytkgnmcekeeannaa
/-
  The check of a text, in plain numbers: a step for each bit, from a byte's highest on.
-/
namespace Go.Proofs.Ytkgnmcekeeannaa
namespace Crc

def bitS (h b : Nat) : Nat := if (b + h / 32768) % 2 = 1 then (h * 2 % 65536) ^^^ 4129 else h * 2 % 65536
def byteK (b : Nat) : Nat → Nat → Nat
  | 0, h => h
  | k + 1, h => bitS (byteK b k h) (b / 2 ^ (7 - k) % 2)
def sum (l : List UInt8) : Nat := l.foldl (fun h c => byteK c.toNat 8 h) 65535

theorem bitS_lt (h b : Nat) : bitS h b < 65536 := by
  unfold bitS
  split
  · exact Nat.xor_lt_two_pow (n := 16) (Nat.mod_lt _ (by decide)) (by decide)
  · exact Nat.mod_lt _ (by decide)
theorem byteK_lt (b k h : Nat) (hh : h < 65536) : byteK b k h < 65536 := by
  cases k with
  | zero => exact hh
  | succ k => exact bitS_lt _ _
theorem sum_snoc (l : List UInt8) (c : UInt8) : sum (l ++ [c]) = byteK c.toNat 8 (sum l) := by simp [sum]
theorem fold_lt (l : List UInt8) : ∀ h : Nat, h < 65536 → l.foldl (fun h c => byteK c.toNat 8 h) h < 65536 := by
  induction l with
  | nil => intro h hh; exact hh
  | cons c l ih => intro h hh; exact ih _ (byteK_lt _ _ _ hh)
theorem sum_lt (l : List UInt8) : sum l < 65536 := fold_lt l _ (by decide)
theorem take_snoc (s : ByteArray) (k : Nat) (h : k < s.size) : s.data.toList.take (k + 1) = s.data.toList.take k ++ [s[k]] := by
  rw [List.take_succ_eq_append_getElem (by simpa using h)]; rfl
theorem sum_take (s : ByteArray) (k : Nat) (h : k < s.size) : sum (s.data.toList.take (k + 1)) = byteK s[k].toNat 8 (sum (s.data.toList.take k)) := by
  rw [take_snoc s k h, sum_snoc]
theorem and_pow (x i : Nat) : x &&& 2 ^ i = x / 2 ^ i % 2 * 2 ^ i := by
  apply Nat.eq_of_testBit_eq; intro j
  rw [Nat.testBit_and, Nat.testBit_two_pow]
  rcases Nat.mod_two_eq_zero_or_one (x / 2 ^ i) with h | h
  · rw [h]
    by_cases e : i = j
    · subst e; simp [Nat.testBit_eq_decide_div_mod_eq, h]
    · simp [e]
  · rw [h, Nat.one_mul, Nat.testBit_two_pow]
    by_cases e : i = j
    · subst e; simp [Nat.testBit_eq_decide_div_mod_eq, h]
    · simp [e]
end Crc
end Go.Proofs.Ytkgnmcekeeannaa
/-
  The landed check.
-/
namespace Go.Proofs.Ytkgnmcekeeannaa
open Go.RowKit
namespace Crc
open Bs (ret_int val_int)

theorem u16_top (H : Nat) (hH : H < 65536) : bits .and .u16 (H : Int) 32768 = ((H / 32768 * 32768 : Nat) : Int) := by
  have h := u16_and_nat H 32768 hH (by decide)
  rw [show (32768 : Nat) = 2 ^ 15 from rfl, and_pow] at h
  have e : H / 2 ^ 15 % 2 = H / 2 ^ 15 := Nat.mod_eq_of_lt (by omega)
  rw [e] at h
  exact h
theorem u8_mask (b k : Nat) (hb : b < 256) (hk : k < 8) : bits .and .u8 (b : Int) ((128 / 2 ^ k : Nat) : Int) = ((b / 2 ^ (7 - k) % 2 * 2 ^ (7 - k) : Nat) : Int) := by
  have e : 128 / 2 ^ k = 2 ^ (7 - k) := by
    rw [show (128 : Nat) = 2 ^ 7 from rfl, Nat.pow_div (by omega) (by decide)]
  have h2 : 2 ^ (7 - k) ≤ 2 ^ 7 := Nat.pow_le_pow_right (by decide) (by omega)
  rw [e, u8_and_nat b _ hb (by omega), and_pow]
theorem u16_shl (H : Nat) : IntKind.u16.wrap ((H : Int) * 2) = ((H * 2 % 65536 : Nat) : Int) := by rw [IntKind.wrap_u16]; omega
theorem u16_xorS (H : Nat) : bits .xor .u16 (IntKind.u16.wrap ((H : Int) * 2)) 4129 = (((H * 2 % 65536) ^^^ 4129 : Nat) : Int) := by
  rw [u16_shl]
  exact u16_xor_nat (H * 2 % 65536) 4129 (Nat.mod_lt _ (by decide)) (by decide)

set_option maxRecDepth 100000 in
set_option maxHeartbeats 1000000 in
theorem afterByte_nat (h b : Nat) (w : World) (hh : h < 65536) (hb : b < 256) :
    Calls Try.prog 63 #[.int .u16 h, .int .u8 b] w fun e w' => e = .returned (.int .u16 (byteK b 8 h)) ∧ w' = w := by
  go_enter Try.func63, Try.ntmps63
  go_wp2
  go_loop [0, 5] (fun x m => ∃ k M : Nat, k ≤ 8 ∧ x = .int .u16 (byteK b k h) ∧ m = .int .u8 M ∧ M = 128 / 2 ^ k) (fun _ m => (intOf m).toNat)
  case atStart => exact ⟨0, 128, by omega, rfl, rfl, rfl⟩
  case round =>
    obtain ⟨k, M, hk, rfl, rfl, hM⟩ := hrel
    have HM : Hid (M = 128 / 2 ^ k) := hM
    by_cases hlt : k < 8
    · have hMp : 0 < M := by
        rw [hM, show (128 : Nat) = 2 ^ 7 from rfl, Nat.pow_div (by omega) (by decide)]; exact Nat.pow_pos (by decide)
      have hMl : M < 256 := by rw [hM]; exact Nat.lt_of_le_of_lt (Nat.div_le_self _ _) (by decide)
      have hhalf : M / 2 = 128 / 2 ^ (k + 1) := by rw [hM, Nat.div_div_eq_div_mul, ← Nat.pow_succ]
      have HH : Hid (M / 2 = 128 / 2 ^ (k + 1)) := hhalf
      have hm := u8_mask b k hb hlt
      rw [← hM] at hm
      have hst : byteK b (k + 1) h = bitS (byteK b k h) (b / 2 ^ (7 - k) % 2) := rfl
      have hHl := byteK_lt b k h hh
      have ht := u16_top (byteK b k h) hHl
      have hpow : 0 < 2 ^ (7 - k) := Nat.pow_pos (by decide)
      clear hM hhalf
      generalize byteK b k h = H at *
      generalize 2 ^ (7 - k) = P at *
      rcases Nat.mod_two_eq_zero_or_one (b / P) with p | p <;> rcases (show H / 32768 = 0 ∨ H / 32768 = 1 from by omega) with q | q
      · have t1 : (bits BinOp.and IntKind.u8 (b : Int) (M : Int) != 0) = false := by rw [hm, p]; simp
        have t2 : (bits BinOp.and IntKind.u16 (H : Int) 32768 != 0) = false := by rw [ht, q]; rfl
        have HS : Hid (byteK b (k + 1) h = H * 2 % 65536) := by rw [p] at hst; unfold Hid; rw [hst]; simp [bitS, q]
        clear hm ht p q hst
        go_wp2
        go_round
        case rel => exact ⟨k + 1, M / 2, by omega, val_int (by rw [HS.out, u16_shl]), val_int (by omega), HH.out⟩
        case measure => simp [intOf]; omega
      · have t1 : (bits BinOp.and IntKind.u8 (b : Int) (M : Int) != 0) = false := by rw [hm, p]; simp
        have t2 : (bits BinOp.and IntKind.u16 (H : Int) 32768 != 0) = true := by rw [ht, q]; rfl
        have HS : Hid (byteK b (k + 1) h = (H * 2 % 65536) ^^^ 4129) := by rw [p] at hst; unfold Hid; rw [hst]; simp [bitS, q]
        clear hm ht p q hst
        go_wp2
        go_round
        case rel => exact ⟨k + 1, M / 2, by omega, val_int (by rw [HS.out, u16_xorS]), val_int (by omega), HH.out⟩
        case measure => simp [intOf]; omega
      · have t1 : (bits BinOp.and IntKind.u8 (b : Int) (M : Int) != 0) = true := by rw [hm, p, Nat.one_mul]; simp only [bne_iff_ne]; omega
        have t2 : (bits BinOp.and IntKind.u16 (H : Int) 32768 != 0) = false := by rw [ht, q]; rfl
        have HS : Hid (byteK b (k + 1) h = (H * 2 % 65536) ^^^ 4129) := by rw [p] at hst; unfold Hid; rw [hst]; simp [bitS, q]
        clear hm ht p q hst
        go_wp2
        go_round
        case rel => exact ⟨k + 1, M / 2, by omega, val_int (by rw [HS.out, u16_xorS]), val_int (by omega), HH.out⟩
        case measure => simp [intOf]; omega
      · have t1 : (bits BinOp.and IntKind.u8 (b : Int) (M : Int) != 0) = true := by rw [hm, p, Nat.one_mul]; simp only [bne_iff_ne]; omega
        have t2 : (bits BinOp.and IntKind.u16 (H : Int) 32768 != 0) = true := by rw [ht, q]; rfl
        have HS : Hid (byteK b (k + 1) h = H * 2 % 65536) := by rw [p] at hst; unfold Hid; rw [hst]; simp [bitS, q]
        clear hm ht p q hst
        go_wp2
        go_round
        case rel => exact ⟨k + 1, M / 2, by omega, val_int (by rw [HS.out, u16_shl]), val_int (by omega), HH.out⟩
        case measure => simp [intOf]; omega
    · have e8 : k = 8 := by omega
      subst e8
      have hM0 : M = 0 := hM
      subst hM0
      clear hM
      go_wp2
      go_ret
      exact ⟨rfl, rfl⟩
theorem checkSum (s : ByteArray) (w : World) (hs : s.size ≤ maxLen) :
    Calls Try.prog 41 #[.string s] w fun e w' => e = .returned (.int .u16 (sum s.data.toList)) ∧ w' = w := by
  unfold maxLen at hs
  go_enter Try.func41, Try.ntmps41
  go_wp2
  go_loop [3, 4] (fun n i => ∃ k : Nat, k ≤ s.size ∧ i = .int .i64 k ∧ n = .int .u16 (sum (s.data.toList.take k))) (fun _ i => s.size - (intOf i).toNat)
  case atStart => exact ⟨0, Nat.zero_le _, rfl, rfl⟩
  case round =>
    obtain ⟨k, hk, rfl, rfl⟩ := hrel
    have hd := sum_lt (s.data.toList.take k)
    by_cases hlt : k < s.size
    · have HS : Hid (sum (s.data.toList.take (k + 1)) = byteK s[k].toNat 8 (sum (s.data.toList.take k))) := sum_take s k hlt
      go_wp2_with fail
      refine (afterByte_nat _ _ _ hd (UInt8.toNat_lt _)).mono ?_
      rintro e w' ⟨rfl, rfl⟩
      go_wp2
      go_round
      case rel => exact ⟨k + 1, by omega, by go_num, by rw [HS.out]⟩
      case measure => simp [intOf]; omega
    · go_wp2
      go_ret
      exact ⟨ret_int (by rw [List.take_of_length_le (by simp; omega)]), rfl⟩

end Crc
end Go.Proofs.Ytkgnmcekeeannaa
