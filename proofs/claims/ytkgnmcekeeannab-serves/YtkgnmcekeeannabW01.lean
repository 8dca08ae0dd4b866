import Derived.Test.YtkgnmcekeeannabRows
import Derived.WalkKit
import Derived.WalkSmall
import Derived.Deep.OwnRows
import Derived.Deep.QuietTactic
import Derived.BigQuiet
import Derived.Deep.RegionWith
import Derived.Deep.DeepCutAuto
import Derived.Lib.Strings
import Derived.Maps.AppendAt
import Derived.Deep.RegionLaw
/-
  Small laws on rows of numbers and of bytes, for the walks over messages.
-/
namespace Go.Proofs.Ytkgnmcekeeannab
open Go.RowKit Go.Deep
namespace Bs

theorem infoInt : (Try.prog.info? 3).map (fun i => (i.zero, i.size, i.bytes)) = some (some (.int .i64 0), 1, 8) := by kernel_rfl
theorem infoByte : (Try.prog.info? 5).map (fun i => (i.zero, i.size, i.bytes)) = some (some (.int .u8 0), 1, 1) := by kernel_rfl

theorem ret_int {k : IntKind} {a b : Int} (h : a = b) : Ending.returned (.int k a) = .returned (.int k b) := by rw [h]
theorem val_int {k : IntKind} {a b : Int} (h : a = b) : Value.int k a = Value.int k b := by rw [h]
theorem ret_bool {a b : Bool} (h : a = b) : Ending.returned (.bool a) = .returned (.bool b) := by rw [h]
theorem drawn_more {w wr : World} {q : Nat} (h : ∃ m, wr = w.drewN m) : ∃ m, wr.drewN q = w.drewN m := by
  obtain ⟨m, rfl⟩ := h
  exact ⟨m + q, World.drewN_drewN ..⟩
theorem drawn_below {w wr : World} (h : ∃ m, wr = w.drewN m) : Below w.heap.size w wr := by
  obtain ⟨m, rfl⟩ := h; exact below_drewN (Below.refl _ _) m
theorem below_same {w w' : World} (h : w' = w) : Below w.heap.size w w' := by subst h; exact Below.refl _ _

theorem cell_new {w : World} {b i : Nat} {c : Array Value} {t : TypeId} {v : Value} (hb : b = w.heap.size) (hv : c[i]? = some v) : (w.alloc (.cells c t)).cell? ⟨b, i, none⟩ = some v := by
  subst hb
  have h : (w.alloc (.cells c t)).heap[w.heap.size]? = some (.cells c t) := heap_alloc_new w _
  simp only [World.cell?]
  rw [h]
  exact hv
theorem cell_old {w : World} {b i : Nat} {o : Obj} {v : Value} (hb : b < w.heap.size) (hv : w.cell? ⟨b, i, none⟩ = some v) : (w.alloc o).cell? ⟨b, i, none⟩ = some v := by
  rw [← hv]
  exact World.cell?_of_block (a := ⟨b, i, none⟩) (Below.heap_alloc w o b hb)
theorem cell_drawn {w : World} {b i q : Nat} {v : Value} (hv : w.cell? ⟨b, i, none⟩ = some v) : (w.drewN q).cell? ⟨b, i, none⟩ = some v := hv

def bv (x : UInt8) : Value := .int .u8 x.toNat
/-- a row of bytes, as a text -/
theorem conv_row {w : World} {b n cap : Nat} {f : Nat → Value} (l : List UInt8) (hn : l.length = n) (h : w.rowIs b 5 n f) (hf : ∀ i, i < n → ∀ x, l[i]? = some x → f i = bv x) :
    (convert 72 9 (.slice (some ⟨b, 0, none⟩) n cap)).run Try.prog w = .ok (.string ⟨l.toArray⟩) w := by
  subst hn
  refine run_convert_bytes_back w 72 9 5 ⟨b, 0, none⟩ cap l Try.underlying72 Try.underlying5 Try.underlying9 (fun j hj => ?_)
  have e : (⟨b, 0, none⟩ : Addr).add j = ⟨b, j, none⟩ := by
    unfold Addr.add
    by_cases e : j = 0
    · subst e; rfl
    · simp [e]
  rw [e, h.cell hj, hf j hj l[j] (by simp [hj])]
  rfl
end Bs
end Go.Proofs.Ytkgnmcekeeannab
/-
  append as one step of a region that draws, with where the new slice lies; rows of bytes and of items.
-/
namespace Go.Proofs.Ytkgnmcekeeannab
open Go.RowKit Go.Deep
namespace Bs

theorem step_append_at {P : Program} {ops : Array Oper} {o : Oper} {a : Act} {w : World} {K : Act → World → Prop} {Q : Exit → Act → World → Prop} {E : Prop}
    (hg : o.guard = none) (s x : Operand) (t : TypeId) (hop : o.op = Op.call { callee := Callee.builtin Builtin.append, args := #[s, x], argTypes := #[t, t] })
    (base : Nat) (e : TypeId) (i : TypeInfo) (z : Value) (size bytes : Nat) (h1 : P.underlying t = some (.slice e)) (h2 : P.info? e = some i) (h3 : i.zero = some z) (h4 : i.size = size) (h5 : i.bytes = bytes) (h6 : z.cells.size = size) (h7 : 0 < size)
    (v : Value) (n : Nat) (xs : List Value) (hs : a.eval s = v) (hown : w.ownsRow base e size v n xs)
    (ad : Addr) (m c : Nat) (news : List Value) (hx : a.eval x = .slice (some ad) m c) (hn : news.length = m * size) (hc : ∀ j u, news[j]? = some u → w.cell? (ad.add j) = some u) (h1c : ∀ u ∈ news, u.oneCell' = true)
    (b1 : n + m ≤ maxLen) (b2 : (n + m) * bytes ≤ 140737488355328) (hbase : base ≤ w.heap.size)
    (hK : ∀ v' w', w'.ownsRow base e size v' (n + m) (xs ++ news) → w.grownBy w' v.ownBlock → (v'.ownBlock = v.ownBlock ∨ v'.ownBlock = some w.heap.size) → K (a.put o.dst v') w') :
    if Region.wanted o (yielded ops a.tmps) = true then Oper.wp P o a w K Q else E := by
  have hw : Region.wanted o (yielded ops a.tmps) = true := by simp [Region.wanted, hg]
  rw [if_pos hw]
  obtain ⟨v', w', hrun, r1, r2, _, r3⟩ := run_append_own_at (P := P) w base t o.type e i z size bytes h1 h2 h3 h4 h5 h6 h7 v n xs hown ad m c news hn hc h1c b1 b2 hbase
  unfold Oper.wp
  simp [execOp, hop, resolve, invoke, builtin, hs, hx, hrun, Result.andThen]
  exact hK v' w' r1 r2 r3

theorem info_parts3 {P : Program} {t : TypeId} {z : Value} {s b : Nat} (h : (P.info? t).map (fun i => (i.zero, i.size, i.bytes)) = some (some z, s, b)) : ∃ i, P.info? t = some i ∧ i.zero = some z ∧ i.size = s ∧ i.bytes = b := by
  cases hi : P.info? t with
  | none => rw [hi] at h; cases h
  | some i =>
    rw [hi] at h
    simp only [Option.map_some, Option.some.injEq, Prod.mk.injEq] at h
    exact ⟨i, rfl, h.1, h.2.1, h.2.2⟩
/-- what an own row looks like -/
theorem owns_form {w : World} {base e size n : Nat} {v : Value} {xs : List Value} (h : w.ownsRow base e size v n xs) : ∃ ao cap, v = .slice ao n cap := by
  rcases h.2 with ⟨rfl, rfl⟩ | ⟨g, cap, cur, rfl, _⟩
  · exact ⟨_, _, rfl⟩
  · exact ⟨_, _, rfl⟩
theorem add_eq (b off j : Nat) : (⟨b, off, none⟩ : Addr).add j = ⟨b, off + j, none⟩ := by
  unfold Addr.add
  by_cases e : j = 0
  · subst e; rfl
  · simp [e]
theorem add_eq0 (b j : Nat) : (⟨b, 0, none⟩ : Addr).add j = ⟨b, j, none⟩ := by rw [add_eq, Nat.zero_add]
/-- a row of bytes of the call's own, as a text -/
theorem conv_owned {w : World} {base n : Nat} {v : Value} (l : List UInt8) (hn : l.length = n) (hp : 0 < n) (h : w.ownsRow base 5 1 v n (l.map bv)) :
    (convert 72 9 v).run Try.prog w = .ok (.string ⟨l.toArray⟩) w := by
  rcases h.2 with ⟨_, h0⟩ | ⟨g, cap, cur, rfl, _⟩
  · omega
  · have hc := h.cells (g := g) rfl
    subst hn
    refine run_convert_bytes_back w 72 9 5 ⟨g, 0, none⟩ cap l Try.underlying72 Try.underlying5 Try.underlying9 (fun j hj => ?_)
    rw [hc j (bv l[j]) (by simp [hj])]
    rfl
/-- a row just made is the call's own -/
theorem owns_new {w : World} {base e size n : Nat} {c : Array Value} (hb : base ≤ w.heap.size) (hm : n ≤ maxLen) (hc : c.size = n * size) : (w.alloc (.cells c e)).ownsRow base e size (.slice (some ⟨w.heap.size, 0, none⟩) n n) n c.toList :=
  ⟨by simp [hc], .inr ⟨w.heap.size, n, c, rfl, hb, heap_alloc_new w _, Nat.le_refl _, hm, hc, by rw [← hc, ← Array.length_toList, List.take_length]⟩⟩
theorem conv_new {w : World} {n b : Nat} {c : Array Value} (l : List UInt8) (hb : b = w.heap.size) (hc : c.toList = l.map bv) (hn : l.length = n) (hp : 0 < n) (hm : n ≤ maxLen) :
    (convert 72 9 (.slice (some ⟨b, 0, none⟩) n n)).run Try.prog (w.alloc (.cells c 5)) = .ok (.string ⟨l.toArray⟩) (w.alloc (.cells c 5)) := by
  subst hb
  have hs : c.size = n * 1 := by rw [← Array.length_toList, hc]; simp [hn]
  have h := owns_new (w := w) (base := w.heap.size) (e := 5) (Nat.le_refl _) hm hs
  rw [hc] at h
  exact conv_owned l hn hp h
theorem news3 {w : World} {x y z : Value} {t : TypeId} : ∀ j u, ([x, y, z] : List Value)[j]? = some u → (w.alloc (.cells #[x, y, z] t)).cell? ((⟨w.heap.size, 0, none⟩ : Addr).add j) = some u := by
  intro j u hj
  rw [add_eq0]
  have h : (w.alloc (.cells #[x, y, z] t)).heap[w.heap.size]? = some (.cells #[x, y, z] t) := heap_alloc_new w _
  simp only [World.cell?]
  rw [h]
  simpa using hj
theorem below_append {B e size n : Nat} {v : Value} {xs : List Value} {w wr w1 : World} {o : Obj} (h : Below B w wr) (hB : B ≤ wr.heap.size) (hown : wr.ownsRow B e size v n xs) (hg : (wr.alloc o).grownBy w1 v.ownBlock) : Below B w w1 :=
  (h.alloc hB o).grown hg (by simp; omega) (fun k hk => (hown.lt k hk).1)
theorem below_append_d {B e size n : Nat} {v : Value} {xs : List Value} {w wr w1 : World} {o : Obj} (h : Below B w wr) (hB : B ≤ wr.heap.size) (hown : wr.ownsRow B e size v n xs) (hg : (wr.alloc o).drew.grownBy w1 v.ownBlock) : Below B w w1 :=
  below_append (o := o) h hB hown ⟨hg.os, hg.tape, hg.output, hg.size, hg.block⟩
theorem owns_drew {w : World} {base e size n : Nat} {v : Value} {xs : List Value} (h : w.ownsRow base e size v n xs) : w.drew.ownsRow base e size v n xs := h
end Bs
end Go.Proofs.Ytkgnmcekeeannab
/-
  The check of a text, in plain numbers: a step for each bit, from a byte's highest on.
-/
namespace Go.Proofs.Ytkgnmcekeeannab
namespace Crc

def bitS (h b : Nat) : Nat := if (b + h / 32768) % 2 = 1 then (h * 2 % 65536) ^^^ 4129 else h * 2 % 65536
def byteK (b : Nat) : Nat → Nat → Nat
  | 0, h => h
  | k + 1, h => bitS (byteK b k h) (b / 2 ^ (7 - k) % 2)
def sum (l : List UInt8) : Nat := l.foldl (fun h c => byteK c.toNat 8 h) 65535

theorem bitS_lt (h b : Nat) : bitS h b < 65536 := by
  unfold bitS
  split
  · exact Nat.xor_lt_two_pow (n := 16) (Nat.mod_lt _ (by decide)) (by decide)
  · exact Nat.mod_lt _ (by decide)
theorem byteK_lt (b k h : Nat) (hh : h < 65536) : byteK b k h < 65536 := by
  cases k with
  | zero => exact hh
  | succ k => exact bitS_lt _ _
theorem sum_snoc (l : List UInt8) (c : UInt8) : sum (l ++ [c]) = byteK c.toNat 8 (sum l) := by simp [sum]
theorem fold_lt (l : List UInt8) : ∀ h : Nat, h < 65536 → l.foldl (fun h c => byteK c.toNat 8 h) h < 65536 := by
  induction l with
  | nil => intro h hh; exact hh
  | cons c l ih => intro h hh; exact ih _ (byteK_lt _ _ _ hh)
theorem sum_lt (l : List UInt8) : sum l < 65536 := fold_lt l _ (by decide)
theorem take_snoc (s : ByteArray) (k : Nat) (h : k < s.size) : s.data.toList.take (k + 1) = s.data.toList.take k ++ [s[k]] := by
  rw [List.take_succ_eq_append_getElem (by simpa using h)]; rfl
theorem sum_take (s : ByteArray) (k : Nat) (h : k < s.size) : sum (s.data.toList.take (k + 1)) = byteK s[k].toNat 8 (sum (s.data.toList.take k)) := by
  rw [take_snoc s k h, sum_snoc]
theorem and_pow (x i : Nat) : x &&& 2 ^ i = x / 2 ^ i % 2 * 2 ^ i := by
  apply Nat.eq_of_testBit_eq; intro j
  rw [Nat.testBit_and, Nat.testBit_two_pow]
  rcases Nat.mod_two_eq_zero_or_one (x / 2 ^ i) with h | h
  · rw [h]
    by_cases e : i = j
    · subst e; simp [Nat.testBit_eq_decide_div_mod_eq, h]
    · simp [e]
  · rw [h, Nat.one_mul, Nat.testBit_two_pow]
    by_cases e : i = j
    · subst e; simp [Nat.testBit_eq_decide_div_mod_eq, h]
    · simp [e]
end Crc
end Go.Proofs.Ytkgnmcekeeannab
/-
  The landed check.
-/
namespace Go.Proofs.Ytkgnmcekeeannab
open Go.RowKit
namespace Crc
open Bs (ret_int val_int)

theorem u16_top (H : Nat) (hH : H < 65536) : bits .and .u16 (H : Int) 32768 = ((H / 32768 * 32768 : Nat) : Int) := by
  have h := u16_and_nat H 32768 hH (by decide)
  rw [show (32768 : Nat) = 2 ^ 15 from rfl, and_pow] at h
  have e : H / 2 ^ 15 % 2 = H / 2 ^ 15 := Nat.mod_eq_of_lt (by omega)
  rw [e] at h
  exact h
theorem u8_mask (b k : Nat) (hb : b < 256) (hk : k < 8) : bits .and .u8 (b : Int) ((128 / 2 ^ k : Nat) : Int) = ((b / 2 ^ (7 - k) % 2 * 2 ^ (7 - k) : Nat) : Int) := by
  have e : 128 / 2 ^ k = 2 ^ (7 - k) := by
    rw [show (128 : Nat) = 2 ^ 7 from rfl, Nat.pow_div (by omega) (by decide)]
  have h2 : 2 ^ (7 - k) ≤ 2 ^ 7 := Nat.pow_le_pow_right (by decide) (by omega)
  rw [e, u8_and_nat b _ hb (by omega), and_pow]
theorem u16_shl (H : Nat) : IntKind.u16.wrap ((H : Int) * 2) = ((H * 2 % 65536 : Nat) : Int) := by rw [IntKind.wrap_u16]; omega
theorem u16_xorS (H : Nat) : bits .xor .u16 (IntKind.u16.wrap ((H : Int) * 2)) 4129 = (((H * 2 % 65536) ^^^ 4129 : Nat) : Int) := by
  rw [u16_shl]
  exact u16_xor_nat (H * 2 % 65536) 4129 (Nat.mod_lt _ (by decide)) (by decide)

set_option maxRecDepth 100000 in
set_option maxHeartbeats 1000000 in
theorem afterByte_nat (h b : Nat) (w : World) (hh : h < 65536) (hb : b < 256) :
    Calls Try.prog 64 #[.int .u16 h, .int .u8 b] w fun e w' => e = .returned (.int .u16 (byteK b 8 h)) ∧ w' = w := by
  go_enter Try.func64, Try.ntmps64
  go_wp2
  go_loop [0, 5] (fun x m => ∃ k M : Nat, k ≤ 8 ∧ x = .int .u16 (byteK b k h) ∧ m = .int .u8 M ∧ M = 128 / 2 ^ k) (fun _ m => (intOf m).toNat)
  case atStart => exact ⟨0, 128, by omega, rfl, rfl, rfl⟩
  case round =>
    obtain ⟨k, M, hk, rfl, rfl, hM⟩ := hrel
    have HM : Hid (M = 128 / 2 ^ k) := hM
    by_cases hlt : k < 8
    · have hMp : 0 < M := by
        rw [hM, show (128 : Nat) = 2 ^ 7 from rfl, Nat.pow_div (by omega) (by decide)]; exact Nat.pow_pos (by decide)
      have hMl : M < 256 := by rw [hM]; exact Nat.lt_of_le_of_lt (Nat.div_le_self _ _) (by decide)
      have hhalf : M / 2 = 128 / 2 ^ (k + 1) := by rw [hM, Nat.div_div_eq_div_mul, ← Nat.pow_succ]
      have HH : Hid (M / 2 = 128 / 2 ^ (k + 1)) := hhalf
      have hm := u8_mask b k hb hlt
      rw [← hM] at hm
      have hst : byteK b (k + 1) h = bitS (byteK b k h) (b / 2 ^ (7 - k) % 2) := rfl
      have hHl := byteK_lt b k h hh
      have ht := u16_top (byteK b k h) hHl
      have hpow : 0 < 2 ^ (7 - k) := Nat.pow_pos (by decide)
      clear hM hhalf
      generalize byteK b k h = H at *
      generalize 2 ^ (7 - k) = P at *
      rcases Nat.mod_two_eq_zero_or_one (b / P) with p | p <;> rcases (show H / 32768 = 0 ∨ H / 32768 = 1 from by omega) with q | q
      · have t1 : (bits BinOp.and IntKind.u8 (b : Int) (M : Int) != 0) = false := by rw [hm, p]; simp
        have t2 : (bits BinOp.and IntKind.u16 (H : Int) 32768 != 0) = false := by rw [ht, q]; rfl
        have HS : Hid (byteK b (k + 1) h = H * 2 % 65536) := by rw [p] at hst; unfold Hid; rw [hst]; simp [bitS, q]
        clear hm ht p q hst
        go_wp2
        go_round
        case rel => exact ⟨k + 1, M / 2, by omega, val_int (by rw [HS.out, u16_shl]), val_int (by omega), HH.out⟩
        case measure => simp [intOf]; omega
      · have t1 : (bits BinOp.and IntKind.u8 (b : Int) (M : Int) != 0) = false := by rw [hm, p]; simp
        have t2 : (bits BinOp.and IntKind.u16 (H : Int) 32768 != 0) = true := by rw [ht, q]; rfl
        have HS : Hid (byteK b (k + 1) h = (H * 2 % 65536) ^^^ 4129) := by rw [p] at hst; unfold Hid; rw [hst]; simp [bitS, q]
        clear hm ht p q hst
        go_wp2
        go_round
        case rel => exact ⟨k + 1, M / 2, by omega, val_int (by rw [HS.out, u16_xorS]), val_int (by omega), HH.out⟩
        case measure => simp [intOf]; omega
      · have t1 : (bits BinOp.and IntKind.u8 (b : Int) (M : Int) != 0) = true := by rw [hm, p, Nat.one_mul]; simp only [bne_iff_ne]; omega
        have t2 : (bits BinOp.and IntKind.u16 (H : Int) 32768 != 0) = false := by rw [ht, q]; rfl
        have HS : Hid (byteK b (k + 1) h = (H * 2 % 65536) ^^^ 4129) := by rw [p] at hst; unfold Hid; rw [hst]; simp [bitS, q]
        clear hm ht p q hst
        go_wp2
        go_round
        case rel => exact ⟨k + 1, M / 2, by omega, val_int (by rw [HS.out, u16_xorS]), val_int (by omega), HH.out⟩
        case measure => simp [intOf]; omega
      · have t1 : (bits BinOp.and IntKind.u8 (b : Int) (M : Int) != 0) = true := by rw [hm, p, Nat.one_mul]; simp only [bne_iff_ne]; omega
        have t2 : (bits BinOp.and IntKind.u16 (H : Int) 32768 != 0) = true := by rw [ht, q]; rfl
        have HS : Hid (byteK b (k + 1) h = H * 2 % 65536) := by rw [p] at hst; unfold Hid; rw [hst]; simp [bitS, q]
        clear hm ht p q hst
        go_wp2
        go_round
        case rel => exact ⟨k + 1, M / 2, by omega, val_int (by rw [HS.out, u16_shl]), val_int (by omega), HH.out⟩
        case measure => simp [intOf]; omega
    · have e8 : k = 8 := by omega
      subst e8
      have hM0 : M = 0 := hM
      subst hM0
      clear hM
      go_wp2
      go_ret
      exact ⟨rfl, rfl⟩
theorem checkSum (s : ByteArray) (w : World) (hs : s.size ≤ maxLen) :
    Calls Try.prog 46 #[.string s] w fun e w' => e = .returned (.int .u16 (sum s.data.toList)) ∧ w' = w := by
  unfold maxLen at hs
  go_enter Try.func46, Try.ntmps46
  go_wp2
  go_loop [3, 4] (fun n i => ∃ k : Nat, k ≤ s.size ∧ i = .int .i64 k ∧ n = .int .u16 (sum (s.data.toList.take k))) (fun _ i => s.size - (intOf i).toNat)
  case atStart => exact ⟨0, Nat.zero_le _, rfl, rfl⟩
  case round =>
    obtain ⟨k, hk, rfl, rfl⟩ := hrel
    have hd := sum_lt (s.data.toList.take k)
    by_cases hlt : k < s.size
    · have HS : Hid (sum (s.data.toList.take (k + 1)) = byteK s[k].toNat 8 (sum (s.data.toList.take k))) := sum_take s k hlt
      go_wp2_with fail
      refine (afterByte_nat _ _ _ hd (UInt8.toNat_lt _)).mono ?_
      rintro e w' ⟨rfl, rfl⟩
      go_wp2
      go_round
      case rel => exact ⟨k + 1, by omega, by go_num, by rw [HS.out]⟩
      case measure => simp [intOf]; omega
    · go_wp2
      go_ret
      exact ⟨ret_int (by rw [List.take_of_length_le (by simp; omega)]), rfl⟩

end Crc
end Go.Proofs.Ytkgnmcekeeannab
/-
  The field of 256, in plain numbers: the product as the program makes it, the product as the document's answer makes it, and that they are one; the laws of a field. No text of the program is named here.
-/
namespace Go.Proofs.Ytkgnmcekeeannab
namespace Fld

def tx (a : Nat) : Nat := if a &&& 128 = 0 then a * 2 % 256 else (a * 2 % 256) ^^^ 29
def mulL : Nat → Nat → Nat → Nat → Nat
  | 0, _, _, p => p
  | n + 1, a, b, p => mulL n (tx a) (b / 2) (if b % 2 = 1 then p ^^^ a else p)
def mul (a b : Nat) : Nat := mulL 8 a b 0
def outL : Nat → Nat → Nat → Nat
  | 0, _, _ => 0
  | i + 1, a, b => if a / 2 ^ i % 2 = 1 then outL i a b ^^^ (b * 2 ^ i) else outL i a b
def redC (m : Nat) : Nat := 2 ^ m ^^^ 2 ^ (m - 4) ^^^ 2 ^ (m - 5) ^^^ 2 ^ (m - 6) ^^^ 2 ^ (m - 8)
def redS (m r : Nat) : Nat := if r / 2 ^ m % 2 = 1 then r ^^^ redC m else r
def redL : Nat → Nat → Nat
  | 0, r => r
  | j + 1, r => redS (15 - j) (redL j r)
def prod (a b : Nat) : Nat := redL 8 (outL 8 a b)
def invL : Nat → Nat → Nat → Nat
  | 0, _, v => v
  | n + 1, p, v => invL n (mul p p) (mul v (mul p p))
def inv (a : Nat) : Nat := invL 7 a 1

def allB : Nat → (Nat → Bool) → Bool
  | 0, _ => true
  | n + 1, f => f n && allB n f
theorem all_of {n : Nat} {f : Nat → Bool} (h : allB n f = true) : ∀ k, k < n → f k = true := by
  induction n with
  | zero => intro k hk; omega
  | succ n ih =>
    simp only [allB, Bool.and_eq_true] at h
    intro k hk
    by_cases e : k = n
    · subst e; exact h.1
    · exact ih h.2 k (by omega)

/-! ### bits -/
theorem bit_xor (x y i : Nat) : (x ^^^ y) / 2 ^ i % 2 = (x / 2 ^ i % 2 + y / 2 ^ i % 2) % 2 := by
  have t : ∀ z : Nat, z / 2 ^ i % 2 = (z.testBit i).toNat := fun z => by
    rw [Nat.testBit_eq_decide_div_mod_eq]
    by_cases h : z / 2 ^ i % 2 = 1
    · simp [h]
    · have : z / 2 ^ i % 2 = 0 := by omega
      simp [this]
  rw [t, t, t, Nat.testBit_xor]
  cases x.testBit i <;> cases y.testBit i <;> rfl
theorem half_xor (x y : Nat) : (x ^^^ y) / 2 = x / 2 ^^^ y / 2 := by
  apply Nat.eq_of_testBit_eq; intro i
  simp [Nat.testBit_div_two]
theorem mul2_xor (x y : Nat) : (x ^^^ y) * 2 % 256 = (x * 2 % 256) ^^^ (y * 2 % 256) := by
  apply Nat.eq_of_testBit_eq; intro i
  have e : ∀ z : Nat, z * 2 % 256 = (z * 2 ^ 1) % 2 ^ 8 := fun _ => rfl
  rw [e (x ^^^ y), e x, e y, Nat.testBit_xor]
  simp only [Nat.testBit_mod_two_pow, Nat.testBit_xor, ← Nat.shiftLeft_eq, Nat.testBit_shiftLeft]
  cases decide (i < 8) <;> cases decide (i ≥ 1) <;> simp
theorem xor_turn (a b c : Nat) : a ^^^ (b ^^^ c) = a ^^^ c ^^^ b := by rw [Nat.xor_comm b c, Nat.xor_assoc]
theorem xor_xor_swap (a b c d : Nat) : (a ^^^ b) ^^^ (c ^^^ d) = (a ^^^ c) ^^^ (b ^^^ d) := by
  rw [Nat.xor_assoc, Nat.xor_assoc, ← Nat.xor_assoc b c d, Nat.xor_comm b c, Nat.xor_assoc c b d]
theorem and128 (a : Nat) : a &&& 128 = 0 ↔ a / 2 ^ 7 % 2 = 0 := by
  have h : a &&& 128 = a / 2 ^ 7 % 2 * 2 ^ 7 := by
    apply Nat.eq_of_testBit_eq; intro i
    rw [show (128 : Nat) = 2 ^ 7 from rfl, Nat.testBit_and, Nat.testBit_two_pow]
    rcases Nat.mod_two_eq_zero_or_one (a / 2 ^ 7) with h | h
    · rw [h]
      by_cases e : 7 = i
      · subst e; simp [Nat.testBit_eq_decide_div_mod_eq, h]
      · simp [e]
    · rw [h, Nat.one_mul, Nat.testBit_two_pow]
      by_cases e : 7 = i
      · subst e; simp [Nat.testBit_eq_decide_div_mod_eq, h]
      · simp [e]
  rw [h]; omega
theorem tx_xor (x y : Nat) : tx (x ^^^ y) = tx x ^^^ tx y := by
  unfold tx
  simp only [and128, mul2_xor, bit_xor]
  rcases Nat.mod_two_eq_zero_or_one (x / 2 ^ 7) with h | h <;> rcases Nat.mod_two_eq_zero_or_one (y / 2 ^ 7) with k | k <;> simp only [h, k] <;> simp
  · rw [Nat.xor_assoc]
  · rw [Nat.xor_assoc]; exact xor_turn _ _ _
  · rw [xor_xor_swap, Nat.xor_self, Nat.xor_zero]
theorem mulL_xor_left : ∀ (n a a' b p p' : Nat), mulL n (a ^^^ a') b (p ^^^ p') = mulL n a b p ^^^ mulL n a' b p'
  | 0, _, _, _, _, _ => rfl
  | n + 1, a, a', b, p, p' => by
    simp only [mulL, tx_xor]
    rw [← mulL_xor_left n]
    by_cases h : b % 2 = 1
    · simp only [h, if_true, xor_xor_swap]
    · simp only [h, if_false]
theorem mulL_xor_right : ∀ (n a b b' p p' : Nat), mulL n a (b ^^^ b') (p ^^^ p') = mulL n a b p ^^^ mulL n a b' p'
  | 0, _, _, _, _, _ => rfl
  | n + 1, a, b, b', p, p' => by
    simp only [mulL, half_xor]
    rw [← mulL_xor_right n]
    have e := bit_xor b b' 0
    simp only [Nat.pow_zero, Nat.div_one] at e
    congr 1
    rcases Nat.mod_two_eq_zero_or_one b with h | h <;> rcases Nat.mod_two_eq_zero_or_one b' with k | k <;> simp only [e, h, k] <;> simp
    · rw [Nat.xor_assoc]
    · rw [Nat.xor_assoc, Nat.xor_comm p' a, Nat.xor_assoc]
    · rw [xor_xor_swap, Nat.xor_self, Nat.xor_zero]
theorem mul_xor_left (a a' b : Nat) : mul (a ^^^ a') b = mul a b ^^^ mul a' b := mulL_xor_left 8 a a' b 0 0
theorem mul_xor_right (a b b' : Nat) : mul a (b ^^^ b') = mul a b ^^^ mul a b' := mulL_xor_right 8 a b b' 0 0
theorem xor_mul_pow (x y i : Nat) : (x ^^^ y) * 2 ^ i = x * 2 ^ i ^^^ y * 2 ^ i := by
  simp only [← Nat.shiftLeft_eq]; exact Nat.shiftLeft_xor_distrib
theorem outL_xor_left : ∀ (i a a' b : Nat), outL i (a ^^^ a') b = outL i a b ^^^ outL i a' b
  | 0, _, _, _ => by simp [outL]
  | i + 1, a, a', b => by
    simp only [outL, bit_xor, outL_xor_left i]
    rcases Nat.mod_two_eq_zero_or_one (a / 2 ^ i) with h | h <;> rcases Nat.mod_two_eq_zero_or_one (a' / 2 ^ i) with k | k <;> simp only [h, k] <;> simp
    · rw [Nat.xor_assoc]
    · rw [Nat.xor_assoc, Nat.xor_comm (outL i a' b), Nat.xor_assoc]
    · rw [xor_xor_swap, Nat.xor_self, Nat.xor_zero]
theorem outL_xor_right : ∀ (i a b b' : Nat), outL i a (b ^^^ b') = outL i a b ^^^ outL i a b'
  | 0, _, _, _ => by simp [outL]
  | i + 1, a, b, b' => by
    simp only [outL, outL_xor_right i, xor_mul_pow]
    by_cases h : a / 2 ^ i % 2 = 1
    · simp only [h, if_true, xor_xor_swap]
    · simp only [h, if_false]
theorem redS_xor (m x y : Nat) : redS m (x ^^^ y) = redS m x ^^^ redS m y := by
  simp only [redS, bit_xor]
  rcases Nat.mod_two_eq_zero_or_one (x / 2 ^ m) with h | h <;> rcases Nat.mod_two_eq_zero_or_one (y / 2 ^ m) with k | k <;> simp only [h, k] <;> simp
  · rw [Nat.xor_assoc]
  · rw [Nat.xor_assoc]; exact xor_turn _ _ _
  · rw [xor_xor_swap, Nat.xor_self, Nat.xor_zero]
theorem redL_xor : ∀ (j x y : Nat), redL j (x ^^^ y) = redL j x ^^^ redL j y
  | 0, _, _ => rfl
  | j + 1, x, y => by simp only [redL, redL_xor j, redS_xor]
theorem prod_xor_left (a a' b : Nat) : prod (a ^^^ a') b = prod a b ^^^ prod a' b := by unfold prod; rw [outL_xor_left, redL_xor]
theorem prod_xor_right (a b b' : Nat) : prod a (b ^^^ b') = prod a b ^^^ prod a b' := by unfold prod; rw [outL_xor_right, redL_xor]

/-! ### what is additive is known by its values at the eight powers -/
def parts (x : Nat) : Nat → Nat
  | 0 => 0
  | i + 1 => parts x i ^^^ (if x / 2 ^ i % 2 = 1 then 2 ^ i else 0)
theorem parts_all : allB 256 (fun x => Nat.beq (parts x 8) x) = true := by decide +kernel
theorem parts_eq (x : Nat) (h : x < 256) : parts x 8 = x := Nat.eq_of_beq_eq_true (all_of parts_all x h)
theorem lin_ext (f g : Nat → Nat) (hf : ∀ x y, f (x ^^^ y) = f x ^^^ f y) (hg : ∀ x y, g (x ^^^ y) = g x ^^^ g y) (hb : ∀ i, i < 8 → f (2 ^ i) = g (2 ^ i)) (x : Nat) (hx : x < 256) : f x = g x := by
  have z : ∀ h : Nat → Nat, (∀ x y, h (x ^^^ y) = h x ^^^ h y) → h 0 = 0 := fun h e => by have := e 0 0; simpa using this
  have main : ∀ n, n ≤ 8 → f (parts x n) = g (parts x n) := by
    intro n
    induction n with
    | zero => intro _; rw [show parts x 0 = 0 from rfl, z f hf, z g hg]
    | succ n ih =>
      intro hn
      simp only [parts, hf, hg, ih (by omega)]
      by_cases h : x / 2 ^ n % 2 = 1
      · simp only [h, if_true]; rw [hb n (by omega)]
      · simp only [h, if_false]; rw [z f hf, z g hg]
  have := main 8 (by omega)
  rwa [parts_eq x hx] at this

theorem basis2 : allB 8 (fun i => allB 8 fun j => Nat.beq (prod (2 ^ i) (2 ^ j)) (mul (2 ^ i) (2 ^ j)) && Nat.beq (mul (2 ^ i) (2 ^ j)) (mul (2 ^ j) (2 ^ i))) = true := by decide +kernel
theorem basis3 : allB 8 (fun i => allB 8 fun j => allB 8 fun k => Nat.beq (mul (mul (2 ^ i) (2 ^ j)) (2 ^ k)) (mul (2 ^ i) (mul (2 ^ j) (2 ^ k)))) = true := by decide +kernel
theorem basis1 : allB 8 (fun i => Nat.beq (mul (2 ^ i) 1) (2 ^ i)) = true := by decide +kernel
theorem inv_all : allB 256 (fun a => Nat.beq a 0 || Nat.beq (mul a (inv a)) 1) = true := by decide +kernel

theorem prod_eq (a b : Nat) (ha : a < 256) (hb : b < 256) : prod a b = mul a b := by
  refine lin_ext (fun a => prod a b) (fun a => mul a b) (fun x y => prod_xor_left x y b) (fun x y => mul_xor_left x y b) (fun i hi => ?_) a ha
  refine lin_ext (fun b => prod (2 ^ i) b) (fun b => mul (2 ^ i) b) (fun x y => prod_xor_right _ x y) (fun x y => mul_xor_right _ x y) (fun j hj => ?_) b hb
  have := all_of (all_of basis2 i hi) j hj
  simp only [Bool.and_eq_true] at this
  exact Nat.eq_of_beq_eq_true this.1
theorem mul_comm (a b : Nat) (ha : a < 256) (hb : b < 256) : mul a b = mul b a := by
  refine lin_ext (fun a => mul a b) (fun a => mul b a) (fun x y => mul_xor_left x y b) (fun x y => mul_xor_right b x y) (fun i hi => ?_) a ha
  refine lin_ext (fun b => mul (2 ^ i) b) (fun b => mul b (2 ^ i)) (fun x y => mul_xor_right _ x y) (fun x y => mul_xor_left x y _) (fun j hj => ?_) b hb
  have := all_of (all_of basis2 i hi) j hj
  simp only [Bool.and_eq_true] at this
  exact Nat.eq_of_beq_eq_true this.2
theorem mul_assoc (a b c : Nat) (ha : a < 256) (hb : b < 256) (hc : c < 256) : mul (mul a b) c = mul a (mul b c) := by
  refine lin_ext (fun a => mul (mul a b) c) (fun a => mul a (mul b c)) (fun x y => by simp only [mul_xor_left]) (fun x y => mul_xor_left x y _) (fun i hi => ?_) a ha
  refine lin_ext (fun b => mul (mul (2 ^ i) b) c) (fun b => mul (2 ^ i) (mul b c)) (fun x y => by simp only [mul_xor_left, mul_xor_right]) (fun x y => by simp only [mul_xor_left, mul_xor_right]) (fun j hj => ?_) b hb
  refine lin_ext (fun c => mul (mul (2 ^ i) (2 ^ j)) c) (fun c => mul (2 ^ i) (mul (2 ^ j) c)) (fun x y => mul_xor_right _ x y) (fun x y => by simp only [mul_xor_right]) (fun k hk => ?_) c hc
  exact Nat.eq_of_beq_eq_true (all_of (all_of (all_of basis3 i hi) j hj) k hk)
theorem mul_one (a : Nat) (ha : a < 256) : mul a 1 = a := by
  refine lin_ext (fun a => mul a 1) (fun a => a) (fun x y => mul_xor_left x y 1) (fun _ _ => rfl) (fun i hi => ?_) a ha
  exact Nat.eq_of_beq_eq_true (all_of basis1 i hi)
theorem mul_inv (a : Nat) (ha : a < 256) (h0 : a ≠ 0) : mul a (inv a) = 1 := by
  have := all_of inv_all a ha
  simp only [Bool.or_eq_true] at this
  rcases this with h | h
  · exact absurd (Nat.eq_of_beq_eq_true h) h0
  · exact Nat.eq_of_beq_eq_true h
theorem mul_zero (a : Nat) : mul a 0 = 0 := by have := mul_xor_right a 0 0; simpa using this
theorem zero_mul (a : Nat) : mul 0 a = 0 := by have := mul_xor_left 0 0 a; simpa using this

/-! ### bounds -/
theorem tx_lt (a : Nat) : tx a < 256 := by
  unfold tx
  split
  · exact Nat.mod_lt _ (by decide)
  · exact Nat.xor_lt_two_pow (n := 8) (Nat.mod_lt _ (by decide)) (by decide)
theorem mulL_lt : ∀ (n a b p : Nat), a < 256 → p < 256 → mulL n a b p < 256
  | 0, _, _, _, _, hp => hp
  | n + 1, a, b, p, ha, hp => by
    refine mulL_lt n _ _ _ (tx_lt a) ?_
    split
    · exact Nat.xor_lt_two_pow (n := 8) hp ha
    · exact hp
theorem mul_lt (a b : Nat) (ha : a < 256) : mul a b < 256 := mulL_lt 8 a b 0 ha (by decide)
theorem invL_lt : ∀ (n p v : Nat), p < 256 → v < 256 → invL n p v < 256
  | 0, _, _, _, hv => hv
  | n + 1, _, _, hp, hv => invL_lt n _ _ (mul_lt _ _ hp) (mul_lt _ _ hv)
theorem inv_lt (a : Nat) (ha : a < 256) : inv a < 256 := invL_lt 7 a 1 ha (by decide)
theorem outL_lt : ∀ (i a b : Nat), i ≤ 8 → b < 256 → outL i a b < 65536
  | 0, _, _, _, _ => by simp [outL]
  | i + 1, a, b, hi, hb => by
    have h := outL_lt i a b (by omega) hb
    simp only [outL]
    split
    · refine Nat.xor_lt_two_pow (n := 16) h ?_
      have h1 : b * 2 ^ i ≤ 255 * 2 ^ i := Nat.mul_le_mul_right _ (by omega)
      have h2 : 2 ^ i ≤ 2 ^ 7 := Nat.pow_le_pow_right (by decide) (by omega)
      omega
    · exact h
theorem redC_lt (m : Nat) (h : m < 16) : redC m < 65536 := by
  have p : ∀ k, k ≤ m → 2 ^ k < 2 ^ 16 := fun k hk => Nat.pow_lt_pow_right (by decide) (by omega)
  unfold redC
  exact Nat.xor_lt_two_pow (n := 16) (Nat.xor_lt_two_pow (Nat.xor_lt_two_pow (Nat.xor_lt_two_pow (p _ (by omega)) (p _ (by omega))) (p _ (by omega))) (p _ (by omega))) (p _ (by omega))
theorem redS_lt (m r : Nat) (h : m < 16) (hr : r < 65536) : redS m r < 65536 := by
  unfold redS
  split
  · exact Nat.xor_lt_two_pow (n := 16) hr (redC_lt m h)
  · exact hr
theorem redL_lt : ∀ (j r : Nat), j ≤ 8 → r < 65536 → redL j r < 65536
  | 0, _, _, hr => hr
  | j + 1, r, hj, hr => redS_lt _ _ (by omega) (redL_lt j r (by omega) hr)

/-! ### the inverse is one -/
theorem inv_unique (a b : Nat) (ha : a < 256) (hb : b < 256) (h : mul a b = 1) : b = inv a := by
  have h0 : a ≠ 0 := by intro e; rw [e, zero_mul] at h; cases h
  have hi := inv_lt a ha
  have e1 : mul (inv a) (mul a b) = mul (mul (inv a) a) b := (mul_assoc _ _ _ hi ha hb).symm
  rw [h, mul_one _ hi, mul_comm (inv a) a hi ha, mul_inv a ha h0, mul_comm 1 b (by decide) hb, mul_one b hb] at e1
  exact e1.symm
theorem mul_ne_zero (a b : Nat) (ha : a < 256) (hb : b < 256) (h0 : a ≠ 0) (h : mul a b = 0) : b = 0 := by
  have hi := inv_lt a ha
  have e1 : mul (inv a) (mul a b) = mul (mul (inv a) a) b := (mul_assoc _ _ _ hi ha hb).symm
  rw [h, mul_zero, mul_comm (inv a) a hi ha, mul_inv a ha h0, mul_comm 1 b (by decide) hb, mul_one b hb] at e1
  exact e1.symm
end Fld
end Go.Proofs.Ytkgnmcekeeannab
