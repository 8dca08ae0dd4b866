import Derived.Test.YtkgnmcekeeannaaZ08
import Derived.WalkKit
namespace Go.Proofs.Ytkgnmcekeeannaa
open Go.RowKit
namespace Cod
open Pol (G fm fi prodBut share lag sumTo)
open Fld (ret_int val_int i64_xor_nat)

def vals (f : Nat → Value) (k : Nat) : List Value := (List.range k).map f
theorem vals_succ (f : Nat → Value) (k : Nat) : vals f (k + 1) = vals f k ++ [f k] := by simp [vals, List.range_succ]
theorem vals_length (f : Nat → Value) (k : Nat) : (vals f k).length = k := by simp [vals]
theorem vals_get (f : Nat → Value) (k i : Nat) (h : i < k) : (vals f k)[i]? = some (f i) := by simp [vals, h]

def u8v (f : Nat → G) (i : Nat) : Value := .int .u8 (f i).toNat

set_option maxHeartbeats 1000000 in
theorem sharesAt_nat (t n b off cap : Nat) (ns : Nat → Nat) (w : World) (ht : t < 16) (hns : ∀ i, i < n → ns i < 16) (hb : b < w.heap.size) (hn : n ≤ 8)
    (hcell : ∀ i, i < n → w.cell? ⟨b, off + i, none⟩ = some (.int .i64 (ns i))) :
    Calls Try.prog 82 #[.int .i64 t, .slice (some ⟨b, off, none⟩) n cap] w fun e w' => ∃ v, e = .returned v ∧ w'.ownsRow w.heap.size 5 1 v n (vals (u8v (share n (gx ns) (g t))) n) ∧ Below w.heap.size w w' := by
  obtain ⟨i0, hi, hz0, hz1, hz2⟩ := info_parts infoByte
  have HO : (w.alloc (Obj.cells #[] 5)).ownsRow w.heap.size 5 1 (.slice (some ⟨w.heap.size, 0, none⟩) 0 0) 0 (vals (u8v (share n (gx ns) (g t))) 0) := World.ownsRow_made w #[] 0 (Nat.le_refl _) (by decide) rfl
  go_enter Try.func82, Try.ntmps82
  go_wp2
  go_loopw [5, 6] (fun v i wr => ∃ j : Nat, j ≤ n ∧ i = .int .i64 j ∧ wr.ownsRow w.heap.size 5 1 v j (vals (u8v (share n (gx ns) (g t))) j) ∧ Below w.heap.size w wr) (fun _ i _ => n - (intOf i).toNat)
  case atStart => exact ⟨0, Nat.zero_le _, rfl, HO, (Below.refl _ _).alloc (Nat.le_refl _) _⟩
  case round =>
    obtain ⟨j, hj, rfl, hown, hnx⟩ := hrel
    clear HO
    have hsz := hnx.size
    have hcr : ∀ i, i < n → wr.cell? ⟨b, off + i, none⟩ = some (.int .i64 (ns i)) := fun i hi => (hnx.cell (p := ⟨b, off + i, none⟩) hb).trans (hcell i hi)
    clear hcell
    by_cases hlt : j < n
    · have HC := shareAt_nat t n j b off cap ns wr ht hns hlt hn hcr
      clear hcr hns
      go_wp2_with fail
      refine HC.mono ?_
      rintro e w' ⟨rfl, m, rfl⟩
      clear HC
      have hownd : (wr.drewN m).ownsRow w.heap.size 5 1 u5 j (vals (u8v (share n (gx ns) (g t))) j) := hown
      have hnxd : Below w.heap.size w (wr.drewN m) := below_drewN hnx m
      have hszd : w.heap.size ≤ (wr.drewN m).heap.size := hsz
      clear hown hnx hsz
      generalize wr.drewN m = wx at *
      go_wp2_with (at_builtin; refine wpList_append_own _ rfl _ _ 97 rfl w.heap.size 5 i0 (.int .u8 0) 1 1 Try.underlying97 hi hz0 hz1 hz2 rfl (by decide) _ _ _ rfl (hownd.alloc _) ⟨wx.heap.size, 0, none⟩ 1 1 [.int .u8 (share n (gx ns) (g t) j).toNat] rfl rfl one_news ?c2 ?c3 ?c4 ?c5 ?_)
      case c2 => intro u hu; simp at hu; subst hu; rfl
      case c3 => unfold maxLen; omega
      case c4 => omega
      case c5 => simp; omega
      · intro v' w1 hown' hgrow _
        have hb := below_append hnxd hszd hownd hgrow
        have hown2 : w1.ownsRow w.heap.size 5 1 v' (j + 1) (vals (u8v (share n (gx ns) (g t))) (j + 1)) := by rw [vals_succ]; exact hown'
        clear hownd hgrow hnxd hown'
        go_wp2
        go_roundw
        case rel => exact ⟨j + 1, by omega, by go_num, hown2, hb⟩
        case measure => simp [intOf]; omega
    · have e : j = n := by omega
      subst e
      clear hcr hns
      go_wp2
      go_ret
      exact ⟨_, rfl, hown, hnx⟩
theorem row_cells {w : World} {base e n : Nat} {v : Value} {f : Nat → Value} (h : w.ownsRow base e 1 v n (vals f n)) (hn : 0 < n) :
    ∃ b cap, v = .slice (some ⟨b, 0, none⟩) n cap ∧ base ≤ b ∧ b < w.heap.size ∧ n ≤ cap ∧ cap ≤ maxLen ∧ ∀ i, i < n → w.cell? ⟨b, i, none⟩ = some (f i) := by
  rcases h.2 with ⟨_, h0⟩ | ⟨b, cap, cur, hv, hb, hg, hnc, hcm, _⟩
  · omega
  · subst hv
    refine ⟨b, cap, rfl, hb, ?_, hnc, hcm, fun i hi => ?_⟩
    · obtain ⟨hlt, _⟩ := Array.getElem?_eq_some_iff.1 hg; exact hlt
    · rw [h.cellAt i (by omega), vals_get f n i hi]

def byteAt (s : ByteArray) (i : Nat) : G := s.data.toList.getD i 0
theorem byteAt_eq (s : ByteArray) (i : Nat) (h : i < s.size) : byteAt s i = s[i] := by
  unfold byteAt
  rw [List.getD_eq_getElem?_getD, List.getElem?_eq_getElem (by simpa using h)]; rfl

set_option maxHeartbeats 1000000 in
theorem valueAt_nat (place n b cap size : Nat) (sh : Nat → G) (s : ByteArray) (w : World) (hp : place < size) (hs16 : size ≤ 16) (hn : n ≤ 8) (hs : s.size = n * size)
    (hcell : ∀ i, i < n → w.cell? ⟨b, i, none⟩ = some (u8v sh i)) :
    Calls Try.prog 83 #[.int .i64 place, .slice (some ⟨b, 0, none⟩) n cap, .string s, .int .i64 size] w fun e w' => e = .returned (.int .u8 (sumTo n (fun i => fm (sh i) (byteAt s (i * size + place)))).toNat) ∧ ∃ m, w' = w.drewN m := by
  have HS : Hid (s.size = n * size) := hs
  clear hs
  go_enter Try.func83, Try.ntmps83
  go_wp2
  go_loopw [9, 10] (fun x i wr => ∃ k : Nat, k ≤ n ∧ i = .int .i64 k ∧ x = .int .u8 (sumTo k (fun i => fm (sh i) (byteAt s (i * size + place)))).toNat ∧ ∃ m, wr = w.drewN m) (fun _ i _ => n - (intOf i).toNat)
  case atStart => exact ⟨0, Nat.zero_le _, rfl, rfl, 0, rfl⟩
  case round =>
    obtain ⟨k, hk, rfl, rfl, hwr⟩ := hrel
    have HW : Hid (∃ m, wr = w.drewN m) := hwr
    have hcr : ∀ i, i < n → wr.cell? ⟨b, i, none⟩ = some (u8v sh i) := by
      obtain ⟨m, rfl⟩ := hwr; exact hcell
    clear hwr hcell
    by_cases hlt : k < n
    · have ck : wr.cell? ⟨b, k, none⟩ = some (.int .u8 (sh k).toNat) := hcr k hlt
      have hP : ((k : Int) * (size : Int)) = ((k * size : Nat) : Int) := by simp
      have hPl : k * size + size ≤ s.size := by rw [HS.out, ← Nat.succ_mul]; exact Nat.mul_le_mul_right _ hlt
      have hP8 : k * size ≤ 8 * 16 := Nat.mul_le_mul (by omega) hs16
      have HB : Hid (sumTo (k + 1) (fun i => fm (sh i) (byteAt s (i * size + place))) = sumTo k (fun i => fm (sh i) (byteAt s (i * size + place))) ^^^ fm (sh k) (byteAt s (k * size + place))) := rfl
      clear hcr
      generalize sumTo k (fun i => fm (sh i) (byteAt s (i * size + place))) = A at *
      generalize k * size = P at *
      have hw1 : IntKind.i64.wrap (P : Int) = (P : Int) := IntWalk.i64_in _ ⟨by omega, by omega⟩
      obtain ⟨q, hq⟩ : ∃ q, q = P + place := ⟨_, rfl⟩
      have hw2 : IntKind.i64.wrap ((P : Int) + (place : Int)) = (q : Int) := by rw [IntWalk.i64_in _ ⟨by omega, by omega⟩]; omega
      have hix : q < s.size := by omega
      have hix' : (q : Int) < (s.size : Int) := by omega
      have HY : Hid (byteAt s (P + place) = s[q]) := by unfold Hid; subst hq; exact byteAt_eq s _ hix
      clear hq hPl
      go_wp2_with fail
      go_quiet ((go_at_call 37; exact Calls.quiet_of_same (mul_g (sh k) s[q] _ _ _ rfl rfl)))
      go_wp2
      go_roundw
      case rel =>
        refine ⟨k + 1, by omega, by go_num, val_int ?_, drawn_more HW.out⟩
        rw [u8_xor_nat _ _ (UInt8.toNat_lt _) (UInt8.toNat_lt _), ← UInt8.toNat_xor, ← HY.out, ← HB.out]
      case measure => simp [intOf]; omega
    · have e : k = n := by omega
      subst e
      clear hcr
      go_wp2
      go_ret
      exact ⟨rfl, HW.out⟩
end Cod
end Go.Proofs.Ytkgnmcekeeannaa
/-
  A law on append that says where the row lies behind it: where it lay, or in a new block.
-/
namespace Go.Proofs.Ytkgnmcekeeannaa
open Go.RowKit
namespace App

theorem owns_mono {w : World} {B B' e size n : Nat} {v : Value} {xs : List Value} (h : w.ownsRow B e size v n xs) (hB : B' ≤ B) : w.ownsRow B' e size v n xs := by
  obtain ⟨hl, h⟩ := h
  refine ⟨hl, ?_⟩
  rcases h with h | ⟨g, cap, cur, h1, h2, h3⟩
  · exact .inl h
  · exact .inr ⟨g, cap, cur, h1, by omega, h3⟩
theorem grown_any {w w' : World} {row : Option Nat} (h : w.grownBy w' none) : w.grownBy w' row := ⟨h.os, h.tape, h.output, h.size, fun k hk _ => h.block k hk (by simp)⟩

/-- where it lay, or in a new block -/
def Apart (w : World) (v v' : Value) : Prop := v'.ownBlock = v.ownBlock ∨ ∀ k, v'.ownBlock = some k → w.heap.size ≤ k

theorem wpList_append_apart {P : Program} (w : World) {ops : Array Oper} {rest : List Oper} {o : Oper} {a : Act} {Q : Exit → Act → World → Prop} (hgd : o.guard = none) (s x : Operand) (t : TypeId)
    (ho : o.op = .call { callee := .builtin .append, args := #[s, x], argTypes := #[t, t] })
    (base : Nat) (e : TypeId) (i : TypeInfo) (z : Value) (size bytes : Nat) (ht : P.underlying t = some (.slice e)) (hi : P.info? e = some i) (hz : i.zero = some z)
    (hsize : i.size = size) (hby : i.bytes = bytes) (hzs : z.cells.size = size) (hsz : 0 < size)
    (v : Value) (n : Nat) (xs : List Value) (hs : a.eval s = v) (hown : w.ownsRow base e size v n xs)
    (ad : Addr) (m c : Nat) (news : List Value) (hx : a.eval x = .slice (some ad) m c) (hl : news.length = m * size) (hnews : ∀ j u, news[j]? = some u → w.cell? (ad.add j) = some u) (h1 : ∀ u ∈ news, u.oneCell' = true)
    (h63 : n + m ≤ maxLen) (hbytes : (n + m) * bytes ≤ 140737488355328) (hbase : base ≤ w.heap.size)
    (h : ∀ v' w', w'.ownsRow base e size v' (n + m) (xs ++ news) → w.grownBy w' v.ownBlock → Apart w v v' → wpList P ops Q rest (a.put o.dst v') w') (hm : 0 < m) : wpList P ops Q (o :: rest) a w := by
  rcases hown.2 with ⟨rfl, rfl⟩ | ⟨g, cap, cur, rfl, hbg, hg, hnc, hcm, hcs, htake⟩
  · refine wpList_append_grows w hgd s x t ho e i z size bytes ht hi hz hsize hby hzs hsz none 0 0 xs hs (fun _ => ⟨rfl, rfl⟩) hown.1 (fun b hb => by cases hb) ad m c news hx hl hnews h1 (by omega) h63 hbytes (fun v' w' ho' hg' => ?_)
    exact h v' w' (owns_mono ho' hbase) (grown_any hg') (.inr (fun k hk => (ho'.lt k hk).1))
  · by_cases hroom : n + m ≤ cap
    · exact wpList_append_fits w hgd s x t ho base e i size ht hi hsize g n cap xs hs hown ad m c news hx hl hnews h1 hroom (fun w' ho' hg' => h _ w' ho' hg' (.inl rfl))
    · refine wpList_append_grows w hgd s x t ho e i z size bytes ht hi hz hsize hby hzs hsz (some ⟨g, 0, none⟩) n cap xs hs (fun hb => by cases hb) hown.1 (fun b hb => by cases hb; exact hown.cells rfl) ad m c news hx hl hnews h1 (by omega) h63 hbytes (fun v' w' ho' hg' => ?_)
      exact h v' w' (owns_mono ho' hbase) (grown_any hg') (.inr (fun k hk => (ho'.lt k hk).1))

/-- the cells of another row stay -/
theorem cells_stay {w w1 : World} {v : Value} {b : Nat} {x y : Option Value} {i : Nat} {o : Obj} (hg : (w.alloc o).grownBy w1 v.ownBlock) (hb : b < w.heap.size) (hne : v.ownBlock ≠ some b) (h : w.cell? ⟨b, i, none⟩ = x) (e : x = y) : w1.cell? ⟨b, i, none⟩ = y := by
  have hbl : w1.heap[b]? = w.heap[b]? := by
    rw [hg.block b (by simp; omega) (fun e => hne e.symm)]
    exact Below.heap_alloc w o b hb
  rw [← e, ← h]
  exact World.cell?_of_block (a := ⟨b, i, none⟩) hbl
theorem apart_ne {w : World} {v v' : Value} {o : Obj} {b : Nat} (h : Apart (w.alloc o) v v') (hb : b < w.heap.size) (hne : v.ownBlock ≠ some b) : v'.ownBlock ≠ some b := by
  rcases h with h | h
  · rw [h]; exact hne
  · intro e
    have := h b e
    simp at this
    omega
end App
end Go.Proofs.Ytkgnmcekeeannaa
namespace Go.Proofs.Ytkgnmcekeeannaa
open Go.RowKit
namespace Cod
open Pol (G fm fi prodBut share lag sumTo)
open Fld (ret_int val_int i64_xor_nat)

def bv (x : G) : Value := .int .u8 x.toNat
def flat (size : Nat) (f : Nat → Nat → G) : Nat → List G
  | 0 => []
  | c + 1 => flat size f c ++ (List.range size).map (f c)
theorem flat_length (size : Nat) (f : Nat → Nat → G) : ∀ c, (flat size f c).length = c * size
  | 0 => by simp [flat]
  | c + 1 => by simp only [flat, List.length_append, flat_length size f c, List.length_map, List.length_range, Nat.succ_mul]
def part (size : Nat) (f : Nat → Nat → G) (c p : Nat) : List G := flat size f c ++ (List.range p).map (f c)
theorem part_length (size : Nat) (f : Nat → Nat → G) (c p : Nat) : (part size f c p).length = c * size + p := by simp [part, flat_length]
theorem part_zero (size : Nat) (f : Nat → Nat → G) (c : Nat) : part size f c 0 = flat size f c := by simp [part]
theorem part_size (size : Nat) (f : Nat → Nat → G) (c : Nat) : part size f c size = flat size f (c + 1) := rfl
theorem part_succ (size : Nat) (f : Nat → Nat → G) (c p : Nat) : part size f c (p + 1) = part size f c p ++ [f c p] := by simp [part, List.range_succ]

theorem conv_own {w : World} {base n : Nat} {v : Value} (l : List G) (h : w.ownsRow base 5 1 v n (l.map bv)) : (convert 97 9 v).run Try.prog w = .ok (.string ⟨l.toArray⟩) w := by
  have hn : l.length = n := by have := h.1; simpa using this
  rcases h.2 with ⟨rfl, rfl⟩ | ⟨b, cap, cur, rfl, hb, hg, hnc, hcm, _⟩
  · have : l = [] := List.length_eq_zero_iff.1 hn
    subst this
    rw [run_convert_bytes_string w 97 9 5 none 0 0 Try.underlying97 Try.underlying5 Try.underlying9]; rfl
  · subst hn
    refine run_convert_bytes_back w 97 9 5 ⟨b, 0, none⟩ cap l Try.underlying97 Try.underlying5 Try.underlying9 (fun j hj => ?_)
    exact h.cells (g := b) rfl j _ (by simp [bv, hj])

def symF (n : Nat) (ns : Nat → Nat) (s : ByteArray) (size first c p : Nat) : G := lag n (gx ns) (fun i => byteAt s (i * size + p)) (g (first + c))

set_option maxHeartbeats 2000000 in
theorem symbolsFrom_nat (first count n b off cap size : Nat) (ns : Nat → Nat) (s : ByteArray) (w : World) (hfc : first + count ≤ 16) (hns : ∀ i, i < n → ns i < 16) (hb : b < w.heap.size) (hn : n ≤ 8) (hn0 : 0 < n)
    (hs1 : 1 ≤ size) (hs16 : size ≤ 16) (hs : s.size = n * size) (hcell : ∀ i, i < n → w.cell? ⟨b, off + i, none⟩ = some (.int .i64 (ns i))) :
    Calls Try.prog 65 #[.int .i64 first, .int .i64 count, .slice (some ⟨b, off, none⟩) n cap, .string s, .int .i64 size] w
      fun e w' => e = .returned (.string ⟨(flat size (symF n ns s size first) count).toArray⟩) ∧ Below w.heap.size w w' := by
  obtain ⟨i0, hi, hz0, hz1, hz2⟩ := info_parts infoByte
  have HO : (w.alloc (Obj.cells #[] 5)).ownsRow w.heap.size 5 1 (.slice (some ⟨w.heap.size, 0, none⟩) 0 0) (0 * size) ((flat size (symF n ns s size first) 0).map bv) := by
    rw [Nat.zero_mul]; exact World.ownsRow_made w #[] 0 (Nat.le_refl _) (by decide) rfl
  go_enter Try.func65, Try.ntmps65
  go_wp2
  go_loopw [11, 12] (fun v t wr => ∃ c : Nat, c ≤ count ∧ t = .int .i64 (first + c : Nat) ∧ wr.ownsRow w.heap.size 5 1 v (c * size) ((flat size (symF n ns s size first) c).map bv) ∧ Below w.heap.size w wr) (fun _ t _ => first + count - (intOf t).toNat)
  case atStart => exact ⟨0, Nat.zero_le _, rfl, HO, (Below.refl _ _).alloc (Nat.le_refl _) _⟩
  case round =>
    obtain ⟨c, hc, rfl, hown, hnx⟩ := hrel
    clear HO
    have hsz := hnx.size
    by_cases hlt : c < count
    · have hcr : ∀ i, i < n → wr.cell? ⟨b, off + i, none⟩ = some (.int .i64 (ns i)) := fun i hi => (hnx.cell (p := ⟨b, off + i, none⟩) hb).trans (hcell i hi)
      have HC := sharesAt_nat (first + c) n b off cap ns wr (by omega) hns (by omega) hn hcr
      clear hcr hcell hns
      obtain ⟨T, hT⟩ : ∃ T, T = first + c := ⟨_, rfl⟩
      rw [← hT] at HC
      rw [← hT]
      have hTl : (T : Int) < (first : Int) + (count : Int) := by omega
      have hTf : first ≤ T := by omega
      have HT : Hid (T = first + c) := hT
      clear hT
      go_wp2_with fail
      refine HC.mono ?_
      rintro e w' ⟨v, rfl, hsv, hbel⟩
      clear HC
      obtain ⟨sb, scap, rfl, hsb1, hsb2, _, _, hsc⟩ := row_cells hsv hn0
      have hown1 : w'.ownsRow w.heap.size 5 1 u11 (c * size) ((part size (symF n ns s size first) c 0).map bv) := by
        rw [part_zero]
        exact hown.kept (row := none) ⟨hbel.os, hbel.tape, hbel.output, hbel.size, fun k hk _ => hbel.block k hk⟩ (by cases u11.ownBlock <;> simp)
      have hne : u11.ownBlock ≠ some sb := fun e => by have := (hown.lt sb e).2; omega
      have hb1 : Below w.heap.size w w' := hnx.trans (hbel.mono hsz)
      have hsz1 : w.heap.size ≤ w'.heap.size := hb1.size
      clear hown hnx hsz hbel hsv
      go_wp2
      go_loopw [11, 14] (fun v i wr => ∃ p : Nat, p ≤ size ∧ i = .int .i64 p ∧ wr.ownsRow w.heap.size 5 1 v (c * size + p) ((part size (symF n ns s size first) c p).map bv) ∧ v.ownBlock ≠ some sb ∧ sb < wr.heap.size ∧ (∀ i, i < n → wr.cell? ⟨sb, i, none⟩ = some (u8v (share n (gx ns) (g T)) i)) ∧ Below w.heap.size w wr) (fun _ i _ => size - (intOf i).toNat)
      case atStart => exact ⟨0, Nat.zero_le _, rfl, hown1, hne, hsb2, hsc, hb1⟩
      case round =>
        obtain ⟨p, hp, rfl, hown, hne, hsb2, hsc, hnx⟩ := hrel
        clear hown1 hb1
        have hsz := hnx.size
        by_cases hlp : p < size
        · have HV := valueAt_nat p n sb scap size (share n (gx ns) (g T)) s wr hlp hs16 hn hs hsc
          have HF : Hid (symF n ns s size first c p = sumTo n (fun i => fm (share n (gx ns) (g T) i) (byteAt s (i * size + p)))) := by
            unfold Hid; rw [HT.out]; rfl
          have HSC : Hid (∀ i, i < n → wr.cell? ⟨sb, i, none⟩ = some (u8v (share n (gx ns) (g T)) i)) := hsc
          have HSS : Hid (s.size = n * size) := hs
          clear hsc hs
          go_wp2_with fail
          refine HV.mono ?_
          rintro e w2 ⟨rfl, m, rfl⟩
          clear HV
          have hownd : (wr.drewN m).ownsRow w.heap.size 5 1 u11 (c * size + p) ((part size (symF n ns s size first) c p).map bv) := hown
          have hnxd : Below w.heap.size w (wr.drewN m) := below_drewN hnx m
          have hszd : w.heap.size ≤ (wr.drewN m).heap.size := hsz
          have hsbd : sb < (wr.drewN m).heap.size := hsb2
          have HSD : Hid (∀ i, i < n → (wr.drewN m).cell? ⟨sb, i, none⟩ = some (u8v (share n (gx ns) (g T)) i)) := HSC.out
          clear hown hnx hsz hsb2 HSC
          generalize wr.drewN m = wx at *
          have HBV : Hid (bv (symF n ns s size first c p) = .int .u8 (sumTo n (fun i => fm (share n (gx ns) (g T) i) (byteAt s (i * size + p)))).toNat) := by unfold Hid bv; rw [HF.out]
          generalize sumTo n (fun i => fm (share n (gx ns) (g T) i) (byteAt s (i * size + p))) = V at *
          have hcs : c * size ≤ 16 * 16 := Nat.mul_le_mul (by omega) hs16
          go_wp2_with (at_builtin; refine App.wpList_append_apart _ rfl _ _ 97 rfl w.heap.size 5 i0 (.int .u8 0) 1 1 Try.underlying97 hi hz0 hz1 hz2 rfl (by decide) _ _ _ rfl (hownd.alloc _) ⟨wx.heap.size, 0, none⟩ 1 1 [.int .u8 V.toNat] rfl rfl one_news ?c2 ?c3 ?c4 ?c5 ?_ (by decide))
          case c2 => intro u hu; simp at hu; subst hu; rfl
          case c3 => unfold maxLen; omega
          case c4 => omega
          case c5 => simp; omega
          · intro v' w1 hown' hgrow hap
            have hb2 := below_append hnxd hszd hownd hgrow
            have hown2 : w1.ownsRow w.heap.size 5 1 v' (c * size + (p + 1)) ((part size (symF n ns s size first) c (p + 1)).map bv) := by
              rw [part_succ, List.map_append, List.map_cons, List.map_nil, HBV.out]; exact hown'
            have hne2 := App.apart_ne hap hsbd hne
            have hsb3 : sb < w1.heap.size := Nat.lt_of_lt_of_le hsbd (by have := hgrow.size; simp at this; omega)
            have HS3 : Hid (∀ i, i < n → w1.cell? ⟨sb, i, none⟩ = some (u8v (share n (gx ns) (g T)) i)) := fun i hi => App.cells_stay hgrow hsbd hne (HSD.out i hi) rfl
            clear hownd hgrow hnxd hown' hap hne HSD hszd
            go_wp2
            go_roundw
            case rel => exact ⟨p + 1, by omega, by go_num, hown2, hne2, hsb3, HS3.out, hb2⟩
            case measure => simp [intOf]; omega
        · have e : p = size := by omega
          subst e
          have hown2 : wr.ownsRow w.heap.size 5 1 u11 ((c + 1) * p) ((flat p (symF n ns s p first) (c + 1)).map bv) := by
            rw [← part_size, Nat.succ_mul]; exact hown
          clear hown hsc hs
          go_wp2
          go_roundw
          case rel => exact ⟨c + 1, by omega, by have := HT.out; go_num, hown2, hnx⟩
          case measure => have := HT.out; simp [intOf]; omega
    · have e : c = count := by omega
      subst e
      have hcv := conv_own _ hown
      clear hcell hns hs
      go_wp2
      go_ret
      exact ⟨rfl, hnx⟩
end Cod
end Go.Proofs.Ytkgnmcekeeannaa
