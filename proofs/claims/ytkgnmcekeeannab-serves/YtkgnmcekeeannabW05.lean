import Derived.Test.YtkgnmcekeeannabW04
import Derived.WalkKit
/-
  Bringing the rows 1, x, x^2, .. and the value to steps: what comes out are the factors of the polynomial that has these values.
-/
namespace Go.Proofs.Ytkgnmcekeeannab
namespace Pol

def pw (x : G) : Nat → G
  | 0 => 1
  | n + 1 => fm (pw x n) x
theorem eval_snoc (x d : G) : ∀ cs : List G, eval x (cs ++ [d]) = eval x cs ^^^ fm (pw x cs.length) d
  | [] => by simp [eval, pw, zero_fm, one_fm]
  | c :: cs => by
    simp only [List.cons_append, eval, eval_snoc x d cs, List.length_cons, pw, fm_xor_left]
    rw [fm_assoc, fm_comm d x, ← fm_assoc, xa, xc _ c, ← xa]
def coef (k : Nat) (q : Nat → G) : List G := (List.range k).map q
theorem coef_length (k : Nat) (q : Nat → G) : (coef k q).length = k := by simp [coef]
theorem eval_coef (x : G) (q : Nat → G) : ∀ k, eval x (coef k q) = sumTo k (fun c => fm (pw x c) (q c))
  | 0 => rfl
  | k + 1 => by
    have h : coef (k + 1) q = coef k q ++ [q k] := by simp [coef, List.range_succ]
    rw [h, eval_snoc, eval_coef x q k, coef_length]
    rfl

def dot (n : Nat) (r q : Nat → G) : G := sumTo n (fun c => fm (r c) (q c))
theorem dot_scale (n : Nat) (a : G) (r q : Nat → G) : dot n (fun c => fm (r c) a) q = fm a (dot n r q) := by
  unfold dot
  rw [← sumTo_scale]
  exact sumTo_congr (fun c _ => by show fm (fm (r c) a) (q c) = fm a (fm (r c) (q c)); rw [fm_comm (r c) a, fm_assoc])
theorem dot_add (n : Nat) (r s q : Nat → G) : dot n (fun c => r c ^^^ s c) q = dot n r q ^^^ dot n s q := by
  unfold dot
  rw [← sumTo_add]
  exact sumTo_congr (fun c _ => fm_xor_left _ _ _)

def start (k : Nat) (xs vs : Nat → G) (i c : Nat) : G := if c < k then pw (xs i) c else vs i
def gstep (j : Nat) (M : Nat → Nat → G) (i c : Nat) : G := if i = j then fm (M j c) (fi (M j j)) else M i c ^^^ fm (M i j) (fm (M j c) (fi (M j j)))
def gauss (k : Nat) (xs vs : Nat → G) : Nat → Nat → Nat → G
  | 0 => start k xs vs
  | j + 1 => gstep j (gauss k xs vs j)

theorem dot_start_zero {k : Nat} {xs vs q : Nat → G} (i : Nat) (hq : q k = 0) (h : dot (k + 1) (start k xs vs i) q = 0) : eval (xs i) (coef k q) = 0 := by
  rw [eval_coef]
  unfold dot at h
  simp only [sumTo, hq, fm_zero, xz] at h
  rw [← h]
  exact sumTo_congr (fun c hc => by simp [start, hc])
theorem dot_start_one {k : Nat} {xs vs q : Nat → G} (i : Nat) (hq : q k = 1) (h : dot (k + 1) (start k xs vs i) q = 0) : eval (xs i) (coef k q) = vs i := by
  rw [eval_coef]
  unfold dot at h
  simp only [sumTo, hq, fm_one] at h
  have e : start k xs vs i k = vs i := by simp [start]
  rw [e] at h
  rw [← eq_of_xor h]
  exact sumTo_congr (fun c hc => by simp [start, hc])

structure Steps (k : Nat) (xs vs : Nat → G) (j : Nat) : Prop where
  unit : ∀ i c, i < k → c < j → gauss k xs vs j i c = if i = c then 1 else 0
  back : ∀ n, j ≤ n → n ≤ k → ∀ q, (∀ i, i < n → dot (k + 1) (gauss k xs vs j i) q = 0) → ∀ i, i < n → dot (k + 1) (start k xs vs i) q = 0

theorem pivot {k : Nat} {xs vs : Nat → G} (ha : Apart k xs) {j : Nat} (h : Steps k xs vs j) (hj : j < k) : gauss k xs vs j j j ≠ 0 := by
  intro e
  let q : Nat → G := fun c => if c < j then gauss k xs vs j c j else if c = j then 1 else 0
  have hq : ∀ i, i < j + 1 → dot (k + 1) (gauss k xs vs j i) q = 0 := by
    intro i hi
    unfold dot
    by_cases hij : i = j
    · subst hij
      refine sumTo_zero (fun c _ => ?_)
      by_cases h1 : c < i
      · rw [h.unit i c hj h1, if_neg (by omega), zero_fm]
      · by_cases h2 : c = i
        · rw [h2, e, zero_fm]
        · simp [q, h1, h2, fm_zero]
    · have hi' : i < j := by omega
      have e1 : sumTo (k + 1) (fun c => fm (gauss k xs vs j i c) (q c)) = sumTo (k + 1) (fun c => (if c = i then gauss k xs vs j i j else 0) ^^^ (if c = j then gauss k xs vs j i j else 0)) := by
        refine sumTo_congr (fun c _ => ?_)
        by_cases h1 : c < j
        · rw [h.unit i c (by omega) h1, if_neg (show ¬ c = j by omega), xz]
          by_cases h3 : i = c
          · subst h3; simp [q, h1, one_fm]
          · rw [if_neg h3, zero_fm, if_neg (fun e => h3 e.symm)]
        · by_cases h2 : c = j
          · subst h2; simp [q, fm_one, show ¬ c = i by omega]
          · simp [q, h1, h2, fm_zero, show ¬ c = i by omega]
      rw [e1, sumTo_add, sumTo_one i (by omega) (fun c _ hne => by simp [hne]), sumTo_one j (by omega) (fun c _ hne => by simp [hne])]
      simp
  have hk := h.back (j + 1) (by omega) (by omega) q hq
  have hqk : q k = 0 := by simp [q, show ¬ k < j by omega, show ¬ k = j by omega]
  -- the polynomial with these factors has the roots xs 0 .. xs j
  have hz : ∀ c ∈ coef (j + 1) q, c = 0 := by
    refine roots_zero (pts (j + 1) xs) (coef (j + 1) q) (by rw [coef_length, pts_length]; omega) (pts_nodup (fun a b h1 h2 => ha a b (by omega) (by omega))) (fun x hx => ?_)
    simp only [pts, List.mem_map, List.mem_range] at hx
    obtain ⟨i, hi, rfl⟩ := hx
    have e1 := dot_start_zero i hqk (hk i hi)
    rw [eval_coef] at e1 ⊢
    rw [← e1]
    have tail : ∀ m, j + 1 ≤ m → sumTo m (fun c => fm (pw (xs i) c) (q c)) = sumTo (j + 1) (fun c => fm (pw (xs i) c) (q c)) := by
      intro m hm
      induction m with
      | zero => omega
      | succ m ih =>
        by_cases e : m = j
        · rw [e]
        · rw [show sumTo (m + 1) (fun c => fm (pw (xs i) c) (q c)) = sumTo m (fun c => fm (pw (xs i) c) (q c)) ^^^ fm (pw (xs i) m) (q m) from rfl, ih (by omega),
            show q m = 0 from by simp [q, show ¬ m < j by omega, e], fm_zero, xz]
    exact (tail k (by omega)).symm
  have h1 : q j = 0 := hz (q j) (by simp only [coef, List.mem_map, List.mem_range]; exact ⟨j, by omega, rfl⟩)
  simp [q] at h1

theorem steps {k : Nat} {xs vs : Nat → G} (ha : Apart k xs) : ∀ j, j ≤ k → Steps k xs vs j
  | 0, _ => ⟨fun i c _ hc => by omega, fun n _ _ q h => h⟩
  | j + 1, hj => by
    have ih := steps ha j (by omega) (vs := vs)
    have hp := pivot ha ih (by omega)
    refine ⟨fun i c hi hc => ?_, fun n hn hk q hq => ?_⟩
    · show gstep j (gauss k xs vs j) i c = _
      unfold gstep
      by_cases hij : i = j
      · subst hij
        rw [if_pos rfl]
        by_cases h2 : c = i
        · rw [h2, fm_fi _ hp, if_pos rfl]
        · rw [ih.unit i c hi (by omega), if_neg (fun e => h2 e.symm), zero_fm]
      · rw [if_neg hij]
        by_cases h2 : c = j
        · rw [h2, fm_fi _ hp, fm_one, xx, if_neg hij]
        · rw [ih.unit j c (by omega) (by omega), if_neg (fun e => h2 e.symm), zero_fm, fm_zero, xz, ih.unit i c hi (by omega)]
    · refine ih.back n (by omega) hk q (fun i hi => ?_)
      have hjq : dot (k + 1) (gauss k xs vs j j) q = 0 := by
        have e := hq j (by omega)
        have e1 : dot (k + 1) (gauss k xs vs (j + 1) j) q = dot (k + 1) (fun c => fm (gauss k xs vs j j c) (fi (gauss k xs vs j j j))) q :=
          sumTo_congr (fun c _ => by show fm (gstep j (gauss k xs vs j) j c) (q c) = _; simp [gstep])
        rw [e1, dot_scale] at e
        exact fm_ne _ _ (fi_ne _ hp) e
      by_cases hij : i = j
      · rw [hij]; exact hjq
      · have e := hq i hi
        have e1 : dot (k + 1) (gauss k xs vs (j + 1) i) q = dot (k + 1) (fun c => gauss k xs vs j i c ^^^ fm (gauss k xs vs j j c) (fm (fi (gauss k xs vs j j j)) (gauss k xs vs j i j))) q :=
          sumTo_congr (fun c _ => by
            show fm (gstep j (gauss k xs vs j) i c) (q c) = _
            simp only [gstep, if_neg hij]
            rw [fm_comm (gauss k xs vs j i j), fm_assoc])
        rw [e1, dot_add, dot_scale, hjq, fm_zero, xz] at e
        exact e

def factor (k : Nat) (xs vs : Nat → G) (i : Nat) : G := gauss k xs vs k i k
theorem factor_at {k : Nat} {xs vs : Nat → G} (ha : Apart k xs) (i : Nat) (hi : i < k) : eval (xs i) (coef k (factor k xs vs)) = vs i := by
  have h := steps ha k (Nat.le_refl _) (vs := vs)
  let q : Nat → G := fun c => if c < k then factor k xs vs c else 1
  have hq : q k = 1 := by simp [q]
  have e0 : coef k (factor k xs vs) = coef k q := by
    unfold coef
    exact List.map_congr_left (fun c hc => by simp [q, List.mem_range.1 hc])
  rw [e0]
  refine dot_start_one i hq (h.back k (Nat.le_refl _) (Nat.le_refl _) q (fun i hi => ?_) i hi)
  unfold dot
  rw [show sumTo (k + 1) (fun c => fm (gauss k xs vs k i c) (q c)) = sumTo k (fun c => fm (gauss k xs vs k i c) (q c)) ^^^ fm (gauss k xs vs k i k) (q k) from rfl,
    sumTo_one i hi (fun c hc hne => by rw [h.unit i c hi hc, if_neg (fun e => hne e.symm), zero_fm]), h.unit i i hi hi, if_pos rfl, one_fm, hq, fm_one]
  simp [q, hi, factor]
/-- the two ways tell the same -/
theorem factor_lag {k : Nat} {xs vs : Nat → G} (ha : Apart k xs) (t : G) : eval t (coef k (factor k xs vs)) = lag k xs vs t := by
  have h := lag_unique ha (f := fun x => eval x (coef k (factor k xs vs))) ⟨coef k (factor k xs vs), by rw [coef_length]; omega, fun _ => rfl⟩ t
  rw [← h]
  exact lag_congr (fun i hi => factor_at ha i hi) t
end Pol
end Go.Proofs.Ytkgnmcekeeannab
namespace Go.Proofs.Ytkgnmcekeeannab
open Go.RowKit
namespace Cod

theorem infoInt : (Try.prog.info? 3).map (fun i => (i.zero, i.size, i.bytes)) = some (some (.int .i64 0), 1, 8) := by kernel_rfl
theorem infoByte : (Try.prog.info? 5).map (fun i => (i.zero, i.size, i.bytes)) = some (some (.int .u8 0), 1, 1) := by kernel_rfl

theorem below_append {B e size n : Nat} {v : Value} {xs : List Value} {w wr w1 : World} {o : Obj} (h : Below B w wr) (hB : B ≤ wr.heap.size) (hown : wr.ownsRow B e size v n xs) (hg : (wr.alloc o).grownBy w1 v.ownBlock) : Below B w w1 :=
  (h.alloc hB o).grown hg (by simp; omega) (fun k hk => (hown.lt k hk).1)
theorem one_news {w : World} {x : Value} {t : TypeId} : ∀ j u, ([x] : List Value)[j]? = some u → (w.alloc (.cells #[x] t)).cell? ((⟨w.heap.size, 0, none⟩ : Addr).add j) = some u := by
  intro j u hj
  match j, hj with
  | 0, hj => simp at hj; subst hj; simp [Addr.add]

def ints (k : Nat) : List Value := (List.range k).map (fun i : Nat => Value.int .i64 i)
theorem ints_succ (k : Nat) : ints (k + 1) = ints k ++ [Value.int .i64 (k : Nat)] := by simp [ints, List.range_succ]

set_option maxHeartbeats 400000 in
theorem numbersBelow_nat (k : Nat) (w : World) (hk : k ≤ 8) :
    Calls Try.prog 86 #[.int .i64 k] w fun e w' => ∃ v, e = .returned v ∧ w'.ownsRow w.heap.size 3 1 v k (ints k) ∧ Below w.heap.size w w' := by
  obtain ⟨i0, hi, hz0, hz1, hz2⟩ := info_parts infoInt
  have h0 : (w.alloc (Obj.cells #[] 3)).ownsRow w.heap.size 3 1 (.slice (some ⟨w.heap.size, 0, none⟩) 0 0) 0 (ints 0) := World.ownsRow_made w #[] 0 (Nat.le_refl _) (by decide) rfl
  have HO := h0
  clear h0
  go_enter Try.func86, Try.ntmps86
  go_wp2
  go_loopw [3, 4] (fun v i wr => ∃ j : Nat, j ≤ k ∧ i = .int .i64 j ∧ wr.ownsRow w.heap.size 3 1 v j (ints j) ∧ Below w.heap.size w wr) (fun _ i _ => k - (intOf i).toNat)
  case atStart => exact ⟨0, Nat.zero_le _, rfl, HO, (Below.refl _ _).alloc (Nat.le_refl _) _⟩
  case round =>
    obtain ⟨j, hj, rfl, hown, hnx⟩ := hrel
    have hsz := hnx.size
    by_cases hlt : j < k
    · go_wp2_with (at_builtin; refine wpList_append_own _ rfl _ _ 54 rfl w.heap.size 3 i0 (.int .i64 0) 1 8 Try.underlying54 hi hz0 hz1 hz2 rfl (by decide) _ _ _ rfl (hown.alloc _) ⟨wr.heap.size, 0, none⟩ 1 1 [.int .i64 (j : Nat)] rfl rfl one_news ?c2 ?c3 ?c4 ?c5 ?_)
      case c2 => intro u hu; simp at hu; subst hu; rfl
      case c3 => unfold maxLen; omega
      case c4 => omega
      case c5 => simp; omega
      · intro v' w1 hown' hgrow _
        have hb := below_append hnx hsz hown hgrow
        rw [← ints_succ] at hown'
        clear hown hgrow hnx
        go_wp2
        go_roundw
        case rel => exact ⟨j + 1, by omega, by go_num, hown', hb⟩
        case measure => simp [intOf]; omega
    · have e : j = k := by omega
      subst e
      go_wp2
      go_ret
      exact ⟨_, rfl, hown, hnx⟩
end Cod
end Go.Proofs.Ytkgnmcekeeannab
namespace Go.Proofs.Ytkgnmcekeeannab
open Go.RowKit
namespace Cod
open Pol (G fm fi prodBut share lag)
open Fld (ret_int val_int i64_xor_nat)

def g (n : Nat) : G := UInt8.ofNat n
def gx (ns : Nat → Nat) (i : Nat) : G := g (ns i)
theorem toNat_g {n : Nat} (h : n < 256) : (g n).toNat = n := UInt8.toNat_ofNat_of_lt' h
theorem g_xor {m n : Nat} (hm : m < 256) (hn : n < 256) : (g m ^^^ g n).toNat = m ^^^ n := by rw [UInt8.toNat_xor, toNat_g hm, toNat_g hn]

/-- the product, its arguments known by the field's numbers -/
theorem mul_g (x y : G) (a b : Int) (w : World) (ha : a = x.toNat) (hb : b = y.toNat) :
    Calls Try.prog 90 #[.int .u8 a, .int .u8 b] w fun e w' => e = .returned (.int .u8 (fm x y).toNat) ∧ w' = w := by
  subst ha hb
  rw [Pol.toNat_fm]
  exact Fld.mul_nat _ _ w (UInt8.toNat_lt x) (UInt8.toNat_lt y)
theorem inv_g (x : G) (w : World) :
    Calls Try.prog 91 #[.int .u8 x.toNat] w fun e w' => e = .returned (.int .u8 (fi x).toNat) ∧ w' = w := by
  rw [Pol.toNat_fi]
  exact Fld.inverse_nat _ w (UInt8.toNat_lt x)

theorem drawn_more {w wr : World} {q : Nat} (h : ∃ m, wr = w.drewN m) : ∃ m, wr.drewN q = w.drewN m := by
  obtain ⟨m, rfl⟩ := h
  exact ⟨m + q, World.drewN_drewN ..⟩

set_option maxHeartbeats 1000000 in
theorem shareAt_nat (t n own b off cap : Nat) (ns : Nat → Nat) (w : World) (ht : t < 16) (hns : ∀ i, i < n → ns i < 16) (hown : own < n) (hn : n ≤ 8)
    (hcell : ∀ i, i < n → w.cell? ⟨b, off + i, none⟩ = some (.int .i64 (ns i))) :
    Calls Try.prog 89 #[.int .i64 t, .slice (some ⟨b, off, none⟩) n cap, .int .i64 own] w fun e w' => e = .returned (.int .u8 (share n (gx ns) (g t) own).toNat) ∧ ∃ m, w' = w.drewN m := by
  have co := hcell own hown
  have lo := hns own hown
  go_enter Try.func89, Try.ntmps89
  go_wp2
  go_loopw [7, 8, 9] (fun x y i wr => ∃ k : Nat, k ≤ n ∧ i = .int .i64 k ∧ x = .int .u8 (prodBut own k (fun j => g t ^^^ gx ns j)).toNat ∧ y = .int .u8 (prodBut own k (fun j => gx ns own ^^^ gx ns j)).toNat ∧ ∃ m, wr = w.drewN m) (fun _ _ i _ => n - (intOf i).toNat)
  case atStart => exact ⟨0, Nat.zero_le _, rfl, rfl, rfl, 0, rfl⟩
  case round =>
    obtain ⟨k, hk, rfl, rfl, rfl, hwr⟩ := hrel
    have HW : Hid (∃ m, wr = w.drewN m) := hwr
    have hcr : ∀ i, i < n → wr.cell? ⟨b, off + i, none⟩ = some (.int .i64 (ns i)) := by
      obtain ⟨m, rfl⟩ := hwr; exact hcell
    clear hwr hcell co
    by_cases hlt : k < n
    · have ck := hcr k hlt
      have co := hcr own hown
      have lk := hns k hlt
      by_cases hko : k = own
      · have tst : ((k : Int) != (own : Int)) = false := by simp; omega
        have HA : Hid (prodBut own (k + 1) (fun j => g t ^^^ gx ns j) = prodBut own k (fun j => g t ^^^ gx ns j)) := by simp [prodBut, hko, Hid]
        have HB : Hid (prodBut own (k + 1) (fun j => gx ns own ^^^ gx ns j) = prodBut own k (fun j => gx ns own ^^^ gx ns j)) := by simp [prodBut, hko, Hid]
        clear hko hcr hns co lo ck lk
        go_wp2
        go_roundw
        case rel => exact ⟨k + 1, by omega, by go_num, by rw [HA.out], by rw [HB.out], HW.out⟩
        case measure => simp [intOf]; omega
      · have tst : ((k : Int) != (own : Int)) = true := by simp; omega
        have HA : Hid (prodBut own (k + 1) (fun j => g t ^^^ gx ns j) = fm (prodBut own k (fun j => g t ^^^ gx ns j)) (g t ^^^ gx ns k)) := by simp [prodBut, hko, Hid]
        have HB : Hid (prodBut own (k + 1) (fun j => gx ns own ^^^ gx ns j) = fm (prodBut own k (fun j => gx ns own ^^^ gx ns j)) (gx ns own ^^^ gx ns k)) := by simp [prodBut, hko, Hid]
        have x1 := i64_xor_nat t (ns k) (by omega) (by omega)
        have x2 := i64_xor_nat (ns own) (ns k) (by omega) (by omega)
        have l1 : t ^^^ ns k < 16 := Nat.xor_lt_two_pow (n := 4) ht lk
        have l2 : ns own ^^^ ns k < 16 := Nat.xor_lt_two_pow (n := 4) lo lk
        have G1 : Hid ((g t ^^^ gx ns k).toNat = t ^^^ ns k) := g_xor (by omega) (by omega)
        have G2 : Hid ((gx ns own ^^^ gx ns k).toNat = ns own ^^^ ns k) := g_xor (by omega) (by omega)
        clear hko hcr hns
        generalize prodBut own k (fun j => g t ^^^ gx ns j) = A at *
        generalize prodBut own k (fun j => gx ns own ^^^ gx ns j) = B at *
        go_wp2_with fail
        refine (mul_g A (g t ^^^ gx ns k) _ _ _ rfl (by rw [G1.out])).mono ?_
        rintro e w' ⟨rfl, rfl⟩
        go_wp2_with fail
        go_quiet ((go_at_call 90; exact Calls.quiet_of_same (mul_g B (gx ns own ^^^ gx ns k) _ _ _ rfl (by rw [G2.out]; exact IntWalk.u8_in _ ⟨by omega, by omega⟩))))
        go_wp2
        go_roundw
        case rel => exact ⟨k + 1, by omega, by go_num, by rw [HA.out], by rw [HB.out], drawn_more HW.out⟩
        case measure => simp [intOf]; omega
    · have e : k = n := by omega
      subst e
      clear hcr hns
      go_wp2_with fail
      refine (inv_g _ _).mono ?_
      rintro e w' ⟨rfl, rfl⟩
      go_wp2_with fail
      refine (mul_g (prodBut own k (fun j => g t ^^^ gx ns j)) (fi (prodBut own k (fun j => gx ns own ^^^ gx ns j))) _ _ _ rfl rfl).mono ?_
      rintro e w' ⟨rfl, rfl⟩
      go_wp2
      go_ret
      exact ⟨rfl, HW.out⟩
end Cod
end Go.Proofs.Ytkgnmcekeeannab
namespace Go.Proofs.Ytkgnmcekeeannab
open Go.RowKit
namespace Cod
open Pol (G fm fi prodBut share lag sumTo)
open Fld (ret_int val_int i64_xor_nat)

def vals (f : Nat → Value) (k : Nat) : List Value := (List.range k).map f
theorem vals_succ (f : Nat → Value) (k : Nat) : vals f (k + 1) = vals f k ++ [f k] := by simp [vals, List.range_succ]
theorem vals_length (f : Nat → Value) (k : Nat) : (vals f k).length = k := by simp [vals]
theorem vals_get (f : Nat → Value) (k i : Nat) (h : i < k) : (vals f k)[i]? = some (f i) := by simp [vals, h]

def u8v (f : Nat → G) (i : Nat) : Value := .int .u8 (f i).toNat

set_option maxHeartbeats 1000000 in
theorem sharesAt_nat (t n b off cap : Nat) (ns : Nat → Nat) (w : World) (ht : t < 16) (hns : ∀ i, i < n → ns i < 16) (hb : b < w.heap.size) (hn : n ≤ 8)
    (hcell : ∀ i, i < n → w.cell? ⟨b, off + i, none⟩ = some (.int .i64 (ns i))) :
    Calls Try.prog 87 #[.int .i64 t, .slice (some ⟨b, off, none⟩) n cap] w fun e w' => ∃ v, e = .returned v ∧ w'.ownsRow w.heap.size 5 1 v n (vals (u8v (share n (gx ns) (g t))) n) ∧ Below w.heap.size w w' := by
  obtain ⟨i0, hi, hz0, hz1, hz2⟩ := info_parts infoByte
  have HO : (w.alloc (Obj.cells #[] 5)).ownsRow w.heap.size 5 1 (.slice (some ⟨w.heap.size, 0, none⟩) 0 0) 0 (vals (u8v (share n (gx ns) (g t))) 0) := World.ownsRow_made w #[] 0 (Nat.le_refl _) (by decide) rfl
  go_enter Try.func87, Try.ntmps87
  go_wp2
  go_loopw [5, 6] (fun v i wr => ∃ j : Nat, j ≤ n ∧ i = .int .i64 j ∧ wr.ownsRow w.heap.size 5 1 v j (vals (u8v (share n (gx ns) (g t))) j) ∧ Below w.heap.size w wr) (fun _ i _ => n - (intOf i).toNat)
  case atStart => exact ⟨0, Nat.zero_le _, rfl, HO, (Below.refl _ _).alloc (Nat.le_refl _) _⟩
  case round =>
    obtain ⟨j, hj, rfl, hown, hnx⟩ := hrel
    clear HO
    have hsz := hnx.size
    have hcr : ∀ i, i < n → wr.cell? ⟨b, off + i, none⟩ = some (.int .i64 (ns i)) := fun i hi => (hnx.cell (p := ⟨b, off + i, none⟩) hb).trans (hcell i hi)
    clear hcell
    by_cases hlt : j < n
    · have HC := shareAt_nat t n j b off cap ns wr ht hns hlt hn hcr
      clear hcr hns
      go_wp2_with fail
      refine HC.mono ?_
      rintro e w' ⟨rfl, m, rfl⟩
      clear HC
      have hownd : (wr.drewN m).ownsRow w.heap.size 5 1 u5 j (vals (u8v (share n (gx ns) (g t))) j) := hown
      have hnxd : Below w.heap.size w (wr.drewN m) := below_drewN hnx m
      have hszd : w.heap.size ≤ (wr.drewN m).heap.size := hsz
      clear hown hnx hsz
      generalize wr.drewN m = wx at *
      go_wp2_with (at_builtin; refine wpList_append_own _ rfl _ _ 72 rfl w.heap.size 5 i0 (.int .u8 0) 1 1 Try.underlying72 hi hz0 hz1 hz2 rfl (by decide) _ _ _ rfl (hownd.alloc _) ⟨wx.heap.size, 0, none⟩ 1 1 [.int .u8 (share n (gx ns) (g t) j).toNat] rfl rfl one_news ?c2 ?c3 ?c4 ?c5 ?_)
      case c2 => intro u hu; simp at hu; subst hu; rfl
      case c3 => unfold maxLen; omega
      case c4 => omega
      case c5 => simp; omega
      · intro v' w1 hown' hgrow _
        have hb := below_append hnxd hszd hownd hgrow
        have hown2 : w1.ownsRow w.heap.size 5 1 v' (j + 1) (vals (u8v (share n (gx ns) (g t))) (j + 1)) := by rw [vals_succ]; exact hown'
        clear hownd hgrow hnxd hown'
        go_wp2
        go_roundw
        case rel => exact ⟨j + 1, by omega, by go_num, hown2, hb⟩
        case measure => simp [intOf]; omega
    · have e : j = n := by omega
      subst e
      clear hcr hns
      go_wp2
      go_ret
      exact ⟨_, rfl, hown, hnx⟩
theorem row_cells {w : World} {base e n : Nat} {v : Value} {f : Nat → Value} (h : w.ownsRow base e 1 v n (vals f n)) (hn : 0 < n) :
    ∃ b cap, v = .slice (some ⟨b, 0, none⟩) n cap ∧ base ≤ b ∧ b < w.heap.size ∧ n ≤ cap ∧ cap ≤ maxLen ∧ ∀ i, i < n → w.cell? ⟨b, i, none⟩ = some (f i) := by
  rcases h.2 with ⟨_, h0⟩ | ⟨b, cap, cur, hv, hb, hg, hnc, hcm, _⟩
  · omega
  · subst hv
    refine ⟨b, cap, rfl, hb, ?_, hnc, hcm, fun i hi => ?_⟩
    · obtain ⟨hlt, _⟩ := Array.getElem?_eq_some_iff.1 hg; exact hlt
    · rw [h.cellAt i (by omega), vals_get f n i hi]

def byteAt (s : ByteArray) (i : Nat) : G := s.data.toList.getD i 0
theorem byteAt_eq (s : ByteArray) (i : Nat) (h : i < s.size) : byteAt s i = s[i] := by
  unfold byteAt
  rw [List.getD_eq_getElem?_getD, List.getElem?_eq_getElem (by simpa using h)]; rfl

set_option maxHeartbeats 1000000 in
theorem valueAt_nat (place n b cap size : Nat) (sh : Nat → G) (s : ByteArray) (w : World) (hp : place < size) (hs16 : size ≤ 16) (hn : n ≤ 8) (hs : s.size = n * size)
    (hcell : ∀ i, i < n → w.cell? ⟨b, i, none⟩ = some (u8v sh i)) :
    Calls Try.prog 88 #[.int .i64 place, .slice (some ⟨b, 0, none⟩) n cap, .string s, .int .i64 size] w fun e w' => e = .returned (.int .u8 (sumTo n (fun i => fm (sh i) (byteAt s (i * size + place)))).toNat) ∧ ∃ m, w' = w.drewN m := by
  have HS : Hid (s.size = n * size) := hs
  clear hs
  go_enter Try.func88, Try.ntmps88
  go_wp2
  go_loopw [9, 10] (fun x i wr => ∃ k : Nat, k ≤ n ∧ i = .int .i64 k ∧ x = .int .u8 (sumTo k (fun i => fm (sh i) (byteAt s (i * size + place)))).toNat ∧ ∃ m, wr = w.drewN m) (fun _ i _ => n - (intOf i).toNat)
  case atStart => exact ⟨0, Nat.zero_le _, rfl, rfl, 0, rfl⟩
  case round =>
    obtain ⟨k, hk, rfl, rfl, hwr⟩ := hrel
    have HW : Hid (∃ m, wr = w.drewN m) := hwr
    have hcr : ∀ i, i < n → wr.cell? ⟨b, i, none⟩ = some (u8v sh i) := by
      obtain ⟨m, rfl⟩ := hwr; exact hcell
    clear hwr hcell
    by_cases hlt : k < n
    · have ck : wr.cell? ⟨b, k, none⟩ = some (.int .u8 (sh k).toNat) := hcr k hlt
      have hP : ((k : Int) * (size : Int)) = ((k * size : Nat) : Int) := by simp
      have hPl : k * size + size ≤ s.size := by rw [HS.out, ← Nat.succ_mul]; exact Nat.mul_le_mul_right _ hlt
      have hP8 : k * size ≤ 8 * 16 := Nat.mul_le_mul (by omega) hs16
      have HB : Hid (sumTo (k + 1) (fun i => fm (sh i) (byteAt s (i * size + place))) = sumTo k (fun i => fm (sh i) (byteAt s (i * size + place))) ^^^ fm (sh k) (byteAt s (k * size + place))) := rfl
      clear hcr
      generalize sumTo k (fun i => fm (sh i) (byteAt s (i * size + place))) = A at *
      generalize k * size = P at *
      have hw1 : IntKind.i64.wrap (P : Int) = (P : Int) := IntWalk.i64_in _ ⟨by omega, by omega⟩
      obtain ⟨q, hq⟩ : ∃ q, q = P + place := ⟨_, rfl⟩
      have hw2 : IntKind.i64.wrap ((P : Int) + (place : Int)) = (q : Int) := by rw [IntWalk.i64_in _ ⟨by omega, by omega⟩]; omega
      have hix : q < s.size := by omega
      have hix' : (q : Int) < (s.size : Int) := by omega
      have HY : Hid (byteAt s (P + place) = s[q]) := by unfold Hid; subst hq; exact byteAt_eq s _ hix
      clear hq hPl
      go_wp2_with fail
      go_quiet ((go_at_call 90; exact Calls.quiet_of_same (mul_g (sh k) s[q] _ _ _ rfl rfl)))
      go_wp2
      go_roundw
      case rel =>
        refine ⟨k + 1, by omega, by go_num, val_int ?_, drawn_more HW.out⟩
        rw [u8_xor_nat _ _ (UInt8.toNat_lt _) (UInt8.toNat_lt _), ← UInt8.toNat_xor, ← HY.out, ← HB.out]
      case measure => simp [intOf]; omega
    · have e : k = n := by omega
      subst e
      clear hcr
      go_wp2
      go_ret
      exact ⟨rfl, HW.out⟩
end Cod
end Go.Proofs.Ytkgnmcekeeannab
/-
  A law on append that says where the row lies behind it: where it lay, or in a new block.
-/
namespace Go.Proofs.Ytkgnmcekeeannab
open Go.RowKit
namespace App

theorem owns_mono {w : World} {B B' e size n : Nat} {v : Value} {xs : List Value} (h : w.ownsRow B e size v n xs) (hB : B' ≤ B) : w.ownsRow B' e size v n xs := by
  obtain ⟨hl, h⟩ := h
  refine ⟨hl, ?_⟩
  rcases h with h | ⟨g, cap, cur, h1, h2, h3⟩
  · exact .inl h
  · exact .inr ⟨g, cap, cur, h1, by omega, h3⟩
theorem grown_any {w w' : World} {row : Option Nat} (h : w.grownBy w' none) : w.grownBy w' row := ⟨h.os, h.tape, h.output, h.size, fun k hk _ => h.block k hk (by simp)⟩

/-- where it lay, or in a new block -/
def Apart (w : World) (v v' : Value) : Prop := v'.ownBlock = v.ownBlock ∨ ∀ k, v'.ownBlock = some k → w.heap.size ≤ k

theorem wpList_append_apart {P : Program} (w : World) {ops : Array Oper} {rest : List Oper} {o : Oper} {a : Act} {Q : Exit → Act → World → Prop} (hgd : o.guard = none) (s x : Operand) (t : TypeId)
    (ho : o.op = .call { callee := .builtin .append, args := #[s, x], argTypes := #[t, t] })
    (base : Nat) (e : TypeId) (i : TypeInfo) (z : Value) (size bytes : Nat) (ht : P.underlying t = some (.slice e)) (hi : P.info? e = some i) (hz : i.zero = some z)
    (hsize : i.size = size) (hby : i.bytes = bytes) (hzs : z.cells.size = size) (hsz : 0 < size)
    (v : Value) (n : Nat) (xs : List Value) (hs : a.eval s = v) (hown : w.ownsRow base e size v n xs)
    (ad : Addr) (m c : Nat) (news : List Value) (hx : a.eval x = .slice (some ad) m c) (hl : news.length = m * size) (hnews : ∀ j u, news[j]? = some u → w.cell? (ad.add j) = some u) (h1 : ∀ u ∈ news, u.oneCell' = true)
    (h63 : n + m ≤ maxLen) (hbytes : (n + m) * bytes ≤ 140737488355328) (hbase : base ≤ w.heap.size)
    (h : ∀ v' w', w'.ownsRow base e size v' (n + m) (xs ++ news) → w.grownBy w' v.ownBlock → Apart w v v' → wpList P ops Q rest (a.put o.dst v') w') (hm : 0 < m) : wpList P ops Q (o :: rest) a w := by
  rcases hown.2 with ⟨rfl, rfl⟩ | ⟨g, cap, cur, rfl, hbg, hg, hnc, hcm, hcs, htake⟩
  · refine wpList_append_grows w hgd s x t ho e i z size bytes ht hi hz hsize hby hzs hsz none 0 0 xs hs (fun _ => ⟨rfl, rfl⟩) hown.1 (fun b hb => by cases hb) ad m c news hx hl hnews h1 (by omega) h63 hbytes (fun v' w' ho' hg' => ?_)
    exact h v' w' (owns_mono ho' hbase) (grown_any hg') (.inr (fun k hk => (ho'.lt k hk).1))
  · by_cases hroom : n + m ≤ cap
    · exact wpList_append_fits w hgd s x t ho base e i size ht hi hsize g n cap xs hs hown ad m c news hx hl hnews h1 hroom (fun w' ho' hg' => h _ w' ho' hg' (.inl rfl))
    · refine wpList_append_grows w hgd s x t ho e i z size bytes ht hi hz hsize hby hzs hsz (some ⟨g, 0, none⟩) n cap xs hs (fun hb => by cases hb) hown.1 (fun b hb => by cases hb; exact hown.cells rfl) ad m c news hx hl hnews h1 (by omega) h63 hbytes (fun v' w' ho' hg' => ?_)
      exact h v' w' (owns_mono ho' hbase) (grown_any hg') (.inr (fun k hk => (ho'.lt k hk).1))

/-- the cells of another row stay -/
theorem cells_stay {w w1 : World} {v : Value} {b : Nat} {x y : Option Value} {i : Nat} {o : Obj} (hg : (w.alloc o).grownBy w1 v.ownBlock) (hb : b < w.heap.size) (hne : v.ownBlock ≠ some b) (h : w.cell? ⟨b, i, none⟩ = x) (e : x = y) : w1.cell? ⟨b, i, none⟩ = y := by
  have hbl : w1.heap[b]? = w.heap[b]? := by
    rw [hg.block b (by simp; omega) (fun e => hne e.symm)]
    exact Below.heap_alloc w o b hb
  rw [← e, ← h]
  exact World.cell?_of_block (a := ⟨b, i, none⟩) hbl
theorem apart_ne {w : World} {v v' : Value} {o : Obj} {b : Nat} (h : Apart (w.alloc o) v v') (hb : b < w.heap.size) (hne : v.ownBlock ≠ some b) : v'.ownBlock ≠ some b := by
  rcases h with h | h
  · rw [h]; exact hne
  · intro e
    have := h b e
    simp at this
    omega
end App
end Go.Proofs.Ytkgnmcekeeannab
