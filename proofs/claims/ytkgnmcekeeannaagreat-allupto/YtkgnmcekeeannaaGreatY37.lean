import Derived.Test.YtkgnmcekeeannaaGreatY36
import Derived.Test.YtkgnmcekeeannaaGreatY27
/-
  The landed receiver's hearData.
-/
namespace Go.Proofs.YtkgnmcekeeannaaGreat
open Go.RowKit Go.Deep
namespace Sn
open Bs
open Ms (M It txt text ok mV mVm mBox dataOK owns_setCell)
set_option linter.unusedVariables false

theorem LRI.congr {w : World} {P : Nat} {r r' : LR} {F : Nat → Prop} {K : Nat → Slot} {ao : Option Addr} {co : Nat} {D : Nat → Nat} {nv sv : Nat → Nat → Value} (h : LRI w P r F K ao co D nv sv) (e1 : r'.n = r.n) (e2 : r'.kn = r.kn) (e3 : r'.ln = r.ln) (e4 : r'.tk = r.tk) (e5 : ∀ o b, r.live o → b < r.bks o → r'.nm o b = r.nm o b) (e6 : ∀ o b, r.live o → b < r.bks o → r'.sm o b = r.sm o b) : LRI w P r' F K ao co D nv sv := by
  obtain ⟨n, kn, ln, nm, sm, tk⟩ := r
  obtain ⟨n', kn', ln', nm', sm', tk'⟩ := r'
  simp only at e1 e2 e3 e4
  subst e1 e2 e3 e4
  refine ⟨h.row, h.ob, h.bl, fun o b ho hb => ?_, fun o b ho hb => ?_, h.kP, h.ko, h.kb, h.kn, h.ks, h.kF, h.hi, h.tl⟩
  · show World.ownsRow _ 0 _ 1 _ (nm' o b).length (ints (nm' o b))
    have q : nm' o b = nm o b := e5 o b ho hb
    rw [q]; exact h.nu o b ho hb
  · show World.ownsRow _ 0 _ 1 _ (sm' o b).length ((sm' o b).map bv)
    have q : sm' o b = sm o b := e6 o b ho hb
    rw [q]; exact h.sy o b ho hb
/-- data that is refused, data that clashes, data that is taken -/
def Bad (r : Rt) (m : M) : Prop := m.sym.size ≠ r.n.size ∨ r.n.many m.len.toNat m.blk.toNat = 0 ∨ r.n.many m.len.toNat m.blk.toNat + r.n.spare ≤ m.num.toNat
theorem hear_bad {r : Rt} {m : M} (hk : m.kind = 1) (h : Bad r m) : r.hear m = (r, 6) := by
  unfold Bad at h
  unfold Rt.hear
  rw [if_neg (by omega), if_neg (by omega)]
  simp only
  rw [if_pos h]
theorem hear_clash {r : Rt} {m : M} (hk : m.kind = 1) (h : ¬ Bad r m) (hc : 0 < lenIn r.heard m.obj ∧ lenIn r.heard m.obj ≠ m.len) : r.hear m = (r, 9) := by
  unfold Bad at h
  unfold Rt.hear
  rw [if_neg (by omega), if_neg (by omega)]
  simp only
  rw [if_neg h, if_pos hc]
theorem hear_got {r : Rt} {m : M} (hk : m.kind = 1) (h : ¬ Bad r m) (hc : ¬ (0 < lenIn r.heard m.obj ∧ lenIn r.heard m.obj ≠ m.len)) : r.hear m = (r.got m, 0) := by
  unfold Bad at h
  unfold Rt.hear
  rw [if_neg (by omega), if_neg (by omega)]
  simp only
  rw [if_neg h, if_neg hc]
  rfl
/-- what the landed receiver keeps behind data that it takes -/
theorem got_lr {w : World} {P : Nat} {r : Rt} {m : M} {F : Nat → Prop} {K : Nat → Slot} {ao : Option Addr} {co : Nat} {D : Nat → Nat} {nv sv : Nat → Nat → Value} {r1 : LR} (hr : ROk r) (hm : 1 ≤ m.len) (hc : r.len m.obj.toNat = 0 ∨ (r.len m.obj.toNat : Int) = m.len) (ho : 0 ≤ m.obj) (hb : 0 ≤ m.blk)
    (e : r1 = { LR.of r with kn := max r.known (m.obj.toNat + 1), ln := upd1 r.len m.obj.toNat m.len.toNat })
    (h : (r1.live m.obj.toNat → LRI w P (r1.add m.obj.toNat m.blk.toNat (r.n.many m.len.toNat m.blk.toNat) m.num m.sym) F K ao co D nv sv) ∧ (¬ r1.live m.obj.toNat → LRI w P r1 F K ao co D nv sv)) :
    LRI w P (LR.of (r.got m)) F K ao co D nv sv := by
  have el : (r.got m).len = r1.ln := by
    funext o
    rw [got_len hr hm hc ho, e]
    show _ = upd1 r.len m.obj.toNat m.len.toNat o
    unfold upd1
    by_cases h : o = m.obj.toNat
    · rw [if_pos h, if_pos (by omega)]
    · rw [if_neg h, if_neg (by omega)]
  have ek : (r.got m).known = r1.kn := by rw [e]; rfl
  have en : (r.got m).n = r1.n := by rw [e]; rfl
  have et : (r.got m).taken = r1.tk := by rw [e]; rfl
  have enm : ∀ o b, r1.nm o b = (r.come o b).map M.num := fun o b => by rw [e]; rfl
  have esm : ∀ o b, r1.sm o b = symsOf (r.come o b) := fun o b => by rw [e]; rfl
  by_cases hl : r1.live m.obj.toNat
  · have H := h.1 hl
    have cnd : ((r1.nm m.obj.toNat m.blk.toNat).length < r.n.many m.len.toNat m.blk.toNat ∧ m.num ∉ r1.nm m.obj.toNat m.blk.toNat) ↔ ((r.come m.obj.toNat m.blk.toNat).length < r.n.many m.len.toNat m.blk.toNat ∧ ∀ x ∈ r.come m.obj.toNat m.blk.toNat, x.num ≠ m.num) := by
      rw [enm, List.length_map]
      constructor
      · rintro ⟨h1, h2⟩
        exact ⟨h1, fun x hx hn => h2 (List.mem_map.2 ⟨x, hx, hn⟩)⟩
      · rintro ⟨h1, h2⟩
        refine ⟨h1, fun hn => ?_⟩
        obtain ⟨x, hx, hx2⟩ := List.mem_map.1 hn
        exact h2 x hx hx2
    have key : ∀ o b, (r.got m).come o b = if (o = m.obj.toNat ∧ b = m.blk.toNat) ∧ ((r1.nm m.obj.toNat m.blk.toNat).length < r.n.many m.len.toNat m.blk.toNat ∧ m.num ∉ r1.nm m.obj.toNat m.blk.toNat) then r.come o b ++ [m] else r.come o b := fun o b => by
      rw [got_come hr hm hc ho hb]
      by_cases e1 : o = m.obj.toNat ∧ b = m.blk.toNat
      · obtain ⟨rfl, rfl⟩ := e1
        by_cases e2 : (r1.nm m.obj.toNat m.blk.toNat).length < r.n.many m.len.toNat m.blk.toNat ∧ m.num ∉ r1.nm m.obj.toNat m.blk.toNat
        · rw [if_pos ⟨⟨by omega, by omega⟩, cnd.1 e2⟩, if_pos ⟨⟨rfl, rfl⟩, e2⟩]
        · rw [if_neg (fun q => e2 (cnd.2 q.2)), if_neg (fun q => e2 q.2)]
      · rw [if_neg (fun q => e1 ⟨by omega, by omega⟩), if_neg (fun q => e1 q.1)]
    by_cases c : (r1.nm m.obj.toNat m.blk.toNat).length < r.n.many m.len.toNat m.blk.toNat ∧ m.num ∉ r1.nm m.obj.toNat m.blk.toNat
    · have ea : r1.add m.obj.toNat m.blk.toNat (r.n.many m.len.toNat m.blk.toNat) m.num m.sym = r1.adds m.obj.toNat m.blk.toNat m.num m.sym.data.toList := by unfold LR.add; rw [if_pos c]
      rw [ea] at H
      refine H.congr en ek el et (fun o b _ _ => ?_) (fun o b _ _ => ?_)
      · show ((r.got m).come o b).map M.num = updL r1.nm m.obj.toNat m.blk.toNat (r1.nm m.obj.toNat m.blk.toNat ++ [m.num]) o b
        rw [key]
        unfold updL
        by_cases e1 : o = m.obj.toNat ∧ b = m.blk.toNat
        · rw [if_pos ⟨e1, c⟩, if_pos e1, List.map_append, e1.1, e1.2, enm]; rfl
        · rw [if_neg (fun q => e1 q.1), if_neg e1, enm]
      · show symsOf ((r.got m).come o b) = updL r1.sm m.obj.toNat m.blk.toNat (r1.sm m.obj.toNat m.blk.toNat ++ m.sym.data.toList) o b
        rw [key]
        unfold updL
        by_cases e1 : o = m.obj.toNat ∧ b = m.blk.toNat
        · rw [if_pos ⟨e1, c⟩, if_pos e1, e1.1, e1.2, esm]; simp [symsOf]
        · rw [if_neg (fun q => e1 q.1), if_neg e1, esm]
    · have ea : r1.add m.obj.toNat m.blk.toNat (r.n.many m.len.toNat m.blk.toNat) m.num m.sym = r1 := by unfold LR.add; rw [if_neg c]
      rw [ea] at H
      refine H.congr en ek el et (fun o b _ _ => ?_) (fun o b _ _ => ?_)
      · show ((r.got m).come o b).map M.num = _
        rw [key, if_neg (fun q => c q.2), enm]
      · show symsOf ((r.got m).come o b) = _
        rw [key, if_neg (fun q => c q.2), esm]
  · refine (h.2 hl).congr en ek el et (fun o b h1 h2 => ?_) (fun o b h1 h2 => ?_)
    · have : o ≠ m.obj.toNat := fun q => hl (q ▸ h1)
      show ((r.got m).come o b).map M.num = _
      rw [got_come hr hm hc ho hb, if_neg (fun q => this (by omega)), enm]
    · have : o ≠ m.obj.toNat := fun q => hl (q ▸ h1)
      show symsOf ((r.got m).come o b) = _
      rw [got_come hr hm hc ho hb, if_neg (fun q => this (by omega)), esm]
end Sn
end Go.Proofs.YtkgnmcekeeannaaGreat
/-
  The landed receiver's hearData: walked.
-/
namespace Go.Proofs.YtkgnmcekeeannaaGreat
open Go.RowKit Go.Deep
namespace Sn
open Bs
open Ms (M It txt text ok mV mVm mBox dataOK owns_setCell)
set_option linter.unusedVariables false

def LR.badD (r : LR) (b x L : Nat) (sy : ByteArray) : Prop := sy.size ≠ r.n.size ∨ r.n.many L b = 0 ∨ r.n.many L b + r.n.spare ≤ x
def LR.began (r : LR) (o L : Nat) : LR := { r with kn := max r.kn (o + 1), ln := upd1 r.ln o L }
def LR.gotD (r : LR) (o b x L : Nat) (sy : ByteArray) : LR := if r.tk ≤ o then (r.began o L).add o b (r.n.many L b) x sy else r.began o L
theorem LRIs.below {w w1 w2 : World} {P : Nat} {r : LR} {F : Nat → Prop} (h : LRIs w w1 P r F) (hb : Below w1.heap.size w1 w2) : LRIs w w2 P r F := by
  obtain ⟨⟨K, ao, co, D, nv, sv, h⟩, t⟩ := h
  exact ⟨⟨_, ao, co, D, nv, sv, (h.below hb).mono (fun b hb' _ => hb'.imp id (fun q => ⟨q.1, by have := hb.size; omega⟩))⟩, t.below hb⟩
theorem LRIs.refl {w : World} {P : Nat} {r : LR} {F : Nat → Prop} {K : Nat → Slot} {ao : Option Addr} {co : Nat} {D : Nat → Nat} {nv sv : Nat → Nat → Value} (h : LRI w P r F K ao co D nv sv) : LRIs w w P r F := ⟨⟨K, ao, co, D, nv, sv, h.mono (fun b hb _ => .inl hb)⟩, Touch.refl _ _⟩
theorem grow_grow {F : Nat → Prop} {w w1 w2 : World} {b : Nat} (z : w.heap.size ≤ w1.heap.size) (z2 : w1.heap.size ≤ w2.heap.size) (h : grow (grow F w w1) w1 w2 b) : grow F w w2 b := by
  rcases h with (h | h) | h
  · exact .inl h
  · exact .inr ⟨h.1, by omega⟩
  · exact .inr ⟨by omega, h.2⟩
theorem touch_more {F : Nat → Prop} {w w1 w2 : World} (t : Touch w w1 F) (t2 : Touch w1 w2 (grow F w w1)) : Touch w w2 F :=
  ⟨t2.os.trans t.os, t2.tape.trans t.tape, t2.output.trans t.output, Nat.le_trans t.size t2.size, fun b hb hF => (t2.block b (by have := t.size; omega) (fun h => h.elim hF (fun q => by omega))).trans (t.block b hb hF)⟩
theorem LRIs.trans {w w1 w2 : World} {P : Nat} {r : LR} {F : Nat → Prop} (t : Touch w w1 F) (h : LRIs w1 w2 P r (grow F w w1)) : LRIs w w2 P r F := by
  obtain ⟨⟨K, ao, co, D, nv, sv, h⟩, t2⟩ := h
  exact ⟨⟨K, ao, co, D, nv, sv, h.mono (fun b hb _ => grow_grow t.size t2.size hb)⟩, touch_more t t2⟩
set_option maxHeartbeats 4000000 in
set_option maxRecDepth 100000 in
theorem lanHearData_bad (r : LR) (kd : Int) (o b x L : Nat) (sy : ByteArray) (io : Option Addr) (ni ci : Nat) (os : Int) (P : Nat) (F : Nat → Prop) (w : World) (hn : r.n.ok) (ho : o ≤ 7) (hb : b ≤ 255) (hx : x ≤ 15) (hL : 1 ≤ L) (hL2 : L ≤ 256) (hsy : sy.size ≤ 16) (hA : LRIs w w P r F) (hbad : r.badD b x L sy) :
    Calls Tryz.prog 69 #[.pointer (some ⟨P, 0, none⟩), mV kd o b x L sy io ni ci os] w fun e w' => e = .returned (.int .i64 6) ∧ LRIs w w' P r F := by
  have B0 : Below w.heap.size w (w.alloc (mBox kd o b x L sy io ni ci os)).drew := ((Below.refl _ _).alloc (Nat.le_refl _) _).drew
  have HS := fun W => laySymbols r.n L b W hn (by omega) (by omega)
  simp only [nmV] at HS
  have H1 := hA.below B0
  have m0 : ∀ (j : Nat) (v : Value), (#[.int .i64 kd, .int .i64 o, .int .i64 b, .int .i64 x, .int .i64 L, .string sy, .slice io ni ci, .int .i64 os] : Array Value)[j]? = some v → (w.alloc (mBox kd o b x L sy io ni ci os)).drew.cell? ⟨w.heap.size, j, none⟩ = some v := fun j v h => cell_new rfl h
  have nW : w.heap.size < (w.alloc (mBox kd o b x L sy io ni ci os)).drew.heap.size := by simp [World.drew]
  obtain ⟨wd, hwd⟩ : ∃ wd, wd = (w.alloc (mBox kd o b x L sy io ni ci os)).drew := ⟨_, rfl⟩
  rw [← hwd] at H1 m0 nW
  have HA1 : Hid (LRIs w wd P r F) := H1
  have HM0 : Hid (∀ (j : Nat) (v : Value), (#[.int .i64 kd, .int .i64 o, .int .i64 b, .int .i64 x, .int .i64 L, .string sy, .slice io ni ci, .int .i64 os] : Array Value)[j]? = some v → wd.cell? ⟨w.heap.size, j, none⟩ = some v) := m0
  obtain ⟨⟨K, ao, co, D, nv, sv, hI⟩, hT⟩ := H1
  obtain ⟨c0, c1, c2, c3, c4⟩ := hI.cells
  have m2 := m0 2 _ rfl
  have m4 := m0 4 _ rfl
  have hM := many_le r.n L b
  have HN : Hid r.n.ok := hn
  obtain ⟨_, hz16, _, hbk, hsp8⟩ := hn
  have HBAD : Hid (r.badD b x L sy) := hbad
  clear m0 B0 hA hI hT hbad c3 c4
  obtain ⟨k, hk⟩ : ∃ k, k = r.n.many L b := ⟨_, rfl⟩
  rw [← hk] at HS hM
  have HB : Hid (sy.size ≠ r.n.size ∨ k = 0 ∨ k + r.n.spare ≤ x) := by rw [hk]; exact HBAD.out
  clear hk HBAD
  go_enter Tryz.func69, Tryz.ntmps69
  go_wp2_with fail
  (refine wp_region_still_tail 8 (by kernel_rfl) (by kernel_rfl) ?_; change wpStill _ _ (World.drew _) (fun a' => wpList _ _ _ _ a' (World.drew _)) _ _; simp only [← hwd]; clear hwd; simp only [List.take_succ_cons, List.take_zero, List.drop_succ_cons, List.drop_zero]; (repeat still_step); refine wpStill_nil ?_)
  go_wp2_with fail
  refine (HS _).mono ?_
  rintro e w1 ⟨rfl, hb1⟩
  have HA2 : Hid (LRIs w w1 P r F) := HA1.out.below hb1
  have m3 : w1.cell? ⟨w.heap.size, 3, none⟩ = some (.int .i64 x) := (hb1.cell (p := ⟨w.heap.size, 3, none⟩) nW).trans (HM0.out 3 _ rfl)
  have m5 : w1.cell? ⟨w.heap.size, 5, none⟩ = some (.string sy) := (hb1.cell (p := ⟨w.heap.size, 5, none⟩) nW).trans (HM0.out 5 _ rfl)
  clear c0 c1 c2 m2 m4 HS hb1 HA1 HM0
  obtain ⟨⟨K, ao, co, D, nv, sv, hI⟩, hT⟩ := HA2.out
  obtain ⟨c0, c1, c2, c3, c4⟩ := hI.cells
  clear hI hT c1 c3 c4
  obtain ⟨z, hz⟩ : ∃ z, z = r.n.size := ⟨_, rfl⟩
  rw [← hz] at c0 HB hz16
  clear hz
  by_cases h1 : sy.size = z
  · have t1 : ((sy.size : Int) != (z : Int)) = false := by rw [h1]; simp
    by_cases h2 : k = 0
    · have t2 : ((k : Int) == 0) = true := by rw [h2]; rfl
      clear h1 h2
      go_wp2_with fail
      go_quiet (fail)
      have HF : Hid (LRIs w (w1.drewN nq) P r F) := HA2.out.below (below_drewN (Below.refl _ _) nq)
      clear HA2 c0 m3 m5
      generalize w1.drewN nq = w4 at *
      go_wp2
      go_ret
      exact ⟨rfl, HF.out⟩
    · have t2 : ((k : Int) == 0) = false := by simpa using h2
      have h3 : (k : Int) + r.n.spare ≤ x := by
        rcases HB.out with h | h | h
        · exact absurd h1 h
        · exact absurd h h2
        · omega
      clear h1 h2
      go_wp2_with fail
      go_quiet (fail)
      have HF : Hid (LRIs w (w1.drewN nq) P r F) := HA2.out.below (below_drewN (Below.refl _ _) nq)
      clear HA2 c0 m3 m5
      generalize w1.drewN nq = w4 at *
      go_wp2
      go_ret
      exact ⟨rfl, HF.out⟩
  · have t1 : ((sy.size : Int) != (z : Int)) = true := by simpa using (by omega : ¬ (sy.size : Int) = z)
    clear h1
    go_wp2_with fail
    go_quiet (fail)
    have HF : Hid (LRIs w (w1.drewN nq) P r F) := HA2.out.below (below_drewN (Below.refl _ _) nq)
    clear HA2 c0 m3 m5
    generalize w1.drewN nq = w4 at *
    go_wp2
    go_ret
    exact ⟨rfl, HF.out⟩
end Sn
end Go.Proofs.YtkgnmcekeeannaaGreat
