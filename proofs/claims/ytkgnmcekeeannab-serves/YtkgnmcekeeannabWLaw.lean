import Derived.Test.YtkgnmcekeeannabRows
import Derived.Test.YtkgnmcekeeannabW54
import Derived.WalkKit
import Derived.ProofKit
import Derived.OpenShut
import Derived.ShutString
import Derived.SizedLaws
import Derived.ChangeOld
import Derived.Below
namespace Go.Proofs.Ytkgnmcekeeannab.serves
open Go.ChangeShapes Go.WideShapes Go.ChangeAt Go.RowKit
set_option linter.unusedVariables false

theorem own : ownKnob Try.prog.godebug = none := by kernel_rfl
theorem laidOut : laidOutB Try.prog = true := by kernel_rfl

set_option maxRecDepth 100000 in
theorem lifted (os : Os) (started : os.Started) (H : Type) (enc : TypeId × Value → H) :
    ReturnsInHanded {} Try.checked os 5 .any (Rows.servesSpec.pre6 enc Try.prog Try.f5 Rows.servesRow.domain false) (Rows.servesSpec.post enc Try.prog Try.f5 false true false false) := by
  refine returnsInHanded_of_change_sized (C := Try.checked) own started (by kernel_rfl) Try.func5
    (ChangeSpec.witness6 (enc := enc) (C := Try.checked) false ⟨#[], #[.int .i64 0, .int .i64 0, .int .i64 0, .slice none 0 0, .slice none 0 0, .slice none 0 0], []⟩ 8 (by kernel_rfl) (by kernel_rfl) (by kernel_rfl) (by kernel_rfl)) ?_
  intro W base args ds gs before hval0 hW hcnd hsz0 _
  have hsz : (DataW.weightsEach Try.prog (Try.f5.params.toList ++ Rows.servesSpec.plain.varTypes Try.prog) (ds ++ gs)).all (· ≤ reachBytes) = true := hsz0
  have hval : ∀ (j : Nat) t v, Try.f5.params[j]? = some t → args[j]? = some v → Value.okWide Try.prog W .any base t v := hval0
  have hW' := hW
  obtain ⟨p, q, hA0, hV, rfl, hfz, hnd⟩ := hW
  have hA : DataW.TrodAll enc Try.prog W 0 (fun _ => true) true Try.f5.params.toList args.toList ds p := hA0
  rw [Try.params5] at hA hval hsz
  obtain ⟨v0, vs0, d0, ds0, p0, q0, hargs, rfl, rfl, h0, r0⟩ := trodAll_cons hA
  obtain ⟨v1, vs1, d1, ds1, p1, q1, rfl, rfl, rfl, h1, r1⟩ := trodAll_cons r0
  obtain ⟨v2, vs2, d2, ds2, p2, q2, rfl, rfl, rfl, h2, r2⟩ := trodAll_cons r1
  obtain ⟨v3, vs3, d3, ds3, p3, q3, rfl, rfl, rfl, h3, r3⟩ := trodAll_cons r2
  obtain ⟨v4, vs4, d4, ds4, p4, q4, rfl, rfl, rfl, h4, r4⟩ := trodAll_cons r3
  obtain ⟨v5, vs5, d5, ds5, p5, q5, rfl, rfl, rfl, h5, r5⟩ := trodAll_cons r4
  obtain ⟨rfl, rfl, rfl⟩ := trodAll_nil r5
  obtain rfl : args = #[v0, v1, v2, v3, v4, v5] := by cases args; simp_all
  obtain ⟨rfl, rfl⟩ := trodVars_none hV
  obtain ⟨a0, rfl, rfl, rfl, w0⟩ := open_int Try.underlying3 (hval 0 3 v0 rfl rfl) h0
  obtain ⟨a1, rfl, rfl, rfl, w1⟩ := open_int Try.underlying3 (hval 1 3 v1 rfl rfl) h1
  obtain ⟨a2, rfl, rfl, rfl, w2⟩ := open_int Try.underlying3 (hval 2 3 v2 rfl rfl) h2
  obtain ⟨ao3, len3, cap3, rfl⟩ := okWide_slice Try.underlying45 (hval 3 45 v3 rfl rfl)
  obtain ⟨ao4, len4, cap4, rfl⟩ := okWide_slice Try.underlying54 (hval 4 54 v4 rfl rfl)
  obtain ⟨ao5, len5, cap5, rfl⟩ := okWide_slice Try.underlying54 (hval 5 54 v5 rfl rfl)
  have k3 := h3
  have k4 := h4
  have k5 := h5
  have lt3 : ∀ x ∈ p3, x.block < W.heap.size := by obtain ⟨m, hm⟩ := k3; exact DataW.trod_lt m _ _ _ hm
  have lt4 : ∀ x ∈ p4, x.block < W.heap.size := by obtain ⟨m, hm⟩ := k4; exact DataW.trod_lt m _ _ _ hm
  have lt5 : ∀ x ∈ p5, x.block < W.heap.size := by obtain ⟨m, hm⟩ := k5; exact DataW.trod_lt m _ _ _ hm
  obtain ⟨fu3, hf3⟩ := h3
  obtain ⟨fu4, hf4⟩ := h4
  obtain ⟨fu5, hf5⟩ := h5
  obtain ⟨ao3', len3', cap3', xs, e3, hx3, hw3⟩ := Sn.open_strs hf3
  obtain ⟨ao4', len4', cap4', e4, hx4, hw4⟩ := Sn.open_kints hf4
  obtain ⟨ao5', len5', cap5', e5, hx5, hw5⟩ := Sn.open_kints hf5
  obtain ⟨rfl, rfl, rfl⟩ : ao3 = ao3' ∧ len3 = len3' ∧ cap3 = cap3' := by simpa [Value.cells] using e3
  obtain ⟨rfl, rfl, rfl⟩ : ao4 = ao4' ∧ len4 = len4' ∧ cap4 = cap4' := by simpa [Value.cells] using e4
  obtain ⟨rfl, rfl, rfl⟩ : ao5 = ao5' ∧ len5 = len5' ∧ cap5 = cap5' := by simpa [Value.cells] using e5
  have hn3 : len3 * 16 ≤ reachBytes := hw3 reachBytes (by
    rw [List.all_eq_true] at hsz ⊢
    intro y hy
    exact hsz y (DataW.weights_mem_each (j := 3) (t := 45) (d := d3) rfl rfl y hy))
  have hn4 : len4 * 8 ≤ reachBytes := hw4 reachBytes (by
    rw [List.all_eq_true] at hsz ⊢
    intro y hy
    exact hsz y (DataW.weights_mem_each (j := 4) (t := 54) (d := d4) rfl rfl y hy))
  have hn5 : len5 * 8 ≤ reachBytes := hw5 reachBytes (by
    rw [List.all_eq_true] at hsz ⊢
    intro y hy
    exact hsz y (DataW.weights_mem_each (j := 5) (t := 54) (d := d5) rfl rfl y hy))
  simp only [reachBytes] at hn3 hn4 hn5
  clear hA0 hval0
  refine (Sn.serves_said a0 a1 a2 (bounds_i64 w0) (bounds_i64 w1) (bounds_i64 w2) ao3 len3 cap3 xs ao4 len4 cap4 ao5 len5 cap5 W (by omega) hx3 hx4 (by omega) hx5 (by omega)).mono fun e W' ⟨he, bel⟩ => ?_
  subst he
  exact ⟨_, rfl, _, _, _, [], _, [], hW', trodAll_mk1 (shut_bool Try.underlying4 _), (trodAll_cons_mk (shut_int Try.underlying3 w0) (trodAll_cons_mk (shut_int Try.underlying3 w1) (trodAll_cons_mk (shut_int Try.underlying3 w2) (trodAll_cons_mk (Below.trod laidOut (by kernel_rfl) (of_decide_eq_true (by kernel_rfl)) k3 bel lt3) (trodAll_cons_mk (Below.trod laidOut (by kernel_rfl) (of_decide_eq_true (by kernel_rfl)) k4 bel lt4) (trodAll_cons_mk (Below.trod laidOut (by kernel_rfl) (of_decide_eq_true (by kernel_rfl)) k5 bel lt5) trodAll_mk0)))))), rfl, bel.frame _, fun h => by cases h⟩

theorem over : Rows.servesRow.holds Try.pinned (OpenSpec.ofChange Rows.servesSpec) :=
  OpenClaim.holds_of_wide 5 Try.f5 rfl rfl rfl rfl rfl rfl rfl ⟨rfl, rfl, rfl, rfl, rfl⟩ rfl rfl rfl rfl rfl (by kernel_rfl) Try.func5 (by kernel_rfl)
    (of_decide_eq_true (by kernel_rfl)) (by unfold Func.isWrapper; first | (rw [if_pos (by decide +kernel)]; kernel_rfl) | (rw [if_neg (by decide +kernel)]; exact ⟨rfl, rfl⟩))
    (fun os started H enc _ => lifted os started H enc)

theorem proved : Rows.ServesSaid := over
end Go.Proofs.Ytkgnmcekeeannab.serves
namespace Go.Proofs.Ytkgnmcekeeannab
theorem serves_holds : Rows.ServesSaid := serves.proved
end Go.Proofs.Ytkgnmcekeeannab
