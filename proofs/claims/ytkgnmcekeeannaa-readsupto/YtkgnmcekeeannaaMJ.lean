import Derived.Test.YtkgnmcekeeannaaMI
namespace Go.Proofs.Ytkgnmcekeeannaa
open Go.RowKit Go.Deep
namespace Ms
open Bs
set_option linter.unusedVariables false

theorem refGuess (s : ByteArray) (w : World) (hs : s.size ≤ 1048576) :
    Calls Try.prog 51 #[.string s] w fun e w' => GuessOut (gRef s) e w w' ∧ Below w.heap.size w w' := by
  have hm : s.size ≤ maxLen := by unfold maxLen; omega
  unfold gRef
  by_cases h1 : 9 ≤ s.size ∧ byt s 0 = 68
  · rw [if_pos h1]; exact guess_data s w hm h1.1 h1.2
  · rw [if_neg h1]
    by_cases h2 : 4 ≤ s.size ∧ byt s 0 = 82
    · rw [if_pos h2]; exact guess_req s w hs h2.1 h2.2
    · rw [if_neg h2]
      by_cases h3 : s.size = 4 ∧ byt s 0 = 69
      · rw [if_pos h3]; exact guess_end s w h3.1 h3.2
      · rw [if_neg h3]
        by_cases h4 : 4 ≤ s.size
        · exact guess_other s w hm h4 h1 (fun e => h2 ⟨h4, e⟩) h3
        · exact guess_small s w (by omega)
end Ms
end Go.Proofs.Ytkgnmcekeeannaa
