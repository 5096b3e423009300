import Derived.Test.YtnahejljelbbgaaGreatDoorVa
/- The three-valued logic: Not, and the document's own And, Or, Not. -/
namespace Go.Proofs.YtnahejljelbbgaaGreatDoor
open Go.RowKit

theorem is_2_iff (k i : Int) (s : ByteArray) : decide (saysN k i s = 2) = decide (k = 3 ∧ i = 1 ∧ s.toList = []) := by
  unfold saysN
  by_cases h : k = 3 ∧ i = 0 ∧ s.toList = []
  · rw [if_pos h]; obtain ⟨_, rfl, _⟩ := h; simp
  · rw [if_neg h]; by_cases h' : k = 3 ∧ i = 1 ∧ s.toList = [] <;> simp [h']
theorem is_0_iff (k i : Int) (s : ByteArray) : decide (saysN k i s = 0) = decide (k = 3 ∧ i = 0 ∧ s.toList = []) := by
  unfold saysN
  by_cases h : k = 3 ∧ i = 0 ∧ s.toList = []
  · rw [if_pos h]; simp [h]
  · rw [if_neg h]; by_cases h' : k = 3 ∧ i = 1 ∧ s.toList = [] <;> simp [h, h']

end Go.Proofs.YtnahejljelbbgaaGreatDoor
