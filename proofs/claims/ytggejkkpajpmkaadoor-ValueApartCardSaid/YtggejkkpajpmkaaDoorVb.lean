import Derived.Test.YtggejkkpajpmkaaDoorVa
/- The three-valued logic: Not, and the document's own And, Or, Not. -/
namespace Go.Proofs.YtggejkkpajpmkaaDoor
open Go.RowKit

theorem is_2_iff (k i : Int) (s : ByteArray) : decide (saysN k i s = 2) = decide (k = 3 ∧ i = 1 ∧ s.toList = []) := by
  unfold saysN
  by_cases h : k = 3 ∧ i = 0 ∧ s.toList = []
  · rw [if_pos h]; obtain ⟨_, rfl, _⟩ := h; simp
  · rw [if_neg h]; by_cases h' : k = 3 ∧ i = 1 ∧ s.toList = [] <;> simp [h']
theorem is_0_iff (k i : Int) (s : ByteArray) : decide (saysN k i s = 0) = decide (k = 3 ∧ i = 0 ∧ s.toList = []) := by
  unfold saysN
  by_cases h : k = 3 ∧ i = 0 ∧ s.toList = []
  · rw [if_pos h]; simp [h]
  · rw [if_neg h]; by_cases h' : k = 3 ∧ i = 1 ∧ s.toList = [] <;> simp [h, h']

set_option maxHeartbeats 400000 in
theorem rtruth_t  (w : World) :
    Calls Tryd.prog 20 #[.bool true] w fun e w' => e = .returned (.agg #[.int .i64 3, .int .i64 1, .string ⟨#[]⟩]) ∧ Below w.heap.size w w' := by
  go_enter Tryd.func20, Tryd.ntmps20
  go_wp2
  exact bodyPost_ret (v := .agg #[.int .i64 3, .int .i64 1, .string ⟨#[]⟩]) (by simp [results, Tryd.results20, go_sem]) rfl ⟨rfl, (Below.refl _ _).alloc (Nat.le_refl _) _⟩

set_option maxHeartbeats 400000 in
theorem rtruth_f  (w : World) :
    Calls Tryd.prog 20 #[.bool false] w fun e w' => e = .returned (.agg #[.int .i64 3, .int .i64 0, .string ⟨#[]⟩]) ∧ Below w.heap.size w w' := by
  go_enter Tryd.func20, Tryd.ntmps20
  go_wp2
  exact bodyPost_ret (v := .agg #[.int .i64 3, .int .i64 0, .string ⟨#[]⟩]) (by simp [results, Tryd.results20, go_sem]) rfl ⟨rfl, (Below.refl _ _).alloc (Nat.le_refl _) _⟩

end Go.Proofs.YtggejkkpajpmkaaDoor
