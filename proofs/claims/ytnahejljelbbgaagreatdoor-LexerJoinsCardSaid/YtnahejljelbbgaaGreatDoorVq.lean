import Derived.Test.YtnahejljelbbgaaGreatDoorVo
import Derived.IntWalk
/- Sums and differences of 64 bits: what is known of them with no walk. -/
namespace Go.Proofs.YtnahejljelbbgaaGreatDoor
open Go.RowKit Go.Lib

def In64 (a : Int) : Prop := -9223372036854775808 ≤ a ∧ a ≤ 9223372036854775807
theorem wrap_in {n : Int} (h : In64 n) : wrap64 n = n := IntWalk.wrap64_in n ⟨h.1, h.2⟩
theorem wrap_over {n : Int} (h : 9223372036854775808 ≤ n) (h' : n ≤ 18446744073709551615) : wrap64 n = n - 18446744073709551616 := by
  unfold wrap64; omega
theorem wrap_under {n : Int} (h : n < -9223372036854775808) (h' : -18446744073709551616 ≤ n) : wrap64 n = n + 18446744073709551616 := by
  unfold wrap64; omega
theorem badPlus_in {a b : Int} (h : In64 (a + b)) : badPlus a b = false := by
  unfold badPlus
  rw [wrap_in h]
  have : decide (a < a + b) = decide (0 < b) := by rw [decide_eq_decide]; omega
  rw [this]; cases decide (0 < b) <;> rfl
theorem badPlus_out {a b : Int} (ha : In64 a) (hb : In64 b) (h : ¬ In64 (a + b)) : badPlus a b = true := by
  unfold badPlus
  unfold In64 at *
  by_cases h1 : 9223372036854775808 ≤ a + b
  · rw [wrap_over h1 (by omega), decide_eq_false (by omega), decide_eq_true (by omega)]; rfl
  · rw [wrap_under (by omega) (by omega), decide_eq_true (by omega), decide_eq_false (by omega)]; rfl
theorem badMinus_in {a b : Int} (h : In64 (a - b)) : badMinus a b = false := by
  unfold badMinus
  rw [wrap_in h]
  have : decide (a - b < a) = decide (0 < b) := by rw [decide_eq_decide]; omega
  rw [this]; cases decide (0 < b) <;> rfl
theorem badMinus_out {a b : Int} (ha : In64 a) (hb : In64 b) (h : ¬ In64 (a - b)) : badMinus a b = true := by
  unfold badMinus
  unfold In64 at *
  by_cases h1 : 9223372036854775808 ≤ a - b
  · rw [wrap_over h1 (by omega), decide_eq_true (by omega), decide_eq_false (by omega)]; rfl
  · rw [wrap_under (by omega) (by omega), decide_eq_false (by omega), decide_eq_true (by omega)]; rfl

theorem badPlus_eq {a b : Int} (ha : In64 a) (hb : In64 b) : (badPlus a b = false ↔ In64 (a + b)) := by
  refine ⟨fun h => ?_, badPlus_in⟩
  by_cases h1 : In64 (a + b)
  · exact h1
  · rw [badPlus_out ha hb h1] at h; cases h
theorem badMinus_eq {a b : Int} (ha : In64 a) (hb : In64 b) : (badMinus a b = false ↔ In64 (a - b)) := by
  refine ⟨fun h => ?_, badMinus_in⟩
  by_cases h1 : In64 (a - b)
  · exact h1
  · rw [badMinus_out ha hb h1] at h; cases h
theorem in64_of_wf {a : Int} (h : (Lit.int .i64 a).wf = true) : In64 a := by
  simp only [Lit.wf, IntKind.min, IntKind.max, IntKind.signed, IntKind.bits, Bool.and_eq_true, decide_eq_true_eq, if_true] at h
  unfold In64; omega

theorem nums1 (i i' : Int) : numsB 1 i ⟨#[]⟩ 1 i' ⟨#[]⟩ = true := nums_int i i'

end Go.Proofs.YtnahejljelbbgaaGreatDoor
