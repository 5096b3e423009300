import Derived.Test.YtnahejljelbbgaaDoorVo
import Derived.IntWalk
/- Sums and differences of 64 bits: what is known of them with no walk. -/
namespace Go.Proofs.YtnahejljelbbgaaDoor
open Go.RowKit Go.Lib

def In64 (a : Int) : Prop := -9223372036854775808 ≤ a ∧ a ≤ 9223372036854775807
theorem wrap_in {n : Int} (h : In64 n) : wrap64 n = n := IntWalk.wrap64_in n ⟨h.1, h.2⟩
theorem wrap_over {n : Int} (h : 9223372036854775808 ≤ n) (h' : n ≤ 18446744073709551615) : wrap64 n = n - 18446744073709551616 := by
  unfold wrap64; omega
theorem wrap_under {n : Int} (h : n < -9223372036854775808) (h' : -18446744073709551616 ≤ n) : wrap64 n = n + 18446744073709551616 := by
  unfold wrap64; omega
theorem badPlus_in {a b : Int} (h : In64 (a + b)) : badPlus a b = false := by
  unfold badPlus
  rw [wrap_in h]
  have : decide (a < a + b) = decide (0 < b) := by rw [decide_eq_decide]; omega
  rw [this]; cases decide (0 < b) <;> rfl
theorem badPlus_out {a b : Int} (ha : In64 a) (hb : In64 b) (h : ¬ In64 (a + b)) : badPlus a b = true := by
  unfold badPlus
  unfold In64 at *
  by_cases h1 : 9223372036854775808 ≤ a + b
  · rw [wrap_over h1 (by omega), decide_eq_false (by omega), decide_eq_true (by omega)]; rfl
  · rw [wrap_under (by omega) (by omega), decide_eq_true (by omega), decide_eq_false (by omega)]; rfl
theorem badMinus_in {a b : Int} (h : In64 (a - b)) : badMinus a b = false := by
  unfold badMinus
  rw [wrap_in h]
  have : decide (a - b < a) = decide (0 < b) := by rw [decide_eq_decide]; omega
  rw [this]; cases decide (0 < b) <;> rfl
theorem badMinus_out {a b : Int} (ha : In64 a) (hb : In64 b) (h : ¬ In64 (a - b)) : badMinus a b = true := by
  unfold badMinus
  unfold In64 at *
  by_cases h1 : 9223372036854775808 ≤ a - b
  · rw [wrap_over h1 (by omega), decide_eq_true (by omega), decide_eq_false (by omega)]; rfl
  · rw [wrap_under (by omega) (by omega), decide_eq_false (by omega), decide_eq_true (by omega)]; rfl

theorem badPlus_eq {a b : Int} (ha : In64 a) (hb : In64 b) : (badPlus a b = false ↔ In64 (a + b)) := by
  refine ⟨fun h => ?_, badPlus_in⟩
  by_cases h1 : In64 (a + b)
  · exact h1
  · rw [badPlus_out ha hb h1] at h; cases h
theorem badMinus_eq {a b : Int} (ha : In64 a) (hb : In64 b) : (badMinus a b = false ↔ In64 (a - b)) := by
  refine ⟨fun h => ?_, badMinus_in⟩
  by_cases h1 : In64 (a - b)
  · exact h1
  · rw [badMinus_out ha hb h1] at h; cases h
theorem in64_of_wf {a : Int} (h : (Lit.int .i64 a).wf = true) : In64 a := by
  simp only [Lit.wf, IntKind.min, IntKind.max, IntKind.signed, IntKind.bits, Bool.and_eq_true, decide_eq_true_eq, if_true] at h
  unfold In64; omega

theorem nums1 (i i' : Int) : numsB 1 i ⟨#[]⟩ 1 i' ⟨#[]⟩ = true := nums_int i i'

theorem num_plus_ok (a b : Int) (w : World) (ha : In64 a) (hb : In64 b) (h : In64 (a + b)) :
    Calls Tryd.prog 26 #[.agg #[.int .i64 1, .int .i64 a, .string ⟨#[]⟩], .agg #[.int .i64 1, .int .i64 b, .string ⟨#[]⟩]] w fun e w' => e = .returned (.agg #[.int .i64 1, .int .i64 (a + b), .string ⟨#[]⟩]) ∧ Below w.heap.size w w' := by
  have h1 := plus_yes 1 a ⟨#[]⟩ 1 b ⟨#[]⟩ w (nums_int _ _) (badPlus_in h)
  rw [wrap_in h] at h1
  exact h1
theorem num_plus_bad (a b : Int) (w : World) (ha : In64 a) (hb : In64 b) (h : ¬ In64 (a + b)) :
    Calls Tryd.prog 26 #[.agg #[.int .i64 1, .int .i64 a, .string ⟨#[]⟩], .agg #[.int .i64 1, .int .i64 b, .string ⟨#[]⟩]] w fun e w' => e = .returned (.agg #[.int .i64 0, .int .i64 0, .string ⟨#[]⟩]) ∧ Below w.heap.size w w' :=
  plus_bad 1 a ⟨#[]⟩ 1 b ⟨#[]⟩ w (nums_int _ _) (badPlus_out ha hb h)
theorem num_plus_sw (a b : Int) (w : World) (ha : In64 a) (hb : In64 b) (h : In64 (a + b)) :
    Calls Tryd.prog 26 #[.agg #[.int .i64 1, .int .i64 b, .string ⟨#[]⟩], .agg #[.int .i64 1, .int .i64 a, .string ⟨#[]⟩]] w fun e w' => e = .returned (.agg #[.int .i64 1, .int .i64 (a + b), .string ⟨#[]⟩]) ∧ Below w.heap.size w w' := by
  rw [Int.add_comm a b] at h ⊢
  exact num_plus_ok b a w hb ha h
theorem num_plus_swbad (a b : Int) (w : World) (ha : In64 a) (hb : In64 b) (h : ¬ In64 (a + b)) :
    Calls Tryd.prog 26 #[.agg #[.int .i64 1, .int .i64 b, .string ⟨#[]⟩], .agg #[.int .i64 1, .int .i64 a, .string ⟨#[]⟩]] w fun e w' => e = .returned (.agg #[.int .i64 0, .int .i64 0, .string ⟨#[]⟩]) ∧ Below w.heap.size w w' := by
  rw [Int.add_comm a b] at h
  exact num_plus_bad b a w hb ha h
theorem num_forth (a b : Int) (w : World) (ha : In64 a) (hb : In64 b) (h : In64 (a - b)) :
    Calls Tryd.prog 26 #[.agg #[.int .i64 1, .int .i64 (a - b), .string ⟨#[]⟩], .agg #[.int .i64 1, .int .i64 b, .string ⟨#[]⟩]] w fun e w' => e = .returned (.agg #[.int .i64 1, .int .i64 a, .string ⟨#[]⟩]) ∧ Below w.heap.size w w' := by
  have h1 := num_plus_ok (a - b) b w h hb (by rw [Int.sub_add_cancel]; exact ha)
  rw [Int.sub_add_cancel] at h1
  exact h1
end Go.Proofs.YtnahejljelbbgaaDoor
