import Derived.Test.YtnahejljelbbgaaVd
/- The chapter's examples (awake), and Few. -/
namespace Go.Proofs.Ytnahejljelbbgaa
open Go.RowKit Go.Lib

theorem isEmpty_nil : (⟨#[]⟩ : ByteArray).toList.isEmpty = true := by rw [nilBytes]; rfl
theorem may_null : mayB 0 0 ⟨#[]⟩ = true := by simp [mayB, nilBytes]
theorem may_int (i : Int) : mayB 1 i ⟨#[]⟩ = true := by simp [mayB, nilBytes]
theorem may_false : mayB 3 0 ⟨#[]⟩ = true := by simp [mayB, nilBytes]
theorem may_true : mayB 3 1 ⟨#[]⟩ = true := by simp [mayB, nilBytes]

theorem nums_int (i i' : Int) : numsB 1 i ⟨#[]⟩ 1 i' ⟨#[]⟩ = true := by
  unfold numsB hK
  rw [may_int, may_int]
  decide

theorem few_size {s : ByteArray} : (if 60 < s.size then s.extract 0 60 else s).size ≤ 60 := by
  split
  · simp; omega
  · omega
def fewS (s : ByteArray) : ByteArray := if 60 < s.size then s.extract 0 60 else s
set_option maxRecDepth 100000 in
set_option maxHeartbeats 800000 in
theorem few_any (k i : Int) (s : ByteArray) (w : World) (hs : s.size ≤ maxLen) :
    Calls Try.prog 10 #[.agg #[.int .i64 k, .int .i64 i, .string s]] w fun e w' => e = .returned (.agg #[.int .i64 k, .int .i64 i, .string (fewS s)]) ∧ Below w.heap.size w w' := by
  unfold maxLen at hs
  go_enter Try.func10, Try.ntmps10
  go_wp2
  · have e : fewS s = s.extract 0 60 := if_pos (by omega)
    rw [e]
    (refine bodyPost_ret (v := .agg #[.int .i64 k, .int .i64 i, .string (s.extract 0 60)]) ?_ rfl ⟨rfl, ?_⟩; (· (simp [results, Try.results10, go_sem]; done)))
    repeat (first | (with_reducible exact Below.refl _ _) | ((with_reducible refine cSet3 ?_ ?_ _ _ _); (· ((try simp) <;> omega))) | (with_reducible refine Below.drew ?_) | ((with_reducible refine cAlloc ?_ ?_ _); (· ((try simp) <;> omega))) | ((with_reducible refine cOn (by assumption) ?_ ?_); (· ((try simp) <;> omega))))
  · have e : fewS s = s := if_neg (by omega)
    rw [e]
    (refine bodyPost_ret (v := .agg #[.int .i64 k, .int .i64 i, .string s]) ?_ rfl ⟨rfl, ?_⟩; (· (simp [results, Try.results10, go_sem]; done)))
    repeat (first | (with_reducible exact Below.refl _ _) | ((with_reducible refine cSet3 ?_ ?_ _ _ _); (· ((try simp) <;> omega))) | (with_reducible refine Below.drew ?_) | ((with_reducible refine cAlloc ?_ ?_ _); (· ((try simp) <;> omega))) | ((with_reducible refine cOn (by assumption) ?_ ?_); (· ((try simp) <;> omega))))

theorem fewS_size (s : ByteArray) : (fewS s).size ≤ 60 := few_size

end Go.Proofs.Ytnahejljelbbgaa
