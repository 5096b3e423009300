import Derived.Test.YtnahejljelbbgaaCn
/- The chapter's examples (awake). -/
namespace Go.Proofs.Ytnahejljelbbgaa
open Go.RowKit Go.Lib

theorem aw_first (w : World) :
    Calls Try.prog 15 #[.string ⟨#[1]⟩] w fun e w' => e = .returned (.tuple #[.agg #[.int .i64 0, .int .i64 0, .string ⟨#[]⟩], .int .i64 0, .int .i64 17]) ∧ Below w.heap.size w w' := by
  exact first_no 0 0 ⟨#[]⟩ ⟨#[1]⟩ 0 w fun g w h => rv_num_short g ⟨#[1]⟩ w h (by decide) (by decide) (by decide) (by decide)

theorem aw_five (w : World) :
    Calls Try.prog 8 #[.agg #[.int .i64 1, .int .i64 5, .string ⟨#[]⟩]] w fun e w' => e = .returned (.string ⟨#[1, 128, 0, 0, 0, 0, 0, 0, 5]⟩) ∧ Below w.heap.size w w' := by
  have h := value_any 1 5 ⟨#[]⟩ w (by unfold In64; omega)
  unfold valO at h
  rw [may_int, if_pos rfl, if_pos rfl] at h
  exact h

theorem aw_a (w : World) :
    Calls Try.prog 8 #[.agg #[.int .i64 2, .int .i64 0, .string ⟨#[97]⟩]] w fun e w' => e = .returned (.string ⟨#[2, 97, 0]⟩) ∧ Below w.heap.size w w' := by
  have h := value_any 2 0 ⟨#[97]⟩ w (by unfold In64; omega)
  unfold valO at h
  rw [show mayB 2 0 ⟨#[97]⟩ = true by decide] at h
  exact h

set_option maxRecDepth 100000 in
set_option maxHeartbeats 4000000 in
theorem awake2_any (w : World) :
    Calls Try.prog 6 #[] w fun e w' => e = .returned (.bool true) ∧ Below w.heap.size w w' := by
  go_enter Try.func6, Try.ntmps6
  go_wp2_with (first
    | (go_at_call 15; refine (aw_first _).mono ?_; rintro e w1 ⟨rfl, hb1⟩; have hc1 := (bcell hb1).1; have hf1 := (bcell hb1).2; have hy1 := hb1.size; (try simp at hy1))
    | (go_at_call_of 8 (Value.agg #[.int .i64 1, .int .i64 5, .string ⟨#[]⟩]); refine (aw_five _).mono ?_; rintro e w2 ⟨rfl, hb2⟩; have hc2 := (bcell hb2).1; have hf2 := (bcell hb2).2; have hy2 := hb2.size; (try simp at hy2))
    | (go_at_call_of 8 (Value.agg #[.int .i64 2, .int .i64 0, .string ⟨#[97]⟩]); refine (aw_a _).mono ?_; rintro e w3 ⟨rfl, hb3⟩; have hc3 := (bcell hb3).1; have hf3 := (bcell hb3).2; have hy3 := hb3.size; (try simp at hy3)))
  go_ret
  refine ⟨rfl, ?_⟩
  repeat (first | (with_reducible exact Below.refl _ _) | ((with_reducible refine cSet3 ?_ ?_ _ _ _); (· ((try simp) <;> omega))) | (with_reducible refine Below.drew ?_) | ((with_reducible refine cAlloc ?_ ?_ _); (· ((try simp) <;> omega))) | ((with_reducible refine cOn (by assumption) ?_ ?_); (· ((try simp) <;> omega))))

end Go.Proofs.Ytnahejljelbbgaa
