import Derived.Test.YtnahejljelbbgaaDoorVd
/- The chapter's examples (awake), and Few. -/
namespace Go.Proofs.YtnahejljelbbgaaDoor
open Go.RowKit Go.Lib

theorem isEmpty_nil : (⟨#[]⟩ : ByteArray).toList.isEmpty = true := by rw [nilBytes]; rfl
theorem may_null : mayB 0 0 ⟨#[]⟩ = true := by simp [mayB, nilBytes]
theorem may_int (i : Int) : mayB 1 i ⟨#[]⟩ = true := by simp [mayB, nilBytes]
theorem may_false : mayB 3 0 ⟨#[]⟩ = true := by simp [mayB, nilBytes]
theorem may_true : mayB 3 1 ⟨#[]⟩ = true := by simp [mayB, nilBytes]

set_option maxRecDepth 100000 in
set_option maxHeartbeats 800000 in
theorem aw_and  (w : World) :
    Calls Tryd.prog 24 #[.agg #[.int .i64 0, .int .i64 0, .string ⟨#[]⟩], .agg #[.int .i64 3, .int .i64 0, .string ⟨#[]⟩]] w fun e w' => e = .returned (.agg #[.int .i64 3, .int .i64 0, .string ⟨#[]⟩]) ∧ Below w.heap.size w w' := by
  have h := and_any 0 0 ⟨#[]⟩ 3 0 ⟨#[]⟩ w
  rw [saysN_1 (k := 0) (fun h => absurd h (by decide)), saysN_0 (k := 3) rfl rfl nilBytes] at h
  exact h

set_option maxRecDepth 100000 in
set_option maxHeartbeats 800000 in
theorem aw_less  (w : World) :
    Calls Tryd.prog 25 #[.agg #[.int .i64 1, .int .i64 1, .string ⟨#[]⟩], .agg #[.int .i64 2, .int .i64 0, .string ⟨#[97]⟩]] w fun e w' => e = .returned (.agg #[.int .i64 0, .int .i64 0, .string ⟨#[]⟩]) ∧ Below w.heap.size w w' := by
  refine less_no 1 1 ⟨#[]⟩ 2 0 ⟨#[97]⟩ w ?_
  unfold alikeB hK
  rw [may_int]
  simp only [if_true]
  split <;> decide

theorem nums_int (i i' : Int) : numsB 1 i ⟨#[]⟩ 1 i' ⟨#[]⟩ = true := by
  unfold numsB hK
  rw [may_int, may_int]
  decide

set_option maxRecDepth 100000 in
set_option maxHeartbeats 800000 in
theorem aw_plus_max  (w : World) :
    Calls Tryd.prog 26 #[.agg #[.int .i64 1, .int .i64 9223372036854775807, .string ⟨#[]⟩], .agg #[.int .i64 1, .int .i64 1, .string ⟨#[]⟩]] w fun e w' => e = .returned (.agg #[.int .i64 0, .int .i64 0, .string ⟨#[]⟩]) ∧ Below w.heap.size w w' := by
  exact plus_bad 1 9223372036854775807 ⟨#[]⟩ 1 1 ⟨#[]⟩ w (nums_int _ _) (by kernel_rfl)

set_option maxRecDepth 100000 in
set_option maxHeartbeats 800000 in
theorem aw_plus_one  (w : World) :
    Calls Tryd.prog 26 #[.agg #[.int .i64 1, .int .i64 1, .string ⟨#[]⟩], .agg #[.int .i64 1, .int .i64 1, .string ⟨#[]⟩]] w fun e w' => e = .returned (.agg #[.int .i64 1, .int .i64 2, .string ⟨#[]⟩]) ∧ Below w.heap.size w w' := by
  have h := plus_yes 1 1 ⟨#[]⟩ 1 1 ⟨#[]⟩ w (nums_int _ _) (by kernel_rfl)
  rw [show wrap64 (1 + 1) = 2 by kernel_rfl] at h
  exact h

set_option maxRecDepth 100000 in
set_option maxHeartbeats 800000 in
theorem aw_text  (w : World) (m : Int) (hm : w.cell? ⟨1, 0, none⟩ = some (.int .i64 m)) :
    Calls Tryd.prog 7 #[.agg #[.int .i64 2, .int .i64 0, .string ⟨#[105, 116, 39, 115]⟩]] w fun e w' => e = .returned (.string ⟨#[39, 105, 116, 39, 39, 115, 39]⟩) ∧ Below w.heap.size w w' := by
  have hmay : mayB 2 0 ⟨#[105, 116, 39, 115]⟩ = true := by decide
  have hA := fun (W : World) (hW : W.cell? ⟨1, 0, none⟩ = some (.int .i64 m)) => Tryd.strings_ReplaceAll ⟨#[105, 116, 39, 115]⟩ ⟨#[39]⟩ ⟨#[39, 39]⟩ m W (by decide) hW (by decide) (by decide)
  have hB : (⟨(Lib.replaceAll [105, 116, 39, 115] [39] [39, 39]).toArray⟩ : ByteArray) = ⟨#[105, 116, 39, 39, 115]⟩ := by decide
  simp only [] at hA
  rw [hB] at hA
  have hlt : 1 < w.heap.size := World.block_lt_of_cell? w _ hm
  go_enter Tryd.func7, Tryd.ntmps7
  go_wp2_with (first
    | (go_at_call 18; refine (may_t _ _ _ _ hmay).mono ?_; rintro e w1 ⟨rfl, hb1⟩; have hc1 := (bcell hb1).1; have hf1 := (bcell hb1).2; have hy1 := hb1.size; (try simp at hy1); have hz1_0 : w.heap.size < w1.heap.size := (by omega))
    | (go_at_call 20; refine (hA _ (by exact (((((Below.refl w.heap.size w).alloc (Nat.le_refl _) _).trans (hb1.mono (by simp))).cell (p := ⟨1, 0, none⟩) hlt).trans hm))).mono ?_; rintro e w1 ⟨rfl, hb1⟩; have hc1 := (bcell hb1).1; have hf1 := (bcell hb1).2; have hy1 := hb1.size; (try simp at hy1); have hz1_0 : w.heap.size < w1.heap.size := (by omega)))
  go_ret
  refine ⟨rfl, ?_⟩
  repeat (first | (with_reducible exact Below.refl _ _) | ((with_reducible refine cSet3 ?_ ?_ _ _ _); (· ((try simp) <;> omega))) | (with_reducible refine Below.drew ?_) | ((with_reducible refine cAlloc ?_ ?_ _); (· ((try simp) <;> omega))) | ((with_reducible refine cOn (by assumption) ?_ ?_); (· ((try simp) <;> omega))))

theorem few_size {s : ByteArray} : (if 60 < s.size then s.extract 0 60 else s).size ≤ 60 := by
  split
  · simp; omega
  · omega
def fewS (s : ByteArray) : ByteArray := if 60 < s.size then s.extract 0 60 else s
set_option maxRecDepth 100000 in
set_option maxHeartbeats 800000 in
theorem few_any (k i : Int) (s : ByteArray) (w : World) (hs : s.size ≤ maxLen) :
    Calls Tryd.prog 6 #[.agg #[.int .i64 k, .int .i64 i, .string s]] w fun e w' => e = .returned (.agg #[.int .i64 k, .int .i64 i, .string (fewS s)]) ∧ Below w.heap.size w w' := by
  unfold maxLen at hs
  go_enter Tryd.func6, Tryd.ntmps6
  go_wp2
  · have e : fewS s = s.extract 0 60 := if_pos (by omega)
    rw [e]
    (refine bodyPost_ret (v := .agg #[.int .i64 k, .int .i64 i, .string (s.extract 0 60)]) ?_ rfl ⟨rfl, ?_⟩; (· (simp [results, Tryd.results6, go_sem]; done)))
    repeat (first | (with_reducible exact Below.refl _ _) | ((with_reducible refine cSet3 ?_ ?_ _ _ _); (· ((try simp) <;> omega))) | (with_reducible refine Below.drew ?_) | ((with_reducible refine cAlloc ?_ ?_ _); (· ((try simp) <;> omega))) | ((with_reducible refine cOn (by assumption) ?_ ?_); (· ((try simp) <;> omega))))
  · have e : fewS s = s := if_neg (by omega)
    rw [e]
    (refine bodyPost_ret (v := .agg #[.int .i64 k, .int .i64 i, .string s]) ?_ rfl ⟨rfl, ?_⟩; (· (simp [results, Tryd.results6, go_sem]; done)))
    repeat (first | (with_reducible exact Below.refl _ _) | ((with_reducible refine cSet3 ?_ ?_ _ _ _); (· ((try simp) <;> omega))) | (with_reducible refine Below.drew ?_) | ((with_reducible refine cAlloc ?_ ?_ _); (· ((try simp) <;> omega))) | ((with_reducible refine cOn (by assumption) ?_ ?_); (· ((try simp) <;> omega))))

theorem fewS_size (s : ByteArray) : (fewS s).size ≤ 60 := few_size

set_option maxRecDepth 100000 in
set_option maxHeartbeats 800000 in
theorem awake_any  (w : World) (m : Int) (hm : w.cell? ⟨1, 0, none⟩ = some (.int .i64 m)) :
    Calls Tryd.prog 12 #[] w fun e w' => e = .returned (.bool true) ∧ Below w.heap.size w w' := by
  have hfl := fld1
  have hlt : 1 < w.heap.size := World.block_lt_of_cell? w _ hm
  go_enter Tryd.func12, Tryd.ntmps12
  go_wp2_with (first
    | (go_at_call 24; refine (aw_and _).mono ?_; rintro e w1 ⟨rfl, hb1⟩; have hc1 := (bcell hb1).1; have hf1 := (bcell hb1).2; have hy1 := hb1.size; (try simp at hy1); have hz1_0 : w.heap.size < w1.heap.size := (by omega))
    | (go_at_call 25; refine (aw_less _).mono ?_; rintro e w1 ⟨rfl, hb1⟩; have hc1 := (bcell hb1).1; have hf1 := (bcell hb1).2; have hy1 := hb1.size; (try simp at hy1); have hz1_0 : w.heap.size < w1.heap.size := (by omega))
    | (go_at_call_of 26 (Value.agg #[.int .i64 1, .int .i64 9223372036854775807, .string ⟨#[]⟩]); refine (aw_plus_max _).mono ?_; rintro e w1 ⟨rfl, hb1⟩; have hc1 := (bcell hb1).1; have hf1 := (bcell hb1).2; have hy1 := hb1.size; (try simp at hy1); have hz1_0 : w.heap.size < w1.heap.size := (by omega))
    | (go_at_call_of 26 (Value.agg #[.int .i64 1, .int .i64 1, .string ⟨#[]⟩]); refine (aw_plus_one _).mono ?_; rintro e w1 ⟨rfl, hb1⟩; have hc1 := (bcell hb1).1; have hf1 := (bcell hb1).2; have hy1 := hb1.size; (try simp at hy1); have hz1_0 : w.heap.size < w1.heap.size := (by omega))
    | (go_at_call 7; refine (aw_text _ m ((Below.cell (w := w) (B := w.heap.size) (p := ⟨1, 0, none⟩) (by repeat (first | (with_reducible exact Below.refl _ _) | ((with_reducible refine cSet3 ?_ ?_ _ _ _); (· ((try simp) <;> omega))) | (with_reducible refine Below.drew ?_) | ((with_reducible refine cAlloc ?_ ?_ _); (· ((try simp) <;> omega))) | ((with_reducible refine cOn (by assumption) ?_ ?_); (· ((try simp) <;> omega))))) hlt).trans hm)).mono ?_; rintro e w1 ⟨rfl, hb1⟩; have hc1 := (bcell hb1).1; have hf1 := (bcell hb1).2; have hy1 := hb1.size; (try simp at hy1); have hz1_0 : w.heap.size < w1.heap.size := (by omega)))
  go_ret
  refine ⟨rfl, ?_⟩
  repeat (first | (with_reducible exact Below.refl _ _) | ((with_reducible refine cSet3 ?_ ?_ _ _ _); (· ((try simp) <;> omega))) | (with_reducible refine Below.drew ?_) | ((with_reducible refine cAlloc ?_ ?_ _); (· ((try simp) <;> omega))) | ((with_reducible refine cOn (by assumption) ?_ ?_); (· ((try simp) <;> omega))))

end Go.Proofs.YtnahejljelbbgaaDoor
