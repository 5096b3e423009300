import Derived.Test.YtnahejljelbbgaaGreatDoorVd
/- The chapter's examples (awake), and Few. -/
namespace Go.Proofs.YtnahejljelbbgaaGreatDoor
open Go.RowKit Go.Lib

theorem isEmpty_nil : (⟨#[]⟩ : ByteArray).toList.isEmpty = true := by rw [nilBytes]; rfl
theorem may_null : mayB 0 0 ⟨#[]⟩ = true := by simp [mayB, nilBytes]
theorem may_int (i : Int) : mayB 1 i ⟨#[]⟩ = true := by simp [mayB, nilBytes]
theorem may_false : mayB 3 0 ⟨#[]⟩ = true := by simp [mayB, nilBytes]
theorem may_true : mayB 3 1 ⟨#[]⟩ = true := by simp [mayB, nilBytes]

theorem nums_int (i i' : Int) : numsB 1 i ⟨#[]⟩ 1 i' ⟨#[]⟩ = true := by
  unfold numsB hK
  rw [may_int, may_int]
  decide

set_option maxRecDepth 100000 in
set_option maxHeartbeats 800000 in
theorem aw_text  (w : World) (m : Int) (hm : w.cell? ⟨3, 0, none⟩ = some (.int .i64 m)) :
    Calls Tryz.prog 30 #[.agg #[.int .i64 2, .int .i64 0, .string ⟨#[105, 116, 39, 115]⟩]] w fun e w' => e = .returned (.string ⟨#[39, 105, 116, 39, 39, 115, 39]⟩) ∧ Below w.heap.size w w' := by
  have hmay : mayB 2 0 ⟨#[105, 116, 39, 115]⟩ = true := by decide
  have hA := fun (W : World) (hW : W.cell? ⟨3, 0, none⟩ = some (.int .i64 m)) => Tryz.strings_ReplaceAll ⟨#[105, 116, 39, 115]⟩ ⟨#[39]⟩ ⟨#[39, 39]⟩ m W (by decide) hW (by decide) (by decide)
  have hB : (⟨(Lib.replaceAll [105, 116, 39, 115] [39] [39, 39]).toArray⟩ : ByteArray) = ⟨#[105, 116, 39, 39, 115]⟩ := by decide
  simp only [] at hA
  rw [hB] at hA
  have hlt : 3 < w.heap.size := World.block_lt_of_cell? w _ hm
  go_enter Tryz.func30, Tryz.ntmps30
  go_wp2_with (first
    | (go_at_call 24; refine (may_t _ _ _ _ hmay).mono ?_; rintro e w1 ⟨rfl, hb1⟩; have hc1 := (bcell hb1).1; have hf1 := (bcell hb1).2; have hy1 := hb1.size; (try simp at hy1); have hz1_0 : w.heap.size < w1.heap.size := (by omega))
    | (go_at_call 46; refine (hA _ (by exact (((((Below.refl w.heap.size w).alloc (Nat.le_refl _) _).trans (hb1.mono (by simp))).cell (p := ⟨3, 0, none⟩) hlt).trans hm))).mono ?_; rintro e w1 ⟨rfl, hb1⟩; have hc1 := (bcell hb1).1; have hf1 := (bcell hb1).2; have hy1 := hb1.size; (try simp at hy1); have hz1_0 : w.heap.size < w1.heap.size := (by omega)))
  go_ret
  refine ⟨rfl, ?_⟩
  repeat (first | (with_reducible exact Below.refl _ _) | ((with_reducible refine cSet3 ?_ ?_ _ _ _); (· ((try simp) <;> omega))) | (with_reducible refine Below.drew ?_) | ((with_reducible refine cAlloc ?_ ?_ _); (· ((try simp) <;> omega))) | ((with_reducible refine cOn (by assumption) ?_ ?_); (· ((try simp) <;> omega))))

theorem few_size {s : ByteArray} : (if 60 < s.size then s.extract 0 60 else s).size ≤ 60 := by
  split
  · simp; omega
  · omega
def fewS (s : ByteArray) : ByteArray := if 60 < s.size then s.extract 0 60 else s
theorem fewS_size (s : ByteArray) : (fewS s).size ≤ 60 := few_size

end Go.Proofs.YtnahejljelbbgaaGreatDoor
