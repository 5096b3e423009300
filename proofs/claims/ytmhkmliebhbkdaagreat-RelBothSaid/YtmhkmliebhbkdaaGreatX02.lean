import Derived.Test.YtmhkmliebhbkdaaGreatX01

/- The three-valued logic: Not, and the document's own And, Or, Not. -/
namespace Go.Proofs.YtmhkmliebhbkdaaGreat
open Go.RowKit

theorem is_2_iff (k i : Int) (s : ByteArray) : decide (saysN k i s = 2) = decide (k = 3 ∧ i = 1 ∧ s.toList = []) := by
  unfold saysN
  by_cases h : k = 3 ∧ i = 0 ∧ s.toList = []
  · rw [if_pos h]; obtain ⟨_, rfl, _⟩ := h; simp
  · rw [if_neg h]; by_cases h' : k = 3 ∧ i = 1 ∧ s.toList = [] <;> simp [h']
theorem is_0_iff (k i : Int) (s : ByteArray) : decide (saysN k i s = 0) = decide (k = 3 ∧ i = 0 ∧ s.toList = []) := by
  unfold saysN
  by_cases h : k = 3 ∧ i = 0 ∧ s.toList = []
  · rw [if_pos h]; simp [h]
  · rw [if_neg h]; by_cases h' : k = 3 ∧ i = 1 ∧ s.toList = [] <;> simp [h, h']

set_option maxHeartbeats 400000 in
theorem not_any (k i : Int) (s : ByteArray) (w : World) :
    Calls Tryz.prog 107 #[.agg #[.int .i64 k, .int .i64 i, .string s]] w fun e w' => e = .returned (.agg #[.int .i64 (triK (2 - saysN k i s)), .int .i64 (triI (2 - saysN k i s)), .string ⟨#[]⟩]) ∧ Below w.heap.size w w' := by
  have hx := saysN_bd k i s
  go_enter Tryz.func107, Tryz.ntmps107
  go_wp2_with (first
    | (go_at_call 145; refine (says_any _ _ _ _).mono ?_; rintro e w1 ⟨rfl, hb1⟩; have hc1 := (bcell hb1).1; have hf1 := (bcell hb1).2; have hy1 := hb1.size; (try simp at hy1); have hz1_0 : w.heap.size < w1.heap.size := (by omega); have hz1_1 : w.heap.size + 1 < w1.heap.size := (by omega))
    | (go_at_call 144; refine (said_any _ _ (by omega) (by omega)).mono ?_; rintro e w2 ⟨rfl, hb2⟩; have hc2 := (bcell hb2).1; have hf2 := (bcell hb2).2; have hy2 := hb2.size; (try simp at hy2); have hz2_0 : w.heap.size < w2.heap.size := (by omega); have hz2_1 : w.heap.size + 1 < w2.heap.size := (by omega)))
  refine bodyPost_ret (v := .agg #[.int .i64 (triK (2 - saysN k i s)), .int .i64 (triI (2 - saysN k i s)), .string ⟨#[]⟩]) (by simp [results, Tryz.results107, go_sem, *]; done) rfl ⟨rfl, ?_⟩
  repeat (first | (with_reducible exact Below.refl _ _) | ((with_reducible refine cSet3 ?_ ?_ _ _ _); (· ((try simp) <;> omega))) | (with_reducible refine Below.drew ?_) | ((with_reducible refine cAlloc ?_ ?_ _); (· ((try simp) <;> omega))) | ((with_reducible refine cOn (by assumption) ?_ ?_); (· ((try simp) <;> omega))))

set_option maxHeartbeats 400000 in
theorem rtruth_t  (w : World) :
    Calls Tryz.prog 71 #[.bool true] w fun e w' => e = .returned (.agg #[.int .i64 3, .int .i64 1, .string ⟨#[]⟩]) ∧ Below w.heap.size w w' := by
  go_enter Tryz.func71, Tryz.ntmps71
  go_wp2
  exact bodyPost_ret (v := .agg #[.int .i64 3, .int .i64 1, .string ⟨#[]⟩]) (by simp [results, Tryz.results71, go_sem]) rfl ⟨rfl, (Below.refl _ _).alloc (Nat.le_refl _) _⟩

set_option maxHeartbeats 400000 in
theorem rtruth_f  (w : World) :
    Calls Tryz.prog 71 #[.bool false] w fun e w' => e = .returned (.agg #[.int .i64 3, .int .i64 0, .string ⟨#[]⟩]) ∧ Below w.heap.size w w' := by
  go_enter Tryz.func71, Tryz.ntmps71
  go_wp2
  exact bodyPost_ret (v := .agg #[.int .i64 3, .int .i64 0, .string ⟨#[]⟩]) (by simp [results, Tryz.results71, go_sem]) rfl ⟨rfl, (Below.refl _ _).alloc (Nat.le_refl _) _⟩

set_option maxHeartbeats 400000 in
theorem is_t (k i : Int) (s : ByteArray) (w : World) :
    Calls Tryz.prog 35 #[.agg #[.int .i64 k, .int .i64 i, .string s], .bool true] w fun e w' => e = .returned (.bool (decide (saysN k i s = 2))) ∧ Below w.heap.size w w' := by
  go_enter Tryz.func35, Tryz.ntmps35
  go_wp2
  refine detL_begin [.val (.agg #[.int .i64 k, .int .i64 i, .string s]), .val (.bool true), .val (.agg #[.int .i64 3, .int .i64 1, .string ⟨#[]⟩]), .val (.bool (decide (saysN k i s = 2))), .val (.bool (decide (saysN k i s = 2)))] 5 (by kernel_rfl) ?_
  repeat
    (refine detL_val (by kernel_rfl) (yields_of rfl fun w1 hb1 => ?_) ?_
     · have hc1 := (bcell hb1).1
       clear hb1
       go_simp
       with_reducible first
         | exact Det1_same
         | exact Det1_enter (rtruth_t _)
         | exact Det1_eq3 (is_2_iff k i s)
     simp only [Act.put, List.setIfInBounds_toArray, List.set_cons_zero, List.set_cons_succ])
  refine detL_done (by kernel_rfl) fun w1 hw1 => ?_
  have hb1 := hw1.below
  go_wp2
  go_ret
  refine ⟨rfl, ?_⟩
  repeat (first | (with_reducible exact Below.refl _ _) | ((with_reducible refine cSet3 ?_ ?_ _ _ _); (· ((try simp) <;> omega))) | (with_reducible refine Below.drew ?_) | ((with_reducible refine cAlloc ?_ ?_ _); (· ((try simp) <;> omega))) | ((with_reducible refine cOn (by assumption) ?_ ?_); (· ((try simp) <;> omega))))

set_option maxHeartbeats 400000 in
theorem is_f (k i : Int) (s : ByteArray) (w : World) :
    Calls Tryz.prog 35 #[.agg #[.int .i64 k, .int .i64 i, .string s], .bool false] w fun e w' => e = .returned (.bool (decide (saysN k i s = 0))) ∧ Below w.heap.size w w' := by
  go_enter Tryz.func35, Tryz.ntmps35
  go_wp2
  refine detL_begin [.val (.agg #[.int .i64 k, .int .i64 i, .string s]), .val (.bool false), .val (.agg #[.int .i64 3, .int .i64 0, .string ⟨#[]⟩]), .val (.bool (decide (saysN k i s = 0))), .val (.bool (decide (saysN k i s = 0)))] 5 (by kernel_rfl) ?_
  repeat
    (refine detL_val (by kernel_rfl) (yields_of rfl fun w1 hb1 => ?_) ?_
     · have hc1 := (bcell hb1).1
       clear hb1
       go_simp
       with_reducible first
         | exact Det1_same
         | exact Det1_enter (rtruth_f _)
         | exact Det1_eq3 (is_0_iff k i s)
     simp only [Act.put, List.setIfInBounds_toArray, List.set_cons_zero, List.set_cons_succ])
  refine detL_done (by kernel_rfl) fun w1 hw1 => ?_
  have hb1 := hw1.below
  go_wp2
  go_ret
  refine ⟨rfl, ?_⟩
  repeat (first | (with_reducible exact Below.refl _ _) | ((with_reducible refine cSet3 ?_ ?_ _ _ _); (· ((try simp) <;> omega))) | (with_reducible refine Below.drew ?_) | ((with_reducible refine cAlloc ?_ ?_ _); (· ((try simp) <;> omega))) | ((with_reducible refine cOn (by assumption) ?_ ?_); (· ((try simp) <;> omega))))

set_option maxHeartbeats 800000 in
theorem rand_any (k i : Int) (s : ByteArray) (k' i' : Int) (s' : ByteArray) (w : World) :
    Calls Tryz.prog 74 #[.agg #[.int .i64 k, .int .i64 i, .string s], .agg #[.int .i64 k', .int .i64 i', .string s']] w fun e w' => e = .returned (.agg #[.int .i64 (triK (minN (saysN k i s) (saysN k' i' s'))), .int .i64 (triI (minN (saysN k i s) (saysN k' i' s'))), .string ⟨#[]⟩]) ∧ Below w.heap.size w w' := by
  have hx := saysN_bd k i s
  have hy := saysN_bd k' i' s'
  go_enter Tryz.func74, Tryz.ntmps74
  go_wp2_with (first
    | (go_at_call_of 35 (Value.bool false); refine (is_f _ _ _ _).mono ?_; rintro e w1 ⟨rfl, hb1⟩; have hc1 := (bcell hb1).1; have hf1 := (bcell hb1).2; have hy1 := hb1.size; (try simp at hy1); have hz1_0 : w.heap.size < w1.heap.size := (by omega); have hz1_1 : w.heap.size + 1 < w1.heap.size := (by omega); have hz1_2 : w.heap.size + 1 + 1 < w1.heap.size := (by omega))
    | (go_at_call_of 35 (Value.bool true); refine (is_t _ _ _ _).mono ?_; rintro e w1 ⟨rfl, hb1⟩; have hc1 := (bcell hb1).1; have hf1 := (bcell hb1).2; have hy1 := hb1.size; (try simp at hy1); have hz1_0 : w.heap.size < w1.heap.size := (by omega); have hz1_1 : w.heap.size + 1 < w1.heap.size := (by omega); have hz1_2 : w.heap.size + 1 + 1 < w1.heap.size := (by omega))
    | (go_at_call_of 71 (Value.bool false); refine (rtruth_f _).mono ?_; rintro e w1 ⟨rfl, hb1⟩; have hc1 := (bcell hb1).1; have hf1 := (bcell hb1).2; have hy1 := hb1.size; (try simp at hy1); have hz1_0 : w.heap.size < w1.heap.size := (by omega); have hz1_1 : w.heap.size + 1 < w1.heap.size := (by omega); have hz1_2 : w.heap.size + 1 + 1 < w1.heap.size := (by omega))
    | (go_at_call_of 71 (Value.bool true); refine (rtruth_t _).mono ?_; rintro e w1 ⟨rfl, hb1⟩; have hc1 := (bcell hb1).1; have hf1 := (bcell hb1).2; have hy1 := hb1.size; (try simp at hy1); have hz1_0 : w.heap.size < w1.heap.size := (by omega); have hz1_1 : w.heap.size + 1 < w1.heap.size := (by omega); have hz1_2 : w.heap.size + 1 + 1 < w1.heap.size := (by omega)))
  all_goals
    first
      | (refine bodyPost_ret (v := .agg #[.int .i64 3, .int .i64 0, .string ⟨#[]⟩]) ?_ rfl ⟨ret_tri0 ?_, ?_⟩; (· (simp [results, Tryz.results74, go_sem, *]; done)); (· (unfold minN; split <;> omega)))
      | (refine bodyPost_ret (v := .agg #[.int .i64 3, .int .i64 1, .string ⟨#[]⟩]) ?_ rfl ⟨ret_tri2 ?_, ?_⟩; (· (simp [results, Tryz.results74, go_sem, *]; done)); (· (unfold minN; split <;> omega)))
      | (refine bodyPost_ret (v := .agg #[.int .i64 0, .int .i64 0, .string ⟨#[]⟩]) ?_ rfl ⟨ret_tri1 ?_, ?_⟩; (· (simp [results, Tryz.results74, go_sem, *]; done)); (· (unfold minN; split <;> omega)))
    repeat (first | (with_reducible exact Below.refl _ _) | ((with_reducible refine cSet3 ?_ ?_ _ _ _); (· ((try simp) <;> omega))) | (with_reducible refine Below.drew ?_) | ((with_reducible refine cAlloc ?_ ?_ _); (· ((try simp) <;> omega))) | ((with_reducible refine cOn (by assumption) ?_ ?_); (· ((try simp) <;> omega))))

set_option maxHeartbeats 800000 in
theorem ror_any (k i : Int) (s : ByteArray) (k' i' : Int) (s' : ByteArray) (w : World) :
    Calls Tryz.prog 75 #[.agg #[.int .i64 k, .int .i64 i, .string s], .agg #[.int .i64 k', .int .i64 i', .string s']] w fun e w' => e = .returned (.agg #[.int .i64 (triK (maxN (saysN k i s) (saysN k' i' s'))), .int .i64 (triI (maxN (saysN k i s) (saysN k' i' s'))), .string ⟨#[]⟩]) ∧ Below w.heap.size w w' := by
  have hx := saysN_bd k i s
  have hy := saysN_bd k' i' s'
  go_enter Tryz.func75, Tryz.ntmps75
  go_wp2_with (first
    | (go_at_call_of 35 (Value.bool false); refine (is_f _ _ _ _).mono ?_; rintro e w1 ⟨rfl, hb1⟩; have hc1 := (bcell hb1).1; have hf1 := (bcell hb1).2; have hy1 := hb1.size; (try simp at hy1); have hz1_0 : w.heap.size < w1.heap.size := (by omega); have hz1_1 : w.heap.size + 1 < w1.heap.size := (by omega); have hz1_2 : w.heap.size + 1 + 1 < w1.heap.size := (by omega))
    | (go_at_call_of 35 (Value.bool true); refine (is_t _ _ _ _).mono ?_; rintro e w1 ⟨rfl, hb1⟩; have hc1 := (bcell hb1).1; have hf1 := (bcell hb1).2; have hy1 := hb1.size; (try simp at hy1); have hz1_0 : w.heap.size < w1.heap.size := (by omega); have hz1_1 : w.heap.size + 1 < w1.heap.size := (by omega); have hz1_2 : w.heap.size + 1 + 1 < w1.heap.size := (by omega))
    | (go_at_call_of 71 (Value.bool false); refine (rtruth_f _).mono ?_; rintro e w1 ⟨rfl, hb1⟩; have hc1 := (bcell hb1).1; have hf1 := (bcell hb1).2; have hy1 := hb1.size; (try simp at hy1); have hz1_0 : w.heap.size < w1.heap.size := (by omega); have hz1_1 : w.heap.size + 1 < w1.heap.size := (by omega); have hz1_2 : w.heap.size + 1 + 1 < w1.heap.size := (by omega))
    | (go_at_call_of 71 (Value.bool true); refine (rtruth_t _).mono ?_; rintro e w1 ⟨rfl, hb1⟩; have hc1 := (bcell hb1).1; have hf1 := (bcell hb1).2; have hy1 := hb1.size; (try simp at hy1); have hz1_0 : w.heap.size < w1.heap.size := (by omega); have hz1_1 : w.heap.size + 1 < w1.heap.size := (by omega); have hz1_2 : w.heap.size + 1 + 1 < w1.heap.size := (by omega)))
  all_goals
    first
      | (refine bodyPost_ret (v := .agg #[.int .i64 3, .int .i64 0, .string ⟨#[]⟩]) ?_ rfl ⟨ret_tri0 ?_, ?_⟩; (· (simp [results, Tryz.results75, go_sem, *]; done)); (· (unfold maxN; split <;> omega)))
      | (refine bodyPost_ret (v := .agg #[.int .i64 3, .int .i64 1, .string ⟨#[]⟩]) ?_ rfl ⟨ret_tri2 ?_, ?_⟩; (· (simp [results, Tryz.results75, go_sem, *]; done)); (· (unfold maxN; split <;> omega)))
      | (refine bodyPost_ret (v := .agg #[.int .i64 0, .int .i64 0, .string ⟨#[]⟩]) ?_ rfl ⟨ret_tri1 ?_, ?_⟩; (· (simp [results, Tryz.results75, go_sem, *]; done)); (· (unfold maxN; split <;> omega)))
    repeat (first | (with_reducible exact Below.refl _ _) | ((with_reducible refine cSet3 ?_ ?_ _ _ _); (· ((try simp) <;> omega))) | (with_reducible refine Below.drew ?_) | ((with_reducible refine cAlloc ?_ ?_ _); (· ((try simp) <;> omega))) | ((with_reducible refine cOn (by assumption) ?_ ?_); (· ((try simp) <;> omega))))

set_option maxHeartbeats 800000 in
theorem rnot_any (k i : Int) (s : ByteArray) (w : World) :
    Calls Tryz.prog 72 #[.agg #[.int .i64 k, .int .i64 i, .string s]] w fun e w' => e = .returned (.agg #[.int .i64 (triK (2 - saysN k i s)), .int .i64 (triI (2 - saysN k i s)), .string ⟨#[]⟩]) ∧ Below w.heap.size w w' := by
  have hx := saysN_bd k i s
  go_enter Tryz.func72, Tryz.ntmps72
  go_wp2_with (first
    | (go_at_call_of 35 (Value.bool false); refine (is_f _ _ _ _).mono ?_; rintro e w1 ⟨rfl, hb1⟩; have hc1 := (bcell hb1).1; have hf1 := (bcell hb1).2; have hy1 := hb1.size; (try simp at hy1); have hz1_0 : w.heap.size < w1.heap.size := (by omega); have hz1_1 : w.heap.size + 1 < w1.heap.size := (by omega))
    | (go_at_call_of 35 (Value.bool true); refine (is_t _ _ _ _).mono ?_; rintro e w1 ⟨rfl, hb1⟩; have hc1 := (bcell hb1).1; have hf1 := (bcell hb1).2; have hy1 := hb1.size; (try simp at hy1); have hz1_0 : w.heap.size < w1.heap.size := (by omega); have hz1_1 : w.heap.size + 1 < w1.heap.size := (by omega))
    | (go_at_call_of 71 (Value.bool false); refine (rtruth_f _).mono ?_; rintro e w1 ⟨rfl, hb1⟩; have hc1 := (bcell hb1).1; have hf1 := (bcell hb1).2; have hy1 := hb1.size; (try simp at hy1); have hz1_0 : w.heap.size < w1.heap.size := (by omega); have hz1_1 : w.heap.size + 1 < w1.heap.size := (by omega))
    | (go_at_call_of 71 (Value.bool true); refine (rtruth_t _).mono ?_; rintro e w1 ⟨rfl, hb1⟩; have hc1 := (bcell hb1).1; have hf1 := (bcell hb1).2; have hy1 := hb1.size; (try simp at hy1); have hz1_0 : w.heap.size < w1.heap.size := (by omega); have hz1_1 : w.heap.size + 1 < w1.heap.size := (by omega)))
  all_goals
    first
      | (refine bodyPost_ret (v := .agg #[.int .i64 3, .int .i64 0, .string ⟨#[]⟩]) ?_ rfl ⟨ret_tri0 ?_, ?_⟩; (· (simp [results, Tryz.results72, go_sem, *]; done)); (· (omega)))
      | (refine bodyPost_ret (v := .agg #[.int .i64 3, .int .i64 1, .string ⟨#[]⟩]) ?_ rfl ⟨ret_tri2 ?_, ?_⟩; (· (simp [results, Tryz.results72, go_sem, *]; done)); (· (omega)))
      | (refine bodyPost_ret (v := .agg #[.int .i64 0, .int .i64 0, .string ⟨#[]⟩]) ?_ rfl ⟨ret_tri1 ?_, ?_⟩; (· (simp [results, Tryz.results72, go_sem, *]; done)); (· (omega)))
    repeat (first | (with_reducible exact Below.refl _ _) | ((with_reducible refine cSet3 ?_ ?_ _ _ _); (· ((try simp) <;> omega))) | (with_reducible refine Below.drew ?_) | ((with_reducible refine cAlloc ?_ ?_ _); (· ((try simp) <;> omega))) | ((with_reducible refine cOn (by assumption) ?_ ?_); (· ((try simp) <;> omega))))

end Go.Proofs.YtmhkmliebhbkdaaGreat
