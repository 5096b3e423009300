import Derived.Test.YtggejkkpajpmkaaDoorVu
/- The document's own Plus and Minus; what Equal, Less, Plus, Minus come to, whatever the two are. -/
namespace Go.Proofs.YtggejkkpajpmkaaDoor
open Go.RowKit Go.Lib

theorem nums_alike {k i : Int} {s : ByteArray} {k' i' : Int} {s' : ByteArray} (h : numsB k i s k' i' s' = true) : alikeB k i s k' i' s' = true := by
  unfold numsB at h
  rw [Bool.and_eq_true, beq_iff_eq, beq_iff_eq] at h
  unfold alikeB
  rw [h.1, h.2]
  rfl
theorem alike_nums {k i : Int} {s : ByteArray} {k' i' : Int} {s' : ByteArray} (h : alikeB k i s k' i' s' = true) : numsB k i s k' i' s' = decide (k = 1) := by
  obtain ⟨m1, m2, hk, _⟩ := alike_may h
  subst hk
  unfold numsB hK
  rw [if_pos m1, if_pos m2]
  by_cases e : k = 1
  · subst e; rfl
  · rw [beq_eq_false_iff_ne.2 e, decide_eq_false e]; rfl

set_option maxRecDepth 100000 in
set_option maxHeartbeats 800000 in
theorem rplus_apart (k i : Int) (s : ByteArray) (k' i' : Int) (s' : ByteArray) (w : World) (hs : s.size ≤ maxLen) (hs' : s'.size ≤ maxLen) (ha : alikeB k i s k' i' s' = false) :
    Calls Tryd.prog 12 #[.agg #[.int .i64 k, .int .i64 i, .string s], .agg #[.int .i64 k', .int .i64 i', .string s']] w fun e w' => e = .returned (.agg #[.int .i64 0, .int .i64 0, .string ⟨#[]⟩]) ∧ Below w.heap.size w w' := by
  have H := Lib.hid (And.intro ha (And.intro hs hs'))
  clear ha hs hs'
  go_enter Tryd.func12, Tryd.ntmps12
  go_wp2_with (first
    | (go_at_call 28; refine ((rapart_any _ _ _ _ _ _ _ H.out.2.1 H.out.2.2).mono (fun _ _ h => (H.out.1 ▸ h : _ = Ending.returned (.bool (!false)) ∧ _))).mono ?_; rintro e w1 ⟨rfl, hb1⟩; have hc1 := (bcell hb1).1; have hf1 := (bcell hb1).2; have hy1 := hb1.size; (try simp at hy1); have hz1_0 : w.heap.size < w1.heap.size := (by omega); have hz1_1 : w.heap.size + 1 < w1.heap.size := (by omega); have hz1_2 : w.heap.size + 1 + 1 < w1.heap.size := (by omega)))
  (refine bodyPost_ret (v := .agg #[.int .i64 0, .int .i64 0, .string ⟨#[]⟩]) ?_ rfl ⟨rfl, ?_⟩; (· (simp [results, Tryd.results12, go_sem, *]; done)))
  repeat (first | (with_reducible exact Below.refl _ _) | ((with_reducible refine cSet3 ?_ ?_ _ _ _); (· ((try simp) <;> omega))) | (with_reducible refine Below.drew ?_) | ((with_reducible refine cAlloc ?_ ?_ _); (· ((try simp) <;> omega))) | ((with_reducible refine cOn (by assumption) ?_ ?_); (· ((try simp) <;> omega))))

set_option maxRecDepth 100000 in
set_option maxHeartbeats 800000 in
theorem rplus_other (k i : Int) (s : ByteArray) (k' i' : Int) (s' : ByteArray) (w : World) (hs : s.size ≤ maxLen) (hs' : s'.size ≤ maxLen) (ha : alikeB k i s k' i' s' = true) (hk : ¬ k = 1) :
    Calls Tryd.prog 12 #[.agg #[.int .i64 k, .int .i64 i, .string s], .agg #[.int .i64 k', .int .i64 i', .string s']] w fun e w' => e = .returned (.agg #[.int .i64 0, .int .i64 0, .string ⟨#[]⟩]) ∧ Below w.heap.size w w' := by
  have H := Lib.hid (And.intro ha (And.intro hs hs'))
  clear ha hs hs'
  have hbk : (k != 1) = true := bne_iff_ne.2 hk
  go_enter Tryd.func12, Tryd.ntmps12
  go_wp2_with (first
    | (go_at_call 28; refine ((rapart_any _ _ _ _ _ _ _ H.out.2.1 H.out.2.2).mono (fun _ _ h => (H.out.1 ▸ h : _ = Ending.returned (.bool (!true)) ∧ _))).mono ?_; rintro e w1 ⟨rfl, hb1⟩; have hc1 := (bcell hb1).1; have hf1 := (bcell hb1).2; have hy1 := hb1.size; (try simp at hy1); have hz1_0 : w.heap.size < w1.heap.size := (by omega); have hz1_1 : w.heap.size + 1 < w1.heap.size := (by omega); have hz1_2 : w.heap.size + 1 + 1 < w1.heap.size := (by omega)))
  (refine bodyPost_ret (v := .agg #[.int .i64 0, .int .i64 0, .string ⟨#[]⟩]) ?_ rfl ⟨rfl, ?_⟩; (· (simp [results, Tryd.results12, go_sem, *]; done)))
  repeat (first | (with_reducible exact Below.refl _ _) | ((with_reducible refine cSet3 ?_ ?_ _ _ _); (· ((try simp) <;> omega))) | (with_reducible refine Below.drew ?_) | ((with_reducible refine cAlloc ?_ ?_ _); (· ((try simp) <;> omega))) | ((with_reducible refine cOn (by assumption) ?_ ?_); (· ((try simp) <;> omega))))

set_option maxRecDepth 100000 in
set_option maxHeartbeats 800000 in
theorem rplus_a (i : Int) (s : ByteArray) (k' i' : Int) (s' : ByteArray) (w : World) (hs : s.size ≤ maxLen) (hs' : s'.size ≤ maxLen) (ha : alikeB 1 i s k' i' s' = true) (hi : -9223372036854775808 ≤ i) (hi2 : i ≤ 9223372036854775807) (hj : -9223372036854775808 ≤ i') (hj2 : i' ≤ 9223372036854775807) (h1 : 0 < i') (h2 : 9223372036854775807 - i' < i) :
    Calls Tryd.prog 12 #[.agg #[.int .i64 1, .int .i64 i, .string s], .agg #[.int .i64 k', .int .i64 i', .string s']] w fun e w' => e = .returned (.agg #[.int .i64 0, .int .i64 0, .string ⟨#[]⟩]) ∧ Below w.heap.size w w' := by
  have H := Lib.hid (And.intro ha (And.intro hs hs'))
  clear ha hs hs'
  go_enter Tryd.func12, Tryd.ntmps12
  go_wp2_with (first
    | (go_at_call 28; refine ((rapart_any _ _ _ _ _ _ _ H.out.2.1 H.out.2.2).mono (fun _ _ h => (H.out.1 ▸ h : _ = Ending.returned (.bool (!true)) ∧ _))).mono ?_; rintro e w1 ⟨rfl, hb1⟩; have hc1 := (bcell hb1).1; have hf1 := (bcell hb1).2; have hy1 := hb1.size; (try simp at hy1); have hz1_0 : w.heap.size < w1.heap.size := (by omega); have hz1_1 : w.heap.size + 1 < w1.heap.size := (by omega); have hz1_2 : w.heap.size + 1 + 1 < w1.heap.size := (by omega)))
  (refine bodyPost_ret (v := .agg #[.int .i64 0, .int .i64 0, .string ⟨#[]⟩]) ?_ rfl ⟨rfl, ?_⟩; (· (simp [results, Tryd.results12, go_sem, *]; done)))
  repeat (first | (with_reducible exact Below.refl _ _) | ((with_reducible refine cSet3 ?_ ?_ _ _ _); (· ((try simp) <;> omega))) | (with_reducible refine Below.drew ?_) | ((with_reducible refine cAlloc ?_ ?_ _); (· ((try simp) <;> omega))) | ((with_reducible refine cOn (by assumption) ?_ ?_); (· ((try simp) <;> omega))))

set_option maxRecDepth 100000 in
set_option maxHeartbeats 800000 in
theorem rplus_b (i : Int) (s : ByteArray) (k' i' : Int) (s' : ByteArray) (w : World) (hs : s.size ≤ maxLen) (hs' : s'.size ≤ maxLen) (ha : alikeB 1 i s k' i' s' = true) (hi : -9223372036854775808 ≤ i) (hi2 : i ≤ 9223372036854775807) (hj : -9223372036854775808 ≤ i') (hj2 : i' ≤ 9223372036854775807) (h1 : 0 < i') (h2 : ¬ 9223372036854775807 - i' < i) :
    Calls Tryd.prog 12 #[.agg #[.int .i64 1, .int .i64 i, .string s], .agg #[.int .i64 k', .int .i64 i', .string s']] w fun e w' => e = .returned (.agg #[.int .i64 1, .int .i64 (i + i'), .string ⟨#[]⟩]) ∧ Below w.heap.size w w' := by
  have H := Lib.hid (And.intro ha (And.intro hs hs'))
  clear ha hs hs'
  go_enter Tryd.func12, Tryd.ntmps12
  go_wp2_with (first
    | (go_at_call 28; refine ((rapart_any _ _ _ _ _ _ _ H.out.2.1 H.out.2.2).mono (fun _ _ h => (H.out.1 ▸ h : _ = Ending.returned (.bool (!true)) ∧ _))).mono ?_; rintro e w1 ⟨rfl, hb1⟩; have hc1 := (bcell hb1).1; have hf1 := (bcell hb1).2; have hy1 := hb1.size; (try simp at hy1); have hz1_0 : w.heap.size < w1.heap.size := (by omega); have hz1_1 : w.heap.size + 1 < w1.heap.size := (by omega); have hz1_2 : w.heap.size + 1 + 1 < w1.heap.size := (by omega)))
  (refine bodyPost_ret (v := .agg #[.int .i64 1, .int .i64 (i + i'), .string ⟨#[]⟩]) ?_ rfl ⟨rfl, ?_⟩; (· (simp [results, Tryd.results12, go_sem, *]; done)))
  repeat (first | (with_reducible exact Below.refl _ _) | ((with_reducible refine cSet3 ?_ ?_ _ _ _); (· ((try simp) <;> omega))) | (with_reducible refine Below.drew ?_) | ((with_reducible refine cAlloc ?_ ?_ _); (· ((try simp) <;> omega))) | ((with_reducible refine cOn (by assumption) ?_ ?_); (· ((try simp) <;> omega))))

set_option maxRecDepth 100000 in
set_option maxHeartbeats 800000 in
theorem rplus_c (i : Int) (s : ByteArray) (k' i' : Int) (s' : ByteArray) (w : World) (hs : s.size ≤ maxLen) (hs' : s'.size ≤ maxLen) (ha : alikeB 1 i s k' i' s' = true) (hi : -9223372036854775808 ≤ i) (hi2 : i ≤ 9223372036854775807) (hj : -9223372036854775808 ≤ i') (hj2 : i' ≤ 9223372036854775807) (h1 : i' < 0) (h2 : i < -9223372036854775808 - i') :
    Calls Tryd.prog 12 #[.agg #[.int .i64 1, .int .i64 i, .string s], .agg #[.int .i64 k', .int .i64 i', .string s']] w fun e w' => e = .returned (.agg #[.int .i64 0, .int .i64 0, .string ⟨#[]⟩]) ∧ Below w.heap.size w w' := by
  have H := Lib.hid (And.intro ha (And.intro hs hs'))
  clear ha hs hs'
  have hg : ¬ 0 < i' := by omega
  go_enter Tryd.func12, Tryd.ntmps12
  go_wp2_with (first
    | (go_at_call 28; refine ((rapart_any _ _ _ _ _ _ _ H.out.2.1 H.out.2.2).mono (fun _ _ h => (H.out.1 ▸ h : _ = Ending.returned (.bool (!true)) ∧ _))).mono ?_; rintro e w1 ⟨rfl, hb1⟩; have hc1 := (bcell hb1).1; have hf1 := (bcell hb1).2; have hy1 := hb1.size; (try simp at hy1); have hz1_0 : w.heap.size < w1.heap.size := (by omega); have hz1_1 : w.heap.size + 1 < w1.heap.size := (by omega); have hz1_2 : w.heap.size + 1 + 1 < w1.heap.size := (by omega)))
  (refine bodyPost_ret (v := .agg #[.int .i64 0, .int .i64 0, .string ⟨#[]⟩]) ?_ rfl ⟨rfl, ?_⟩; (· (simp [results, Tryd.results12, go_sem, *]; done)))
  repeat (first | (with_reducible exact Below.refl _ _) | ((with_reducible refine cSet3 ?_ ?_ _ _ _); (· ((try simp) <;> omega))) | (with_reducible refine Below.drew ?_) | ((with_reducible refine cAlloc ?_ ?_ _); (· ((try simp) <;> omega))) | ((with_reducible refine cOn (by assumption) ?_ ?_); (· ((try simp) <;> omega))))

set_option maxRecDepth 100000 in
set_option maxHeartbeats 800000 in
theorem rplus_d (i : Int) (s : ByteArray) (k' i' : Int) (s' : ByteArray) (w : World) (hs : s.size ≤ maxLen) (hs' : s'.size ≤ maxLen) (ha : alikeB 1 i s k' i' s' = true) (hi : -9223372036854775808 ≤ i) (hi2 : i ≤ 9223372036854775807) (hj : -9223372036854775808 ≤ i') (hj2 : i' ≤ 9223372036854775807) (h1 : i' < 0) (h2 : ¬ i < -9223372036854775808 - i') :
    Calls Tryd.prog 12 #[.agg #[.int .i64 1, .int .i64 i, .string s], .agg #[.int .i64 k', .int .i64 i', .string s']] w fun e w' => e = .returned (.agg #[.int .i64 1, .int .i64 (i + i'), .string ⟨#[]⟩]) ∧ Below w.heap.size w w' := by
  have H := Lib.hid (And.intro ha (And.intro hs hs'))
  clear ha hs hs'
  have hg : ¬ 0 < i' := by omega
  go_enter Tryd.func12, Tryd.ntmps12
  go_wp2_with (first
    | (go_at_call 28; refine ((rapart_any _ _ _ _ _ _ _ H.out.2.1 H.out.2.2).mono (fun _ _ h => (H.out.1 ▸ h : _ = Ending.returned (.bool (!true)) ∧ _))).mono ?_; rintro e w1 ⟨rfl, hb1⟩; have hc1 := (bcell hb1).1; have hf1 := (bcell hb1).2; have hy1 := hb1.size; (try simp at hy1); have hz1_0 : w.heap.size < w1.heap.size := (by omega); have hz1_1 : w.heap.size + 1 < w1.heap.size := (by omega); have hz1_2 : w.heap.size + 1 + 1 < w1.heap.size := (by omega)))
  (refine bodyPost_ret (v := .agg #[.int .i64 1, .int .i64 (i + i'), .string ⟨#[]⟩]) ?_ rfl ⟨rfl, ?_⟩; (· (simp [results, Tryd.results12, go_sem, *]; done)))
  repeat (first | (with_reducible exact Below.refl _ _) | ((with_reducible refine cSet3 ?_ ?_ _ _ _); (· ((try simp) <;> omega))) | (with_reducible refine Below.drew ?_) | ((with_reducible refine cAlloc ?_ ?_ _); (· ((try simp) <;> omega))) | ((with_reducible refine cOn (by assumption) ?_ ?_); (· ((try simp) <;> omega))))

set_option maxRecDepth 100000 in
set_option maxHeartbeats 800000 in
theorem rplus_e (i : Int) (s : ByteArray) (k' i' : Int) (s' : ByteArray) (w : World) (hs : s.size ≤ maxLen) (hs' : s'.size ≤ maxLen) (ha : alikeB 1 i s k' i' s' = true) (hi : -9223372036854775808 ≤ i) (hi2 : i ≤ 9223372036854775807) (hj : -9223372036854775808 ≤ i') (hj2 : i' ≤ 9223372036854775807) (h1 : i' = 0)  :
    Calls Tryd.prog 12 #[.agg #[.int .i64 1, .int .i64 i, .string s], .agg #[.int .i64 k', .int .i64 i', .string s']] w fun e w' => e = .returned (.agg #[.int .i64 1, .int .i64 i, .string ⟨#[]⟩]) ∧ Below w.heap.size w w' := by
  have H := Lib.hid (And.intro ha (And.intro hs hs'))
  clear ha hs hs'
  subst h1
  go_enter Tryd.func12, Tryd.ntmps12
  go_wp2_with (first
    | (go_at_call 28; refine ((rapart_any _ _ _ _ _ _ _ H.out.2.1 H.out.2.2).mono (fun _ _ h => (H.out.1 ▸ h : _ = Ending.returned (.bool (!true)) ∧ _))).mono ?_; rintro e w1 ⟨rfl, hb1⟩; have hc1 := (bcell hb1).1; have hf1 := (bcell hb1).2; have hy1 := hb1.size; (try simp at hy1); have hz1_0 : w.heap.size < w1.heap.size := (by omega); have hz1_1 : w.heap.size + 1 < w1.heap.size := (by omega); have hz1_2 : w.heap.size + 1 + 1 < w1.heap.size := (by omega)))
  (refine bodyPost_ret (v := .agg #[.int .i64 1, .int .i64 i, .string ⟨#[]⟩]) ?_ rfl ⟨rfl, ?_⟩; (· (simp [results, Tryd.results12, go_sem, *]; done)))
  repeat (first | (with_reducible exact Below.refl _ _) | ((with_reducible refine cSet3 ?_ ?_ _ _ _); (· ((try simp) <;> omega))) | (with_reducible refine Below.drew ?_) | ((with_reducible refine cAlloc ?_ ?_ _); (· ((try simp) <;> omega))) | ((with_reducible refine cOn (by assumption) ?_ ?_); (· ((try simp) <;> omega))))

set_option maxRecDepth 100000 in
set_option maxHeartbeats 800000 in
theorem rminus_apart (k i : Int) (s : ByteArray) (k' i' : Int) (s' : ByteArray) (w : World) (hs : s.size ≤ maxLen) (hs' : s'.size ≤ maxLen) (ha : alikeB k i s k' i' s' = false) :
    Calls Tryd.prog 14 #[.agg #[.int .i64 k, .int .i64 i, .string s], .agg #[.int .i64 k', .int .i64 i', .string s']] w fun e w' => e = .returned (.agg #[.int .i64 0, .int .i64 0, .string ⟨#[]⟩]) ∧ Below w.heap.size w w' := by
  have H := Lib.hid (And.intro ha (And.intro hs hs'))
  clear ha hs hs'
  go_enter Tryd.func14, Tryd.ntmps14
  go_wp2_with (first
    | (go_at_call 28; refine ((rapart_any _ _ _ _ _ _ _ H.out.2.1 H.out.2.2).mono (fun _ _ h => (H.out.1 ▸ h : _ = Ending.returned (.bool (!false)) ∧ _))).mono ?_; rintro e w1 ⟨rfl, hb1⟩; have hc1 := (bcell hb1).1; have hf1 := (bcell hb1).2; have hy1 := hb1.size; (try simp at hy1); have hz1_0 : w.heap.size < w1.heap.size := (by omega); have hz1_1 : w.heap.size + 1 < w1.heap.size := (by omega); have hz1_2 : w.heap.size + 1 + 1 < w1.heap.size := (by omega)))
  (refine bodyPost_ret (v := .agg #[.int .i64 0, .int .i64 0, .string ⟨#[]⟩]) ?_ rfl ⟨rfl, ?_⟩; (· (simp [results, Tryd.results14, go_sem, *]; done)))
  repeat (first | (with_reducible exact Below.refl _ _) | ((with_reducible refine cSet3 ?_ ?_ _ _ _); (· ((try simp) <;> omega))) | (with_reducible refine Below.drew ?_) | ((with_reducible refine cAlloc ?_ ?_ _); (· ((try simp) <;> omega))) | ((with_reducible refine cOn (by assumption) ?_ ?_); (· ((try simp) <;> omega))))

set_option maxRecDepth 100000 in
set_option maxHeartbeats 800000 in
theorem rminus_other (k i : Int) (s : ByteArray) (k' i' : Int) (s' : ByteArray) (w : World) (hs : s.size ≤ maxLen) (hs' : s'.size ≤ maxLen) (ha : alikeB k i s k' i' s' = true) (hk : ¬ k = 1) :
    Calls Tryd.prog 14 #[.agg #[.int .i64 k, .int .i64 i, .string s], .agg #[.int .i64 k', .int .i64 i', .string s']] w fun e w' => e = .returned (.agg #[.int .i64 0, .int .i64 0, .string ⟨#[]⟩]) ∧ Below w.heap.size w w' := by
  have H := Lib.hid (And.intro ha (And.intro hs hs'))
  clear ha hs hs'
  have hbk : (k != 1) = true := bne_iff_ne.2 hk
  go_enter Tryd.func14, Tryd.ntmps14
  go_wp2_with (first
    | (go_at_call 28; refine ((rapart_any _ _ _ _ _ _ _ H.out.2.1 H.out.2.2).mono (fun _ _ h => (H.out.1 ▸ h : _ = Ending.returned (.bool (!true)) ∧ _))).mono ?_; rintro e w1 ⟨rfl, hb1⟩; have hc1 := (bcell hb1).1; have hf1 := (bcell hb1).2; have hy1 := hb1.size; (try simp at hy1); have hz1_0 : w.heap.size < w1.heap.size := (by omega); have hz1_1 : w.heap.size + 1 < w1.heap.size := (by omega); have hz1_2 : w.heap.size + 1 + 1 < w1.heap.size := (by omega)))
  (refine bodyPost_ret (v := .agg #[.int .i64 0, .int .i64 0, .string ⟨#[]⟩]) ?_ rfl ⟨rfl, ?_⟩; (· (simp [results, Tryd.results14, go_sem, *]; done)))
  repeat (first | (with_reducible exact Below.refl _ _) | ((with_reducible refine cSet3 ?_ ?_ _ _ _); (· ((try simp) <;> omega))) | (with_reducible refine Below.drew ?_) | ((with_reducible refine cAlloc ?_ ?_ _); (· ((try simp) <;> omega))) | ((with_reducible refine cOn (by assumption) ?_ ?_); (· ((try simp) <;> omega))))

set_option maxRecDepth 100000 in
set_option maxHeartbeats 800000 in
theorem rminus_a (i : Int) (s : ByteArray) (k' i' : Int) (s' : ByteArray) (w : World) (hs : s.size ≤ maxLen) (hs' : s'.size ≤ maxLen) (ha : alikeB 1 i s k' i' s' = true) (hi : -9223372036854775808 ≤ i) (hi2 : i ≤ 9223372036854775807) (hj : -9223372036854775808 ≤ i') (hj2 : i' ≤ 9223372036854775807) (h1 : 0 < i') (h2 : i < -9223372036854775808 + i') :
    Calls Tryd.prog 14 #[.agg #[.int .i64 1, .int .i64 i, .string s], .agg #[.int .i64 k', .int .i64 i', .string s']] w fun e w' => e = .returned (.agg #[.int .i64 0, .int .i64 0, .string ⟨#[]⟩]) ∧ Below w.heap.size w w' := by
  have H := Lib.hid (And.intro ha (And.intro hs hs'))
  clear ha hs hs'
  go_enter Tryd.func14, Tryd.ntmps14
  go_wp2_with (first
    | (go_at_call 28; refine ((rapart_any _ _ _ _ _ _ _ H.out.2.1 H.out.2.2).mono (fun _ _ h => (H.out.1 ▸ h : _ = Ending.returned (.bool (!true)) ∧ _))).mono ?_; rintro e w1 ⟨rfl, hb1⟩; have hc1 := (bcell hb1).1; have hf1 := (bcell hb1).2; have hy1 := hb1.size; (try simp at hy1); have hz1_0 : w.heap.size < w1.heap.size := (by omega); have hz1_1 : w.heap.size + 1 < w1.heap.size := (by omega); have hz1_2 : w.heap.size + 1 + 1 < w1.heap.size := (by omega)))
  (refine bodyPost_ret (v := .agg #[.int .i64 0, .int .i64 0, .string ⟨#[]⟩]) ?_ rfl ⟨rfl, ?_⟩; (· (simp [results, Tryd.results14, go_sem, *]; done)))
  repeat (first | (with_reducible exact Below.refl _ _) | ((with_reducible refine cSet3 ?_ ?_ _ _ _); (· ((try simp) <;> omega))) | (with_reducible refine Below.drew ?_) | ((with_reducible refine cAlloc ?_ ?_ _); (· ((try simp) <;> omega))) | ((with_reducible refine cOn (by assumption) ?_ ?_); (· ((try simp) <;> omega))))

set_option maxRecDepth 100000 in
set_option maxHeartbeats 800000 in
theorem rminus_b (i : Int) (s : ByteArray) (k' i' : Int) (s' : ByteArray) (w : World) (hs : s.size ≤ maxLen) (hs' : s'.size ≤ maxLen) (ha : alikeB 1 i s k' i' s' = true) (hi : -9223372036854775808 ≤ i) (hi2 : i ≤ 9223372036854775807) (hj : -9223372036854775808 ≤ i') (hj2 : i' ≤ 9223372036854775807) (h1 : 0 < i') (h2 : ¬ i < -9223372036854775808 + i') :
    Calls Tryd.prog 14 #[.agg #[.int .i64 1, .int .i64 i, .string s], .agg #[.int .i64 k', .int .i64 i', .string s']] w fun e w' => e = .returned (.agg #[.int .i64 1, .int .i64 (i - i'), .string ⟨#[]⟩]) ∧ Below w.heap.size w w' := by
  have H := Lib.hid (And.intro ha (And.intro hs hs'))
  clear ha hs hs'
  go_enter Tryd.func14, Tryd.ntmps14
  go_wp2_with (first
    | (go_at_call 28; refine ((rapart_any _ _ _ _ _ _ _ H.out.2.1 H.out.2.2).mono (fun _ _ h => (H.out.1 ▸ h : _ = Ending.returned (.bool (!true)) ∧ _))).mono ?_; rintro e w1 ⟨rfl, hb1⟩; have hc1 := (bcell hb1).1; have hf1 := (bcell hb1).2; have hy1 := hb1.size; (try simp at hy1); have hz1_0 : w.heap.size < w1.heap.size := (by omega); have hz1_1 : w.heap.size + 1 < w1.heap.size := (by omega); have hz1_2 : w.heap.size + 1 + 1 < w1.heap.size := (by omega)))
  (refine bodyPost_ret (v := .agg #[.int .i64 1, .int .i64 (i - i'), .string ⟨#[]⟩]) ?_ rfl ⟨rfl, ?_⟩; (· (simp [results, Tryd.results14, go_sem, *]; done)))
  repeat (first | (with_reducible exact Below.refl _ _) | ((with_reducible refine cSet3 ?_ ?_ _ _ _); (· ((try simp) <;> omega))) | (with_reducible refine Below.drew ?_) | ((with_reducible refine cAlloc ?_ ?_ _); (· ((try simp) <;> omega))) | ((with_reducible refine cOn (by assumption) ?_ ?_); (· ((try simp) <;> omega))))

set_option maxRecDepth 100000 in
set_option maxHeartbeats 800000 in
theorem rminus_c (i : Int) (s : ByteArray) (k' i' : Int) (s' : ByteArray) (w : World) (hs : s.size ≤ maxLen) (hs' : s'.size ≤ maxLen) (ha : alikeB 1 i s k' i' s' = true) (hi : -9223372036854775808 ≤ i) (hi2 : i ≤ 9223372036854775807) (hj : -9223372036854775808 ≤ i') (hj2 : i' ≤ 9223372036854775807) (h1 : i' < 0) (h2 : 9223372036854775807 + i' < i) :
    Calls Tryd.prog 14 #[.agg #[.int .i64 1, .int .i64 i, .string s], .agg #[.int .i64 k', .int .i64 i', .string s']] w fun e w' => e = .returned (.agg #[.int .i64 0, .int .i64 0, .string ⟨#[]⟩]) ∧ Below w.heap.size w w' := by
  have H := Lib.hid (And.intro ha (And.intro hs hs'))
  clear ha hs hs'
  have hg : ¬ 0 < i' := by omega
  go_enter Tryd.func14, Tryd.ntmps14
  go_wp2_with (first
    | (go_at_call 28; refine ((rapart_any _ _ _ _ _ _ _ H.out.2.1 H.out.2.2).mono (fun _ _ h => (H.out.1 ▸ h : _ = Ending.returned (.bool (!true)) ∧ _))).mono ?_; rintro e w1 ⟨rfl, hb1⟩; have hc1 := (bcell hb1).1; have hf1 := (bcell hb1).2; have hy1 := hb1.size; (try simp at hy1); have hz1_0 : w.heap.size < w1.heap.size := (by omega); have hz1_1 : w.heap.size + 1 < w1.heap.size := (by omega); have hz1_2 : w.heap.size + 1 + 1 < w1.heap.size := (by omega)))
  (refine bodyPost_ret (v := .agg #[.int .i64 0, .int .i64 0, .string ⟨#[]⟩]) ?_ rfl ⟨rfl, ?_⟩; (· (simp [results, Tryd.results14, go_sem, *]; done)))
  repeat (first | (with_reducible exact Below.refl _ _) | ((with_reducible refine cSet3 ?_ ?_ _ _ _); (· ((try simp) <;> omega))) | (with_reducible refine Below.drew ?_) | ((with_reducible refine cAlloc ?_ ?_ _); (· ((try simp) <;> omega))) | ((with_reducible refine cOn (by assumption) ?_ ?_); (· ((try simp) <;> omega))))

set_option maxRecDepth 100000 in
set_option maxHeartbeats 800000 in
theorem rminus_d (i : Int) (s : ByteArray) (k' i' : Int) (s' : ByteArray) (w : World) (hs : s.size ≤ maxLen) (hs' : s'.size ≤ maxLen) (ha : alikeB 1 i s k' i' s' = true) (hi : -9223372036854775808 ≤ i) (hi2 : i ≤ 9223372036854775807) (hj : -9223372036854775808 ≤ i') (hj2 : i' ≤ 9223372036854775807) (h1 : i' < 0) (h2 : ¬ 9223372036854775807 + i' < i) :
    Calls Tryd.prog 14 #[.agg #[.int .i64 1, .int .i64 i, .string s], .agg #[.int .i64 k', .int .i64 i', .string s']] w fun e w' => e = .returned (.agg #[.int .i64 1, .int .i64 (i - i'), .string ⟨#[]⟩]) ∧ Below w.heap.size w w' := by
  have H := Lib.hid (And.intro ha (And.intro hs hs'))
  clear ha hs hs'
  have hg : ¬ 0 < i' := by omega
  go_enter Tryd.func14, Tryd.ntmps14
  go_wp2_with (first
    | (go_at_call 28; refine ((rapart_any _ _ _ _ _ _ _ H.out.2.1 H.out.2.2).mono (fun _ _ h => (H.out.1 ▸ h : _ = Ending.returned (.bool (!true)) ∧ _))).mono ?_; rintro e w1 ⟨rfl, hb1⟩; have hc1 := (bcell hb1).1; have hf1 := (bcell hb1).2; have hy1 := hb1.size; (try simp at hy1); have hz1_0 : w.heap.size < w1.heap.size := (by omega); have hz1_1 : w.heap.size + 1 < w1.heap.size := (by omega); have hz1_2 : w.heap.size + 1 + 1 < w1.heap.size := (by omega)))
  (refine bodyPost_ret (v := .agg #[.int .i64 1, .int .i64 (i - i'), .string ⟨#[]⟩]) ?_ rfl ⟨rfl, ?_⟩; (· (simp [results, Tryd.results14, go_sem, *]; done)))
  repeat (first | (with_reducible exact Below.refl _ _) | ((with_reducible refine cSet3 ?_ ?_ _ _ _); (· ((try simp) <;> omega))) | (with_reducible refine Below.drew ?_) | ((with_reducible refine cAlloc ?_ ?_ _); (· ((try simp) <;> omega))) | ((with_reducible refine cOn (by assumption) ?_ ?_); (· ((try simp) <;> omega))))

set_option maxRecDepth 100000 in
set_option maxHeartbeats 800000 in
theorem rminus_e (i : Int) (s : ByteArray) (k' i' : Int) (s' : ByteArray) (w : World) (hs : s.size ≤ maxLen) (hs' : s'.size ≤ maxLen) (ha : alikeB 1 i s k' i' s' = true) (hi : -9223372036854775808 ≤ i) (hi2 : i ≤ 9223372036854775807) (hj : -9223372036854775808 ≤ i') (hj2 : i' ≤ 9223372036854775807) (h1 : i' = 0)  :
    Calls Tryd.prog 14 #[.agg #[.int .i64 1, .int .i64 i, .string s], .agg #[.int .i64 k', .int .i64 i', .string s']] w fun e w' => e = .returned (.agg #[.int .i64 1, .int .i64 i, .string ⟨#[]⟩]) ∧ Below w.heap.size w w' := by
  have H := Lib.hid (And.intro ha (And.intro hs hs'))
  clear ha hs hs'
  subst h1
  go_enter Tryd.func14, Tryd.ntmps14
  go_wp2_with (first
    | (go_at_call 28; refine ((rapart_any _ _ _ _ _ _ _ H.out.2.1 H.out.2.2).mono (fun _ _ h => (H.out.1 ▸ h : _ = Ending.returned (.bool (!true)) ∧ _))).mono ?_; rintro e w1 ⟨rfl, hb1⟩; have hc1 := (bcell hb1).1; have hf1 := (bcell hb1).2; have hy1 := hb1.size; (try simp at hy1); have hz1_0 : w.heap.size < w1.heap.size := (by omega); have hz1_1 : w.heap.size + 1 < w1.heap.size := (by omega); have hz1_2 : w.heap.size + 1 + 1 < w1.heap.size := (by omega)))
  (refine bodyPost_ret (v := .agg #[.int .i64 1, .int .i64 i, .string ⟨#[]⟩]) ?_ rfl ⟨rfl, ?_⟩; (· (simp [results, Tryd.results14, go_sem, *]; done)))
  repeat (first | (with_reducible exact Below.refl _ _) | ((with_reducible refine cSet3 ?_ ?_ _ _ _); (· ((try simp) <;> omega))) | (with_reducible refine Below.drew ?_) | ((with_reducible refine cAlloc ?_ ?_ _); (· ((try simp) <;> omega))) | ((with_reducible refine cOn (by assumption) ?_ ?_); (· ((try simp) <;> omega))))

end Go.Proofs.YtggejkkpajpmkaaDoor
