import Derived.Test.YtggejkkpajpmkaaDoorVx
/- The law ValueReckons: Equal, Less, Plus, Minus, Order, May, IsNull are the document's. -/
namespace Go.Proofs.YtggejkkpajpmkaaDoor
open Go.RowKit Go.Lib

def eqK (k i : Int) (s : ByteArray) (k' i' : Int) (s' : ByteArray) : Int := if alikeB k i s k' i' s' then 3 else 0
def eqI (k i : Int) (s : ByteArray) (k' i' : Int) (s' : ByteArray) : Int := if alikeB k i s k' i' s' then b2i (ordN k i s k' i' s' == 0) else 0
def lsI (k i : Int) (s : ByteArray) (k' i' : Int) (s' : ByteArray) : Int := if alikeB k i s k' i' s' then b2i (decide (ordN k i s k' i' s' < 0)) else 0
def plOk (k i : Int) (s : ByteArray) (k' i' : Int) (s' : ByteArray) : Bool := numsB k i s k' i' s' && !badPlus i i'
def plK (k i : Int) (s : ByteArray) (k' i' : Int) (s' : ByteArray) : Int := if plOk k i s k' i' s' then 1 else 0
def plI (k i : Int) (s : ByteArray) (k' i' : Int) (s' : ByteArray) : Int := if plOk k i s k' i' s' then i + i' else 0
def miOk (k i : Int) (s : ByteArray) (k' i' : Int) (s' : ByteArray) : Bool := numsB k i s k' i' s' && !badMinus i i'
def miK (k i : Int) (s : ByteArray) (k' i' : Int) (s' : ByteArray) : Int := if miOk k i s k' i' s' then 1 else 0
def miI (k i : Int) (s : ByteArray) (k' i' : Int) (s' : ByteArray) : Int := if miOk k i s k' i' s' then i - i' else 0

theorem equal_u (k i : Int) (s : ByteArray) (k' i' : Int) (s' : ByteArray) (w : World) :
    Calls Tryd.prog 7 #[.agg #[.int .i64 k, .int .i64 i, .string s], .agg #[.int .i64 k', .int .i64 i', .string s']] w fun e w' => e = .returned (.agg #[.int .i64 (eqK k i s k' i' s'), .int .i64 (eqI k i s k' i' s'), .string ⟨#[]⟩]) ∧ Below w.heap.size w w' := by
  unfold eqK eqI
  cases h : alikeB k i s k' i' s' with
  | true => simp only [if_true]; exact equal_yes k i s k' i' s' w h
  | false => simp only [Bool.false_eq_true, if_false]; exact equal_no k i s k' i' s' w h

theorem requal_u (k i : Int) (s : ByteArray) (k' i' : Int) (s' : ByteArray) (w : World) (hs : s.size ≤ maxLen) (hs' : s'.size ≤ maxLen) :
    Calls Tryd.prog 8 #[.agg #[.int .i64 k, .int .i64 i, .string s], .agg #[.int .i64 k', .int .i64 i', .string s']] w fun e w' => e = .returned (.agg #[.int .i64 (eqK k i s k' i' s'), .int .i64 (eqI k i s k' i' s'), .string ⟨#[]⟩]) ∧ Below w.heap.size w w' := by
  unfold eqK eqI
  cases h : alikeB k i s k' i' s' with
  | true => simp only [if_true]; exact requal_yes k i s k' i' s' w hs hs' h
  | false => simp only [Bool.false_eq_true, if_false]; exact requal_no k i s k' i' s' w hs hs' h

theorem less_u (k i : Int) (s : ByteArray) (k' i' : Int) (s' : ByteArray) (w : World) :
    Calls Tryd.prog 9 #[.agg #[.int .i64 k, .int .i64 i, .string s], .agg #[.int .i64 k', .int .i64 i', .string s']] w fun e w' => e = .returned (.agg #[.int .i64 (eqK k i s k' i' s'), .int .i64 (lsI k i s k' i' s'), .string ⟨#[]⟩]) ∧ Below w.heap.size w w' := by
  unfold eqK lsI
  cases h : alikeB k i s k' i' s' with
  | true => simp only [if_true]; exact less_yes k i s k' i' s' w h
  | false => simp only [Bool.false_eq_true, if_false]; exact less_no k i s k' i' s' w h

theorem rless_u (k i : Int) (s : ByteArray) (k' i' : Int) (s' : ByteArray) (w : World) (hs : s.size ≤ maxLen) (hs' : s'.size ≤ maxLen) :
    Calls Tryd.prog 10 #[.agg #[.int .i64 k, .int .i64 i, .string s], .agg #[.int .i64 k', .int .i64 i', .string s']] w fun e w' => e = .returned (.agg #[.int .i64 (eqK k i s k' i' s'), .int .i64 (lsI k i s k' i' s'), .string ⟨#[]⟩]) ∧ Below w.heap.size w w' := by
  unfold eqK lsI
  cases h : alikeB k i s k' i' s' with
  | true => simp only [if_true]; exact rless_yes k i s k' i' s' w hs hs' h
  | false => simp only [Bool.false_eq_true, if_false]; exact rless_no k i s k' i' s' w hs hs' h

theorem pl_t {k i : Int} {s : ByteArray} {k' i' : Int} {s' : ByteArray} (h : plOk k i s k' i' s' = true) : (Value.agg #[.int .i64 (plK k i s k' i' s'), .int .i64 (plI k i s k' i' s'), .string ⟨#[]⟩]) = Value.agg #[.int .i64 1, .int .i64 (i + i'), .string ⟨#[]⟩] := by
  unfold plK plI; rw [h]; rfl
theorem pl_f {k i : Int} {s : ByteArray} {k' i' : Int} {s' : ByteArray} (h : plOk k i s k' i' s' = false) : (Value.agg #[.int .i64 (plK k i s k' i' s'), .int .i64 (plI k i s k' i' s'), .string ⟨#[]⟩]) = Value.agg #[.int .i64 0, .int .i64 0, .string ⟨#[]⟩] := by
  unfold plK plI; rw [h]; rfl
theorem plus_u (k i : Int) (s : ByteArray) (k' i' : Int) (s' : ByteArray) (w : World) (hi : In64 i) (hi' : In64 i') :
    Calls Tryd.prog 11 #[.agg #[.int .i64 k, .int .i64 i, .string s], .agg #[.int .i64 k', .int .i64 i', .string s']] w fun e w' => e = .returned (.agg #[.int .i64 (plK k i s k' i' s'), .int .i64 (plI k i s k' i' s'), .string ⟨#[]⟩]) ∧ Below w.heap.size w w' := by
  cases hn : numsB k i s k' i' s' with
  | false =>
    rw [pl_f (by unfold plOk; rw [hn]; rfl)]
    exact plus_no k i s k' i' s' w hn
  | true =>
    cases hb : badPlus i i' with
    | true =>
      rw [pl_f (by unfold plOk; rw [hn, hb]; rfl)]
      exact plus_bad k i s k' i' s' w hn hb
    | false =>
      rw [pl_t (by unfold plOk; rw [hn, hb]; rfl)]
      have h := plus_yes k i s k' i' s' w hn hb
      rw [wrap_in ((badPlus_eq hi hi').1 hb)] at h
      exact h

theorem rplus_u (k i : Int) (s : ByteArray) (k' i' : Int) (s' : ByteArray) (w : World) (hs : s.size ≤ maxLen) (hs' : s'.size ≤ maxLen) (hi : In64 i) (hi' : In64 i') :
    Calls Tryd.prog 12 #[.agg #[.int .i64 k, .int .i64 i, .string s], .agg #[.int .i64 k', .int .i64 i', .string s']] w fun e w' => e = .returned (.agg #[.int .i64 (plK k i s k' i' s'), .int .i64 (plI k i s k' i' s'), .string ⟨#[]⟩]) ∧ Below w.heap.size w w' := by
  cases ha : alikeB k i s k' i' s' with
  | false =>
    have hn : numsB k i s k' i' s' = false := by
      cases q : numsB k i s k' i' s' with
      | false => rfl
      | true => rw [nums_alike q] at ha; cases ha
    rw [pl_f (by unfold plOk; rw [hn]; rfl)]
    exact rplus_apart k i s k' i' s' w hs hs' ha
  | true =>
    by_cases hk : k = 1
    · subst hk
      have hn : numsB 1 i s k' i' s' = true := by rw [alike_nums ha]; rfl
      by_cases h1 : 0 < i'
      · by_cases h2 : 9223372036854775807 - i' < i
        · rw [pl_f (by unfold plOk; rw [hn, badPlus_out hi hi' (by unfold In64 at *; omega)]; rfl)]; exact rplus_a i s k' i' s' w hs hs' ha hi.1 hi.2 hi'.1 hi'.2 h1 h2
        · rw [pl_t (by unfold plOk; rw [hn, badPlus_in (by unfold In64 at *; omega)]; rfl)]; exact rplus_b i s k' i' s' w hs hs' ha hi.1 hi.2 hi'.1 hi'.2 h1 h2
      · by_cases h3 : i' < 0
        · by_cases h2 : i < -9223372036854775808 - i'
          · rw [pl_f (by unfold plOk; rw [hn, badPlus_out hi hi' (by unfold In64 at *; omega)]; rfl)]; exact rplus_c i s k' i' s' w hs hs' ha hi.1 hi.2 hi'.1 hi'.2 h3 h2
          · rw [pl_t (by unfold plOk; rw [hn, badPlus_in (by unfold In64 at *; omega)]; rfl)]; exact rplus_d i s k' i' s' w hs hs' ha hi.1 hi.2 hi'.1 hi'.2 h3 h2
        · have h0 : i' = 0 := by omega
          rw [pl_t (by unfold plOk; rw [hn, badPlus_in (by unfold In64 at *; omega)]; rfl), show i + i' = i by omega]
          exact rplus_e i s k' i' s' w hs hs' ha hi.1 hi.2 hi'.1 hi'.2 h0
    · have hn : numsB k i s k' i' s' = false := by rw [alike_nums ha]; exact decide_eq_false hk
      rw [pl_f (by unfold plOk; rw [hn]; rfl)]
      exact rplus_other k i s k' i' s' w hs hs' ha hk

theorem mi_t {k i : Int} {s : ByteArray} {k' i' : Int} {s' : ByteArray} (h : miOk k i s k' i' s' = true) : (Value.agg #[.int .i64 (miK k i s k' i' s'), .int .i64 (miI k i s k' i' s'), .string ⟨#[]⟩]) = Value.agg #[.int .i64 1, .int .i64 (i - i'), .string ⟨#[]⟩] := by
  unfold miK miI; rw [h]; rfl
theorem mi_f {k i : Int} {s : ByteArray} {k' i' : Int} {s' : ByteArray} (h : miOk k i s k' i' s' = false) : (Value.agg #[.int .i64 (miK k i s k' i' s'), .int .i64 (miI k i s k' i' s'), .string ⟨#[]⟩]) = Value.agg #[.int .i64 0, .int .i64 0, .string ⟨#[]⟩] := by
  unfold miK miI; rw [h]; rfl
theorem minus_u (k i : Int) (s : ByteArray) (k' i' : Int) (s' : ByteArray) (w : World) (hi : In64 i) (hi' : In64 i') :
    Calls Tryd.prog 13 #[.agg #[.int .i64 k, .int .i64 i, .string s], .agg #[.int .i64 k', .int .i64 i', .string s']] w fun e w' => e = .returned (.agg #[.int .i64 (miK k i s k' i' s'), .int .i64 (miI k i s k' i' s'), .string ⟨#[]⟩]) ∧ Below w.heap.size w w' := by
  cases hn : numsB k i s k' i' s' with
  | false =>
    rw [mi_f (by unfold miOk; rw [hn]; rfl)]
    exact minus_no k i s k' i' s' w hn
  | true =>
    cases hb : badMinus i i' with
    | true =>
      rw [mi_f (by unfold miOk; rw [hn, hb]; rfl)]
      exact minus_bad k i s k' i' s' w hn hb
    | false =>
      rw [mi_t (by unfold miOk; rw [hn, hb]; rfl)]
      have h := minus_yes k i s k' i' s' w hn hb
      rw [wrap_in ((badMinus_eq hi hi').1 hb)] at h
      exact h

theorem rminus_u (k i : Int) (s : ByteArray) (k' i' : Int) (s' : ByteArray) (w : World) (hs : s.size ≤ maxLen) (hs' : s'.size ≤ maxLen) (hi : In64 i) (hi' : In64 i') :
    Calls Tryd.prog 14 #[.agg #[.int .i64 k, .int .i64 i, .string s], .agg #[.int .i64 k', .int .i64 i', .string s']] w fun e w' => e = .returned (.agg #[.int .i64 (miK k i s k' i' s'), .int .i64 (miI k i s k' i' s'), .string ⟨#[]⟩]) ∧ Below w.heap.size w w' := by
  cases ha : alikeB k i s k' i' s' with
  | false =>
    have hn : numsB k i s k' i' s' = false := by
      cases q : numsB k i s k' i' s' with
      | false => rfl
      | true => rw [nums_alike q] at ha; cases ha
    rw [mi_f (by unfold miOk; rw [hn]; rfl)]
    exact rminus_apart k i s k' i' s' w hs hs' ha
  | true =>
    by_cases hk : k = 1
    · subst hk
      have hn : numsB 1 i s k' i' s' = true := by rw [alike_nums ha]; rfl
      by_cases h1 : 0 < i'
      · by_cases h2 : i < -9223372036854775808 + i'
        · rw [mi_f (by unfold miOk; rw [hn, badMinus_out hi hi' (by unfold In64 at *; omega)]; rfl)]; exact rminus_a i s k' i' s' w hs hs' ha hi.1 hi.2 hi'.1 hi'.2 h1 h2
        · rw [mi_t (by unfold miOk; rw [hn, badMinus_in (by unfold In64 at *; omega)]; rfl)]; exact rminus_b i s k' i' s' w hs hs' ha hi.1 hi.2 hi'.1 hi'.2 h1 h2
      · by_cases h3 : i' < 0
        · by_cases h2 : 9223372036854775807 + i' < i
          · rw [mi_f (by unfold miOk; rw [hn, badMinus_out hi hi' (by unfold In64 at *; omega)]; rfl)]; exact rminus_c i s k' i' s' w hs hs' ha hi.1 hi.2 hi'.1 hi'.2 h3 h2
          · rw [mi_t (by unfold miOk; rw [hn, badMinus_in (by unfold In64 at *; omega)]; rfl)]; exact rminus_d i s k' i' s' w hs hs' ha hi.1 hi.2 hi'.1 hi'.2 h3 h2
        · have h0 : i' = 0 := by omega
          rw [mi_t (by unfold miOk; rw [hn, badMinus_in (by unfold In64 at *; omega)]; rfl), show i - i' = i by omega]
          exact rminus_e i s k' i' s' w hs hs' ha hi.1 hi.2 hi'.1 hi'.2 h0
    · have hn : numsB k i s k' i' s' = false := by rw [alike_nums ha]; exact decide_eq_false hk
      rw [mi_f (by unfold miOk; rw [hn]; rfl)]
      exact rminus_other k i s k' i' s' w hs hs' ha hk

theorem rtruth_any (b : Bool) (w : World) :
    Calls Tryd.prog 20 #[.bool b] w fun e w' => e = .returned (.agg #[.int .i64 3, .int .i64 (b2i b), .string ⟨#[]⟩]) ∧ Below w.heap.size w w' := by
  cases b with
  | true => exact rtruth_t w
  | false => exact rtruth_f w
theorem few_len (s : ByteArray) : (fewS s).size ≤ maxLen := by have := fewS_size s; unfold maxLen; omega
theorem isnull_true (k i : Int) (s : ByteArray) (w : World) (h : mayB k i s = true) :
    Calls Tryd.prog 19 #[.agg #[.int .i64 k, .int .i64 i, .string s]] w fun e w' => e = .returned (.agg #[.int .i64 3, .int .i64 (b2i (k == 0)), .string ⟨#[]⟩]) ∧ Below w.heap.size w w' := by
  have h1 := isNull_any k i s w
  rw [show hK k i s = k by unfold hK; rw [if_pos h]] at h1
  exact h1
theorem isnull_false (k i : Int) (s : ByteArray) (w : World) (h : mayB k i s = false) :
    Calls Tryd.prog 19 #[.agg #[.int .i64 k, .int .i64 i, .string s]] w fun e w' => e = .returned (.agg #[.int .i64 3, .int .i64 1, .string ⟨#[]⟩]) ∧ Below w.heap.size w w' := by
  have h1 := isNull_any k i s w
  rw [show hK k i s = 0 by unfold hK; rw [h]; rfl] at h1
  exact h1
theorem isnull_eq (k i : Int) (s : ByteArray) : (hK k i s == 0) = (!mayB k i s || (k == 0)) := by
  unfold hK
  cases mayB k i s <;> rfl

set_option maxRecDepth 100000 in
set_option maxHeartbeats 40000000 in
theorem law_reckons (k i : Int) (s : ByteArray) (k' i' : Int) (s' : ByteArray) (w : World) (hs : s.size ≤ maxLen) (hs' : s'.size ≤ maxLen) (hi : In64 i) (hi' : In64 i') (m : Int) (hm : w.cell? ⟨0, 0, none⟩ = some (.int .i64 m)) :
    Calls Tryd.prog 3 #[.agg #[.int .i64 k, .int .i64 i, .string s], .agg #[.int .i64 k', .int .i64 i', .string s']] w fun e w' => e = .returned (.bool true) ∧ Below w.heap.size w w' := by
  have hlt : 0 < w.heap.size := World.block_lt_of_cell? w _ hm
  go_enter Tryd.func3, Tryd.ntmps3
  go_wp2
  refine detL_begin [.val (.agg #[.int .i64 k, .int .i64 i, .string s]), .val (.agg #[.int .i64 k, .int .i64 i, .string (fewS s)]), .val (.agg #[.int .i64 k', .int .i64 i', .string s']), .val (.agg #[.int .i64 k', .int .i64 i', .string (fewS s')])] 4 (by kernel_rfl) ?_
  refine detL_val (by kernel_rfl) (yields_of rfl fun w1 hb1 => ?_) ?_
  · have hc1 := bcellD hb1
    clear hb1
    go_simp
    exact Det1_same
  simp only [Act.put, List.setIfInBounds_toArray, List.set_cons_zero, List.set_cons_succ]
  refine detL_val (by kernel_rfl) (yields_of rfl fun w1 hb1 => ?_) ?_
  · have hc1 := bcellD hb1
    clear hb1
    go_simp
    exact Det1_enter (few_any _ _ _ _ hs)
  simp only [Act.put, List.setIfInBounds_toArray, List.set_cons_zero, List.set_cons_succ]
  refine detL_val (by kernel_rfl) (yields_of rfl fun w1 hb1 => ?_) ?_
  · have hc1 := bcellD hb1
    clear hb1
    go_simp
    exact Det1_same
  simp only [Act.put, List.setIfInBounds_toArray, List.set_cons_zero, List.set_cons_succ]
  refine detL_val (by kernel_rfl) (yields_of rfl fun w1 hb1 => ?_) ?_
  · have hc1 := bcellD hb1
    clear hb1
    go_simp
    exact Det1_enter (few_any _ _ _ _ hs')
  simp only [Act.put, List.setIfInBounds_toArray, List.set_cons_zero, List.set_cons_succ]
  refine detL_tail rfl (by kernel_rfl) fun w1 hw1 => ?_
  have hb1 := hw1.below
  clear hw1
  have hc1 := (bcell hb1).1
  have hf1 := (bcell hb1).2
  have hy1 := hb1.size
  (try simp at hy1)
  have hz1_0 : w.heap.size < w1.heap.size := (by omega)
  have hz1_1 : w.heap.size + 1 < w1.heap.size := (by omega)
  have a0 : At3 w1 w.heap.size k i s := At3.later (by repeat (first | (with_reducible assumption) | (with_reducible exact Box.of (by assumption)) | ((with_reducible refine At3.new ?_); simp) | (with_reducible refine At3.drew ?_) | (with_reducible refine At3.alloc ?_ _) | (with_reducible refine Box.drew ?_) | (with_reducible refine Box.alloc ?_ _) | (with_reducible refine Box.set ?_ _ _ _) | ((with_reducible refine At3.set_other' ?_ ?_ _ _ _); (· omega)) | ((with_reducible refine Box.set_other ?_ ?_ _ _ _); (· omega)))) hb1
  have a1 : At3 w1 (w.heap.size + 1) k' i' s' := At3.later (by repeat (first | (with_reducible assumption) | (with_reducible exact Box.of (by assumption)) | ((with_reducible refine At3.new ?_); simp) | (with_reducible refine At3.drew ?_) | (with_reducible refine At3.alloc ?_ _) | (with_reducible refine Box.drew ?_) | (with_reducible refine Box.alloc ?_ _) | (with_reducible refine Box.set ?_ _ _ _) | ((with_reducible refine At3.set_other' ?_ ?_ _ _ _); (· omega)) | ((with_reducible refine Box.set_other ?_ ?_ _ _ _); (· omega)))) hb1
  have HH := Lib.hid (And.intro a0 a1)
  clear a0 a1
  go_upto_region 2 with (fail)
  have a0 := HH.out.1
  have a1 := HH.out.2
  refine wp_gen (fun W => Below w.heap.size w W ∧ At3 W w.heap.size k i (fewS s) ∧ At3 W (w.heap.size + 1) k' i' (fewS s')) ⟨?_, ?_, ?_⟩ ?_
  · repeat (first | (with_reducible exact Below.refl _ _) | ((with_reducible refine cSet3 ?_ ?_ _ _ _); (· ((try simp) <;> omega))) | (with_reducible refine Below.drew ?_) | ((with_reducible refine cAlloc ?_ ?_ _); (· ((try simp) <;> omega))) | ((with_reducible refine cOn (by assumption) ?_ ?_); (· ((try simp) <;> omega))))
  · repeat (first | (with_reducible assumption) | (with_reducible exact Box.of (by assumption)) | ((with_reducible refine At3.new ?_); simp) | (with_reducible refine At3.drew ?_) | (with_reducible refine At3.alloc ?_ _) | (with_reducible refine Box.drew ?_) | (with_reducible refine Box.alloc ?_ _) | (with_reducible refine Box.set ?_ _ _ _) | ((with_reducible refine At3.set_other' ?_ ?_ _ _ _); (· omega)) | ((with_reducible refine Box.set_other ?_ ?_ _ _ _); (· omega)))
  · repeat (first | (with_reducible assumption) | (with_reducible exact Box.of (by assumption)) | ((with_reducible refine At3.new ?_); simp) | (with_reducible refine At3.drew ?_) | (with_reducible refine At3.alloc ?_ _) | (with_reducible refine Box.drew ?_) | (with_reducible refine Box.alloc ?_ _) | (with_reducible refine Box.set ?_ _ _ _) | ((with_reducible refine At3.set_other' ?_ ?_ _ _ _); (· omega)) | ((with_reducible refine Box.set_other ?_ ?_ _ _ _); (· omega)))
  clear hc1 hf1 hb1 hy1 hz1_0 hz1_1 a0 a1 HH
  rintro W ⟨hB, A0, A1⟩
  have c0k := A0.k
  have c0i := A0.i
  have c0s := A0.s
  have l0 := A0.lt
  have c1k := A1.k
  have c1i := A1.i
  have c1s := A1.s
  have l1 := A1.lt
  have hW0 : 0 < W.heap.size := wlt hB hlt
  have hmW : W.cell? ⟨0, 0, none⟩ = some (.int .i64 m) := (hB.cell (p := ⟨0, 0, none⟩) hlt).trans hm
  refine detL_begin [.val (.agg #[.int .i64 k, .int .i64 i, .string (fewS s)]), .val (.agg #[.int .i64 k', .int .i64 i', .string (fewS s')]), .val (.agg #[.int .i64 (eqK k i (fewS s) k' i' (fewS s')), .int .i64 (eqI k i (fewS s) k' i' (fewS s')), .string ⟨#[]⟩]), .val (.agg #[.int .i64 k, .int .i64 i, .string (fewS s)]), .val (.agg #[.int .i64 k', .int .i64 i', .string (fewS s')]), .val (.agg #[.int .i64 (eqK k i (fewS s) k' i' (fewS s')), .int .i64 (eqI k i (fewS s) k' i' (fewS s')), .string ⟨#[]⟩]), .val (.bool false), .val (.bool false), .val (.agg #[.int .i64 k, .int .i64 i, .string (fewS s)]), .val (.agg #[.int .i64 k', .int .i64 i', .string (fewS s')]), .val (.agg #[.int .i64 (eqK k i (fewS s) k' i' (fewS s')), .int .i64 (lsI k i (fewS s) k' i' (fewS s')), .string ⟨#[]⟩]), .val (.agg #[.int .i64 k, .int .i64 i, .string (fewS s)]), .val (.agg #[.int .i64 k', .int .i64 i', .string (fewS s')]), .val (.agg #[.int .i64 (eqK k i (fewS s) k' i' (fewS s')), .int .i64 (lsI k i (fewS s) k' i' (fewS s')), .string ⟨#[]⟩]), .val (.bool false), .val (.bool false), .val (.bool false), .val (.agg #[.int .i64 k, .int .i64 i, .string (fewS s)]), .val (.agg #[.int .i64 k', .int .i64 i', .string (fewS s')]), .val (.agg #[.int .i64 (plK k i (fewS s) k' i' (fewS s')), .int .i64 (plI k i (fewS s) k' i' (fewS s')), .string ⟨#[]⟩]), .val (.agg #[.int .i64 k, .int .i64 i, .string (fewS s)]), .val (.agg #[.int .i64 k', .int .i64 i', .string (fewS s')]), .val (.agg #[.int .i64 (plK k i (fewS s) k' i' (fewS s')), .int .i64 (plI k i (fewS s) k' i' (fewS s')), .string ⟨#[]⟩]), .val (.bool false), .val (.bool false), .val (.bool false), .val (.agg #[.int .i64 k, .int .i64 i, .string (fewS s)]), .val (.agg #[.int .i64 k', .int .i64 i', .string (fewS s')]), .val (.agg #[.int .i64 (miK k i (fewS s) k' i' (fewS s')), .int .i64 (miI k i (fewS s) k' i' (fewS s')), .string ⟨#[]⟩]), .val (.agg #[.int .i64 k, .int .i64 i, .string (fewS s)]), .val (.agg #[.int .i64 k', .int .i64 i', .string (fewS s')]), .val (.agg #[.int .i64 (miK k i (fewS s) k' i' (fewS s')), .int .i64 (miI k i (fewS s) k' i' (fewS s')), .string ⟨#[]⟩]), .val (.bool false), .val (.bool false)] 34 (by kernel_rfl) ?_
  refine detL_val (by kernel_rfl) (yields_of rfl fun w1 hb1 => ?_) ?_
  · have hc1 := bcellD hb1
    clear hb1
    go_simp
    exact Det1_same
  simp only [Act.put, List.setIfInBounds_toArray, List.set_cons_zero, List.set_cons_succ]
  refine detL_val (by kernel_rfl) (yields_of rfl fun w1 hb1 => ?_) ?_
  · have hc1 := bcellD hb1
    clear hb1
    go_simp
    exact Det1_same
  simp only [Act.put, List.setIfInBounds_toArray, List.set_cons_zero, List.set_cons_succ]
  refine detL_val (by kernel_rfl) (yields_of rfl fun w1 hb1 => ?_) ?_
  · have hc1 := bcellD hb1
    clear hb1
    go_simp
    exact Det1_enter (equal_u _ _ _ _ _ _ _)
  simp only [Act.put, List.setIfInBounds_toArray, List.set_cons_zero, List.set_cons_succ]
  refine detL_val (by kernel_rfl) (yields_of rfl fun w1 hb1 => ?_) ?_
  · have hc1 := bcellD hb1
    clear hb1
    go_simp
    exact Det1_same
  simp only [Act.put, List.setIfInBounds_toArray, List.set_cons_zero, List.set_cons_succ]
  refine detL_val (by kernel_rfl) (yields_of rfl fun w1 hb1 => ?_) ?_
  · have hc1 := bcellD hb1
    clear hb1
    go_simp
    exact Det1_same
  simp only [Act.put, List.setIfInBounds_toArray, List.set_cons_zero, List.set_cons_succ]
  refine detL_val (by kernel_rfl) (yields_of rfl fun w1 hb1 => ?_) ?_
  · have hc1 := bcellD hb1
    clear hb1
    go_simp
    exact Det1_enter (requal_u _ _ _ _ _ _ _ (few_len _) (few_len _))
  simp only [Act.put, List.setIfInBounds_toArray, List.set_cons_zero, List.set_cons_succ]
  refine detL_val (by kernel_rfl) (yields_of rfl fun w1 hb1 => ?_) ?_
  · have hc1 := bcellD hb1
    clear hb1
    go_simp
    exact Det1_same
  simp only [Act.put, List.setIfInBounds_toArray, List.set_cons_zero, List.set_cons_succ]
  refine detL_val (by kernel_rfl) (yields_of rfl fun w1 hb1 => ?_) ?_
  · have hc1 := bcellD hb1
    clear hb1
    go_simp
    exact Det1_same
  simp only [Act.put, List.setIfInBounds_toArray, List.set_cons_zero, List.set_cons_succ]
  refine detL_val (by kernel_rfl) (yields_of rfl fun w1 hb1 => ?_) ?_
  · have hc1 := bcellD hb1
    clear hb1
    go_simp
    exact Det1_same
  simp only [Act.put, List.setIfInBounds_toArray, List.set_cons_zero, List.set_cons_succ]
  refine detL_val (by kernel_rfl) (yields_of rfl fun w1 hb1 => ?_) ?_
  · have hc1 := bcellD hb1
    clear hb1
    go_simp
    exact Det1_same
  simp only [Act.put, List.setIfInBounds_toArray, List.set_cons_zero, List.set_cons_succ]
  refine detL_val (by kernel_rfl) (yields_of rfl fun w1 hb1 => ?_) ?_
  · have hc1 := bcellD hb1
    clear hb1
    go_simp
    exact Det1_enter (less_u _ _ _ _ _ _ _)
  simp only [Act.put, List.setIfInBounds_toArray, List.set_cons_zero, List.set_cons_succ]
  refine detL_val (by kernel_rfl) (yields_of rfl fun w1 hb1 => ?_) ?_
  · have hc1 := bcellD hb1
    clear hb1
    go_simp
    exact Det1_same
  simp only [Act.put, List.setIfInBounds_toArray, List.set_cons_zero, List.set_cons_succ]
  refine detL_val (by kernel_rfl) (yields_of rfl fun w1 hb1 => ?_) ?_
  · have hc1 := bcellD hb1
    clear hb1
    go_simp
    exact Det1_same
  simp only [Act.put, List.setIfInBounds_toArray, List.set_cons_zero, List.set_cons_succ]
  refine detL_val (by kernel_rfl) (yields_of rfl fun w1 hb1 => ?_) ?_
  · have hc1 := bcellD hb1
    clear hb1
    go_simp
    exact Det1_enter (rless_u _ _ _ _ _ _ _ (few_len _) (few_len _))
  simp only [Act.put, List.setIfInBounds_toArray, List.set_cons_zero, List.set_cons_succ]
  refine detL_val (by kernel_rfl) (yields_of rfl fun w1 hb1 => ?_) ?_
  · have hc1 := bcellD hb1
    clear hb1
    go_simp
    exact Det1_same
  simp only [Act.put, List.setIfInBounds_toArray, List.set_cons_zero, List.set_cons_succ]
  refine detL_val (by kernel_rfl) (yields_of rfl fun w1 hb1 => ?_) ?_
  · have hc1 := bcellD hb1
    clear hb1
    go_simp
    exact Det1_same
  simp only [Act.put, List.setIfInBounds_toArray, List.set_cons_zero, List.set_cons_succ]
  refine detL_val (by kernel_rfl) (yields_of rfl fun w1 hb1 => ?_) ?_
  · have hc1 := bcellD hb1
    clear hb1
    go_simp
    exact Det1_same
  simp only [Act.put, List.setIfInBounds_toArray, List.set_cons_zero, List.set_cons_succ]
  refine detL_val (by kernel_rfl) (yields_of rfl fun w1 hb1 => ?_) ?_
  · have hc1 := bcellD hb1
    clear hb1
    go_simp
    exact Det1_same
  simp only [Act.put, List.setIfInBounds_toArray, List.set_cons_zero, List.set_cons_succ]
  refine detL_val (by kernel_rfl) (yields_of rfl fun w1 hb1 => ?_) ?_
  · have hc1 := bcellD hb1
    clear hb1
    go_simp
    exact Det1_same
  simp only [Act.put, List.setIfInBounds_toArray, List.set_cons_zero, List.set_cons_succ]
  refine detL_val (by kernel_rfl) (yields_of rfl fun w1 hb1 => ?_) ?_
  · have hc1 := bcellD hb1
    clear hb1
    go_simp
    exact Det1_enter (plus_u _ _ _ _ _ _ _ hi hi')
  simp only [Act.put, List.setIfInBounds_toArray, List.set_cons_zero, List.set_cons_succ]
  refine detL_val (by kernel_rfl) (yields_of rfl fun w1 hb1 => ?_) ?_
  · have hc1 := bcellD hb1
    clear hb1
    go_simp
    exact Det1_same
  simp only [Act.put, List.setIfInBounds_toArray, List.set_cons_zero, List.set_cons_succ]
  refine detL_val (by kernel_rfl) (yields_of rfl fun w1 hb1 => ?_) ?_
  · have hc1 := bcellD hb1
    clear hb1
    go_simp
    exact Det1_same
  simp only [Act.put, List.setIfInBounds_toArray, List.set_cons_zero, List.set_cons_succ]
  refine detL_val (by kernel_rfl) (yields_of rfl fun w1 hb1 => ?_) ?_
  · have hc1 := bcellD hb1
    clear hb1
    go_simp
    exact Det1_enter (rplus_u _ _ _ _ _ _ _ (few_len _) (few_len _) hi hi')
  simp only [Act.put, List.setIfInBounds_toArray, List.set_cons_zero, List.set_cons_succ]
  refine detL_val (by kernel_rfl) (yields_of rfl fun w1 hb1 => ?_) ?_
  · have hc1 := bcellD hb1
    clear hb1
    go_simp
    exact Det1_same
  simp only [Act.put, List.setIfInBounds_toArray, List.set_cons_zero, List.set_cons_succ]
  refine detL_val (by kernel_rfl) (yields_of rfl fun w1 hb1 => ?_) ?_
  · have hc1 := bcellD hb1
    clear hb1
    go_simp
    exact Det1_same
  simp only [Act.put, List.setIfInBounds_toArray, List.set_cons_zero, List.set_cons_succ]
  refine detL_val (by kernel_rfl) (yields_of rfl fun w1 hb1 => ?_) ?_
  · have hc1 := bcellD hb1
    clear hb1
    go_simp
    exact Det1_same
  simp only [Act.put, List.setIfInBounds_toArray, List.set_cons_zero, List.set_cons_succ]
  refine detL_val (by kernel_rfl) (yields_of rfl fun w1 hb1 => ?_) ?_
  · have hc1 := bcellD hb1
    clear hb1
    go_simp
    exact Det1_same
  simp only [Act.put, List.setIfInBounds_toArray, List.set_cons_zero, List.set_cons_succ]
  refine detL_val (by kernel_rfl) (yields_of rfl fun w1 hb1 => ?_) ?_
  · have hc1 := bcellD hb1
    clear hb1
    go_simp
    exact Det1_same
  simp only [Act.put, List.setIfInBounds_toArray, List.set_cons_zero, List.set_cons_succ]
  refine detL_val (by kernel_rfl) (yields_of rfl fun w1 hb1 => ?_) ?_
  · have hc1 := bcellD hb1
    clear hb1
    go_simp
    exact Det1_enter (minus_u _ _ _ _ _ _ _ hi hi')
  simp only [Act.put, List.setIfInBounds_toArray, List.set_cons_zero, List.set_cons_succ]
  refine detL_val (by kernel_rfl) (yields_of rfl fun w1 hb1 => ?_) ?_
  · have hc1 := bcellD hb1
    clear hb1
    go_simp
    exact Det1_same
  simp only [Act.put, List.setIfInBounds_toArray, List.set_cons_zero, List.set_cons_succ]
  refine detL_val (by kernel_rfl) (yields_of rfl fun w1 hb1 => ?_) ?_
  · have hc1 := bcellD hb1
    clear hb1
    go_simp
    exact Det1_same
  simp only [Act.put, List.setIfInBounds_toArray, List.set_cons_zero, List.set_cons_succ]
  refine detL_val (by kernel_rfl) (yields_of rfl fun w1 hb1 => ?_) ?_
  · have hc1 := bcellD hb1
    clear hb1
    go_simp
    exact Det1_enter (rminus_u _ _ _ _ _ _ _ (few_len _) (few_len _) hi hi')
  simp only [Act.put, List.setIfInBounds_toArray, List.set_cons_zero, List.set_cons_succ]
  refine detL_val (by kernel_rfl) (yields_of rfl fun w1 hb1 => ?_) ?_
  · have hc1 := bcellD hb1
    clear hb1
    go_simp
    exact Det1_same
  simp only [Act.put, List.setIfInBounds_toArray, List.set_cons_zero, List.set_cons_succ]
  refine detL_val (by kernel_rfl) (yields_of rfl fun w1 hb1 => ?_) ?_
  · have hc1 := bcellD hb1
    clear hb1
    go_simp
    exact Det1_same
  simp only [Act.put, List.setIfInBounds_toArray, List.set_cons_zero, List.set_cons_succ]
  refine detL_done (by kernel_rfl) fun w1 hw1 => ?_
  have hb1 := hw1.below
  clear hw1 c0k c0i c0s l0 c1k c1i c1s l1 hW0 hmW
  go_wp2
  refine wp_gen (fun W => Below w.heap.size w W ∧ At3 W w.heap.size k i (fewS s) ∧ At3 W (w.heap.size + 1) k' i' (fewS s')) ⟨hB.drew.trans (hb1.mono hB.size), A0.drew.later hb1, A1.drew.later hb1⟩ ?_
  clear hb1 hB A0 A1
  rintro W ⟨hB, A0, A1⟩
  have c0k := A0.k
  have c0i := A0.i
  have c0s := A0.s
  have l0 := A0.lt
  have c1k := A1.k
  have c1i := A1.i
  have c1s := A1.s
  have l1 := A1.lt
  have hW0 : 0 < W.heap.size := wlt hB hlt
  have hmW : W.cell? ⟨0, 0, none⟩ = some (.int .i64 m) := (hB.cell (p := ⟨0, 0, none⟩) hlt).trans hm
  cases hmy : mayB k i (fewS s) with
  | true =>
    have HM := Lib.hid hmy
    clear hmy
    refine detL_begin [.val (.agg #[.int .i64 k, .int .i64 i, .string (fewS s)]), .val (.agg #[.int .i64 k', .int .i64 i', .string (fewS s')]), .val (.int .i64 (ordN k i (fewS s) k' i' (fewS s'))), .val (.agg #[.int .i64 k, .int .i64 i, .string (fewS s)]), .val (.agg #[.int .i64 k', .int .i64 i', .string (fewS s')]), .val (.int .i64 (ordN k i (fewS s) k' i' (fewS s'))), .val (.bool true), .val (.bool true), .val (.agg #[.int .i64 k, .int .i64 i, .string (fewS s)]), .val (.bool true), .val (.agg #[.int .i64 k, .int .i64 i, .string (fewS s)]), .val (.bool true), .val (.bool true), .val (.bool true), .val (.bool true), .val (.agg #[.int .i64 k, .int .i64 i, .string (fewS s)]), .val (.agg #[.int .i64 3, .int .i64 (b2i (k == 0)), .string ⟨#[]⟩]), .val (.agg #[.int .i64 k, .int .i64 i, .string (fewS s)]), .val (.bool true), .val (.bool false), .val (.bool false), .val (.pointer (some ⟨w.heap.size, 0, none⟩)), .val (.int .i64 k), .val (.bool (k == 0)), .val (.bool (k == 0)), .val (.agg #[.int .i64 3, .int .i64 (b2i (k == 0)), .string ⟨#[]⟩]), .val (.bool true), .val (.bool true), .val (.bool true), .val (.bool true), .val (.bool true), .val (.bool true)] 32 (by kernel_rfl) ?_
    refine detL_val (by kernel_rfl) (yields_of rfl fun w1 hb1 => ?_) ?_
    · have hc1 := bcellD hb1
      clear hb1
      go_simp
      exact Det1_same
    simp only [Act.put, List.setIfInBounds_toArray, List.set_cons_zero, List.set_cons_succ]
    refine detL_val (by kernel_rfl) (yields_of rfl fun w1 hb1 => ?_) ?_
    · have hc1 := bcellD hb1
      clear hb1
      go_simp
      exact Det1_same
    simp only [Act.put, List.setIfInBounds_toArray, List.set_cons_zero, List.set_cons_succ]
    refine detL_val (by kernel_rfl) (yields_of rfl fun w1 hb1 => ?_) ?_
    · have hc1 := bcellD hb1
      clear hb1
      go_simp
      exact Det1_enter (order_any _ _ _ _ _ _ _)
    simp only [Act.put, List.setIfInBounds_toArray, List.set_cons_zero, List.set_cons_succ]
    refine detL_val (by kernel_rfl) (yields_of rfl fun w1 hb1 => ?_) ?_
    · have hc1 := bcellD hb1
      clear hb1
      go_simp
      exact Det1_same
    simp only [Act.put, List.setIfInBounds_toArray, List.set_cons_zero, List.set_cons_succ]
    refine detL_val (by kernel_rfl) (yields_of rfl fun w1 hb1 => ?_) ?_
    · have hc1 := bcellD hb1
      clear hb1
      go_simp
      exact Det1_same
    simp only [Act.put, List.setIfInBounds_toArray, List.set_cons_zero, List.set_cons_succ]
    refine detL_val (by kernel_rfl) (yields_of rfl fun w1 hb1 => ?_) ?_
    · have hc1 := bcellD hb1
      clear hb1
      go_simp
      exact Det1_enter (rorder_any _ _ _ _ _ _ _ (few_len _) (few_len _))
    simp only [Act.put, List.setIfInBounds_toArray, List.set_cons_zero, List.set_cons_succ]
    refine detL_val (by kernel_rfl) (yields_of rfl fun w1 hb1 => ?_) ?_
    · have hc1 := bcellD hb1
      clear hb1
      go_simp
      exact Det1_same
    simp only [Act.put, List.setIfInBounds_toArray, List.set_cons_zero, List.set_cons_succ]
    refine detL_val (by kernel_rfl) (yields_of rfl fun w1 hb1 => ?_) ?_
    · have hc1 := bcellD hb1
      clear hb1
      go_simp
      exact Det1_same
    simp only [Act.put, List.setIfInBounds_toArray, List.set_cons_zero, List.set_cons_succ]
    refine detL_val (by kernel_rfl) (yields_of rfl fun w1 hb1 => ?_) ?_
    · have hc1 := bcellD hb1
      clear hb1
      go_simp
      exact Det1_same
    simp only [Act.put, List.setIfInBounds_toArray, List.set_cons_zero, List.set_cons_succ]
    refine detL_val (by kernel_rfl) (yields_of rfl fun w1 hb1 => ?_) ?_
    · have hc1 := bcellD hb1
      clear hb1
      go_simp
      exact Det1_enter (may_t _ _ _ _ HM.out)
    simp only [Act.put, List.setIfInBounds_toArray, List.set_cons_zero, List.set_cons_succ]
    refine detL_val (by kernel_rfl) (yields_of rfl fun w1 hb1 => ?_) ?_
    · have hc1 := bcellD hb1
      clear hb1
      go_simp
      exact Det1_same
    simp only [Act.put, List.setIfInBounds_toArray, List.set_cons_zero, List.set_cons_succ]
    refine detL_val (by kernel_rfl) (yields_of rfl fun w1 hb1 => ?_) ?_
    · have hc1 := bcellD hb1
      clear hb1
      go_simp
      exact Det1_enter ((rmay_any _ _ _ _ (few_len _)).mono (fun _ _ h => (HM.out ▸ h : _ = Ending.returned (.bool true) ∧ _)))
    simp only [Act.put, List.setIfInBounds_toArray, List.set_cons_zero, List.set_cons_succ]
    refine detL_val (by kernel_rfl) (yields_of rfl fun w1 hb1 => ?_) ?_
    · have hc1 := bcellD hb1
      clear hb1
      go_simp
      exact Det1_same
    simp only [Act.put, List.setIfInBounds_toArray, List.set_cons_zero, List.set_cons_succ]
    refine detL_val (by kernel_rfl) (yields_of rfl fun w1 hb1 => ?_) ?_
    · have hc1 := bcellD hb1
      clear hb1
      go_simp
      exact Det1_same
    simp only [Act.put, List.setIfInBounds_toArray, List.set_cons_zero, List.set_cons_succ]
    refine detL_val (by kernel_rfl) (yields_of rfl fun w1 hb1 => ?_) ?_
    · have hc1 := bcellD hb1
      clear hb1
      go_simp
      exact Det1_same
    simp only [Act.put, List.setIfInBounds_toArray, List.set_cons_zero, List.set_cons_succ]
    refine detL_val (by kernel_rfl) (yields_of rfl fun w1 hb1 => ?_) ?_
    · have hc1 := bcellD hb1
      clear hb1
      go_simp
      exact Det1_same
    simp only [Act.put, List.setIfInBounds_toArray, List.set_cons_zero, List.set_cons_succ]
    refine detL_val (by kernel_rfl) (yields_of rfl fun w1 hb1 => ?_) ?_
    · have hc1 := bcellD hb1
      clear hb1
      go_simp
      exact Det1_enter (isnull_true _ _ _ _ HM.out)
    simp only [Act.put, List.setIfInBounds_toArray, List.set_cons_zero, List.set_cons_succ]
    refine detL_val (by kernel_rfl) (yields_of rfl fun w1 hb1 => ?_) ?_
    · have hc1 := bcellD hb1
      clear hb1
      go_simp
      exact Det1_same
    simp only [Act.put, List.setIfInBounds_toArray, List.set_cons_zero, List.set_cons_succ]
    refine detL_val (by kernel_rfl) (yields_of rfl fun w1 hb1 => ?_) ?_
    · have hc1 := bcellD hb1
      clear hb1
      go_simp
      exact Det1_enter ((rmay_any _ _ _ _ (few_len _)).mono (fun _ _ h => (HM.out ▸ h : _ = Ending.returned (.bool true) ∧ _)))
    simp only [Act.put, List.setIfInBounds_toArray, List.set_cons_zero, List.set_cons_succ]
    refine detL_val (by kernel_rfl) (yields_of rfl fun w1 hb1 => ?_) ?_
    · have hc1 := bcellD hb1
      clear hb1
      go_simp
      exact Det1_same
    simp only [Act.put, List.setIfInBounds_toArray, List.set_cons_zero, List.set_cons_succ]
    refine detL_val (by kernel_rfl) (yields_of rfl fun w1 hb1 => ?_) ?_
    · have hc1 := bcellD hb1
      clear hb1
      go_simp
      exact Det1_same
    simp only [Act.put, List.setIfInBounds_toArray, List.set_cons_zero, List.set_cons_succ]
    refine detL_val (by kernel_rfl) (yields_of rfl fun w1 hb1 => ?_) ?_
    · have hc1 := bcellD hb1
      clear hb1
      go_simp
      exact Det1_same
    simp only [Act.put, List.setIfInBounds_toArray, List.set_cons_zero, List.set_cons_succ]
    refine detL_val (by kernel_rfl) (yields_of rfl fun w1 hb1 => ?_) ?_
    · have hc1 := bcellD hb1
      clear hb1
      go_simp
      exact Det1_same
    simp only [Act.put, List.setIfInBounds_toArray, List.set_cons_zero, List.set_cons_succ]
    refine detL_val (by kernel_rfl) (yields_of rfl fun w1 hb1 => ?_) ?_
    · have hc1 := bcellD hb1
      clear hb1
      go_simp
      exact Det1_same
    simp only [Act.put, List.setIfInBounds_toArray, List.set_cons_zero, List.set_cons_succ]
    refine detL_val (by kernel_rfl) (yields_of rfl fun w1 hb1 => ?_) ?_
    · have hc1 := bcellD hb1
      clear hb1
      go_simp
      exact Det1_same
    simp only [Act.put, List.setIfInBounds_toArray, List.set_cons_zero, List.set_cons_succ]
    refine detL_val (by kernel_rfl) (yields_of rfl fun w1 hb1 => ?_) ?_
    · have hc1 := bcellD hb1
      clear hb1
      go_simp
      exact Det1_enter (rtruth_any _ _)
    simp only [Act.put, List.setIfInBounds_toArray, List.set_cons_zero, List.set_cons_succ]
    refine detL_val (by kernel_rfl) (yields_of rfl fun w1 hb1 => ?_) ?_
    · have hc1 := bcellD hb1
      clear hb1
      go_simp
      exact Det1_same
    simp only [Act.put, List.setIfInBounds_toArray, List.set_cons_zero, List.set_cons_succ]
    refine detL_val (by kernel_rfl) (yields_of rfl fun w1 hb1 => ?_) ?_
    · have hc1 := bcellD hb1
      clear hb1
      go_simp
      exact Det1_same
    simp only [Act.put, List.setIfInBounds_toArray, List.set_cons_zero, List.set_cons_succ]
    refine detL_val (by kernel_rfl) (yields_of rfl fun w1 hb1 => ?_) ?_
    · have hc1 := bcellD hb1
      clear hb1
      go_simp
      exact Det1_same
    simp only [Act.put, List.setIfInBounds_toArray, List.set_cons_zero, List.set_cons_succ]
    refine detL_val (by kernel_rfl) (yields_of rfl fun w1 hb1 => ?_) ?_
    · have hc1 := bcellD hb1
      clear hb1
      go_simp
      exact Det1_enter (awake_any _ m ((hc1 0 0 hW0).trans hmW))
    simp only [Act.put, List.setIfInBounds_toArray, List.set_cons_zero, List.set_cons_succ]
    refine detL_val (by kernel_rfl) (yields_of rfl fun w1 hb1 => ?_) ?_
    · have hc1 := bcellD hb1
      clear hb1
      go_simp
      exact Det1_same
    simp only [Act.put, List.setIfInBounds_toArray, List.set_cons_zero, List.set_cons_succ]
    refine detL_val (by kernel_rfl) (yields_of rfl fun w1 hb1 => ?_) ?_
    · have hc1 := bcellD hb1
      clear hb1
      go_simp
      exact Det1_same
    simp only [Act.put, List.setIfInBounds_toArray, List.set_cons_zero, List.set_cons_succ]
    refine detL_done (by kernel_rfl) fun w1 hw1 => ?_
    have hb1 := hw1.below
    go_wp2
    go_ret
    exact ⟨rfl, hB.drew.trans (hb1.mono hB.size)⟩
  | false =>
    have HM := Lib.hid hmy
    clear hmy
    refine detL_begin [.val (.agg #[.int .i64 k, .int .i64 i, .string (fewS s)]), .val (.agg #[.int .i64 k', .int .i64 i', .string (fewS s')]), .val (.int .i64 (ordN k i (fewS s) k' i' (fewS s'))), .val (.agg #[.int .i64 k, .int .i64 i, .string (fewS s)]), .val (.agg #[.int .i64 k', .int .i64 i', .string (fewS s')]), .val (.int .i64 (ordN k i (fewS s) k' i' (fewS s'))), .val (.bool true), .val (.bool true), .val (.agg #[.int .i64 k, .int .i64 i, .string (fewS s)]), .val (.bool false), .val (.agg #[.int .i64 k, .int .i64 i, .string (fewS s)]), .val (.bool false), .val (.bool true), .val (.bool true), .val (.bool true), .val (.agg #[.int .i64 k, .int .i64 i, .string (fewS s)]), .val (.agg #[.int .i64 3, .int .i64 1, .string ⟨#[]⟩]), .val (.agg #[.int .i64 k, .int .i64 i, .string (fewS s)]), .val (.bool false), .val (.bool true), .val (.bool true), .val (undef), .val (undef), .val (undef), .val (.bool true), .val (.agg #[.int .i64 3, .int .i64 1, .string ⟨#[]⟩]), .val (.bool true), .val (.bool true), .val (.bool true), .val (.bool true), .val (.bool true), .val (.bool true)] 32 (by kernel_rfl) ?_
    refine detL_val (by kernel_rfl) (yields_of rfl fun w1 hb1 => ?_) ?_
    · have hc1 := bcellD hb1
      clear hb1
      go_simp
      exact Det1_same
    simp only [Act.put, List.setIfInBounds_toArray, List.set_cons_zero, List.set_cons_succ]
    refine detL_val (by kernel_rfl) (yields_of rfl fun w1 hb1 => ?_) ?_
    · have hc1 := bcellD hb1
      clear hb1
      go_simp
      exact Det1_same
    simp only [Act.put, List.setIfInBounds_toArray, List.set_cons_zero, List.set_cons_succ]
    refine detL_val (by kernel_rfl) (yields_of rfl fun w1 hb1 => ?_) ?_
    · have hc1 := bcellD hb1
      clear hb1
      go_simp
      exact Det1_enter (order_any _ _ _ _ _ _ _)
    simp only [Act.put, List.setIfInBounds_toArray, List.set_cons_zero, List.set_cons_succ]
    refine detL_val (by kernel_rfl) (yields_of rfl fun w1 hb1 => ?_) ?_
    · have hc1 := bcellD hb1
      clear hb1
      go_simp
      exact Det1_same
    simp only [Act.put, List.setIfInBounds_toArray, List.set_cons_zero, List.set_cons_succ]
    refine detL_val (by kernel_rfl) (yields_of rfl fun w1 hb1 => ?_) ?_
    · have hc1 := bcellD hb1
      clear hb1
      go_simp
      exact Det1_same
    simp only [Act.put, List.setIfInBounds_toArray, List.set_cons_zero, List.set_cons_succ]
    refine detL_val (by kernel_rfl) (yields_of rfl fun w1 hb1 => ?_) ?_
    · have hc1 := bcellD hb1
      clear hb1
      go_simp
      exact Det1_enter (rorder_any _ _ _ _ _ _ _ (few_len _) (few_len _))
    simp only [Act.put, List.setIfInBounds_toArray, List.set_cons_zero, List.set_cons_succ]
    refine detL_val (by kernel_rfl) (yields_of rfl fun w1 hb1 => ?_) ?_
    · have hc1 := bcellD hb1
      clear hb1
      go_simp
      exact Det1_same
    simp only [Act.put, List.setIfInBounds_toArray, List.set_cons_zero, List.set_cons_succ]
    refine detL_val (by kernel_rfl) (yields_of rfl fun w1 hb1 => ?_) ?_
    · have hc1 := bcellD hb1
      clear hb1
      go_simp
      exact Det1_same
    simp only [Act.put, List.setIfInBounds_toArray, List.set_cons_zero, List.set_cons_succ]
    refine detL_val (by kernel_rfl) (yields_of rfl fun w1 hb1 => ?_) ?_
    · have hc1 := bcellD hb1
      clear hb1
      go_simp
      exact Det1_same
    simp only [Act.put, List.setIfInBounds_toArray, List.set_cons_zero, List.set_cons_succ]
    refine detL_val (by kernel_rfl) (yields_of rfl fun w1 hb1 => ?_) ?_
    · have hc1 := bcellD hb1
      clear hb1
      go_simp
      exact Det1_enter (may_f _ _ _ _ HM.out)
    simp only [Act.put, List.setIfInBounds_toArray, List.set_cons_zero, List.set_cons_succ]
    refine detL_val (by kernel_rfl) (yields_of rfl fun w1 hb1 => ?_) ?_
    · have hc1 := bcellD hb1
      clear hb1
      go_simp
      exact Det1_same
    simp only [Act.put, List.setIfInBounds_toArray, List.set_cons_zero, List.set_cons_succ]
    refine detL_val (by kernel_rfl) (yields_of rfl fun w1 hb1 => ?_) ?_
    · have hc1 := bcellD hb1
      clear hb1
      go_simp
      exact Det1_enter ((rmay_any _ _ _ _ (few_len _)).mono (fun _ _ h => (HM.out ▸ h : _ = Ending.returned (.bool false) ∧ _)))
    simp only [Act.put, List.setIfInBounds_toArray, List.set_cons_zero, List.set_cons_succ]
    refine detL_val (by kernel_rfl) (yields_of rfl fun w1 hb1 => ?_) ?_
    · have hc1 := bcellD hb1
      clear hb1
      go_simp
      exact Det1_same
    simp only [Act.put, List.setIfInBounds_toArray, List.set_cons_zero, List.set_cons_succ]
    refine detL_val (by kernel_rfl) (yields_of rfl fun w1 hb1 => ?_) ?_
    · have hc1 := bcellD hb1
      clear hb1
      go_simp
      exact Det1_same
    simp only [Act.put, List.setIfInBounds_toArray, List.set_cons_zero, List.set_cons_succ]
    refine detL_val (by kernel_rfl) (yields_of rfl fun w1 hb1 => ?_) ?_
    · have hc1 := bcellD hb1
      clear hb1
      go_simp
      exact Det1_same
    simp only [Act.put, List.setIfInBounds_toArray, List.set_cons_zero, List.set_cons_succ]
    refine detL_val (by kernel_rfl) (yields_of rfl fun w1 hb1 => ?_) ?_
    · have hc1 := bcellD hb1
      clear hb1
      go_simp
      exact Det1_same
    simp only [Act.put, List.setIfInBounds_toArray, List.set_cons_zero, List.set_cons_succ]
    refine detL_val (by kernel_rfl) (yields_of rfl fun w1 hb1 => ?_) ?_
    · have hc1 := bcellD hb1
      clear hb1
      go_simp
      exact Det1_enter (isnull_false _ _ _ _ HM.out)
    simp only [Act.put, List.setIfInBounds_toArray, List.set_cons_zero, List.set_cons_succ]
    refine detL_val (by kernel_rfl) (yields_of rfl fun w1 hb1 => ?_) ?_
    · have hc1 := bcellD hb1
      clear hb1
      go_simp
      exact Det1_same
    simp only [Act.put, List.setIfInBounds_toArray, List.set_cons_zero, List.set_cons_succ]
    refine detL_val (by kernel_rfl) (yields_of rfl fun w1 hb1 => ?_) ?_
    · have hc1 := bcellD hb1
      clear hb1
      go_simp
      exact Det1_enter ((rmay_any _ _ _ _ (few_len _)).mono (fun _ _ h => (HM.out ▸ h : _ = Ending.returned (.bool false) ∧ _)))
    simp only [Act.put, List.setIfInBounds_toArray, List.set_cons_zero, List.set_cons_succ]
    refine detL_val (by kernel_rfl) (yields_of rfl fun w1 hb1 => ?_) ?_
    · have hc1 := bcellD hb1
      clear hb1
      go_simp
      exact Det1_same
    simp only [Act.put, List.setIfInBounds_toArray, List.set_cons_zero, List.set_cons_succ]
    refine detL_val (by kernel_rfl) (yields_of rfl fun w1 hb1 => ?_) ?_
    · have hc1 := bcellD hb1
      clear hb1
      go_simp
      exact Det1_same
    simp only [Act.put, List.setIfInBounds_toArray, List.set_cons_zero, List.set_cons_succ]
    refine detL_val (by kernel_rfl) (yields_not rfl) ?_
    simp only [Act.put, List.setIfInBounds_toArray, List.set_cons_zero, List.set_cons_succ]
    refine detL_val (by kernel_rfl) (yields_not rfl) ?_
    simp only [Act.put, List.setIfInBounds_toArray, List.set_cons_zero, List.set_cons_succ]
    refine detL_val (by kernel_rfl) (yields_not rfl) ?_
    simp only [Act.put, List.setIfInBounds_toArray, List.set_cons_zero, List.set_cons_succ]
    refine detL_val (by kernel_rfl) (yields_of rfl fun w1 hb1 => ?_) ?_
    · have hc1 := bcellD hb1
      clear hb1
      go_simp
      exact Det1_same
    simp only [Act.put, List.setIfInBounds_toArray, List.set_cons_zero, List.set_cons_succ]
    refine detL_val (by kernel_rfl) (yields_of rfl fun w1 hb1 => ?_) ?_
    · have hc1 := bcellD hb1
      clear hb1
      go_simp
      exact Det1_enter (rtruth_t _)
    simp only [Act.put, List.setIfInBounds_toArray, List.set_cons_zero, List.set_cons_succ]
    refine detL_val (by kernel_rfl) (yields_of rfl fun w1 hb1 => ?_) ?_
    · have hc1 := bcellD hb1
      clear hb1
      go_simp
      exact Det1_same
    simp only [Act.put, List.setIfInBounds_toArray, List.set_cons_zero, List.set_cons_succ]
    refine detL_val (by kernel_rfl) (yields_of rfl fun w1 hb1 => ?_) ?_
    · have hc1 := bcellD hb1
      clear hb1
      go_simp
      exact Det1_same
    simp only [Act.put, List.setIfInBounds_toArray, List.set_cons_zero, List.set_cons_succ]
    refine detL_val (by kernel_rfl) (yields_of rfl fun w1 hb1 => ?_) ?_
    · have hc1 := bcellD hb1
      clear hb1
      go_simp
      exact Det1_same
    simp only [Act.put, List.setIfInBounds_toArray, List.set_cons_zero, List.set_cons_succ]
    refine detL_val (by kernel_rfl) (yields_of rfl fun w1 hb1 => ?_) ?_
    · have hc1 := bcellD hb1
      clear hb1
      go_simp
      exact Det1_enter (awake_any _ m ((hc1 0 0 hW0).trans hmW))
    simp only [Act.put, List.setIfInBounds_toArray, List.set_cons_zero, List.set_cons_succ]
    refine detL_val (by kernel_rfl) (yields_of rfl fun w1 hb1 => ?_) ?_
    · have hc1 := bcellD hb1
      clear hb1
      go_simp
      exact Det1_same
    simp only [Act.put, List.setIfInBounds_toArray, List.set_cons_zero, List.set_cons_succ]
    refine detL_val (by kernel_rfl) (yields_of rfl fun w1 hb1 => ?_) ?_
    · have hc1 := bcellD hb1
      clear hb1
      go_simp
      exact Det1_same
    simp only [Act.put, List.setIfInBounds_toArray, List.set_cons_zero, List.set_cons_succ]
    refine detL_done (by kernel_rfl) fun w1 hw1 => ?_
    have hb1 := hw1.below
    go_wp2
    go_ret
    exact ⟨rfl, hB.drew.trans (hb1.mono hB.size)⟩
end Go.Proofs.YtggejkkpajpmkaaDoor
