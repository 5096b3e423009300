import Derived.Test.YtnahejljelbbgaaVw
import Derived.Test.YtnahejljelbbgaaVq
import Derived.Test.YtnahejljelbbgaaVt
/- The document's own good, apart, Order, Equal, Less, Plus, Minus, Truth. -/
namespace Go.Proofs.Ytnahejljelbbgaa
open Go.RowKit Go.Lib

set_option maxRecDepth 100000 in
set_option maxHeartbeats 800000 in
theorem rgood_t (k i : Int) (s : ByteArray) (w : World) (hs : s.size ≤ maxLen) (h : mayB k i s = true) :
    Calls Try.prog 18 #[.agg #[.int .i64 k, .int .i64 i, .string s]] w fun e w' => e = .returned (.agg #[.int .i64 k, .int .i64 i, .string s]) ∧ Below w.heap.size w w' := by
  have H := Lib.hid (And.intro h hs)
  clear h hs
  go_enter Try.func18, Try.ntmps18
  go_wp2_with (first
    | (go_at_call 25; refine ((rmay_any k i s _ H.out.2).mono (fun _ _ h => (H.out.1 ▸ h : _ = Ending.returned (.bool true) ∧ _))).mono ?_; rintro e w1 ⟨rfl, hb1⟩; have hc1 := (bcell hb1).1; have hf1 := (bcell hb1).2; have hy1 := hb1.size; (try simp at hy1); have hz1_0 : w.heap.size < w1.heap.size := (by omega); have hz1_1 : w.heap.size + 1 < w1.heap.size := (by omega)))
  (refine bodyPost_ret (v := .agg #[.int .i64 k, .int .i64 i, .string s]) ?_ rfl ⟨rfl, ?_⟩; (· (simp [results, Try.results18, go_sem, *]; done)))
  repeat (first | (with_reducible exact Below.refl _ _) | ((with_reducible refine cSet3 ?_ ?_ _ _ _); (· ((try simp) <;> omega))) | (with_reducible refine Below.drew ?_) | ((with_reducible refine cAlloc ?_ ?_ _); (· ((try simp) <;> omega))) | ((with_reducible refine cOn (by assumption) ?_ ?_); (· ((try simp) <;> omega))))

set_option maxRecDepth 100000 in
set_option maxHeartbeats 800000 in
theorem rgood_f (k i : Int) (s : ByteArray) (w : World) (hs : s.size ≤ maxLen) (h : mayB k i s = false) :
    Calls Try.prog 18 #[.agg #[.int .i64 k, .int .i64 i, .string s]] w fun e w' => e = .returned (.agg #[.int .i64 0, .int .i64 0, .string ⟨#[]⟩]) ∧ Below w.heap.size w w' := by
  have H := Lib.hid (And.intro h hs)
  clear h hs
  go_enter Try.func18, Try.ntmps18
  go_wp2_with (first
    | (go_at_call 25; refine ((rmay_any k i s _ H.out.2).mono (fun _ _ h => (H.out.1 ▸ h : _ = Ending.returned (.bool false) ∧ _))).mono ?_; rintro e w1 ⟨rfl, hb1⟩; have hc1 := (bcell hb1).1; have hf1 := (bcell hb1).2; have hy1 := hb1.size; (try simp at hy1); have hz1_0 : w.heap.size < w1.heap.size := (by omega); have hz1_1 : w.heap.size + 1 < w1.heap.size := (by omega)))
  (refine bodyPost_ret (v := .agg #[.int .i64 0, .int .i64 0, .string ⟨#[]⟩]) ?_ rfl ⟨rfl, ?_⟩; (· (simp [results, Try.results18, go_sem, *]; done)))
  repeat (first | (with_reducible exact Below.refl _ _) | ((with_reducible refine cSet3 ?_ ?_ _ _ _); (· ((try simp) <;> omega))) | (with_reducible refine Below.drew ?_) | ((with_reducible refine cAlloc ?_ ?_ _); (· ((try simp) <;> omega))) | ((with_reducible refine cOn (by assumption) ?_ ?_); (· ((try simp) <;> omega))))

theorem rgood_any (k i : Int) (s : ByteArray) (w : World) (hs : s.size ≤ maxLen) :
    Calls Try.prog 18 #[.agg #[.int .i64 k, .int .i64 i, .string s]] w fun e w' => e = .returned (.agg #[.int .i64 (hK k i s), .int .i64 (hI k i s), .string (hS k i s)]) ∧ Below w.heap.size w w' := by
  cases h : mayB k i s with
  | true =>
    have := rgood_t k i s w hs h
    unfold hK hI hS
    simp only [h, if_true]
    exact this
  | false =>
    have := rgood_f k i s w hs h
    unfold hK hI hS
    simp only [h, Bool.false_eq_true, if_false]
    exact this

theorem less_cmp : ∀ (a b : List UInt8), Op.bytesLess a b = decide (Lib.compareBytes a b < 0)
  | [], [] => by simp [Op.bytesLess, Lib.compareBytes]
  | [], _ :: _ => by simp [Op.bytesLess, Lib.compareBytes]
  | _ :: _, [] => by simp [Op.bytesLess, Lib.compareBytes]
  | x :: a, y :: b => by
    simp only [Op.bytesLess, Lib.compareBytes]
    by_cases h1 : x < y
    · simp [h1]
    · by_cases h2 : y < x
      · have : x ≠ y := fun h => by subst h; exact absurd h2 (UInt8.lt_irrefl _)
        simp [h1, h2, this]
      · have : x = y := by rw [UInt8.lt_iff_toNat_lt] at h1 h2; exact UInt8.toNat_inj.1 (by omega)
        subst this
        simp [less_cmp a b, h1]
theorem ord_way0 {k i : Int} {s : ByteArray} {k' i' : Int} {s' : ByteArray} (h1 : (hK k i s) = (hK k' i' s')) (h2 : (hI k i s) = (hI k' i' s')) (h3 : (hS k i s).toList = (hS k' i' s').toList) : ordN k i s k' i' s' = 0 := by
  unfold ordN
  rw [ordH_zero]
  refine ⟨h1, h2, ?_⟩
  rw [toList_data, toList_data] at h3
  exact ByteArray.ext (Array.toList_inj.1 h3)
theorem ord_way1 {k i : Int} {s : ByteArray} {k' i' : Int} {s' : ByteArray} (h1 : (hK k i s) = (hK k' i' s')) (h2 : (hI k i s) = (hI k' i' s')) (h3 : Op.bytesLess (hS k i s).toList (hS k' i' s').toList = true) : ordN k i s k' i' s' = -1 := by
  rw [less_cmp, toList_data, toList_data] at h3
  have hb := cmpBytes_bd (hS k i s).data.toList (hS k' i' s').data.toList
  have h4 := of_decide_eq_true h3
  unfold ordN ordH or3
  rw [(cmpInt_zero _ _).2 h1, (cmpInt_zero _ _).2 h2]
  simp only [ne_eq, not_true_eq_false, if_false]
  omega
theorem ord_way2 {k i : Int} {s : ByteArray} {k' i' : Int} {s' : ByteArray} (h1 : (hK k i s) = (hK k' i' s')) (h2 : (hI k i s) = (hI k' i' s')) (h0 : ¬ (hS k i s).toList = (hS k' i' s').toList) (h3 : Op.bytesLess (hS k i s).toList (hS k' i' s').toList = false) : ordN k i s k' i' s' = 1 := by
  rw [less_cmp, toList_data, toList_data] at h3
  rw [toList_data, toList_data] at h0
  have hb := cmpBytes_bd (hS k i s).data.toList (hS k' i' s').data.toList
  have h4 := of_decide_eq_false h3
  have h5 : ¬ Lib.compareBytes (hS k i s).data.toList (hS k' i' s').data.toList = 0 := fun q => h0 ((cmpBytes_zero _ _).1 q)
  unfold ordN ordH or3
  rw [(cmpInt_zero _ _).2 h1, (cmpInt_zero _ _).2 h2]
  simp only [ne_eq, not_true_eq_false, if_false]
  omega
theorem cmpInt_lt {a b : Int} (h : a < b) : Lib.compareInt a b = -1 := by unfold Lib.compareInt; rw [if_pos h]
theorem cmpInt_gt {a b : Int} (h : b < a) : Lib.compareInt a b = 1 := by unfold Lib.compareInt; rw [if_neg (by omega), if_pos h]
theorem ord_way3 {k i : Int} {s : ByteArray} {k' i' : Int} {s' : ByteArray} (h1 : (hK k i s) = (hK k' i' s')) (h2 : (hI k i s) < (hI k' i' s')) : ordN k i s k' i' s' = -1 := by
  unfold ordN ordH or3
  rw [(cmpInt_zero _ _).2 h1, cmpInt_lt h2]
  simp
theorem ord_way4 {k i : Int} {s : ByteArray} {k' i' : Int} {s' : ByteArray} (h1 : (hK k i s) = (hK k' i' s')) (h0 : ¬ (hI k i s) = (hI k' i' s')) (h2 : (hI k' i' s') ≤ (hI k i s)) : ordN k i s k' i' s' = 1 := by
  unfold ordN ordH or3
  rw [(cmpInt_zero _ _).2 h1, cmpInt_gt (by omega)]
  simp
theorem ord_way5 {k i : Int} {s : ByteArray} {k' i' : Int} {s' : ByteArray} (h1 : (hK k i s) < (hK k' i' s')) : ordN k i s k' i' s' = -1 := by
  unfold ordN ordH or3
  rw [cmpInt_lt h1]
  simp
theorem ord_way6 {k i : Int} {s : ByteArray} {k' i' : Int} {s' : ByteArray} (h1 : ¬ (hK k i s) = (hK k' i' s')) (h2 : (hK k' i' s') ≤ (hK k i s)) : ordN k i s k' i' s' = 1 := by
  unfold ordN ordH or3
  rw [cmpInt_gt (by omega)]
  simp

set_option maxRecDepth 100000 in
set_option maxHeartbeats 800000 in
theorem rorder_any (k i : Int) (s : ByteArray) (k' i' : Int) (s' : ByteArray) (w : World) (hs : s.size ≤ maxLen) (hs' : s'.size ≤ maxLen) :
    Calls Try.prog 9 #[.agg #[.int .i64 k, .int .i64 i, .string s], .agg #[.int .i64 k', .int .i64 i', .string s']] w fun e w' => e = .returned (.int .i64 (ordN k i s k' i' s')) ∧ Below w.heap.size w w' := by
  go_enter Try.func9, Try.ntmps9
  go_wp2
  refine detL_begin [.val (.agg #[.int .i64 k, .int .i64 i, .string s]), .val (.agg #[.int .i64 (hK k i s), .int .i64 (hI k i s), .string (hS k i s)]), .val (.agg #[.int .i64 k', .int .i64 i', .string s']), .val (.agg #[.int .i64 (hK k' i' s'), .int .i64 (hI k' i' s'), .string (hS k' i' s')])] 4 (by kernel_rfl) ?_
  repeat
    (refine detL_val (by kernel_rfl) (yields_of rfl fun w1 hb1 => ?_) ?_
     · have hc1 := bcellD hb1
       clear hb1
       go_simp
       with_reducible first
         | exact Det1_same
         | exact Det1_enter (rgood_any _ _ _ _ hs)
         | exact Det1_enter (rgood_any _ _ _ _ hs')
     simp only [Act.put, List.setIfInBounds_toArray, List.set_cons_zero, List.set_cons_succ])
  refine detL_tail rfl (by kernel_rfl) fun w1 hw1 => ?_
  have hb1 := hw1.below
  clear hw1 hs hs'
  have hc1 := (bcell hb1).1
  have hf1 := (bcell hb1).2
  have hy1 := hb1.size
  (try simp at hy1)
  have hz1_0 : w.heap.size < w1.heap.size := (by omega)
  have hz1_1 : w.heap.size + 1 < w1.heap.size := (by omega)
  go_upto_region 2 with (fail)
  refine wp_gen (Boxes w (hK k i s) (hI k i s) (hS k i s) (hK k' i' s') (hI k' i' s') (hS k' i' s')) (((Boxes.start w k i s k' i' s' 31 31).later hb1).store _ _ _ _ _ _) ?_
  intro W hW
  clear hc1 hf1 hb1 hy1 hz1_0 hz1_1
  have hk := hW.k
  have hi := hW.i
  have hs := hW.s
  have hk' := hW.k'
  have hi' := hW.i'
  have hs' := hW.s'
  have hn0 : w.heap.size < W.heap.size := by have := hW.size; omega
  have hn1 : w.heap.size + 1 < W.heap.size := by have := hW.size; omega
  have HB := hW.below
  clear hW
  go_wp2
  all_goals go_ret
  all_goals refine ⟨ret_int ?_, HB⟩
  all_goals
    first
      | exact (ord_way0 (by assumption) (by assumption) (by assumption)).symm
      | exact (ord_way1 (by assumption) (by assumption) (by assumption)).symm
      | exact (ord_way2 (by assumption) (by assumption) (by assumption) (by assumption)).symm
      | exact (ord_way3 (by assumption) (by assumption)).symm
      | exact (ord_way4 (by assumption) (by assumption) (by assumption)).symm
      | exact (ord_way5 (by assumption)).symm
      | exact (ord_way6 (by assumption) (by assumption)).symm

theorem alike_may {k i : Int} {s : ByteArray} {k' i' : Int} {s' : ByteArray} (h : alikeB k i s k' i' s' = true) : mayB k i s = true ∧ mayB k' i' s' = true ∧ k = k' ∧ k ≠ 0 := by
  unfold alikeB at h
  rw [Bool.and_eq_true, decide_eq_true_eq, bne_iff_ne] at h
  obtain ⟨h1, h2⟩ := h
  have m1 : mayB k i s = true := by
    cases q : mayB k i s with
    | true => rfl
    | false => exact absurd (by unfold hK; rw [q]; rfl) h2
  have m2 : mayB k' i' s' = true := by
    cases q : mayB k' i' s' with
    | true => rfl
    | false => exact absurd (by rw [h1]; unfold hK; rw [q]; rfl) h2
  unfold hK at h1 h2
  rw [if_pos m1] at h1 h2
  rw [if_pos m2] at h1
  exact ⟨m1, m2, h1, h2⟩
theorem ret_b {n m : Int} (h : n = m) : Ending.returned (.agg #[.int .i64 3, .int .i64 n, .string ⟨#[]⟩]) = .returned (.agg #[.int .i64 3, .int .i64 m, .string ⟨#[]⟩]) := by rw [h]
theorem eq_way1 {k i : Int} {s : ByteArray} {k' i' : Int} {s' : ByteArray} (ha : alikeB k i s k' i' s' = true) (h1 : k = k') (h2 : i = i') (h3 : s.toList = s'.toList) : (1 : Int) = b2i (ordN k i s k' i' s' == 0) := by
  obtain ⟨m1, m2, -, -⟩ := alike_may ha
  rw [toList_data, toList_data] at h3
  rw [(ord_zero k i s k' i' s' m1 m2).2 ⟨h1, h2, ByteArray.ext (Array.toList_inj.1 h3)⟩]
  rfl
theorem eq_way0 {k i : Int} {s : ByteArray} {k' i' : Int} {s' : ByteArray} (ha : alikeB k i s k' i' s' = true) (h : ¬ (k = k' ∧ i = i' ∧ s.toList = s'.toList)) : (0 : Int) = b2i (ordN k i s k' i' s' == 0) := by
  obtain ⟨m1, m2, -, -⟩ := alike_may ha
  have : ¬ ordN k i s k' i' s' = 0 := fun q => by
    obtain ⟨h1, h2, h3⟩ := (ord_zero k i s k' i' s' m1 m2).1 q
    exact h ⟨h1, h2, by rw [h3]⟩
  rw [beq_eq_false_iff_ne.2 this]
  rfl
theorem ls_way {k i : Int} {s : ByteArray} {k' i' : Int} {s' : ByteArray} (ha : alikeB k i s k' i' s' = true) : decide (ordN k i s k' i' s' < 0) = (decide (i < i') || Op.bytesLess s.toList s'.toList) := by
  obtain ⟨m1, m2, hk, hn⟩ := alike_may ha
  have e : ordN k i s k' i' s' = ordH k i s k' i' s' := by unfold ordN hK hI hS; rw [if_pos m1, if_pos m1, if_pos m1, if_pos m2, if_pos m2, if_pos m2]
  subst hk
  rw [e, less_cmp, toList_data, toList_data]
  unfold ordH or3
  rw [(cmpInt_zero k k).2 rfl]
  have hI := cmpInt_bd i i'
  unfold mayB at m1 m2
  by_cases h1 : k = 1
  · simp [h1] at m1 m2
    rw [toList_data] at m1 m2
    rw [m1, m2]
    simp [Lib.compareBytes]
    unfold Lib.compareInt
    split <;> (try split) <;> simp_all <;> omega
  · by_cases h2 : k = 2
    · simp [h2] at m1 m2
      rw [m1.1.1, m2.1.1, (cmpInt_zero 0 0).2 rfl]
      simp
    · by_cases h3 : k = 3
      · simp [h3] at m1 m2
        rw [toList_data] at m1 m2
        rw [m1.1, m2.1]
        simp [Lib.compareBytes]
        unfold Lib.compareInt
        split <;> (try split) <;> simp_all <;> omega
      · simp [hn, h1, h2, h3] at m1

end Go.Proofs.Ytnahejljelbbgaa
