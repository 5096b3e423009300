import Derived.Test.YtnahejljelbbgaaGreatDoorLm
/- The document's own: digit, letter, part, Name, May. -/
namespace Go.Proofs.YtnahejljelbbgaaGreatDoor
open Go.RowKit Go.Lib

set_option maxRecDepth 100000 in
set_option maxHeartbeats 800000 in
theorem rletter_any (b : UInt8) (w : World) :
    Calls Tryz.prog 49 #[.int .u8 (b.toNat : Int)] w fun e w' => e = .returned (.bool (letB b)) ∧ Below w.heap.size w w' := by
  go_enter Tryz.func49, Tryz.ntmps49
  go_wp2
  all_goals
    go_ret
    refine ⟨ret_bool ?_, ?_⟩
    · (first | (simp [letB, *]; done) | (simp [letB, *]; rw [Bool.eq_iff_iff]; simp; omega) | (simp [letB, *]; omega) | (unfold letB; rw [Bool.eq_iff_iff]; simp; omega) | (unfold letB; simp_all <;> omega))
    · (first | exact hb1.trans (hb2.mono hb1.size) | exact hb1 | (repeat (first | (with_reducible exact Below.refl _ _) | ((with_reducible refine cSet3 ?_ ?_ _ _ _); (· ((try simp) <;> omega))) | (with_reducible refine Below.drew ?_) | ((with_reducible refine cAlloc ?_ ?_ _); (· ((try simp) <;> omega))) | ((with_reducible refine cOn (by assumption) ?_ ?_); (· ((try simp) <;> omega))))))

set_option maxRecDepth 100000 in
set_option maxHeartbeats 800000 in
theorem rdigit3_any (b : UInt8) (w : World) :
    Calls Tryz.prog 32 #[.int .u8 (b.toNat : Int)] w fun e w' => e = .returned (.bool (digB b)) ∧ Below w.heap.size w w' := by
  go_enter Tryz.func32, Tryz.ntmps32
  go_wp2
  all_goals
    go_ret
    refine ⟨ret_bool ?_, ?_⟩
    · (first | (simp [digB, *]; done) | (simp [digB, *]; rw [Bool.eq_iff_iff]; simp; omega) | (simp [digB, *]; omega) | (unfold digB; rw [Bool.eq_iff_iff]; simp; omega) | (unfold digB; simp_all <;> omega))
    · (first | exact hb1.trans (hb2.mono hb1.size) | exact hb1 | (repeat (first | (with_reducible exact Below.refl _ _) | ((with_reducible refine cSet3 ?_ ?_ _ _ _); (· ((try simp) <;> omega))) | (with_reducible refine Below.drew ?_) | ((with_reducible refine cAlloc ?_ ?_ _); (· ((try simp) <;> omega))) | ((with_reducible refine cOn (by assumption) ?_ ?_); (· ((try simp) <;> omega))))))

set_option maxRecDepth 100000 in
set_option maxHeartbeats 800000 in
theorem rpart_any (b : UInt8) (w : World) :
    Calls Tryz.prog 48 #[.int .u8 (b.toNat : Int)] w fun e w' => e = .returned (.bool (parB b)) ∧ Below w.heap.size w w' := by
  go_enter Tryz.func48, Tryz.ntmps48
  go_wp2_with (first
    | (go_at_call 32; refine (rdigit3_any b _).mono ?_; rintro e w1 ⟨rfl, hb1⟩)
    | (go_at_call 49; refine (rletter_any b _).mono ?_; rintro e w2 ⟨rfl, hb2⟩))
  all_goals
    go_ret
    refine ⟨ret_bool ?_, ?_⟩
    · (first | (simp [parB, *]; done) | (simp [parB, *]; rw [Bool.eq_iff_iff]; simp; omega) | (simp [parB, *]; omega) | (unfold parB; rw [Bool.eq_iff_iff]; simp; omega) | (unfold parB; simp_all <;> omega))
    · (first | exact hb1.trans (hb2.mono hb1.size) | exact hb1 | (repeat (first | (with_reducible exact Below.refl _ _) | ((with_reducible refine cSet3 ?_ ?_ _ _ _); (· ((try simp) <;> omega))) | (with_reducible refine Below.drew ?_) | ((with_reducible refine cAlloc ?_ ?_ _); (· ((try simp) <;> omega))) | ((with_reducible refine cOn (by assumption) ?_ ?_); (· ((try simp) <;> omega))))))

theorem mem_tw {q : UInt8 → Bool} : ∀ {r : List UInt8} {x : UInt8}, x ∈ r.takeWhile q → q x = true
  | [], _, h => by cases h
  | c :: r, x, h => by
    rw [List.takeWhile_cons] at h
    by_cases hc : q c = true
    · rw [if_pos hc] at h
      rcases List.mem_cons.1 h with rfl | h
      · exact hc
      · exact mem_tw h
    · rw [if_neg hc] at h; cases h
theorem kmay_is {p q : UInt8 → Bool} (hpq : ∀ c, p c = true → q c = true) (m : Nat) (l : List UInt8) : kmay p q m l = (l.all q && (decide (1 ≤ l.length) && (decide (l.length ≤ m) && (match l.head? with | none => false | some c => p c)))) := by
  cases l with
  | nil => rfl
  | cons c r =>
    cases hp : p c with
    | false =>
      have e : kmay p q m (c :: r) = false := by
        unfold kmay
        rw [tog_zero hp]
        simp
      rw [e]
      simp [hp]
    | true =>
      have hq := hpq c hp
      unfold kmay
      rw [tog_on hp]
      simp only [List.all_cons, hq, Bool.true_and, List.isEmpty_cons, Bool.not_false, List.head?_cons, hp, List.length_cons]
      cases ha : r.all q with
      | true =>
        have : r.takeWhile q = r := by
          apply (List.takeWhile_prefix q).eq_of_length
          clear hp hq
          induction r with
          | nil => rfl
          | cons d r ih =>
            rw [List.all_cons, Bool.and_eq_true] at ha
            rw [List.takeWhile_cons, if_pos ha.1]
            simp [ih ha.2]
        rw [this]
        simp
        omega
      | false =>
        have : (r.takeWhile q).length ≠ r.length := by
          intro e
          have e2 := (List.takeWhile_prefix q).eq_of_length e
          have : r.all q = true := by
            rw [← e2, List.all_eq_true]
            intro x hx
            exact mem_tw hx
          rw [this] at ha; cases ha
        simp
        omega
theorem let_par {c : UInt8} (h : letB c = true) : parB c = true := by unfold parB; rw [h]; rfl
theorem all_take {s : ByteArray} {q : UInt8 → Bool} (h : (s.data.toList.take s.size).all q = true) : s.data.toList.all q = true := by
  rwa [List.take_of_length_le (by rw [← Lib.size_eq]; omega)] at h
theorem all_bad {s : ByteArray} {q : UInt8 → Bool} {n : Nat} (h : n < s.size) (hq : q s[n] = false) : s.data.toList.all q = false := by
  cases ha : s.data.toList.all q with
  | false => rfl
  | true =>
    have := List.all_eq_true.1 ha s[n] (List.mem_of_getElem? (get_at' h))
    rw [hq] at this; cases this
theorem all_step {s : ByteArray} {q : UInt8 → Bool} {n : Nat} (h : n < s.size) (hq : q s[n] = true) (ha : (s.data.toList.take n).all q = true) : (s.data.toList.take (n + 1)).all q = true := by
  rw [take_one s n h, List.all_append, ha]
  simp [hq]
theorem head_of {s : ByteArray} (h : 0 < s.size) : s.data.toList.head? = some s[0] := by rw [List.head?_eq_getElem?, get_at' h]

set_option maxRecDepth 100000 in
set_option maxHeartbeats 1600000 in
theorem rname_any (s : ByteArray) (w : World) (hs : s.size ≤ 100000) :
    Calls Tryz.prog 31 #[.string s] w fun e w' => e = .returned (.bool (kmay letB parB 16 s.data.toList)) ∧ Below w.heap.size w w' := by
  have HK := Lib.hid (kmay_is (p := letB) (q := parB) (fun _ h => let_par h) 16 s.data.toList)
  go_enter Tryz.func31, Tryz.ntmps31
  go_wp2
  go_loopw [3] (fun i wr => ∃ k : Nat, k ≤ s.size ∧ i = .int .i64 k ∧ Below w.heap.size w wr ∧ Hid ((s.data.toList.take k).all parB = true)) (fun i _ => s.size - (intOf i).toNat)
  case atStart => exact ⟨0, by omega, rfl, Below.refl _ _, by show _ = _; simp⟩
  case round =>
    obtain ⟨k, hk, rfl, hb, HA⟩ := hrel
    have hbs := hb.size
    by_cases hlt : k < s.size
    · cases hq : parB s[k] with
      | true =>
        have HC := Lib.hid (fun (W : World) => hq ▸ rpart_any s[k] W)
        have HN := Lib.hid (all_step hlt hq HA.out)
        clear hq
        go_wp2_with (go_at_call 48; refine (HC.out _).mono ?_; rintro e w1 ⟨rfl, hb1⟩)
        go_roundw
        case rel => exact ⟨k + 1, by omega, by go_num, hb.trans (hb1.mono hbs), HN.out⟩
        case measure => simp [intOf]; omega
      | false =>
        have HC := Lib.hid (fun (W : World) => hq ▸ rpart_any s[k] W)
        have HR := Lib.hid (show kmay letB parB 16 s.data.toList = false by rw [HK.out, all_bad hlt hq]; rfl)
        clear hq
        go_wp2_with (go_at_call 48; refine (HC.out _).mono ?_; rintro e w1 ⟨rfl, hb1⟩)
        go_ret
        exact ⟨ret_bool HR.out.symm, hb.trans (hb1.mono hbs)⟩
    · obtain rfl : k = s.size := by omega
      have HALL := Lib.hid (all_take HA.out)
      by_cases h1 : 1 ≤ s.size
      · have h1' : (1 : Int) ≤ (s.size : Int) := by omega
        have h0 : 0 < s.size := by omega
        by_cases h16 : s.size ≤ 16
        · have h16' : (s.size : Int) ≤ 16 := by omega
          have HR := Lib.hid (show kmay letB parB 16 s.data.toList = letB s[0] by rw [HK.out, HALL.out, ← Lib.size_eq, decide_eq_true h1, decide_eq_true h16, head_of h0]; simp)
          go_wp2_with (go_at_call 49; refine (rletter_any s[0] _).mono ?_; rintro e w1 ⟨rfl, hb1⟩)
          go_ret
          exact ⟨ret_bool HR.out.symm, hb.trans (hb1.mono hbs)⟩
        · have h16' : ¬ (s.size : Int) ≤ 16 := by omega
          have HR := Lib.hid (show kmay letB parB 16 s.data.toList = false by rw [HK.out, ← Lib.size_eq, decide_eq_false h16]; simp)
          go_wp2
          go_ret
          exact ⟨ret_bool HR.out.symm, hb⟩
      · have h1' : ¬ (1 : Int) ≤ (s.size : Int) := by omega
        have HR := Lib.hid (show kmay letB parB 16 s.data.toList = false by rw [HK.out, ← Lib.size_eq, decide_eq_false h1]; simp)
        go_wp2
        go_ret
        exact ⟨ret_bool HR.out.symm, hb⟩

set_option maxRecDepth 100000 in
set_option maxHeartbeats 1600000 in
theorem rtmay_1 (s : ByteArray) (w : World) (hs : s.size ≤ 100000) :
    Calls Tryz.prog 19 #[.agg #[.int .i64 1, .string s]] w fun e w' => e = .returned (.bool (kmay letB parB 16 s.data.toList)) ∧ Below w.heap.size w w' := by
  go_enter Tryz.func19, Tryz.ntmps19
  go_wp2_with (go_at_call 31; refine (rname_any s _ hs).mono ?_; rintro e w1 ⟨rfl, hb1⟩)
  go_ret
  refine ⟨rfl, ?_⟩
  repeat (first | (with_reducible exact Below.refl _ _) | ((with_reducible refine cSet3 ?_ ?_ _ _ _); (· ((try simp) <;> omega))) | (with_reducible refine Below.drew ?_) | ((with_reducible refine cAlloc ?_ ?_ _); (· ((try simp) <;> omega))) | ((with_reducible refine cOn (by assumption) ?_ ?_); (· ((try simp) <;> omega))))
set_option maxRecDepth 100000 in
set_option maxHeartbeats 1600000 in
theorem rtmay_3 (s : ByteArray) (w : World) (hs : s.size ≤ 100000) :
    Calls Tryz.prog 19 #[.agg #[.int .i64 3, .string s]] w fun e w' => e = .returned (.bool (mayB 2 0 s)) ∧ Below w.heap.size w w' := by
  go_enter Tryz.func19, Tryz.ntmps19
  go_wp2_with (go_at_call 33; refine (rmay_any 2 0 s _ (by unfold maxLen; omega)).mono ?_; rintro e w1 ⟨rfl, hb1⟩)
  go_ret
  refine ⟨rfl, ?_⟩
  repeat (first | (with_reducible exact Below.refl _ _) | ((with_reducible refine cSet3 ?_ ?_ _ _ _); (· ((try simp) <;> omega))) | (with_reducible refine Below.drew ?_) | ((with_reducible refine cAlloc ?_ ?_ _); (· ((try simp) <;> omega))) | ((with_reducible refine cOn (by assumption) ?_ ?_); (· ((try simp) <;> omega))))
set_option maxRecDepth 100000 in
set_option maxHeartbeats 3200000 in
theorem rtmay_2 (s : ByteArray) (w : World) (hs : s.size ≤ 100000) :
    Calls Tryz.prog 19 #[.agg #[.int .i64 2, .string s]] w fun e w' => e = .returned (.bool (kmay digB digB 19 s.data.toList)) ∧ Below w.heap.size w w' := by
  have HK := Lib.hid (kmay_is (p := digB) (q := digB) (fun _ h => h) 19 s.data.toList)
  go_enter Tryz.func19, Tryz.ntmps19
  go_wp2
  go_loopw [3] (fun i wr => ∃ k : Nat, k ≤ s.size ∧ i = .int .i64 k ∧ TB w 2 s wr ∧ Hid ((s.data.toList.take k).all digB = true)) (fun i _ => s.size - (intOf i).toNat)
  case atStart => exact ⟨0, by omega, rfl, TB.start w 2 s _, by show _ = _; simp⟩
  case round =>
    obtain ⟨k, hk, rfl, hW, HA⟩ := hrel
    have HW := Lib.hid hW
    clear hW
    have r0 := HW.out.c0
    have r1 := HW.out.c1
    have rl := HW.out.lt
    by_cases hlt : k < s.size
    · cases hq : digB s[k] with
      | true =>
        have HC := Lib.hid (fun (W : World) => hq ▸ rdigit3_any s[k] W)
        have HN := Lib.hid (all_step hlt hq HA.out)
        clear hq
        go_wp2_with (go_at_call 32; refine (HC.out _).mono ?_; rintro e w1 ⟨rfl, hb1⟩)
        go_roundw
        case rel => exact ⟨k + 1, by omega, by go_num, HW.out.later hb1, HN.out⟩
        case measure => simp [intOf]; omega
      | false =>
        have HC := Lib.hid (fun (W : World) => hq ▸ rdigit3_any s[k] W)
        have HR := Lib.hid (show kmay digB digB 19 s.data.toList = false by rw [HK.out, all_bad hlt hq]; rfl)
        clear hq
        go_wp2_with (go_at_call 32; refine (HC.out _).mono ?_; rintro e w1 ⟨rfl, hb1⟩)
        go_ret
        exact ⟨ret_bool HR.out.symm, (HW.out.later hb1).below⟩
    · obtain rfl : k = s.size := by omega
      have HALL := Lib.hid (all_take HA.out)
      by_cases h1 : 1 ≤ s.size
      · have h1' : (1 : Int) ≤ (s.size : Int) := by omega
        have h0 : 0 < s.size := by omega
        have HD := Lib.hid (List.all_eq_true.1 HALL.out s[0] (List.mem_of_getElem? (get_at' h0)))
        by_cases h16 : s.size ≤ 19
        · have h16' : (s.size : Int) ≤ 19 := by omega
          have HR := Lib.hid (show kmay digB digB 19 s.data.toList = true by rw [HK.out, HALL.out, ← Lib.size_eq, decide_eq_true h1, decide_eq_true h16, head_of h0]; simp only [HD.out]; rfl)
          go_wp2
          go_ret
          exact ⟨ret_bool HR.out.symm, HW.out.below⟩
        · have h16' : ¬ (s.size : Int) ≤ 19 := by omega
          have HR := Lib.hid (show kmay digB digB 19 s.data.toList = false by rw [HK.out, ← Lib.size_eq, decide_eq_false h16]; simp)
          go_wp2
          go_ret
          exact ⟨ret_bool HR.out.symm, HW.out.below⟩
      · have h1' : ¬ (1 : Int) ≤ (s.size : Int) := by omega
        have HR := Lib.hid (show kmay digB digB 19 s.data.toList = false by rw [HK.out, ← Lib.size_eq, decide_eq_false h1]; simp)
        go_wp2
        go_ret
        exact ⟨ret_bool HR.out.symm, HW.out.below⟩
theorem sign_all (l : List UInt8) : kmay sigB nonB 1 l = decide (l ∈ [[40], [41], [44], [61], [60], [43], [45], [42]]) := by
  rw [Bool.eq_iff_iff, decide_eq_true_eq]
  constructor
  · intro h
    obtain ⟨c, r, e, hp, _, hm⟩ := kmay_form h
    have hr : r = [] := List.length_eq_zero_iff.1 (by omega)
    subst hr
    subst e
    have := List.contains_iff_mem.1 hp
    simp only [sigL, List.mem_cons, List.mem_nil_iff, or_false] at this
    rcases this with rfl | rfl | rfl | rfl | rfl | rfl | rfl | rfl <;> simp
  · intro h
    simp only [List.mem_cons, List.mem_nil_iff, or_false] at h
    rcases h with rfl | rfl | rfl | rfl | rfl | rfl | rfl | rfl <;> decide
set_option maxRecDepth 100000 in
set_option maxHeartbeats 3200000 in
theorem rtmay_4 (s : ByteArray) (w : World) :
    Calls Tryz.prog 19 #[.agg #[.int .i64 4, .string s]] w fun e w' => e = .returned (.bool (kmay sigB nonB 1 s.data.toList)) ∧ Below w.heap.size w w' := by
  have HK := Lib.hid (sign_all s.data.toList)
  have HT := Lib.hid (toList_data s)
  go_enter Tryz.func19, Tryz.ntmps19
  go_wp2
  all_goals
    go_ret
    refine ⟨ret_bool ?_, ?_⟩
    · rw [HK.out, ← HT.out]
      first | (simp_all; done) | (rw [Bool.eq_iff_iff]; simp [*]; done) | (rw [Bool.eq_iff_iff]; simp_all; done)
    · repeat (first | (with_reducible exact Below.refl _ _) | ((with_reducible refine cSet3 ?_ ?_ _ _ _); (· ((try simp) <;> omega))) | (with_reducible refine Below.drew ?_) | ((with_reducible refine cAlloc ?_ ?_ _); (· ((try simp) <;> omega))) | ((with_reducible refine cOn (by assumption) ?_ ?_); (· ((try simp) <;> omega))))
set_option maxRecDepth 100000 in
set_option maxHeartbeats 1600000 in
theorem rtmay_0 (k : Int) (s : ByteArray) (w : World) (h1 : ¬ k = 1) (h2 : ¬ k = 2) (h3 : ¬ k = 3) (h4 : ¬ k = 4) :
    Calls Tryz.prog 19 #[.agg #[.int .i64 k, .string s]] w fun e w' => e = .returned (.bool false) ∧ Below w.heap.size w w' := by
  go_enter Tryz.func19, Tryz.ntmps19
  go_wp2
  go_ret
  refine ⟨rfl, ?_⟩
  repeat (first | (with_reducible exact Below.refl _ _) | ((with_reducible refine cSet3 ?_ ?_ _ _ _); (· ((try simp) <;> omega))) | (with_reducible refine Below.drew ?_) | ((with_reducible refine cAlloc ?_ ?_ _); (· ((try simp) <;> omega))) | ((with_reducible refine cOn (by assumption) ?_ ?_); (· ((try simp) <;> omega))))
theorem rtmay_any (k : Int) (s : ByteArray) (w : World) (hs : s.size ≤ 100000) :
    Calls Tryz.prog 19 #[.agg #[.int .i64 k, .string s]] w fun e w' => e = .returned (.bool (tmayB k s)) ∧ Below w.heap.size w w' := by
  unfold tmayB
  by_cases h3 : k = 3
  · rw [if_pos h3]; subst h3; exact rtmay_3 s w hs
  · rw [if_neg h3]
    by_cases h1 : k = 1
    · rw [if_pos h1]; subst h1; exact rtmay_1 s w hs
    · rw [if_neg h1]
      by_cases h2 : k = 2
      · rw [if_pos h2]; subst h2; exact rtmay_2 s w hs
      · rw [if_neg h2]
        by_cases h4 : k = 4
        · rw [if_pos h4]; subst h4; exact rtmay_4 s w
        · rw [if_neg h4]; exact rtmay_0 k s w h1 h2 h3 h4
end Go.Proofs.YtnahejljelbbgaaGreatDoor
