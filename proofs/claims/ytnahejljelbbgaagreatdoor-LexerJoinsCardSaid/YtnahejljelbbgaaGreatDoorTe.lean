import Derived.Test.YtnahejljelbbgaaGreatDoorTd
/- The document's own text of a value: Text. -/
namespace Go.Proofs.YtnahejljelbbgaaGreatDoor
open Go.RowKit Go.Lib

theorem rmay_is (k i : Int) (s : ByteArray) (b : Bool) (w : World) (hs : s.size ≤ maxLen) (h : mayB k i s = b) :
    Calls Tryz.prog 33 #[.agg #[.int .i64 k, .int .i64 i, .string s]] w fun e w' => e = .returned (.bool b) ∧ Below w.heap.size w w' := h ▸ rmay_any k i s w hs
theorem small_len {s : ByteArray} (h : s.size ≤ 40) : s.size ≤ maxLen := by unfold maxLen; omega
theorem dbl_snoc : ∀ (l : List UInt8) (c : UInt8), dbl (l ++ [c]) = dbl l ++ (if c = 39 then [39, 39] else [c])
  | [], c => by simp only [dbl, List.nil_append]
  | d :: l, c => by
    have := dbl_snoc l c
    simp only [List.cons_append, dbl, this]
    split <;> simp

set_option maxRecDepth 100000 in
set_option maxHeartbeats 800000 in
theorem rtext_f (k i : Int) (s : ByteArray) (w : World) (hl : s.size ≤ maxLen) (hm : mayB k i s = false) :
    Calls Tryz.prog 20 #[.agg #[.int .i64 k, .int .i64 i, .string s]] w fun e w' => e = .returned (.string ⟨([] : List UInt8).toArray⟩) ∧ Below w.heap.size w w' := by
  have HM := Lib.hid hm
  have HL := Lib.hid hl
  clear hm hl
  go_enter Tryz.func20, Tryz.ntmps20
  go_wp2_with (first
    | (go_at_call 33; refine (rmay_is _ _ _ _ _ HL.out HM.out).mono ?_; rintro e w1 ⟨rfl, hb1⟩; have hc1 := (bcell hb1).1; have hf1 := (bcell hb1).2; have hy1 := hb1.size; (try simp at hy1); have hz1_0 : w.heap.size < w1.heap.size := (by omega)))
  go_ret
  refine ⟨rfl, ?_⟩
  repeat (first | (with_reducible exact Below.refl _ _) | ((with_reducible refine cSet3 ?_ ?_ _ _ _); (· ((try simp) <;> omega))) | (with_reducible refine Below.drew ?_) | ((with_reducible refine cAlloc ?_ ?_ _); (· ((try simp) <;> omega))) | ((with_reducible refine cOn (by assumption) ?_ ?_); (· ((try simp) <;> omega))))

set_option maxRecDepth 100000 in
set_option maxHeartbeats 800000 in
theorem rtext_0 (k i : Int) (s : ByteArray) (w : World) (hl : s.size ≤ maxLen) (hm : mayB k i s = true) (hk : k = 0) :
    Calls Tryz.prog 20 #[.agg #[.int .i64 k, .int .i64 i, .string s]] w fun e w' => e = .returned (.string ⟨([78, 85, 76, 76] : List UInt8).toArray⟩) ∧ Below w.heap.size w w' := by
  have HM := Lib.hid hm
  have HL := Lib.hid hl
  clear hm hl
  subst hk
  go_enter Tryz.func20, Tryz.ntmps20
  go_wp2_with (first
    | (go_at_call 33; refine (rmay_is _ _ _ _ _ HL.out HM.out).mono ?_; rintro e w1 ⟨rfl, hb1⟩; have hc1 := (bcell hb1).1; have hf1 := (bcell hb1).2; have hy1 := hb1.size; (try simp at hy1); have hz1_0 : w.heap.size < w1.heap.size := (by omega)))
  go_ret
  refine ⟨rfl, ?_⟩
  repeat (first | (with_reducible exact Below.refl _ _) | ((with_reducible refine cSet3 ?_ ?_ _ _ _); (· ((try simp) <;> omega))) | (with_reducible refine Below.drew ?_) | ((with_reducible refine cAlloc ?_ ?_ _); (· ((try simp) <;> omega))) | ((with_reducible refine cOn (by assumption) ?_ ?_); (· ((try simp) <;> omega))))

set_option maxRecDepth 100000 in
set_option maxHeartbeats 800000 in
theorem rtext_t (k i : Int) (s : ByteArray) (w : World) (hl : s.size ≤ maxLen) (hm : mayB k i s = true) (hk : k = 3) (hi : i = 1) :
    Calls Tryz.prog 20 #[.agg #[.int .i64 k, .int .i64 i, .string s]] w fun e w' => e = .returned (.string ⟨([84, 82, 85, 69] : List UInt8).toArray⟩) ∧ Below w.heap.size w w' := by
  have HM := Lib.hid hm
  have HL := Lib.hid hl
  clear hm hl
  subst hk hi
  go_enter Tryz.func20, Tryz.ntmps20
  go_wp2_with (first
    | (go_at_call 33; refine (rmay_is _ _ _ _ _ HL.out HM.out).mono ?_; rintro e w1 ⟨rfl, hb1⟩; have hc1 := (bcell hb1).1; have hf1 := (bcell hb1).2; have hy1 := hb1.size; (try simp at hy1); have hz1_0 : w.heap.size < w1.heap.size := (by omega)))
  go_ret
  refine ⟨rfl, ?_⟩
  repeat (first | (with_reducible exact Below.refl _ _) | ((with_reducible refine cSet3 ?_ ?_ _ _ _); (· ((try simp) <;> omega))) | (with_reducible refine Below.drew ?_) | ((with_reducible refine cAlloc ?_ ?_ _); (· ((try simp) <;> omega))) | ((with_reducible refine cOn (by assumption) ?_ ?_); (· ((try simp) <;> omega))))

set_option maxRecDepth 100000 in
set_option maxHeartbeats 800000 in
theorem rtext_n (k i : Int) (s : ByteArray) (w : World) (hl : s.size ≤ maxLen) (hm : mayB k i s = true) (hk : k = 3) (hi : i = 0) :
    Calls Tryz.prog 20 #[.agg #[.int .i64 k, .int .i64 i, .string s]] w fun e w' => e = .returned (.string ⟨([70, 65, 76, 83, 69] : List UInt8).toArray⟩) ∧ Below w.heap.size w w' := by
  have HM := Lib.hid hm
  have HL := Lib.hid hl
  clear hm hl
  subst hk hi
  go_enter Tryz.func20, Tryz.ntmps20
  go_wp2_with (first
    | (go_at_call 33; refine (rmay_is _ _ _ _ _ HL.out HM.out).mono ?_; rintro e w1 ⟨rfl, hb1⟩; have hc1 := (bcell hb1).1; have hf1 := (bcell hb1).2; have hy1 := hb1.size; (try simp at hy1); have hz1_0 : w.heap.size < w1.heap.size := (by omega)))
  go_ret
  refine ⟨rfl, ?_⟩
  repeat (first | (with_reducible exact Below.refl _ _) | ((with_reducible refine cSet3 ?_ ?_ _ _ _); (· ((try simp) <;> omega))) | (with_reducible refine Below.drew ?_) | ((with_reducible refine cAlloc ?_ ?_ _); (· ((try simp) <;> omega))) | ((with_reducible refine cOn (by assumption) ?_ ?_); (· ((try simp) <;> omega))))

set_option maxRecDepth 100000 in
set_option maxHeartbeats 800000 in
theorem rtext_neg (k i : Int) (s : ByteArray) (w : World) (m : Nat) (hl : s.size ≤ maxLen) (hm : mayB k i s = true) (hk : k = 1) (hi : i = -(m : Int)) (h0 : 0 < m) (h1 : (m : Int) ≤ 9223372036854775808) :
    Calls Tryz.prog 20 #[.agg #[.int .i64 k, .int .i64 i, .string s]] w fun e w' => e = .returned (.string ⟨(45 :: decDigits m : List UInt8).toArray⟩) ∧ Below w.heap.size w w' := by
  have HM := Lib.hid hm
  have HL := Lib.hid hl
  clear hm hl
  subst hk hi
  have HI := Lib.hid h1
  have hneg : -(m : Int) < 0 := by omega
  have HD := Lib.hid (show (⟨(decDigits m).toArray⟩ : ByteArray).size ≤ 100 ∧ (decDigits m).length ≤ 100 by have := itoa_length_le (-(m : Int)) (by omega) (by omega); rw [itoa_neg m (by omega)] at this; simp [ByteArray.size] at this ⊢; omega)
  have hd := HD.out.1
  have hd2 := HD.out.2
  go_enter Tryz.func20, Tryz.ntmps20
  go_wp2_with (first
    | (go_at_call 33; refine (rmay_is _ _ _ _ _ HL.out HM.out).mono ?_; rintro e w1 ⟨rfl, hb1⟩; have hc1 := (bcell hb1).1; have hf1 := (bcell hb1).2; have hy1 := hb1.size; (try simp at hy1); have hz1_0 : w.heap.size < w1.heap.size := (by omega))
    | (go_at_call 34; refine (digits_any m _ HI.out).mono ?_; rintro e w2 ⟨rfl, hb2⟩; have hc2 := (bcell hb2).1; have hf2 := (bcell hb2).2; have hy2 := hb2.size; (try simp at hy2); have hz2_0 : w.heap.size < w2.heap.size := (by omega)))
  go_ret
  refine ⟨ret_bs (by simp), ?_⟩
  repeat (first | (with_reducible exact Below.refl _ _) | ((with_reducible refine cSet3 ?_ ?_ _ _ _); (· ((try simp) <;> omega))) | (with_reducible refine Below.drew ?_) | ((with_reducible refine cAlloc ?_ ?_ _); (· ((try simp) <;> omega))) | ((with_reducible refine cOn (by assumption) ?_ ?_); (· ((try simp) <;> omega))))

set_option maxRecDepth 100000 in
set_option maxHeartbeats 800000 in
theorem rtext_pos (k i : Int) (s : ByteArray) (w : World) (m : Nat) (hl : s.size ≤ maxLen) (hm : mayB k i s = true) (hk : k = 1) (hi : i = (m : Int)) (h1 : (m : Int) ≤ 9223372036854775807) :
    Calls Tryz.prog 20 #[.agg #[.int .i64 k, .int .i64 i, .string s]] w fun e w' => e = .returned (.string ⟨(decDigits m : List UInt8).toArray⟩) ∧ Below w.heap.size w w' := by
  have HM := Lib.hid hm
  have HL := Lib.hid hl
  clear hm hl
  subst hk hi
  have HI := Lib.hid (show (m : Int) ≤ 9223372036854775808 by omega)
  go_enter Tryz.func20, Tryz.ntmps20
  go_wp2_with (first
    | (go_at_call 33; refine (rmay_is _ _ _ _ _ HL.out HM.out).mono ?_; rintro e w1 ⟨rfl, hb1⟩; have hc1 := (bcell hb1).1; have hf1 := (bcell hb1).2; have hy1 := hb1.size; (try simp at hy1); have hz1_0 : w.heap.size < w1.heap.size := (by omega))
    | (go_at_call 34; refine (digits_any m _ HI.out).mono ?_; rintro e w2 ⟨rfl, hb2⟩; have hc2 := (bcell hb2).1; have hf2 := (bcell hb2).2; have hy2 := hb2.size; (try simp at hy2); have hz2_0 : w.heap.size < w2.heap.size := (by omega)))
  go_ret
  refine ⟨rfl, ?_⟩
  repeat (first | (with_reducible exact Below.refl _ _) | ((with_reducible refine cSet3 ?_ ?_ _ _ _); (· ((try simp) <;> omega))) | (with_reducible refine Below.drew ?_) | ((with_reducible refine cAlloc ?_ ?_ _); (· ((try simp) <;> omega))) | ((with_reducible refine cOn (by assumption) ?_ ?_); (· ((try simp) <;> omega))))

theorem extract_one (s : ByteArray) (n : Nat) (h : n < s.size) : (s.extract n (n + 1)).data.toList = [s[n]] := by
  have h1 : (s.extract n (n + 1)).data.toList = (s.data.toList.drop n).take 1 := by simp [ByteArray.extract, ByteArray.data_append, ByteArray.copySlice]
  have h2 : n < s.data.toList.length := by simpa using h
  rw [h1, List.drop_eq_getElem_cons h2]
  rfl
theorem bsl_app (a b : ByteArray) : (a ++ b).data.toList = a.data.toList ++ b.data.toList := by simp
theorem take_one (s : ByteArray) (n : Nat) (h : n < s.size) : s.data.toList.take (n + 1) = s.data.toList.take n ++ [s[n]] := by
  have h2 : n < s.data.toList.length := by simpa using h
  rw [List.take_add_one, List.getElem?_eq_getElem h2]
  rfl

set_option maxRecDepth 100000 in
set_option maxHeartbeats 800000 in
theorem rtext_2 (k i : Int) (s : ByteArray) (w : World) (hl : s.size ≤ maxLen) (hm : mayB k i s = true) (hk : k = 2) (hz : s.size ≤ 40) :
    Calls Tryz.prog 20 #[.agg #[.int .i64 k, .int .i64 i, .string s]] w fun e w' => e = .returned (.string ⟨(39 :: (dbl s.data.toList ++ [39]) : List UInt8).toArray⟩) ∧ Below w.heap.size w w' := by
  have HM := Lib.hid hm
  have HL := Lib.hid hl
  clear hm hl
  subst hk
  go_enter Tryz.func20, Tryz.ntmps20
  go_wp2_with (first
    | (go_at_call 33; refine (rmay_is _ _ _ _ _ HL.out HM.out).mono ?_; rintro e w1 ⟨rfl, hb1⟩; have hc1 := (bcell hb1).1; have hf1 := (bcell hb1).2; have hy1 := hb1.size; (try simp at hy1); have hz1_0 : w.heap.size < w1.heap.size := (by omega)))
  have HB := Lib.hid hb1
  clear hb1
  go_loop [3, 4] (fun t u => ∃ (n : Nat) (S : ByteArray), n ≤ s.size ∧ S.size ≤ 1 + 2 * n ∧ t = .string S ∧ u = .int .i64 n ∧ Hid (S.data.toList = 39 :: dbl (s.data.toList.take n))) (fun _ u => s.size - (intOf u).toNat)
  case atStart => exact ⟨0, _, Nat.zero_le _, by simp [ByteArray.size], rfl, rfl, by show _ = _; simp [dbl]⟩
  case round =>
    obtain ⟨n, S, hn, hS, rfl, rfl, HS⟩ := hrel
    by_cases hlt : n < s.size
    · have HX := Lib.hid (And.intro (extract_one s n hlt) (take_one s n hlt))
      have hx1 : (s.extract n (n + 1)).size = 1 := by
        have := congrArg List.length HX.out.1
        rw [Array.length_toList] at this
        exact this
      have hq1 : (⟨#[39]⟩ : ByteArray).size = 1 := rfl
      by_cases hc : (s[n].toNat : Int) = 39
      · go_wp2
        go_round
        case rel =>
          refine ⟨n + 1, _, by omega, ?_, rfl, by go_num, ?_⟩
          · first | (simp only [ByteArray.size_append, hx1, hq1]; omega) | (simp only [ByteArray.size_append, hx1]; omega)
          · have h39 : s[n] = 39 := UInt8.toNat_inj.1 (by show s[n].toNat = 39; omega)
            have e := HX.out.2
            show _ = _
            rw [e, dbl_snoc, if_pos h39]
            rw [bsl_app, bsl_app, HS.out, HX.out.1, h39]
            simp
        case measure => simp [intOf]; omega
      · go_wp2
        go_round
        case rel =>
          refine ⟨n + 1, _, by omega, ?_, rfl, by go_num, ?_⟩
          · first | (simp only [ByteArray.size_append, hx1, hq1]; omega) | (simp only [ByteArray.size_append, hx1]; omega)
          · have h39 : ¬ s[n] = 39 := fun h => hc (by rw [h]; rfl)
            have e := HX.out.2
            show _ = _
            rw [e, dbl_snoc, if_neg h39]
            rw [bsl_app, HS.out, HX.out.1]
            simp
        case measure => simp [intOf]; omega
    · go_wp2
      go_ret
      refine ⟨ret_bs ?_, ?_⟩
      · have e : s.data.toList.take n = s.data.toList := List.take_of_length_le (by simp; omega)
        have h := HS.out
        rw [e] at h
        simp [h]
      · have hb1 := HB.out
        repeat (first | (with_reducible exact Below.refl _ _) | ((with_reducible refine cSet3 ?_ ?_ _ _ _); (· ((try simp) <;> omega))) | (with_reducible refine Below.drew ?_) | ((with_reducible refine cAlloc ?_ ?_ _); (· ((try simp) <;> omega))) | ((with_reducible refine cOn (by assumption) ?_ ?_); (· ((try simp) <;> omega))))

theorem rtext_any (k i : Int) (s : ByteArray) (w : World) (hi : In64 i) (hs : s.size ≤ maxLen) :
    Calls Tryz.prog 20 #[.agg #[.int .i64 k, .int .i64 i, .string s]] w fun e w' => e = .returned (.string ⟨(txtO k i s).toArray⟩) ∧ Below w.heap.size w w' := by
  cases hm : mayB k i s with
  | false =>
    rw [show txtO k i s = [] by unfold txtO; rw [hm]; rfl]
    exact rtext_f k i s w hs hm
  | true =>
    cases four k i s hm with
    | null hk h1 h2 ht => rw [ht]; exact rtext_0 k i s w hs hm hk
    | num hk h1 ht =>
      rw [ht]
      unfold In64 at hi
      by_cases h : 0 ≤ i
      · obtain ⟨m, rfl⟩ := Int.eq_ofNat_of_zero_le h
        rw [itoa_nonneg]
        exact rtext_pos k _ s w m hs hm hk rfl (by omega)
      · obtain ⟨m, hm'⟩ := Int.eq_ofNat_of_zero_le (show 0 ≤ -i by omega)
        obtain rfl : i = -(m : Int) := by omega
        rw [itoa_neg m (by omega)]
        exact rtext_neg k _ s w m hs hm hk rfl (by omega) (by omega)
    | text hk h1 h2 h3 ht => rw [ht]; exact rtext_2 k i s w hs hm hk h2
    | no hk h1 h2 ht => rw [ht]; exact rtext_n k i s w hs hm hk h1
    | yes hk h1 h2 ht => rw [ht]; exact rtext_t k i s w hs hm hk h1
end Go.Proofs.YtnahejljelbbgaaGreatDoor
