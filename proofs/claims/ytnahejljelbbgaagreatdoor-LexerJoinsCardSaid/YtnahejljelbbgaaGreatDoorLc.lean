import Derived.Test.YtnahejljelbbgaaGreatDoorLb
import Derived.Test.YtnahejljelbbgaaGreatDoorTj
import Derived.Laws.EntriesVeiled
/- May one of a kind be; the kinds; what stands in quotes. -/
namespace Go.Proofs.YtnahejljelbbgaaGreatDoor
open Go.RowKit Go.Lib

set_option maxRecDepth 100000 in
set_option maxHeartbeats 800000 in
theorem kmay_0 (num : Int) (most : Nat) (f g : Nat) (p q : UInt8 → Bool) (hf : Cls f p) (hg : Cls g q) (s : ByteArray) (w : World) (hs : s.size ≤ 100000) (hm : most ≤ 100) (h0 : s.toList = []) :
    Calls Tryz.prog 27 #[.agg #[.int .i64 num, .int .i64 (most : Nat), .func (.func f) #[] #[], .func (.func g) #[] #[]], .string s] w fun e w' => e = .returned (.bool false) ∧ Below w.heap.size w w' := by
  have HT := Lib.hid (fun (W : World) => tog_any num most f g p q hf hg s W hs)
  clear hf hg
  have h0' : s.toList.isEmpty = true := by rw [h0]; rfl
  go_enter Tryz.func27, Tryz.ntmps27
  go_wp2_with (first
    | (go_at_call 37; refine (HT.out _).mono ?_; rintro e w1 ⟨rfl, hb1⟩; have hc1 := (bcell hb1).1; have hf1 := (bcell hb1).2; have hy1 := hb1.size; (try simp at hy1); have hz1_0 : w.heap.size < w1.heap.size := (by omega)))
  all_goals
    go_ret
    refine ⟨rfl, ?_⟩
    repeat (first | (with_reducible exact Below.refl _ _) | ((with_reducible refine cSet3 ?_ ?_ _ _ _); (· ((try simp) <;> omega))) | (with_reducible refine Below.drew ?_) | ((with_reducible refine cAlloc ?_ ?_ _); (· ((try simp) <;> omega))) | ((with_reducible refine cOn (by assumption) ?_ ?_); (· ((try simp) <;> omega))))

set_option maxRecDepth 100000 in
set_option maxHeartbeats 800000 in
theorem kmay_1 (num : Int) (most : Nat) (f g : Nat) (p q : UInt8 → Bool) (hf : Cls f p) (hg : Cls g q) (s : ByteArray) (w : World) (hs : s.size ≤ 100000) (hm : most ≤ 100) (hl : 0 < s.size) (h1 : ¬ s.size ≤ most) :
    Calls Tryz.prog 27 #[.agg #[.int .i64 num, .int .i64 (most : Nat), .func (.func f) #[] #[], .func (.func g) #[] #[]], .string s] w fun e w' => e = .returned (.bool false) ∧ Below w.heap.size w w' := by
  have HT := Lib.hid (fun (W : World) => tog_any num most f g p q hf hg s W hs)
  clear hf hg
  have h0' : s.toList.isEmpty = false := nonempty_of' hl
  have h0 : ¬ s.toList = [] := fun h => by rw [h] at h0'; cases h0'
  have h2 : ¬ (s.size : Int) ≤ (most : Int) := by omega
  go_enter Tryz.func27, Tryz.ntmps27
  go_wp2_with (first
    | (go_at_call 37; refine (HT.out _).mono ?_; rintro e w1 ⟨rfl, hb1⟩; have hc1 := (bcell hb1).1; have hf1 := (bcell hb1).2; have hy1 := hb1.size; (try simp at hy1); have hz1_0 : w.heap.size < w1.heap.size := (by omega)))
  all_goals
    go_ret
    refine ⟨rfl, ?_⟩
    repeat (first | (with_reducible exact Below.refl _ _) | ((with_reducible refine cSet3 ?_ ?_ _ _ _); (· ((try simp) <;> omega))) | (with_reducible refine Below.drew ?_) | ((with_reducible refine cAlloc ?_ ?_ _); (· ((try simp) <;> omega))) | ((with_reducible refine cOn (by assumption) ?_ ?_); (· ((try simp) <;> omega))))

set_option maxRecDepth 100000 in
set_option maxHeartbeats 800000 in
theorem kmay_2 (num : Int) (most : Nat) (f g : Nat) (p q : UInt8 → Bool) (hf : Cls f p) (hg : Cls g q) (s : ByteArray) (w : World) (hs : s.size ≤ 100000) (hm : most ≤ 100) (hl : 0 < s.size) (h1 : s.size ≤ most) (n : Nat) (hn : tog p q s.data.toList = n) :
    Calls Tryz.prog 27 #[.agg #[.int .i64 num, .int .i64 (most : Nat), .func (.func f) #[] #[], .func (.func g) #[] #[]], .string s] w fun e w' => e = .returned (.bool (decide (n = s.size))) ∧ Below w.heap.size w w' := by
  have HT := Lib.hid (fun (W : World) => tog_any num most f g p q hf hg s W hs)
  clear hf hg
  have h0' : s.toList.isEmpty = false := nonempty_of' hl
  have h0 : ¬ s.toList = [] := fun h => by rw [h] at h0'; cases h0'
  rw [hn] at HT
  clear hn
  have h2 : (s.size : Int) ≤ (most : Int) := by omega
  go_enter Tryz.func27, Tryz.ntmps27
  go_wp2_with (first
    | (go_at_call 37; refine (HT.out _).mono ?_; rintro e w1 ⟨rfl, hb1⟩; have hc1 := (bcell hb1).1; have hf1 := (bcell hb1).2; have hy1 := hb1.size; (try simp at hy1); have hz1_0 : w.heap.size < w1.heap.size := (by omega)))
  all_goals
    go_ret
    refine ⟨ret_bool (by rw [Bool.eq_iff_iff]; simp; omega), ?_⟩
    repeat (first | (with_reducible exact Below.refl _ _) | ((with_reducible refine cSet3 ?_ ?_ _ _ _); (· ((try simp) <;> omega))) | (with_reducible refine Below.drew ?_) | ((with_reducible refine cAlloc ?_ ?_ _); (· ((try simp) <;> omega))) | ((with_reducible refine cOn (by assumption) ?_ ?_); (· ((try simp) <;> omega))))

theorem kmay_any (num : Int) (most : Nat) (f g : Nat) (p q : UInt8 → Bool) (hf : Cls f p) (hg : Cls g q) (s : ByteArray) (w : World) (hs : s.size ≤ 100000) (hm : most ≤ 100) :
    Calls Tryz.prog 27 #[.agg #[.int .i64 num, .int .i64 (most : Nat), .func (.func f) #[] #[], .func (.func g) #[] #[]], .string s] w fun e w' => e = .returned (.bool (kmay p q most s.data.toList)) ∧ Below w.heap.size w w' := by
  by_cases hl : 0 < s.size
  · have he : s.data.toList.isEmpty = false := by rw [← toList_data]; exact nonempty_of' hl
    by_cases h1 : s.size ≤ most
    · have e : kmay p q most s.data.toList = decide (tog p q s.data.toList = s.size) := by
        unfold kmay
        rw [he, ← Lib.size_eq, decide_eq_true h1]
        rfl
      rw [e]
      exact kmay_2 num most f g p q hf hg s w hs hm hl h1 _ rfl
    · have e : kmay p q most s.data.toList = false := by
        unfold kmay
        rw [← Lib.size_eq, decide_eq_false h1]
        simp
      rw [e]
      exact kmay_1 num most f g p q hf hg s w hs hm hl h1
  · have e : s.data.toList = [] := List.length_eq_zero_iff.1 (by rw [← Lib.size_eq]; omega)
    rw [e]
    exact kmay_0 num most f g p q hf hg s w hs hm (by rw [toList_data]; exact e)

set_option maxRecDepth 100000 in
theorem wordKind_any (w : World) :
    Calls Tryz.prog 41 #[] w fun e w' => e = .returned (.agg #[.int .i64 1, .int .i64 16, .func (.func 58) #[] #[], .func (.func 59) #[] #[]]) ∧ Below w.heap.size w w' := by
  go_enter Tryz.func41, Tryz.ntmps41
  go_wp2
  refine bodyPost_ret (v := .agg #[.int .i64 1, .int .i64 16, .func (.func 58) #[] #[], .func (.func 59) #[] #[]]) ?_ rfl ⟨rfl, ?_⟩
  · (simp [results, Tryz.results41, go_sem, *]; done)
  repeat (first | (with_reducible exact Below.refl _ _) | ((with_reducible refine cSet3 ?_ ?_ _ _ _); (· ((try simp) <;> omega))) | (with_reducible refine Below.drew ?_) | ((with_reducible refine cAlloc ?_ ?_ _); (· ((try simp) <;> omega))) | ((with_reducible refine cOn (by assumption) ?_ ?_); (· ((try simp) <;> omega))))

set_option maxRecDepth 100000 in
theorem numberKind_any (w : World) :
    Calls Tryz.prog 42 #[] w fun e w' => e = .returned (.agg #[.int .i64 2, .int .i64 19, .func (.func 60) #[] #[], .func (.func 60) #[] #[]]) ∧ Below w.heap.size w w' := by
  go_enter Tryz.func42, Tryz.ntmps42
  go_wp2
  refine bodyPost_ret (v := .agg #[.int .i64 2, .int .i64 19, .func (.func 60) #[] #[], .func (.func 60) #[] #[]]) ?_ rfl ⟨rfl, ?_⟩
  · (simp [results, Tryz.results42, go_sem, *]; done)
  repeat (first | (with_reducible exact Below.refl _ _) | ((with_reducible refine cSet3 ?_ ?_ _ _ _); (· ((try simp) <;> omega))) | (with_reducible refine Below.drew ?_) | ((with_reducible refine cAlloc ?_ ?_ _); (· ((try simp) <;> omega))) | ((with_reducible refine cOn (by assumption) ?_ ?_); (· ((try simp) <;> omega))))

set_option maxRecDepth 100000 in
theorem signKind_any (w : World) :
    Calls Tryz.prog 43 #[] w fun e w' => e = .returned (.agg #[.int .i64 4, .int .i64 1, .func (.func 61) #[] #[], .func (.func 62) #[] #[]]) ∧ Below w.heap.size w w' := by
  go_enter Tryz.func43, Tryz.ntmps43
  go_wp2
  refine bodyPost_ret (v := .agg #[.int .i64 4, .int .i64 1, .func (.func 61) #[] #[], .func (.func 62) #[] #[]]) ?_ rfl ⟨rfl, ?_⟩
  · (simp [results, Tryz.results43, go_sem, *]; done)
  repeat (first | (with_reducible exact Below.refl _ _) | ((with_reducible refine cSet3 ?_ ?_ _ _ _); (· ((try simp) <;> omega))) | (with_reducible refine Below.drew ?_) | ((with_reducible refine cAlloc ?_ ?_ _); (· ((try simp) <;> omega))) | ((with_reducible refine cOn (by assumption) ?_ ?_); (· ((try simp) <;> omega))))

set_option maxRecDepth 100000 in
set_option maxHeartbeats 800000 in
theorem kinds_any (w : World) :
    Calls Tryz.prog 26 #[] w fun e w' => e = .returned (.agg #[.int .i64 1, .int .i64 16, .func (.func 58) #[] #[], .func (.func 59) #[] #[], .int .i64 2, .int .i64 19, .func (.func 60) #[] #[], .func (.func 60) #[] #[], .int .i64 4, .int .i64 1, .func (.func 61) #[] #[], .func (.func 62) #[] #[]]) ∧ Below w.heap.size w w' := by
  go_enter Tryz.func26, Tryz.ntmps26
  go_wp2_with (first
    | (go_at_call 41; refine (wordKind_any _).mono ?_; rintro e w1 ⟨rfl, hb1⟩; have hc1 := (bcell hb1).1; have hf1 := (bcell hb1).2; have hy1 := hb1.size; (try simp at hy1); have hz1_0 : w.heap.size < w1.heap.size := (by omega))
    | (go_at_call 42; refine (numberKind_any _).mono ?_; rintro e w2 ⟨rfl, hb2⟩; have hc2 := (bcell hb2).1; have hf2 := (bcell hb2).2; have hy2 := hb2.size; (try simp at hy2); have hz2_0 : w.heap.size < w2.heap.size := (by omega))
    | (go_at_call 43; refine (signKind_any _).mono ?_; rintro e w3 ⟨rfl, hb3⟩; have hc3 := (bcell hb3).1; have hf3 := (bcell hb3).2; have hy3 := hb3.size; (try simp at hy3); have hz3_0 : w.heap.size < w3.heap.size := (by omega)))
  refine bodyPost_ret (v := .agg #[.int .i64 1, .int .i64 16, .func (.func 58) #[] #[], .func (.func 59) #[] #[], .int .i64 2, .int .i64 19, .func (.func 60) #[] #[], .func (.func 60) #[] #[], .int .i64 4, .int .i64 1, .func (.func 61) #[] #[], .func (.func 62) #[] #[]]) ?_ rfl ⟨rfl, ?_⟩
  · (simp [results, Tryz.results26, go_sem, *]; done)
  repeat (first | (with_reducible exact Below.refl _ _) | ((with_reducible refine cSet1 ?_ ?_ _ _); (· ((try simp) <;> omega))) | (with_reducible refine Below.drew ?_) | ((with_reducible refine cAlloc ?_ ?_ _); (· ((try simp) <;> omega))) | ((with_reducible refine cOn (by assumption) ?_ ?_); (· ((try simp) <;> omega))))

/-- How many octets there are up to the quote that ends it: of a text of so many octets, of which these are left. -/
def qN (n : Nat) (m : List UInt8) : Nat := match qscan m with
  | none => 0
  | some y => n - y.2.length
theorem qscan_free : ∀ m : List UInt8, (∀ k : Nat, m[k]? ≠ some 39) → qscan m = none
  | [], _ => rfl
  | c :: m, h => by
    rw [qscan_other (fun e => h 0 (by rw [e]; rfl)), qscan_free m fun k => by have := h (k + 1); simpa using this]
    rfl
theorem qscan_past : ∀ (o : Nat) (m : List UInt8), m[o]? = some 39 → (∀ k : Nat, k < o → m[k]? ≠ some 39) → ∀ n, qN n m = qN n (39 :: m.drop (o + 1))
  | o, [], h, _, n => by simp at h
  | 0, c :: m, h, _, n => by
    simp at h
    rw [h]
    rfl
  | o + 1, c :: m, h, hk, n => by
    have hc : c ≠ 39 := fun e => hk 0 (by omega) (by rw [e]; rfl)
    have ih := qscan_past o m (by simpa using h) (fun k hk' => by have := hk (k + 1) (by omega); simpa using this) n
    rw [List.drop_succ_cons, ← ih]
    unfold qN
    rw [qscan_other hc]
    cases qscan m <;> rfl
theorem qN_stop {n : Nat} {r : List UInt8} (h : r.head? ≠ some 39) : qN n (39 :: r) = n - r.length := by unfold qN; rw [qscan_end h]
theorem qN_on (n : Nat) (r : List UInt8) : qN n (39 :: 39 :: r) = qN n r := by
  unfold qN
  rw [qscan_two]
  cases qscan r <;> rfl
theorem rest_list (s : ByteArray) (n : Nat) : (s.extract n s.size).data.toList = s.data.toList.drop n := by
  have e : (s.extract n s.size).data.toList = (s.data.toList.drop n).take (s.size - n) := by
    simp [ByteArray.extract, ByteArray.data_append, ByteArray.copySlice]
  rw [e, List.take_of_length_le (by rw [List.length_drop, ← Lib.size_eq]; omega)]

set_option maxRecDepth 100000 in
set_option maxHeartbeats 1600000 in
theorem quoted_any (s : ByteArray) (w : World) (h1 : 1 ≤ s.size) (hs : s.size ≤ 100000) :
    Calls Tryz.prog 54 #[.string s] w fun e w' => e = .returned (.int .i64 (qN s.size (s.data.toList.drop 1))) ∧ Below w.heap.size w w' := by
  go_enter Tryz.func54, Tryz.ntmps54
  go_wp2
  go_loop [3, 4] (fun i _ => ∃ n : Nat, 1 ≤ n ∧ n ≤ s.size ∧ i = .int .i64 n ∧ Hid (qN s.size (s.data.toList.drop 1) = qN s.size (s.data.toList.drop n))) (fun i _ => s.size + 1 - (intOf i).toNat)
  case atStart => exact ⟨1, by omega, by omega, rfl, by show _ = _; rfl⟩
  case round =>
    obtain ⟨n, hn1, hn2, rfl, HN⟩ := hrel
    obtain ⟨i, hi⟩ : ∃ i, i = Lib.indexByte (s.data.toList.drop n) 39 := ⟨_, rfl⟩
    have HI := Lib.hid (fun (W : World) => (show Calls Tryz.prog 68 #[.string (s.extract n s.size), .int .u8 39] W fun e w' => e = .returned (.int .i64 i) ∧ w' = W by
      have := Tryz.strings_IndexByte (s.extract n s.size) 39 W
      rw [rest_list] at this
      rw [hi]
      exact this))
    have hge := indexByte_ge (s.data.toList.drop n) 39
    rw [← hi] at hge
    by_cases hneg : i < 0
    · have HR := Lib.hid (show qN s.size (s.data.toList.drop 1) = 0 by
        rw [HN.out]
        unfold qN
        rw [qscan_free _ (indexByte_none (by rw [← hi]; omega))])
      clear hi
      go_wp2_with (go_at_call 68; refine (HI.out _).mono ?_; rintro e w1 ⟨rfl, rfl⟩)
      go_ret
      exact ⟨ret_i64 (by rw [HR.out]; rfl), Below.refl _ _⟩
    · obtain ⟨o, rfl⟩ := Int.eq_ofNat_of_zero_le (show 0 ≤ i by omega)
      obtain ⟨g1, g2⟩ := indexByte_some hi.symm
      have ho : n + o < s.size := by
        have := (List.getElem?_eq_some_iff.1 g1).1
        rw [List.length_drop, ← Lib.size_eq] at this
        omega
      have HP := Lib.hid (HN.out.trans (qscan_past o _ g1 g2 s.size))
      clear hi g1 g2 hge hneg
      have hw1 : IntKind.i64.wrap ((o : Int) + 1) = (o : Int) + 1 := IntWalk.i64_in _ (by omega)
      have hw2 : IntKind.i64.wrap ((n : Int) + ((o : Int) + 1)) = (n : Int) + ((o : Int) + 1) := IntWalk.i64_in _ (by omega)
      have hdr : (s.data.toList.drop n).drop (o + 1) = s.data.toList.drop (n + (o + 1)) := by rw [List.drop_drop]
      rw [hdr] at HP
      clear hdr
      by_cases he : n + (o + 1) = s.size
      · have HR := Lib.hid (show qN s.size (s.data.toList.drop 1) = n + (o + 1) by
          rw [HP.out, List.drop_of_length_le (by rw [← Lib.size_eq]; omega), qN_stop (by simp)]
          simp
          omega)
        have he' : (n : Int) + ((o : Int) + 1) = (s.size : Int) := by omega
        go_wp2_with (go_at_call 68; refine (HI.out _).mono ?_; rintro e w1 ⟨rfl, rfl⟩)
        go_ret
        exact ⟨ret_i64 (by rw [HR.out]; omega), Below.refl _ _⟩
      · have he' : ¬ (n : Int) + ((o : Int) + 1) = (s.size : Int) := by omega
        have hlt : n + (o + 1) < s.size := by omega
        have hhd := get_at' hlt
        by_cases h39 : (s[n + (o + 1)].toNat : Int) = 39
        · have HR := Lib.hid (show qN s.size (s.data.toList.drop 1) = qN s.size (s.data.toList.drop (n + (o + 1) + 1)) by
            have h2 : n + (o + 1) < s.data.toList.length := by rw [← Lib.size_eq]; exact hlt
            have h3 : s.data.toList[n + (o + 1)] = 39 := UInt8.toNat_inj.1 (by show s[n + (o + 1)].toNat = 39; omega)
            rw [HP.out, List.drop_eq_getElem_cons h2, h3, qN_on])
          clear hhd
          go_wp2_with (go_at_call 68; refine (HI.out _).mono ?_; rintro e w1 ⟨rfl, rfl⟩)
          go_round
          case rel => exact ⟨n + (o + 1) + 1, by omega, by omega, by go_num, HR.out⟩
          case measure => simp [intOf]; omega
        · have HR := Lib.hid (show qN s.size (s.data.toList.drop 1) = n + (o + 1) by
            have h2 : n + (o + 1) < s.data.toList.length := by rw [← Lib.size_eq]; exact hlt
            have h3 : s.data.toList[n + (o + 1)] = s[n + (o + 1)] := rfl
            rw [HP.out, qN_stop, List.length_drop, ← Lib.size_eq]
            · omega
            · rw [List.drop_eq_getElem_cons h2, h3]
              simp
              intro e
              exact h39 (by rw [e]; rfl))
          have h39' : ((s[n + (o + 1)].toNat : Int) != 39) = true := by simpa using h39
          clear hhd
          go_wp2_with (go_at_call 68; refine (HI.out _).mono ?_; rintro e w1 ⟨rfl, rfl⟩)
          go_ret
          exact ⟨ret_i64 (by rw [HR.out]; omega), Below.refl _ _⟩

end Go.Proofs.YtnahejljelbbgaaGreatDoor
