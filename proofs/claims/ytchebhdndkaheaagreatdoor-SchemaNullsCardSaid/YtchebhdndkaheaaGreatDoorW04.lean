import Derived.Test.YtchebhdndkaheaaGreatDoorW03
import Derived.Laws.EntriesVeiled
import Derived.Test.YtchebhdndkaheaaGreatDoorW02
import Derived.Deep.DeepCutAuto
import Derived.Deep.LoopGhost
import Derived.WideMake

/- May one of a kind be; the kinds; what stands in quotes. -/
namespace Go.Proofs.YtchebhdndkaheaaGreatDoor
open Go.RowKit Go.Lib

set_option maxRecDepth 100000 in
set_option maxHeartbeats 800000 in
theorem kmay_0 (num : Int) (most : Nat) (f g : Nat) (p q : UInt8 → Bool) (hf : Cls f p) (hg : Cls g q) (s : ByteArray) (w : World) (hs : s.size ≤ 100000) (hm : most ≤ 100) (h0 : s.toList = []) :
    Calls Tryz.prog 113 #[.agg #[.int .i64 num, .int .i64 (most : Nat), .func (.func f) #[] #[], .func (.func g) #[] #[]], .string s] w fun e w' => e = .returned (.bool false) ∧ Below w.heap.size w w' := by
  have HT := Lib.hid (fun (W : World) => tog_any num most f g p q hf hg s W hs)
  clear hf hg
  have h0' : s.toList.isEmpty = true := by rw [h0]; rfl
  go_enter Tryz.func113, Tryz.ntmps113
  go_wp2_with (first
    | (go_at_call 145; refine (HT.out _).mono ?_; rintro e w1 ⟨rfl, hb1⟩; have hc1 := (bcell hb1).1; have hf1 := (bcell hb1).2; have hy1 := hb1.size; (try simp at hy1); have hz1_0 : w.heap.size < w1.heap.size := (by omega)))
  all_goals
    go_ret
    refine ⟨rfl, ?_⟩
    repeat (first | (with_reducible exact Below.refl _ _) | ((with_reducible refine cSet3 ?_ ?_ _ _ _); (· ((try simp) <;> omega))) | (with_reducible refine Below.drew ?_) | ((with_reducible refine cAlloc ?_ ?_ _); (· ((try simp) <;> omega))) | ((with_reducible refine cOn (by assumption) ?_ ?_); (· ((try simp) <;> omega))))

set_option maxRecDepth 100000 in
set_option maxHeartbeats 800000 in
theorem kmay_1 (num : Int) (most : Nat) (f g : Nat) (p q : UInt8 → Bool) (hf : Cls f p) (hg : Cls g q) (s : ByteArray) (w : World) (hs : s.size ≤ 100000) (hm : most ≤ 100) (hl : 0 < s.size) (h1 : ¬ s.size ≤ most) :
    Calls Tryz.prog 113 #[.agg #[.int .i64 num, .int .i64 (most : Nat), .func (.func f) #[] #[], .func (.func g) #[] #[]], .string s] w fun e w' => e = .returned (.bool false) ∧ Below w.heap.size w w' := by
  have HT := Lib.hid (fun (W : World) => tog_any num most f g p q hf hg s W hs)
  clear hf hg
  have h0' : s.toList.isEmpty = false := nonempty_of' hl
  have h0 : ¬ s.toList = [] := fun h => by rw [h] at h0'; cases h0'
  have h2 : ¬ (s.size : Int) ≤ (most : Int) := by omega
  go_enter Tryz.func113, Tryz.ntmps113
  go_wp2_with (first
    | (go_at_call 145; refine (HT.out _).mono ?_; rintro e w1 ⟨rfl, hb1⟩; have hc1 := (bcell hb1).1; have hf1 := (bcell hb1).2; have hy1 := hb1.size; (try simp at hy1); have hz1_0 : w.heap.size < w1.heap.size := (by omega)))
  all_goals
    go_ret
    refine ⟨rfl, ?_⟩
    repeat (first | (with_reducible exact Below.refl _ _) | ((with_reducible refine cSet3 ?_ ?_ _ _ _); (· ((try simp) <;> omega))) | (with_reducible refine Below.drew ?_) | ((with_reducible refine cAlloc ?_ ?_ _); (· ((try simp) <;> omega))) | ((with_reducible refine cOn (by assumption) ?_ ?_); (· ((try simp) <;> omega))))

set_option maxRecDepth 100000 in
set_option maxHeartbeats 800000 in
theorem kmay_2 (num : Int) (most : Nat) (f g : Nat) (p q : UInt8 → Bool) (hf : Cls f p) (hg : Cls g q) (s : ByteArray) (w : World) (hs : s.size ≤ 100000) (hm : most ≤ 100) (hl : 0 < s.size) (h1 : s.size ≤ most) (n : Nat) (hn : tog p q s.data.toList = n) :
    Calls Tryz.prog 113 #[.agg #[.int .i64 num, .int .i64 (most : Nat), .func (.func f) #[] #[], .func (.func g) #[] #[]], .string s] w fun e w' => e = .returned (.bool (decide (n = s.size))) ∧ Below w.heap.size w w' := by
  have HT := Lib.hid (fun (W : World) => tog_any num most f g p q hf hg s W hs)
  clear hf hg
  have h0' : s.toList.isEmpty = false := nonempty_of' hl
  have h0 : ¬ s.toList = [] := fun h => by rw [h] at h0'; cases h0'
  rw [hn] at HT
  clear hn
  have h2 : (s.size : Int) ≤ (most : Int) := by omega
  go_enter Tryz.func113, Tryz.ntmps113
  go_wp2_with (first
    | (go_at_call 145; refine (HT.out _).mono ?_; rintro e w1 ⟨rfl, hb1⟩; have hc1 := (bcell hb1).1; have hf1 := (bcell hb1).2; have hy1 := hb1.size; (try simp at hy1); have hz1_0 : w.heap.size < w1.heap.size := (by omega)))
  all_goals
    go_ret
    refine ⟨ret_bool (by rw [Bool.eq_iff_iff]; simp; omega), ?_⟩
    repeat (first | (with_reducible exact Below.refl _ _) | ((with_reducible refine cSet3 ?_ ?_ _ _ _); (· ((try simp) <;> omega))) | (with_reducible refine Below.drew ?_) | ((with_reducible refine cAlloc ?_ ?_ _); (· ((try simp) <;> omega))) | ((with_reducible refine cOn (by assumption) ?_ ?_); (· ((try simp) <;> omega))))

theorem kmay_any (num : Int) (most : Nat) (f g : Nat) (p q : UInt8 → Bool) (hf : Cls f p) (hg : Cls g q) (s : ByteArray) (w : World) (hs : s.size ≤ 100000) (hm : most ≤ 100) :
    Calls Tryz.prog 113 #[.agg #[.int .i64 num, .int .i64 (most : Nat), .func (.func f) #[] #[], .func (.func g) #[] #[]], .string s] w fun e w' => e = .returned (.bool (kmay p q most s.data.toList)) ∧ Below w.heap.size w w' := by
  by_cases hl : 0 < s.size
  · have he : s.data.toList.isEmpty = false := by rw [← toList_data]; exact nonempty_of' hl
    by_cases h1 : s.size ≤ most
    · have e : kmay p q most s.data.toList = decide (tog p q s.data.toList = s.size) := by
        unfold kmay
        rw [he, ← Lib.size_eq, decide_eq_true h1]
        rfl
      rw [e]
      exact kmay_2 num most f g p q hf hg s w hs hm hl h1 _ rfl
    · have e : kmay p q most s.data.toList = false := by
        unfold kmay
        rw [← Lib.size_eq, decide_eq_false h1]
        simp
      rw [e]
      exact kmay_1 num most f g p q hf hg s w hs hm hl h1
  · have e : s.data.toList = [] := List.length_eq_zero_iff.1 (by rw [← Lib.size_eq]; omega)
    rw [e]
    exact kmay_0 num most f g p q hf hg s w hs hm (by rw [toList_data]; exact e)

set_option maxRecDepth 100000 in
theorem wordKind_any (w : World) :
    Calls Tryz.prog 112 #[] w fun e w' => e = .returned (.agg #[.int .i64 1, .int .i64 16, .func (.func 147) #[] #[], .func (.func 148) #[] #[]]) ∧ Below w.heap.size w w' := by
  go_enter Tryz.func112, Tryz.ntmps112
  go_wp2
  refine bodyPost_ret (v := .agg #[.int .i64 1, .int .i64 16, .func (.func 147) #[] #[], .func (.func 148) #[] #[]]) ?_ rfl ⟨rfl, ?_⟩
  · (simp [results, Tryz.results112, go_sem, *]; done)
  repeat (first | (with_reducible exact Below.refl _ _) | ((with_reducible refine cSet3 ?_ ?_ _ _ _); (· ((try simp) <;> omega))) | (with_reducible refine Below.drew ?_) | ((with_reducible refine cAlloc ?_ ?_ _); (· ((try simp) <;> omega))) | ((with_reducible refine cOn (by assumption) ?_ ?_); (· ((try simp) <;> omega))))

set_option maxRecDepth 100000 in
theorem numberKind_any (w : World) :
    Calls Tryz.prog 169 #[] w fun e w' => e = .returned (.agg #[.int .i64 2, .int .i64 19, .func (.func 171) #[] #[], .func (.func 171) #[] #[]]) ∧ Below w.heap.size w w' := by
  go_enter Tryz.func169, Tryz.ntmps169
  go_wp2
  refine bodyPost_ret (v := .agg #[.int .i64 2, .int .i64 19, .func (.func 171) #[] #[], .func (.func 171) #[] #[]]) ?_ rfl ⟨rfl, ?_⟩
  · (simp [results, Tryz.results169, go_sem, *]; done)
  repeat (first | (with_reducible exact Below.refl _ _) | ((with_reducible refine cSet3 ?_ ?_ _ _ _); (· ((try simp) <;> omega))) | (with_reducible refine Below.drew ?_) | ((with_reducible refine cAlloc ?_ ?_ _); (· ((try simp) <;> omega))) | ((with_reducible refine cOn (by assumption) ?_ ?_); (· ((try simp) <;> omega))))

set_option maxRecDepth 100000 in
theorem signKind_any (w : World) :
    Calls Tryz.prog 170 #[] w fun e w' => e = .returned (.agg #[.int .i64 4, .int .i64 1, .func (.func 189) #[] #[], .func (.func 190) #[] #[]]) ∧ Below w.heap.size w w' := by
  go_enter Tryz.func170, Tryz.ntmps170
  go_wp2
  refine bodyPost_ret (v := .agg #[.int .i64 4, .int .i64 1, .func (.func 189) #[] #[], .func (.func 190) #[] #[]]) ?_ rfl ⟨rfl, ?_⟩
  · (simp [results, Tryz.results170, go_sem, *]; done)
  repeat (first | (with_reducible exact Below.refl _ _) | ((with_reducible refine cSet3 ?_ ?_ _ _ _); (· ((try simp) <;> omega))) | (with_reducible refine Below.drew ?_) | ((with_reducible refine cAlloc ?_ ?_ _); (· ((try simp) <;> omega))) | ((with_reducible refine cOn (by assumption) ?_ ?_); (· ((try simp) <;> omega))))

set_option maxRecDepth 100000 in
set_option maxHeartbeats 800000 in
theorem kinds_any (w : World) :
    Calls Tryz.prog 144 #[] w fun e w' => e = .returned (.agg #[.int .i64 1, .int .i64 16, .func (.func 147) #[] #[], .func (.func 148) #[] #[], .int .i64 2, .int .i64 19, .func (.func 171) #[] #[], .func (.func 171) #[] #[], .int .i64 4, .int .i64 1, .func (.func 189) #[] #[], .func (.func 190) #[] #[]]) ∧ Below w.heap.size w w' := by
  go_enter Tryz.func144, Tryz.ntmps144
  go_wp2_with (first
    | (go_at_call 112; refine (wordKind_any _).mono ?_; rintro e w1 ⟨rfl, hb1⟩; have hc1 := (bcell hb1).1; have hf1 := (bcell hb1).2; have hy1 := hb1.size; (try simp at hy1); have hz1_0 : w.heap.size < w1.heap.size := (by omega))
    | (go_at_call 169; refine (numberKind_any _).mono ?_; rintro e w2 ⟨rfl, hb2⟩; have hc2 := (bcell hb2).1; have hf2 := (bcell hb2).2; have hy2 := hb2.size; (try simp at hy2); have hz2_0 : w.heap.size < w2.heap.size := (by omega))
    | (go_at_call 170; refine (signKind_any _).mono ?_; rintro e w3 ⟨rfl, hb3⟩; have hc3 := (bcell hb3).1; have hf3 := (bcell hb3).2; have hy3 := hb3.size; (try simp at hy3); have hz3_0 : w.heap.size < w3.heap.size := (by omega)))
  refine bodyPost_ret (v := .agg #[.int .i64 1, .int .i64 16, .func (.func 147) #[] #[], .func (.func 148) #[] #[], .int .i64 2, .int .i64 19, .func (.func 171) #[] #[], .func (.func 171) #[] #[], .int .i64 4, .int .i64 1, .func (.func 189) #[] #[], .func (.func 190) #[] #[]]) ?_ rfl ⟨rfl, ?_⟩
  · (simp [results, Tryz.results144, go_sem, *]; done)
  repeat (first | (with_reducible exact Below.refl _ _) | ((with_reducible refine cSet1 ?_ ?_ _ _); (· ((try simp) <;> omega))) | (with_reducible refine Below.drew ?_) | ((with_reducible refine cAlloc ?_ ?_ _); (· ((try simp) <;> omega))) | ((with_reducible refine cOn (by assumption) ?_ ?_); (· ((try simp) <;> omega))))

/-- How many octets there are up to the quote that ends it: of a text of so many octets, of which these are left. -/
def qN (n : Nat) (m : List UInt8) : Nat := match qscan m with
  | none => 0
  | some y => n - y.2.length
theorem qscan_free : ∀ m : List UInt8, (∀ k : Nat, m[k]? ≠ some 39) → qscan m = none
  | [], _ => rfl
  | c :: m, h => by
    rw [qscan_other (fun e => h 0 (by rw [e]; rfl)), qscan_free m fun k => by have := h (k + 1); simpa using this]
    rfl
theorem qscan_past : ∀ (o : Nat) (m : List UInt8), m[o]? = some 39 → (∀ k : Nat, k < o → m[k]? ≠ some 39) → ∀ n, qN n m = qN n (39 :: m.drop (o + 1))
  | o, [], h, _, n => by simp at h
  | 0, c :: m, h, _, n => by
    simp at h
    rw [h]
    rfl
  | o + 1, c :: m, h, hk, n => by
    have hc : c ≠ 39 := fun e => hk 0 (by omega) (by rw [e]; rfl)
    have ih := qscan_past o m (by simpa using h) (fun k hk' => by have := hk (k + 1) (by omega); simpa using this) n
    rw [List.drop_succ_cons, ← ih]
    unfold qN
    rw [qscan_other hc]
    cases qscan m <;> rfl
theorem qN_stop {n : Nat} {r : List UInt8} (h : r.head? ≠ some 39) : qN n (39 :: r) = n - r.length := by unfold qN; rw [qscan_end h]
theorem qN_on (n : Nat) (r : List UInt8) : qN n (39 :: 39 :: r) = qN n r := by
  unfold qN
  rw [qscan_two]
  cases qscan r <;> rfl
theorem rest_list (s : ByteArray) (n : Nat) : (s.extract n s.size).data.toList = s.data.toList.drop n := by
  have e : (s.extract n s.size).data.toList = (s.data.toList.drop n).take (s.size - n) := by
    simp [ByteArray.extract, ByteArray.data_append, ByteArray.copySlice]
  rw [e, List.take_of_length_le (by rw [List.length_drop, ← Lib.size_eq]; omega)]

set_option maxRecDepth 100000 in
set_option maxHeartbeats 1600000 in
theorem quoted_any (s : ByteArray) (w : World) (h1 : 1 ≤ s.size) (hs : s.size ≤ 100000) :
    Calls Tryz.prog 167 #[.string s] w fun e w' => e = .returned (.int .i64 (qN s.size (s.data.toList.drop 1))) ∧ Below w.heap.size w w' := by
  go_enter Tryz.func167, Tryz.ntmps167
  go_wp2
  go_loop [3, 4] (fun i _ => ∃ n : Nat, 1 ≤ n ∧ n ≤ s.size ∧ i = .int .i64 n ∧ Hid (qN s.size (s.data.toList.drop 1) = qN s.size (s.data.toList.drop n))) (fun i _ => s.size + 1 - (intOf i).toNat)
  case atStart => exact ⟨1, by omega, by omega, rfl, by show _ = _; rfl⟩
  case round =>
    obtain ⟨n, hn1, hn2, rfl, HN⟩ := hrel
    obtain ⟨i, hi⟩ : ∃ i, i = Lib.indexByte (s.data.toList.drop n) 39 := ⟨_, rfl⟩
    have HI := Lib.hid (fun (W : World) => (show Calls Tryz.prog 187 #[.string (s.extract n s.size), .int .u8 39] W fun e w' => e = .returned (.int .i64 i) ∧ w' = W by
      have := Tryz.strings_IndexByte (s.extract n s.size) 39 W
      rw [rest_list] at this
      rw [hi]
      exact this))
    have hge := indexByte_ge (s.data.toList.drop n) 39
    rw [← hi] at hge
    by_cases hneg : i < 0
    · have HR := Lib.hid (show qN s.size (s.data.toList.drop 1) = 0 by
        rw [HN.out]
        unfold qN
        rw [qscan_free _ (indexByte_none (by rw [← hi]; omega))])
      clear hi
      go_wp2_with (go_at_call 187; refine (HI.out _).mono ?_; rintro e w1 ⟨rfl, rfl⟩)
      go_ret
      exact ⟨ret_i64 (by rw [HR.out]; rfl), Below.refl _ _⟩
    · obtain ⟨o, rfl⟩ := Int.eq_ofNat_of_zero_le (show 0 ≤ i by omega)
      obtain ⟨g1, g2⟩ := indexByte_some hi.symm
      have ho : n + o < s.size := by
        have := (List.getElem?_eq_some_iff.1 g1).1
        rw [List.length_drop, ← Lib.size_eq] at this
        omega
      have HP := Lib.hid (HN.out.trans (qscan_past o _ g1 g2 s.size))
      clear hi g1 g2 hge hneg
      have hw1 : IntKind.i64.wrap ((o : Int) + 1) = (o : Int) + 1 := IntWalk.i64_in _ (by omega)
      have hw2 : IntKind.i64.wrap ((n : Int) + ((o : Int) + 1)) = (n : Int) + ((o : Int) + 1) := IntWalk.i64_in _ (by omega)
      have hdr : (s.data.toList.drop n).drop (o + 1) = s.data.toList.drop (n + (o + 1)) := by rw [List.drop_drop]
      rw [hdr] at HP
      clear hdr
      by_cases he : n + (o + 1) = s.size
      · have HR := Lib.hid (show qN s.size (s.data.toList.drop 1) = n + (o + 1) by
          rw [HP.out, List.drop_of_length_le (by rw [← Lib.size_eq]; omega), qN_stop (by simp)]
          simp
          omega)
        have he' : (n : Int) + ((o : Int) + 1) = (s.size : Int) := by omega
        go_wp2_with (go_at_call 187; refine (HI.out _).mono ?_; rintro e w1 ⟨rfl, rfl⟩)
        go_ret
        exact ⟨ret_i64 (by rw [HR.out]; omega), Below.refl _ _⟩
      · have he' : ¬ (n : Int) + ((o : Int) + 1) = (s.size : Int) := by omega
        have hlt : n + (o + 1) < s.size := by omega
        have hhd := get_at' hlt
        by_cases h39 : (s[n + (o + 1)].toNat : Int) = 39
        · have HR := Lib.hid (show qN s.size (s.data.toList.drop 1) = qN s.size (s.data.toList.drop (n + (o + 1) + 1)) by
            have h2 : n + (o + 1) < s.data.toList.length := by rw [← Lib.size_eq]; exact hlt
            have h3 : s.data.toList[n + (o + 1)] = 39 := UInt8.toNat_inj.1 (by show s[n + (o + 1)].toNat = 39; omega)
            rw [HP.out, List.drop_eq_getElem_cons h2, h3, qN_on])
          clear hhd
          go_wp2_with (go_at_call 187; refine (HI.out _).mono ?_; rintro e w1 ⟨rfl, rfl⟩)
          go_round
          case rel => exact ⟨n + (o + 1) + 1, by omega, by omega, by go_num, HR.out⟩
          case measure => simp [intOf]; omega
        · have HR := Lib.hid (show qN s.size (s.data.toList.drop 1) = n + (o + 1) by
            have h2 : n + (o + 1) < s.data.toList.length := by rw [← Lib.size_eq]; exact hlt
            have h3 : s.data.toList[n + (o + 1)] = s[n + (o + 1)] := rfl
            rw [HP.out, qN_stop, List.length_drop, ← Lib.size_eq]
            · omega
            · rw [List.drop_eq_getElem_cons h2, h3]
              simp
              intro e
              exact h39 (by rw [e]; rfl))
          have h39' : ((s[n + (o + 1)].toNat : Int) != 39) = true := by simpa using h39
          clear hhd
          go_wp2_with (go_at_call 187; refine (HI.out _).mono ?_; rintro e w1 ⟨rfl, rfl⟩)
          go_ret
          exact ⟨ret_i64 (by rw [HR.out]; omega), Below.refl _ _⟩

end Go.Proofs.YtchebhdndkaheaaGreatDoor

/- Words of the language; which node of an expression is formed. -/
namespace Go.Proofs.YtchebhdndkaheaaGreatDoor
open Go.RowKit Go.Lib

/-- The words of the language. -/
def resW : List (List UInt8) := [[65, 78, 68], [79, 82], [78, 79, 84], [73, 83], [78, 85, 76, 76], [84, 82, 85, 69], [70, 65, 76, 83, 69], [67, 82, 69, 65, 84, 69], [84, 65, 66, 76, 69], [73, 78, 84], [84, 69, 88, 84], [66, 79, 79, 76], [75, 69, 89], [85, 78, 73, 81, 85, 69], [82, 69, 70, 69, 82, 69, 78, 67, 69, 83], [67, 72, 69, 67, 75], [68, 82, 79, 80], [73, 78, 83, 69, 82, 84], [73, 78, 84, 79], [86, 65, 76, 85, 69, 83], [85, 80, 68, 65, 84, 69], [83, 69, 84], [68, 69, 76, 69, 84, 69], [83, 69, 76, 69, 67, 84], [70, 82, 79, 77], [87, 72, 69, 82, 69], [71, 82, 65, 78, 84], [82, 69, 86, 79, 75, 69], [82, 69, 65, 68], [87, 82, 73, 84, 69], [79, 78], [84, 79], [77, 73, 71, 82, 65, 84, 69], [67, 79, 80, 89], [74, 79, 73, 78], [71, 82, 79, 85, 80], [66, 89], [83, 85, 77]]
def G1 : List (List UInt8) := [[65, 78, 68], [79, 82], [78, 79, 84], [73, 83], [78, 85, 76, 76], [84, 82, 85, 69], [70, 65, 76, 83, 69]]
def G2 : List (List UInt8) := [[67, 82, 69, 65, 84, 69], [84, 65, 66, 76, 69], [73, 78, 84], [84, 69, 88, 84], [66, 79, 79, 76], [75, 69, 89], [85, 78, 73, 81, 85, 69], [82, 69, 70, 69, 82, 69, 78, 67, 69, 83], [67, 72, 69, 67, 75], [68, 82, 79, 80]]
def G3 : List (List UInt8) := [[73, 78, 83, 69, 82, 84], [73, 78, 84, 79], [86, 65, 76, 85, 69, 83], [85, 80, 68, 65, 84, 69], [83, 69, 84], [68, 69, 76, 69, 84, 69], [83, 69, 76, 69, 67, 84], [70, 82, 79, 77], [87, 72, 69, 82, 69]]
def G4 : List (List UInt8) := [[71, 82, 65, 78, 84], [82, 69, 86, 79, 75, 69], [82, 69, 65, 68], [87, 82, 73, 84, 69], [79, 78], [84, 79]]
def G5 : List (List UInt8) := [[77, 73, 71, 82, 65, 84, 69], [67, 79, 80, 89], [74, 79, 73, 78], [71, 82, 79, 85, 80], [66, 89], [83, 85, 77]]
def resB (s : ByteArray) : Bool := resW.contains s.toList
def grpB (g : List (List UInt8)) (s : ByteArray) : Bool := g.contains s.toList
theorem grp_is {g : List (List UInt8)} {s : ByteArray} {w : List UInt8} (hw : g.contains w = true) (h : (s.toList == w) = true) : Hid ((s.toList == w) = grpB g s) := by
  show (s.toList == w) = grpB g s
  rw [h]
  unfold grpB
  rw [eq_of_beq h, hw]
theorem grp_last {g : List (List UInt8)} {s : ByteArray} {w : List UInt8} (g' : List (List UInt8)) (hg : g = g' ++ [w]) (h : ∀ w ∈ g', (s.toList == w) = false) : Hid ((s.toList == w) = grpB g s) := by
  show (s.toList == w) = grpB g s
  unfold grpB
  rw [hg, List.contains_eq_any_beq, List.any_append]
  have : g'.any (fun x => s.toList == x) = false := by
    rw [List.any_eq_false]
    intro x hx
    rw [h x hx]; decide
  rw [this]
  simp
theorem resB_grp (s : ByteArray) : resB s = (grpB G1 s || (grpB G2 s || (grpB G3 s || (grpB G4 s || grpB G5 s)))) := by
  have e : resW = G1 ++ (G2 ++ (G3 ++ (G4 ++ G5))) := rfl
  unfold resB grpB
  rw [e]
  simp only [List.contains_eq_any_beq, List.any_append]
theorem res_t1 {s : ByteArray} (h1 : Hid (true = grpB G1 s)) : true = resB s := by rw [resB_grp, ← h1.out]; rfl
theorem res_t2 {s : ByteArray} (h1 : Hid (false = grpB G1 s)) (h2 : Hid (true = grpB G2 s)) : true = resB s := by rw [resB_grp, ← h1.out, ← h2.out]; rfl
theorem res_t3 {s : ByteArray} (h1 : Hid (false = grpB G1 s)) (h2 : Hid (false = grpB G2 s)) (h3 : Hid (true = grpB G3 s)) : true = resB s := by rw [resB_grp, ← h1.out, ← h2.out, ← h3.out]; rfl
theorem res_t4 {s : ByteArray} (h1 : Hid (false = grpB G1 s)) (h2 : Hid (false = grpB G2 s)) (h3 : Hid (false = grpB G3 s)) (h4 : Hid (true = grpB G4 s)) : true = resB s := by rw [resB_grp, ← h1.out, ← h2.out, ← h3.out, ← h4.out]; rfl
theorem res_t5 {s : ByteArray} (h1 : Hid (false = grpB G1 s)) (h2 : Hid (false = grpB G2 s)) (h3 : Hid (false = grpB G3 s)) (h4 : Hid (false = grpB G4 s)) (h5 : Hid (true = grpB G5 s)) : true = resB s := by rw [resB_grp, ← h1.out, ← h2.out, ← h3.out, ← h4.out, ← h5.out]; rfl
theorem res_f {s : ByteArray} (h1 : Hid (false = grpB G1 s)) (h2 : Hid (false = grpB G2 s)) (h3 : Hid (false = grpB G3 s)) (h4 : Hid (false = grpB G4 s)) (h5 : Hid (false = grpB G5 s)) : false = resB s := by rw [resB_grp, ← h1.out, ← h2.out, ← h3.out, ← h4.out, ← h5.out]; rfl

set_option maxRecDepth 100000 in
set_option maxHeartbeats 4000000 in
theorem reserved_any (s : ByteArray) (w : World) :
    Calls Tryz.prog 88 #[.string s] w fun e w' => e = .returned (.bool (resB s)) ∧ Below w.heap.size w w' := by
  go_enter Tryz.func88, Tryz.ntmps88
  go_upto_if 4 with (fail)
  go_cut [4] (fun v wr => w = wr ∧ ∃ b, v = .bool b ∧ Hid (b = grpB G1 s))
  case first =>
    go_wp2_with (fail)
    all_goals
      go_meet
      first
        | exact ⟨rfl, _, rfl, grp_is (w := [65, 78, 68]) (by decide) (by assumption)⟩
        | exact ⟨rfl, _, rfl, grp_is (w := [79, 82]) (by decide) (by assumption)⟩
        | exact ⟨rfl, _, rfl, grp_is (w := [78, 79, 84]) (by decide) (by assumption)⟩
        | exact ⟨rfl, _, rfl, grp_is (w := [73, 83]) (by decide) (by assumption)⟩
        | exact ⟨rfl, _, rfl, grp_is (w := [78, 85, 76, 76]) (by decide) (by assumption)⟩
        | exact ⟨rfl, _, rfl, grp_is (w := [84, 82, 85, 69]) (by decide) (by assumption)⟩
        | (refine ⟨rfl, _, rfl, grp_last [[65, 78, 68], [79, 82], [78, 79, 84], [73, 83], [78, 85, 76, 76], [84, 82, 85, 69]] rfl fun x hx => ?_⟩
           simp only [List.mem_cons, List.not_mem_nil, or_false] at hx
           rcases hx with rfl | rfl | rfl | rfl | rfl | rfl <;> assumption)
  obtain ⟨rfl, b, rfl, h1⟩ := hcut
  cases b with
  | true =>
    go_wp2_with (fail)
    go_ret
    exact ⟨ret_bool (res_t1 h1), Below.refl _ _⟩
  | false =>
  go_upto_if 12 with (fail)
  go_cut [12] (fun v wr => w = wr ∧ ∃ b, v = .bool b ∧ Hid (b = grpB G2 s))
  case first =>
    go_wp2_with (fail)
    all_goals
      go_meet
      first
        | exact ⟨rfl, _, rfl, grp_is (w := [67, 82, 69, 65, 84, 69]) (by decide) (by assumption)⟩
        | exact ⟨rfl, _, rfl, grp_is (w := [84, 65, 66, 76, 69]) (by decide) (by assumption)⟩
        | exact ⟨rfl, _, rfl, grp_is (w := [73, 78, 84]) (by decide) (by assumption)⟩
        | exact ⟨rfl, _, rfl, grp_is (w := [84, 69, 88, 84]) (by decide) (by assumption)⟩
        | exact ⟨rfl, _, rfl, grp_is (w := [66, 79, 79, 76]) (by decide) (by assumption)⟩
        | exact ⟨rfl, _, rfl, grp_is (w := [75, 69, 89]) (by decide) (by assumption)⟩
        | exact ⟨rfl, _, rfl, grp_is (w := [85, 78, 73, 81, 85, 69]) (by decide) (by assumption)⟩
        | exact ⟨rfl, _, rfl, grp_is (w := [82, 69, 70, 69, 82, 69, 78, 67, 69, 83]) (by decide) (by assumption)⟩
        | exact ⟨rfl, _, rfl, grp_is (w := [67, 72, 69, 67, 75]) (by decide) (by assumption)⟩
        | (refine ⟨rfl, _, rfl, grp_last [[67, 82, 69, 65, 84, 69], [84, 65, 66, 76, 69], [73, 78, 84], [84, 69, 88, 84], [66, 79, 79, 76], [75, 69, 89], [85, 78, 73, 81, 85, 69], [82, 69, 70, 69, 82, 69, 78, 67, 69, 83], [67, 72, 69, 67, 75]] rfl fun x hx => ?_⟩
           simp only [List.mem_cons, List.not_mem_nil, or_false] at hx
           rcases hx with rfl | rfl | rfl | rfl | rfl | rfl | rfl | rfl | rfl <;> assumption)
  obtain ⟨rfl, b, rfl, h2⟩ := hcut
  cases b with
  | true =>
    go_wp2_with (fail)
    go_ret
    exact ⟨ret_bool (res_t2 h1 h2), Below.refl _ _⟩
  | false =>
  go_upto_if 23 with (fail)
  go_cut [23] (fun v wr => w = wr ∧ ∃ b, v = .bool b ∧ Hid (b = grpB G3 s))
  case first =>
    go_wp2_with (fail)
    all_goals
      go_meet
      first
        | exact ⟨rfl, _, rfl, grp_is (w := [73, 78, 83, 69, 82, 84]) (by decide) (by assumption)⟩
        | exact ⟨rfl, _, rfl, grp_is (w := [73, 78, 84, 79]) (by decide) (by assumption)⟩
        | exact ⟨rfl, _, rfl, grp_is (w := [86, 65, 76, 85, 69, 83]) (by decide) (by assumption)⟩
        | exact ⟨rfl, _, rfl, grp_is (w := [85, 80, 68, 65, 84, 69]) (by decide) (by assumption)⟩
        | exact ⟨rfl, _, rfl, grp_is (w := [83, 69, 84]) (by decide) (by assumption)⟩
        | exact ⟨rfl, _, rfl, grp_is (w := [68, 69, 76, 69, 84, 69]) (by decide) (by assumption)⟩
        | exact ⟨rfl, _, rfl, grp_is (w := [83, 69, 76, 69, 67, 84]) (by decide) (by assumption)⟩
        | exact ⟨rfl, _, rfl, grp_is (w := [70, 82, 79, 77]) (by decide) (by assumption)⟩
        | (refine ⟨rfl, _, rfl, grp_last [[73, 78, 83, 69, 82, 84], [73, 78, 84, 79], [86, 65, 76, 85, 69, 83], [85, 80, 68, 65, 84, 69], [83, 69, 84], [68, 69, 76, 69, 84, 69], [83, 69, 76, 69, 67, 84], [70, 82, 79, 77]] rfl fun x hx => ?_⟩
           simp only [List.mem_cons, List.not_mem_nil, or_false] at hx
           rcases hx with rfl | rfl | rfl | rfl | rfl | rfl | rfl | rfl <;> assumption)
  obtain ⟨rfl, b, rfl, h3⟩ := hcut
  cases b with
  | true =>
    go_wp2_with (fail)
    go_ret
    exact ⟨ret_bool (res_t3 h1 h2 h3), Below.refl _ _⟩
  | false =>
  go_upto_if 33 with (fail)
  go_cut [33] (fun v wr => w = wr ∧ ∃ b, v = .bool b ∧ Hid (b = grpB G4 s))
  case first =>
    go_wp2_with (fail)
    all_goals
      go_meet
      first
        | exact ⟨rfl, _, rfl, grp_is (w := [71, 82, 65, 78, 84]) (by decide) (by assumption)⟩
        | exact ⟨rfl, _, rfl, grp_is (w := [82, 69, 86, 79, 75, 69]) (by decide) (by assumption)⟩
        | exact ⟨rfl, _, rfl, grp_is (w := [82, 69, 65, 68]) (by decide) (by assumption)⟩
        | exact ⟨rfl, _, rfl, grp_is (w := [87, 82, 73, 84, 69]) (by decide) (by assumption)⟩
        | exact ⟨rfl, _, rfl, grp_is (w := [79, 78]) (by decide) (by assumption)⟩
        | (refine ⟨rfl, _, rfl, grp_last [[71, 82, 65, 78, 84], [82, 69, 86, 79, 75, 69], [82, 69, 65, 68], [87, 82, 73, 84, 69], [79, 78]] rfl fun x hx => ?_⟩
           simp only [List.mem_cons, List.not_mem_nil, or_false] at hx
           rcases hx with rfl | rfl | rfl | rfl | rfl <;> assumption)
  obtain ⟨rfl, b, rfl, h4⟩ := hcut
  cases b with
  | true =>
    go_wp2_with (fail)
    go_ret
    exact ⟨ret_bool (res_t4 h1 h2 h3 h4), Below.refl _ _⟩
  | false =>
  go_upto_if 40 with (fail)
  go_cut [40] (fun v wr => w = wr ∧ ∃ b, v = .bool b ∧ Hid (b = grpB G5 s))
  case first =>
    go_wp2_with (fail)
    all_goals
      go_meet
      first
        | exact ⟨rfl, _, rfl, grp_is (w := [77, 73, 71, 82, 65, 84, 69]) (by decide) (by assumption)⟩
        | exact ⟨rfl, _, rfl, grp_is (w := [67, 79, 80, 89]) (by decide) (by assumption)⟩
        | exact ⟨rfl, _, rfl, grp_is (w := [74, 79, 73, 78]) (by decide) (by assumption)⟩
        | exact ⟨rfl, _, rfl, grp_is (w := [71, 82, 79, 85, 80]) (by decide) (by assumption)⟩
        | exact ⟨rfl, _, rfl, grp_is (w := [66, 89]) (by decide) (by assumption)⟩
        | (refine ⟨rfl, _, rfl, grp_last [[77, 73, 71, 82, 65, 84, 69], [67, 79, 80, 89], [74, 79, 73, 78], [71, 82, 79, 85, 80], [66, 89]] rfl fun x hx => ?_⟩
           simp only [List.mem_cons, List.not_mem_nil, or_false] at hx
           rcases hx with rfl | rfl | rfl | rfl | rfl <;> assumption)
  obtain ⟨rfl, b, rfl, h5⟩ := hcut
  cases b with
  | true =>
    go_wp2_with (fail)
    go_ret
    exact ⟨ret_bool (res_t5 h1 h2 h3 h4 h5), Below.refl _ _⟩
  | false =>
    go_wp2_with (fail)
    go_ret
    exact ⟨ret_bool (res_f h1 h2 h3 h4 h5), Below.refl _ _⟩

set_option maxRecDepth 100000 in
set_option maxHeartbeats 1600000 in
theorem name_any (s : ByteArray) (w : World) (hs : s.size ≤ 100000) :
    Calls Tryz.prog 87 #[.string s] w fun e w' => e = .returned (.bool (kmay letB parB 16 s.data.toList)) ∧ Below w.heap.size w w' := by
  go_enter Tryz.func87, Tryz.ntmps87
  go_wp2_with (first
    | (go_at_call 112; refine (wordKind_any _).mono ?_; rintro e w1 ⟨rfl, hb1⟩)
    | (go_at_call 113; refine (kmay_any 1 16 _ _ letB parB cls_letter cls_inWord s _ hs (by omega)).mono ?_; rintro e w2 ⟨rfl, hb2⟩))
  go_ret
  exact ⟨rfl, hb1.trans (hb2.mono hb1.size)⟩
end Go.Proofs.YtchebhdndkaheaaGreatDoor

/- Which node of an expression is formed. -/
namespace Go.Proofs.YtchebhdndkaheaaGreatDoor
open Go.RowKit Go.Lib

def nilB (s : ByteArray) : Bool := decide (s.toList = [])
def zeroB (k i : Int) (vs : ByteArray) : Bool := decide (k = 0) && (decide (i = 0) && nilB vs)
def nameB (s : ByteArray) : Bool := kmay letB parB 16 s.data.toList
def fmLit (k i : Int) (vs s : ByteArray) (n : Nat) : Bool := mayB k i vs && (nilB s && decide (n = 0))
def fmCol (k i : Int) (vs s : ByteArray) (n : Nat) : Bool := zeroB k i vs && (nameB s && (!resB s && decide (n = 0)))
def fmOne (k i : Int) (vs s : ByteArray) (n : Nat) : Bool := zeroB k i vs && (nilB s && decide (n = 1))
def fmTwo (k i : Int) (vs s : ByteArray) (n : Nat) : Bool := zeroB k i vs && (nilB s && decide (n = 2))
theorem beq0 (n : Nat) : ((n : Int) == 0) = decide (n = 0) := by rw [Bool.eq_iff_iff]; simp
theorem beq1 (n : Nat) : ((n : Int) == 1) = decide (n = 1) := by rw [Bool.eq_iff_iff]; simp; omega
theorem beq2 (n : Nat) : ((n : Int) == 2) = decide (n = 2) := by rw [Bool.eq_iff_iff]; simp; omega

set_option maxRecDepth 100000 in
set_option maxHeartbeats 4000000 in
theorem formed_0 (k i : Int) (vs s : ByteArray) (A : Option Addr) (n cap : Nat) (w : World) (hn : n ≤ maxLen) (hs : s.size ≤ 100000) :
    Calls Tryz.prog 69 #[.agg #[.string ⟨#[108, 105, 116]⟩, .int .i64 k, .int .i64 i, .string vs, .string s, .slice A n cap]] w fun e w' => e = .returned (.bool (fmLit k i vs s n)) ∧ Below w.heap.size w w' := by
  unfold maxLen at hn
  go_enter Tryz.func69, Tryz.ntmps69
  go_wp2_with (first
    | (go_at_call 24; refine (may_any _ _ _ _).mono ?_; rintro e w1 ⟨rfl, hb1⟩; have hc1 := (bcell hb1).1; have hf1 := (bcell hb1).2; have hy1 := hb1.size; (try simp at hy1); have hz1_0 : w.heap.size < w1.heap.size := (by omega))
    | (go_at_call 87; refine (name_any _ _ hs).mono ?_; rintro e w1 ⟨rfl, hb1⟩; have hc1 := (bcell hb1).1; have hf1 := (bcell hb1).2; have hy1 := hb1.size; (try simp at hy1); have hz1_0 : w.heap.size < w1.heap.size := (by omega))
    | (go_at_call 88; refine (reserved_any _ _).mono ?_; rintro e w2 ⟨rfl, hb2⟩; have hc2 := (bcell hb2).1; have hf2 := (bcell hb2).2; have hy2 := hb2.size; (try simp at hy2); have hz2_0 : w.heap.size < w2.heap.size := (by omega)))
  all_goals go_ret
  all_goals refine ⟨ret_bool ?_, ?_⟩
  all_goals first
    | (with_reducible exact Below.refl _ _)
    | ((repeat (first | (with_reducible exact Below.refl _ _) | ((with_reducible refine cSet3 ?_ ?_ _ _ _); (· ((try simp) <;> omega))) | (with_reducible refine Below.drew ?_) | ((with_reducible refine cAlloc ?_ ?_ _); (· ((try simp) <;> omega))) | ((with_reducible refine cOn (by assumption) ?_ ?_); (· ((try simp) <;> omega))))); done)
    | ((try simp only [beq0, beq1, beq2]); simp [fmLit, zeroB, nilB, nameB, *]; done)

set_option maxRecDepth 100000 in
set_option maxHeartbeats 4000000 in
theorem formed_1 (k i : Int) (vs s : ByteArray) (A : Option Addr) (n cap : Nat) (w : World) (hn : n ≤ maxLen) (hs : s.size ≤ 100000) :
    Calls Tryz.prog 69 #[.agg #[.string ⟨#[99, 111, 108]⟩, .int .i64 k, .int .i64 i, .string vs, .string s, .slice A n cap]] w fun e w' => e = .returned (.bool (fmCol k i vs s n)) ∧ Below w.heap.size w w' := by
  unfold maxLen at hn
  go_enter Tryz.func69, Tryz.ntmps69
  go_wp2_with (first
    | (go_at_call 24; refine (may_any _ _ _ _).mono ?_; rintro e w1 ⟨rfl, hb1⟩; have hc1 := (bcell hb1).1; have hf1 := (bcell hb1).2; have hy1 := hb1.size; (try simp at hy1); have hz1_0 : w.heap.size < w1.heap.size := (by omega))
    | (go_at_call 87; refine (name_any _ _ hs).mono ?_; rintro e w1 ⟨rfl, hb1⟩; have hc1 := (bcell hb1).1; have hf1 := (bcell hb1).2; have hy1 := hb1.size; (try simp at hy1); have hz1_0 : w.heap.size < w1.heap.size := (by omega))
    | (go_at_call 88; refine (reserved_any _ _).mono ?_; rintro e w2 ⟨rfl, hb2⟩; have hc2 := (bcell hb2).1; have hf2 := (bcell hb2).2; have hy2 := hb2.size; (try simp at hy2); have hz2_0 : w.heap.size < w2.heap.size := (by omega)))
  all_goals go_ret
  all_goals refine ⟨ret_bool ?_, ?_⟩
  all_goals first
    | (with_reducible exact Below.refl _ _)
    | ((repeat (first | (with_reducible exact Below.refl _ _) | ((with_reducible refine cSet3 ?_ ?_ _ _ _); (· ((try simp) <;> omega))) | (with_reducible refine Below.drew ?_) | ((with_reducible refine cAlloc ?_ ?_ _); (· ((try simp) <;> omega))) | ((with_reducible refine cOn (by assumption) ?_ ?_); (· ((try simp) <;> omega))))); done)
    | ((try simp only [beq0, beq1, beq2]); simp [fmCol, zeroB, nilB, nameB, *]; done)

set_option maxRecDepth 100000 in
set_option maxHeartbeats 4000000 in
theorem formed_2 (k i : Int) (vs s : ByteArray) (A : Option Addr) (n cap : Nat) (w : World) (hn : n ≤ maxLen) (hs : s.size ≤ 100000) :
    Calls Tryz.prog 69 #[.agg #[.string ⟨#[110, 111, 116]⟩, .int .i64 k, .int .i64 i, .string vs, .string s, .slice A n cap]] w fun e w' => e = .returned (.bool (fmOne k i vs s n)) ∧ Below w.heap.size w w' := by
  unfold maxLen at hn
  go_enter Tryz.func69, Tryz.ntmps69
  go_wp2_with (first
    | (go_at_call 24; refine (may_any _ _ _ _).mono ?_; rintro e w1 ⟨rfl, hb1⟩; have hc1 := (bcell hb1).1; have hf1 := (bcell hb1).2; have hy1 := hb1.size; (try simp at hy1); have hz1_0 : w.heap.size < w1.heap.size := (by omega))
    | (go_at_call 87; refine (name_any _ _ hs).mono ?_; rintro e w1 ⟨rfl, hb1⟩; have hc1 := (bcell hb1).1; have hf1 := (bcell hb1).2; have hy1 := hb1.size; (try simp at hy1); have hz1_0 : w.heap.size < w1.heap.size := (by omega))
    | (go_at_call 88; refine (reserved_any _ _).mono ?_; rintro e w2 ⟨rfl, hb2⟩; have hc2 := (bcell hb2).1; have hf2 := (bcell hb2).2; have hy2 := hb2.size; (try simp at hy2); have hz2_0 : w.heap.size < w2.heap.size := (by omega)))
  all_goals go_ret
  all_goals refine ⟨ret_bool ?_, ?_⟩
  all_goals first
    | (with_reducible exact Below.refl _ _)
    | ((repeat (first | (with_reducible exact Below.refl _ _) | ((with_reducible refine cSet3 ?_ ?_ _ _ _); (· ((try simp) <;> omega))) | (with_reducible refine Below.drew ?_) | ((with_reducible refine cAlloc ?_ ?_ _); (· ((try simp) <;> omega))) | ((with_reducible refine cOn (by assumption) ?_ ?_); (· ((try simp) <;> omega))))); done)
    | ((try simp only [beq0, beq1, beq2]); simp [fmOne, zeroB, nilB, nameB, *]; done)

set_option maxRecDepth 100000 in
set_option maxHeartbeats 4000000 in
theorem formed_3 (k i : Int) (vs s : ByteArray) (A : Option Addr) (n cap : Nat) (w : World) (hn : n ≤ maxLen) (hs : s.size ≤ 100000) :
    Calls Tryz.prog 69 #[.agg #[.string ⟨#[110, 117, 108, 108]⟩, .int .i64 k, .int .i64 i, .string vs, .string s, .slice A n cap]] w fun e w' => e = .returned (.bool (fmOne k i vs s n)) ∧ Below w.heap.size w w' := by
  unfold maxLen at hn
  go_enter Tryz.func69, Tryz.ntmps69
  go_wp2_with (first
    | (go_at_call 24; refine (may_any _ _ _ _).mono ?_; rintro e w1 ⟨rfl, hb1⟩; have hc1 := (bcell hb1).1; have hf1 := (bcell hb1).2; have hy1 := hb1.size; (try simp at hy1); have hz1_0 : w.heap.size < w1.heap.size := (by omega))
    | (go_at_call 87; refine (name_any _ _ hs).mono ?_; rintro e w1 ⟨rfl, hb1⟩; have hc1 := (bcell hb1).1; have hf1 := (bcell hb1).2; have hy1 := hb1.size; (try simp at hy1); have hz1_0 : w.heap.size < w1.heap.size := (by omega))
    | (go_at_call 88; refine (reserved_any _ _).mono ?_; rintro e w2 ⟨rfl, hb2⟩; have hc2 := (bcell hb2).1; have hf2 := (bcell hb2).2; have hy2 := hb2.size; (try simp at hy2); have hz2_0 : w.heap.size < w2.heap.size := (by omega)))
  all_goals go_ret
  all_goals refine ⟨ret_bool ?_, ?_⟩
  all_goals first
    | (with_reducible exact Below.refl _ _)
    | ((repeat (first | (with_reducible exact Below.refl _ _) | ((with_reducible refine cSet3 ?_ ?_ _ _ _); (· ((try simp) <;> omega))) | (with_reducible refine Below.drew ?_) | ((with_reducible refine cAlloc ?_ ?_ _); (· ((try simp) <;> omega))) | ((with_reducible refine cOn (by assumption) ?_ ?_); (· ((try simp) <;> omega))))); done)
    | ((try simp only [beq0, beq1, beq2]); simp [fmOne, zeroB, nilB, nameB, *]; done)

set_option maxRecDepth 100000 in
set_option maxHeartbeats 4000000 in
theorem formed_4 (k i : Int) (vs s : ByteArray) (A : Option Addr) (n cap : Nat) (w : World) (hn : n ≤ maxLen) (hs : s.size ≤ 100000) :
    Calls Tryz.prog 69 #[.agg #[.string ⟨#[97, 110, 100]⟩, .int .i64 k, .int .i64 i, .string vs, .string s, .slice A n cap]] w fun e w' => e = .returned (.bool (fmTwo k i vs s n)) ∧ Below w.heap.size w w' := by
  unfold maxLen at hn
  go_enter Tryz.func69, Tryz.ntmps69
  go_wp2_with (first
    | (go_at_call 24; refine (may_any _ _ _ _).mono ?_; rintro e w1 ⟨rfl, hb1⟩; have hc1 := (bcell hb1).1; have hf1 := (bcell hb1).2; have hy1 := hb1.size; (try simp at hy1); have hz1_0 : w.heap.size < w1.heap.size := (by omega))
    | (go_at_call 87; refine (name_any _ _ hs).mono ?_; rintro e w1 ⟨rfl, hb1⟩; have hc1 := (bcell hb1).1; have hf1 := (bcell hb1).2; have hy1 := hb1.size; (try simp at hy1); have hz1_0 : w.heap.size < w1.heap.size := (by omega))
    | (go_at_call 88; refine (reserved_any _ _).mono ?_; rintro e w2 ⟨rfl, hb2⟩; have hc2 := (bcell hb2).1; have hf2 := (bcell hb2).2; have hy2 := hb2.size; (try simp at hy2); have hz2_0 : w.heap.size < w2.heap.size := (by omega)))
  all_goals go_ret
  all_goals refine ⟨ret_bool ?_, ?_⟩
  all_goals first
    | (with_reducible exact Below.refl _ _)
    | ((repeat (first | (with_reducible exact Below.refl _ _) | ((with_reducible refine cSet3 ?_ ?_ _ _ _); (· ((try simp) <;> omega))) | (with_reducible refine Below.drew ?_) | ((with_reducible refine cAlloc ?_ ?_ _); (· ((try simp) <;> omega))) | ((with_reducible refine cOn (by assumption) ?_ ?_); (· ((try simp) <;> omega))))); done)
    | ((try simp only [beq0, beq1, beq2]); simp [fmTwo, zeroB, nilB, nameB, *]; done)

set_option maxRecDepth 100000 in
set_option maxHeartbeats 4000000 in
theorem formed_5 (k i : Int) (vs s : ByteArray) (A : Option Addr) (n cap : Nat) (w : World) (hn : n ≤ maxLen) (hs : s.size ≤ 100000) :
    Calls Tryz.prog 69 #[.agg #[.string ⟨#[111, 114]⟩, .int .i64 k, .int .i64 i, .string vs, .string s, .slice A n cap]] w fun e w' => e = .returned (.bool (fmTwo k i vs s n)) ∧ Below w.heap.size w w' := by
  unfold maxLen at hn
  go_enter Tryz.func69, Tryz.ntmps69
  go_wp2_with (first
    | (go_at_call 24; refine (may_any _ _ _ _).mono ?_; rintro e w1 ⟨rfl, hb1⟩; have hc1 := (bcell hb1).1; have hf1 := (bcell hb1).2; have hy1 := hb1.size; (try simp at hy1); have hz1_0 : w.heap.size < w1.heap.size := (by omega))
    | (go_at_call 87; refine (name_any _ _ hs).mono ?_; rintro e w1 ⟨rfl, hb1⟩; have hc1 := (bcell hb1).1; have hf1 := (bcell hb1).2; have hy1 := hb1.size; (try simp at hy1); have hz1_0 : w.heap.size < w1.heap.size := (by omega))
    | (go_at_call 88; refine (reserved_any _ _).mono ?_; rintro e w2 ⟨rfl, hb2⟩; have hc2 := (bcell hb2).1; have hf2 := (bcell hb2).2; have hy2 := hb2.size; (try simp at hy2); have hz2_0 : w.heap.size < w2.heap.size := (by omega)))
  all_goals go_ret
  all_goals refine ⟨ret_bool ?_, ?_⟩
  all_goals first
    | (with_reducible exact Below.refl _ _)
    | ((repeat (first | (with_reducible exact Below.refl _ _) | ((with_reducible refine cSet3 ?_ ?_ _ _ _); (· ((try simp) <;> omega))) | (with_reducible refine Below.drew ?_) | ((with_reducible refine cAlloc ?_ ?_ _); (· ((try simp) <;> omega))) | ((with_reducible refine cOn (by assumption) ?_ ?_); (· ((try simp) <;> omega))))); done)
    | ((try simp only [beq0, beq1, beq2]); simp [fmTwo, zeroB, nilB, nameB, *]; done)

set_option maxRecDepth 100000 in
set_option maxHeartbeats 4000000 in
theorem formed_6 (k i : Int) (vs s : ByteArray) (A : Option Addr) (n cap : Nat) (w : World) (hn : n ≤ maxLen) (hs : s.size ≤ 100000) :
    Calls Tryz.prog 69 #[.agg #[.string ⟨#[61]⟩, .int .i64 k, .int .i64 i, .string vs, .string s, .slice A n cap]] w fun e w' => e = .returned (.bool (fmTwo k i vs s n)) ∧ Below w.heap.size w w' := by
  unfold maxLen at hn
  go_enter Tryz.func69, Tryz.ntmps69
  go_wp2_with (first
    | (go_at_call 24; refine (may_any _ _ _ _).mono ?_; rintro e w1 ⟨rfl, hb1⟩; have hc1 := (bcell hb1).1; have hf1 := (bcell hb1).2; have hy1 := hb1.size; (try simp at hy1); have hz1_0 : w.heap.size < w1.heap.size := (by omega))
    | (go_at_call 87; refine (name_any _ _ hs).mono ?_; rintro e w1 ⟨rfl, hb1⟩; have hc1 := (bcell hb1).1; have hf1 := (bcell hb1).2; have hy1 := hb1.size; (try simp at hy1); have hz1_0 : w.heap.size < w1.heap.size := (by omega))
    | (go_at_call 88; refine (reserved_any _ _).mono ?_; rintro e w2 ⟨rfl, hb2⟩; have hc2 := (bcell hb2).1; have hf2 := (bcell hb2).2; have hy2 := hb2.size; (try simp at hy2); have hz2_0 : w.heap.size < w2.heap.size := (by omega)))
  all_goals go_ret
  all_goals refine ⟨ret_bool ?_, ?_⟩
  all_goals first
    | (with_reducible exact Below.refl _ _)
    | ((repeat (first | (with_reducible exact Below.refl _ _) | ((with_reducible refine cSet3 ?_ ?_ _ _ _); (· ((try simp) <;> omega))) | (with_reducible refine Below.drew ?_) | ((with_reducible refine cAlloc ?_ ?_ _); (· ((try simp) <;> omega))) | ((with_reducible refine cOn (by assumption) ?_ ?_); (· ((try simp) <;> omega))))); done)
    | ((try simp only [beq0, beq1, beq2]); simp [fmTwo, zeroB, nilB, nameB, *]; done)

set_option maxRecDepth 100000 in
set_option maxHeartbeats 4000000 in
theorem formed_7 (k i : Int) (vs s : ByteArray) (A : Option Addr) (n cap : Nat) (w : World) (hn : n ≤ maxLen) (hs : s.size ≤ 100000) :
    Calls Tryz.prog 69 #[.agg #[.string ⟨#[60]⟩, .int .i64 k, .int .i64 i, .string vs, .string s, .slice A n cap]] w fun e w' => e = .returned (.bool (fmTwo k i vs s n)) ∧ Below w.heap.size w w' := by
  unfold maxLen at hn
  go_enter Tryz.func69, Tryz.ntmps69
  go_wp2_with (first
    | (go_at_call 24; refine (may_any _ _ _ _).mono ?_; rintro e w1 ⟨rfl, hb1⟩; have hc1 := (bcell hb1).1; have hf1 := (bcell hb1).2; have hy1 := hb1.size; (try simp at hy1); have hz1_0 : w.heap.size < w1.heap.size := (by omega))
    | (go_at_call 87; refine (name_any _ _ hs).mono ?_; rintro e w1 ⟨rfl, hb1⟩; have hc1 := (bcell hb1).1; have hf1 := (bcell hb1).2; have hy1 := hb1.size; (try simp at hy1); have hz1_0 : w.heap.size < w1.heap.size := (by omega))
    | (go_at_call 88; refine (reserved_any _ _).mono ?_; rintro e w2 ⟨rfl, hb2⟩; have hc2 := (bcell hb2).1; have hf2 := (bcell hb2).2; have hy2 := hb2.size; (try simp at hy2); have hz2_0 : w.heap.size < w2.heap.size := (by omega)))
  all_goals go_ret
  all_goals refine ⟨ret_bool ?_, ?_⟩
  all_goals first
    | (with_reducible exact Below.refl _ _)
    | ((repeat (first | (with_reducible exact Below.refl _ _) | ((with_reducible refine cSet3 ?_ ?_ _ _ _); (· ((try simp) <;> omega))) | (with_reducible refine Below.drew ?_) | ((with_reducible refine cAlloc ?_ ?_ _); (· ((try simp) <;> omega))) | ((with_reducible refine cOn (by assumption) ?_ ?_); (· ((try simp) <;> omega))))); done)
    | ((try simp only [beq0, beq1, beq2]); simp [fmTwo, zeroB, nilB, nameB, *]; done)

set_option maxRecDepth 100000 in
set_option maxHeartbeats 4000000 in
theorem formed_8 (k i : Int) (vs s : ByteArray) (A : Option Addr) (n cap : Nat) (w : World) (hn : n ≤ maxLen) (hs : s.size ≤ 100000) :
    Calls Tryz.prog 69 #[.agg #[.string ⟨#[43]⟩, .int .i64 k, .int .i64 i, .string vs, .string s, .slice A n cap]] w fun e w' => e = .returned (.bool (fmTwo k i vs s n)) ∧ Below w.heap.size w w' := by
  unfold maxLen at hn
  go_enter Tryz.func69, Tryz.ntmps69
  go_wp2_with (first
    | (go_at_call 24; refine (may_any _ _ _ _).mono ?_; rintro e w1 ⟨rfl, hb1⟩; have hc1 := (bcell hb1).1; have hf1 := (bcell hb1).2; have hy1 := hb1.size; (try simp at hy1); have hz1_0 : w.heap.size < w1.heap.size := (by omega))
    | (go_at_call 87; refine (name_any _ _ hs).mono ?_; rintro e w1 ⟨rfl, hb1⟩; have hc1 := (bcell hb1).1; have hf1 := (bcell hb1).2; have hy1 := hb1.size; (try simp at hy1); have hz1_0 : w.heap.size < w1.heap.size := (by omega))
    | (go_at_call 88; refine (reserved_any _ _).mono ?_; rintro e w2 ⟨rfl, hb2⟩; have hc2 := (bcell hb2).1; have hf2 := (bcell hb2).2; have hy2 := hb2.size; (try simp at hy2); have hz2_0 : w.heap.size < w2.heap.size := (by omega)))
  all_goals go_ret
  all_goals refine ⟨ret_bool ?_, ?_⟩
  all_goals first
    | (with_reducible exact Below.refl _ _)
    | ((repeat (first | (with_reducible exact Below.refl _ _) | ((with_reducible refine cSet3 ?_ ?_ _ _ _); (· ((try simp) <;> omega))) | (with_reducible refine Below.drew ?_) | ((with_reducible refine cAlloc ?_ ?_ _); (· ((try simp) <;> omega))) | ((with_reducible refine cOn (by assumption) ?_ ?_); (· ((try simp) <;> omega))))); done)
    | ((try simp only [beq0, beq1, beq2]); simp [fmTwo, zeroB, nilB, nameB, *]; done)

set_option maxRecDepth 100000 in
set_option maxHeartbeats 4000000 in
theorem formed_9 (k i : Int) (vs s : ByteArray) (A : Option Addr) (n cap : Nat) (w : World) (hn : n ≤ maxLen) (hs : s.size ≤ 100000) :
    Calls Tryz.prog 69 #[.agg #[.string ⟨#[45]⟩, .int .i64 k, .int .i64 i, .string vs, .string s, .slice A n cap]] w fun e w' => e = .returned (.bool (fmTwo k i vs s n)) ∧ Below w.heap.size w w' := by
  unfold maxLen at hn
  go_enter Tryz.func69, Tryz.ntmps69
  go_wp2_with (first
    | (go_at_call 24; refine (may_any _ _ _ _).mono ?_; rintro e w1 ⟨rfl, hb1⟩; have hc1 := (bcell hb1).1; have hf1 := (bcell hb1).2; have hy1 := hb1.size; (try simp at hy1); have hz1_0 : w.heap.size < w1.heap.size := (by omega))
    | (go_at_call 87; refine (name_any _ _ hs).mono ?_; rintro e w1 ⟨rfl, hb1⟩; have hc1 := (bcell hb1).1; have hf1 := (bcell hb1).2; have hy1 := hb1.size; (try simp at hy1); have hz1_0 : w.heap.size < w1.heap.size := (by omega))
    | (go_at_call 88; refine (reserved_any _ _).mono ?_; rintro e w2 ⟨rfl, hb2⟩; have hc2 := (bcell hb2).1; have hf2 := (bcell hb2).2; have hy2 := hb2.size; (try simp at hy2); have hz2_0 : w.heap.size < w2.heap.size := (by omega)))
  all_goals go_ret
  all_goals refine ⟨ret_bool ?_, ?_⟩
  all_goals first
    | (with_reducible exact Below.refl _ _)
    | ((repeat (first | (with_reducible exact Below.refl _ _) | ((with_reducible refine cSet3 ?_ ?_ _ _ _); (· ((try simp) <;> omega))) | (with_reducible refine Below.drew ?_) | ((with_reducible refine cAlloc ?_ ?_ _); (· ((try simp) <;> omega))) | ((with_reducible refine cOn (by assumption) ?_ ?_); (· ((try simp) <;> omega))))); done)
    | ((try simp only [beq0, beq1, beq2]); simp [fmTwo, zeroB, nilB, nameB, *]; done)

set_option maxRecDepth 100000 in
set_option maxHeartbeats 4000000 in
theorem formed_no (op : ByteArray) (k i : Int) (vs s : ByteArray) (A : Option Addr) (n cap : Nat) (w : World) (hn : n ≤ maxLen) (hs : s.size ≤ 100000) (h0 : (op.toList == [108, 105, 116]) = false) (h1 : (op.toList == [99, 111, 108]) = false) (h2 : (op.toList == [110, 111, 116]) = false) (h3 : (op.toList == [110, 117, 108, 108]) = false) (h4 : (op.toList == [97, 110, 100]) = false) (h5 : (op.toList == [111, 114]) = false) (h6 : (op.toList == [61]) = false) (h7 : (op.toList == [60]) = false) (h8 : (op.toList == [43]) = false) (h9 : (op.toList == [45]) = false) :
    Calls Tryz.prog 69 #[.agg #[.string op, .int .i64 k, .int .i64 i, .string vs, .string s, .slice A n cap]] w fun e w' => e = .returned (.bool (false)) ∧ Below w.heap.size w w' := by
  go_enter Tryz.func69, Tryz.ntmps69
  go_wp2_with (fail)
  go_ret
  exact ⟨rfl, (Below.refl _ _).alloc (Nat.le_refl _) _⟩

/-- Is a node formed that has so many parts? -/
def fmB (op : ByteArray) (k i : Int) (vs s : ByteArray) (n : Nat) : Bool :=
  if op.toList = [108, 105, 116] then fmLit k i vs s n else if op.toList = [99, 111, 108] then fmCol k i vs s n else if op.toList = [110, 111, 116] ∨ op.toList = [110, 117, 108, 108] then fmOne k i vs s n
  else if op.toList ∈ [[97, 110, 100], [111, 114], [61], [60], [43], [45]] then fmTwo k i vs s n else false
theorem bytes_of {s : ByteArray} {l : List UInt8} (h : s.toList = l) : s = ⟨l.toArray⟩ := by
  rw [toList_data] at h
  cases s with
  | mk d => subst h; simp
theorem formed_any (op : ByteArray) (k i : Int) (vs s : ByteArray) (A : Option Addr) (n cap : Nat) (w : World) (hn : n ≤ maxLen) (hs : s.size ≤ 100000) :
    Calls Tryz.prog 69 #[.agg #[.string op, .int .i64 k, .int .i64 i, .string vs, .string s, .slice A n cap]] w fun e w' => e = .returned (.bool (fmB op k i vs s n)) ∧ Below w.heap.size w w' := by
  by_cases h0 : op.toList = [108, 105, 116]
  · obtain rfl : op = ⟨#[108, 105, 116]⟩ := bytes_of h0
    have e : fmB ⟨#[108, 105, 116]⟩ k i vs s n = fmLit k i vs s n := by simp [fmB, h0]
    rw [e]
    exact formed_0 k i vs s A n cap w hn hs
  by_cases h1 : op.toList = [99, 111, 108]
  · obtain rfl : op = ⟨#[99, 111, 108]⟩ := bytes_of h1
    have e : fmB ⟨#[99, 111, 108]⟩ k i vs s n = fmCol k i vs s n := by simp [fmB, h1]
    rw [e]
    exact formed_1 k i vs s A n cap w hn hs
  by_cases h2 : op.toList = [110, 111, 116]
  · obtain rfl : op = ⟨#[110, 111, 116]⟩ := bytes_of h2
    have e : fmB ⟨#[110, 111, 116]⟩ k i vs s n = fmOne k i vs s n := by simp [fmB, h2]
    rw [e]
    exact formed_2 k i vs s A n cap w hn hs
  by_cases h3 : op.toList = [110, 117, 108, 108]
  · obtain rfl : op = ⟨#[110, 117, 108, 108]⟩ := bytes_of h3
    have e : fmB ⟨#[110, 117, 108, 108]⟩ k i vs s n = fmOne k i vs s n := by simp [fmB, h3]
    rw [e]
    exact formed_3 k i vs s A n cap w hn hs
  by_cases h4 : op.toList = [97, 110, 100]
  · obtain rfl : op = ⟨#[97, 110, 100]⟩ := bytes_of h4
    have e : fmB ⟨#[97, 110, 100]⟩ k i vs s n = fmTwo k i vs s n := by simp [fmB, h4]
    rw [e]
    exact formed_4 k i vs s A n cap w hn hs
  by_cases h5 : op.toList = [111, 114]
  · obtain rfl : op = ⟨#[111, 114]⟩ := bytes_of h5
    have e : fmB ⟨#[111, 114]⟩ k i vs s n = fmTwo k i vs s n := by simp [fmB, h5]
    rw [e]
    exact formed_5 k i vs s A n cap w hn hs
  by_cases h6 : op.toList = [61]
  · obtain rfl : op = ⟨#[61]⟩ := bytes_of h6
    have e : fmB ⟨#[61]⟩ k i vs s n = fmTwo k i vs s n := by simp [fmB, h6]
    rw [e]
    exact formed_6 k i vs s A n cap w hn hs
  by_cases h7 : op.toList = [60]
  · obtain rfl : op = ⟨#[60]⟩ := bytes_of h7
    have e : fmB ⟨#[60]⟩ k i vs s n = fmTwo k i vs s n := by simp [fmB, h7]
    rw [e]
    exact formed_7 k i vs s A n cap w hn hs
  by_cases h8 : op.toList = [43]
  · obtain rfl : op = ⟨#[43]⟩ := bytes_of h8
    have e : fmB ⟨#[43]⟩ k i vs s n = fmTwo k i vs s n := by simp [fmB, h8]
    rw [e]
    exact formed_8 k i vs s A n cap w hn hs
  by_cases h9 : op.toList = [45]
  · obtain rfl : op = ⟨#[45]⟩ := bytes_of h9
    have e : fmB ⟨#[45]⟩ k i vs s n = fmTwo k i vs s n := by simp [fmB, h9]
    rw [e]
    exact formed_9 k i vs s A n cap w hn hs
  have e : fmB op k i vs s n = false := by simp [fmB, h0, h1, h2, h3, h4, h5, h6, h7, h8, h9]
  rw [e]
  exact formed_no op k i vs s A n cap w hn hs (beq_eq_false_iff_ne.2 h0) (beq_eq_false_iff_ne.2 h1) (beq_eq_false_iff_ne.2 h2) (beq_eq_false_iff_ne.2 h3) (beq_eq_false_iff_ne.2 h4) (beq_eq_false_iff_ne.2 h5) (beq_eq_false_iff_ne.2 h6) (beq_eq_false_iff_ne.2 h7) (beq_eq_false_iff_ne.2 h8) (beq_eq_false_iff_ne.2 h9)
end Go.Proofs.YtchebhdndkaheaaGreatDoor

/- How deep an expression is, and how many nodes it has: within, May. -/
namespace Go.Proofs.YtchebhdndkaheaaGreatDoor
open Go.RowKit Go.Lib

def fmT (t : Ex) : Bool := fmB t.op t.x.k t.x.i t.x.s t.s t.l.length
def partsF (f : Ex → Int → Bool × Int) : List Ex → Int → Bool × Int
  | [], left => (true, left)
  | x :: r, left => if (f x left).1 = true then partsF f r (f x left).2 else (false, (f x left).2)
def withinF : Nat → Ex → Int → Bool × Int
  | 0, _, left => (false, left - 1)
  | d + 1, t, left => if left - 1 < 0 then (false, left - 1) else if fmT t = true then partsF (withinF d) t.l (left - 1) else (false, left - 1)
def mayT (t : Ex) : Bool := (withinF 12 t 60).1

def Bd (m : Int) (r : Bool × Int) : Prop := r.2 ≤ m ∧ -1 ≤ r.2 ∧ (r.1 = true → 0 ≤ r.2)
theorem parts_bd {f : Ex → Int → Bool × Int} (hf : ∀ x m, 0 ≤ m → Bd m (f x m)) : ∀ (l : List Ex) (m : Int), 0 ≤ m → Bd m (partsF f l m)
  | [], m, h => ⟨Int.le_refl _, by show -1 ≤ m; omega, fun _ => h⟩
  | x :: r, m, h => by
    obtain ⟨h1, h2, h3⟩ := hf x m h
    unfold partsF
    by_cases hb : (f x m).1 = true
    · rw [if_pos hb]
      obtain ⟨k1, k2, k3⟩ := parts_bd hf r (f x m).2 (h3 hb)
      exact ⟨by omega, k2, k3⟩
    · rw [if_neg hb]
      exact ⟨h1, h2, fun e => by cases e⟩
theorem within_bd : ∀ (d : Nat) (t : Ex) (m : Int), 0 ≤ m → Bd m (withinF d t m)
  | 0, t, m, h => by
    unfold withinF
    exact ⟨by show m - 1 ≤ m; omega, by show -1 ≤ m - 1; omega, fun e => by cases e⟩
  | d + 1, t, m, h => by
    unfold withinF
    by_cases h0 : m - 1 < 0
    · rw [if_pos h0]
      exact ⟨by show m - 1 ≤ m; omega, by show -1 ≤ m - 1; omega, fun e => by cases e⟩
    · rw [if_neg h0]
      by_cases hf : fmT t = true
      · rw [if_pos hf]
        obtain ⟨k1, k2, k3⟩ := parts_bd (within_bd d) t.l (m - 1) (by omega)
        exact ⟨by omega, k2, k3⟩
      · rw [if_neg hf]
        exact ⟨by show m - 1 ≤ m; omega, by show -1 ≤ m - 1; omega, fun e => by cases e⟩

/-- Block g holds the number m, and is one's own. -/
def Cnt (W : World) (g : Nat) (m : Int) : Prop := W.heap[g]? = some (.cells #[.int .i64 m] 3 (0, 0))
theorem Cnt.lt {W : World} {g : Nat} {m : Int} (h : Cnt W g m) : g < W.heap.size := (Array.getElem?_eq_some_iff.1 h).1
theorem Cnt.c0 {W : World} {g : Nat} {m : Int} (h : Cnt W g m) : W.cell? ⟨g, 0, none⟩ = some (.int .i64 m) := by rw [Lib.cell_of_heap h]; rfl
theorem Cnt.fz {W : World} {g : Nat} {m : Int} (h : Cnt W g m) (o : Nat) : W.frozen? ⟨g, o, none⟩ = false := Lib.frozen_of_heap h o
theorem Cnt.new {W : World} {n : Nat} (h : W.heap.size = n) (m : Int) : Cnt (W.alloc (.cells #[.int .i64 m] 3)) n m := by
  subst h
  show (W.heap.push _)[W.heap.size]? = _
  simp
theorem Cnt.keep {W W' : World} {g : Nat} {m : Int} {B : Nat} (h : Cnt W g m) (hb : Below B W W') (hB : g < B) : Cnt W' g m := (hb.block g hB).trans h
theorem Cnt.put {W : World} {g : Nat} {m : Int} (h : Cnt W g m) (k : Int) : Cnt (W.setCell ⟨g, 0, none⟩ (.int .i64 k)) g k := by
  unfold Cnt at h ⊢
  simp [World.setCell, Array.getElem?_modify, h]
theorem grow_set (W : World) (g : Nat) (o : Nat) (v : Value) : W.grownBy (W.setCell ⟨g, o, none⟩ v) (some g) :=
  ⟨rfl, rfl, rfl, by simp [World.setCell], fun k _ hk => Below.heap_setCell _ _ _ _ (fun e => hk (by rw [e]))⟩
theorem grow_trans {a b c : World} {row : Option Nat} (h : a.grownBy b row) (k : b.grownBy c row) : a.grownBy c row :=
  ⟨k.os.trans h.os, k.tape.trans h.tape, k.output.trans h.output, Nat.le_trans h.size k.size, fun i hi hr => (k.block i (Nat.lt_of_lt_of_le hi h.size) hr).trans (h.block i hi hr)⟩
theorem grow_refl (W : World) (row : Option Nat) : W.grownBy W row := ⟨rfl, rfl, rfl, Nat.le_refl _, fun _ _ _ => rfl⟩
theorem grow_below {W W' : World} (h : Below W.heap.size W W') (row : Option Nat) : W.grownBy W' row := ⟨h.os, h.tape, h.output, h.size, fun k hk _ => h.block k hk⟩
theorem grow_alloc (W : World) (o : Obj) (row : Option Nat) : W.grownBy (W.alloc o) row := grow_below ((Below.refl _ _).alloc (Nat.le_refl _) o) row
theorem below_grow {B : Nat} {a b c : World} {g : Nat} (h : Below B a b) (k : b.grownBy c (some g)) (hg : B ≤ g) (hB : B ≤ b.heap.size) : Below B a c :=
  ⟨k.os.trans h.os, k.tape.trans h.tape, k.output.trans h.output, Nat.le_trans h.size k.size, fun i hi => (k.block i (Nat.lt_of_lt_of_le hi hB) (fun e => by injection e with e; omega)).trans (h.block i hi)⟩

def Wit (w : World) (lb : Nat) (r : Bool × Int) (e : Ending) (w' : World) : Prop := e = .returned (.bool r.1) ∧ Cnt w' lb r.2 ∧ w.grownBy w' (some lb)
def EVt (t : Ex) (u : Value) : Value := .agg #[.string t.op, .int .i64 t.x.k, .int .i64 t.x.i, .string t.x.s, .string t.s, u]

set_option maxRecDepth 100000 in
set_option maxHeartbeats 4000000 in
theorem within_0 (d : Int) (hd : d = 0 ∨ (0 < d ∧ d ≤ 100)) (op : ByteArray) (k i : Int) (vs s : ByteArray) (A : Option Addr) (n cap : Nat) (lb : Nat) (m : Int) (w : World) (hm : 0 ≤ m) (hm' : m ≤ 1000) (hc : Cnt w lb m) (h0 : d = 0 ∨ m - 1 < 0) :
    Calls Tryz.prog 44 #[.agg #[.string op, .int .i64 k, .int .i64 i, .string vs, .string s, .slice A n cap], .int .i64 d, .pointer (some ⟨lb, 0, none⟩)] w (Wit w lb (false, m - 1)) := by
  have HC := Lib.hid hc
  clear hc
  have hlt := HC.out.lt
  have e0 := HC.out.c0
  have ef := HC.out.fz 0
  have hne : ¬ w.heap.size = lb := by omega
  have hne' : ¬ lb = w.heap.size := by omega
  by_cases hz : d = 0
  · subst hz
    clear hd h0
    go_enter Tryz.func44, Tryz.ntmps44
    go_wp2_with (fail)
    go_ret
    exact ⟨rfl, (HC.out.put _).keep ((Below.refl _ _).alloc (Nat.le_refl _) _) (by simpa [World.setCell] using hlt), grow_trans (grow_set _ _ _ _) (grow_alloc _ _ _)⟩
  · have h1 : decide (m - 1 < 0) = true := decide_eq_true (by omega)
    have h2 : (d == 0) = false := beq_eq_false_iff_ne.2 hz
    have h3 : m - 1 < 0 := by omega
    clear hd h0
    go_enter Tryz.func44, Tryz.ntmps44
    go_wp2_with (fail)
    go_ret
    exact ⟨rfl, (HC.out.put _).keep ((Below.refl _ _).alloc (Nat.le_refl _) _) (by simpa [World.setCell] using hlt), grow_trans (grow_set _ _ _ _) (grow_alloc _ _ _)⟩

/-- The world of a node that goes on: its count is written, its box is there. -/
structure Node (w : World) (lb : Nat) (t : Ex) (u : Value) (m : Int) (W : World) : Prop where
  grown : w.grownBy W (some lb)
  cnt : Cnt W lb m
  box : W.heap[w.heap.size]? = some (.cells #[.string t.op, .int .i64 t.x.k, .int .i64 t.x.i, .string t.x.s, .string t.s, u] 29 (0, 0))
theorem box_cells {W : World} {b : Nat} {t : Ex} {u : Value} (h : W.heap[b]? = some (.cells #[.string t.op, .int .i64 t.x.k, .int .i64 t.x.i, .string t.x.s, .string t.s, u] 29 (0, 0))) : ExC W ⟨b, 0, none⟩ t u := by
  refine ⟨?_, ?_, ?_, ?_, ?_, ?_⟩ <;> · rw [Lib.cell_of_heap h]; rfl

set_option maxRecDepth 100000 in
set_option maxHeartbeats 4000000 in
theorem within_f (d : Nat) (hd : d ≤ 100) (t : Ex) (u : Value) (P : Nat → Prop) (N : Nat) (lb : Nat) (m : Int) (w : World) (ht : Tr w P N t u) (hm : 1 ≤ m) (hm' : m ≤ 1000) (hc : Cnt w lb m) (hf : fmT t = false) :
    Calls Tryz.prog 44 #[EVt t u, .int .i64 ((d : Int) + 1), .pointer (some ⟨lb, 0, none⟩)] w (Wit w lb (false, m - 1)) := by
  have HC := Lib.hid hc
  have hs := ht.1
  obtain ⟨A, cap, rfl, hn⟩ := ht.form
  have HF := Lib.hid hf
  clear hc ht hf
  cases t with
  | mk op x s l =>
  obtain ⟨k, i, vs⟩ := x
  unfold EVt
  simp only [Ex.op, Ex.x, Ex.s, Ex.l] at hs hn ⊢
  have hlt := HC.out.lt
  have e0 := HC.out.c0
  have ef := HC.out.fz 0
  have hne : ¬ w.heap.size = lb := by omega
  have hne' : ¬ lb = w.heap.size := by omega
  have h1 : decide (m - 1 < 0) = false := decide_eq_false (by omega)
  have h2 : ((d : Int) + 1 == 0) = false := beq_eq_false_iff_ne.2 (by omega)
  go_enter Tryz.func44, Tryz.ntmps44
  go_wp2_with (go_at_call 69; refine (formed_any _ _ _ _ _ _ _ _ _ hn hs).mono ?_; rintro e w1 ⟨rfl, hb1⟩; rw [show fmB op k i vs s l.length = false from HF.out])
  go_ret
  exact ⟨rfl, ((HC.out.put _).keep ((Below.refl _ _).alloc (Nat.le_refl _) _) (by simpa [World.setCell] using hlt)).keep hb1 (by simp [World.setCell]; omega), grow_trans (grow_trans (grow_set _ _ _ _) (grow_alloc _ _ _)) (grow_below hb1 _)⟩

theorem Sl.at_ {w : World} {P : Nat → Prop} {N : Nat} {l : List Ex} {A : Option Addr} {c n : Nat} (h : Sl w P N l (.slice A n c)) {j : Nat} (hj : j < l.length) : ∃ a u M, A = some a ∧ P a.block ∧ ExC w (a.add (j * 6)) l[j] u ∧ Tr w P M l[j] u ∧ M < N := by
  cases N with
  | zero => obtain ⟨rfl, _⟩ := h; simp at hj
  | succ M =>
    obtain ⟨A', cap, e, hl, hh⟩ := h
    obtain ⟨a, u, e1, hp, hc, hs, hr⟩ := hh j hj
    injection e with e2 _ _
    exact ⟨a, u, M, e2.trans e1, hp, hc, ⟨hs, hr⟩, Nat.lt_succ_self _⟩

theorem parts_t {f : Ex → Int → Bool × Int} {l : List Ex} {j : Nat} (hj : j < l.length) {m : Int} (h : (f l[j] m).1 = true) : partsF f (l.drop j) m = partsF f (l.drop (j + 1)) (f l[j] m).2 := by
  rw [List.drop_eq_getElem_cons hj]
  show (if (f l[j] m).1 = true then _ else _) = _
  rw [if_pos h]
theorem parts_f {f : Ex → Int → Bool × Int} {l : List Ex} {j : Nat} (hj : j < l.length) {m : Int} (h : (f l[j] m).1 = false) : partsF f (l.drop j) m = (false, (f l[j] m).2) := by
  rw [List.drop_eq_getElem_cons hj]
  show (if (f l[j] m).1 = true then _ else _) = _
  rw [if_neg (by rw [h]; decide)]

set_option maxRecDepth 100000 in
set_option maxHeartbeats 8000000 in
theorem within_t (d : Nat) (hd : d ≤ 100) (t : Ex) (u : Value) (P : Nat → Prop) (N : Nat) (lb : Nat) (hP : ¬ P lb) (m : Int) (w : World) (ht : Tr w P N t u) (hm : 1 ≤ m) (hm' : m ≤ 1000) (hc : Cnt w lb m) (hf : fmT t = true)
    (hrec : ∀ (t : Ex) (u : Value) (M : Nat) (m : Int) (w : World), Tr w P M t u → 0 ≤ m → m ≤ 1000 → Cnt w lb m → Calls Tryz.prog 44 #[EVt t u, .int .i64 d, .pointer (some ⟨lb, 0, none⟩)] w (Wit w lb (withinF d t m))) :
    Calls Tryz.prog 44 #[EVt t u, .int .i64 ((d : Int) + 1), .pointer (some ⟨lb, 0, none⟩)] w (Wit w lb (partsF (withinF d) t.l (m - 1))) := by
  have HR := Lib.hid hrec
  have HC := Lib.hid hc
  have hs := ht.1
  have HT := Lib.hid ht
  obtain ⟨A, cap, rfl, hn⟩ := ht.form
  have HF := Lib.hid hf
  clear hc ht hf hrec
  cases t with
  | mk op x s l =>
  obtain ⟨k, i, vs⟩ := x
  unfold EVt
  simp only [Ex.op, Ex.x, Ex.s, Ex.l] at hs hn ⊢
  have hlt := HC.out.lt
  have e0 := HC.out.c0
  have ef := HC.out.fz 0
  have hne : ¬ w.heap.size = lb := by omega
  have hne' : ¬ lb = w.heap.size := by omega
  have h1 : decide (m - 1 < 0) = false := decide_eq_false (by omega)
  have h2 : ((d : Int) + 1 == 0) = false := beq_eq_false_iff_ne.2 (by omega)
  obtain ⟨n, HN⟩ : ∃ n, Hid (l.length = n) := ⟨_, Lib.hid rfl⟩
  have HS : Hid (Sl w P N l (.slice A n cap)) := HN.out ▸ HT.out.2
  rw [HN.out] at hn ⊢
  unfold maxLen at hn
  go_enter Tryz.func44, Tryz.ntmps44
  go_wp2_with (go_at_call 69; refine (formed_any _ _ _ _ _ _ _ _ _ (by unfold maxLen; omega) hs).mono ?_; rintro e w1 ⟨rfl, hb1⟩; rw [show fmB op k i vs s n = true from HN.out ▸ HF.out]; have hc1 := (bcell hb1).1; have HB1 := Lib.hid hb1; have hy1 := hb1.size; (try simp [World.setCell] at hy1); have hz1 : w.heap.size < w1.heap.size := (by omega); clear hb1)
  have HW1 : Hid (w.grownBy w1 (some lb) ∧ Cnt w1 lb (m - 1)) :=
    ⟨grow_trans (grow_trans (grow_set _ _ _ _) (grow_alloc _ _ _)) (grow_below HB1.out _), ((HC.out.put _).keep ((Below.refl _ _).alloc (Nat.le_refl _) _) (by simpa [World.setCell] using hlt)).keep HB1.out (by simp [World.setCell]; omega)⟩
  clear HB1 hc1
  go_loopw [30] (fun iv wr => ∃ (j : Nat) (q : Int), iv = .int .i64 j ∧ j ≤ n ∧ 0 ≤ q ∧ q ≤ 1000 ∧ w.grownBy wr (some lb) ∧ Cnt wr lb q ∧ Hid (partsF (withinF d) l (m - 1) = partsF (withinF d) (l.drop j) q)) (fun iv _ => n - (intOf iv).toNat)
  case atStart => exact ⟨0, m - 1, rfl, by omega, by omega, by omega, HW1.out.1, HW1.out.2, rfl⟩
  case round =>
    obtain ⟨j, q, rfl, hj, hq, hq', hg, hcn, HP⟩ := hrel
    have HG := Lib.hid (And.intro hg hcn)
    by_cases hlt1 : j < n
    · have hjl : j < l.length := by rw [HN.out]; exact hlt1
      obtain ⟨a, u', M, rfl, hp, hE, hTr, _⟩ := HS.out.at_ hjl
      obtain ⟨A', cap', hu, _⟩ := hTr.form
      obtain ⟨n', hn'⟩ : ∃ n', n' = l[j].l.length := ⟨_, rfl⟩
      rw [← hn'] at hu
      clear hn'
      subst hu
      have hal : a.block < w.heap.size := by have := hE.lt; rwa [add_block] at this
      have hanl : a.block ≠ lb := fun e => hP (e ▸ hp)
      have hblk : wr.heap[a.block]? = w.heap[a.block]? := hg.block _ hal (fun e => hanl (by injection e))
      have hE' := hE.keep (W' := wr) (by rw [add_block]; exact hblk)
      have HT' := Lib.hid (hTr.grown hg hP)
      have HX := Lib.hid (parts_t (f := withinF d) hjl (m := q))
      have HY := Lib.hid (parts_f (f := withinF d) hjl (m := q))
      have HB := Lib.hid (within_bd d l[j] q hq)
      have c0 := hE'.c0
      have c1 := hE'.c1
      have c2 := hE'.c2
      have c3 := hE'.c3
      have c4 := hE'.c4
      have c5 := hE'.c5
      have hwl := hcn.lt
      clear hE hE' hTr hblk hg hcn
      generalize l[j] = y at c0 c1 c2 c3 c4 c5 HT' HX HY HB
      cases hb : (withinF d y q).1 with
      | true =>
        have HBT := Lib.hid hb
        clear hb
        go_wp2_with (go_at_call 44; refine (HR.out y _ M q _ (HT'.out.below ((Below.refl _ _).alloc (Nat.le_refl _) _)) hq hq' (HG.out.2.keep ((Below.refl _ _).alloc (Nat.le_refl _) _) hwl)).mono ?_; rintro e w2 ⟨rfl, hcn2, hg2⟩; rw [HBT.out]; have HG2 := Lib.hid (And.intro hcn2 hg2); clear hcn2 hg2)
        go_roundw
        case rel => exact ⟨j + 1, _, by go_num, by omega, HB.out.2.2 HBT.out, by have := HB.out.1; omega, grow_trans (grow_trans HG.out.1 (grow_alloc _ _ _)) HG2.out.2, HG2.out.1, HP.out.trans (HX.out HBT.out)⟩
        case measure => simp [intOf]; omega
      | false =>
        have HBT := Lib.hid hb
        clear hb
        go_wp2_with (go_at_call 44; refine (HR.out y _ M q _ (HT'.out.below ((Below.refl _ _).alloc (Nat.le_refl _) _)) hq hq' (HG.out.2.keep ((Below.refl _ _).alloc (Nat.le_refl _) _) hwl)).mono ?_; rintro e w2 ⟨rfl, hcn2, hg2⟩; rw [HBT.out]; have HG2 := Lib.hid (And.intro hcn2 hg2); clear hcn2 hg2)
        go_ret
        unfold Wit
        rw [HP.out, HY.out HBT.out]
        exact ⟨rfl, HG2.out.1, grow_trans (grow_trans HG.out.1 (grow_alloc _ _ _)) HG2.out.2⟩
    · obtain rfl : j = n := by omega
      clear hg hcn
      go_wp2_with (fail)
      go_ret
      unfold Wit
      rw [HP.out, List.drop_eq_nil_of_le (by rw [HN.out]; exact Nat.le_refl _)]
      exact ⟨rfl, HG.out.2, HG.out.1⟩

theorem within_any (P : Nat → Prop) (lb : Nat) (hP : ¬ P lb) : ∀ (d : Nat), d ≤ 100 → ∀ (t : Ex) (u : Value) (N : Nat) (m : Int) (w : World), Tr w P N t u → 0 ≤ m → m ≤ 1000 → Cnt w lb m →
    Calls Tryz.prog 44 #[EVt t u, .int .i64 d, .pointer (some ⟨lb, 0, none⟩)] w (Wit w lb (withinF d t m))
  | 0, _, t, u, N, m, w, ht, hm, hm', hc => by
    obtain ⟨A, cap, rfl, _⟩ := ht.form
    exact within_0 0 (.inl rfl) _ _ _ _ _ _ _ _ lb m w hm hm' hc (.inl rfl)
  | d + 1, hd, t, u, N, m, w, ht, hm, hm', hc => by
    by_cases h1 : m - 1 < 0
    · obtain ⟨A, cap, rfl, _⟩ := ht.form
      have e : withinF (d + 1) t m = (false, m - 1) := by unfold withinF; rw [if_pos h1]
      rw [e]
      exact within_0 _ (.inr ⟨by omega, by omega⟩) _ _ _ _ _ _ _ _ lb m w hm hm' hc (.inr h1)
    · cases hf : fmT t with
      | true =>
        have e : withinF (d + 1) t m = partsF (withinF d) t.l (m - 1) := by unfold withinF; rw [if_neg h1, if_pos hf]
        rw [e]
        exact within_t d (by omega) t u P N lb hP m w ht (by omega) hm' hc hf (fun t u M m w h1 h2 h3 h4 => within_any P lb hP d (by omega) t u M m w h1 h2 h3 h4)
      | false =>
        have e : withinF (d + 1) t m = (false, m - 1) := by unfold withinF; rw [if_neg h1, if_neg (by rw [hf]; decide)]
        rw [e]
        exact within_f d (by omega) t u P N lb m w ht (by omega) hm' hc hf

set_option maxRecDepth 100000 in
set_option maxHeartbeats 4000000 in
theorem emay_any (P : Nat → Prop) (N : Nat) (t : Ex) (u : Value) (w : World) (ht : Tr w P N t u) :
    Calls Tryz.prog 26 #[EVt t u] w fun e w' => e = .returned (.bool (mayT t)) ∧ Below w.heap.size w w' := by
  have HT := Lib.hid ht
  obtain ⟨A, cap, rfl, hn⟩ := ht.form
  clear ht
  have HQ : Hid (Tr ((w.alloc (.cells #[.string t.op, .int .i64 t.x.k, .int .i64 t.x.i, .string t.x.s, .string t.s, .slice A t.l.length cap] 29)).alloc (.cells #[.int .i64 60] 3)) (fun b => b < w.heap.size) N t (.slice A t.l.length cap)) :=
    HT.out.keep (fun b _ hl => by rw [Below.heap_alloc _ _ _ (by simp; omega), Below.heap_alloc _ _ _ hl]) (fun b _ hl => hl)
  obtain ⟨n, HN⟩ : ∃ n, Hid (t.l.length = n) := ⟨_, Lib.hid rfl⟩
  have HW : Hid (∀ W, Tr W (fun b => b < w.heap.size) N t (.slice A t.l.length cap) → Cnt W (w.heap.size + 1) 60 → Calls Tryz.prog 44 #[EVt t (.slice A t.l.length cap), .int .i64 12, .pointer (some ⟨w.heap.size + 1, 0, none⟩)] W (Wit W (w.heap.size + 1) (withinF 12 t 60))) :=
    fun W h1 h2 => within_any (fun b => b < w.heap.size) _ (by omega) 12 (by omega) t _ N 60 W h1 (by omega) (by omega) h2
  unfold EVt at HW ⊢
  rw [HN.out] at hn HW ⊢
  rw [HN.out] at HQ
  unfold maxLen at hn
  go_enter Tryz.func26, Tryz.ntmps26
  go_wp2_with (go_at_call 44; refine (HW.out _ HQ.out (Cnt.new (by simp) _)).mono ?_; rintro e w1 ⟨rfl, _, hg⟩)
  go_ret
  exact ⟨rfl, below_grow (((Below.refl _ _).alloc (Nat.le_refl _) _).alloc (by simp) _) hg (by simp) (by simp; omega)⟩
end Go.Proofs.YtchebhdndkaheaaGreatDoor

/- The map of functions that an expression's Ops are done by. -/
namespace Go.Proofs.YtchebhdndkaheaaGreatDoor
open Go.RowKit Go.Lib

def pairOf (e : MapEntry) : Value × Value := (e.key, e.val)
/-- Block r is a map of these texts. -/
def MapAt (W : World) (r : Nat) (es : List (ByteArray × Value)) : Prop := ∃ (m : Array MapEntry) (c : Nat), W.heap[r]? = some (.map m c) ∧ m.toList.map pairOf = es.map fun y => (.string y.1, y.2)
theorem MapAt.lt {W : World} {r : Nat} {es : List (ByteArray × Value)} (h : MapAt W r es) : r < W.heap.size := by obtain ⟨m, c, h, _⟩ := h; exact (Array.getElem?_eq_some_iff.1 h).1
theorem MapAt.keep {W W' : World} {r : Nat} {es : List (ByteArray × Value)} (h : MapAt W r es) (hb : W'.heap[r]? = W.heap[r]?) : MapAt W' r es := by obtain ⟨m, c, h, k⟩ := h; exact ⟨m, c, hb.trans h, k⟩
theorem MapAt.below {W W' : World} {r : Nat} {es : List (ByteArray × Value)} (h : MapAt W r es) (hb : Below W.heap.size W W') : MapAt W' r es := h.keep (hb.block r h.lt)
theorem MapAt.made (w : World) : MapAt (w.alloc (.map #[] 0)) w.heap.size [] := ⟨#[], 0, by show (w.heap.push _)[w.heap.size]? = _; simp, rfl⟩

theorem find_new {s : ByteArray} : ∀ {l : List MapEntry} {es : List (ByteArray × Value)} (i : Nat), l.map pairOf = es.map (fun y => (.string y.1, y.2)) → (∀ y ∈ es, (s == y.1) = false) → Instr.findNow .string (.string s) l i = some none
  | [], _, _, _, _ => rfl
  | e :: l, [], _, h, _ => by simp at h
  | e :: l, y :: es, i, h, hn => by
    simp only [List.map_cons, List.cons.injEq] at h
    obtain ⟨h1, h2⟩ := h
    have hk : e.key = .string y.1 := congrArg Prod.fst h1
    have hs : (s == y.1) = false := hn y List.mem_cons_self
    show (match Instr.sameNow .string (.string s) e.key with | some true => _ | some false => _ | none => _) = _
    rw [hk]
    simp only [Instr.sameNow, hs]
    exact find_new (i + 1) h2 fun z hz => hn z (List.mem_cons_of_mem _ hz)
theorem find_is {s : ByteArray} {v : Value} : ∀ {l : List MapEntry} {es : List (ByteArray × Value)} (i : Nat), l.map pairOf = es.map (fun y => (.string y.1, y.2)) → es.find? (fun y => s == y.1) = some (s, v) → ∃ j, Instr.findNow .string (.string s) l i = some (some (j, v))
  | [], [], _, _, hf => by simp at hf
  | [], y :: es, _, h, _ => by simp at h
  | e :: l, [], _, h, _ => by simp at h
  | e :: l, y :: es, i, h, hf => by
    simp only [List.map_cons, List.cons.injEq] at h
    obtain ⟨h1, h2⟩ := h
    have hk : e.key = .string y.1 := congrArg Prod.fst h1
    have hv : e.val = y.2 := congrArg Prod.snd h1
    cases hs : s == y.1 with
    | true =>
      rw [List.find?_cons_of_pos (by exact hs)] at hf
      injection hf with hf
      refine ⟨i, ?_⟩
      show (match Instr.sameNow .string (.string s) e.key with | some true => _ | some false => _ | none => _) = _
      rw [hk]
      simp only [Instr.sameNow]
      rw [hs, hv, hf]
    | false =>
      rw [List.find?_cons_of_neg (by rw [hs]; decide)] at hf
      obtain ⟨j, hj⟩ := find_is (i + 1) h2 hf
      refine ⟨j, ?_⟩
      show (match Instr.sameNow .string (.string s) e.key with | some true => _ | some false => _ | none => _) = _
      rw [hk]
      simp only [Instr.sameNow, hs]
      exact hj

theorem MapAt.insert {P : Program} {w : World} {r : Nat} {es : List (ByteArray × Value)} (h : MapAt w r es) {t k e : TypeId} (ht : P.underlying t = some (.map k e)) (hk : P.underlying k = some .string) {s : ByteArray} (v : Value) (hn : ∀ y ∈ es, (s == y.1) = false) :
    ∃ w', (Instr.mapUpdate t (.map (some r)) (.string s) v).run P w = .ok () w' ∧ MapAt w' r (es ++ [(s, v)]) ∧ w.grownBy w' (some r) := by
  obtain ⟨m, c, hb, hm⟩ := h
  have hf := find_new (s := s) 0 hm hn
  have hc : (Instr.checkKey false 10000 k (.string s)).run P w = .ok () w := MapKept.run_checkKey (k := .string s) hk (by simp [MapKept.IsKey]) false 9999
  refine ⟨{ w with heap := w.heap.setIfInBounds r (.map (m.push { key := .string s, val := v, born := c }) (c + 1)) }, ?_, ⟨_, _, (MapKept.heap_set hb).1, ?_⟩, ⟨rfl, rfl, rfl, by simp, fun q hq hne => (MapKept.heap_set hb).2 q (fun e => hne (by rw [e]))⟩⟩
  · simp [Instr.mapUpdate, run_underlying ht, MapKept.run_getObj_map hb, hc, MapKept.run_findKey hk hf, MapKept.run_setObj_map _ hb, Result.andThen]
  · simp [hm, pairOf]

theorem MapAt.look {P : Program} {w : World} {r : Nat} {es : List (ByteArray × Value)} (h : MapAt w r es) {t k e : TypeId} (ht : P.underlying t = some (.map k e)) (hk : P.underlying k = some .string) {s : ByteArray} {v : Value} (hf : es.find? (fun y => s == y.1) = some (s, v)) :
    (Instr.lookup t (.map (some r)) (.string s) false).run P w = .ok v w := by
  obtain ⟨m, c, hb, hm⟩ := h
  obtain ⟨j, hj⟩ := find_is (s := s) 0 hm hf
  have hc : (Instr.checkKey m.isEmpty 10000 k (.string s)).run P w = .ok () w := MapKept.run_checkKey (k := .string s) hk (by simp [MapKept.IsKey]) m.isEmpty 9999
  simp [Instr.lookup, run_underlying ht, MapKept.run_getObj_map hb, hc, MapKept.run_findKey hk hj, Result.andThen]

/-- A map's new entry, at the operation. -/
theorem wpList_insert_new {P : Program} (w : World) {ops : Array Oper} {rest : List Oper} {o : Oper} {a : Act} {Q : Exit → Act → World → Prop}
    (hg : o.guard = none) (m x v : Operand) (t : TypeId) (hop : o.op = Op.insert t m x v) (k e : TypeId) (ht : P.underlying t = some (.map k e)) (hk : P.underlying k = some .string) (r : Nat) (es : List (ByteArray × Value))
    (hm : a.eval m = .map (some r)) (hat : MapAt w r es) (s : ByteArray) (val : Value) (hx : a.eval x = .string s) (hv : a.eval v = val) (hn : ∀ y ∈ es, (s == y.1) = false)
    (hK : ∀ w', MapAt w' r (es ++ [(s, val)]) → w.grownBy w' (some r) → wpList P ops Q rest (a.put o.dst undef) w') :
    wpList P ops Q (o :: rest) a w := by
  refine wpList_plain hg fun K' hK' => ?_
  obtain ⟨w', hrun, r1, r2⟩ := hat.insert ht hk val hn
  unfold Oper.wp
  simp [execOp, hop, hm, hx, hv, hrun, Result.andThen]
  exact hK' _ _ (hK w' r1 r2)

/-- A closure that does f with the values of a slice. -/
def Clo (W : World) (v : Value) (K f : Nat) : Prop := ∃ b, v = .func (.func K) #[] #[.pointer (some ⟨b, 0, none⟩)] ∧ W.cell? ⟨b, 0, none⟩ = some (.func (.func f) #[] #[])
theorem Clo.keep {W W' : World} {v : Value} {K f : Nat} (h : Clo W v K f) (hb : ∀ b, b < W.heap.size → (∃ u, W.cell? ⟨b, 0, none⟩ = some u ∧ u.oneCell' = true) → W'.heap[b]? = W.heap[b]?) : Clo W' v K f := by
  obtain ⟨b, e, hc⟩ := h
  exact ⟨b, e, (World.cell?_of_block (w := W) (a := ⟨b, 0, none⟩) (hb b (World.block_lt_of_cell? W _ hc) ⟨_, hc, rfl⟩)).trans hc⟩
theorem Clo.below {W W' : World} {v : Value} {K f : Nat} (h : Clo W v K f) (hb : Below W.heap.size W W') : Clo W' v K f := h.keep fun b hl _ => hb.block b hl
theorem Clo.map {W W' : World} {v : Value} {K f r : Nat} {es : List (ByteArray × Value)} (h : Clo W v K f) (hg : W.grownBy W' (some r)) (hr : MapAt W r es) : Clo W' v K f := h.keep fun b hl hu => hg.block b hl fun e => by
  injection e with e
  subst e
  obtain ⟨m, c, hb, _⟩ := hr
  obtain ⟨u, hc, _⟩ := hu
  simp [World.cell?, hb] at hc

set_option maxRecDepth 100000 in
set_option maxHeartbeats 1600000 in
theorem one_any (f : Nat) (w : World) :
    Calls Tryz.prog 45 #[.func (.func f) #[] #[]] w fun e w' => ∃ v, e = .returned v ∧ Clo w' v 70 f ∧ Below w.heap.size w w' := by
  go_enter Tryz.func45, Tryz.ntmps45
  go_wp2_with (fail)
  go_ret
  exact ⟨_, rfl, ⟨_, rfl, by simp [go_sem]⟩, (Below.refl _ _).alloc (Nat.le_refl _) _⟩

set_option maxRecDepth 100000 in
set_option maxHeartbeats 1600000 in
theorem two_any (f : Nat) (w : World) :
    Calls Tryz.prog 48 #[.func (.func f) #[] #[]] w fun e w' => ∃ v, e = .returned v ∧ Clo w' v 75 f ∧ Below w.heap.size w w' := by
  go_enter Tryz.func48, Tryz.ntmps48
  go_wp2_with (fail)
  go_ret
  exact ⟨_, rfl, ⟨_, rfl, by simp [go_sem]⟩, (Below.refl _ _).alloc (Nat.le_refl _) _⟩

/-- Block r is the map of what each Op does. -/
structure Does (W : World) (r : Nat) (v0 v1 v2 v3 v4 v5 v6 v7 : Value) : Prop where
  map : MapAt W r [(⟨#[110, 111, 116]⟩, v0), (⟨#[110, 117, 108, 108]⟩, v1), (⟨#[97, 110, 100]⟩, v2), (⟨#[111, 114]⟩, v3), (⟨#[61]⟩, v4), (⟨#[60]⟩, v5), (⟨#[43]⟩, v6), (⟨#[45]⟩, v7)]
  c0 : Clo W v0 70 46
  c1 : Clo W v1 70 47
  c2 : Clo W v2 75 49
  c3 : Clo W v3 75 50
  c4 : Clo W v4 75 51
  c5 : Clo W v5 75 52
  c6 : Clo W v6 75 53
  c7 : Clo W v7 75 54
theorem Does.below {W W' : World} {r : Nat} {v0 v1 v2 v3 v4 v5 v6 v7 : Value} (h : Does W r v0 v1 v2 v3 v4 v5 v6 v7) (hb : Below W.heap.size W W') : Does W' r v0 v1 v2 v3 v4 v5 v6 v7 :=
  ⟨h.map.below hb, h.c0.below hb, h.c1.below hb, h.c2.below hb, h.c3.below hb, h.c4.below hb, h.c5.below hb, h.c6.below hb, h.c7.below hb⟩

set_option maxRecDepth 100000 in
set_option maxHeartbeats 4000000 in
theorem doings_any (w : World) :
    Calls Tryz.prog 27 #[] w fun e w' => ∃ r v0 v1 v2 v3 v4 v5 v6 v7, e = .returned (.map (some r)) ∧ Does w' r v0 v1 v2 v3 v4 v5 v6 v7 ∧ Below w.heap.size w w' := by
  have hmm := @run_makeMap Tryz.prog
  go_enter Tryz.func27, Tryz.ntmps27
  have HM0 := Lib.hid (MapAt.made w)
  have HB0 : Hid (Below w.heap.size w (w.alloc (.map #[] 0))) := (Below.refl _ _).alloc (Nat.le_refl _) _
  go_wp2_with (go_at_call 45; refine (one_any _ _).mono ?_)
  rintro e x0 ⟨v0, rfl, hk0, hb0⟩
  have HMx0 := Lib.hid (HM0.out.below hb0)
  have HBx0 : Hid (Below w.heap.size w x0) := HB0.out.trans (hb0.mono HB0.out.size)
  have HCx0 := Lib.hid hk0
  clear hk0 hb0
  go_wp2_with (with_reducible refine wpList_insert_new _ rfl _ _ _ 66 rfl 9 89 Tryz.underlying66 Tryz.underlying9 w.heap.size [] rfl HMx0.out ⟨#[110, 111, 116]⟩ _ rfl rfl ?n0 ?k0)
  case n0 => intro y hy; cases hy
  intro y0 hm0 hg0
  have HM1 := Lib.hid hm0
  have HB1 : Hid (Below w.heap.size w y0) := below_grow HBx0.out hg0 (Nat.le_refl _) HBx0.out.size
  have HC1_0 := Lib.hid (HCx0.out.map hg0 HMx0.out)
  clear hm0 hg0
  go_wp2_with (go_at_call 45; refine (one_any _ _).mono ?_)
  rintro e x1 ⟨v1, rfl, hk1, hb1⟩
  have HMx1 := Lib.hid (HM1.out.below hb1)
  have HBx1 : Hid (Below w.heap.size w x1) := HB1.out.trans (hb1.mono HB1.out.size)
  have HCx1 := Lib.hid hk1
  have HCx1_0 := Lib.hid (HC1_0.out.below hb1)
  clear hk1 hb1
  go_wp2_with (with_reducible refine wpList_insert_new _ rfl _ _ _ 66 rfl 9 89 Tryz.underlying66 Tryz.underlying9 w.heap.size [(⟨#[110, 111, 116]⟩, v0)] rfl HMx1.out ⟨#[110, 117, 108, 108]⟩ _ rfl rfl ?n1 ?k1)
  case n1 => intro y hy; simp at hy; rcases hy with rfl <;> rfl
  intro y1 hm1 hg1
  have HM2 := Lib.hid hm1
  have HB2 : Hid (Below w.heap.size w y1) := below_grow HBx1.out hg1 (Nat.le_refl _) HBx1.out.size
  have HC2_1 := Lib.hid (HCx1.out.map hg1 HMx1.out)
  have HC2_0 := Lib.hid (HCx1_0.out.map hg1 HMx1.out)
  clear hm1 hg1
  go_wp2_with (go_at_call 48; refine (two_any _ _).mono ?_)
  rintro e x2 ⟨v2, rfl, hk2, hb2⟩
  have HMx2 := Lib.hid (HM2.out.below hb2)
  have HBx2 : Hid (Below w.heap.size w x2) := HB2.out.trans (hb2.mono HB2.out.size)
  have HCx2 := Lib.hid hk2
  have HCx2_0 := Lib.hid (HC2_0.out.below hb2)
  have HCx2_1 := Lib.hid (HC2_1.out.below hb2)
  clear hk2 hb2
  go_wp2_with (with_reducible refine wpList_insert_new _ rfl _ _ _ 66 rfl 9 89 Tryz.underlying66 Tryz.underlying9 w.heap.size [(⟨#[110, 111, 116]⟩, v0), (⟨#[110, 117, 108, 108]⟩, v1)] rfl HMx2.out ⟨#[97, 110, 100]⟩ _ rfl rfl ?n2 ?k2)
  case n2 => intro y hy; simp at hy; rcases hy with rfl | rfl <;> rfl
  intro y2 hm2 hg2
  have HM3 := Lib.hid hm2
  have HB3 : Hid (Below w.heap.size w y2) := below_grow HBx2.out hg2 (Nat.le_refl _) HBx2.out.size
  have HC3_2 := Lib.hid (HCx2.out.map hg2 HMx2.out)
  have HC3_0 := Lib.hid (HCx2_0.out.map hg2 HMx2.out)
  have HC3_1 := Lib.hid (HCx2_1.out.map hg2 HMx2.out)
  clear hm2 hg2
  go_wp2_with (go_at_call 48; refine (two_any _ _).mono ?_)
  rintro e x3 ⟨v3, rfl, hk3, hb3⟩
  have HMx3 := Lib.hid (HM3.out.below hb3)
  have HBx3 : Hid (Below w.heap.size w x3) := HB3.out.trans (hb3.mono HB3.out.size)
  have HCx3 := Lib.hid hk3
  have HCx3_0 := Lib.hid (HC3_0.out.below hb3)
  have HCx3_1 := Lib.hid (HC3_1.out.below hb3)
  have HCx3_2 := Lib.hid (HC3_2.out.below hb3)
  clear hk3 hb3
  go_wp2_with (with_reducible refine wpList_insert_new _ rfl _ _ _ 66 rfl 9 89 Tryz.underlying66 Tryz.underlying9 w.heap.size [(⟨#[110, 111, 116]⟩, v0), (⟨#[110, 117, 108, 108]⟩, v1), (⟨#[97, 110, 100]⟩, v2)] rfl HMx3.out ⟨#[111, 114]⟩ _ rfl rfl ?n3 ?k3)
  case n3 => intro y hy; simp at hy; rcases hy with rfl | rfl | rfl <;> rfl
  intro y3 hm3 hg3
  have HM4 := Lib.hid hm3
  have HB4 : Hid (Below w.heap.size w y3) := below_grow HBx3.out hg3 (Nat.le_refl _) HBx3.out.size
  have HC4_3 := Lib.hid (HCx3.out.map hg3 HMx3.out)
  have HC4_0 := Lib.hid (HCx3_0.out.map hg3 HMx3.out)
  have HC4_1 := Lib.hid (HCx3_1.out.map hg3 HMx3.out)
  have HC4_2 := Lib.hid (HCx3_2.out.map hg3 HMx3.out)
  clear hm3 hg3
  go_wp2_with (go_at_call 48; refine (two_any _ _).mono ?_)
  rintro e x4 ⟨v4, rfl, hk4, hb4⟩
  have HMx4 := Lib.hid (HM4.out.below hb4)
  have HBx4 : Hid (Below w.heap.size w x4) := HB4.out.trans (hb4.mono HB4.out.size)
  have HCx4 := Lib.hid hk4
  have HCx4_0 := Lib.hid (HC4_0.out.below hb4)
  have HCx4_1 := Lib.hid (HC4_1.out.below hb4)
  have HCx4_2 := Lib.hid (HC4_2.out.below hb4)
  have HCx4_3 := Lib.hid (HC4_3.out.below hb4)
  clear hk4 hb4
  go_wp2_with (with_reducible refine wpList_insert_new _ rfl _ _ _ 66 rfl 9 89 Tryz.underlying66 Tryz.underlying9 w.heap.size [(⟨#[110, 111, 116]⟩, v0), (⟨#[110, 117, 108, 108]⟩, v1), (⟨#[97, 110, 100]⟩, v2), (⟨#[111, 114]⟩, v3)] rfl HMx4.out ⟨#[61]⟩ _ rfl rfl ?n4 ?k4)
  case n4 => intro y hy; simp at hy; rcases hy with rfl | rfl | rfl | rfl <;> rfl
  intro y4 hm4 hg4
  have HM5 := Lib.hid hm4
  have HB5 : Hid (Below w.heap.size w y4) := below_grow HBx4.out hg4 (Nat.le_refl _) HBx4.out.size
  have HC5_4 := Lib.hid (HCx4.out.map hg4 HMx4.out)
  have HC5_0 := Lib.hid (HCx4_0.out.map hg4 HMx4.out)
  have HC5_1 := Lib.hid (HCx4_1.out.map hg4 HMx4.out)
  have HC5_2 := Lib.hid (HCx4_2.out.map hg4 HMx4.out)
  have HC5_3 := Lib.hid (HCx4_3.out.map hg4 HMx4.out)
  clear hm4 hg4
  go_wp2_with (go_at_call 48; refine (two_any _ _).mono ?_)
  rintro e x5 ⟨v5, rfl, hk5, hb5⟩
  have HMx5 := Lib.hid (HM5.out.below hb5)
  have HBx5 : Hid (Below w.heap.size w x5) := HB5.out.trans (hb5.mono HB5.out.size)
  have HCx5 := Lib.hid hk5
  have HCx5_0 := Lib.hid (HC5_0.out.below hb5)
  have HCx5_1 := Lib.hid (HC5_1.out.below hb5)
  have HCx5_2 := Lib.hid (HC5_2.out.below hb5)
  have HCx5_3 := Lib.hid (HC5_3.out.below hb5)
  have HCx5_4 := Lib.hid (HC5_4.out.below hb5)
  clear hk5 hb5
  go_wp2_with (with_reducible refine wpList_insert_new _ rfl _ _ _ 66 rfl 9 89 Tryz.underlying66 Tryz.underlying9 w.heap.size [(⟨#[110, 111, 116]⟩, v0), (⟨#[110, 117, 108, 108]⟩, v1), (⟨#[97, 110, 100]⟩, v2), (⟨#[111, 114]⟩, v3), (⟨#[61]⟩, v4)] rfl HMx5.out ⟨#[60]⟩ _ rfl rfl ?n5 ?k5)
  case n5 => intro y hy; simp at hy; rcases hy with rfl | rfl | rfl | rfl | rfl <;> rfl
  intro y5 hm5 hg5
  have HM6 := Lib.hid hm5
  have HB6 : Hid (Below w.heap.size w y5) := below_grow HBx5.out hg5 (Nat.le_refl _) HBx5.out.size
  have HC6_5 := Lib.hid (HCx5.out.map hg5 HMx5.out)
  have HC6_0 := Lib.hid (HCx5_0.out.map hg5 HMx5.out)
  have HC6_1 := Lib.hid (HCx5_1.out.map hg5 HMx5.out)
  have HC6_2 := Lib.hid (HCx5_2.out.map hg5 HMx5.out)
  have HC6_3 := Lib.hid (HCx5_3.out.map hg5 HMx5.out)
  have HC6_4 := Lib.hid (HCx5_4.out.map hg5 HMx5.out)
  clear hm5 hg5
  go_wp2_with (go_at_call 48; refine (two_any _ _).mono ?_)
  rintro e x6 ⟨v6, rfl, hk6, hb6⟩
  have HMx6 := Lib.hid (HM6.out.below hb6)
  have HBx6 : Hid (Below w.heap.size w x6) := HB6.out.trans (hb6.mono HB6.out.size)
  have HCx6 := Lib.hid hk6
  have HCx6_0 := Lib.hid (HC6_0.out.below hb6)
  have HCx6_1 := Lib.hid (HC6_1.out.below hb6)
  have HCx6_2 := Lib.hid (HC6_2.out.below hb6)
  have HCx6_3 := Lib.hid (HC6_3.out.below hb6)
  have HCx6_4 := Lib.hid (HC6_4.out.below hb6)
  have HCx6_5 := Lib.hid (HC6_5.out.below hb6)
  clear hk6 hb6
  go_wp2_with (with_reducible refine wpList_insert_new _ rfl _ _ _ 66 rfl 9 89 Tryz.underlying66 Tryz.underlying9 w.heap.size [(⟨#[110, 111, 116]⟩, v0), (⟨#[110, 117, 108, 108]⟩, v1), (⟨#[97, 110, 100]⟩, v2), (⟨#[111, 114]⟩, v3), (⟨#[61]⟩, v4), (⟨#[60]⟩, v5)] rfl HMx6.out ⟨#[43]⟩ _ rfl rfl ?n6 ?k6)
  case n6 => intro y hy; simp at hy; rcases hy with rfl | rfl | rfl | rfl | rfl | rfl <;> rfl
  intro y6 hm6 hg6
  have HM7 := Lib.hid hm6
  have HB7 : Hid (Below w.heap.size w y6) := below_grow HBx6.out hg6 (Nat.le_refl _) HBx6.out.size
  have HC7_6 := Lib.hid (HCx6.out.map hg6 HMx6.out)
  have HC7_0 := Lib.hid (HCx6_0.out.map hg6 HMx6.out)
  have HC7_1 := Lib.hid (HCx6_1.out.map hg6 HMx6.out)
  have HC7_2 := Lib.hid (HCx6_2.out.map hg6 HMx6.out)
  have HC7_3 := Lib.hid (HCx6_3.out.map hg6 HMx6.out)
  have HC7_4 := Lib.hid (HCx6_4.out.map hg6 HMx6.out)
  have HC7_5 := Lib.hid (HCx6_5.out.map hg6 HMx6.out)
  clear hm6 hg6
  go_wp2_with (go_at_call 48; refine (two_any _ _).mono ?_)
  rintro e x7 ⟨v7, rfl, hk7, hb7⟩
  have HMx7 := Lib.hid (HM7.out.below hb7)
  have HBx7 : Hid (Below w.heap.size w x7) := HB7.out.trans (hb7.mono HB7.out.size)
  have HCx7 := Lib.hid hk7
  have HCx7_0 := Lib.hid (HC7_0.out.below hb7)
  have HCx7_1 := Lib.hid (HC7_1.out.below hb7)
  have HCx7_2 := Lib.hid (HC7_2.out.below hb7)
  have HCx7_3 := Lib.hid (HC7_3.out.below hb7)
  have HCx7_4 := Lib.hid (HC7_4.out.below hb7)
  have HCx7_5 := Lib.hid (HC7_5.out.below hb7)
  have HCx7_6 := Lib.hid (HC7_6.out.below hb7)
  clear hk7 hb7
  go_wp2_with (with_reducible refine wpList_insert_new _ rfl _ _ _ 66 rfl 9 89 Tryz.underlying66 Tryz.underlying9 w.heap.size [(⟨#[110, 111, 116]⟩, v0), (⟨#[110, 117, 108, 108]⟩, v1), (⟨#[97, 110, 100]⟩, v2), (⟨#[111, 114]⟩, v3), (⟨#[61]⟩, v4), (⟨#[60]⟩, v5), (⟨#[43]⟩, v6)] rfl HMx7.out ⟨#[45]⟩ _ rfl rfl ?n7 ?k7)
  case n7 => intro y hy; simp at hy; rcases hy with rfl | rfl | rfl | rfl | rfl | rfl | rfl <;> rfl
  intro y7 hm7 hg7
  have HM8 := Lib.hid hm7
  have HB8 : Hid (Below w.heap.size w y7) := below_grow HBx7.out hg7 (Nat.le_refl _) HBx7.out.size
  have HC8_7 := Lib.hid (HCx7.out.map hg7 HMx7.out)
  have HC8_0 := Lib.hid (HCx7_0.out.map hg7 HMx7.out)
  have HC8_1 := Lib.hid (HCx7_1.out.map hg7 HMx7.out)
  have HC8_2 := Lib.hid (HCx7_2.out.map hg7 HMx7.out)
  have HC8_3 := Lib.hid (HCx7_3.out.map hg7 HMx7.out)
  have HC8_4 := Lib.hid (HCx7_4.out.map hg7 HMx7.out)
  have HC8_5 := Lib.hid (HCx7_5.out.map hg7 HMx7.out)
  have HC8_6 := Lib.hid (HCx7_6.out.map hg7 HMx7.out)
  clear hm7 hg7
  go_wp2_with (fail)
  go_ret
  exact ⟨_, _, _, _, _, _, _, _, _, rfl, ⟨HM8.out, HC8_0.out, HC8_1.out, HC8_2.out, HC8_3.out, HC8_4.out, HC8_5.out, HC8_6.out, HC8_7.out⟩, HB8.out⟩
end Go.Proofs.YtchebhdndkaheaaGreatDoor

/- The document's own Plus and Minus; what Equal, Less, Plus, Minus come to, whatever the two are. -/
namespace Go.Proofs.YtchebhdndkaheaaGreatDoor
open Go.RowKit Go.Lib

end Go.Proofs.YtchebhdndkaheaaGreatDoor
