import Derived.Test.YtmhkmliebhbkdaaGreatX04
import Derived.LoopTactic
import Derived.Lib.IndexLaws
import Derived.Lib.ReplaceLaws
import Derived.Lib.ParseIntBTie
import Derived.Lib.AtoiAllCases
import Derived.Test.YtmhkmliebhbkdaaGreatX03
import Derived.Shelf.Strconv.ParseIntPublic10
import Derived.Laws.EntriesVeiled
import Derived.Deep.DeepCutAuto

/- Kinds of octets: letter, digit, inWord, isSign, none; how many octets stand together; may one of a kind be. -/
namespace Go.Proofs.YtmhkmliebhbkdaaGreat
open Go.RowKit Go.Lib

theorem nonempty_of' {s : ByteArray} (h : 0 < s.size) : s.toList.isEmpty = false := by
  rw [toList_data]
  cases hl : s.data.toList with
  | nil =>
    have h2 : s.size = 0 := by rw [Lib.size_eq, hl]; rfl
    omega
  | cons _ _ => rfl
set_option maxRecDepth 100000 in
set_option maxHeartbeats 800000 in
theorem letter_any (b : UInt8) (w : World) :
    Calls Tryz.prog 166 #[.int .u8 (b.toNat : Int)] w fun e w' => e = .returned (.bool (letB b)) ∧ Below w.heap.size w w' := by
  go_enter Tryz.func166, Tryz.ntmps166
  go_wp2
  all_goals
    go_ret
    refine ⟨ret_bool ?_, ?_⟩
    · (first | (simp [letB, *]; done) | (simp [letB, *]; rw [Bool.eq_iff_iff]; simp; omega) | (simp [letB, *]; omega) | (unfold letB; rw [Bool.eq_iff_iff]; simp; omega) | (unfold letB; simp_all <;> omega))
    · (first | exact hb1.trans (hb2.mono hb1.size) | exact hb1 | (repeat (first | (with_reducible exact Below.refl _ _) | ((with_reducible refine cSet3 ?_ ?_ _ _ _); (· ((try simp) <;> omega))) | (with_reducible refine Below.drew ?_) | ((with_reducible refine cAlloc ?_ ?_ _); (· ((try simp) <;> omega))) | ((with_reducible refine cOn (by assumption) ?_ ?_); (· ((try simp) <;> omega))))))

set_option maxRecDepth 100000 in
set_option maxHeartbeats 800000 in
theorem digit_any (b : UInt8) (w : World) :
    Calls Tryz.prog 169 #[.int .u8 (b.toNat : Int)] w fun e w' => e = .returned (.bool (digB b)) ∧ Below w.heap.size w w' := by
  go_enter Tryz.func169, Tryz.ntmps169
  go_wp2
  all_goals
    go_ret
    refine ⟨ret_bool ?_, ?_⟩
    · (first | (simp [digB, *]; done) | (simp [digB, *]; rw [Bool.eq_iff_iff]; simp; omega) | (simp [digB, *]; omega) | (unfold digB; rw [Bool.eq_iff_iff]; simp; omega) | (unfold digB; simp_all <;> omega))
    · (first | exact hb1.trans (hb2.mono hb1.size) | exact hb1 | (repeat (first | (with_reducible exact Below.refl _ _) | ((with_reducible refine cSet3 ?_ ?_ _ _ _); (· ((try simp) <;> omega))) | (with_reducible refine Below.drew ?_) | ((with_reducible refine cAlloc ?_ ?_ _); (· ((try simp) <;> omega))) | ((with_reducible refine cOn (by assumption) ?_ ?_); (· ((try simp) <;> omega))))))

set_option maxRecDepth 100000 in
set_option maxHeartbeats 800000 in
theorem inWord_any (b : UInt8) (w : World) :
    Calls Tryz.prog 167 #[.int .u8 (b.toNat : Int)] w fun e w' => e = .returned (.bool (parB b)) ∧ Below w.heap.size w w' := by
  go_enter Tryz.func167, Tryz.ntmps167
  go_wp2_with (first
    | (go_at_call 166; refine (letter_any b _).mono ?_; rintro e w1 ⟨rfl, hb1⟩)
    | (go_at_call 169; refine (digit_any b _).mono ?_; rintro e w2 ⟨rfl, hb2⟩))
  all_goals
    go_ret
    refine ⟨ret_bool ?_, ?_⟩
    · (first | (simp [parB, *]; done) | (simp [parB, *]; rw [Bool.eq_iff_iff]; simp; omega) | (simp [parB, *]; omega) | (unfold parB; rw [Bool.eq_iff_iff]; simp; omega) | (unfold parB; simp_all <;> omega))
    · (first | exact hb1.trans (hb2.mono hb1.size) | exact hb1 | (repeat (first | (with_reducible exact Below.refl _ _) | ((with_reducible refine cSet3 ?_ ?_ _ _ _); (· ((try simp) <;> omega))) | (with_reducible refine Below.drew ?_) | ((with_reducible refine cAlloc ?_ ?_ _); (· ((try simp) <;> omega))) | ((with_reducible refine cOn (by assumption) ?_ ?_); (· ((try simp) <;> omega))))))

/-- A function that tells octets. -/
structure Cls (f : Nat) (p : UInt8 → Bool) : Prop where
  enter : ∀ args w, (callFunc f args).run Tryz.prog w = .ok (.enter f args) w
  gives : ∀ (b : UInt8) (w : World), Calls Tryz.prog f #[.int .u8 (b.toNat : Int)] w fun e w' => e = .returned (.bool (p b)) ∧ Below w.heap.size w w'
theorem cls_letter : Cls 166 letB := ⟨enters_of Tryz.func166 (by kernel_rfl) rfl, letter_any⟩
theorem cls_inWord : Cls 167 parB := ⟨enters_of Tryz.func167 (by kernel_rfl) rfl, inWord_any⟩
set_option maxRecDepth 100000 in
set_option maxHeartbeats 1600000 in
theorem tog_0 (num most : Int) (f g : Nat) (p q : UInt8 → Bool) (hf : Cls f p) (hg : Cls g q) (s : ByteArray) (w : World) (hs : s.size ≤ 100000) (h0 : s.toList = []) :
    Calls Tryz.prog 168 #[.agg #[.int .i64 num, .int .i64 most, .func (.func f) #[] #[], .func (.func g) #[] #[]], .string s] w fun e w' => e = .returned (.int .i64 0) ∧ Below w.heap.size w w' := by
  have HF := Lib.hid hf
  have HG := Lib.hid hg
  have ef := hf.enter
  have eg := hg.enter
  clear hf hg
  have h0' : s.toList.isEmpty = true := by rw [h0]; rfl
  go_enter Tryz.func168, Tryz.ntmps168
  go_wp2
  refine detL_begin [.val (.string s), .val (.bool true), .val (.bool true), .val (undef), .val (undef), .val (undef), .val (undef), .val (undef), .val (undef), .val (.bool true)] 10 (by kernel_rfl) ?_
  refine detL_val (by kernel_rfl) (yields_of rfl fun w1 hb1 => ?_) ?_
  · have hc1 := bcellD hb1
    clear hb1
    go_simp
    exact Det1_same
  simp only [Act.put, List.setIfInBounds_toArray, List.set_cons_zero, List.set_cons_succ]
  refine detL_val (by kernel_rfl) (yields_of rfl fun w1 hb1 => ?_) ?_
  · have hc1 := bcellD hb1
    clear hb1
    go_simp
    exact Det1_same
  simp only [Act.put, List.setIfInBounds_toArray, List.set_cons_zero, List.set_cons_succ]
  refine detL_val (by kernel_rfl) (yields_of rfl fun w1 hb1 => ?_) ?_
  · have hc1 := bcellD hb1
    clear hb1
    go_simp
    exact Det1_same
  simp only [Act.put, List.setIfInBounds_toArray, List.set_cons_zero, List.set_cons_succ]
  refine detL_val (by kernel_rfl) (yields_not rfl) ?_
  simp only [Act.put, List.setIfInBounds_toArray, List.set_cons_zero, List.set_cons_succ]
  refine detL_val (by kernel_rfl) (yields_not rfl) ?_
  simp only [Act.put, List.setIfInBounds_toArray, List.set_cons_zero, List.set_cons_succ]
  refine detL_val (by kernel_rfl) (yields_not rfl) ?_
  simp only [Act.put, List.setIfInBounds_toArray, List.set_cons_zero, List.set_cons_succ]
  refine detL_val (by kernel_rfl) (yields_not rfl) ?_
  simp only [Act.put, List.setIfInBounds_toArray, List.set_cons_zero, List.set_cons_succ]
  refine detL_val (by kernel_rfl) (yields_not rfl) ?_
  simp only [Act.put, List.setIfInBounds_toArray, List.set_cons_zero, List.set_cons_succ]
  refine detL_val (by kernel_rfl) (yields_not rfl) ?_
  simp only [Act.put, List.setIfInBounds_toArray, List.set_cons_zero, List.set_cons_succ]
  refine detL_val (by kernel_rfl) (yields_of rfl fun w1 hb1 => ?_) ?_
  · have hc1 := bcellD hb1
    clear hb1
    go_simp
    exact Det1_same
  simp only [Act.put, List.setIfInBounds_toArray, List.set_cons_zero, List.set_cons_succ]
  refine detL_done (by kernel_rfl) fun w1 hw1 => ?_
  have hb1 := hw1.below
  clear hw1
  go_wp2
  go_ret
  exact ⟨rfl, by repeat (first | (with_reducible exact Below.refl _ _) | ((with_reducible refine cSet3 ?_ ?_ _ _ _); (· ((try simp) <;> omega))) | (with_reducible refine Below.drew ?_) | ((with_reducible refine cAlloc ?_ ?_ _); (· ((try simp) <;> omega))) | ((with_reducible refine cOn (by assumption) ?_ ?_); (· ((try simp) <;> omega))))⟩

set_option maxRecDepth 100000 in
set_option maxHeartbeats 1600000 in
theorem tog_no (num most : Int) (f g : Nat) (p q : UInt8 → Bool) (hf : Cls f p) (hg : Cls g q) (s : ByteArray) (w : World) (hs : s.size ≤ 100000) (hl : 0 < s.size) (hp : p s[0] = false) :
    Calls Tryz.prog 168 #[.agg #[.int .i64 num, .int .i64 most, .func (.func f) #[] #[], .func (.func g) #[] #[]], .string s] w fun e w' => e = .returned (.int .i64 0) ∧ Below w.heap.size w w' := by
  have HF := Lib.hid hf
  have HG := Lib.hid hg
  have ef := hf.enter
  have eg := hg.enter
  clear hf hg
  have h0' : s.toList.isEmpty = false := nonempty_of' hl
  have h0 : ¬ s.toList = [] := fun h => by rw [h] at h0'; cases h0'
  have HP := Lib.hid (fun (W : World) => (show Calls Tryz.prog f #[.int .u8 (s[0].toNat : Int)] W fun e w' => e = .returned (.bool false) ∧ Below W.heap.size W w' from hp ▸ HF.out.gives s[0] W))
  clear hp
  go_enter Tryz.func168, Tryz.ntmps168
  go_wp2
  refine detL_begin [.val (.string s), .val (.bool false), .val (.bool false), .val (.pointer (some ⟨w.heap.size, 2, none⟩)), .val (.func (.func f) #[] #[]), .val (.string s), .val (.int .u8 s[0].toNat), .val (.bool false), .val (.bool true), .val (.bool true)] 10 (by kernel_rfl) ?_
  refine detL_val (by kernel_rfl) (yields_of rfl fun w1 hb1 => ?_) ?_
  · have hc1 := bcellD hb1
    clear hb1
    go_simp
    exact Det1_same
  simp only [Act.put, List.setIfInBounds_toArray, List.set_cons_zero, List.set_cons_succ]
  refine detL_val (by kernel_rfl) (yields_of rfl fun w1 hb1 => ?_) ?_
  · have hc1 := bcellD hb1
    clear hb1
    go_simp
    exact Det1_same
  simp only [Act.put, List.setIfInBounds_toArray, List.set_cons_zero, List.set_cons_succ]
  refine detL_val (by kernel_rfl) (yields_of rfl fun w1 hb1 => ?_) ?_
  · have hc1 := bcellD hb1
    clear hb1
    go_simp
    exact Det1_same
  simp only [Act.put, List.setIfInBounds_toArray, List.set_cons_zero, List.set_cons_succ]
  refine detL_val (by kernel_rfl) (yields_of rfl fun w1 hb1 => ?_) ?_
  · have hc1 := bcellD hb1
    clear hb1
    go_simp
    exact Det1_same
  simp only [Act.put, List.setIfInBounds_toArray, List.set_cons_zero, List.set_cons_succ]
  refine detL_val (by kernel_rfl) (yields_of rfl fun w1 hb1 => ?_) ?_
  · have hc1 := bcellD hb1
    clear hb1
    go_simp
    exact Det1_same
  simp only [Act.put, List.setIfInBounds_toArray, List.set_cons_zero, List.set_cons_succ]
  refine detL_val (by kernel_rfl) (yields_of rfl fun w1 hb1 => ?_) ?_
  · have hc1 := bcellD hb1
    clear hb1
    go_simp
    exact Det1_same
  simp only [Act.put, List.setIfInBounds_toArray, List.set_cons_zero, List.set_cons_succ]
  refine detL_val (by kernel_rfl) (yields_of rfl fun w1 hb1 => ?_) ?_
  · have hc1 := bcellD hb1
    clear hb1
    go_simp
    exact Det1_same
  simp only [Act.put, List.setIfInBounds_toArray, List.set_cons_zero, List.set_cons_succ]
  refine detL_val (by kernel_rfl) (yields_of rfl fun w1 hb1 => ?_) ?_
  · have hc1 := bcellD hb1
    clear hb1
    go_simp
    exact Det1_enter (HP.out _)
  simp only [Act.put, List.setIfInBounds_toArray, List.set_cons_zero, List.set_cons_succ]
  refine detL_val (by kernel_rfl) (yields_of rfl fun w1 hb1 => ?_) ?_
  · have hc1 := bcellD hb1
    clear hb1
    go_simp
    exact Det1_same
  simp only [Act.put, List.setIfInBounds_toArray, List.set_cons_zero, List.set_cons_succ]
  refine detL_val (by kernel_rfl) (yields_of rfl fun w1 hb1 => ?_) ?_
  · have hc1 := bcellD hb1
    clear hb1
    go_simp
    exact Det1_same
  simp only [Act.put, List.setIfInBounds_toArray, List.set_cons_zero, List.set_cons_succ]
  refine detL_done (by kernel_rfl) fun w1 hw1 => ?_
  have hb1 := hw1.below
  clear hw1
  go_wp2
  go_ret
  exact ⟨rfl, by repeat (first | (with_reducible exact Below.refl _ _) | ((with_reducible refine cSet3 ?_ ?_ _ _ _); (· ((try simp) <;> omega))) | (with_reducible refine Below.drew ?_) | ((with_reducible refine cAlloc ?_ ?_ _); (· ((try simp) <;> omega))) | ((with_reducible refine cOn (by assumption) ?_ ?_); (· ((try simp) <;> omega))))⟩

/-- How many stand together, from the n-th on. -/
def togN (q : UInt8 → Bool) (s : ByteArray) (n : Nat) : Nat := n + ((s.data.toList.drop n).takeWhile q).length
theorem togN_step {q : UInt8 → Bool} {s : ByteArray} {n : Nat} (h : n < s.size) (hq : q s[n] = true) : togN q s n = togN q s (n + 1) := by
  have h2 : n < s.data.toList.length := by rw [← Lib.size_eq]; exact h
  have e : s.data.toList[n] = s[n] := rfl
  unfold togN
  rw [List.drop_eq_getElem_cons h2, e, List.takeWhile_cons, if_pos hq, List.length_cons]
  omega
theorem togN_stop {q : UInt8 → Bool} {s : ByteArray} {n : Nat} (h : n < s.size) (hq : q s[n] = false) : togN q s n = n := by
  have h2 : n < s.data.toList.length := by rw [← Lib.size_eq]; exact h
  have e : s.data.toList[n] = s[n] := rfl
  unfold togN
  rw [List.drop_eq_getElem_cons h2, e, List.takeWhile_cons, hq]
  simp
theorem togN_end {q : UInt8 → Bool} {s : ByteArray} : togN q s s.size = s.size := by
  unfold togN
  rw [List.drop_of_length_le (by rw [← Lib.size_eq]; omega)]
  simp
theorem tog_one {p q : UInt8 → Bool} {s : ByteArray} (h : 0 < s.size) (hp : p s[0] = true) : tog p q s.data.toList = togN q s 1 := by
  have h2 : 0 < s.data.toList.length := by rw [← Lib.size_eq]; exact h
  have e : s.data.toList[0] = s[0] := rfl
  unfold togN
  cases hl : s.data.toList with
  | nil => rw [hl] at h2; simp at h2
  | cons c r =>
    have hc : c = s[0] := by rw [← e]; simp [hl]
    rw [tog, hc, if_pos hp]
    rfl
theorem ret_i64 {a b : Int} (h : a = b) : Ending.returned (.int .i64 a) = .returned (.int .i64 b) := by rw [h]

set_option maxRecDepth 100000 in
set_option maxHeartbeats 1600000 in
theorem tog_yes (num most : Int) (f g : Nat) (p q : UInt8 → Bool) (hf : Cls f p) (hg : Cls g q) (s : ByteArray) (w : World) (hs : s.size ≤ 100000) (hl : 0 < s.size) (hp : p s[0] = true) :
    Calls Tryz.prog 168 #[.agg #[.int .i64 num, .int .i64 most, .func (.func f) #[] #[], .func (.func g) #[] #[]], .string s] w fun e w' => e = .returned (.int .i64 (tog p q s.data.toList)) ∧ Below w.heap.size w w' := by
  have HF := Lib.hid hf
  have HG := Lib.hid hg
  have ef := hf.enter
  have eg := hg.enter
  clear hf hg
  have HT := Lib.hid (tog_one (q := q) hl hp)
  have h0' : s.toList.isEmpty = false := nonempty_of' hl
  have h0 : ¬ s.toList = [] := fun h => by rw [h] at h0'; cases h0'
  have HP := Lib.hid (fun (W : World) => (show Calls Tryz.prog f #[.int .u8 (s[0].toNat : Int)] W fun e w' => e = .returned (.bool true) ∧ Below W.heap.size W w' from hp ▸ HF.out.gives s[0] W))
  clear hp
  go_enter Tryz.func168, Tryz.ntmps168
  go_wp2
  refine detL_begin [.val (.string s), .val (.bool false), .val (.bool false), .val (.pointer (some ⟨w.heap.size, 2, none⟩)), .val (.func (.func f) #[] #[]), .val (.string s), .val (.int .u8 s[0].toNat), .val (.bool true), .val (.bool false), .val (.bool false)] 10 (by kernel_rfl) ?_
  refine detL_val (by kernel_rfl) (yields_of rfl fun w1 hb1 => ?_) ?_
  · have hc1 := bcellD hb1
    clear hb1
    go_simp
    exact Det1_same
  simp only [Act.put, List.setIfInBounds_toArray, List.set_cons_zero, List.set_cons_succ]
  refine detL_val (by kernel_rfl) (yields_of rfl fun w1 hb1 => ?_) ?_
  · have hc1 := bcellD hb1
    clear hb1
    go_simp
    exact Det1_same
  simp only [Act.put, List.setIfInBounds_toArray, List.set_cons_zero, List.set_cons_succ]
  refine detL_val (by kernel_rfl) (yields_of rfl fun w1 hb1 => ?_) ?_
  · have hc1 := bcellD hb1
    clear hb1
    go_simp
    exact Det1_same
  simp only [Act.put, List.setIfInBounds_toArray, List.set_cons_zero, List.set_cons_succ]
  refine detL_val (by kernel_rfl) (yields_of rfl fun w1 hb1 => ?_) ?_
  · have hc1 := bcellD hb1
    clear hb1
    go_simp
    exact Det1_same
  simp only [Act.put, List.setIfInBounds_toArray, List.set_cons_zero, List.set_cons_succ]
  refine detL_val (by kernel_rfl) (yields_of rfl fun w1 hb1 => ?_) ?_
  · have hc1 := bcellD hb1
    clear hb1
    go_simp
    exact Det1_same
  simp only [Act.put, List.setIfInBounds_toArray, List.set_cons_zero, List.set_cons_succ]
  refine detL_val (by kernel_rfl) (yields_of rfl fun w1 hb1 => ?_) ?_
  · have hc1 := bcellD hb1
    clear hb1
    go_simp
    exact Det1_same
  simp only [Act.put, List.setIfInBounds_toArray, List.set_cons_zero, List.set_cons_succ]
  refine detL_val (by kernel_rfl) (yields_of rfl fun w1 hb1 => ?_) ?_
  · have hc1 := bcellD hb1
    clear hb1
    go_simp
    exact Det1_same
  simp only [Act.put, List.setIfInBounds_toArray, List.set_cons_zero, List.set_cons_succ]
  refine detL_val (by kernel_rfl) (yields_of rfl fun w1 hb1 => ?_) ?_
  · have hc1 := bcellD hb1
    clear hb1
    go_simp
    exact Det1_enter (HP.out _)
  simp only [Act.put, List.setIfInBounds_toArray, List.set_cons_zero, List.set_cons_succ]
  refine detL_val (by kernel_rfl) (yields_of rfl fun w1 hb1 => ?_) ?_
  · have hc1 := bcellD hb1
    clear hb1
    go_simp
    exact Det1_same
  simp only [Act.put, List.setIfInBounds_toArray, List.set_cons_zero, List.set_cons_succ]
  refine detL_val (by kernel_rfl) (yields_of rfl fun w1 hb1 => ?_) ?_
  · have hc1 := bcellD hb1
    clear hb1
    go_simp
    exact Det1_same
  simp only [Act.put, List.setIfInBounds_toArray, List.set_cons_zero, List.set_cons_succ]
  refine detL_done (by kernel_rfl) fun w1 hw1 => ?_
  have hcell1 := hw1.below.cell (p := ⟨w.heap.size, 3, none⟩) (by simp)
  have hcell : w1.cell? ⟨w.heap.size, 3, none⟩ = some (.func (.func g) #[] #[]) := hcell1.trans (by simp [go_sem])
  have hwz : w.heap.size < w1.heap.size := by have := hw1.below.size; simp at this; omega
  have HB1 : Hid (Below w.heap.size w w1) := by
    have hb1 := hw1.below
    show Below w.heap.size w w1
    repeat (first | (with_reducible exact Below.refl _ _) | ((with_reducible refine cSet3 ?_ ?_ _ _ _); (· ((try simp) <;> omega))) | (with_reducible refine Below.drew ?_) | ((with_reducible refine cAlloc ?_ ?_ _); (· ((try simp) <;> omega))) | ((with_reducible refine cOn (by assumption) ?_ ?_); (· ((try simp) <;> omega))))
  clear hw1 hcell1
  go_wp2
  obtain ⟨wo, hwo⟩ : ∃ wo : World, wo = w1 := ⟨_, rfl⟩
  rw [← hwo] at hcell hwz HB1 ⊢
  clear hwo
  have HC := Lib.hid hcell
  clear hcell hwz
  go_loopw [5] (fun i wr => ∃ n : Nat, 1 ≤ n ∧ n ≤ s.size ∧ i = .int .i64 n ∧ Below wo.heap.size wo wr ∧ Hid (tog p q s.data.toList = togN q s n)) (fun i _ => s.size - (intOf i).toNat)
  case atStart => exact ⟨1, by omega, by omega, rfl, Below.refl _ _, HT.out⟩
  case round =>
    obtain ⟨n, hn1, hn2, rfl, hb, HN⟩ := hrel
    have hz0 : w.heap.size < wo.heap.size := World.block_lt_of_cell? _ _ HC.out
    have hcell := (hb.cell (p := ⟨w.heap.size, 3, none⟩) hz0).trans HC.out
    have hwz : w.heap.size < wr.heap.size := Nat.lt_of_lt_of_le hz0 hb.size
    have hbs := hb.size
    by_cases hlt : n < s.size
    · cases hq : q s[n] with
      | true =>
        have HQ := Lib.hid (fun (W : World) => (show Calls Tryz.prog g #[.int .u8 (s[n].toNat : Int)] W fun e w' => e = .returned (.bool true) ∧ Below W.heap.size W w' from hq ▸ HG.out.gives s[n] W))
        have HS := Lib.hid (togN_step hlt hq)
        clear hq
        go_wp2
        refine detL_begin [.val (.int .i64 n), .val (.string s), .val (.int .i64 s.size), .val (.bool true), .val (.bool true), .val (.pointer (some ⟨w.heap.size, 3, none⟩)), .val (.func (.func g) #[] #[]), .val (.string s), .val (.int .i64 n), .val (.int .u8 s[n].toNat), .val (.bool true), .val (.bool true)] 12 (by kernel_rfl) ?_
        refine detL_val (by kernel_rfl) (yields_of rfl fun w1 hb1 => ?_) ?_
        · have hc1 := bcellD hb1
          clear hb1
          go_simp
          exact Det1_same
        simp only [Act.put, List.setIfInBounds_toArray, List.set_cons_zero, List.set_cons_succ]
        refine detL_val (by kernel_rfl) (yields_of rfl fun w1 hb1 => ?_) ?_
        · have hc1 := bcellD hb1
          clear hb1
          go_simp
          exact Det1_same
        simp only [Act.put, List.setIfInBounds_toArray, List.set_cons_zero, List.set_cons_succ]
        refine detL_val (by kernel_rfl) (yields_of rfl fun w1 hb1 => ?_) ?_
        · have hc1 := bcellD hb1
          clear hb1
          go_simp
          exact Det1_same
        simp only [Act.put, List.setIfInBounds_toArray, List.set_cons_zero, List.set_cons_succ]
        refine detL_val (by kernel_rfl) (yields_of rfl fun w1 hb1 => ?_) ?_
        · have hc1 := bcellD hb1
          clear hb1
          go_simp
          exact Det1_same
        simp only [Act.put, List.setIfInBounds_toArray, List.set_cons_zero, List.set_cons_succ]
        refine detL_val (by kernel_rfl) (yields_of rfl fun w1 hb1 => ?_) ?_
        · have hc1 := bcellD hb1
          clear hb1
          go_simp
          exact Det1_same
        simp only [Act.put, List.setIfInBounds_toArray, List.set_cons_zero, List.set_cons_succ]
        refine detL_val (by kernel_rfl) (yields_of rfl fun w1 hb1 => ?_) ?_
        · have hc1 := bcellD hb1
          clear hb1
          go_simp
          exact Det1_same
        simp only [Act.put, List.setIfInBounds_toArray, List.set_cons_zero, List.set_cons_succ]
        refine detL_val (by kernel_rfl) (yields_of rfl fun w1 hb1 => ?_) ?_
        · have hc1 := bcellD hb1
          have qg := (hc1 w.heap.size 3 hwz).trans hcell
          clear hb1
          go_simp
          exact Det1_same
        simp only [Act.put, List.setIfInBounds_toArray, List.set_cons_zero, List.set_cons_succ]
        refine detL_val (by kernel_rfl) (yields_of rfl fun w1 hb1 => ?_) ?_
        · have hc1 := bcellD hb1
          clear hb1
          go_simp
          exact Det1_same
        simp only [Act.put, List.setIfInBounds_toArray, List.set_cons_zero, List.set_cons_succ]
        refine detL_val (by kernel_rfl) (yields_of rfl fun w1 hb1 => ?_) ?_
        · have hc1 := bcellD hb1
          clear hb1
          go_simp
          exact Det1_same
        simp only [Act.put, List.setIfInBounds_toArray, List.set_cons_zero, List.set_cons_succ]
        refine detL_val (by kernel_rfl) (yields_of rfl fun w1 hb1 => ?_) ?_
        · have hc1 := bcellD hb1
          clear hb1
          go_simp
          exact Det1_same
        simp only [Act.put, List.setIfInBounds_toArray, List.set_cons_zero, List.set_cons_succ]
        refine detL_val (by kernel_rfl) (yields_of rfl fun w1 hb1 => ?_) ?_
        · have hc1 := bcellD hb1
          clear hb1
          go_simp
          exact Det1_enter (HQ.out _)
        simp only [Act.put, List.setIfInBounds_toArray, List.set_cons_zero, List.set_cons_succ]
        refine detL_val (by kernel_rfl) (yields_of rfl fun w1 hb1 => ?_) ?_
        · have hc1 := bcellD hb1
          clear hb1
          go_simp
          exact Det1_same
        simp only [Act.put, List.setIfInBounds_toArray, List.set_cons_zero, List.set_cons_succ]
        refine detL_done (by kernel_rfl) fun w2 hw2 => ?_
        have hb2 := hw2.below
        clear hw2
        go_wp2
        go_roundw
        case rel => exact ⟨n + 1, by omega, by omega, by go_num, hb.drew.trans (hb2.mono hbs), HN.out.trans HS.out⟩
        case measure => simp [intOf]; omega
      | false =>
        have HQ := Lib.hid (fun (W : World) => (show Calls Tryz.prog g #[.int .u8 (s[n].toNat : Int)] W fun e w' => e = .returned (.bool false) ∧ Below W.heap.size W w' from hq ▸ HG.out.gives s[n] W))
        have HS := Lib.hid (togN_stop hlt hq)
        clear hq
        go_wp2
        refine detL_begin [.val (.int .i64 n), .val (.string s), .val (.int .i64 s.size), .val (.bool true), .val (.bool true), .val (.pointer (some ⟨w.heap.size, 3, none⟩)), .val (.func (.func g) #[] #[]), .val (.string s), .val (.int .i64 n), .val (.int .u8 s[n].toNat), .val (.bool false), .val (.bool false)] 12 (by kernel_rfl) ?_
        refine detL_val (by kernel_rfl) (yields_of rfl fun w1 hb1 => ?_) ?_
        · have hc1 := bcellD hb1
          clear hb1
          go_simp
          exact Det1_same
        simp only [Act.put, List.setIfInBounds_toArray, List.set_cons_zero, List.set_cons_succ]
        refine detL_val (by kernel_rfl) (yields_of rfl fun w1 hb1 => ?_) ?_
        · have hc1 := bcellD hb1
          clear hb1
          go_simp
          exact Det1_same
        simp only [Act.put, List.setIfInBounds_toArray, List.set_cons_zero, List.set_cons_succ]
        refine detL_val (by kernel_rfl) (yields_of rfl fun w1 hb1 => ?_) ?_
        · have hc1 := bcellD hb1
          clear hb1
          go_simp
          exact Det1_same
        simp only [Act.put, List.setIfInBounds_toArray, List.set_cons_zero, List.set_cons_succ]
        refine detL_val (by kernel_rfl) (yields_of rfl fun w1 hb1 => ?_) ?_
        · have hc1 := bcellD hb1
          clear hb1
          go_simp
          exact Det1_same
        simp only [Act.put, List.setIfInBounds_toArray, List.set_cons_zero, List.set_cons_succ]
        refine detL_val (by kernel_rfl) (yields_of rfl fun w1 hb1 => ?_) ?_
        · have hc1 := bcellD hb1
          clear hb1
          go_simp
          exact Det1_same
        simp only [Act.put, List.setIfInBounds_toArray, List.set_cons_zero, List.set_cons_succ]
        refine detL_val (by kernel_rfl) (yields_of rfl fun w1 hb1 => ?_) ?_
        · have hc1 := bcellD hb1
          clear hb1
          go_simp
          exact Det1_same
        simp only [Act.put, List.setIfInBounds_toArray, List.set_cons_zero, List.set_cons_succ]
        refine detL_val (by kernel_rfl) (yields_of rfl fun w1 hb1 => ?_) ?_
        · have hc1 := bcellD hb1
          have qg := (hc1 w.heap.size 3 hwz).trans hcell
          clear hb1
          go_simp
          exact Det1_same
        simp only [Act.put, List.setIfInBounds_toArray, List.set_cons_zero, List.set_cons_succ]
        refine detL_val (by kernel_rfl) (yields_of rfl fun w1 hb1 => ?_) ?_
        · have hc1 := bcellD hb1
          clear hb1
          go_simp
          exact Det1_same
        simp only [Act.put, List.setIfInBounds_toArray, List.set_cons_zero, List.set_cons_succ]
        refine detL_val (by kernel_rfl) (yields_of rfl fun w1 hb1 => ?_) ?_
        · have hc1 := bcellD hb1
          clear hb1
          go_simp
          exact Det1_same
        simp only [Act.put, List.setIfInBounds_toArray, List.set_cons_zero, List.set_cons_succ]
        refine detL_val (by kernel_rfl) (yields_of rfl fun w1 hb1 => ?_) ?_
        · have hc1 := bcellD hb1
          clear hb1
          go_simp
          exact Det1_same
        simp only [Act.put, List.setIfInBounds_toArray, List.set_cons_zero, List.set_cons_succ]
        refine detL_val (by kernel_rfl) (yields_of rfl fun w1 hb1 => ?_) ?_
        · have hc1 := bcellD hb1
          clear hb1
          go_simp
          exact Det1_enter (HQ.out _)
        simp only [Act.put, List.setIfInBounds_toArray, List.set_cons_zero, List.set_cons_succ]
        refine detL_val (by kernel_rfl) (yields_of rfl fun w1 hb1 => ?_) ?_
        · have hc1 := bcellD hb1
          clear hb1
          go_simp
          exact Det1_same
        simp only [Act.put, List.setIfInBounds_toArray, List.set_cons_zero, List.set_cons_succ]
        refine detL_done (by kernel_rfl) fun w2 hw2 => ?_
        have hb2 := hw2.below
        clear hw2
        go_wp2
        go_ret
        exact ⟨ret_i64 (by rw [HN.out, HS.out]), HB1.out.trans ((hb.drew.trans (hb2.mono hbs)).mono HB1.out.size)⟩
    · obtain rfl : n = s.size := by omega
      go_wp2
      refine detL_begin [.val (.int .i64 s.size), .val (.string s), .val (.int .i64 s.size), .val (.bool false), .val (.bool false), .val (undef), .val (undef), .val (undef), .val (undef), .val (undef), .val (undef), .val (.bool false)] 12 (by kernel_rfl) ?_
      refine detL_val (by kernel_rfl) (yields_of rfl fun w1 hb1 => ?_) ?_
      · have hc1 := bcellD hb1
        clear hb1
        go_simp
        exact Det1_same
      simp only [Act.put, List.setIfInBounds_toArray, List.set_cons_zero, List.set_cons_succ]
      refine detL_val (by kernel_rfl) (yields_of rfl fun w1 hb1 => ?_) ?_
      · have hc1 := bcellD hb1
        clear hb1
        go_simp
        exact Det1_same
      simp only [Act.put, List.setIfInBounds_toArray, List.set_cons_zero, List.set_cons_succ]
      refine detL_val (by kernel_rfl) (yields_of rfl fun w1 hb1 => ?_) ?_
      · have hc1 := bcellD hb1
        clear hb1
        go_simp
        exact Det1_same
      simp only [Act.put, List.setIfInBounds_toArray, List.set_cons_zero, List.set_cons_succ]
      refine detL_val (by kernel_rfl) (yields_of rfl fun w1 hb1 => ?_) ?_
      · have hc1 := bcellD hb1
        clear hb1
        go_simp
        exact Det1_same
      simp only [Act.put, List.setIfInBounds_toArray, List.set_cons_zero, List.set_cons_succ]
      refine detL_val (by kernel_rfl) (yields_of rfl fun w1 hb1 => ?_) ?_
      · have hc1 := bcellD hb1
        clear hb1
        go_simp
        exact Det1_same
      simp only [Act.put, List.setIfInBounds_toArray, List.set_cons_zero, List.set_cons_succ]
      refine detL_val (by kernel_rfl) (yields_not rfl) ?_
      simp only [Act.put, List.setIfInBounds_toArray, List.set_cons_zero, List.set_cons_succ]
      refine detL_val (by kernel_rfl) (yields_not rfl) ?_
      simp only [Act.put, List.setIfInBounds_toArray, List.set_cons_zero, List.set_cons_succ]
      refine detL_val (by kernel_rfl) (yields_not rfl) ?_
      simp only [Act.put, List.setIfInBounds_toArray, List.set_cons_zero, List.set_cons_succ]
      refine detL_val (by kernel_rfl) (yields_not rfl) ?_
      simp only [Act.put, List.setIfInBounds_toArray, List.set_cons_zero, List.set_cons_succ]
      refine detL_val (by kernel_rfl) (yields_not rfl) ?_
      simp only [Act.put, List.setIfInBounds_toArray, List.set_cons_zero, List.set_cons_succ]
      refine detL_val (by kernel_rfl) (yields_not rfl) ?_
      simp only [Act.put, List.setIfInBounds_toArray, List.set_cons_zero, List.set_cons_succ]
      refine detL_val (by kernel_rfl) (yields_of rfl fun w1 hb1 => ?_) ?_
      · have hc1 := bcellD hb1
        clear hb1
        go_simp
        exact Det1_same
      simp only [Act.put, List.setIfInBounds_toArray, List.set_cons_zero, List.set_cons_succ]
      refine detL_done (by kernel_rfl) fun w2 hw2 => ?_
      have hb2 := hw2.below
      clear hw2
      go_wp2
      go_ret
      exact ⟨ret_i64 (by rw [HN.out, togN_end]), HB1.out.trans ((hb.drew.trans (hb2.mono hbs)).mono HB1.out.size)⟩

theorem tog_any (num most : Int) (f g : Nat) (p q : UInt8 → Bool) (hf : Cls f p) (hg : Cls g q) (s : ByteArray) (w : World) (hs : s.size ≤ 100000) :
    Calls Tryz.prog 168 #[.agg #[.int .i64 num, .int .i64 most, .func (.func f) #[] #[], .func (.func g) #[] #[]], .string s] w fun e w' => e = .returned (.int .i64 (tog p q s.data.toList)) ∧ Below w.heap.size w w' := by
  by_cases hl : 0 < s.size
  · cases hp : p s[0] with
    | true => exact tog_yes num most f g p q hf hg s w hs hl hp
    | false =>
      have e : tog p q s.data.toList = 0 := by
        cases hd : s.data.toList with
        | nil => rfl
        | cons c r =>
          have : c = s[0] := by
            have h2 : 0 < s.data.toList.length := by rw [← Lib.size_eq]; exact hl
            have e : s.data.toList[0] = s[0] := rfl
            rw [← e]; simp [hd]
          rw [tog, this, hp]; rfl
      rw [e]
      exact tog_no num most f g p q hf hg s w hs hl hp
  · have e : s.data.toList = [] := List.length_eq_zero_iff.1 (by rw [← Lib.size_eq]; omega)
    rw [e]
    exact tog_0 num most f g p q hf hg s w hs (by rw [toList_data]; exact e)
end Go.Proofs.YtmhkmliebhbkdaaGreat

/- Each quote twice, and each pair of quotes once: plain facts. -/
namespace Go.Proofs.YtmhkmliebhbkdaaGreat
open Go.RowKit Go.Lib

end Go.Proofs.YtmhkmliebhbkdaaGreat

/- ReplaceAll at a pair of quotes. -/
namespace Go.Proofs.YtmhkmliebhbkdaaGreat
open Go.RowKit Go.Lib

end Go.Proofs.YtmhkmliebhbkdaaGreat

/- A number's digits are parsed as that number: plain facts. -/
namespace Go.Proofs.YtmhkmliebhbkdaaGreat
open Go.RowKit Go.Lib

end Go.Proofs.YtmhkmliebhbkdaaGreat

/- nothing more of the shelf is wanted here -/

/- strconv.ParseInt at base 10; what a text is guessed to be. -/
namespace Go.Proofs.YtmhkmliebhbkdaaGreat
open Go.RowKit Go.Lib

end Go.Proofs.YtmhkmliebhbkdaaGreat

/- What a text is guessed to be, and parsed as: value.Parse. -/
namespace Go.Proofs.YtmhkmliebhbkdaaGreat
open Go.RowKit Go.Lib

/-- What a text is guessed to be: the only value whose text it may be. -/
structure Guess (l : List UInt8) (k i : Int) (S : ByteArray) : Prop where
  in64 : In64 i
  ok : mayB k i S = true ∨ l ≠ []
  only : ∀ k' i' S', In64 i' → mayB k' i' S' = true → txtO k' i' S' = l → k = k' ∧ i = i' ∧ S = S'

end Go.Proofs.YtmhkmliebhbkdaaGreat

/- May one of a kind be; the kinds; what stands in quotes. -/
namespace Go.Proofs.YtmhkmliebhbkdaaGreat
open Go.RowKit Go.Lib

set_option maxRecDepth 100000 in
set_option maxHeartbeats 800000 in
theorem kmay_0 (num : Int) (most : Nat) (f g : Nat) (p q : UInt8 → Bool) (hf : Cls f p) (hg : Cls g q) (s : ByteArray) (w : World) (hs : s.size ≤ 100000) (hm : most ≤ 100) (h0 : s.toList = []) :
    Calls Tryz.prog 164 #[.agg #[.int .i64 num, .int .i64 (most : Nat), .func (.func f) #[] #[], .func (.func g) #[] #[]], .string s] w fun e w' => e = .returned (.bool false) ∧ Below w.heap.size w w' := by
  have HT := Lib.hid (fun (W : World) => tog_any num most f g p q hf hg s W hs)
  clear hf hg
  have h0' : s.toList.isEmpty = true := by rw [h0]; rfl
  go_enter Tryz.func164, Tryz.ntmps164
  go_wp2_with (first
    | (go_at_call 168; refine (HT.out _).mono ?_; rintro e w1 ⟨rfl, hb1⟩; have hc1 := (bcell hb1).1; have hf1 := (bcell hb1).2; have hy1 := hb1.size; (try simp at hy1); have hz1_0 : w.heap.size < w1.heap.size := (by omega)))
  all_goals
    go_ret
    refine ⟨rfl, ?_⟩
    repeat (first | (with_reducible exact Below.refl _ _) | ((with_reducible refine cSet3 ?_ ?_ _ _ _); (· ((try simp) <;> omega))) | (with_reducible refine Below.drew ?_) | ((with_reducible refine cAlloc ?_ ?_ _); (· ((try simp) <;> omega))) | ((with_reducible refine cOn (by assumption) ?_ ?_); (· ((try simp) <;> omega))))

set_option maxRecDepth 100000 in
set_option maxHeartbeats 800000 in
theorem kmay_1 (num : Int) (most : Nat) (f g : Nat) (p q : UInt8 → Bool) (hf : Cls f p) (hg : Cls g q) (s : ByteArray) (w : World) (hs : s.size ≤ 100000) (hm : most ≤ 100) (hl : 0 < s.size) (h1 : ¬ s.size ≤ most) :
    Calls Tryz.prog 164 #[.agg #[.int .i64 num, .int .i64 (most : Nat), .func (.func f) #[] #[], .func (.func g) #[] #[]], .string s] w fun e w' => e = .returned (.bool false) ∧ Below w.heap.size w w' := by
  have HT := Lib.hid (fun (W : World) => tog_any num most f g p q hf hg s W hs)
  clear hf hg
  have h0' : s.toList.isEmpty = false := nonempty_of' hl
  have h0 : ¬ s.toList = [] := fun h => by rw [h] at h0'; cases h0'
  have h2 : ¬ (s.size : Int) ≤ (most : Int) := by omega
  go_enter Tryz.func164, Tryz.ntmps164
  go_wp2_with (first
    | (go_at_call 168; refine (HT.out _).mono ?_; rintro e w1 ⟨rfl, hb1⟩; have hc1 := (bcell hb1).1; have hf1 := (bcell hb1).2; have hy1 := hb1.size; (try simp at hy1); have hz1_0 : w.heap.size < w1.heap.size := (by omega)))
  all_goals
    go_ret
    refine ⟨rfl, ?_⟩
    repeat (first | (with_reducible exact Below.refl _ _) | ((with_reducible refine cSet3 ?_ ?_ _ _ _); (· ((try simp) <;> omega))) | (with_reducible refine Below.drew ?_) | ((with_reducible refine cAlloc ?_ ?_ _); (· ((try simp) <;> omega))) | ((with_reducible refine cOn (by assumption) ?_ ?_); (· ((try simp) <;> omega))))

set_option maxRecDepth 100000 in
set_option maxHeartbeats 800000 in
theorem kmay_2 (num : Int) (most : Nat) (f g : Nat) (p q : UInt8 → Bool) (hf : Cls f p) (hg : Cls g q) (s : ByteArray) (w : World) (hs : s.size ≤ 100000) (hm : most ≤ 100) (hl : 0 < s.size) (h1 : s.size ≤ most) (n : Nat) (hn : tog p q s.data.toList = n) :
    Calls Tryz.prog 164 #[.agg #[.int .i64 num, .int .i64 (most : Nat), .func (.func f) #[] #[], .func (.func g) #[] #[]], .string s] w fun e w' => e = .returned (.bool (decide (n = s.size))) ∧ Below w.heap.size w w' := by
  have HT := Lib.hid (fun (W : World) => tog_any num most f g p q hf hg s W hs)
  clear hf hg
  have h0' : s.toList.isEmpty = false := nonempty_of' hl
  have h0 : ¬ s.toList = [] := fun h => by rw [h] at h0'; cases h0'
  rw [hn] at HT
  clear hn
  have h2 : (s.size : Int) ≤ (most : Int) := by omega
  go_enter Tryz.func164, Tryz.ntmps164
  go_wp2_with (first
    | (go_at_call 168; refine (HT.out _).mono ?_; rintro e w1 ⟨rfl, hb1⟩; have hc1 := (bcell hb1).1; have hf1 := (bcell hb1).2; have hy1 := hb1.size; (try simp at hy1); have hz1_0 : w.heap.size < w1.heap.size := (by omega)))
  all_goals
    go_ret
    refine ⟨ret_bool (by rw [Bool.eq_iff_iff]; simp; omega), ?_⟩
    repeat (first | (with_reducible exact Below.refl _ _) | ((with_reducible refine cSet3 ?_ ?_ _ _ _); (· ((try simp) <;> omega))) | (with_reducible refine Below.drew ?_) | ((with_reducible refine cAlloc ?_ ?_ _); (· ((try simp) <;> omega))) | ((with_reducible refine cOn (by assumption) ?_ ?_); (· ((try simp) <;> omega))))

theorem kmay_any (num : Int) (most : Nat) (f g : Nat) (p q : UInt8 → Bool) (hf : Cls f p) (hg : Cls g q) (s : ByteArray) (w : World) (hs : s.size ≤ 100000) (hm : most ≤ 100) :
    Calls Tryz.prog 164 #[.agg #[.int .i64 num, .int .i64 (most : Nat), .func (.func f) #[] #[], .func (.func g) #[] #[]], .string s] w fun e w' => e = .returned (.bool (kmay p q most s.data.toList)) ∧ Below w.heap.size w w' := by
  by_cases hl : 0 < s.size
  · have he : s.data.toList.isEmpty = false := by rw [← toList_data]; exact nonempty_of' hl
    by_cases h1 : s.size ≤ most
    · have e : kmay p q most s.data.toList = decide (tog p q s.data.toList = s.size) := by
        unfold kmay
        rw [he, ← Lib.size_eq, decide_eq_true h1]
        rfl
      rw [e]
      exact kmay_2 num most f g p q hf hg s w hs hm hl h1 _ rfl
    · have e : kmay p q most s.data.toList = false := by
        unfold kmay
        rw [← Lib.size_eq, decide_eq_false h1]
        simp
      rw [e]
      exact kmay_1 num most f g p q hf hg s w hs hm hl h1
  · have e : s.data.toList = [] := List.length_eq_zero_iff.1 (by rw [← Lib.size_eq]; omega)
    rw [e]
    exact kmay_0 num most f g p q hf hg s w hs hm (by rw [toList_data]; exact e)

set_option maxRecDepth 100000 in
theorem wordKind_any (w : World) :
    Calls Tryz.prog 163 #[] w fun e w' => e = .returned (.agg #[.int .i64 1, .int .i64 16, .func (.func 166) #[] #[], .func (.func 167) #[] #[]]) ∧ Below w.heap.size w w' := by
  go_enter Tryz.func163, Tryz.ntmps163
  go_wp2
  refine bodyPost_ret (v := .agg #[.int .i64 1, .int .i64 16, .func (.func 166) #[] #[], .func (.func 167) #[] #[]]) ?_ rfl ⟨rfl, ?_⟩
  · (simp [results, Tryz.results163, go_sem, *]; done)
  repeat (first | (with_reducible exact Below.refl _ _) | ((with_reducible refine cSet3 ?_ ?_ _ _ _); (· ((try simp) <;> omega))) | (with_reducible refine Below.drew ?_) | ((with_reducible refine cAlloc ?_ ?_ _); (· ((try simp) <;> omega))) | ((with_reducible refine cOn (by assumption) ?_ ?_); (· ((try simp) <;> omega))))

end Go.Proofs.YtmhkmliebhbkdaaGreat

/- Words of the language; which node of an expression is formed. -/
namespace Go.Proofs.YtmhkmliebhbkdaaGreat
open Go.RowKit Go.Lib

/-- The words of the language. -/
def resW : List (List UInt8) := [[65, 78, 68], [79, 82], [78, 79, 84], [73, 83], [78, 85, 76, 76], [84, 82, 85, 69], [70, 65, 76, 83, 69], [67, 82, 69, 65, 84, 69], [84, 65, 66, 76, 69], [73, 78, 84], [84, 69, 88, 84], [66, 79, 79, 76], [75, 69, 89], [85, 78, 73, 81, 85, 69], [82, 69, 70, 69, 82, 69, 78, 67, 69, 83], [67, 72, 69, 67, 75], [68, 82, 79, 80], [73, 78, 83, 69, 82, 84], [73, 78, 84, 79], [86, 65, 76, 85, 69, 83], [85, 80, 68, 65, 84, 69], [83, 69, 84], [68, 69, 76, 69, 84, 69], [83, 69, 76, 69, 67, 84], [70, 82, 79, 77], [87, 72, 69, 82, 69], [71, 82, 65, 78, 84], [82, 69, 86, 79, 75, 69], [82, 69, 65, 68], [87, 82, 73, 84, 69], [79, 78], [84, 79], [77, 73, 71, 82, 65, 84, 69], [67, 79, 80, 89], [74, 79, 73, 78], [71, 82, 79, 85, 80], [66, 89], [83, 85, 77]]
def G1 : List (List UInt8) := [[65, 78, 68], [79, 82], [78, 79, 84], [73, 83], [78, 85, 76, 76], [84, 82, 85, 69], [70, 65, 76, 83, 69]]
def G2 : List (List UInt8) := [[67, 82, 69, 65, 84, 69], [84, 65, 66, 76, 69], [73, 78, 84], [84, 69, 88, 84], [66, 79, 79, 76], [75, 69, 89], [85, 78, 73, 81, 85, 69], [82, 69, 70, 69, 82, 69, 78, 67, 69, 83], [67, 72, 69, 67, 75], [68, 82, 79, 80]]
def G3 : List (List UInt8) := [[73, 78, 83, 69, 82, 84], [73, 78, 84, 79], [86, 65, 76, 85, 69, 83], [85, 80, 68, 65, 84, 69], [83, 69, 84], [68, 69, 76, 69, 84, 69], [83, 69, 76, 69, 67, 84], [70, 82, 79, 77], [87, 72, 69, 82, 69]]
def G4 : List (List UInt8) := [[71, 82, 65, 78, 84], [82, 69, 86, 79, 75, 69], [82, 69, 65, 68], [87, 82, 73, 84, 69], [79, 78], [84, 79]]
def G5 : List (List UInt8) := [[77, 73, 71, 82, 65, 84, 69], [67, 79, 80, 89], [74, 79, 73, 78], [71, 82, 79, 85, 80], [66, 89], [83, 85, 77]]
def resB (s : ByteArray) : Bool := resW.contains s.toList
def grpB (g : List (List UInt8)) (s : ByteArray) : Bool := g.contains s.toList
theorem grp_is {g : List (List UInt8)} {s : ByteArray} {w : List UInt8} (hw : g.contains w = true) (h : (s.toList == w) = true) : Hid ((s.toList == w) = grpB g s) := by
  show (s.toList == w) = grpB g s
  rw [h]
  unfold grpB
  rw [eq_of_beq h, hw]
theorem grp_last {g : List (List UInt8)} {s : ByteArray} {w : List UInt8} (g' : List (List UInt8)) (hg : g = g' ++ [w]) (h : ∀ w ∈ g', (s.toList == w) = false) : Hid ((s.toList == w) = grpB g s) := by
  show (s.toList == w) = grpB g s
  unfold grpB
  rw [hg, List.contains_eq_any_beq, List.any_append]
  have : g'.any (fun x => s.toList == x) = false := by
    rw [List.any_eq_false]
    intro x hx
    rw [h x hx]; decide
  rw [this]
  simp
theorem resB_grp (s : ByteArray) : resB s = (grpB G1 s || (grpB G2 s || (grpB G3 s || (grpB G4 s || grpB G5 s)))) := by
  have e : resW = G1 ++ (G2 ++ (G3 ++ (G4 ++ G5))) := rfl
  unfold resB grpB
  rw [e]
  simp only [List.contains_eq_any_beq, List.any_append]
theorem res_t1 {s : ByteArray} (h1 : Hid (true = grpB G1 s)) : true = resB s := by rw [resB_grp, ← h1.out]; rfl
theorem res_t2 {s : ByteArray} (h1 : Hid (false = grpB G1 s)) (h2 : Hid (true = grpB G2 s)) : true = resB s := by rw [resB_grp, ← h1.out, ← h2.out]; rfl
theorem res_t3 {s : ByteArray} (h1 : Hid (false = grpB G1 s)) (h2 : Hid (false = grpB G2 s)) (h3 : Hid (true = grpB G3 s)) : true = resB s := by rw [resB_grp, ← h1.out, ← h2.out, ← h3.out]; rfl
theorem res_t4 {s : ByteArray} (h1 : Hid (false = grpB G1 s)) (h2 : Hid (false = grpB G2 s)) (h3 : Hid (false = grpB G3 s)) (h4 : Hid (true = grpB G4 s)) : true = resB s := by rw [resB_grp, ← h1.out, ← h2.out, ← h3.out, ← h4.out]; rfl
theorem res_t5 {s : ByteArray} (h1 : Hid (false = grpB G1 s)) (h2 : Hid (false = grpB G2 s)) (h3 : Hid (false = grpB G3 s)) (h4 : Hid (false = grpB G4 s)) (h5 : Hid (true = grpB G5 s)) : true = resB s := by rw [resB_grp, ← h1.out, ← h2.out, ← h3.out, ← h4.out, ← h5.out]; rfl
theorem res_f {s : ByteArray} (h1 : Hid (false = grpB G1 s)) (h2 : Hid (false = grpB G2 s)) (h3 : Hid (false = grpB G3 s)) (h4 : Hid (false = grpB G4 s)) (h5 : Hid (false = grpB G5 s)) : false = resB s := by rw [resB_grp, ← h1.out, ← h2.out, ← h3.out, ← h4.out, ← h5.out]; rfl

set_option maxRecDepth 100000 in
set_option maxHeartbeats 4000000 in
theorem reserved_any (s : ByteArray) (w : World) :
    Calls Tryz.prog 159 #[.string s] w fun e w' => e = .returned (.bool (resB s)) ∧ Below w.heap.size w w' := by
  go_enter Tryz.func159, Tryz.ntmps159
  go_upto_if 4 with (fail)
  go_cut [4] (fun v wr => w = wr ∧ ∃ b, v = .bool b ∧ Hid (b = grpB G1 s))
  case first =>
    go_wp2_with (fail)
    all_goals
      go_meet
      first
        | exact ⟨rfl, _, rfl, grp_is (w := [65, 78, 68]) (by decide) (by assumption)⟩
        | exact ⟨rfl, _, rfl, grp_is (w := [79, 82]) (by decide) (by assumption)⟩
        | exact ⟨rfl, _, rfl, grp_is (w := [78, 79, 84]) (by decide) (by assumption)⟩
        | exact ⟨rfl, _, rfl, grp_is (w := [73, 83]) (by decide) (by assumption)⟩
        | exact ⟨rfl, _, rfl, grp_is (w := [78, 85, 76, 76]) (by decide) (by assumption)⟩
        | exact ⟨rfl, _, rfl, grp_is (w := [84, 82, 85, 69]) (by decide) (by assumption)⟩
        | (refine ⟨rfl, _, rfl, grp_last [[65, 78, 68], [79, 82], [78, 79, 84], [73, 83], [78, 85, 76, 76], [84, 82, 85, 69]] rfl fun x hx => ?_⟩
           simp only [List.mem_cons, List.not_mem_nil, or_false] at hx
           rcases hx with rfl | rfl | rfl | rfl | rfl | rfl <;> assumption)
  obtain ⟨rfl, b, rfl, h1⟩ := hcut
  cases b with
  | true =>
    go_wp2_with (fail)
    go_ret
    exact ⟨ret_bool (res_t1 h1), Below.refl _ _⟩
  | false =>
  go_upto_if 12 with (fail)
  go_cut [12] (fun v wr => w = wr ∧ ∃ b, v = .bool b ∧ Hid (b = grpB G2 s))
  case first =>
    go_wp2_with (fail)
    all_goals
      go_meet
      first
        | exact ⟨rfl, _, rfl, grp_is (w := [67, 82, 69, 65, 84, 69]) (by decide) (by assumption)⟩
        | exact ⟨rfl, _, rfl, grp_is (w := [84, 65, 66, 76, 69]) (by decide) (by assumption)⟩
        | exact ⟨rfl, _, rfl, grp_is (w := [73, 78, 84]) (by decide) (by assumption)⟩
        | exact ⟨rfl, _, rfl, grp_is (w := [84, 69, 88, 84]) (by decide) (by assumption)⟩
        | exact ⟨rfl, _, rfl, grp_is (w := [66, 79, 79, 76]) (by decide) (by assumption)⟩
        | exact ⟨rfl, _, rfl, grp_is (w := [75, 69, 89]) (by decide) (by assumption)⟩
        | exact ⟨rfl, _, rfl, grp_is (w := [85, 78, 73, 81, 85, 69]) (by decide) (by assumption)⟩
        | exact ⟨rfl, _, rfl, grp_is (w := [82, 69, 70, 69, 82, 69, 78, 67, 69, 83]) (by decide) (by assumption)⟩
        | exact ⟨rfl, _, rfl, grp_is (w := [67, 72, 69, 67, 75]) (by decide) (by assumption)⟩
        | (refine ⟨rfl, _, rfl, grp_last [[67, 82, 69, 65, 84, 69], [84, 65, 66, 76, 69], [73, 78, 84], [84, 69, 88, 84], [66, 79, 79, 76], [75, 69, 89], [85, 78, 73, 81, 85, 69], [82, 69, 70, 69, 82, 69, 78, 67, 69, 83], [67, 72, 69, 67, 75]] rfl fun x hx => ?_⟩
           simp only [List.mem_cons, List.not_mem_nil, or_false] at hx
           rcases hx with rfl | rfl | rfl | rfl | rfl | rfl | rfl | rfl | rfl <;> assumption)
  obtain ⟨rfl, b, rfl, h2⟩ := hcut
  cases b with
  | true =>
    go_wp2_with (fail)
    go_ret
    exact ⟨ret_bool (res_t2 h1 h2), Below.refl _ _⟩
  | false =>
  go_upto_if 23 with (fail)
  go_cut [23] (fun v wr => w = wr ∧ ∃ b, v = .bool b ∧ Hid (b = grpB G3 s))
  case first =>
    go_wp2_with (fail)
    all_goals
      go_meet
      first
        | exact ⟨rfl, _, rfl, grp_is (w := [73, 78, 83, 69, 82, 84]) (by decide) (by assumption)⟩
        | exact ⟨rfl, _, rfl, grp_is (w := [73, 78, 84, 79]) (by decide) (by assumption)⟩
        | exact ⟨rfl, _, rfl, grp_is (w := [86, 65, 76, 85, 69, 83]) (by decide) (by assumption)⟩
        | exact ⟨rfl, _, rfl, grp_is (w := [85, 80, 68, 65, 84, 69]) (by decide) (by assumption)⟩
        | exact ⟨rfl, _, rfl, grp_is (w := [83, 69, 84]) (by decide) (by assumption)⟩
        | exact ⟨rfl, _, rfl, grp_is (w := [68, 69, 76, 69, 84, 69]) (by decide) (by assumption)⟩
        | exact ⟨rfl, _, rfl, grp_is (w := [83, 69, 76, 69, 67, 84]) (by decide) (by assumption)⟩
        | exact ⟨rfl, _, rfl, grp_is (w := [70, 82, 79, 77]) (by decide) (by assumption)⟩
        | (refine ⟨rfl, _, rfl, grp_last [[73, 78, 83, 69, 82, 84], [73, 78, 84, 79], [86, 65, 76, 85, 69, 83], [85, 80, 68, 65, 84, 69], [83, 69, 84], [68, 69, 76, 69, 84, 69], [83, 69, 76, 69, 67, 84], [70, 82, 79, 77]] rfl fun x hx => ?_⟩
           simp only [List.mem_cons, List.not_mem_nil, or_false] at hx
           rcases hx with rfl | rfl | rfl | rfl | rfl | rfl | rfl | rfl <;> assumption)
  obtain ⟨rfl, b, rfl, h3⟩ := hcut
  cases b with
  | true =>
    go_wp2_with (fail)
    go_ret
    exact ⟨ret_bool (res_t3 h1 h2 h3), Below.refl _ _⟩
  | false =>
  go_upto_if 33 with (fail)
  go_cut [33] (fun v wr => w = wr ∧ ∃ b, v = .bool b ∧ Hid (b = grpB G4 s))
  case first =>
    go_wp2_with (fail)
    all_goals
      go_meet
      first
        | exact ⟨rfl, _, rfl, grp_is (w := [71, 82, 65, 78, 84]) (by decide) (by assumption)⟩
        | exact ⟨rfl, _, rfl, grp_is (w := [82, 69, 86, 79, 75, 69]) (by decide) (by assumption)⟩
        | exact ⟨rfl, _, rfl, grp_is (w := [82, 69, 65, 68]) (by decide) (by assumption)⟩
        | exact ⟨rfl, _, rfl, grp_is (w := [87, 82, 73, 84, 69]) (by decide) (by assumption)⟩
        | exact ⟨rfl, _, rfl, grp_is (w := [79, 78]) (by decide) (by assumption)⟩
        | (refine ⟨rfl, _, rfl, grp_last [[71, 82, 65, 78, 84], [82, 69, 86, 79, 75, 69], [82, 69, 65, 68], [87, 82, 73, 84, 69], [79, 78]] rfl fun x hx => ?_⟩
           simp only [List.mem_cons, List.not_mem_nil, or_false] at hx
           rcases hx with rfl | rfl | rfl | rfl | rfl <;> assumption)
  obtain ⟨rfl, b, rfl, h4⟩ := hcut
  cases b with
  | true =>
    go_wp2_with (fail)
    go_ret
    exact ⟨ret_bool (res_t4 h1 h2 h3 h4), Below.refl _ _⟩
  | false =>
  go_upto_if 40 with (fail)
  go_cut [40] (fun v wr => w = wr ∧ ∃ b, v = .bool b ∧ Hid (b = grpB G5 s))
  case first =>
    go_wp2_with (fail)
    all_goals
      go_meet
      first
        | exact ⟨rfl, _, rfl, grp_is (w := [77, 73, 71, 82, 65, 84, 69]) (by decide) (by assumption)⟩
        | exact ⟨rfl, _, rfl, grp_is (w := [67, 79, 80, 89]) (by decide) (by assumption)⟩
        | exact ⟨rfl, _, rfl, grp_is (w := [74, 79, 73, 78]) (by decide) (by assumption)⟩
        | exact ⟨rfl, _, rfl, grp_is (w := [71, 82, 79, 85, 80]) (by decide) (by assumption)⟩
        | exact ⟨rfl, _, rfl, grp_is (w := [66, 89]) (by decide) (by assumption)⟩
        | (refine ⟨rfl, _, rfl, grp_last [[77, 73, 71, 82, 65, 84, 69], [67, 79, 80, 89], [74, 79, 73, 78], [71, 82, 79, 85, 80], [66, 89]] rfl fun x hx => ?_⟩
           simp only [List.mem_cons, List.not_mem_nil, or_false] at hx
           rcases hx with rfl | rfl | rfl | rfl | rfl <;> assumption)
  obtain ⟨rfl, b, rfl, h5⟩ := hcut
  cases b with
  | true =>
    go_wp2_with (fail)
    go_ret
    exact ⟨ret_bool (res_t5 h1 h2 h3 h4 h5), Below.refl _ _⟩
  | false =>
    go_wp2_with (fail)
    go_ret
    exact ⟨ret_bool (res_f h1 h2 h3 h4 h5), Below.refl _ _⟩

set_option maxRecDepth 100000 in
set_option maxHeartbeats 1600000 in
theorem name_any (s : ByteArray) (w : World) (hs : s.size ≤ 100000) :
    Calls Tryz.prog 158 #[.string s] w fun e w' => e = .returned (.bool (kmay letB parB 16 s.data.toList)) ∧ Below w.heap.size w w' := by
  go_enter Tryz.func158, Tryz.ntmps158
  go_wp2_with (first
    | (go_at_call 163; refine (wordKind_any _).mono ?_; rintro e w1 ⟨rfl, hb1⟩)
    | (go_at_call 164; refine (kmay_any 1 16 _ _ letB parB cls_letter cls_inWord s _ hs (by omega)).mono ?_; rintro e w2 ⟨rfl, hb2⟩))
  go_ret
  exact ⟨rfl, hb1.trans (hb2.mono hb1.size)⟩
end Go.Proofs.YtmhkmliebhbkdaaGreat
