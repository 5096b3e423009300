import Derived.Test.YtchebhdndkaheaaGreatDoorW04
import Derived.LoopTactic
import Derived.Lib.IndexLaws
import Derived.Lib.ReplaceLaws
import Derived.Lib.ParseIntBTie
import Derived.Lib.AtoiAllCases
import Derived.Shelf.LaysC
import Derived.Shelf.Strconv.ParseIntPublic10
import Derived.Ground.GgwProg
import Derived.Test.YtchebhdndkaheaaGreatDoorProg
import Derived.Test.YtchebhdndkaheaaGreatDoorW02

/- Kinds of octets: letter, digit, inWord, isSign, none; how many octets stand together; may one of a kind be. -/
namespace Go.Proofs.YtchebhdndkaheaaGreatDoor
open Go.RowKit Go.Lib

theorem cSet1 {a b : World} {n k : Nat} (hn : n ≤ k) (h : Below n a b) (o : Nat) (v : Value) : Below n a (b.setCell ⟨k, o, none⟩ v) := h.setCell hn v
theorem nonempty_of' {s : ByteArray} (h : 0 < s.size) : s.toList.isEmpty = false := by
  rw [toList_data]
  cases hl : s.data.toList with
  | nil =>
    have h2 : s.size = 0 := by rw [Lib.size_eq, hl]; rfl
    omega
  | cons _ _ => rfl
set_option maxRecDepth 100000 in
set_option maxHeartbeats 800000 in
theorem letter_any (b : UInt8) (w : World) :
    Calls Tryz.prog 147 #[.int .u8 (b.toNat : Int)] w fun e w' => e = .returned (.bool (letB b)) ∧ Below w.heap.size w w' := by
  go_enter Tryz.func147, Tryz.ntmps147
  go_wp2
  all_goals
    go_ret
    refine ⟨ret_bool ?_, ?_⟩
    · (first | (simp [letB, *]; done) | (simp [letB, *]; rw [Bool.eq_iff_iff]; simp; omega) | (simp [letB, *]; omega) | (unfold letB; rw [Bool.eq_iff_iff]; simp; omega) | (unfold letB; simp_all <;> omega))
    · (first | exact hb1.trans (hb2.mono hb1.size) | exact hb1 | (repeat (first | (with_reducible exact Below.refl _ _) | ((with_reducible refine cSet3 ?_ ?_ _ _ _); (· ((try simp) <;> omega))) | (with_reducible refine Below.drew ?_) | ((with_reducible refine cAlloc ?_ ?_ _); (· ((try simp) <;> omega))) | ((with_reducible refine cOn (by assumption) ?_ ?_); (· ((try simp) <;> omega))))))

set_option maxRecDepth 100000 in
set_option maxHeartbeats 800000 in
theorem digit_any (b : UInt8) (w : World) :
    Calls Tryz.prog 171 #[.int .u8 (b.toNat : Int)] w fun e w' => e = .returned (.bool (digB b)) ∧ Below w.heap.size w w' := by
  go_enter Tryz.func171, Tryz.ntmps171
  go_wp2
  all_goals
    go_ret
    refine ⟨ret_bool ?_, ?_⟩
    · (first | (simp [digB, *]; done) | (simp [digB, *]; rw [Bool.eq_iff_iff]; simp; omega) | (simp [digB, *]; omega) | (unfold digB; rw [Bool.eq_iff_iff]; simp; omega) | (unfold digB; simp_all <;> omega))
    · (first | exact hb1.trans (hb2.mono hb1.size) | exact hb1 | (repeat (first | (with_reducible exact Below.refl _ _) | ((with_reducible refine cSet3 ?_ ?_ _ _ _); (· ((try simp) <;> omega))) | (with_reducible refine Below.drew ?_) | ((with_reducible refine cAlloc ?_ ?_ _); (· ((try simp) <;> omega))) | ((with_reducible refine cOn (by assumption) ?_ ?_); (· ((try simp) <;> omega))))))

set_option maxRecDepth 100000 in
set_option maxHeartbeats 800000 in
theorem none_any (b : UInt8) (w : World) :
    Calls Tryz.prog 190 #[.int .u8 (b.toNat : Int)] w fun e w' => e = .returned (.bool (nonB b)) ∧ Below w.heap.size w w' := by
  go_enter Tryz.func190, Tryz.ntmps190
  go_wp2
  all_goals
    go_ret
    refine ⟨ret_bool ?_, ?_⟩
    · (first | (simp [nonB, *]; done) | (simp [nonB, *]; rw [Bool.eq_iff_iff]; simp; omega) | (simp [nonB, *]; omega) | (unfold nonB; rw [Bool.eq_iff_iff]; simp; omega) | (unfold nonB; simp_all <;> omega))
    · (first | exact hb1.trans (hb2.mono hb1.size) | exact hb1 | (repeat (first | (with_reducible exact Below.refl _ _) | ((with_reducible refine cSet3 ?_ ?_ _ _ _); (· ((try simp) <;> omega))) | (with_reducible refine Below.drew ?_) | ((with_reducible refine cAlloc ?_ ?_ _); (· ((try simp) <;> omega))) | ((with_reducible refine cOn (by assumption) ?_ ?_); (· ((try simp) <;> omega))))))

set_option maxRecDepth 100000 in
set_option maxHeartbeats 800000 in
theorem inWord_any (b : UInt8) (w : World) :
    Calls Tryz.prog 148 #[.int .u8 (b.toNat : Int)] w fun e w' => e = .returned (.bool (parB b)) ∧ Below w.heap.size w w' := by
  go_enter Tryz.func148, Tryz.ntmps148
  go_wp2_with (first
    | (go_at_call 147; refine (letter_any b _).mono ?_; rintro e w1 ⟨rfl, hb1⟩)
    | (go_at_call 171; refine (digit_any b _).mono ?_; rintro e w2 ⟨rfl, hb2⟩))
  all_goals
    go_ret
    refine ⟨ret_bool ?_, ?_⟩
    · (first | (simp [parB, *]; done) | (simp [parB, *]; rw [Bool.eq_iff_iff]; simp; omega) | (simp [parB, *]; omega) | (unfold parB; rw [Bool.eq_iff_iff]; simp; omega) | (unfold parB; simp_all <;> omega))
    · (first | exact hb1.trans (hb2.mono hb1.size) | exact hb1 | (repeat (first | (with_reducible exact Below.refl _ _) | ((with_reducible refine cSet3 ?_ ?_ _ _ _); (· ((try simp) <;> omega))) | (with_reducible refine Below.drew ?_) | ((with_reducible refine cAlloc ?_ ?_ _); (· ((try simp) <;> omega))) | ((with_reducible refine cOn (by assumption) ?_ ?_); (· ((try simp) <;> omega))))))

theorem sig_index (b : UInt8) : decide (0 ≤ Lib.indexByte [40, 41, 44, 61, 60, 43, 45, 42] b) = sigB b := by
  unfold sigB sigL
  rw [Bool.eq_iff_iff, decide_eq_true_eq]
  constructor
  · intro h
    obtain ⟨o, ho⟩ := Int.eq_ofNat_of_zero_le h
    have := (indexByte_some ho).1
    exact List.contains_iff_mem.2 (List.mem_of_getElem? this)
  · intro h
    have hm := List.contains_iff_mem.1 h
    obtain ⟨k, hk⟩ := List.getElem?_of_mem hm
    have hge := indexByte_ge [40, 41, 44, 61, 60, 43, 45, 42] b
    have hne : Lib.indexByte [40, 41, 44, 61, 60, 43, 45, 42] b ≠ -1 := fun e => indexByte_none e k hk
    omega
theorem u8_back (b : UInt8) : ((b.toNat : Int)).toNat.toUInt8 = b := by simp

set_option maxRecDepth 100000 in
set_option maxHeartbeats 800000 in
theorem isSign_any (b : UInt8) (w : World) :
    Calls Tryz.prog 189 #[.int .u8 (b.toNat : Int)] w fun e w' => e = .returned (.bool (sigB b)) ∧ Below w.heap.size w w' := by
  have HS := Lib.hid (sig_index b)
  have HC := Lib.hid (fun (W : World) => (show Calls Tryz.prog 187 #[.string ⟨#[40, 41, 44, 61, 60, 43, 45, 42]⟩, .int .u8 (b.toNat : Int)] W fun e w' => e = .returned (.int .i64 (Lib.indexByte [40, 41, 44, 61, 60, 43, 45, 42] b)) ∧ w' = W by
    have := Tryz.strings_IndexByte ⟨#[40, 41, 44, 61, 60, 43, 45, 42]⟩ (b.toNat : Int) W
    rwa [u8_back] at this))
  go_enter Tryz.func189, Tryz.ntmps189
  go_wp2_with (go_at_call 187; refine (HC.out _).mono ?_; rintro e w1 ⟨rfl, rfl⟩)
  go_ret
  exact ⟨ret_bool HS.out, Below.refl _ _⟩

/-- A function that tells octets. -/
structure Cls (f : Nat) (p : UInt8 → Bool) : Prop where
  enter : ∀ args w, (callFunc f args).run Tryz.prog w = .ok (.enter f args) w
  gives : ∀ (b : UInt8) (w : World), Calls Tryz.prog f #[.int .u8 (b.toNat : Int)] w fun e w' => e = .returned (.bool (p b)) ∧ Below w.heap.size w w'
theorem cls_letter : Cls 147 letB := ⟨enters_of Tryz.func147 (by kernel_rfl) rfl, letter_any⟩
theorem cls_digit : Cls 171 digB := ⟨enters_of Tryz.func171 (by kernel_rfl) rfl, digit_any⟩
theorem cls_inWord : Cls 148 parB := ⟨enters_of Tryz.func148 (by kernel_rfl) rfl, inWord_any⟩
theorem cls_isSign : Cls 189 sigB := ⟨enters_of Tryz.func189 (by kernel_rfl) rfl, isSign_any⟩
theorem cls_none : Cls 190 nonB := ⟨enters_of Tryz.func190 (by kernel_rfl) rfl, none_any⟩

set_option maxRecDepth 100000 in
set_option maxHeartbeats 1600000 in
theorem tog_0 (num most : Int) (f g : Nat) (p q : UInt8 → Bool) (hf : Cls f p) (hg : Cls g q) (s : ByteArray) (w : World) (hs : s.size ≤ 100000) (h0 : s.toList = []) :
    Calls Tryz.prog 145 #[.agg #[.int .i64 num, .int .i64 most, .func (.func f) #[] #[], .func (.func g) #[] #[]], .string s] w fun e w' => e = .returned (.int .i64 0) ∧ Below w.heap.size w w' := by
  have HF := Lib.hid hf
  have HG := Lib.hid hg
  have ef := hf.enter
  have eg := hg.enter
  clear hf hg
  have h0' : s.toList.isEmpty = true := by rw [h0]; rfl
  go_enter Tryz.func145, Tryz.ntmps145
  go_wp2
  refine detL_begin [.val (.string s), .val (.bool true), .val (.bool true), .val (undef), .val (undef), .val (undef), .val (undef), .val (undef), .val (undef), .val (.bool true)] 10 (by kernel_rfl) ?_
  refine detL_val (by kernel_rfl) (yields_of rfl fun w1 hb1 => ?_) ?_
  · have hc1 := bcellD hb1
    clear hb1
    go_simp
    exact Det1_same
  simp only [Act.put, List.setIfInBounds_toArray, List.set_cons_zero, List.set_cons_succ]
  refine detL_val (by kernel_rfl) (yields_of rfl fun w1 hb1 => ?_) ?_
  · have hc1 := bcellD hb1
    clear hb1
    go_simp
    exact Det1_same
  simp only [Act.put, List.setIfInBounds_toArray, List.set_cons_zero, List.set_cons_succ]
  refine detL_val (by kernel_rfl) (yields_of rfl fun w1 hb1 => ?_) ?_
  · have hc1 := bcellD hb1
    clear hb1
    go_simp
    exact Det1_same
  simp only [Act.put, List.setIfInBounds_toArray, List.set_cons_zero, List.set_cons_succ]
  refine detL_val (by kernel_rfl) (yields_not rfl) ?_
  simp only [Act.put, List.setIfInBounds_toArray, List.set_cons_zero, List.set_cons_succ]
  refine detL_val (by kernel_rfl) (yields_not rfl) ?_
  simp only [Act.put, List.setIfInBounds_toArray, List.set_cons_zero, List.set_cons_succ]
  refine detL_val (by kernel_rfl) (yields_not rfl) ?_
  simp only [Act.put, List.setIfInBounds_toArray, List.set_cons_zero, List.set_cons_succ]
  refine detL_val (by kernel_rfl) (yields_not rfl) ?_
  simp only [Act.put, List.setIfInBounds_toArray, List.set_cons_zero, List.set_cons_succ]
  refine detL_val (by kernel_rfl) (yields_not rfl) ?_
  simp only [Act.put, List.setIfInBounds_toArray, List.set_cons_zero, List.set_cons_succ]
  refine detL_val (by kernel_rfl) (yields_not rfl) ?_
  simp only [Act.put, List.setIfInBounds_toArray, List.set_cons_zero, List.set_cons_succ]
  refine detL_val (by kernel_rfl) (yields_of rfl fun w1 hb1 => ?_) ?_
  · have hc1 := bcellD hb1
    clear hb1
    go_simp
    exact Det1_same
  simp only [Act.put, List.setIfInBounds_toArray, List.set_cons_zero, List.set_cons_succ]
  refine detL_done (by kernel_rfl) fun w1 hw1 => ?_
  have hb1 := hw1.below
  clear hw1
  go_wp2
  go_ret
  exact ⟨rfl, by repeat (first | (with_reducible exact Below.refl _ _) | ((with_reducible refine cSet3 ?_ ?_ _ _ _); (· ((try simp) <;> omega))) | (with_reducible refine Below.drew ?_) | ((with_reducible refine cAlloc ?_ ?_ _); (· ((try simp) <;> omega))) | ((with_reducible refine cOn (by assumption) ?_ ?_); (· ((try simp) <;> omega))))⟩

set_option maxRecDepth 100000 in
set_option maxHeartbeats 1600000 in
theorem tog_no (num most : Int) (f g : Nat) (p q : UInt8 → Bool) (hf : Cls f p) (hg : Cls g q) (s : ByteArray) (w : World) (hs : s.size ≤ 100000) (hl : 0 < s.size) (hp : p s[0] = false) :
    Calls Tryz.prog 145 #[.agg #[.int .i64 num, .int .i64 most, .func (.func f) #[] #[], .func (.func g) #[] #[]], .string s] w fun e w' => e = .returned (.int .i64 0) ∧ Below w.heap.size w w' := by
  have HF := Lib.hid hf
  have HG := Lib.hid hg
  have ef := hf.enter
  have eg := hg.enter
  clear hf hg
  have h0' : s.toList.isEmpty = false := nonempty_of' hl
  have h0 : ¬ s.toList = [] := fun h => by rw [h] at h0'; cases h0'
  have HP := Lib.hid (fun (W : World) => (show Calls Tryz.prog f #[.int .u8 (s[0].toNat : Int)] W fun e w' => e = .returned (.bool false) ∧ Below W.heap.size W w' from hp ▸ HF.out.gives s[0] W))
  clear hp
  go_enter Tryz.func145, Tryz.ntmps145
  go_wp2
  refine detL_begin [.val (.string s), .val (.bool false), .val (.bool false), .val (.pointer (some ⟨w.heap.size, 2, none⟩)), .val (.func (.func f) #[] #[]), .val (.string s), .val (.int .u8 s[0].toNat), .val (.bool false), .val (.bool true), .val (.bool true)] 10 (by kernel_rfl) ?_
  refine detL_val (by kernel_rfl) (yields_of rfl fun w1 hb1 => ?_) ?_
  · have hc1 := bcellD hb1
    clear hb1
    go_simp
    exact Det1_same
  simp only [Act.put, List.setIfInBounds_toArray, List.set_cons_zero, List.set_cons_succ]
  refine detL_val (by kernel_rfl) (yields_of rfl fun w1 hb1 => ?_) ?_
  · have hc1 := bcellD hb1
    clear hb1
    go_simp
    exact Det1_same
  simp only [Act.put, List.setIfInBounds_toArray, List.set_cons_zero, List.set_cons_succ]
  refine detL_val (by kernel_rfl) (yields_of rfl fun w1 hb1 => ?_) ?_
  · have hc1 := bcellD hb1
    clear hb1
    go_simp
    exact Det1_same
  simp only [Act.put, List.setIfInBounds_toArray, List.set_cons_zero, List.set_cons_succ]
  refine detL_val (by kernel_rfl) (yields_of rfl fun w1 hb1 => ?_) ?_
  · have hc1 := bcellD hb1
    clear hb1
    go_simp
    exact Det1_same
  simp only [Act.put, List.setIfInBounds_toArray, List.set_cons_zero, List.set_cons_succ]
  refine detL_val (by kernel_rfl) (yields_of rfl fun w1 hb1 => ?_) ?_
  · have hc1 := bcellD hb1
    clear hb1
    go_simp
    exact Det1_same
  simp only [Act.put, List.setIfInBounds_toArray, List.set_cons_zero, List.set_cons_succ]
  refine detL_val (by kernel_rfl) (yields_of rfl fun w1 hb1 => ?_) ?_
  · have hc1 := bcellD hb1
    clear hb1
    go_simp
    exact Det1_same
  simp only [Act.put, List.setIfInBounds_toArray, List.set_cons_zero, List.set_cons_succ]
  refine detL_val (by kernel_rfl) (yields_of rfl fun w1 hb1 => ?_) ?_
  · have hc1 := bcellD hb1
    clear hb1
    go_simp
    exact Det1_same
  simp only [Act.put, List.setIfInBounds_toArray, List.set_cons_zero, List.set_cons_succ]
  refine detL_val (by kernel_rfl) (yields_of rfl fun w1 hb1 => ?_) ?_
  · have hc1 := bcellD hb1
    clear hb1
    go_simp
    exact Det1_enter (HP.out _)
  simp only [Act.put, List.setIfInBounds_toArray, List.set_cons_zero, List.set_cons_succ]
  refine detL_val (by kernel_rfl) (yields_of rfl fun w1 hb1 => ?_) ?_
  · have hc1 := bcellD hb1
    clear hb1
    go_simp
    exact Det1_same
  simp only [Act.put, List.setIfInBounds_toArray, List.set_cons_zero, List.set_cons_succ]
  refine detL_val (by kernel_rfl) (yields_of rfl fun w1 hb1 => ?_) ?_
  · have hc1 := bcellD hb1
    clear hb1
    go_simp
    exact Det1_same
  simp only [Act.put, List.setIfInBounds_toArray, List.set_cons_zero, List.set_cons_succ]
  refine detL_done (by kernel_rfl) fun w1 hw1 => ?_
  have hb1 := hw1.below
  clear hw1
  go_wp2
  go_ret
  exact ⟨rfl, by repeat (first | (with_reducible exact Below.refl _ _) | ((with_reducible refine cSet3 ?_ ?_ _ _ _); (· ((try simp) <;> omega))) | (with_reducible refine Below.drew ?_) | ((with_reducible refine cAlloc ?_ ?_ _); (· ((try simp) <;> omega))) | ((with_reducible refine cOn (by assumption) ?_ ?_); (· ((try simp) <;> omega))))⟩

/-- How many stand together, from the n-th on. -/
def togN (q : UInt8 → Bool) (s : ByteArray) (n : Nat) : Nat := n + ((s.data.toList.drop n).takeWhile q).length
theorem togN_step {q : UInt8 → Bool} {s : ByteArray} {n : Nat} (h : n < s.size) (hq : q s[n] = true) : togN q s n = togN q s (n + 1) := by
  have h2 : n < s.data.toList.length := by rw [← Lib.size_eq]; exact h
  have e : s.data.toList[n] = s[n] := rfl
  unfold togN
  rw [List.drop_eq_getElem_cons h2, e, List.takeWhile_cons, if_pos hq, List.length_cons]
  omega
theorem togN_stop {q : UInt8 → Bool} {s : ByteArray} {n : Nat} (h : n < s.size) (hq : q s[n] = false) : togN q s n = n := by
  have h2 : n < s.data.toList.length := by rw [← Lib.size_eq]; exact h
  have e : s.data.toList[n] = s[n] := rfl
  unfold togN
  rw [List.drop_eq_getElem_cons h2, e, List.takeWhile_cons, hq]
  simp
theorem togN_end {q : UInt8 → Bool} {s : ByteArray} : togN q s s.size = s.size := by
  unfold togN
  rw [List.drop_of_length_le (by rw [← Lib.size_eq]; omega)]
  simp
theorem tog_one {p q : UInt8 → Bool} {s : ByteArray} (h : 0 < s.size) (hp : p s[0] = true) : tog p q s.data.toList = togN q s 1 := by
  have h2 : 0 < s.data.toList.length := by rw [← Lib.size_eq]; exact h
  have e : s.data.toList[0] = s[0] := rfl
  unfold togN
  cases hl : s.data.toList with
  | nil => rw [hl] at h2; simp at h2
  | cons c r =>
    have hc : c = s[0] := by rw [← e]; simp [hl]
    rw [tog, hc, if_pos hp]
    rfl
theorem ret_i64 {a b : Int} (h : a = b) : Ending.returned (.int .i64 a) = .returned (.int .i64 b) := by rw [h]

set_option maxRecDepth 100000 in
set_option maxHeartbeats 1600000 in
theorem tog_yes (num most : Int) (f g : Nat) (p q : UInt8 → Bool) (hf : Cls f p) (hg : Cls g q) (s : ByteArray) (w : World) (hs : s.size ≤ 100000) (hl : 0 < s.size) (hp : p s[0] = true) :
    Calls Tryz.prog 145 #[.agg #[.int .i64 num, .int .i64 most, .func (.func f) #[] #[], .func (.func g) #[] #[]], .string s] w fun e w' => e = .returned (.int .i64 (tog p q s.data.toList)) ∧ Below w.heap.size w w' := by
  have HF := Lib.hid hf
  have HG := Lib.hid hg
  have ef := hf.enter
  have eg := hg.enter
  clear hf hg
  have HT := Lib.hid (tog_one (q := q) hl hp)
  have h0' : s.toList.isEmpty = false := nonempty_of' hl
  have h0 : ¬ s.toList = [] := fun h => by rw [h] at h0'; cases h0'
  have HP := Lib.hid (fun (W : World) => (show Calls Tryz.prog f #[.int .u8 (s[0].toNat : Int)] W fun e w' => e = .returned (.bool true) ∧ Below W.heap.size W w' from hp ▸ HF.out.gives s[0] W))
  clear hp
  go_enter Tryz.func145, Tryz.ntmps145
  go_wp2
  refine detL_begin [.val (.string s), .val (.bool false), .val (.bool false), .val (.pointer (some ⟨w.heap.size, 2, none⟩)), .val (.func (.func f) #[] #[]), .val (.string s), .val (.int .u8 s[0].toNat), .val (.bool true), .val (.bool false), .val (.bool false)] 10 (by kernel_rfl) ?_
  refine detL_val (by kernel_rfl) (yields_of rfl fun w1 hb1 => ?_) ?_
  · have hc1 := bcellD hb1
    clear hb1
    go_simp
    exact Det1_same
  simp only [Act.put, List.setIfInBounds_toArray, List.set_cons_zero, List.set_cons_succ]
  refine detL_val (by kernel_rfl) (yields_of rfl fun w1 hb1 => ?_) ?_
  · have hc1 := bcellD hb1
    clear hb1
    go_simp
    exact Det1_same
  simp only [Act.put, List.setIfInBounds_toArray, List.set_cons_zero, List.set_cons_succ]
  refine detL_val (by kernel_rfl) (yields_of rfl fun w1 hb1 => ?_) ?_
  · have hc1 := bcellD hb1
    clear hb1
    go_simp
    exact Det1_same
  simp only [Act.put, List.setIfInBounds_toArray, List.set_cons_zero, List.set_cons_succ]
  refine detL_val (by kernel_rfl) (yields_of rfl fun w1 hb1 => ?_) ?_
  · have hc1 := bcellD hb1
    clear hb1
    go_simp
    exact Det1_same
  simp only [Act.put, List.setIfInBounds_toArray, List.set_cons_zero, List.set_cons_succ]
  refine detL_val (by kernel_rfl) (yields_of rfl fun w1 hb1 => ?_) ?_
  · have hc1 := bcellD hb1
    clear hb1
    go_simp
    exact Det1_same
  simp only [Act.put, List.setIfInBounds_toArray, List.set_cons_zero, List.set_cons_succ]
  refine detL_val (by kernel_rfl) (yields_of rfl fun w1 hb1 => ?_) ?_
  · have hc1 := bcellD hb1
    clear hb1
    go_simp
    exact Det1_same
  simp only [Act.put, List.setIfInBounds_toArray, List.set_cons_zero, List.set_cons_succ]
  refine detL_val (by kernel_rfl) (yields_of rfl fun w1 hb1 => ?_) ?_
  · have hc1 := bcellD hb1
    clear hb1
    go_simp
    exact Det1_same
  simp only [Act.put, List.setIfInBounds_toArray, List.set_cons_zero, List.set_cons_succ]
  refine detL_val (by kernel_rfl) (yields_of rfl fun w1 hb1 => ?_) ?_
  · have hc1 := bcellD hb1
    clear hb1
    go_simp
    exact Det1_enter (HP.out _)
  simp only [Act.put, List.setIfInBounds_toArray, List.set_cons_zero, List.set_cons_succ]
  refine detL_val (by kernel_rfl) (yields_of rfl fun w1 hb1 => ?_) ?_
  · have hc1 := bcellD hb1
    clear hb1
    go_simp
    exact Det1_same
  simp only [Act.put, List.setIfInBounds_toArray, List.set_cons_zero, List.set_cons_succ]
  refine detL_val (by kernel_rfl) (yields_of rfl fun w1 hb1 => ?_) ?_
  · have hc1 := bcellD hb1
    clear hb1
    go_simp
    exact Det1_same
  simp only [Act.put, List.setIfInBounds_toArray, List.set_cons_zero, List.set_cons_succ]
  refine detL_done (by kernel_rfl) fun w1 hw1 => ?_
  have hcell1 := hw1.below.cell (p := ⟨w.heap.size, 3, none⟩) (by simp)
  have hcell : w1.cell? ⟨w.heap.size, 3, none⟩ = some (.func (.func g) #[] #[]) := hcell1.trans (by simp [go_sem])
  have hwz : w.heap.size < w1.heap.size := by have := hw1.below.size; simp at this; omega
  have HB1 : Hid (Below w.heap.size w w1) := by
    have hb1 := hw1.below
    show Below w.heap.size w w1
    repeat (first | (with_reducible exact Below.refl _ _) | ((with_reducible refine cSet3 ?_ ?_ _ _ _); (· ((try simp) <;> omega))) | (with_reducible refine Below.drew ?_) | ((with_reducible refine cAlloc ?_ ?_ _); (· ((try simp) <;> omega))) | ((with_reducible refine cOn (by assumption) ?_ ?_); (· ((try simp) <;> omega))))
  clear hw1 hcell1
  go_wp2
  obtain ⟨wo, hwo⟩ : ∃ wo : World, wo = w1 := ⟨_, rfl⟩
  rw [← hwo] at hcell hwz HB1 ⊢
  clear hwo
  have HC := Lib.hid hcell
  clear hcell hwz
  go_loopw [5] (fun i wr => ∃ n : Nat, 1 ≤ n ∧ n ≤ s.size ∧ i = .int .i64 n ∧ Below wo.heap.size wo wr ∧ Hid (tog p q s.data.toList = togN q s n)) (fun i _ => s.size - (intOf i).toNat)
  case atStart => exact ⟨1, by omega, by omega, rfl, Below.refl _ _, HT.out⟩
  case round =>
    obtain ⟨n, hn1, hn2, rfl, hb, HN⟩ := hrel
    have hz0 : w.heap.size < wo.heap.size := World.block_lt_of_cell? _ _ HC.out
    have hcell := (hb.cell (p := ⟨w.heap.size, 3, none⟩) hz0).trans HC.out
    have hwz : w.heap.size < wr.heap.size := Nat.lt_of_lt_of_le hz0 hb.size
    have hbs := hb.size
    by_cases hlt : n < s.size
    · cases hq : q s[n] with
      | true =>
        have HQ := Lib.hid (fun (W : World) => (show Calls Tryz.prog g #[.int .u8 (s[n].toNat : Int)] W fun e w' => e = .returned (.bool true) ∧ Below W.heap.size W w' from hq ▸ HG.out.gives s[n] W))
        have HS := Lib.hid (togN_step hlt hq)
        clear hq
        go_wp2
        refine detL_begin [.val (.int .i64 n), .val (.string s), .val (.int .i64 s.size), .val (.bool true), .val (.bool true), .val (.pointer (some ⟨w.heap.size, 3, none⟩)), .val (.func (.func g) #[] #[]), .val (.string s), .val (.int .i64 n), .val (.int .u8 s[n].toNat), .val (.bool true), .val (.bool true)] 12 (by kernel_rfl) ?_
        refine detL_val (by kernel_rfl) (yields_of rfl fun w1 hb1 => ?_) ?_
        · have hc1 := bcellD hb1
          clear hb1
          go_simp
          exact Det1_same
        simp only [Act.put, List.setIfInBounds_toArray, List.set_cons_zero, List.set_cons_succ]
        refine detL_val (by kernel_rfl) (yields_of rfl fun w1 hb1 => ?_) ?_
        · have hc1 := bcellD hb1
          clear hb1
          go_simp
          exact Det1_same
        simp only [Act.put, List.setIfInBounds_toArray, List.set_cons_zero, List.set_cons_succ]
        refine detL_val (by kernel_rfl) (yields_of rfl fun w1 hb1 => ?_) ?_
        · have hc1 := bcellD hb1
          clear hb1
          go_simp
          exact Det1_same
        simp only [Act.put, List.setIfInBounds_toArray, List.set_cons_zero, List.set_cons_succ]
        refine detL_val (by kernel_rfl) (yields_of rfl fun w1 hb1 => ?_) ?_
        · have hc1 := bcellD hb1
          clear hb1
          go_simp
          exact Det1_same
        simp only [Act.put, List.setIfInBounds_toArray, List.set_cons_zero, List.set_cons_succ]
        refine detL_val (by kernel_rfl) (yields_of rfl fun w1 hb1 => ?_) ?_
        · have hc1 := bcellD hb1
          clear hb1
          go_simp
          exact Det1_same
        simp only [Act.put, List.setIfInBounds_toArray, List.set_cons_zero, List.set_cons_succ]
        refine detL_val (by kernel_rfl) (yields_of rfl fun w1 hb1 => ?_) ?_
        · have hc1 := bcellD hb1
          clear hb1
          go_simp
          exact Det1_same
        simp only [Act.put, List.setIfInBounds_toArray, List.set_cons_zero, List.set_cons_succ]
        refine detL_val (by kernel_rfl) (yields_of rfl fun w1 hb1 => ?_) ?_
        · have hc1 := bcellD hb1
          have qg := (hc1 w.heap.size 3 hwz).trans hcell
          clear hb1
          go_simp
          exact Det1_same
        simp only [Act.put, List.setIfInBounds_toArray, List.set_cons_zero, List.set_cons_succ]
        refine detL_val (by kernel_rfl) (yields_of rfl fun w1 hb1 => ?_) ?_
        · have hc1 := bcellD hb1
          clear hb1
          go_simp
          exact Det1_same
        simp only [Act.put, List.setIfInBounds_toArray, List.set_cons_zero, List.set_cons_succ]
        refine detL_val (by kernel_rfl) (yields_of rfl fun w1 hb1 => ?_) ?_
        · have hc1 := bcellD hb1
          clear hb1
          go_simp
          exact Det1_same
        simp only [Act.put, List.setIfInBounds_toArray, List.set_cons_zero, List.set_cons_succ]
        refine detL_val (by kernel_rfl) (yields_of rfl fun w1 hb1 => ?_) ?_
        · have hc1 := bcellD hb1
          clear hb1
          go_simp
          exact Det1_same
        simp only [Act.put, List.setIfInBounds_toArray, List.set_cons_zero, List.set_cons_succ]
        refine detL_val (by kernel_rfl) (yields_of rfl fun w1 hb1 => ?_) ?_
        · have hc1 := bcellD hb1
          clear hb1
          go_simp
          exact Det1_enter (HQ.out _)
        simp only [Act.put, List.setIfInBounds_toArray, List.set_cons_zero, List.set_cons_succ]
        refine detL_val (by kernel_rfl) (yields_of rfl fun w1 hb1 => ?_) ?_
        · have hc1 := bcellD hb1
          clear hb1
          go_simp
          exact Det1_same
        simp only [Act.put, List.setIfInBounds_toArray, List.set_cons_zero, List.set_cons_succ]
        refine detL_done (by kernel_rfl) fun w2 hw2 => ?_
        have hb2 := hw2.below
        clear hw2
        go_wp2
        go_roundw
        case rel => exact ⟨n + 1, by omega, by omega, by go_num, hb.drew.trans (hb2.mono hbs), HN.out.trans HS.out⟩
        case measure => simp [intOf]; omega
      | false =>
        have HQ := Lib.hid (fun (W : World) => (show Calls Tryz.prog g #[.int .u8 (s[n].toNat : Int)] W fun e w' => e = .returned (.bool false) ∧ Below W.heap.size W w' from hq ▸ HG.out.gives s[n] W))
        have HS := Lib.hid (togN_stop hlt hq)
        clear hq
        go_wp2
        refine detL_begin [.val (.int .i64 n), .val (.string s), .val (.int .i64 s.size), .val (.bool true), .val (.bool true), .val (.pointer (some ⟨w.heap.size, 3, none⟩)), .val (.func (.func g) #[] #[]), .val (.string s), .val (.int .i64 n), .val (.int .u8 s[n].toNat), .val (.bool false), .val (.bool false)] 12 (by kernel_rfl) ?_
        refine detL_val (by kernel_rfl) (yields_of rfl fun w1 hb1 => ?_) ?_
        · have hc1 := bcellD hb1
          clear hb1
          go_simp
          exact Det1_same
        simp only [Act.put, List.setIfInBounds_toArray, List.set_cons_zero, List.set_cons_succ]
        refine detL_val (by kernel_rfl) (yields_of rfl fun w1 hb1 => ?_) ?_
        · have hc1 := bcellD hb1
          clear hb1
          go_simp
          exact Det1_same
        simp only [Act.put, List.setIfInBounds_toArray, List.set_cons_zero, List.set_cons_succ]
        refine detL_val (by kernel_rfl) (yields_of rfl fun w1 hb1 => ?_) ?_
        · have hc1 := bcellD hb1
          clear hb1
          go_simp
          exact Det1_same
        simp only [Act.put, List.setIfInBounds_toArray, List.set_cons_zero, List.set_cons_succ]
        refine detL_val (by kernel_rfl) (yields_of rfl fun w1 hb1 => ?_) ?_
        · have hc1 := bcellD hb1
          clear hb1
          go_simp
          exact Det1_same
        simp only [Act.put, List.setIfInBounds_toArray, List.set_cons_zero, List.set_cons_succ]
        refine detL_val (by kernel_rfl) (yields_of rfl fun w1 hb1 => ?_) ?_
        · have hc1 := bcellD hb1
          clear hb1
          go_simp
          exact Det1_same
        simp only [Act.put, List.setIfInBounds_toArray, List.set_cons_zero, List.set_cons_succ]
        refine detL_val (by kernel_rfl) (yields_of rfl fun w1 hb1 => ?_) ?_
        · have hc1 := bcellD hb1
          clear hb1
          go_simp
          exact Det1_same
        simp only [Act.put, List.setIfInBounds_toArray, List.set_cons_zero, List.set_cons_succ]
        refine detL_val (by kernel_rfl) (yields_of rfl fun w1 hb1 => ?_) ?_
        · have hc1 := bcellD hb1
          have qg := (hc1 w.heap.size 3 hwz).trans hcell
          clear hb1
          go_simp
          exact Det1_same
        simp only [Act.put, List.setIfInBounds_toArray, List.set_cons_zero, List.set_cons_succ]
        refine detL_val (by kernel_rfl) (yields_of rfl fun w1 hb1 => ?_) ?_
        · have hc1 := bcellD hb1
          clear hb1
          go_simp
          exact Det1_same
        simp only [Act.put, List.setIfInBounds_toArray, List.set_cons_zero, List.set_cons_succ]
        refine detL_val (by kernel_rfl) (yields_of rfl fun w1 hb1 => ?_) ?_
        · have hc1 := bcellD hb1
          clear hb1
          go_simp
          exact Det1_same
        simp only [Act.put, List.setIfInBounds_toArray, List.set_cons_zero, List.set_cons_succ]
        refine detL_val (by kernel_rfl) (yields_of rfl fun w1 hb1 => ?_) ?_
        · have hc1 := bcellD hb1
          clear hb1
          go_simp
          exact Det1_same
        simp only [Act.put, List.setIfInBounds_toArray, List.set_cons_zero, List.set_cons_succ]
        refine detL_val (by kernel_rfl) (yields_of rfl fun w1 hb1 => ?_) ?_
        · have hc1 := bcellD hb1
          clear hb1
          go_simp
          exact Det1_enter (HQ.out _)
        simp only [Act.put, List.setIfInBounds_toArray, List.set_cons_zero, List.set_cons_succ]
        refine detL_val (by kernel_rfl) (yields_of rfl fun w1 hb1 => ?_) ?_
        · have hc1 := bcellD hb1
          clear hb1
          go_simp
          exact Det1_same
        simp only [Act.put, List.setIfInBounds_toArray, List.set_cons_zero, List.set_cons_succ]
        refine detL_done (by kernel_rfl) fun w2 hw2 => ?_
        have hb2 := hw2.below
        clear hw2
        go_wp2
        go_ret
        exact ⟨ret_i64 (by rw [HN.out, HS.out]), HB1.out.trans ((hb.drew.trans (hb2.mono hbs)).mono HB1.out.size)⟩
    · obtain rfl : n = s.size := by omega
      go_wp2
      refine detL_begin [.val (.int .i64 s.size), .val (.string s), .val (.int .i64 s.size), .val (.bool false), .val (.bool false), .val (undef), .val (undef), .val (undef), .val (undef), .val (undef), .val (undef), .val (.bool false)] 12 (by kernel_rfl) ?_
      refine detL_val (by kernel_rfl) (yields_of rfl fun w1 hb1 => ?_) ?_
      · have hc1 := bcellD hb1
        clear hb1
        go_simp
        exact Det1_same
      simp only [Act.put, List.setIfInBounds_toArray, List.set_cons_zero, List.set_cons_succ]
      refine detL_val (by kernel_rfl) (yields_of rfl fun w1 hb1 => ?_) ?_
      · have hc1 := bcellD hb1
        clear hb1
        go_simp
        exact Det1_same
      simp only [Act.put, List.setIfInBounds_toArray, List.set_cons_zero, List.set_cons_succ]
      refine detL_val (by kernel_rfl) (yields_of rfl fun w1 hb1 => ?_) ?_
      · have hc1 := bcellD hb1
        clear hb1
        go_simp
        exact Det1_same
      simp only [Act.put, List.setIfInBounds_toArray, List.set_cons_zero, List.set_cons_succ]
      refine detL_val (by kernel_rfl) (yields_of rfl fun w1 hb1 => ?_) ?_
      · have hc1 := bcellD hb1
        clear hb1
        go_simp
        exact Det1_same
      simp only [Act.put, List.setIfInBounds_toArray, List.set_cons_zero, List.set_cons_succ]
      refine detL_val (by kernel_rfl) (yields_of rfl fun w1 hb1 => ?_) ?_
      · have hc1 := bcellD hb1
        clear hb1
        go_simp
        exact Det1_same
      simp only [Act.put, List.setIfInBounds_toArray, List.set_cons_zero, List.set_cons_succ]
      refine detL_val (by kernel_rfl) (yields_not rfl) ?_
      simp only [Act.put, List.setIfInBounds_toArray, List.set_cons_zero, List.set_cons_succ]
      refine detL_val (by kernel_rfl) (yields_not rfl) ?_
      simp only [Act.put, List.setIfInBounds_toArray, List.set_cons_zero, List.set_cons_succ]
      refine detL_val (by kernel_rfl) (yields_not rfl) ?_
      simp only [Act.put, List.setIfInBounds_toArray, List.set_cons_zero, List.set_cons_succ]
      refine detL_val (by kernel_rfl) (yields_not rfl) ?_
      simp only [Act.put, List.setIfInBounds_toArray, List.set_cons_zero, List.set_cons_succ]
      refine detL_val (by kernel_rfl) (yields_not rfl) ?_
      simp only [Act.put, List.setIfInBounds_toArray, List.set_cons_zero, List.set_cons_succ]
      refine detL_val (by kernel_rfl) (yields_not rfl) ?_
      simp only [Act.put, List.setIfInBounds_toArray, List.set_cons_zero, List.set_cons_succ]
      refine detL_val (by kernel_rfl) (yields_of rfl fun w1 hb1 => ?_) ?_
      · have hc1 := bcellD hb1
        clear hb1
        go_simp
        exact Det1_same
      simp only [Act.put, List.setIfInBounds_toArray, List.set_cons_zero, List.set_cons_succ]
      refine detL_done (by kernel_rfl) fun w2 hw2 => ?_
      have hb2 := hw2.below
      clear hw2
      go_wp2
      go_ret
      exact ⟨ret_i64 (by rw [HN.out, togN_end]), HB1.out.trans ((hb.drew.trans (hb2.mono hbs)).mono HB1.out.size)⟩

theorem tog_any (num most : Int) (f g : Nat) (p q : UInt8 → Bool) (hf : Cls f p) (hg : Cls g q) (s : ByteArray) (w : World) (hs : s.size ≤ 100000) :
    Calls Tryz.prog 145 #[.agg #[.int .i64 num, .int .i64 most, .func (.func f) #[] #[], .func (.func g) #[] #[]], .string s] w fun e w' => e = .returned (.int .i64 (tog p q s.data.toList)) ∧ Below w.heap.size w w' := by
  by_cases hl : 0 < s.size
  · cases hp : p s[0] with
    | true => exact tog_yes num most f g p q hf hg s w hs hl hp
    | false =>
      have e : tog p q s.data.toList = 0 := by
        cases hd : s.data.toList with
        | nil => rfl
        | cons c r =>
          have : c = s[0] := by
            have h2 : 0 < s.data.toList.length := by rw [← Lib.size_eq]; exact hl
            have e : s.data.toList[0] = s[0] := rfl
            rw [← e]; simp [hd]
          rw [tog, this, hp]; rfl
      rw [e]
      exact tog_no num most f g p q hf hg s w hs hl hp
  · have e : s.data.toList = [] := List.length_eq_zero_iff.1 (by rw [← Lib.size_eq]; omega)
    rw [e]
    exact tog_0 num most f g p q hf hg s w hs (by rw [toList_data]; exact e)
end Go.Proofs.YtchebhdndkaheaaGreatDoor

/- Each quote twice, and each pair of quotes once: plain facts. -/
namespace Go.Proofs.YtchebhdndkaheaaGreatDoor
open Go.RowKit Go.Lib

theorem idx2_hit (l : List UInt8) : Lib.index (39 :: 39 :: l) [39, 39] = 0 := by simp [Lib.index]
theorem idx2_miss {c : UInt8} (hc : c ≠ 39) (l : List UInt8) : Lib.index (c :: l) [39, 39] = if Lib.index l [39, 39] == -1 then -1 else Lib.index l [39, 39] + 1 := by
  have : ([39, 39] : List UInt8).isPrefixOf (c :: l) = false := by simp [List.isPrefixOf, Ne.symm hc]
  simp [Lib.index, this]
theorem rep2_dbl : ∀ (k : Nat) (l : List UInt8), l.count 39 ≤ k → replaceK [39, 39] [39] k (dbl l) = l
  | k, [], _ => by
    cases k with
    | zero => rfl
    | succ k => simp [replaceK, dbl, Lib.index]
  | k, c :: l, h => by
    by_cases hc : c = 39
    · subst hc
      rw [List.count_cons_self] at h
      obtain ⟨j, rfl⟩ : ∃ j, k = j + 1 := ⟨k - 1, by omega⟩
      have ih := rep2_dbl j l (by omega)
      have hh : Lib.index (dbl (39 :: l)) [39, 39] = ((0 : Nat) : Int) := by simp only [dbl, if_true]; exact idx2_hit _
      rw [replaceK_hit _ _ _ _ 0 hh]
      simp only [dbl, if_true]
      simpa using ih
    · rw [List.count_cons_of_ne hc] at h
      have ih := rep2_dbl k l h
      simp only [dbl, hc, if_false]
      cases k with
      | zero => simp only [replaceK] at ih ⊢; rw [ih]
      | succ k =>
        by_cases hm : Lib.index (dbl l) [39, 39] = -1
        · have hm' : Lib.index (c :: dbl l) [39, 39] = -1 := by rw [idx2_miss hc, hm]; rfl
          rw [replaceK, if_pos (by rw [hm]; rfl)] at ih
          rw [replaceK, if_pos (by rw [hm']; rfl), ih]
        · have hge := index_ge (dbl l) [39, 39]
          obtain ⟨i, hi⟩ : ∃ i : Nat, Lib.index (dbl l) [39, 39] = i := ⟨(Lib.index (dbl l) [39, 39]).toNat, by omega⟩
          have hi' : Lib.index (c :: dbl l) [39, 39] = ((i + 1 : Nat) : Int) := by
            rw [idx2_miss hc, hi]
            have : ((i : Int) == -1) = false := beq_eq_false_iff_ne.2 (by omega)
            rw [this]; simp
          rw [replaceK_hit _ _ _ _ _ hi] at ih
          rw [replaceK_hit _ _ _ _ _ hi']
          simpa using ih
theorem cnt2_ne {c : UInt8} (hc : c ≠ 39) (l : List UInt8) : Lib.count (c :: l) [39, 39] = Lib.count l [39, 39] := by
  by_cases hm : Lib.index l [39, 39] = -1
  · have hm' : Lib.index (c :: l) [39, 39] = -1 := by rw [idx2_miss hc, hm]; rfl
    rw [count_miss hm, count_miss hm']
  · have hge := index_ge l [39, 39]
    obtain ⟨i, hi⟩ : ∃ i : Nat, Lib.index l [39, 39] = i := ⟨(Lib.index l [39, 39]).toNat, by omega⟩
    have hi' : Lib.index (c :: l) [39, 39] = ((i + 1 : Nat) : Int) := by
      rw [idx2_miss hc, hi]
      have : ((i : Int) == -1) = false := beq_eq_false_iff_ne.2 (by omega)
      rw [this]; simp
    rw [count_hit (by simp) hi, count_hit (by simp) hi']
    simp
theorem cnt2 : ∀ l : List UInt8, Lib.count (dbl l) [39, 39] = l.count 39
  | [] => by rw [count_miss (by simp [dbl, Lib.index])]; rfl
  | c :: l => by
    by_cases hc : c = 39
    · subst hc
      have hh : Lib.index (dbl (39 :: l)) [39, 39] = ((0 : Nat) : Int) := by simp only [dbl, if_true]; exact idx2_hit _
      rw [count_hit (by simp) hh, List.count_cons_self]
      simp only [dbl, if_true]
      have := cnt2 l
      simp
      omega
    · rw [List.count_cons_of_ne hc]
      simp only [dbl, hc, if_false]
      rw [cnt2_ne hc, cnt2 l]
/-- Each pair of quotes once gives the text back. -/
theorem undbl (l : List UInt8) : Lib.replaceAll (dbl l) [39, 39] [39] = l := by
  unfold Lib.replaceAll Lib.replace Lib.replaceNum
  rw [if_neg (by decide), if_pos (.inl (by decide)), cnt2]
  exact rep2_dbl _ l (Nat.le_refl _)
end Go.Proofs.YtchebhdndkaheaaGreatDoor

/- ReplaceAll at a pair of quotes. -/
namespace Go.Proofs.YtchebhdndkaheaaGreatDoor
open Go.RowKit Go.Lib

end Go.Proofs.YtchebhdndkaheaaGreatDoor

/- A number's digits are parsed as that number: plain facts. -/
namespace Go.Proofs.YtchebhdndkaheaaGreatDoor
open Go.RowKit Go.Lib

theorem pu_snoc : ∀ (l : List UInt8) (acc v : Nat) (c : UInt8) (d : Nat), parseUint10 acc l = .ok v → c.toNat = 48 + d → d < 10 → v * 10 + d < 18446744073709551616 → parseUint10 acc (l ++ [c]) = .ok (v * 10 + d)
  | [], acc, v, c, d, h, hc, hd, hv => by
    simp only [parseUint10] at h
    injection h with h
    subst h
    simp only [List.nil_append, parseUint10]
    rw [if_pos (by omega), if_neg (by omega), if_neg (by omega), hc, show 48 + d - 48 = d by omega]
  | b :: l, acc, v, c, d, h, hc, hd, hv => by
    simp only [List.cons_append, parseUint10] at h ⊢
    split at h
    · rename_i h1
      rw [if_pos h1]
      split at h
      · cases h
      · rename_i h2
        rw [if_neg h2]
        split at h
        · cases h
        · rename_i h3
          rw [if_neg h3]
          exact pu_snoc l _ v c d h hc hd hv
    · cases h
theorem pu_dec (u : Nat) (hu : u < 18446744073709551616) : parseUint10 0 (decDigits u) = .ok u := by
  induction u using Nat.strongRecOn with
  | ind u ih =>
    by_cases h : u < 10
    · rw [dec_small h]
      have := pu_snoc [] 0 0 (UInt8.ofNat (48 + u % 10)) (u % 10) rfl (dig_val (by omega)) (by omega) (by omega)
      rw [show u % 10 = u by omega] at this ⊢
      simpa using this
    · rw [dec_big h]
      have := pu_snoc _ 0 (u / 10) (UInt8.ofNat (48 + u % 10)) (u % 10) (ih (u / 10) (by omega) (by omega)) (dig_val (by omega)) (by omega) (by omega)
      rw [this, show u / 10 * 10 + u % 10 = u by omega]
theorem mag_dec (u : Nat) (hu : u < 18446744073709551616) : parseMag (decDigits u) = .ok u := by
  unfold parseMag
  rw [if_neg (dec_ne u)]
  exact pu_dec u hu
theorem dec_head (u : Nat) : ∃ c r, decDigits u = c :: r ∧ c.toNat ≠ 43 ∧ c.toNat ≠ 45 := by
  induction u using Nat.strongRecOn with
  | ind u ih =>
    by_cases h : u < 10
    · refine ⟨_, _, dec_small h, ?_, ?_⟩ <;> rw [dig_val (by omega)] <;> omega
    · obtain ⟨c, r, e, h1, h2⟩ := ih (u / 10) (by omega)
      exact ⟨c, r ++ [_], by rw [dec_big h, e]; rfl, h1, h2⟩
/-- A number is parsed as it is written. -/
theorem parse_itoa (i : Int) (hi : In64 i) : parseIntB 64 (itoa i) = .ok i := by
  unfold In64 at hi
  rw [parseIntB_64]
  by_cases h : 0 ≤ i
  · obtain ⟨m, rfl⟩ := Int.eq_ofNat_of_zero_le h
    rw [itoa_nonneg]
    obtain ⟨c, r, e, h1, h2⟩ := dec_head m
    rw [e, atoiAll_plain c r h1 h2, ← e, mag_dec m (by omega)]
    simp only [signless]
    rw [if_neg (by omega)]
  · obtain ⟨m, hm⟩ := Int.eq_ofNat_of_zero_le (show 0 ≤ -i by omega)
    obtain rfl : i = -(m : Int) := by omega
    rw [itoa_neg m (by omega), atoiAll_minus, mag_dec m (by omega)]
    simp only [signed]
    rw [if_neg (by omega)]
end Go.Proofs.YtchebhdndkaheaaGreatDoor

/- Contracts of the library that this program comes to, laid at its own numbers by the kit's own programs (lay-shelf.mjs, lay-plain.mjs). -/
namespace Go.Proofs
open Go.Shelf
def Tryz.laysC174_ren : Go.Shelf.Ren := ⟨fun | 174 => 203 | 247 => 214 | 245 => 215 | 287 => 221 | 279 => 222 | 280 => 223 | 281 => 224 | 282 => 225 | 321 => 228 | 322 => 229 | 316 => 146 | 171 => 231 | 205 => 230 | 243 => 235 | 246 => 158 | 283 => 175 | 284 => 176 | 285 => 177 | 286 => 178 | 129 => 192 | 317 => 191 | 318 => 193 | 319 => 194 | 320 => 195 | 337 => 204 | 338 => 205 | n => n, fun | 9 => 9 | 3 => 3 | 2 => 2 | 75 => 167 | 85 => 215 | 4 => 4 | 167 => 234 | 5 => 5 | 53 => 195 | 175 => 235 | 46 => 212 | 168 => 237 | 37 => 162 | 0 => 0 | 210 => 246 | 21 => 21 | 127 => 180 | 145 => 253 | 143 => 251 | 171 => 194 | 173 => 198 | 212 => 209 | 51 => 210 | 20 => 20 | 213 => 211 | 232 => 226 | 233 => 227 | 80 => 170 | n => n, fun | 15 => 8 | 16 => 9 | 17 => 2 | 18 => 5 | 19 => 6 | n => n⟩
theorem Tryz.laysC174 : Go.Proofs.LaysC.n174 Tryz.prog Tryz.laysC174_ren := {
  mixed := by kernel_rfl
  f129 := Tryz.func192.trans (congrArg some (by kernel_rfl))
  f171 := Tryz.func231.trans (congrArg some (by kernel_rfl))
  f174 := Tryz.func203.trans (congrArg some (by kernel_rfl))
  f205 := Tryz.func230.trans (congrArg some (by kernel_rfl))
  f243 := Tryz.func235.trans (congrArg some (by kernel_rfl))
  f245 := Tryz.func215.trans (congrArg some (by kernel_rfl))
  f246 := Tryz.func158.trans (congrArg some (by kernel_rfl))
  f247 := Tryz.func214.trans (congrArg some (by kernel_rfl))
  f279 := Tryz.func222.trans (congrArg some (by kernel_rfl))
  f280 := Tryz.func223.trans (congrArg some (by kernel_rfl))
  f281 := Tryz.func224.trans (congrArg some (by kernel_rfl))
  f282 := Tryz.func225.trans (congrArg some (by kernel_rfl))
  f283 := Tryz.func175.trans (congrArg some (by kernel_rfl))
  f284 := Tryz.func176.trans (congrArg some (by kernel_rfl))
  f285 := Tryz.func177.trans (congrArg some (by kernel_rfl))
  f286 := Tryz.func178.trans (congrArg some (by kernel_rfl))
  f287 := Tryz.func221.trans (congrArg some (by kernel_rfl))
  f316 := Tryz.func146.trans (congrArg some (by kernel_rfl))
  f317 := Tryz.func191.trans (congrArg some (by kernel_rfl))
  f318 := Tryz.func193.trans (congrArg some (by kernel_rfl))
  f319 := Tryz.func194.trans (congrArg some (by kernel_rfl))
  f320 := Tryz.func195.trans (congrArg some (by kernel_rfl))
  f321 := Tryz.func228.trans (congrArg some (by kernel_rfl))
  f322 := Tryz.func229.trans (congrArg some (by kernel_rfl))
  f337 := Tryz.func204.trans (congrArg some (by kernel_rfl))
  f338 := Tryz.func205.trans (congrArg some (by kernel_rfl))
  t0 := Tryz.underlying0
  a0 := Tryz.isAgg0
  z0 := Tryz.sizeOf0
  v0 := Tryz.zeroValue0
  t2 := Tryz.underlying2
  a2 := Tryz.isAgg2
  z2 := Tryz.sizeOf2
  v2 := Tryz.zeroValue2
  t3 := Tryz.underlying3
  a3 := Tryz.isAgg3
  z3 := Tryz.sizeOf3
  v3 := Tryz.zeroValue3
  t4 := Tryz.underlying4
  a4 := Tryz.isAgg4
  z4 := Tryz.sizeOf4
  v4 := Tryz.zeroValue4
  t5 := Tryz.underlying5
  a5 := Tryz.isAgg5
  z5 := Tryz.sizeOf5
  v5 := Tryz.zeroValue5
  t9 := Tryz.underlying9
  a9 := Tryz.isAgg9
  z9 := Tryz.sizeOf9
  v9 := Tryz.zeroValue9
  t20 := Tryz.underlying20
  a20 := Tryz.isAgg20
  z20 := Tryz.sizeOf20
  v20 := Tryz.zeroValue20
  t21 := Tryz.underlying21
  a21 := Tryz.isAgg21
  z21 := Tryz.sizeOf21
  v21 := Tryz.zeroValue21
  t37 := Tryz.underlying162
  a37 := Tryz.isAgg162
  z37 := Tryz.sizeOf162
  v37 := Tryz.zeroValue162
  t46 := Tryz.underlying212
  a46 := Tryz.isAgg212
  z46 := Tryz.sizeOf212
  v46 := Tryz.zeroValue212
  t51 := Tryz.underlying210
  a51 := Tryz.isAgg210
  z51 := Tryz.sizeOf210
  v51 := Tryz.zeroValue210
  t53 := Tryz.underlying195
  a53 := Tryz.isAgg195
  z53 := Tryz.sizeOf195
  v53 := Tryz.zeroValue195
  t75 := Tryz.underlying167
  a75 := Tryz.isAgg167
  z75 := Tryz.sizeOf167
  v75 := Tryz.zeroValue167
  t85 := Tryz.underlying215
  a85 := Tryz.isAgg215
  z85 := Tryz.sizeOf215
  v85 := Tryz.zeroValue215
  t127 := Tryz.underlying180
  a127 := Tryz.isAgg180
  z127 := Tryz.sizeOf180
  v127 := Tryz.zeroValue180
  t143 := Tryz.underlying251
  a143 := Tryz.isAgg251
  z143 := Tryz.sizeOf251
  v143 := Tryz.zeroValue251
  t145 := Tryz.underlying253
  a145 := Tryz.isAgg253
  z145 := Tryz.sizeOf253
  v145 := Tryz.zeroValue253
  t167 := Tryz.underlying234
  a167 := Tryz.isAgg234
  z167 := Tryz.sizeOf234
  v167 := Tryz.zeroValue234
  t168 := Tryz.underlying237
  a168 := Tryz.isAgg237
  z168 := Tryz.sizeOf237
  v168 := Tryz.zeroValue237
  t171 := Tryz.underlying194
  a171 := Tryz.isAgg194
  z171 := Tryz.sizeOf194
  v171 := Tryz.zeroValue194
  t173 := Tryz.underlying198
  a173 := Tryz.isAgg198
  z173 := Tryz.sizeOf198
  v173 := Tryz.zeroValue198
  t175 := Tryz.underlying235
  a175 := Tryz.isAgg235
  z175 := Tryz.sizeOf235
  v175 := Tryz.zeroValue235
  t210 := Tryz.underlying246
  a210 := Tryz.isAgg246
  z210 := Tryz.sizeOf246
  v210 := Tryz.zeroValue246
  t212 := Tryz.underlying209
  a212 := Tryz.isAgg209
  z212 := Tryz.sizeOf209
  v212 := Tryz.zeroValue209
  t213 := Tryz.underlying211
  a213 := Tryz.isAgg211
  z213 := Tryz.sizeOf211
  t232 := Tryz.underlying226
  a232 := Tryz.isAgg226
  z232 := Tryz.sizeOf226
  v232 := Tryz.zeroValue226
  t233 := Tryz.underlying227
  a233 := Tryz.isAgg227
  z233 := Tryz.sizeOf227
  v233 := Tryz.zeroValue227
  g15 := by kernel_rfl
  g16 := by kernel_rfl
  g17 := by kernel_rfl
  g18 := by kernel_rfl
  g19 := by kernel_rfl
  t80 := Tryz.underlying170
  a80 := Tryz.isAgg170
  z80 := Tryz.sizeOf170
  v80 := Tryz.zeroValue170
  i0 := by kernel_rfl
  i2 := by kernel_rfl
  i3 := by kernel_rfl
  i4 := by kernel_rfl
  i5 := by kernel_rfl
  i9 := by kernel_rfl
  i20 := by kernel_rfl
  i21 := by kernel_rfl
  i37 := by kernel_rfl
  i46 := by kernel_rfl
  i51 := by kernel_rfl
  i53 := by kernel_rfl
  i75 := by kernel_rfl
  i80 := by kernel_rfl
  i85 := by kernel_rfl
  i127 := by kernel_rfl
  i143 := by kernel_rfl
  i145 := by kernel_rfl
  i167 := by kernel_rfl
  i168 := by kernel_rfl
  i171 := by kernel_rfl
  i173 := by kernel_rfl
  i175 := by kernel_rfl
  i210 := by kernel_rfl
  i212 := by kernel_rfl
  i232 := by kernel_rfl
  i233 := by kernel_rfl
  m15 := by kernel_rfl
  m16 := by kernel_rfl
  m17 := by kernel_rfl
  m18 := by kernel_rfl
  m19 := by kernel_rfl
  c0 := by kernel_rfl
  c2 := by kernel_rfl
  c3 := by kernel_rfl
  c4 := by kernel_rfl
  c5 := by kernel_rfl
  c9 := by kernel_rfl
  c20 := by kernel_rfl
  c21 := by kernel_rfl
  c37 := by kernel_rfl
  c46 := by kernel_rfl
  c51 := by kernel_rfl
  c53 := by kernel_rfl
  c75 := by kernel_rfl
  c80 := by kernel_rfl
  c85 := by kernel_rfl
  c127 := by kernel_rfl
  c143 := by kernel_rfl
  c145 := by kernel_rfl
  c167 := by kernel_rfl
  c168 := by kernel_rfl
  c171 := by kernel_rfl
  c173 := by kernel_rfl
  c175 := by kernel_rfl
  c210 := by kernel_rfl
  c212 := by kernel_rfl
  c213 := by kernel_rfl
  c232 := by kernel_rfl
  c233 := by kernel_rfl }
open Go.RowKit in
theorem Tryz.strconv_ParseInt_10_at64_ok (s : ByteArray) (hmax : s.size ≤ 9223372036854775806) (v : Int) (h : Lib.parseIntB 64 s.data.toList = .ok v) (w : World) :
    Calls Tryz.prog 203 #[.string s, .int .i64 10, .int .i64 64] w fun e w' => e = .returned (.tuple #[.int .i64 v, .nilIface]) ∧ (w' = w ∨ ∃ t, w' = Lib.bytesWorld w 5 t) := Any.strconv_ParseInt_10_at64_ok Tryz.laysC174 s hmax v h w
open Go.RowKit in
theorem Tryz.strconv_ParseInt_10_at64_range (s : ByteArray) (hlim : s.size ≤ 281474976710656) (h : Lib.parseIntB 64 s.data.toList = .range) (ev : Value) (w : World) (hv : w.cell? ⟨9, 0, none⟩ = some ev) (hev : ev = .nilIface ∨ ∃ te pe, ev = .iface te pe) :
    Calls Tryz.prog 203 #[.string s, .int .i64 10, .int .i64 64] w fun e w' => ∃ N, e = .returned (.tuple #[.int .i64 (Lib.intSat 64 s.data.toList), .iface 237 (.pointer (some ⟨N, 0, none⟩))]) ∧ w.heap.size ≤ N ∧ w'.heap[N]? = some (.cells #[.string ⟨#[80, 97, 114, 115, 101, 73, 110, 116]⟩, .string s, ev] 246 (0, 0)) ∧ Below w.heap.size w w' := Any.strconv_ParseInt_10_at64_range Tryz.laysC174 s hlim h ev w hv hev

end Go.Proofs
