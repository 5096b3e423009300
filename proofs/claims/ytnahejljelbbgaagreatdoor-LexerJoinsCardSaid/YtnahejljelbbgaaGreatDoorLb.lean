import Derived.Test.YtnahejljelbbgaaGreatDoorLa
import Derived.LoopTactic
import Derived.Lib.IndexLaws
/- Kinds of octets: letter, digit, inWord, isSign, none; how many octets stand together; may one of a kind be. -/
namespace Go.Proofs.YtnahejljelbbgaaGreatDoor
open Go.RowKit Go.Lib

theorem cSet1 {a b : World} {n k : Nat} (hn : n ≤ k) (h : Below n a b) (o : Nat) (v : Value) : Below n a (b.setCell ⟨k, o, none⟩ v) := h.setCell hn v
theorem nonempty_of' {s : ByteArray} (h : 0 < s.size) : s.toList.isEmpty = false := by
  rw [toList_data]
  cases hl : s.data.toList with
  | nil =>
    have h2 : s.size = 0 := by rw [Lib.size_eq, hl]; rfl
    omega
  | cons _ _ => rfl
theorem isN {b : UInt8} {k : Nat} : (((b.toNat : Int)) = (k : Int)) ↔ b.toNat = k := by omega
set_option maxRecDepth 100000 in
set_option maxHeartbeats 800000 in
theorem letter_any (b : UInt8) (w : World) :
    Calls Tryz.prog 58 #[.int .u8 (b.toNat : Int)] w fun e w' => e = .returned (.bool (letB b)) ∧ Below w.heap.size w w' := by
  go_enter Tryz.func58, Tryz.ntmps58
  go_wp2
  all_goals
    go_ret
    refine ⟨ret_bool ?_, ?_⟩
    · (first | (simp [letB, *]; done) | (simp [letB, *]; rw [Bool.eq_iff_iff]; simp; omega) | (simp [letB, *]; omega) | (unfold letB; rw [Bool.eq_iff_iff]; simp; omega) | (unfold letB; simp_all <;> omega))
    · (first | exact hb1.trans (hb2.mono hb1.size) | exact hb1 | (repeat (first | (with_reducible exact Below.refl _ _) | ((with_reducible refine cSet3 ?_ ?_ _ _ _); (· ((try simp) <;> omega))) | (with_reducible refine Below.drew ?_) | ((with_reducible refine cAlloc ?_ ?_ _); (· ((try simp) <;> omega))) | ((with_reducible refine cOn (by assumption) ?_ ?_); (· ((try simp) <;> omega))))))

set_option maxRecDepth 100000 in
set_option maxHeartbeats 800000 in
theorem digit_any (b : UInt8) (w : World) :
    Calls Tryz.prog 60 #[.int .u8 (b.toNat : Int)] w fun e w' => e = .returned (.bool (digB b)) ∧ Below w.heap.size w w' := by
  go_enter Tryz.func60, Tryz.ntmps60
  go_wp2
  all_goals
    go_ret
    refine ⟨ret_bool ?_, ?_⟩
    · (first | (simp [digB, *]; done) | (simp [digB, *]; rw [Bool.eq_iff_iff]; simp; omega) | (simp [digB, *]; omega) | (unfold digB; rw [Bool.eq_iff_iff]; simp; omega) | (unfold digB; simp_all <;> omega))
    · (first | exact hb1.trans (hb2.mono hb1.size) | exact hb1 | (repeat (first | (with_reducible exact Below.refl _ _) | ((with_reducible refine cSet3 ?_ ?_ _ _ _); (· ((try simp) <;> omega))) | (with_reducible refine Below.drew ?_) | ((with_reducible refine cAlloc ?_ ?_ _); (· ((try simp) <;> omega))) | ((with_reducible refine cOn (by assumption) ?_ ?_); (· ((try simp) <;> omega))))))

set_option maxRecDepth 100000 in
set_option maxHeartbeats 800000 in
theorem none_any (b : UInt8) (w : World) :
    Calls Tryz.prog 62 #[.int .u8 (b.toNat : Int)] w fun e w' => e = .returned (.bool (nonB b)) ∧ Below w.heap.size w w' := by
  go_enter Tryz.func62, Tryz.ntmps62
  go_wp2
  all_goals
    go_ret
    refine ⟨ret_bool ?_, ?_⟩
    · (first | (simp [nonB, *]; done) | (simp [nonB, *]; rw [Bool.eq_iff_iff]; simp; omega) | (simp [nonB, *]; omega) | (unfold nonB; rw [Bool.eq_iff_iff]; simp; omega) | (unfold nonB; simp_all <;> omega))
    · (first | exact hb1.trans (hb2.mono hb1.size) | exact hb1 | (repeat (first | (with_reducible exact Below.refl _ _) | ((with_reducible refine cSet3 ?_ ?_ _ _ _); (· ((try simp) <;> omega))) | (with_reducible refine Below.drew ?_) | ((with_reducible refine cAlloc ?_ ?_ _); (· ((try simp) <;> omega))) | ((with_reducible refine cOn (by assumption) ?_ ?_); (· ((try simp) <;> omega))))))

set_option maxRecDepth 100000 in
set_option maxHeartbeats 800000 in
theorem inWord_any (b : UInt8) (w : World) :
    Calls Tryz.prog 59 #[.int .u8 (b.toNat : Int)] w fun e w' => e = .returned (.bool (parB b)) ∧ Below w.heap.size w w' := by
  go_enter Tryz.func59, Tryz.ntmps59
  go_wp2_with (first
    | (go_at_call 58; refine (letter_any b _).mono ?_; rintro e w1 ⟨rfl, hb1⟩)
    | (go_at_call 60; refine (digit_any b _).mono ?_; rintro e w2 ⟨rfl, hb2⟩))
  all_goals
    go_ret
    refine ⟨ret_bool ?_, ?_⟩
    · (first | (simp [parB, *]; done) | (simp [parB, *]; rw [Bool.eq_iff_iff]; simp; omega) | (simp [parB, *]; omega) | (unfold parB; rw [Bool.eq_iff_iff]; simp; omega) | (unfold parB; simp_all <;> omega))
    · (first | exact hb1.trans (hb2.mono hb1.size) | exact hb1 | (repeat (first | (with_reducible exact Below.refl _ _) | ((with_reducible refine cSet3 ?_ ?_ _ _ _); (· ((try simp) <;> omega))) | (with_reducible refine Below.drew ?_) | ((with_reducible refine cAlloc ?_ ?_ _); (· ((try simp) <;> omega))) | ((with_reducible refine cOn (by assumption) ?_ ?_); (· ((try simp) <;> omega))))))

theorem sig_index (b : UInt8) : decide (0 ≤ Lib.indexByte [40, 41, 44, 61, 60, 43, 45, 42] b) = sigB b := by
  unfold sigB sigL
  rw [Bool.eq_iff_iff, decide_eq_true_eq]
  constructor
  · intro h
    obtain ⟨o, ho⟩ := Int.eq_ofNat_of_zero_le h
    have := (indexByte_some ho).1
    exact List.contains_iff_mem.2 (List.mem_of_getElem? this)
  · intro h
    have hm := List.contains_iff_mem.1 h
    obtain ⟨k, hk⟩ := List.getElem?_of_mem hm
    have hge := indexByte_ge [40, 41, 44, 61, 60, 43, 45, 42] b
    have hne : Lib.indexByte [40, 41, 44, 61, 60, 43, 45, 42] b ≠ -1 := fun e => indexByte_none e k hk
    omega
theorem u8_back (b : UInt8) : ((b.toNat : Int)).toNat.toUInt8 = b := by simp

set_option maxRecDepth 100000 in
set_option maxHeartbeats 800000 in
theorem isSign_any (b : UInt8) (w : World) :
    Calls Tryz.prog 61 #[.int .u8 (b.toNat : Int)] w fun e w' => e = .returned (.bool (sigB b)) ∧ Below w.heap.size w w' := by
  have HS := Lib.hid (sig_index b)
  have HC := Lib.hid (fun (W : World) => (show Calls Tryz.prog 68 #[.string ⟨#[40, 41, 44, 61, 60, 43, 45, 42]⟩, .int .u8 (b.toNat : Int)] W fun e w' => e = .returned (.int .i64 (Lib.indexByte [40, 41, 44, 61, 60, 43, 45, 42] b)) ∧ w' = W by
    have := Tryz.strings_IndexByte ⟨#[40, 41, 44, 61, 60, 43, 45, 42]⟩ (b.toNat : Int) W
    rwa [u8_back] at this))
  go_enter Tryz.func61, Tryz.ntmps61
  go_wp2_with (go_at_call 68; refine (HC.out _).mono ?_; rintro e w1 ⟨rfl, rfl⟩)
  go_ret
  exact ⟨ret_bool HS.out, Below.refl _ _⟩

/-- A function that tells octets. -/
structure Cls (f : Nat) (p : UInt8 → Bool) : Prop where
  enter : ∀ args w, (callFunc f args).run Tryz.prog w = .ok (.enter f args) w
  gives : ∀ (b : UInt8) (w : World), Calls Tryz.prog f #[.int .u8 (b.toNat : Int)] w fun e w' => e = .returned (.bool (p b)) ∧ Below w.heap.size w w'
theorem cls_letter : Cls 58 letB := ⟨enters_of Tryz.func58 (by kernel_rfl) rfl, letter_any⟩
theorem cls_digit : Cls 60 digB := ⟨enters_of Tryz.func60 (by kernel_rfl) rfl, digit_any⟩
theorem cls_inWord : Cls 59 parB := ⟨enters_of Tryz.func59 (by kernel_rfl) rfl, inWord_any⟩
theorem cls_isSign : Cls 61 sigB := ⟨enters_of Tryz.func61 (by kernel_rfl) rfl, isSign_any⟩
theorem cls_none : Cls 62 nonB := ⟨enters_of Tryz.func62 (by kernel_rfl) rfl, none_any⟩

set_option maxRecDepth 100000 in
set_option maxHeartbeats 1600000 in
theorem tog_0 (num most : Int) (f g : Nat) (p q : UInt8 → Bool) (hf : Cls f p) (hg : Cls g q) (s : ByteArray) (w : World) (hs : s.size ≤ 100000) (h0 : s.toList = []) :
    Calls Tryz.prog 37 #[.agg #[.int .i64 num, .int .i64 most, .func (.func f) #[] #[], .func (.func g) #[] #[]], .string s] w fun e w' => e = .returned (.int .i64 0) ∧ Below w.heap.size w w' := by
  have HF := Lib.hid hf
  have HG := Lib.hid hg
  have ef := hf.enter
  have eg := hg.enter
  clear hf hg
  have h0' : s.toList.isEmpty = true := by rw [h0]; rfl
  go_enter Tryz.func37, Tryz.ntmps37
  go_wp2
  refine detL_begin [.val (.string s), .val (.bool true), .val (.bool true), .val (undef), .val (undef), .val (undef), .val (undef), .val (undef), .val (undef), .val (.bool true)] 10 (by kernel_rfl) ?_
  refine detL_val (by kernel_rfl) (yields_of rfl fun w1 hb1 => ?_) ?_
  · have hc1 := bcellD hb1
    clear hb1
    go_simp
    exact Det1_same
  simp only [Act.put, List.setIfInBounds_toArray, List.set_cons_zero, List.set_cons_succ]
  refine detL_val (by kernel_rfl) (yields_of rfl fun w1 hb1 => ?_) ?_
  · have hc1 := bcellD hb1
    clear hb1
    go_simp
    exact Det1_same
  simp only [Act.put, List.setIfInBounds_toArray, List.set_cons_zero, List.set_cons_succ]
  refine detL_val (by kernel_rfl) (yields_of rfl fun w1 hb1 => ?_) ?_
  · have hc1 := bcellD hb1
    clear hb1
    go_simp
    exact Det1_same
  simp only [Act.put, List.setIfInBounds_toArray, List.set_cons_zero, List.set_cons_succ]
  refine detL_val (by kernel_rfl) (yields_not rfl) ?_
  simp only [Act.put, List.setIfInBounds_toArray, List.set_cons_zero, List.set_cons_succ]
  refine detL_val (by kernel_rfl) (yields_not rfl) ?_
  simp only [Act.put, List.setIfInBounds_toArray, List.set_cons_zero, List.set_cons_succ]
  refine detL_val (by kernel_rfl) (yields_not rfl) ?_
  simp only [Act.put, List.setIfInBounds_toArray, List.set_cons_zero, List.set_cons_succ]
  refine detL_val (by kernel_rfl) (yields_not rfl) ?_
  simp only [Act.put, List.setIfInBounds_toArray, List.set_cons_zero, List.set_cons_succ]
  refine detL_val (by kernel_rfl) (yields_not rfl) ?_
  simp only [Act.put, List.setIfInBounds_toArray, List.set_cons_zero, List.set_cons_succ]
  refine detL_val (by kernel_rfl) (yields_not rfl) ?_
  simp only [Act.put, List.setIfInBounds_toArray, List.set_cons_zero, List.set_cons_succ]
  refine detL_val (by kernel_rfl) (yields_of rfl fun w1 hb1 => ?_) ?_
  · have hc1 := bcellD hb1
    clear hb1
    go_simp
    exact Det1_same
  simp only [Act.put, List.setIfInBounds_toArray, List.set_cons_zero, List.set_cons_succ]
  refine detL_done (by kernel_rfl) fun w1 hw1 => ?_
  have hb1 := hw1.below
  clear hw1
  go_wp2
  go_ret
  exact ⟨rfl, by repeat (first | (with_reducible exact Below.refl _ _) | ((with_reducible refine cSet3 ?_ ?_ _ _ _); (· ((try simp) <;> omega))) | (with_reducible refine Below.drew ?_) | ((with_reducible refine cAlloc ?_ ?_ _); (· ((try simp) <;> omega))) | ((with_reducible refine cOn (by assumption) ?_ ?_); (· ((try simp) <;> omega))))⟩

set_option maxRecDepth 100000 in
set_option maxHeartbeats 1600000 in
theorem tog_no (num most : Int) (f g : Nat) (p q : UInt8 → Bool) (hf : Cls f p) (hg : Cls g q) (s : ByteArray) (w : World) (hs : s.size ≤ 100000) (hl : 0 < s.size) (hp : p s[0] = false) :
    Calls Tryz.prog 37 #[.agg #[.int .i64 num, .int .i64 most, .func (.func f) #[] #[], .func (.func g) #[] #[]], .string s] w fun e w' => e = .returned (.int .i64 0) ∧ Below w.heap.size w w' := by
  have HF := Lib.hid hf
  have HG := Lib.hid hg
  have ef := hf.enter
  have eg := hg.enter
  clear hf hg
  have h0' : s.toList.isEmpty = false := nonempty_of' hl
  have h0 : ¬ s.toList = [] := fun h => by rw [h] at h0'; cases h0'
  have HP := Lib.hid (fun (W : World) => (show Calls Tryz.prog f #[.int .u8 (s[0].toNat : Int)] W fun e w' => e = .returned (.bool false) ∧ Below W.heap.size W w' from hp ▸ HF.out.gives s[0] W))
  clear hp
  go_enter Tryz.func37, Tryz.ntmps37
  go_wp2
  refine detL_begin [.val (.string s), .val (.bool false), .val (.bool false), .val (.pointer (some ⟨w.heap.size, 2, none⟩)), .val (.func (.func f) #[] #[]), .val (.string s), .val (.int .u8 s[0].toNat), .val (.bool false), .val (.bool true), .val (.bool true)] 10 (by kernel_rfl) ?_
  refine detL_val (by kernel_rfl) (yields_of rfl fun w1 hb1 => ?_) ?_
  · have hc1 := bcellD hb1
    clear hb1
    go_simp
    exact Det1_same
  simp only [Act.put, List.setIfInBounds_toArray, List.set_cons_zero, List.set_cons_succ]
  refine detL_val (by kernel_rfl) (yields_of rfl fun w1 hb1 => ?_) ?_
  · have hc1 := bcellD hb1
    clear hb1
    go_simp
    exact Det1_same
  simp only [Act.put, List.setIfInBounds_toArray, List.set_cons_zero, List.set_cons_succ]
  refine detL_val (by kernel_rfl) (yields_of rfl fun w1 hb1 => ?_) ?_
  · have hc1 := bcellD hb1
    clear hb1
    go_simp
    exact Det1_same
  simp only [Act.put, List.setIfInBounds_toArray, List.set_cons_zero, List.set_cons_succ]
  refine detL_val (by kernel_rfl) (yields_of rfl fun w1 hb1 => ?_) ?_
  · have hc1 := bcellD hb1
    clear hb1
    go_simp
    exact Det1_same
  simp only [Act.put, List.setIfInBounds_toArray, List.set_cons_zero, List.set_cons_succ]
  refine detL_val (by kernel_rfl) (yields_of rfl fun w1 hb1 => ?_) ?_
  · have hc1 := bcellD hb1
    clear hb1
    go_simp
    exact Det1_same
  simp only [Act.put, List.setIfInBounds_toArray, List.set_cons_zero, List.set_cons_succ]
  refine detL_val (by kernel_rfl) (yields_of rfl fun w1 hb1 => ?_) ?_
  · have hc1 := bcellD hb1
    clear hb1
    go_simp
    exact Det1_same
  simp only [Act.put, List.setIfInBounds_toArray, List.set_cons_zero, List.set_cons_succ]
  refine detL_val (by kernel_rfl) (yields_of rfl fun w1 hb1 => ?_) ?_
  · have hc1 := bcellD hb1
    clear hb1
    go_simp
    exact Det1_same
  simp only [Act.put, List.setIfInBounds_toArray, List.set_cons_zero, List.set_cons_succ]
  refine detL_val (by kernel_rfl) (yields_of rfl fun w1 hb1 => ?_) ?_
  · have hc1 := bcellD hb1
    clear hb1
    go_simp
    exact Det1_enter (HP.out _)
  simp only [Act.put, List.setIfInBounds_toArray, List.set_cons_zero, List.set_cons_succ]
  refine detL_val (by kernel_rfl) (yields_of rfl fun w1 hb1 => ?_) ?_
  · have hc1 := bcellD hb1
    clear hb1
    go_simp
    exact Det1_same
  simp only [Act.put, List.setIfInBounds_toArray, List.set_cons_zero, List.set_cons_succ]
  refine detL_val (by kernel_rfl) (yields_of rfl fun w1 hb1 => ?_) ?_
  · have hc1 := bcellD hb1
    clear hb1
    go_simp
    exact Det1_same
  simp only [Act.put, List.setIfInBounds_toArray, List.set_cons_zero, List.set_cons_succ]
  refine detL_done (by kernel_rfl) fun w1 hw1 => ?_
  have hb1 := hw1.below
  clear hw1
  go_wp2
  go_ret
  exact ⟨rfl, by repeat (first | (with_reducible exact Below.refl _ _) | ((with_reducible refine cSet3 ?_ ?_ _ _ _); (· ((try simp) <;> omega))) | (with_reducible refine Below.drew ?_) | ((with_reducible refine cAlloc ?_ ?_ _); (· ((try simp) <;> omega))) | ((with_reducible refine cOn (by assumption) ?_ ?_); (· ((try simp) <;> omega))))⟩

/-- How many stand together, from the n-th on. -/
def togN (q : UInt8 → Bool) (s : ByteArray) (n : Nat) : Nat := n + ((s.data.toList.drop n).takeWhile q).length
theorem togN_step {q : UInt8 → Bool} {s : ByteArray} {n : Nat} (h : n < s.size) (hq : q s[n] = true) : togN q s n = togN q s (n + 1) := by
  have h2 : n < s.data.toList.length := by rw [← Lib.size_eq]; exact h
  have e : s.data.toList[n] = s[n] := rfl
  unfold togN
  rw [List.drop_eq_getElem_cons h2, e, List.takeWhile_cons, if_pos hq, List.length_cons]
  omega
theorem togN_stop {q : UInt8 → Bool} {s : ByteArray} {n : Nat} (h : n < s.size) (hq : q s[n] = false) : togN q s n = n := by
  have h2 : n < s.data.toList.length := by rw [← Lib.size_eq]; exact h
  have e : s.data.toList[n] = s[n] := rfl
  unfold togN
  rw [List.drop_eq_getElem_cons h2, e, List.takeWhile_cons, hq]
  simp
theorem togN_end {q : UInt8 → Bool} {s : ByteArray} : togN q s s.size = s.size := by
  unfold togN
  rw [List.drop_of_length_le (by rw [← Lib.size_eq]; omega)]
  simp
theorem tog_one {p q : UInt8 → Bool} {s : ByteArray} (h : 0 < s.size) (hp : p s[0] = true) : tog p q s.data.toList = togN q s 1 := by
  have h2 : 0 < s.data.toList.length := by rw [← Lib.size_eq]; exact h
  have e : s.data.toList[0] = s[0] := rfl
  unfold togN
  cases hl : s.data.toList with
  | nil => rw [hl] at h2; simp at h2
  | cons c r =>
    have hc : c = s[0] := by rw [← e]; simp [hl]
    rw [tog, hc, if_pos hp]
    rfl
theorem ret_i64 {a b : Int} (h : a = b) : Ending.returned (.int .i64 a) = .returned (.int .i64 b) := by rw [h]

set_option maxRecDepth 100000 in
set_option maxHeartbeats 1600000 in
theorem tog_yes (num most : Int) (f g : Nat) (p q : UInt8 → Bool) (hf : Cls f p) (hg : Cls g q) (s : ByteArray) (w : World) (hs : s.size ≤ 100000) (hl : 0 < s.size) (hp : p s[0] = true) :
    Calls Tryz.prog 37 #[.agg #[.int .i64 num, .int .i64 most, .func (.func f) #[] #[], .func (.func g) #[] #[]], .string s] w fun e w' => e = .returned (.int .i64 (tog p q s.data.toList)) ∧ Below w.heap.size w w' := by
  have HF := Lib.hid hf
  have HG := Lib.hid hg
  have ef := hf.enter
  have eg := hg.enter
  clear hf hg
  have HT := Lib.hid (tog_one (q := q) hl hp)
  have h0' : s.toList.isEmpty = false := nonempty_of' hl
  have h0 : ¬ s.toList = [] := fun h => by rw [h] at h0'; cases h0'
  have HP := Lib.hid (fun (W : World) => (show Calls Tryz.prog f #[.int .u8 (s[0].toNat : Int)] W fun e w' => e = .returned (.bool true) ∧ Below W.heap.size W w' from hp ▸ HF.out.gives s[0] W))
  clear hp
  go_enter Tryz.func37, Tryz.ntmps37
  go_wp2
  refine detL_begin [.val (.string s), .val (.bool false), .val (.bool false), .val (.pointer (some ⟨w.heap.size, 2, none⟩)), .val (.func (.func f) #[] #[]), .val (.string s), .val (.int .u8 s[0].toNat), .val (.bool true), .val (.bool false), .val (.bool false)] 10 (by kernel_rfl) ?_
  refine detL_val (by kernel_rfl) (yields_of rfl fun w1 hb1 => ?_) ?_
  · have hc1 := bcellD hb1
    clear hb1
    go_simp
    exact Det1_same
  simp only [Act.put, List.setIfInBounds_toArray, List.set_cons_zero, List.set_cons_succ]
  refine detL_val (by kernel_rfl) (yields_of rfl fun w1 hb1 => ?_) ?_
  · have hc1 := bcellD hb1
    clear hb1
    go_simp
    exact Det1_same
  simp only [Act.put, List.setIfInBounds_toArray, List.set_cons_zero, List.set_cons_succ]
  refine detL_val (by kernel_rfl) (yields_of rfl fun w1 hb1 => ?_) ?_
  · have hc1 := bcellD hb1
    clear hb1
    go_simp
    exact Det1_same
  simp only [Act.put, List.setIfInBounds_toArray, List.set_cons_zero, List.set_cons_succ]
  refine detL_val (by kernel_rfl) (yields_of rfl fun w1 hb1 => ?_) ?_
  · have hc1 := bcellD hb1
    clear hb1
    go_simp
    exact Det1_same
  simp only [Act.put, List.setIfInBounds_toArray, List.set_cons_zero, List.set_cons_succ]
  refine detL_val (by kernel_rfl) (yields_of rfl fun w1 hb1 => ?_) ?_
  · have hc1 := bcellD hb1
    clear hb1
    go_simp
    exact Det1_same
  simp only [Act.put, List.setIfInBounds_toArray, List.set_cons_zero, List.set_cons_succ]
  refine detL_val (by kernel_rfl) (yields_of rfl fun w1 hb1 => ?_) ?_
  · have hc1 := bcellD hb1
    clear hb1
    go_simp
    exact Det1_same
  simp only [Act.put, List.setIfInBounds_toArray, List.set_cons_zero, List.set_cons_succ]
  refine detL_val (by kernel_rfl) (yields_of rfl fun w1 hb1 => ?_) ?_
  · have hc1 := bcellD hb1
    clear hb1
    go_simp
    exact Det1_same
  simp only [Act.put, List.setIfInBounds_toArray, List.set_cons_zero, List.set_cons_succ]
  refine detL_val (by kernel_rfl) (yields_of rfl fun w1 hb1 => ?_) ?_
  · have hc1 := bcellD hb1
    clear hb1
    go_simp
    exact Det1_enter (HP.out _)
  simp only [Act.put, List.setIfInBounds_toArray, List.set_cons_zero, List.set_cons_succ]
  refine detL_val (by kernel_rfl) (yields_of rfl fun w1 hb1 => ?_) ?_
  · have hc1 := bcellD hb1
    clear hb1
    go_simp
    exact Det1_same
  simp only [Act.put, List.setIfInBounds_toArray, List.set_cons_zero, List.set_cons_succ]
  refine detL_val (by kernel_rfl) (yields_of rfl fun w1 hb1 => ?_) ?_
  · have hc1 := bcellD hb1
    clear hb1
    go_simp
    exact Det1_same
  simp only [Act.put, List.setIfInBounds_toArray, List.set_cons_zero, List.set_cons_succ]
  refine detL_done (by kernel_rfl) fun w1 hw1 => ?_
  have hcell1 := hw1.below.cell (p := ⟨w.heap.size, 3, none⟩) (by simp)
  have hcell : w1.cell? ⟨w.heap.size, 3, none⟩ = some (.func (.func g) #[] #[]) := hcell1.trans (by simp [go_sem])
  have hwz : w.heap.size < w1.heap.size := by have := hw1.below.size; simp at this; omega
  have HB1 : Hid (Below w.heap.size w w1) := by
    have hb1 := hw1.below
    show Below w.heap.size w w1
    repeat (first | (with_reducible exact Below.refl _ _) | ((with_reducible refine cSet3 ?_ ?_ _ _ _); (· ((try simp) <;> omega))) | (with_reducible refine Below.drew ?_) | ((with_reducible refine cAlloc ?_ ?_ _); (· ((try simp) <;> omega))) | ((with_reducible refine cOn (by assumption) ?_ ?_); (· ((try simp) <;> omega))))
  clear hw1 hcell1
  go_wp2
  obtain ⟨wo, hwo⟩ : ∃ wo : World, wo = w1 := ⟨_, rfl⟩
  rw [← hwo] at hcell hwz HB1 ⊢
  clear hwo
  have HC := Lib.hid hcell
  clear hcell hwz
  go_loopw [5] (fun i wr => ∃ n : Nat, 1 ≤ n ∧ n ≤ s.size ∧ i = .int .i64 n ∧ Below wo.heap.size wo wr ∧ Hid (tog p q s.data.toList = togN q s n)) (fun i _ => s.size - (intOf i).toNat)
  case atStart => exact ⟨1, by omega, by omega, rfl, Below.refl _ _, HT.out⟩
  case round =>
    obtain ⟨n, hn1, hn2, rfl, hb, HN⟩ := hrel
    have hz0 : w.heap.size < wo.heap.size := World.block_lt_of_cell? _ _ HC.out
    have hcell := (hb.cell (p := ⟨w.heap.size, 3, none⟩) hz0).trans HC.out
    have hwz : w.heap.size < wr.heap.size := Nat.lt_of_lt_of_le hz0 hb.size
    have hbs := hb.size
    by_cases hlt : n < s.size
    · cases hq : q s[n] with
      | true =>
        have HQ := Lib.hid (fun (W : World) => (show Calls Tryz.prog g #[.int .u8 (s[n].toNat : Int)] W fun e w' => e = .returned (.bool true) ∧ Below W.heap.size W w' from hq ▸ HG.out.gives s[n] W))
        have HS := Lib.hid (togN_step hlt hq)
        clear hq
        go_wp2
        refine detL_begin [.val (.int .i64 n), .val (.string s), .val (.int .i64 s.size), .val (.bool true), .val (.bool true), .val (.pointer (some ⟨w.heap.size, 3, none⟩)), .val (.func (.func g) #[] #[]), .val (.string s), .val (.int .i64 n), .val (.int .u8 s[n].toNat), .val (.bool true), .val (.bool true)] 12 (by kernel_rfl) ?_
        refine detL_val (by kernel_rfl) (yields_of rfl fun w1 hb1 => ?_) ?_
        · have hc1 := bcellD hb1
          clear hb1
          go_simp
          exact Det1_same
        simp only [Act.put, List.setIfInBounds_toArray, List.set_cons_zero, List.set_cons_succ]
        refine detL_val (by kernel_rfl) (yields_of rfl fun w1 hb1 => ?_) ?_
        · have hc1 := bcellD hb1
          clear hb1
          go_simp
          exact Det1_same
        simp only [Act.put, List.setIfInBounds_toArray, List.set_cons_zero, List.set_cons_succ]
        refine detL_val (by kernel_rfl) (yields_of rfl fun w1 hb1 => ?_) ?_
        · have hc1 := bcellD hb1
          clear hb1
          go_simp
          exact Det1_same
        simp only [Act.put, List.setIfInBounds_toArray, List.set_cons_zero, List.set_cons_succ]
        refine detL_val (by kernel_rfl) (yields_of rfl fun w1 hb1 => ?_) ?_
        · have hc1 := bcellD hb1
          clear hb1
          go_simp
          exact Det1_same
        simp only [Act.put, List.setIfInBounds_toArray, List.set_cons_zero, List.set_cons_succ]
        refine detL_val (by kernel_rfl) (yields_of rfl fun w1 hb1 => ?_) ?_
        · have hc1 := bcellD hb1
          clear hb1
          go_simp
          exact Det1_same
        simp only [Act.put, List.setIfInBounds_toArray, List.set_cons_zero, List.set_cons_succ]
        refine detL_val (by kernel_rfl) (yields_of rfl fun w1 hb1 => ?_) ?_
        · have hc1 := bcellD hb1
          clear hb1
          go_simp
          exact Det1_same
        simp only [Act.put, List.setIfInBounds_toArray, List.set_cons_zero, List.set_cons_succ]
        refine detL_val (by kernel_rfl) (yields_of rfl fun w1 hb1 => ?_) ?_
        · have hc1 := bcellD hb1
          have qg := (hc1 w.heap.size 3 hwz).trans hcell
          clear hb1
          go_simp
          exact Det1_same
        simp only [Act.put, List.setIfInBounds_toArray, List.set_cons_zero, List.set_cons_succ]
        refine detL_val (by kernel_rfl) (yields_of rfl fun w1 hb1 => ?_) ?_
        · have hc1 := bcellD hb1
          clear hb1
          go_simp
          exact Det1_same
        simp only [Act.put, List.setIfInBounds_toArray, List.set_cons_zero, List.set_cons_succ]
        refine detL_val (by kernel_rfl) (yields_of rfl fun w1 hb1 => ?_) ?_
        · have hc1 := bcellD hb1
          clear hb1
          go_simp
          exact Det1_same
        simp only [Act.put, List.setIfInBounds_toArray, List.set_cons_zero, List.set_cons_succ]
        refine detL_val (by kernel_rfl) (yields_of rfl fun w1 hb1 => ?_) ?_
        · have hc1 := bcellD hb1
          clear hb1
          go_simp
          exact Det1_same
        simp only [Act.put, List.setIfInBounds_toArray, List.set_cons_zero, List.set_cons_succ]
        refine detL_val (by kernel_rfl) (yields_of rfl fun w1 hb1 => ?_) ?_
        · have hc1 := bcellD hb1
          clear hb1
          go_simp
          exact Det1_enter (HQ.out _)
        simp only [Act.put, List.setIfInBounds_toArray, List.set_cons_zero, List.set_cons_succ]
        refine detL_val (by kernel_rfl) (yields_of rfl fun w1 hb1 => ?_) ?_
        · have hc1 := bcellD hb1
          clear hb1
          go_simp
          exact Det1_same
        simp only [Act.put, List.setIfInBounds_toArray, List.set_cons_zero, List.set_cons_succ]
        refine detL_done (by kernel_rfl) fun w2 hw2 => ?_
        have hb2 := hw2.below
        clear hw2
        go_wp2
        go_roundw
        case rel => exact ⟨n + 1, by omega, by omega, by go_num, hb.drew.trans (hb2.mono hbs), HN.out.trans HS.out⟩
        case measure => simp [intOf]; omega
      | false =>
        have HQ := Lib.hid (fun (W : World) => (show Calls Tryz.prog g #[.int .u8 (s[n].toNat : Int)] W fun e w' => e = .returned (.bool false) ∧ Below W.heap.size W w' from hq ▸ HG.out.gives s[n] W))
        have HS := Lib.hid (togN_stop hlt hq)
        clear hq
        go_wp2
        refine detL_begin [.val (.int .i64 n), .val (.string s), .val (.int .i64 s.size), .val (.bool true), .val (.bool true), .val (.pointer (some ⟨w.heap.size, 3, none⟩)), .val (.func (.func g) #[] #[]), .val (.string s), .val (.int .i64 n), .val (.int .u8 s[n].toNat), .val (.bool false), .val (.bool false)] 12 (by kernel_rfl) ?_
        refine detL_val (by kernel_rfl) (yields_of rfl fun w1 hb1 => ?_) ?_
        · have hc1 := bcellD hb1
          clear hb1
          go_simp
          exact Det1_same
        simp only [Act.put, List.setIfInBounds_toArray, List.set_cons_zero, List.set_cons_succ]
        refine detL_val (by kernel_rfl) (yields_of rfl fun w1 hb1 => ?_) ?_
        · have hc1 := bcellD hb1
          clear hb1
          go_simp
          exact Det1_same
        simp only [Act.put, List.setIfInBounds_toArray, List.set_cons_zero, List.set_cons_succ]
        refine detL_val (by kernel_rfl) (yields_of rfl fun w1 hb1 => ?_) ?_
        · have hc1 := bcellD hb1
          clear hb1
          go_simp
          exact Det1_same
        simp only [Act.put, List.setIfInBounds_toArray, List.set_cons_zero, List.set_cons_succ]
        refine detL_val (by kernel_rfl) (yields_of rfl fun w1 hb1 => ?_) ?_
        · have hc1 := bcellD hb1
          clear hb1
          go_simp
          exact Det1_same
        simp only [Act.put, List.setIfInBounds_toArray, List.set_cons_zero, List.set_cons_succ]
        refine detL_val (by kernel_rfl) (yields_of rfl fun w1 hb1 => ?_) ?_
        · have hc1 := bcellD hb1
          clear hb1
          go_simp
          exact Det1_same
        simp only [Act.put, List.setIfInBounds_toArray, List.set_cons_zero, List.set_cons_succ]
        refine detL_val (by kernel_rfl) (yields_of rfl fun w1 hb1 => ?_) ?_
        · have hc1 := bcellD hb1
          clear hb1
          go_simp
          exact Det1_same
        simp only [Act.put, List.setIfInBounds_toArray, List.set_cons_zero, List.set_cons_succ]
        refine detL_val (by kernel_rfl) (yields_of rfl fun w1 hb1 => ?_) ?_
        · have hc1 := bcellD hb1
          have qg := (hc1 w.heap.size 3 hwz).trans hcell
          clear hb1
          go_simp
          exact Det1_same
        simp only [Act.put, List.setIfInBounds_toArray, List.set_cons_zero, List.set_cons_succ]
        refine detL_val (by kernel_rfl) (yields_of rfl fun w1 hb1 => ?_) ?_
        · have hc1 := bcellD hb1
          clear hb1
          go_simp
          exact Det1_same
        simp only [Act.put, List.setIfInBounds_toArray, List.set_cons_zero, List.set_cons_succ]
        refine detL_val (by kernel_rfl) (yields_of rfl fun w1 hb1 => ?_) ?_
        · have hc1 := bcellD hb1
          clear hb1
          go_simp
          exact Det1_same
        simp only [Act.put, List.setIfInBounds_toArray, List.set_cons_zero, List.set_cons_succ]
        refine detL_val (by kernel_rfl) (yields_of rfl fun w1 hb1 => ?_) ?_
        · have hc1 := bcellD hb1
          clear hb1
          go_simp
          exact Det1_same
        simp only [Act.put, List.setIfInBounds_toArray, List.set_cons_zero, List.set_cons_succ]
        refine detL_val (by kernel_rfl) (yields_of rfl fun w1 hb1 => ?_) ?_
        · have hc1 := bcellD hb1
          clear hb1
          go_simp
          exact Det1_enter (HQ.out _)
        simp only [Act.put, List.setIfInBounds_toArray, List.set_cons_zero, List.set_cons_succ]
        refine detL_val (by kernel_rfl) (yields_of rfl fun w1 hb1 => ?_) ?_
        · have hc1 := bcellD hb1
          clear hb1
          go_simp
          exact Det1_same
        simp only [Act.put, List.setIfInBounds_toArray, List.set_cons_zero, List.set_cons_succ]
        refine detL_done (by kernel_rfl) fun w2 hw2 => ?_
        have hb2 := hw2.below
        clear hw2
        go_wp2
        go_ret
        exact ⟨ret_i64 (by rw [HN.out, HS.out]), HB1.out.trans ((hb.drew.trans (hb2.mono hbs)).mono HB1.out.size)⟩
    · obtain rfl : n = s.size := by omega
      go_wp2
      refine detL_begin [.val (.int .i64 s.size), .val (.string s), .val (.int .i64 s.size), .val (.bool false), .val (.bool false), .val (undef), .val (undef), .val (undef), .val (undef), .val (undef), .val (undef), .val (.bool false)] 12 (by kernel_rfl) ?_
      refine detL_val (by kernel_rfl) (yields_of rfl fun w1 hb1 => ?_) ?_
      · have hc1 := bcellD hb1
        clear hb1
        go_simp
        exact Det1_same
      simp only [Act.put, List.setIfInBounds_toArray, List.set_cons_zero, List.set_cons_succ]
      refine detL_val (by kernel_rfl) (yields_of rfl fun w1 hb1 => ?_) ?_
      · have hc1 := bcellD hb1
        clear hb1
        go_simp
        exact Det1_same
      simp only [Act.put, List.setIfInBounds_toArray, List.set_cons_zero, List.set_cons_succ]
      refine detL_val (by kernel_rfl) (yields_of rfl fun w1 hb1 => ?_) ?_
      · have hc1 := bcellD hb1
        clear hb1
        go_simp
        exact Det1_same
      simp only [Act.put, List.setIfInBounds_toArray, List.set_cons_zero, List.set_cons_succ]
      refine detL_val (by kernel_rfl) (yields_of rfl fun w1 hb1 => ?_) ?_
      · have hc1 := bcellD hb1
        clear hb1
        go_simp
        exact Det1_same
      simp only [Act.put, List.setIfInBounds_toArray, List.set_cons_zero, List.set_cons_succ]
      refine detL_val (by kernel_rfl) (yields_of rfl fun w1 hb1 => ?_) ?_
      · have hc1 := bcellD hb1
        clear hb1
        go_simp
        exact Det1_same
      simp only [Act.put, List.setIfInBounds_toArray, List.set_cons_zero, List.set_cons_succ]
      refine detL_val (by kernel_rfl) (yields_not rfl) ?_
      simp only [Act.put, List.setIfInBounds_toArray, List.set_cons_zero, List.set_cons_succ]
      refine detL_val (by kernel_rfl) (yields_not rfl) ?_
      simp only [Act.put, List.setIfInBounds_toArray, List.set_cons_zero, List.set_cons_succ]
      refine detL_val (by kernel_rfl) (yields_not rfl) ?_
      simp only [Act.put, List.setIfInBounds_toArray, List.set_cons_zero, List.set_cons_succ]
      refine detL_val (by kernel_rfl) (yields_not rfl) ?_
      simp only [Act.put, List.setIfInBounds_toArray, List.set_cons_zero, List.set_cons_succ]
      refine detL_val (by kernel_rfl) (yields_not rfl) ?_
      simp only [Act.put, List.setIfInBounds_toArray, List.set_cons_zero, List.set_cons_succ]
      refine detL_val (by kernel_rfl) (yields_not rfl) ?_
      simp only [Act.put, List.setIfInBounds_toArray, List.set_cons_zero, List.set_cons_succ]
      refine detL_val (by kernel_rfl) (yields_of rfl fun w1 hb1 => ?_) ?_
      · have hc1 := bcellD hb1
        clear hb1
        go_simp
        exact Det1_same
      simp only [Act.put, List.setIfInBounds_toArray, List.set_cons_zero, List.set_cons_succ]
      refine detL_done (by kernel_rfl) fun w2 hw2 => ?_
      have hb2 := hw2.below
      clear hw2
      go_wp2
      go_ret
      exact ⟨ret_i64 (by rw [HN.out, togN_end]), HB1.out.trans ((hb.drew.trans (hb2.mono hbs)).mono HB1.out.size)⟩

theorem tog_any (num most : Int) (f g : Nat) (p q : UInt8 → Bool) (hf : Cls f p) (hg : Cls g q) (s : ByteArray) (w : World) (hs : s.size ≤ 100000) :
    Calls Tryz.prog 37 #[.agg #[.int .i64 num, .int .i64 most, .func (.func f) #[] #[], .func (.func g) #[] #[]], .string s] w fun e w' => e = .returned (.int .i64 (tog p q s.data.toList)) ∧ Below w.heap.size w w' := by
  by_cases hl : 0 < s.size
  · cases hp : p s[0] with
    | true => exact tog_yes num most f g p q hf hg s w hs hl hp
    | false =>
      have e : tog p q s.data.toList = 0 := by
        cases hd : s.data.toList with
        | nil => rfl
        | cons c r =>
          have : c = s[0] := by
            have h2 : 0 < s.data.toList.length := by rw [← Lib.size_eq]; exact hl
            have e : s.data.toList[0] = s[0] := rfl
            rw [← e]; simp [hd]
          rw [tog, this, hp]; rfl
      rw [e]
      exact tog_no num most f g p q hf hg s w hs hl hp
  · have e : s.data.toList = [] := List.length_eq_zero_iff.1 (by rw [← Lib.size_eq]; omega)
    rw [e]
    exact tog_0 num most f g p q hf hg s w hs (by rw [toList_data]; exact e)
end Go.Proofs.YtnahejljelbbgaaGreatDoor
