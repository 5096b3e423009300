import Derived.Test.YtmhkmliebhbkdaaGreatX05
import Derived.Deep.LoopGhost

/- Which node of an expression is formed. -/
namespace Go.Proofs.YtmhkmliebhbkdaaGreat
open Go.RowKit Go.Lib

def nilB (s : ByteArray) : Bool := decide (s.toList = [])
def zeroB (k i : Int) (vs : ByteArray) : Bool := decide (k = 0) && (decide (i = 0) && nilB vs)
def nameB (s : ByteArray) : Bool := kmay letB parB 16 s.data.toList
def fmLit (k i : Int) (vs s : ByteArray) (n : Nat) : Bool := mayB k i vs && (nilB s && decide (n = 0))
def fmCol (k i : Int) (vs s : ByteArray) (n : Nat) : Bool := zeroB k i vs && (nameB s && (!resB s && decide (n = 0)))
def fmOne (k i : Int) (vs s : ByteArray) (n : Nat) : Bool := zeroB k i vs && (nilB s && decide (n = 1))
def fmTwo (k i : Int) (vs s : ByteArray) (n : Nat) : Bool := zeroB k i vs && (nilB s && decide (n = 2))
theorem beq0 (n : Nat) : ((n : Int) == 0) = decide (n = 0) := by rw [Bool.eq_iff_iff]; simp
theorem beq1 (n : Nat) : ((n : Int) == 1) = decide (n = 1) := by rw [Bool.eq_iff_iff]; simp; omega
theorem beq2 (n : Nat) : ((n : Int) == 2) = decide (n = 2) := by rw [Bool.eq_iff_iff]; simp; omega

set_option maxRecDepth 100000 in
set_option maxHeartbeats 4000000 in
theorem formed_0 (k i : Int) (vs s : ByteArray) (A : Option Addr) (n cap : Nat) (w : World) (hn : n ≤ maxLen) (hs : s.size ≤ 100000) :
    Calls Tryz.prog 139 #[.agg #[.string ⟨#[108, 105, 116]⟩, .int .i64 k, .int .i64 i, .string vs, .string s, .slice A n cap]] w fun e w' => e = .returned (.bool (fmLit k i vs s n)) ∧ Below w.heap.size w w' := by
  unfold maxLen at hn
  go_enter Tryz.func139, Tryz.ntmps139
  go_wp2_with (first
    | (go_at_call 124; refine (may_any _ _ _ _).mono ?_; rintro e w1 ⟨rfl, hb1⟩; have hc1 := (bcell hb1).1; have hf1 := (bcell hb1).2; have hy1 := hb1.size; (try simp at hy1); have hz1_0 : w.heap.size < w1.heap.size := (by omega))
    | (go_at_call 158; refine (name_any _ _ hs).mono ?_; rintro e w1 ⟨rfl, hb1⟩; have hc1 := (bcell hb1).1; have hf1 := (bcell hb1).2; have hy1 := hb1.size; (try simp at hy1); have hz1_0 : w.heap.size < w1.heap.size := (by omega))
    | (go_at_call 159; refine (reserved_any _ _).mono ?_; rintro e w2 ⟨rfl, hb2⟩; have hc2 := (bcell hb2).1; have hf2 := (bcell hb2).2; have hy2 := hb2.size; (try simp at hy2); have hz2_0 : w.heap.size < w2.heap.size := (by omega)))
  all_goals go_ret
  all_goals refine ⟨ret_bool ?_, ?_⟩
  all_goals first
    | (with_reducible exact Below.refl _ _)
    | ((repeat (first | (with_reducible exact Below.refl _ _) | ((with_reducible refine cSet3 ?_ ?_ _ _ _); (· ((try simp) <;> omega))) | (with_reducible refine Below.drew ?_) | ((with_reducible refine cAlloc ?_ ?_ _); (· ((try simp) <;> omega))) | ((with_reducible refine cOn (by assumption) ?_ ?_); (· ((try simp) <;> omega))))); done)
    | ((try simp only [beq0, beq1, beq2]); simp [fmLit, zeroB, nilB, nameB, *]; done)

set_option maxRecDepth 100000 in
set_option maxHeartbeats 4000000 in
theorem formed_1 (k i : Int) (vs s : ByteArray) (A : Option Addr) (n cap : Nat) (w : World) (hn : n ≤ maxLen) (hs : s.size ≤ 100000) :
    Calls Tryz.prog 139 #[.agg #[.string ⟨#[99, 111, 108]⟩, .int .i64 k, .int .i64 i, .string vs, .string s, .slice A n cap]] w fun e w' => e = .returned (.bool (fmCol k i vs s n)) ∧ Below w.heap.size w w' := by
  unfold maxLen at hn
  go_enter Tryz.func139, Tryz.ntmps139
  go_wp2_with (first
    | (go_at_call 124; refine (may_any _ _ _ _).mono ?_; rintro e w1 ⟨rfl, hb1⟩; have hc1 := (bcell hb1).1; have hf1 := (bcell hb1).2; have hy1 := hb1.size; (try simp at hy1); have hz1_0 : w.heap.size < w1.heap.size := (by omega))
    | (go_at_call 158; refine (name_any _ _ hs).mono ?_; rintro e w1 ⟨rfl, hb1⟩; have hc1 := (bcell hb1).1; have hf1 := (bcell hb1).2; have hy1 := hb1.size; (try simp at hy1); have hz1_0 : w.heap.size < w1.heap.size := (by omega))
    | (go_at_call 159; refine (reserved_any _ _).mono ?_; rintro e w2 ⟨rfl, hb2⟩; have hc2 := (bcell hb2).1; have hf2 := (bcell hb2).2; have hy2 := hb2.size; (try simp at hy2); have hz2_0 : w.heap.size < w2.heap.size := (by omega)))
  all_goals go_ret
  all_goals refine ⟨ret_bool ?_, ?_⟩
  all_goals first
    | (with_reducible exact Below.refl _ _)
    | ((repeat (first | (with_reducible exact Below.refl _ _) | ((with_reducible refine cSet3 ?_ ?_ _ _ _); (· ((try simp) <;> omega))) | (with_reducible refine Below.drew ?_) | ((with_reducible refine cAlloc ?_ ?_ _); (· ((try simp) <;> omega))) | ((with_reducible refine cOn (by assumption) ?_ ?_); (· ((try simp) <;> omega))))); done)
    | ((try simp only [beq0, beq1, beq2]); simp [fmCol, zeroB, nilB, nameB, *]; done)

set_option maxRecDepth 100000 in
set_option maxHeartbeats 4000000 in
theorem formed_2 (k i : Int) (vs s : ByteArray) (A : Option Addr) (n cap : Nat) (w : World) (hn : n ≤ maxLen) (hs : s.size ≤ 100000) :
    Calls Tryz.prog 139 #[.agg #[.string ⟨#[110, 111, 116]⟩, .int .i64 k, .int .i64 i, .string vs, .string s, .slice A n cap]] w fun e w' => e = .returned (.bool (fmOne k i vs s n)) ∧ Below w.heap.size w w' := by
  unfold maxLen at hn
  go_enter Tryz.func139, Tryz.ntmps139
  go_wp2_with (first
    | (go_at_call 124; refine (may_any _ _ _ _).mono ?_; rintro e w1 ⟨rfl, hb1⟩; have hc1 := (bcell hb1).1; have hf1 := (bcell hb1).2; have hy1 := hb1.size; (try simp at hy1); have hz1_0 : w.heap.size < w1.heap.size := (by omega))
    | (go_at_call 158; refine (name_any _ _ hs).mono ?_; rintro e w1 ⟨rfl, hb1⟩; have hc1 := (bcell hb1).1; have hf1 := (bcell hb1).2; have hy1 := hb1.size; (try simp at hy1); have hz1_0 : w.heap.size < w1.heap.size := (by omega))
    | (go_at_call 159; refine (reserved_any _ _).mono ?_; rintro e w2 ⟨rfl, hb2⟩; have hc2 := (bcell hb2).1; have hf2 := (bcell hb2).2; have hy2 := hb2.size; (try simp at hy2); have hz2_0 : w.heap.size < w2.heap.size := (by omega)))
  all_goals go_ret
  all_goals refine ⟨ret_bool ?_, ?_⟩
  all_goals first
    | (with_reducible exact Below.refl _ _)
    | ((repeat (first | (with_reducible exact Below.refl _ _) | ((with_reducible refine cSet3 ?_ ?_ _ _ _); (· ((try simp) <;> omega))) | (with_reducible refine Below.drew ?_) | ((with_reducible refine cAlloc ?_ ?_ _); (· ((try simp) <;> omega))) | ((with_reducible refine cOn (by assumption) ?_ ?_); (· ((try simp) <;> omega))))); done)
    | ((try simp only [beq0, beq1, beq2]); simp [fmOne, zeroB, nilB, nameB, *]; done)

set_option maxRecDepth 100000 in
set_option maxHeartbeats 4000000 in
theorem formed_3 (k i : Int) (vs s : ByteArray) (A : Option Addr) (n cap : Nat) (w : World) (hn : n ≤ maxLen) (hs : s.size ≤ 100000) :
    Calls Tryz.prog 139 #[.agg #[.string ⟨#[110, 117, 108, 108]⟩, .int .i64 k, .int .i64 i, .string vs, .string s, .slice A n cap]] w fun e w' => e = .returned (.bool (fmOne k i vs s n)) ∧ Below w.heap.size w w' := by
  unfold maxLen at hn
  go_enter Tryz.func139, Tryz.ntmps139
  go_wp2_with (first
    | (go_at_call 124; refine (may_any _ _ _ _).mono ?_; rintro e w1 ⟨rfl, hb1⟩; have hc1 := (bcell hb1).1; have hf1 := (bcell hb1).2; have hy1 := hb1.size; (try simp at hy1); have hz1_0 : w.heap.size < w1.heap.size := (by omega))
    | (go_at_call 158; refine (name_any _ _ hs).mono ?_; rintro e w1 ⟨rfl, hb1⟩; have hc1 := (bcell hb1).1; have hf1 := (bcell hb1).2; have hy1 := hb1.size; (try simp at hy1); have hz1_0 : w.heap.size < w1.heap.size := (by omega))
    | (go_at_call 159; refine (reserved_any _ _).mono ?_; rintro e w2 ⟨rfl, hb2⟩; have hc2 := (bcell hb2).1; have hf2 := (bcell hb2).2; have hy2 := hb2.size; (try simp at hy2); have hz2_0 : w.heap.size < w2.heap.size := (by omega)))
  all_goals go_ret
  all_goals refine ⟨ret_bool ?_, ?_⟩
  all_goals first
    | (with_reducible exact Below.refl _ _)
    | ((repeat (first | (with_reducible exact Below.refl _ _) | ((with_reducible refine cSet3 ?_ ?_ _ _ _); (· ((try simp) <;> omega))) | (with_reducible refine Below.drew ?_) | ((with_reducible refine cAlloc ?_ ?_ _); (· ((try simp) <;> omega))) | ((with_reducible refine cOn (by assumption) ?_ ?_); (· ((try simp) <;> omega))))); done)
    | ((try simp only [beq0, beq1, beq2]); simp [fmOne, zeroB, nilB, nameB, *]; done)

set_option maxRecDepth 100000 in
set_option maxHeartbeats 4000000 in
theorem formed_4 (k i : Int) (vs s : ByteArray) (A : Option Addr) (n cap : Nat) (w : World) (hn : n ≤ maxLen) (hs : s.size ≤ 100000) :
    Calls Tryz.prog 139 #[.agg #[.string ⟨#[97, 110, 100]⟩, .int .i64 k, .int .i64 i, .string vs, .string s, .slice A n cap]] w fun e w' => e = .returned (.bool (fmTwo k i vs s n)) ∧ Below w.heap.size w w' := by
  unfold maxLen at hn
  go_enter Tryz.func139, Tryz.ntmps139
  go_wp2_with (first
    | (go_at_call 124; refine (may_any _ _ _ _).mono ?_; rintro e w1 ⟨rfl, hb1⟩; have hc1 := (bcell hb1).1; have hf1 := (bcell hb1).2; have hy1 := hb1.size; (try simp at hy1); have hz1_0 : w.heap.size < w1.heap.size := (by omega))
    | (go_at_call 158; refine (name_any _ _ hs).mono ?_; rintro e w1 ⟨rfl, hb1⟩; have hc1 := (bcell hb1).1; have hf1 := (bcell hb1).2; have hy1 := hb1.size; (try simp at hy1); have hz1_0 : w.heap.size < w1.heap.size := (by omega))
    | (go_at_call 159; refine (reserved_any _ _).mono ?_; rintro e w2 ⟨rfl, hb2⟩; have hc2 := (bcell hb2).1; have hf2 := (bcell hb2).2; have hy2 := hb2.size; (try simp at hy2); have hz2_0 : w.heap.size < w2.heap.size := (by omega)))
  all_goals go_ret
  all_goals refine ⟨ret_bool ?_, ?_⟩
  all_goals first
    | (with_reducible exact Below.refl _ _)
    | ((repeat (first | (with_reducible exact Below.refl _ _) | ((with_reducible refine cSet3 ?_ ?_ _ _ _); (· ((try simp) <;> omega))) | (with_reducible refine Below.drew ?_) | ((with_reducible refine cAlloc ?_ ?_ _); (· ((try simp) <;> omega))) | ((with_reducible refine cOn (by assumption) ?_ ?_); (· ((try simp) <;> omega))))); done)
    | ((try simp only [beq0, beq1, beq2]); simp [fmTwo, zeroB, nilB, nameB, *]; done)

set_option maxRecDepth 100000 in
set_option maxHeartbeats 4000000 in
theorem formed_5 (k i : Int) (vs s : ByteArray) (A : Option Addr) (n cap : Nat) (w : World) (hn : n ≤ maxLen) (hs : s.size ≤ 100000) :
    Calls Tryz.prog 139 #[.agg #[.string ⟨#[111, 114]⟩, .int .i64 k, .int .i64 i, .string vs, .string s, .slice A n cap]] w fun e w' => e = .returned (.bool (fmTwo k i vs s n)) ∧ Below w.heap.size w w' := by
  unfold maxLen at hn
  go_enter Tryz.func139, Tryz.ntmps139
  go_wp2_with (first
    | (go_at_call 124; refine (may_any _ _ _ _).mono ?_; rintro e w1 ⟨rfl, hb1⟩; have hc1 := (bcell hb1).1; have hf1 := (bcell hb1).2; have hy1 := hb1.size; (try simp at hy1); have hz1_0 : w.heap.size < w1.heap.size := (by omega))
    | (go_at_call 158; refine (name_any _ _ hs).mono ?_; rintro e w1 ⟨rfl, hb1⟩; have hc1 := (bcell hb1).1; have hf1 := (bcell hb1).2; have hy1 := hb1.size; (try simp at hy1); have hz1_0 : w.heap.size < w1.heap.size := (by omega))
    | (go_at_call 159; refine (reserved_any _ _).mono ?_; rintro e w2 ⟨rfl, hb2⟩; have hc2 := (bcell hb2).1; have hf2 := (bcell hb2).2; have hy2 := hb2.size; (try simp at hy2); have hz2_0 : w.heap.size < w2.heap.size := (by omega)))
  all_goals go_ret
  all_goals refine ⟨ret_bool ?_, ?_⟩
  all_goals first
    | (with_reducible exact Below.refl _ _)
    | ((repeat (first | (with_reducible exact Below.refl _ _) | ((with_reducible refine cSet3 ?_ ?_ _ _ _); (· ((try simp) <;> omega))) | (with_reducible refine Below.drew ?_) | ((with_reducible refine cAlloc ?_ ?_ _); (· ((try simp) <;> omega))) | ((with_reducible refine cOn (by assumption) ?_ ?_); (· ((try simp) <;> omega))))); done)
    | ((try simp only [beq0, beq1, beq2]); simp [fmTwo, zeroB, nilB, nameB, *]; done)

set_option maxRecDepth 100000 in
set_option maxHeartbeats 4000000 in
theorem formed_6 (k i : Int) (vs s : ByteArray) (A : Option Addr) (n cap : Nat) (w : World) (hn : n ≤ maxLen) (hs : s.size ≤ 100000) :
    Calls Tryz.prog 139 #[.agg #[.string ⟨#[61]⟩, .int .i64 k, .int .i64 i, .string vs, .string s, .slice A n cap]] w fun e w' => e = .returned (.bool (fmTwo k i vs s n)) ∧ Below w.heap.size w w' := by
  unfold maxLen at hn
  go_enter Tryz.func139, Tryz.ntmps139
  go_wp2_with (first
    | (go_at_call 124; refine (may_any _ _ _ _).mono ?_; rintro e w1 ⟨rfl, hb1⟩; have hc1 := (bcell hb1).1; have hf1 := (bcell hb1).2; have hy1 := hb1.size; (try simp at hy1); have hz1_0 : w.heap.size < w1.heap.size := (by omega))
    | (go_at_call 158; refine (name_any _ _ hs).mono ?_; rintro e w1 ⟨rfl, hb1⟩; have hc1 := (bcell hb1).1; have hf1 := (bcell hb1).2; have hy1 := hb1.size; (try simp at hy1); have hz1_0 : w.heap.size < w1.heap.size := (by omega))
    | (go_at_call 159; refine (reserved_any _ _).mono ?_; rintro e w2 ⟨rfl, hb2⟩; have hc2 := (bcell hb2).1; have hf2 := (bcell hb2).2; have hy2 := hb2.size; (try simp at hy2); have hz2_0 : w.heap.size < w2.heap.size := (by omega)))
  all_goals go_ret
  all_goals refine ⟨ret_bool ?_, ?_⟩
  all_goals first
    | (with_reducible exact Below.refl _ _)
    | ((repeat (first | (with_reducible exact Below.refl _ _) | ((with_reducible refine cSet3 ?_ ?_ _ _ _); (· ((try simp) <;> omega))) | (with_reducible refine Below.drew ?_) | ((with_reducible refine cAlloc ?_ ?_ _); (· ((try simp) <;> omega))) | ((with_reducible refine cOn (by assumption) ?_ ?_); (· ((try simp) <;> omega))))); done)
    | ((try simp only [beq0, beq1, beq2]); simp [fmTwo, zeroB, nilB, nameB, *]; done)

set_option maxRecDepth 100000 in
set_option maxHeartbeats 4000000 in
theorem formed_7 (k i : Int) (vs s : ByteArray) (A : Option Addr) (n cap : Nat) (w : World) (hn : n ≤ maxLen) (hs : s.size ≤ 100000) :
    Calls Tryz.prog 139 #[.agg #[.string ⟨#[60]⟩, .int .i64 k, .int .i64 i, .string vs, .string s, .slice A n cap]] w fun e w' => e = .returned (.bool (fmTwo k i vs s n)) ∧ Below w.heap.size w w' := by
  unfold maxLen at hn
  go_enter Tryz.func139, Tryz.ntmps139
  go_wp2_with (first
    | (go_at_call 124; refine (may_any _ _ _ _).mono ?_; rintro e w1 ⟨rfl, hb1⟩; have hc1 := (bcell hb1).1; have hf1 := (bcell hb1).2; have hy1 := hb1.size; (try simp at hy1); have hz1_0 : w.heap.size < w1.heap.size := (by omega))
    | (go_at_call 158; refine (name_any _ _ hs).mono ?_; rintro e w1 ⟨rfl, hb1⟩; have hc1 := (bcell hb1).1; have hf1 := (bcell hb1).2; have hy1 := hb1.size; (try simp at hy1); have hz1_0 : w.heap.size < w1.heap.size := (by omega))
    | (go_at_call 159; refine (reserved_any _ _).mono ?_; rintro e w2 ⟨rfl, hb2⟩; have hc2 := (bcell hb2).1; have hf2 := (bcell hb2).2; have hy2 := hb2.size; (try simp at hy2); have hz2_0 : w.heap.size < w2.heap.size := (by omega)))
  all_goals go_ret
  all_goals refine ⟨ret_bool ?_, ?_⟩
  all_goals first
    | (with_reducible exact Below.refl _ _)
    | ((repeat (first | (with_reducible exact Below.refl _ _) | ((with_reducible refine cSet3 ?_ ?_ _ _ _); (· ((try simp) <;> omega))) | (with_reducible refine Below.drew ?_) | ((with_reducible refine cAlloc ?_ ?_ _); (· ((try simp) <;> omega))) | ((with_reducible refine cOn (by assumption) ?_ ?_); (· ((try simp) <;> omega))))); done)
    | ((try simp only [beq0, beq1, beq2]); simp [fmTwo, zeroB, nilB, nameB, *]; done)

set_option maxRecDepth 100000 in
set_option maxHeartbeats 4000000 in
theorem formed_8 (k i : Int) (vs s : ByteArray) (A : Option Addr) (n cap : Nat) (w : World) (hn : n ≤ maxLen) (hs : s.size ≤ 100000) :
    Calls Tryz.prog 139 #[.agg #[.string ⟨#[43]⟩, .int .i64 k, .int .i64 i, .string vs, .string s, .slice A n cap]] w fun e w' => e = .returned (.bool (fmTwo k i vs s n)) ∧ Below w.heap.size w w' := by
  unfold maxLen at hn
  go_enter Tryz.func139, Tryz.ntmps139
  go_wp2_with (first
    | (go_at_call 124; refine (may_any _ _ _ _).mono ?_; rintro e w1 ⟨rfl, hb1⟩; have hc1 := (bcell hb1).1; have hf1 := (bcell hb1).2; have hy1 := hb1.size; (try simp at hy1); have hz1_0 : w.heap.size < w1.heap.size := (by omega))
    | (go_at_call 158; refine (name_any _ _ hs).mono ?_; rintro e w1 ⟨rfl, hb1⟩; have hc1 := (bcell hb1).1; have hf1 := (bcell hb1).2; have hy1 := hb1.size; (try simp at hy1); have hz1_0 : w.heap.size < w1.heap.size := (by omega))
    | (go_at_call 159; refine (reserved_any _ _).mono ?_; rintro e w2 ⟨rfl, hb2⟩; have hc2 := (bcell hb2).1; have hf2 := (bcell hb2).2; have hy2 := hb2.size; (try simp at hy2); have hz2_0 : w.heap.size < w2.heap.size := (by omega)))
  all_goals go_ret
  all_goals refine ⟨ret_bool ?_, ?_⟩
  all_goals first
    | (with_reducible exact Below.refl _ _)
    | ((repeat (first | (with_reducible exact Below.refl _ _) | ((with_reducible refine cSet3 ?_ ?_ _ _ _); (· ((try simp) <;> omega))) | (with_reducible refine Below.drew ?_) | ((with_reducible refine cAlloc ?_ ?_ _); (· ((try simp) <;> omega))) | ((with_reducible refine cOn (by assumption) ?_ ?_); (· ((try simp) <;> omega))))); done)
    | ((try simp only [beq0, beq1, beq2]); simp [fmTwo, zeroB, nilB, nameB, *]; done)

set_option maxRecDepth 100000 in
set_option maxHeartbeats 4000000 in
theorem formed_9 (k i : Int) (vs s : ByteArray) (A : Option Addr) (n cap : Nat) (w : World) (hn : n ≤ maxLen) (hs : s.size ≤ 100000) :
    Calls Tryz.prog 139 #[.agg #[.string ⟨#[45]⟩, .int .i64 k, .int .i64 i, .string vs, .string s, .slice A n cap]] w fun e w' => e = .returned (.bool (fmTwo k i vs s n)) ∧ Below w.heap.size w w' := by
  unfold maxLen at hn
  go_enter Tryz.func139, Tryz.ntmps139
  go_wp2_with (first
    | (go_at_call 124; refine (may_any _ _ _ _).mono ?_; rintro e w1 ⟨rfl, hb1⟩; have hc1 := (bcell hb1).1; have hf1 := (bcell hb1).2; have hy1 := hb1.size; (try simp at hy1); have hz1_0 : w.heap.size < w1.heap.size := (by omega))
    | (go_at_call 158; refine (name_any _ _ hs).mono ?_; rintro e w1 ⟨rfl, hb1⟩; have hc1 := (bcell hb1).1; have hf1 := (bcell hb1).2; have hy1 := hb1.size; (try simp at hy1); have hz1_0 : w.heap.size < w1.heap.size := (by omega))
    | (go_at_call 159; refine (reserved_any _ _).mono ?_; rintro e w2 ⟨rfl, hb2⟩; have hc2 := (bcell hb2).1; have hf2 := (bcell hb2).2; have hy2 := hb2.size; (try simp at hy2); have hz2_0 : w.heap.size < w2.heap.size := (by omega)))
  all_goals go_ret
  all_goals refine ⟨ret_bool ?_, ?_⟩
  all_goals first
    | (with_reducible exact Below.refl _ _)
    | ((repeat (first | (with_reducible exact Below.refl _ _) | ((with_reducible refine cSet3 ?_ ?_ _ _ _); (· ((try simp) <;> omega))) | (with_reducible refine Below.drew ?_) | ((with_reducible refine cAlloc ?_ ?_ _); (· ((try simp) <;> omega))) | ((with_reducible refine cOn (by assumption) ?_ ?_); (· ((try simp) <;> omega))))); done)
    | ((try simp only [beq0, beq1, beq2]); simp [fmTwo, zeroB, nilB, nameB, *]; done)

set_option maxRecDepth 100000 in
set_option maxHeartbeats 4000000 in
theorem formed_no (op : ByteArray) (k i : Int) (vs s : ByteArray) (A : Option Addr) (n cap : Nat) (w : World) (hn : n ≤ maxLen) (hs : s.size ≤ 100000) (h0 : (op.toList == [108, 105, 116]) = false) (h1 : (op.toList == [99, 111, 108]) = false) (h2 : (op.toList == [110, 111, 116]) = false) (h3 : (op.toList == [110, 117, 108, 108]) = false) (h4 : (op.toList == [97, 110, 100]) = false) (h5 : (op.toList == [111, 114]) = false) (h6 : (op.toList == [61]) = false) (h7 : (op.toList == [60]) = false) (h8 : (op.toList == [43]) = false) (h9 : (op.toList == [45]) = false) :
    Calls Tryz.prog 139 #[.agg #[.string op, .int .i64 k, .int .i64 i, .string vs, .string s, .slice A n cap]] w fun e w' => e = .returned (.bool (false)) ∧ Below w.heap.size w w' := by
  go_enter Tryz.func139, Tryz.ntmps139
  go_wp2_with (fail)
  go_ret
  exact ⟨rfl, (Below.refl _ _).alloc (Nat.le_refl _) _⟩

/-- Is a node formed that has so many parts? -/
def fmB (op : ByteArray) (k i : Int) (vs s : ByteArray) (n : Nat) : Bool :=
  if op.toList = [108, 105, 116] then fmLit k i vs s n else if op.toList = [99, 111, 108] then fmCol k i vs s n else if op.toList = [110, 111, 116] ∨ op.toList = [110, 117, 108, 108] then fmOne k i vs s n
  else if op.toList ∈ [[97, 110, 100], [111, 114], [61], [60], [43], [45]] then fmTwo k i vs s n else false
theorem bytes_of {s : ByteArray} {l : List UInt8} (h : s.toList = l) : s = ⟨l.toArray⟩ := by
  rw [toList_data] at h
  cases s with
  | mk d => subst h; simp
theorem formed_any (op : ByteArray) (k i : Int) (vs s : ByteArray) (A : Option Addr) (n cap : Nat) (w : World) (hn : n ≤ maxLen) (hs : s.size ≤ 100000) :
    Calls Tryz.prog 139 #[.agg #[.string op, .int .i64 k, .int .i64 i, .string vs, .string s, .slice A n cap]] w fun e w' => e = .returned (.bool (fmB op k i vs s n)) ∧ Below w.heap.size w w' := by
  by_cases h0 : op.toList = [108, 105, 116]
  · obtain rfl : op = ⟨#[108, 105, 116]⟩ := bytes_of h0
    have e : fmB ⟨#[108, 105, 116]⟩ k i vs s n = fmLit k i vs s n := by simp [fmB, h0]
    rw [e]
    exact formed_0 k i vs s A n cap w hn hs
  by_cases h1 : op.toList = [99, 111, 108]
  · obtain rfl : op = ⟨#[99, 111, 108]⟩ := bytes_of h1
    have e : fmB ⟨#[99, 111, 108]⟩ k i vs s n = fmCol k i vs s n := by simp [fmB, h1]
    rw [e]
    exact formed_1 k i vs s A n cap w hn hs
  by_cases h2 : op.toList = [110, 111, 116]
  · obtain rfl : op = ⟨#[110, 111, 116]⟩ := bytes_of h2
    have e : fmB ⟨#[110, 111, 116]⟩ k i vs s n = fmOne k i vs s n := by simp [fmB, h2]
    rw [e]
    exact formed_2 k i vs s A n cap w hn hs
  by_cases h3 : op.toList = [110, 117, 108, 108]
  · obtain rfl : op = ⟨#[110, 117, 108, 108]⟩ := bytes_of h3
    have e : fmB ⟨#[110, 117, 108, 108]⟩ k i vs s n = fmOne k i vs s n := by simp [fmB, h3]
    rw [e]
    exact formed_3 k i vs s A n cap w hn hs
  by_cases h4 : op.toList = [97, 110, 100]
  · obtain rfl : op = ⟨#[97, 110, 100]⟩ := bytes_of h4
    have e : fmB ⟨#[97, 110, 100]⟩ k i vs s n = fmTwo k i vs s n := by simp [fmB, h4]
    rw [e]
    exact formed_4 k i vs s A n cap w hn hs
  by_cases h5 : op.toList = [111, 114]
  · obtain rfl : op = ⟨#[111, 114]⟩ := bytes_of h5
    have e : fmB ⟨#[111, 114]⟩ k i vs s n = fmTwo k i vs s n := by simp [fmB, h5]
    rw [e]
    exact formed_5 k i vs s A n cap w hn hs
  by_cases h6 : op.toList = [61]
  · obtain rfl : op = ⟨#[61]⟩ := bytes_of h6
    have e : fmB ⟨#[61]⟩ k i vs s n = fmTwo k i vs s n := by simp [fmB, h6]
    rw [e]
    exact formed_6 k i vs s A n cap w hn hs
  by_cases h7 : op.toList = [60]
  · obtain rfl : op = ⟨#[60]⟩ := bytes_of h7
    have e : fmB ⟨#[60]⟩ k i vs s n = fmTwo k i vs s n := by simp [fmB, h7]
    rw [e]
    exact formed_7 k i vs s A n cap w hn hs
  by_cases h8 : op.toList = [43]
  · obtain rfl : op = ⟨#[43]⟩ := bytes_of h8
    have e : fmB ⟨#[43]⟩ k i vs s n = fmTwo k i vs s n := by simp [fmB, h8]
    rw [e]
    exact formed_8 k i vs s A n cap w hn hs
  by_cases h9 : op.toList = [45]
  · obtain rfl : op = ⟨#[45]⟩ := bytes_of h9
    have e : fmB ⟨#[45]⟩ k i vs s n = fmTwo k i vs s n := by simp [fmB, h9]
    rw [e]
    exact formed_9 k i vs s A n cap w hn hs
  have e : fmB op k i vs s n = false := by simp [fmB, h0, h1, h2, h3, h4, h5, h6, h7, h8, h9]
  rw [e]
  exact formed_no op k i vs s A n cap w hn hs (beq_eq_false_iff_ne.2 h0) (beq_eq_false_iff_ne.2 h1) (beq_eq_false_iff_ne.2 h2) (beq_eq_false_iff_ne.2 h3) (beq_eq_false_iff_ne.2 h4) (beq_eq_false_iff_ne.2 h5) (beq_eq_false_iff_ne.2 h6) (beq_eq_false_iff_ne.2 h7) (beq_eq_false_iff_ne.2 h8) (beq_eq_false_iff_ne.2 h9)
end Go.Proofs.YtmhkmliebhbkdaaGreat

/- How deep an expression is, and how many nodes it has: within, May. -/
namespace Go.Proofs.YtmhkmliebhbkdaaGreat
open Go.RowKit Go.Lib

def fmT (t : Ex) : Bool := fmB t.op t.x.k t.x.i t.x.s t.s t.l.length
def partsF (f : Ex → Int → Bool × Int) : List Ex → Int → Bool × Int
  | [], left => (true, left)
  | x :: r, left => if (f x left).1 = true then partsF f r (f x left).2 else (false, (f x left).2)
def withinF : Nat → Ex → Int → Bool × Int
  | 0, _, left => (false, left - 1)
  | d + 1, t, left => if left - 1 < 0 then (false, left - 1) else if fmT t = true then partsF (withinF d) t.l (left - 1) else (false, left - 1)
def mayT (t : Ex) : Bool := (withinF 12 t 60).1

def Bd (m : Int) (r : Bool × Int) : Prop := r.2 ≤ m ∧ -1 ≤ r.2 ∧ (r.1 = true → 0 ≤ r.2)
theorem parts_bd {f : Ex → Int → Bool × Int} (hf : ∀ x m, 0 ≤ m → Bd m (f x m)) : ∀ (l : List Ex) (m : Int), 0 ≤ m → Bd m (partsF f l m)
  | [], m, h => ⟨Int.le_refl _, by show -1 ≤ m; omega, fun _ => h⟩
  | x :: r, m, h => by
    obtain ⟨h1, h2, h3⟩ := hf x m h
    unfold partsF
    by_cases hb : (f x m).1 = true
    · rw [if_pos hb]
      obtain ⟨k1, k2, k3⟩ := parts_bd hf r (f x m).2 (h3 hb)
      exact ⟨by omega, k2, k3⟩
    · rw [if_neg hb]
      exact ⟨h1, h2, fun e => by cases e⟩
theorem within_bd : ∀ (d : Nat) (t : Ex) (m : Int), 0 ≤ m → Bd m (withinF d t m)
  | 0, t, m, h => by
    unfold withinF
    exact ⟨by show m - 1 ≤ m; omega, by show -1 ≤ m - 1; omega, fun e => by cases e⟩
  | d + 1, t, m, h => by
    unfold withinF
    by_cases h0 : m - 1 < 0
    · rw [if_pos h0]
      exact ⟨by show m - 1 ≤ m; omega, by show -1 ≤ m - 1; omega, fun e => by cases e⟩
    · rw [if_neg h0]
      by_cases hf : fmT t = true
      · rw [if_pos hf]
        obtain ⟨k1, k2, k3⟩ := parts_bd (within_bd d) t.l (m - 1) (by omega)
        exact ⟨by omega, k2, k3⟩
      · rw [if_neg hf]
        exact ⟨by show m - 1 ≤ m; omega, by show -1 ≤ m - 1; omega, fun e => by cases e⟩

/-- Block g holds the number m, and is one's own. -/
def Cnt (W : World) (g : Nat) (m : Int) : Prop := W.heap[g]? = some (.cells #[.int .i64 m] 3 (0, 0))
theorem Cnt.lt {W : World} {g : Nat} {m : Int} (h : Cnt W g m) : g < W.heap.size := (Array.getElem?_eq_some_iff.1 h).1
theorem Cnt.c0 {W : World} {g : Nat} {m : Int} (h : Cnt W g m) : W.cell? ⟨g, 0, none⟩ = some (.int .i64 m) := by rw [Lib.cell_of_heap h]; rfl
theorem Cnt.fz {W : World} {g : Nat} {m : Int} (h : Cnt W g m) (o : Nat) : W.frozen? ⟨g, o, none⟩ = false := Lib.frozen_of_heap h o
theorem Cnt.new {W : World} {n : Nat} (h : W.heap.size = n) (m : Int) : Cnt (W.alloc (.cells #[.int .i64 m] 3)) n m := by
  subst h
  show (W.heap.push _)[W.heap.size]? = _
  simp
theorem Cnt.keep {W W' : World} {g : Nat} {m : Int} {B : Nat} (h : Cnt W g m) (hb : Below B W W') (hB : g < B) : Cnt W' g m := (hb.block g hB).trans h
theorem Cnt.put {W : World} {g : Nat} {m : Int} (h : Cnt W g m) (k : Int) : Cnt (W.setCell ⟨g, 0, none⟩ (.int .i64 k)) g k := by
  unfold Cnt at h ⊢
  simp [World.setCell, Array.getElem?_modify, h]
theorem grow_set (W : World) (g : Nat) (o : Nat) (v : Value) : W.grownBy (W.setCell ⟨g, o, none⟩ v) (some g) :=
  ⟨rfl, rfl, rfl, by simp [World.setCell], fun k _ hk => Below.heap_setCell _ _ _ _ (fun e => hk (by rw [e]))⟩
theorem grow_trans {a b c : World} {row : Option Nat} (h : a.grownBy b row) (k : b.grownBy c row) : a.grownBy c row :=
  ⟨k.os.trans h.os, k.tape.trans h.tape, k.output.trans h.output, Nat.le_trans h.size k.size, fun i hi hr => (k.block i (Nat.lt_of_lt_of_le hi h.size) hr).trans (h.block i hi hr)⟩
theorem grow_refl (W : World) (row : Option Nat) : W.grownBy W row := ⟨rfl, rfl, rfl, Nat.le_refl _, fun _ _ _ => rfl⟩
theorem grow_below {W W' : World} (h : Below W.heap.size W W') (row : Option Nat) : W.grownBy W' row := ⟨h.os, h.tape, h.output, h.size, fun k hk _ => h.block k hk⟩
theorem grow_alloc (W : World) (o : Obj) (row : Option Nat) : W.grownBy (W.alloc o) row := grow_below ((Below.refl _ _).alloc (Nat.le_refl _) o) row
theorem below_grow {B : Nat} {a b c : World} {g : Nat} (h : Below B a b) (k : b.grownBy c (some g)) (hg : B ≤ g) (hB : B ≤ b.heap.size) : Below B a c :=
  ⟨k.os.trans h.os, k.tape.trans h.tape, k.output.trans h.output, Nat.le_trans h.size k.size, fun i hi => (k.block i (Nat.lt_of_lt_of_le hi hB) (fun e => by injection e with e; omega)).trans (h.block i hi)⟩

def Wit (w : World) (lb : Nat) (r : Bool × Int) (e : Ending) (w' : World) : Prop := e = .returned (.bool r.1) ∧ Cnt w' lb r.2 ∧ w.grownBy w' (some lb)
def EVt (t : Ex) (u : Value) : Value := .agg #[.string t.op, .int .i64 t.x.k, .int .i64 t.x.i, .string t.x.s, .string t.s, u]

set_option maxRecDepth 100000 in
set_option maxHeartbeats 4000000 in
theorem within_0 (d : Int) (hd : d = 0 ∨ (0 < d ∧ d ≤ 100)) (op : ByteArray) (k i : Int) (vs s : ByteArray) (A : Option Addr) (n cap : Nat) (lb : Nat) (m : Int) (w : World) (hm : 0 ≤ m) (hm' : m ≤ 1000) (hc : Cnt w lb m) (h0 : d = 0 ∨ m - 1 < 0) :
    Calls Tryz.prog 103 #[.agg #[.string op, .int .i64 k, .int .i64 i, .string vs, .string s, .slice A n cap], .int .i64 d, .pointer (some ⟨lb, 0, none⟩)] w (Wit w lb (false, m - 1)) := by
  have HC := Lib.hid hc
  clear hc
  have hlt := HC.out.lt
  have e0 := HC.out.c0
  have ef := HC.out.fz 0
  have hne : ¬ w.heap.size = lb := by omega
  have hne' : ¬ lb = w.heap.size := by omega
  by_cases hz : d = 0
  · subst hz
    clear hd h0
    go_enter Tryz.func103, Tryz.ntmps103
    go_wp2_with (fail)
    go_ret
    exact ⟨rfl, (HC.out.put _).keep ((Below.refl _ _).alloc (Nat.le_refl _) _) (by simpa [World.setCell] using hlt), grow_trans (grow_set _ _ _ _) (grow_alloc _ _ _)⟩
  · have h1 : decide (m - 1 < 0) = true := decide_eq_true (by omega)
    have h2 : (d == 0) = false := beq_eq_false_iff_ne.2 hz
    have h3 : m - 1 < 0 := by omega
    clear hd h0
    go_enter Tryz.func103, Tryz.ntmps103
    go_wp2_with (fail)
    go_ret
    exact ⟨rfl, (HC.out.put _).keep ((Below.refl _ _).alloc (Nat.le_refl _) _) (by simpa [World.setCell] using hlt), grow_trans (grow_set _ _ _ _) (grow_alloc _ _ _)⟩

/-- The world of a node that goes on: its count is written, its box is there. -/
structure Node (w : World) (lb : Nat) (t : Ex) (u : Value) (m : Int) (W : World) : Prop where
  grown : w.grownBy W (some lb)
  cnt : Cnt W lb m
  box : W.heap[w.heap.size]? = some (.cells #[.string t.op, .int .i64 t.x.k, .int .i64 t.x.i, .string t.x.s, .string t.s, u] 29 (0, 0))
theorem box_cells {W : World} {b : Nat} {t : Ex} {u : Value} (h : W.heap[b]? = some (.cells #[.string t.op, .int .i64 t.x.k, .int .i64 t.x.i, .string t.x.s, .string t.s, u] 29 (0, 0))) : ExC W ⟨b, 0, none⟩ t u := by
  refine ⟨?_, ?_, ?_, ?_, ?_, ?_⟩ <;> · rw [Lib.cell_of_heap h]; rfl

set_option maxRecDepth 100000 in
set_option maxHeartbeats 4000000 in
theorem within_f (d : Nat) (hd : d ≤ 100) (t : Ex) (u : Value) (P : Nat → Prop) (N : Nat) (lb : Nat) (m : Int) (w : World) (ht : Tr w P N t u) (hm : 1 ≤ m) (hm' : m ≤ 1000) (hc : Cnt w lb m) (hf : fmT t = false) :
    Calls Tryz.prog 103 #[EVt t u, .int .i64 ((d : Int) + 1), .pointer (some ⟨lb, 0, none⟩)] w (Wit w lb (false, m - 1)) := by
  have HC := Lib.hid hc
  have hs := ht.1
  obtain ⟨A, cap, rfl, hn⟩ := ht.form
  have HF := Lib.hid hf
  clear hc ht hf
  cases t with
  | mk op x s l =>
  obtain ⟨k, i, vs⟩ := x
  unfold EVt
  simp only [Ex.op, Ex.x, Ex.s, Ex.l] at hs hn ⊢
  have hlt := HC.out.lt
  have e0 := HC.out.c0
  have ef := HC.out.fz 0
  have hne : ¬ w.heap.size = lb := by omega
  have hne' : ¬ lb = w.heap.size := by omega
  have h1 : decide (m - 1 < 0) = false := decide_eq_false (by omega)
  have h2 : ((d : Int) + 1 == 0) = false := beq_eq_false_iff_ne.2 (by omega)
  go_enter Tryz.func103, Tryz.ntmps103
  go_wp2_with (go_at_call 139; refine (formed_any _ _ _ _ _ _ _ _ _ hn hs).mono ?_; rintro e w1 ⟨rfl, hb1⟩; rw [show fmB op k i vs s l.length = false from HF.out])
  go_ret
  exact ⟨rfl, ((HC.out.put _).keep ((Below.refl _ _).alloc (Nat.le_refl _) _) (by simpa [World.setCell] using hlt)).keep hb1 (by simp [World.setCell]; omega), grow_trans (grow_trans (grow_set _ _ _ _) (grow_alloc _ _ _)) (grow_below hb1 _)⟩

theorem Sl.at_ {w : World} {P : Nat → Prop} {N : Nat} {l : List Ex} {A : Option Addr} {c n : Nat} (h : Sl w P N l (.slice A n c)) {j : Nat} (hj : j < l.length) : ∃ a u M, A = some a ∧ P a.block ∧ ExC w (a.add (j * 6)) l[j] u ∧ Tr w P M l[j] u ∧ M < N := by
  cases N with
  | zero => obtain ⟨rfl, _⟩ := h; simp at hj
  | succ M =>
    obtain ⟨A', cap, e, hl, hh⟩ := h
    obtain ⟨a, u, e1, hp, hc, hs, hr⟩ := hh j hj
    injection e with e2 _ _
    exact ⟨a, u, M, e2.trans e1, hp, hc, ⟨hs, hr⟩, Nat.lt_succ_self _⟩

theorem parts_t {f : Ex → Int → Bool × Int} {l : List Ex} {j : Nat} (hj : j < l.length) {m : Int} (h : (f l[j] m).1 = true) : partsF f (l.drop j) m = partsF f (l.drop (j + 1)) (f l[j] m).2 := by
  rw [List.drop_eq_getElem_cons hj]
  show (if (f l[j] m).1 = true then _ else _) = _
  rw [if_pos h]
theorem parts_f {f : Ex → Int → Bool × Int} {l : List Ex} {j : Nat} (hj : j < l.length) {m : Int} (h : (f l[j] m).1 = false) : partsF f (l.drop j) m = (false, (f l[j] m).2) := by
  rw [List.drop_eq_getElem_cons hj]
  show (if (f l[j] m).1 = true then _ else _) = _
  rw [if_neg (by rw [h]; decide)]

set_option maxRecDepth 100000 in
set_option maxHeartbeats 8000000 in
theorem within_t (d : Nat) (hd : d ≤ 100) (t : Ex) (u : Value) (P : Nat → Prop) (N : Nat) (lb : Nat) (hP : ¬ P lb) (m : Int) (w : World) (ht : Tr w P N t u) (hm : 1 ≤ m) (hm' : m ≤ 1000) (hc : Cnt w lb m) (hf : fmT t = true)
    (hrec : ∀ (t : Ex) (u : Value) (M : Nat) (m : Int) (w : World), Tr w P M t u → 0 ≤ m → m ≤ 1000 → Cnt w lb m → Calls Tryz.prog 103 #[EVt t u, .int .i64 d, .pointer (some ⟨lb, 0, none⟩)] w (Wit w lb (withinF d t m))) :
    Calls Tryz.prog 103 #[EVt t u, .int .i64 ((d : Int) + 1), .pointer (some ⟨lb, 0, none⟩)] w (Wit w lb (partsF (withinF d) t.l (m - 1))) := by
  have HR := Lib.hid hrec
  have HC := Lib.hid hc
  have hs := ht.1
  have HT := Lib.hid ht
  obtain ⟨A, cap, rfl, hn⟩ := ht.form
  have HF := Lib.hid hf
  clear hc ht hf hrec
  cases t with
  | mk op x s l =>
  obtain ⟨k, i, vs⟩ := x
  unfold EVt
  simp only [Ex.op, Ex.x, Ex.s, Ex.l] at hs hn ⊢
  have hlt := HC.out.lt
  have e0 := HC.out.c0
  have ef := HC.out.fz 0
  have hne : ¬ w.heap.size = lb := by omega
  have hne' : ¬ lb = w.heap.size := by omega
  have h1 : decide (m - 1 < 0) = false := decide_eq_false (by omega)
  have h2 : ((d : Int) + 1 == 0) = false := beq_eq_false_iff_ne.2 (by omega)
  obtain ⟨n, HN⟩ : ∃ n, Hid (l.length = n) := ⟨_, Lib.hid rfl⟩
  have HS : Hid (Sl w P N l (.slice A n cap)) := HN.out ▸ HT.out.2
  rw [HN.out] at hn ⊢
  unfold maxLen at hn
  go_enter Tryz.func103, Tryz.ntmps103
  go_wp2_with (go_at_call 139; refine (formed_any _ _ _ _ _ _ _ _ _ (by unfold maxLen; omega) hs).mono ?_; rintro e w1 ⟨rfl, hb1⟩; rw [show fmB op k i vs s n = true from HN.out ▸ HF.out]; have hc1 := (bcell hb1).1; have HB1 := Lib.hid hb1; have hy1 := hb1.size; (try simp [World.setCell] at hy1); have hz1 : w.heap.size < w1.heap.size := (by omega); clear hb1)
  have HW1 : Hid (w.grownBy w1 (some lb) ∧ Cnt w1 lb (m - 1)) :=
    ⟨grow_trans (grow_trans (grow_set _ _ _ _) (grow_alloc _ _ _)) (grow_below HB1.out _), ((HC.out.put _).keep ((Below.refl _ _).alloc (Nat.le_refl _) _) (by simpa [World.setCell] using hlt)).keep HB1.out (by simp [World.setCell]; omega)⟩
  clear HB1 hc1
  go_loopw [30] (fun iv wr => ∃ (j : Nat) (q : Int), iv = .int .i64 j ∧ j ≤ n ∧ 0 ≤ q ∧ q ≤ 1000 ∧ w.grownBy wr (some lb) ∧ Cnt wr lb q ∧ Hid (partsF (withinF d) l (m - 1) = partsF (withinF d) (l.drop j) q)) (fun iv _ => n - (intOf iv).toNat)
  case atStart => exact ⟨0, m - 1, rfl, by omega, by omega, by omega, HW1.out.1, HW1.out.2, rfl⟩
  case round =>
    obtain ⟨j, q, rfl, hj, hq, hq', hg, hcn, HP⟩ := hrel
    have HG := Lib.hid (And.intro hg hcn)
    by_cases hlt1 : j < n
    · have hjl : j < l.length := by rw [HN.out]; exact hlt1
      obtain ⟨a, u', M, rfl, hp, hE, hTr, _⟩ := HS.out.at_ hjl
      obtain ⟨A', cap', hu, _⟩ := hTr.form
      obtain ⟨n', hn'⟩ : ∃ n', n' = l[j].l.length := ⟨_, rfl⟩
      rw [← hn'] at hu
      clear hn'
      subst hu
      have hal : a.block < w.heap.size := by have := hE.lt; rwa [add_block] at this
      have hanl : a.block ≠ lb := fun e => hP (e ▸ hp)
      have hblk : wr.heap[a.block]? = w.heap[a.block]? := hg.block _ hal (fun e => hanl (by injection e))
      have hE' := hE.keep (W' := wr) (by rw [add_block]; exact hblk)
      have HT' := Lib.hid (hTr.grown hg hP)
      have HX := Lib.hid (parts_t (f := withinF d) hjl (m := q))
      have HY := Lib.hid (parts_f (f := withinF d) hjl (m := q))
      have HB := Lib.hid (within_bd d l[j] q hq)
      have c0 := hE'.c0
      have c1 := hE'.c1
      have c2 := hE'.c2
      have c3 := hE'.c3
      have c4 := hE'.c4
      have c5 := hE'.c5
      have hwl := hcn.lt
      clear hE hE' hTr hblk hg hcn
      generalize l[j] = y at c0 c1 c2 c3 c4 c5 HT' HX HY HB
      cases hb : (withinF d y q).1 with
      | true =>
        have HBT := Lib.hid hb
        clear hb
        go_wp2_with (go_at_call 103; refine (HR.out y _ M q _ (HT'.out.below ((Below.refl _ _).alloc (Nat.le_refl _) _)) hq hq' (HG.out.2.keep ((Below.refl _ _).alloc (Nat.le_refl _) _) hwl)).mono ?_; rintro e w2 ⟨rfl, hcn2, hg2⟩; rw [HBT.out]; have HG2 := Lib.hid (And.intro hcn2 hg2); clear hcn2 hg2)
        go_roundw
        case rel => exact ⟨j + 1, _, by go_num, by omega, HB.out.2.2 HBT.out, by have := HB.out.1; omega, grow_trans (grow_trans HG.out.1 (grow_alloc _ _ _)) HG2.out.2, HG2.out.1, HP.out.trans (HX.out HBT.out)⟩
        case measure => simp [intOf]; omega
      | false =>
        have HBT := Lib.hid hb
        clear hb
        go_wp2_with (go_at_call 103; refine (HR.out y _ M q _ (HT'.out.below ((Below.refl _ _).alloc (Nat.le_refl _) _)) hq hq' (HG.out.2.keep ((Below.refl _ _).alloc (Nat.le_refl _) _) hwl)).mono ?_; rintro e w2 ⟨rfl, hcn2, hg2⟩; rw [HBT.out]; have HG2 := Lib.hid (And.intro hcn2 hg2); clear hcn2 hg2)
        go_ret
        unfold Wit
        rw [HP.out, HY.out HBT.out]
        exact ⟨rfl, HG2.out.1, grow_trans (grow_trans HG.out.1 (grow_alloc _ _ _)) HG2.out.2⟩
    · obtain rfl : j = n := by omega
      clear hg hcn
      go_wp2_with (fail)
      go_ret
      unfold Wit
      rw [HP.out, List.drop_eq_nil_of_le (by rw [HN.out]; exact Nat.le_refl _)]
      exact ⟨rfl, HG.out.2, HG.out.1⟩

theorem within_any (P : Nat → Prop) (lb : Nat) (hP : ¬ P lb) : ∀ (d : Nat), d ≤ 100 → ∀ (t : Ex) (u : Value) (N : Nat) (m : Int) (w : World), Tr w P N t u → 0 ≤ m → m ≤ 1000 → Cnt w lb m →
    Calls Tryz.prog 103 #[EVt t u, .int .i64 d, .pointer (some ⟨lb, 0, none⟩)] w (Wit w lb (withinF d t m))
  | 0, _, t, u, N, m, w, ht, hm, hm', hc => by
    obtain ⟨A, cap, rfl, _⟩ := ht.form
    exact within_0 0 (.inl rfl) _ _ _ _ _ _ _ _ lb m w hm hm' hc (.inl rfl)
  | d + 1, hd, t, u, N, m, w, ht, hm, hm', hc => by
    by_cases h1 : m - 1 < 0
    · obtain ⟨A, cap, rfl, _⟩ := ht.form
      have e : withinF (d + 1) t m = (false, m - 1) := by unfold withinF; rw [if_pos h1]
      rw [e]
      exact within_0 _ (.inr ⟨by omega, by omega⟩) _ _ _ _ _ _ _ _ lb m w hm hm' hc (.inr h1)
    · cases hf : fmT t with
      | true =>
        have e : withinF (d + 1) t m = partsF (withinF d) t.l (m - 1) := by unfold withinF; rw [if_neg h1, if_pos hf]
        rw [e]
        exact within_t d (by omega) t u P N lb hP m w ht (by omega) hm' hc hf (fun t u M m w h1 h2 h3 h4 => within_any P lb hP d (by omega) t u M m w h1 h2 h3 h4)
      | false =>
        have e : withinF (d + 1) t m = (false, m - 1) := by unfold withinF; rw [if_neg h1, if_neg (by rw [hf]; decide)]
        rw [e]
        exact within_f d (by omega) t u P N lb m w ht (by omega) hm' hc hf

set_option maxRecDepth 100000 in
set_option maxHeartbeats 4000000 in
theorem emay_any (P : Nat → Prop) (N : Nat) (t : Ex) (u : Value) (w : World) (ht : Tr w P N t u) :
    Calls Tryz.prog 65 #[EVt t u] w fun e w' => e = .returned (.bool (mayT t)) ∧ Below w.heap.size w w' := by
  have HT := Lib.hid ht
  obtain ⟨A, cap, rfl, hn⟩ := ht.form
  clear ht
  have HQ : Hid (Tr ((w.alloc (.cells #[.string t.op, .int .i64 t.x.k, .int .i64 t.x.i, .string t.x.s, .string t.s, .slice A t.l.length cap] 29)).alloc (.cells #[.int .i64 60] 3)) (fun b => b < w.heap.size) N t (.slice A t.l.length cap)) :=
    HT.out.keep (fun b _ hl => by rw [Below.heap_alloc _ _ _ (by simp; omega), Below.heap_alloc _ _ _ hl]) (fun b _ hl => hl)
  obtain ⟨n, HN⟩ : ∃ n, Hid (t.l.length = n) := ⟨_, Lib.hid rfl⟩
  have HW : Hid (∀ W, Tr W (fun b => b < w.heap.size) N t (.slice A t.l.length cap) → Cnt W (w.heap.size + 1) 60 → Calls Tryz.prog 103 #[EVt t (.slice A t.l.length cap), .int .i64 12, .pointer (some ⟨w.heap.size + 1, 0, none⟩)] W (Wit W (w.heap.size + 1) (withinF 12 t 60))) :=
    fun W h1 h2 => within_any (fun b => b < w.heap.size) _ (by omega) 12 (by omega) t _ N 60 W h1 (by omega) (by omega) h2
  unfold EVt at HW ⊢
  rw [HN.out] at hn HW ⊢
  rw [HN.out] at HQ
  unfold maxLen at hn
  go_enter Tryz.func65, Tryz.ntmps65
  go_wp2_with (go_at_call 103; refine (HW.out _ HQ.out (Cnt.new (by simp) _)).mono ?_; rintro e w1 ⟨rfl, _, hg⟩)
  go_ret
  exact ⟨rfl, below_grow (((Below.refl _ _).alloc (Nat.le_refl _) _).alloc (by simp) _) hg (by simp) (by simp; omega)⟩
end Go.Proofs.YtmhkmliebhbkdaaGreat
