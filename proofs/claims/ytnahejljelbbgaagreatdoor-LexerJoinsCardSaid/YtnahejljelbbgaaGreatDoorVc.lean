import Derived.Deep.RegionHeld3
import Derived.Test.YtnahejljelbbgaaGreatDoorVa
import Derived.Test.YtnahejljelbbgaaGreatDoorShelf
/- May a value be; what it counts as. -/
namespace Go.Proofs.YtnahejljelbbgaaGreatDoor
open Go.RowKit Go.Lib

def outP (r : Nat) : Bool := decide ((r : Int) < 32) || decide ((126 : Int) < (r : Int))

theorem out_pred (w : World) (B : Nat) (hB : B + 1 < w.heap.size) (hc0 : w.cell? ⟨B, 0, none⟩ = some (.int .i32 32)) (hc1 : w.cell? ⟨B + 1, 0, none⟩ = some (.int .i32 126)) :
    PredAt Tryz.prog 57 #[.pointer (some ⟨B, 0, none⟩), .pointer (some ⟨B + 1, 0, none⟩)] encR outP w := fun W r hb => by
  have hd0 : W.cell? ⟨B, 0, none⟩ = some (.int .i32 32) := (hb.cell (p := ⟨B, 0, none⟩) (by show B < _; omega)).trans hc0
  have hd1 : W.cell? ⟨B + 1, 0, none⟩ = some (.int .i32 126) := (hb.cell (p := ⟨B + 1, 0, none⟩) (by show B + 1 < _; omega)).trans hc1
  clear hc0 hc1 hb
  unfold FnGives
  by_cases h1 : (r : Int) < 32 <;> by_cases h2 : (126 : Int) < (r : Int)
  all_goals
    go_enter Tryz.func57, Tryz.ntmps57
    go_wp2
    all_goals first | (exfalso; omega) | (go_ret; exact ⟨by simp [outP, h1, h2], 0, rfl⟩)

/-- A text that may be: 40 octets at most, each 32 to 126. -/
def txtB (s : ByteArray) : Bool := !decide (0 ≤ Lib.idxFunc outP true s)

theorem contains_any (s : ByteArray) (w : World) (B : Nat) (hB : B + 1 < w.heap.size) (hc0 : w.cell? ⟨B, 0, none⟩ = some (.int .i32 32)) (hc1 : w.cell? ⟨B + 1, 0, none⟩ = some (.int .i32 126)) :
    Calls Tryz.prog 39 #[.string s, .func (.func 57) #[] #[.pointer (some ⟨B, 0, none⟩), .pointer (some ⟨B + 1, 0, none⟩)]] w fun e w' => e = .returned (.bool (!txtB s)) ∧ Below w.heap.size w w' :=
  (Tryz.strings_ContainsFunc _ _ (enters_of Tryz.func57 (by kernel_rfl) rfl) _ s w (out_pred w B hB hc0 hc1)).mono fun e w' h => ⟨by rw [h.1, txtB, Bool.not_not], h.2⟩

/-- May it be? -/
def mayB (k i : Int) (s : ByteArray) : Bool :=
  if k = 0 then decide (i = 0) && s.toList.isEmpty else if k = 1 then s.toList.isEmpty else if k = 2 then decide (i = 0) && decide (s.size ≤ 40) && txtB s else if k = 3 then s.toList.isEmpty && (decide (i = 0) || decide (i = 1)) else false

theorem ret_bool {a b : Bool} (h : a = b) : Ending.returned (.bool a) = .returned (.bool b) := by rw [h]

set_option maxHeartbeats 800000 in
theorem may_not2 (k i : Int) (s : ByteArray) (w : World) (hk : ¬ k = 2) :
    Calls Tryz.prog 24 #[.agg #[.int .i64 k, .int .i64 i, .string s]] w fun e w' => e = .returned (.bool (mayB k i s)) ∧ Below w.heap.size w w' := by
  go_enter Tryz.func24, Tryz.ntmps24
  go_wp2
  all_goals
    go_ret
    refine ⟨ret_bool (by simp_all [mayB] <;> (try (rw [Bool.eq_iff_iff]; simp; omega))), ?_⟩
    repeat (first | exact Below.refl _ _ | (refine bSet3 ?_ (by (try simp) <;> omega) _ _ _) | (refine bOn' (by assumption) (by (try simp) <;> omega) ?_) | (refine Below.drew ?_) | (refine Below.alloc ?_ (by (try simp) <;> omega) _))

theorem outside_any (w : World) :
    Calls Tryz.prog 40 #[.int .i32 32, .int .i32 126] w fun e w' => e = .returned (.func (.func 57) #[] #[.pointer (some ⟨w.heap.size, 0, none⟩), .pointer (some ⟨w.heap.size + 1, 0, none⟩)]) ∧ w' = (w.alloc (.cells #[.int .i32 32] 21)).alloc (.cells #[.int .i32 126] 21) := by
  go_enter Tryz.func40, Tryz.ntmps40
  go_wp2
  go_ret
  exact ⟨rfl, rfl⟩

def outR : Value → List Nat → World → Prop := fun u F w' => ∃ b, F = [b, b + 1] ∧ u = .func (.func 57) #[] #[.pointer (some ⟨b, 0, none⟩), .pointer (some ⟨b + 1, 0, none⟩)] ∧ w'.cell? ⟨b, 0, none⟩ = some (.int .i32 32) ∧ w'.cell? ⟨b + 1, 0, none⟩ = some (.int .i32 126) ∧ b + 1 < w'.heap.size
theorem outR_lasting : ∀ u F, Lasting (outR u F) := by
  rintro u F w w' hb ⟨b, h1, h2, h3, h4, h5⟩
  exact ⟨b, h1, h2, (hb.cell (p := ⟨b, 0, none⟩) (by show b < _; omega)).trans h3, (hb.cell (p := ⟨b + 1, 0, none⟩) h5).trans h4, Nat.lt_of_lt_of_le h5 hb.size⟩

theorem outR_cells {v : Value} {b : Nat} {w : World} (h : outR v [b, b + 1] w) : w.cell? ⟨b, 0, none⟩ = some (.int .i32 32) ∧ w.cell? ⟨b + 1, 0, none⟩ = some (.int .i32 126) ∧ b + 1 < w.heap.size := by
  obtain ⟨b', e1, _, h1, h2, h3⟩ := h
  obtain rfl : b = b' := by injection e1
  exact ⟨h1, h2, h3⟩

set_option maxHeartbeats 800000 in
theorem may_2 (i : Int) (s : ByteArray) (w : World) (hi : i = 0) (hs : s.size ≤ 40) :
    Calls Tryz.prog 24 #[.agg #[.int .i64 2, .int .i64 i, .string s]] w fun e w' => e = .returned (.bool (txtB s)) ∧ Below w.heap.size w w' := by
  go_enter Tryz.func24, Tryz.ntmps24
  have hsz : decide ((s.size : Int) ≤ 40) = true := decide_eq_true (by omega)
  subst hi
  go_wp2
  refine detL_begin [.val (.pointer (some ⟨w.heap.size, 1, none⟩)), .val (.int .i64 0), .val (.bool true), .val (.bool true), .val (.pointer (some ⟨w.heap.size, 2, none⟩)), .val (.string s), .val (.int .i64 s.size), .val (.bool true), .val (.bool true), .val (.bool true), .val (.pointer (some ⟨w.heap.size, 2, none⟩)), .val (.string s), .rel (outR), .val (.bool (!txtB s)), .val (.bool (txtB s)), .val (.bool (txtB s)), .val (.bool (txtB s))] 17 (by kernel_rfl) ?_
  repeat
    (refine detL_val (by kernel_rfl) (yields_of rfl fun w1 hb1 => ?_) ?_
     · have hc1 := (bcell hb1).1
       clear hb1
       go_simp
       with_reducible exact Det1_same
     simp only [Act.put, List.setIfInBounds_toArray, List.set_cons_zero, List.set_cons_succ])
  refine detL_rel (by kernel_rfl) (yields_rel (by rfl) outR_lasting fun w1 hw1 => ?_) ?_
  · clear hw1
    go_simp
    exact (outside_any _).mono fun e w2 h => ⟨_, _, h.1, ⟨_, rfl, rfl, by rw [h.2]; simp, by rw [h.2]; simp, by rw [h.2]; simp⟩, by rw [h.2]; simp <;> omega, by rw [h.2]; exact ((Below.refl _ _).alloc (Nat.le_refl _) _).alloc (by simp) _⟩
  rintro v F w1 hw1
  obtain ⟨b, rfl, rfl, -⟩ := (hw1.ents _ List.mem_cons_self).1
  simp only [Act.put, List.setIfInBounds_toArray, List.set_cons_zero, List.set_cons_succ]
  refine detL_val (by kernel_rfl) (yields_env (by rfl) fun w2 hw2 => ?_) ?_
  · have h := outR_cells (hw2.ents _ (List.mem_filter.2 ⟨List.mem_cons_self, by kernel_rfl⟩)).1
    have h1 := h.1
    have h2 := h.2.1
    have h3 := h.2.2
    clear hw1 hw2 h
    go_simp
    exact Det1_enter (contains_any s _ _ h3 h1 h2)
  simp only [Act.put, List.setIfInBounds_toArray, List.set_cons_zero, List.set_cons_succ]
  repeat
    (refine detL_val (by kernel_rfl) (yields_of rfl fun w1 hb1 => ?_) ?_
     · have hc1 := (bcell hb1).1
       clear hb1
       go_simp
       with_reducible exact Det1_same
     simp only [Act.put, List.setIfInBounds_toArray, List.set_cons_zero, List.set_cons_succ])
  refine detL_done (by kernel_rfl) fun w1 hw1 => ?_
  have hb1 := hw1.below
  go_wp2
  go_ret
  refine ⟨rfl, ?_⟩
  repeat (first | (with_reducible exact Below.refl _ _) | ((with_reducible refine cSet3 ?_ ?_ _ _ _); (· ((try simp) <;> omega))) | (with_reducible refine Below.drew ?_) | ((with_reducible refine cAlloc ?_ ?_ _); (· ((try simp) <;> omega))) | ((with_reducible refine cOn (by assumption) ?_ ?_); (· ((try simp) <;> omega))))

set_option maxHeartbeats 800000 in
theorem may_2a (i : Int) (s : ByteArray) (w : World) (hi : ¬ i = 0) :
    Calls Tryz.prog 24 #[.agg #[.int .i64 2, .int .i64 i, .string s]] w fun e w' => e = .returned (.bool false) ∧ Below w.heap.size w w' := by
  go_enter Tryz.func24, Tryz.ntmps24
  have hbi : (i == 0) = false := beq_eq_false_iff_ne.2 hi
  go_wp2
  refine detL_begin [.val (.pointer (some ⟨w.heap.size, 1, none⟩)), .val (.int .i64 i), .val (.bool false), .val (.bool false), .val (undef), .val (undef), .val (undef), .val (undef), .val (.bool false), .val (.bool false), .val (undef), .val (undef), .val (undef), .val (undef), .val (undef), .val (.bool false), .val (.bool false)] 17 (by kernel_rfl) ?_
  repeat
    (first
      | (refine detL_val (by kernel_rfl) (yields_of rfl fun w1 hb1 => ?_) ?_
         · have hc1 := bcellD hb1
           clear hb1
           go_simp
           with_reducible first
             | exact Det1_same
         simp only [Act.put, List.setIfInBounds_toArray, List.set_cons_zero, List.set_cons_succ])
      | (refine detL_val (by kernel_rfl) (yields_not rfl) ?_
         simp only [Act.put, List.setIfInBounds_toArray, List.set_cons_zero, List.set_cons_succ]))
  refine detL_done (by kernel_rfl) fun w1 hw1 => ?_
  have hb1 := hw1.below
  go_wp2
  go_ret
  refine ⟨rfl, ?_⟩
  repeat (first | (with_reducible exact Below.refl _ _) | ((with_reducible refine cSet3 ?_ ?_ _ _ _); (· ((try simp) <;> omega))) | (with_reducible refine Below.drew ?_) | ((with_reducible refine cAlloc ?_ ?_ _); (· ((try simp) <;> omega))) | ((with_reducible refine cOn (by assumption) ?_ ?_); (· ((try simp) <;> omega))))

set_option maxHeartbeats 800000 in
theorem may_2b (i : Int) (s : ByteArray) (w : World) (hi : i = 0) (hs : ¬ s.size ≤ 40) :
    Calls Tryz.prog 24 #[.agg #[.int .i64 2, .int .i64 i, .string s]] w fun e w' => e = .returned (.bool false) ∧ Below w.heap.size w w' := by
  go_enter Tryz.func24, Tryz.ntmps24
  have hsz : decide ((s.size : Int) ≤ 40) = false := decide_eq_false (by omega)
  subst hi
  go_wp2
  refine detL_begin [.val (.pointer (some ⟨w.heap.size, 1, none⟩)), .val (.int .i64 0), .val (.bool true), .val (.bool true), .val (.pointer (some ⟨w.heap.size, 2, none⟩)), .val (.string s), .val (.int .i64 s.size), .val (.bool false), .val (.bool false), .val (.bool false), .val (undef), .val (undef), .val (undef), .val (undef), .val (undef), .val (.bool false), .val (.bool false)] 17 (by kernel_rfl) ?_
  repeat
    (first
      | (refine detL_val (by kernel_rfl) (yields_of rfl fun w1 hb1 => ?_) ?_
         · have hc1 := bcellD hb1
           clear hb1
           go_simp
           with_reducible first
             | exact Det1_same
         simp only [Act.put, List.setIfInBounds_toArray, List.set_cons_zero, List.set_cons_succ])
      | (refine detL_val (by kernel_rfl) (yields_not rfl) ?_
         simp only [Act.put, List.setIfInBounds_toArray, List.set_cons_zero, List.set_cons_succ]))
  refine detL_done (by kernel_rfl) fun w1 hw1 => ?_
  have hb1 := hw1.below
  go_wp2
  go_ret
  refine ⟨rfl, ?_⟩
  repeat (first | (with_reducible exact Below.refl _ _) | ((with_reducible refine cSet3 ?_ ?_ _ _ _); (· ((try simp) <;> omega))) | (with_reducible refine Below.drew ?_) | ((with_reducible refine cAlloc ?_ ?_ _); (· ((try simp) <;> omega))) | ((with_reducible refine cOn (by assumption) ?_ ?_); (· ((try simp) <;> omega))))

theorem may_any (k i : Int) (s : ByteArray) (w : World) :
    Calls Tryz.prog 24 #[.agg #[.int .i64 k, .int .i64 i, .string s]] w fun e w' => e = .returned (.bool (mayB k i s)) ∧ Below w.heap.size w w' := by
  by_cases hk : k = 2
  · subst hk
    have e : mayB 2 i s = (decide (i = 0) && decide (s.size ≤ 40) && txtB s) := by simp [mayB]
    by_cases hi : i = 0
    · by_cases hs : s.size ≤ 40
      · rw [show mayB 2 i s = txtB s by rw [e]; simp [hi, hs]]
        exact may_2 i s w hi hs
      · rw [show mayB 2 i s = false by rw [e]; simp [hs]]
        exact may_2b i s w hi hs
    · rw [show mayB 2 i s = false by rw [e]; simp [hi]]
      exact may_2a i s w hi
  · exact may_not2 k i s w hk

theorem may_t (k i : Int) (s : ByteArray) (w : World) (h : mayB k i s = true) :
    Calls Tryz.prog 24 #[.agg #[.int .i64 k, .int .i64 i, .string s]] w fun e w' => e = .returned (.bool true) ∧ Below w.heap.size w w' := h ▸ may_any k i s w
theorem may_f (k i : Int) (s : ByteArray) (w : World) (h : mayB k i s = false) :
    Calls Tryz.prog 24 #[.agg #[.int .i64 k, .int .i64 i, .string s]] w fun e w' => e = .returned (.bool false) ∧ Below w.heap.size w w' := h ▸ may_any k i s w

end Go.Proofs.YtnahejljelbbgaaGreatDoor
