import Derived.Test.YtmhkmliebhbkdaaGreatX09

/- The type that an operation makes of its parts' types. -/
namespace Go.Proofs.YtmhkmliebhbkdaaGreat
open Go.RowKit Go.Lib

def madeI (op : List UInt8) (l : List Int) : Int × Int :=
  if op = [110, 111, 116] ∨ op = [97, 110, 100] ∨ op = [111, 114] then (if (l.all fun t => alikeI t 3) = true then (3, 0) else (0, 5))
  else if op = [43] ∨ op = [45] then (if (l.all fun t => alikeI t 1) = true then (1, 0) else (0, 5))
  else if op = [61] ∨ op = [60] then (if alikeI (l.getD 0 0) (l.getD 1 0) = true then (3, 0) else (0, 5))
  else (3, 0)
set_option maxRecDepth 100000 in
set_option maxHeartbeats 4000000 in
theorem made_not (A : Option Addr) (n cap : Nat) (l : List Int) (w : World) (hn : n ≤ 100000) (hl : l.length = n) (hv : ∀ j (h : j < l.length), ∃ a, A = some a ∧ w.cell? (a.add (j * 1)) = some (.int .i64 l[j])) :
    Calls Tryz.prog 105 #[.string ⟨#[110, 111, 116]⟩, .slice A n cap] w fun e w' => e = .returned (.tuple #[.int .i64 (madeI [110, 111, 116] l).1, .int .i64 (madeI [110, 111, 116] l).2]) ∧ Below w.heap.size w w' := by
  have H := Lib.hid (all_all A n cap l 3 w hn hl hv)
  have e : madeI [110, 111, 116] l = if (l.all fun t => alikeI t 3) = true then (3, 0) else (0, 5) := by unfold madeI; simp
  rw [e]
  clear hv hl e
  generalize (l.all fun t => alikeI t 3) = z at H ⊢
  cases z with
  | true =>
    go_enter Tryz.func105, Tryz.ntmps105
    go_wp2_with (go_at_call 141; refine H.out.mono ?_; rintro e w1 ⟨rfl, hb1⟩; have HB1 := Lib.hid hb1; clear hb1)
    go_ret2
    exact ⟨rfl, HB1.out⟩
  | false =>
    go_enter Tryz.func105, Tryz.ntmps105
    go_wp2_with (go_at_call 141; refine H.out.mono ?_; rintro e w1 ⟨rfl, hb1⟩; have HB1 := Lib.hid hb1; clear hb1)
    go_ret2
    exact ⟨rfl, HB1.out⟩
set_option maxRecDepth 100000 in
set_option maxHeartbeats 4000000 in
theorem made_and (A : Option Addr) (n cap : Nat) (l : List Int) (w : World) (hn : n ≤ 100000) (hl : l.length = n) (hv : ∀ j (h : j < l.length), ∃ a, A = some a ∧ w.cell? (a.add (j * 1)) = some (.int .i64 l[j])) :
    Calls Tryz.prog 105 #[.string ⟨#[97, 110, 100]⟩, .slice A n cap] w fun e w' => e = .returned (.tuple #[.int .i64 (madeI [97, 110, 100] l).1, .int .i64 (madeI [97, 110, 100] l).2]) ∧ Below w.heap.size w w' := by
  have H := Lib.hid (all_all A n cap l 3 w hn hl hv)
  have e : madeI [97, 110, 100] l = if (l.all fun t => alikeI t 3) = true then (3, 0) else (0, 5) := by unfold madeI; simp
  rw [e]
  clear hv hl e
  generalize (l.all fun t => alikeI t 3) = z at H ⊢
  cases z with
  | true =>
    go_enter Tryz.func105, Tryz.ntmps105
    go_wp2_with (go_at_call 141; refine H.out.mono ?_; rintro e w1 ⟨rfl, hb1⟩; have HB1 := Lib.hid hb1; clear hb1)
    go_ret2
    exact ⟨rfl, HB1.out⟩
  | false =>
    go_enter Tryz.func105, Tryz.ntmps105
    go_wp2_with (go_at_call 141; refine H.out.mono ?_; rintro e w1 ⟨rfl, hb1⟩; have HB1 := Lib.hid hb1; clear hb1)
    go_ret2
    exact ⟨rfl, HB1.out⟩
set_option maxRecDepth 100000 in
set_option maxHeartbeats 4000000 in
theorem made_or (A : Option Addr) (n cap : Nat) (l : List Int) (w : World) (hn : n ≤ 100000) (hl : l.length = n) (hv : ∀ j (h : j < l.length), ∃ a, A = some a ∧ w.cell? (a.add (j * 1)) = some (.int .i64 l[j])) :
    Calls Tryz.prog 105 #[.string ⟨#[111, 114]⟩, .slice A n cap] w fun e w' => e = .returned (.tuple #[.int .i64 (madeI [111, 114] l).1, .int .i64 (madeI [111, 114] l).2]) ∧ Below w.heap.size w w' := by
  have H := Lib.hid (all_all A n cap l 3 w hn hl hv)
  have e : madeI [111, 114] l = if (l.all fun t => alikeI t 3) = true then (3, 0) else (0, 5) := by unfold madeI; simp
  rw [e]
  clear hv hl e
  generalize (l.all fun t => alikeI t 3) = z at H ⊢
  cases z with
  | true =>
    go_enter Tryz.func105, Tryz.ntmps105
    go_wp2_with (go_at_call 141; refine H.out.mono ?_; rintro e w1 ⟨rfl, hb1⟩; have HB1 := Lib.hid hb1; clear hb1)
    go_ret2
    exact ⟨rfl, HB1.out⟩
  | false =>
    go_enter Tryz.func105, Tryz.ntmps105
    go_wp2_with (go_at_call 141; refine H.out.mono ?_; rintro e w1 ⟨rfl, hb1⟩; have HB1 := Lib.hid hb1; clear hb1)
    go_ret2
    exact ⟨rfl, HB1.out⟩
set_option maxRecDepth 100000 in
set_option maxHeartbeats 4000000 in
theorem made_plus (A : Option Addr) (n cap : Nat) (l : List Int) (w : World) (hn : n ≤ 100000) (hl : l.length = n) (hv : ∀ j (h : j < l.length), ∃ a, A = some a ∧ w.cell? (a.add (j * 1)) = some (.int .i64 l[j])) :
    Calls Tryz.prog 105 #[.string ⟨#[43]⟩, .slice A n cap] w fun e w' => e = .returned (.tuple #[.int .i64 (madeI [43] l).1, .int .i64 (madeI [43] l).2]) ∧ Below w.heap.size w w' := by
  have H := Lib.hid (all_all A n cap l 1 w hn hl hv)
  have e : madeI [43] l = if (l.all fun t => alikeI t 1) = true then (1, 0) else (0, 5) := by unfold madeI; simp
  rw [e]
  clear hv hl e
  generalize (l.all fun t => alikeI t 1) = z at H ⊢
  cases z with
  | true =>
    go_enter Tryz.func105, Tryz.ntmps105
    go_wp2_with (go_at_call 141; refine H.out.mono ?_; rintro e w1 ⟨rfl, hb1⟩; have HB1 := Lib.hid hb1; clear hb1)
    go_ret2
    exact ⟨rfl, HB1.out⟩
  | false =>
    go_enter Tryz.func105, Tryz.ntmps105
    go_wp2_with (go_at_call 141; refine H.out.mono ?_; rintro e w1 ⟨rfl, hb1⟩; have HB1 := Lib.hid hb1; clear hb1)
    go_ret2
    exact ⟨rfl, HB1.out⟩
set_option maxRecDepth 100000 in
set_option maxHeartbeats 4000000 in
theorem made_minus (A : Option Addr) (n cap : Nat) (l : List Int) (w : World) (hn : n ≤ 100000) (hl : l.length = n) (hv : ∀ j (h : j < l.length), ∃ a, A = some a ∧ w.cell? (a.add (j * 1)) = some (.int .i64 l[j])) :
    Calls Tryz.prog 105 #[.string ⟨#[45]⟩, .slice A n cap] w fun e w' => e = .returned (.tuple #[.int .i64 (madeI [45] l).1, .int .i64 (madeI [45] l).2]) ∧ Below w.heap.size w w' := by
  have H := Lib.hid (all_all A n cap l 1 w hn hl hv)
  have e : madeI [45] l = if (l.all fun t => alikeI t 1) = true then (1, 0) else (0, 5) := by unfold madeI; simp
  rw [e]
  clear hv hl e
  generalize (l.all fun t => alikeI t 1) = z at H ⊢
  cases z with
  | true =>
    go_enter Tryz.func105, Tryz.ntmps105
    go_wp2_with (go_at_call 141; refine H.out.mono ?_; rintro e w1 ⟨rfl, hb1⟩; have HB1 := Lib.hid hb1; clear hb1)
    go_ret2
    exact ⟨rfl, HB1.out⟩
  | false =>
    go_enter Tryz.func105, Tryz.ntmps105
    go_wp2_with (go_at_call 141; refine H.out.mono ?_; rintro e w1 ⟨rfl, hb1⟩; have HB1 := Lib.hid hb1; clear hb1)
    go_ret2
    exact ⟨rfl, HB1.out⟩
set_option maxRecDepth 100000 in
set_option maxHeartbeats 4000000 in
theorem made_null (A : Option Addr) (n cap : Nat) (l : List Int) (w : World) :
    Calls Tryz.prog 105 #[.string ⟨#[110, 117, 108, 108]⟩, .slice A n cap] w fun e w' => e = .returned (.tuple #[.int .i64 (madeI [110, 117, 108, 108] l).1, .int .i64 (madeI [110, 117, 108, 108] l).2]) ∧ Below w.heap.size w w' := by
  go_enter Tryz.func105, Tryz.ntmps105
  go_wp2_with (fail)
  go_ret2
  exact ⟨rfl, Below.refl _ _⟩
set_option maxRecDepth 100000 in
set_option maxHeartbeats 4000000 in
theorem made_eq (a : Addr) (cap : Nat) (t u : Int) (w : World) (h0 : w.cell? a = some (.int .i64 t)) (h1 : w.cell? ⟨a.block, a.off + 1, none⟩ = some (.int .i64 u)) :
    Calls Tryz.prog 105 #[.string ⟨#[61]⟩, .slice (some a) 2 cap] w fun e w' => e = .returned (.tuple #[.int .i64 (madeI [61] [t, u]).1, .int .i64 (madeI [61] [t, u]).2]) ∧ Below w.heap.size w w' := by
  have hal := World.block_lt_of_cell? w _ h0
  have HV : Hid (w.drew.cell? a = some (.int .i64 t) ∧ w.drew.cell? ⟨a.block, a.off + 1, none⟩ = some (.int .i64 u)) := Lib.hid ⟨h0, h1⟩
  have H := Lib.hid (fun W => alike_all t u W)
  have e : madeI [61] [t, u] = if alikeI t u = true then (3, 0) else (0, 5) := by unfold madeI; simp
  rw [e]
  clear h0 h1 e
  generalize alikeI t u = z at H ⊢
  cases z with
  | true =>
    go_enter Tryz.func105, Tryz.ntmps105
    go_upto_region 12 with (fail)
    refine detL_begin [.val (.slice (some a) 2 cap), .val (.pointer (some a)), .val (.int .i64 t), .val (.slice (some a) 2 cap), .val (.pointer (some ⟨a.block, a.off + 1, none⟩)), .val (.int .i64 u), .val (.bool true), .val (.bool true)] 8 (by kernel_rfl) ?_
    refine detL_val (by kernel_rfl) (yields_of rfl fun w1 hb1 => ?_) ?_
    · skip
      clear hb1
      go_simp
      exact Det1_same
    simp only [Act.put, List.setIfInBounds_toArray, List.set_cons_zero, List.set_cons_succ]
    refine detL_val (by kernel_rfl) (yields_of rfl fun w1 hb1 => ?_) ?_
    · skip
      clear hb1
      go_simp
      exact Det1_same
    simp only [Act.put, List.setIfInBounds_toArray, List.set_cons_zero, List.set_cons_succ]
    refine detL_val (by kernel_rfl) (yields_of rfl fun w1 hb1 => ?_) ?_
    · skip
      have m0 := (hb1.cell (p := a) hal).trans HV.out.1
      clear hb1
      go_simp
      exact Det1_same
    simp only [Act.put, List.setIfInBounds_toArray, List.set_cons_zero, List.set_cons_succ]
    refine detL_val (by kernel_rfl) (yields_of rfl fun w1 hb1 => ?_) ?_
    · skip
      clear hb1
      go_simp
      exact Det1_same
    simp only [Act.put, List.setIfInBounds_toArray, List.set_cons_zero, List.set_cons_succ]
    refine detL_val (by kernel_rfl) (yields_of rfl fun w1 hb1 => ?_) ?_
    · skip
      clear hb1
      go_simp
      exact Det1_same
    simp only [Act.put, List.setIfInBounds_toArray, List.set_cons_zero, List.set_cons_succ]
    refine detL_val (by kernel_rfl) (yields_of rfl fun w1 hb1 => ?_) ?_
    · skip
      have m0 := (hb1.cell (p := ⟨a.block, a.off + 1, none⟩) hal).trans HV.out.2
      clear hb1
      go_simp
      exact Det1_same
    simp only [Act.put, List.setIfInBounds_toArray, List.set_cons_zero, List.set_cons_succ]
    refine detL_val (by kernel_rfl) (yields_of rfl fun w1 hb1 => ?_) ?_
    · skip
      clear hb1
      go_simp
      exact Det1_enter (H.out _)
    simp only [Act.put, List.setIfInBounds_toArray, List.set_cons_zero, List.set_cons_succ]
    refine detL_val (by kernel_rfl) (yields_of rfl fun w1 hb1 => ?_) ?_
    · skip
      clear hb1
      go_simp
      exact Det1_same
    simp only [Act.put, List.setIfInBounds_toArray, List.set_cons_zero, List.set_cons_succ]
    refine detL_done (by kernel_rfl) fun w1 hw1 => ?_
    have HB1 : Hid (Below w.heap.size w w1) := (Below.refl w.heap.size w).drew.trans hw1.below
    clear hw1
    go_wp2
    go_ret2
    exact ⟨rfl, HB1.out⟩
  | false =>
    go_enter Tryz.func105, Tryz.ntmps105
    go_upto_region 12 with (fail)
    refine detL_begin [.val (.slice (some a) 2 cap), .val (.pointer (some a)), .val (.int .i64 t), .val (.slice (some a) 2 cap), .val (.pointer (some ⟨a.block, a.off + 1, none⟩)), .val (.int .i64 u), .val (.bool false), .val (.bool false)] 8 (by kernel_rfl) ?_
    refine detL_val (by kernel_rfl) (yields_of rfl fun w1 hb1 => ?_) ?_
    · skip
      clear hb1
      go_simp
      exact Det1_same
    simp only [Act.put, List.setIfInBounds_toArray, List.set_cons_zero, List.set_cons_succ]
    refine detL_val (by kernel_rfl) (yields_of rfl fun w1 hb1 => ?_) ?_
    · skip
      clear hb1
      go_simp
      exact Det1_same
    simp only [Act.put, List.setIfInBounds_toArray, List.set_cons_zero, List.set_cons_succ]
    refine detL_val (by kernel_rfl) (yields_of rfl fun w1 hb1 => ?_) ?_
    · skip
      have m0 := (hb1.cell (p := a) hal).trans HV.out.1
      clear hb1
      go_simp
      exact Det1_same
    simp only [Act.put, List.setIfInBounds_toArray, List.set_cons_zero, List.set_cons_succ]
    refine detL_val (by kernel_rfl) (yields_of rfl fun w1 hb1 => ?_) ?_
    · skip
      clear hb1
      go_simp
      exact Det1_same
    simp only [Act.put, List.setIfInBounds_toArray, List.set_cons_zero, List.set_cons_succ]
    refine detL_val (by kernel_rfl) (yields_of rfl fun w1 hb1 => ?_) ?_
    · skip
      clear hb1
      go_simp
      exact Det1_same
    simp only [Act.put, List.setIfInBounds_toArray, List.set_cons_zero, List.set_cons_succ]
    refine detL_val (by kernel_rfl) (yields_of rfl fun w1 hb1 => ?_) ?_
    · skip
      have m0 := (hb1.cell (p := ⟨a.block, a.off + 1, none⟩) hal).trans HV.out.2
      clear hb1
      go_simp
      exact Det1_same
    simp only [Act.put, List.setIfInBounds_toArray, List.set_cons_zero, List.set_cons_succ]
    refine detL_val (by kernel_rfl) (yields_of rfl fun w1 hb1 => ?_) ?_
    · skip
      clear hb1
      go_simp
      exact Det1_enter (H.out _)
    simp only [Act.put, List.setIfInBounds_toArray, List.set_cons_zero, List.set_cons_succ]
    refine detL_val (by kernel_rfl) (yields_of rfl fun w1 hb1 => ?_) ?_
    · skip
      clear hb1
      go_simp
      exact Det1_same
    simp only [Act.put, List.setIfInBounds_toArray, List.set_cons_zero, List.set_cons_succ]
    refine detL_done (by kernel_rfl) fun w1 hw1 => ?_
    have HB1 : Hid (Below w.heap.size w w1) := (Below.refl w.heap.size w).drew.trans hw1.below
    clear hw1
    go_wp2
    go_ret2
    exact ⟨rfl, HB1.out⟩
set_option maxRecDepth 100000 in
set_option maxHeartbeats 4000000 in
theorem made_less (a : Addr) (cap : Nat) (t u : Int) (w : World) (h0 : w.cell? a = some (.int .i64 t)) (h1 : w.cell? ⟨a.block, a.off + 1, none⟩ = some (.int .i64 u)) :
    Calls Tryz.prog 105 #[.string ⟨#[60]⟩, .slice (some a) 2 cap] w fun e w' => e = .returned (.tuple #[.int .i64 (madeI [60] [t, u]).1, .int .i64 (madeI [60] [t, u]).2]) ∧ Below w.heap.size w w' := by
  have hal := World.block_lt_of_cell? w _ h0
  have HV : Hid (w.drew.cell? a = some (.int .i64 t) ∧ w.drew.cell? ⟨a.block, a.off + 1, none⟩ = some (.int .i64 u)) := Lib.hid ⟨h0, h1⟩
  have H := Lib.hid (fun W => alike_all t u W)
  have e : madeI [60] [t, u] = if alikeI t u = true then (3, 0) else (0, 5) := by unfold madeI; simp
  rw [e]
  clear h0 h1 e
  generalize alikeI t u = z at H ⊢
  cases z with
  | true =>
    go_enter Tryz.func105, Tryz.ntmps105
    go_upto_region 12 with (fail)
    refine detL_begin [.val (.slice (some a) 2 cap), .val (.pointer (some a)), .val (.int .i64 t), .val (.slice (some a) 2 cap), .val (.pointer (some ⟨a.block, a.off + 1, none⟩)), .val (.int .i64 u), .val (.bool true), .val (.bool true)] 8 (by kernel_rfl) ?_
    refine detL_val (by kernel_rfl) (yields_of rfl fun w1 hb1 => ?_) ?_
    · skip
      clear hb1
      go_simp
      exact Det1_same
    simp only [Act.put, List.setIfInBounds_toArray, List.set_cons_zero, List.set_cons_succ]
    refine detL_val (by kernel_rfl) (yields_of rfl fun w1 hb1 => ?_) ?_
    · skip
      clear hb1
      go_simp
      exact Det1_same
    simp only [Act.put, List.setIfInBounds_toArray, List.set_cons_zero, List.set_cons_succ]
    refine detL_val (by kernel_rfl) (yields_of rfl fun w1 hb1 => ?_) ?_
    · skip
      have m0 := (hb1.cell (p := a) hal).trans HV.out.1
      clear hb1
      go_simp
      exact Det1_same
    simp only [Act.put, List.setIfInBounds_toArray, List.set_cons_zero, List.set_cons_succ]
    refine detL_val (by kernel_rfl) (yields_of rfl fun w1 hb1 => ?_) ?_
    · skip
      clear hb1
      go_simp
      exact Det1_same
    simp only [Act.put, List.setIfInBounds_toArray, List.set_cons_zero, List.set_cons_succ]
    refine detL_val (by kernel_rfl) (yields_of rfl fun w1 hb1 => ?_) ?_
    · skip
      clear hb1
      go_simp
      exact Det1_same
    simp only [Act.put, List.setIfInBounds_toArray, List.set_cons_zero, List.set_cons_succ]
    refine detL_val (by kernel_rfl) (yields_of rfl fun w1 hb1 => ?_) ?_
    · skip
      have m0 := (hb1.cell (p := ⟨a.block, a.off + 1, none⟩) hal).trans HV.out.2
      clear hb1
      go_simp
      exact Det1_same
    simp only [Act.put, List.setIfInBounds_toArray, List.set_cons_zero, List.set_cons_succ]
    refine detL_val (by kernel_rfl) (yields_of rfl fun w1 hb1 => ?_) ?_
    · skip
      clear hb1
      go_simp
      exact Det1_enter (H.out _)
    simp only [Act.put, List.setIfInBounds_toArray, List.set_cons_zero, List.set_cons_succ]
    refine detL_val (by kernel_rfl) (yields_of rfl fun w1 hb1 => ?_) ?_
    · skip
      clear hb1
      go_simp
      exact Det1_same
    simp only [Act.put, List.setIfInBounds_toArray, List.set_cons_zero, List.set_cons_succ]
    refine detL_done (by kernel_rfl) fun w1 hw1 => ?_
    have HB1 : Hid (Below w.heap.size w w1) := (Below.refl w.heap.size w).drew.trans hw1.below
    clear hw1
    go_wp2
    go_ret2
    exact ⟨rfl, HB1.out⟩
  | false =>
    go_enter Tryz.func105, Tryz.ntmps105
    go_upto_region 12 with (fail)
    refine detL_begin [.val (.slice (some a) 2 cap), .val (.pointer (some a)), .val (.int .i64 t), .val (.slice (some a) 2 cap), .val (.pointer (some ⟨a.block, a.off + 1, none⟩)), .val (.int .i64 u), .val (.bool false), .val (.bool false)] 8 (by kernel_rfl) ?_
    refine detL_val (by kernel_rfl) (yields_of rfl fun w1 hb1 => ?_) ?_
    · skip
      clear hb1
      go_simp
      exact Det1_same
    simp only [Act.put, List.setIfInBounds_toArray, List.set_cons_zero, List.set_cons_succ]
    refine detL_val (by kernel_rfl) (yields_of rfl fun w1 hb1 => ?_) ?_
    · skip
      clear hb1
      go_simp
      exact Det1_same
    simp only [Act.put, List.setIfInBounds_toArray, List.set_cons_zero, List.set_cons_succ]
    refine detL_val (by kernel_rfl) (yields_of rfl fun w1 hb1 => ?_) ?_
    · skip
      have m0 := (hb1.cell (p := a) hal).trans HV.out.1
      clear hb1
      go_simp
      exact Det1_same
    simp only [Act.put, List.setIfInBounds_toArray, List.set_cons_zero, List.set_cons_succ]
    refine detL_val (by kernel_rfl) (yields_of rfl fun w1 hb1 => ?_) ?_
    · skip
      clear hb1
      go_simp
      exact Det1_same
    simp only [Act.put, List.setIfInBounds_toArray, List.set_cons_zero, List.set_cons_succ]
    refine detL_val (by kernel_rfl) (yields_of rfl fun w1 hb1 => ?_) ?_
    · skip
      clear hb1
      go_simp
      exact Det1_same
    simp only [Act.put, List.setIfInBounds_toArray, List.set_cons_zero, List.set_cons_succ]
    refine detL_val (by kernel_rfl) (yields_of rfl fun w1 hb1 => ?_) ?_
    · skip
      have m0 := (hb1.cell (p := ⟨a.block, a.off + 1, none⟩) hal).trans HV.out.2
      clear hb1
      go_simp
      exact Det1_same
    simp only [Act.put, List.setIfInBounds_toArray, List.set_cons_zero, List.set_cons_succ]
    refine detL_val (by kernel_rfl) (yields_of rfl fun w1 hb1 => ?_) ?_
    · skip
      clear hb1
      go_simp
      exact Det1_enter (H.out _)
    simp only [Act.put, List.setIfInBounds_toArray, List.set_cons_zero, List.set_cons_succ]
    refine detL_val (by kernel_rfl) (yields_of rfl fun w1 hb1 => ?_) ?_
    · skip
      clear hb1
      go_simp
      exact Det1_same
    simp only [Act.put, List.setIfInBounds_toArray, List.set_cons_zero, List.set_cons_succ]
    refine detL_done (by kernel_rfl) fun w1 hw1 => ?_
    have HB1 : Hid (Below w.heap.size w w1) := (Below.refl w.heap.size w).drew.trans hw1.below
    clear hw1
    go_wp2
    go_ret2
    exact ⟨rfl, HB1.out⟩
end Go.Proofs.YtmhkmliebhbkdaaGreat

/- The type of any expression that may be. -/
namespace Go.Proofs.YtmhkmliebhbkdaaGreat
open Go.RowKit Go.Lib

/-- What an operation's parts give: the first fault, or the type made. -/
def partsI (op : List UInt8) (rs : List (Int × Int)) : Int × Int :=
  match rs.find? (fun r => decide (r.2 ≠ 0)) with
  | some r => (0, r.2)
  | none => madeI op (rs.map Prod.fst)
theorem partsI_bad {op : List UInt8} {l : List Ex} {ty : Ex → Int × Int} {j : Nat} (hj : j < l.length) (h : ∀ t ∈ l.take j, (ty t).2 = 0) (hb : (ty l[j]).2 ≠ 0) : partsI op (l.map ty) = (0, (ty l[j]).2) := by
  have e : l.map ty = (l.take j).map ty ++ ty l[j] :: (l.drop (j + 1)).map ty := by
    rw [← List.map_cons, ← List.map_append, ← List.drop_eq_getElem_cons hj, List.take_append_drop]
  have hn : ((l.take j).map ty).find? (fun r => decide (r.2 ≠ 0)) = none := by
    rw [List.find?_eq_none]
    intro x hx
    obtain ⟨t, ht, rfl⟩ := List.mem_map.1 hx
    simp [h t ht]
  unfold partsI
  rw [e, List.find?_append, hn, List.find?_cons]
  simp [hb]
theorem partsI_good {op : List UInt8} {l : List Ex} {ty : Ex → Int × Int} (h : ∀ t ∈ l, (ty t).2 = 0) : partsI op (l.map ty) = madeI op (l.map fun t => (ty t).1) := by
  have hn : (l.map ty).find? (fun r => decide (r.2 ≠ 0)) = none := by
    rw [List.find?_eq_none]
    intro x hx
    obtain ⟨t, ht, rfl⟩ := List.mem_map.1 hx
    simp [h t ht]
  unfold partsI
  rw [hn, List.map_map]
  rfl

/-- The type of a name's column. -/
def colTy (cols : List Cl) (nm : ByteArray) : Int × Int := if 0 ≤ plF nm cols 0 then (((cols[(plF nm cols 0).toNat]?).map Cl.t).getD 0, 0) else (0, 4)

def typF (cols : List Cl) : Nat → Ex → Int × Int
  | 0, _ => (0, 0)
  | n + 1, t => if t.op.toList = [108, 105, 116] then (t.x.k, 0) else if t.op.toList = [99, 111, 108] then colTy cols t.s else partsI t.op.toList (t.l.map (typF cols n))

set_option maxRecDepth 100000 in
set_option maxHeartbeats 4000000 in
theorem typ_col_all (k i : Int) (vs s : ByteArray) (B : Option Addr) (q d : Nat) (A : Option Addr) (n c : Nat) (l : List Cl) (w : World) (hc : ColS w A n l) :
    Calls Tryz.prog 66 #[.agg #[.string ⟨#[99, 111, 108]⟩, .int .i64 k, .int .i64 i, .string vs, .string s, .slice B q d], .slice A n c] w fun e w' => e = .returned (.tuple #[.int .i64 (colTy l s).1, .int .i64 (colTy l s).2]) ∧ Below w.heap.size w w' := by
  have HC := Lib.hid hc
  have hln := hc.1
  have hnn := hc.2.1
  unfold maxLen at hnn
  rcases plF_bd (nm := s) l 0 (by omega) with h | ⟨h1, h2⟩
  · have e : colTy l s = (0, 4) := by unfold colTy; rw [h, if_neg (by decide)]
    rw [e]
    have HI := Lib.hid h
    clear hc h e
    go_enter Tryz.func66, Tryz.ntmps66
    go_wp2_with (go_at_call 104; refine (place_any A n c l s _ (HC.out.below ((Below.refl _ _).alloc (Nat.le_refl _) _))).mono ?_; rintro e w1 ⟨rfl, hb1⟩; rw [HI.out]; have HB1 : Hid (Below w.heap.size w w1) := ((Below.refl _ _).alloc (Nat.le_refl _) _).trans (hb1.mono (by simp)); clear hb1)
    go_ret2
    exact ⟨rfl, HB1.out⟩
  · obtain ⟨p, hp⟩ := Int.eq_ofNat_of_zero_le h1
    have hpl : p < l.length := by omega
    have e : colTy l s = (l[p].t, 0) := by unfold colTy; rw [if_pos h1, hp]; simp [List.getElem?_eq_getElem hpl]
    rw [e]
    have HI := Lib.hid hp
    have d1 : decide ((p : Int) < 0) = false := decide_eq_false (by omega)
    have hpn : p < n := by omega
    obtain ⟨a, rfl, hA⟩ := hc.2.2 p hpl
    have HA := Lib.hid hA
    have hal := hA.lt
    clear hc h1 h2 hp e hA
    generalize l[p] = y at HA ⊢
    go_enter Tryz.func66, Tryz.ntmps66
    go_wp2_with (go_at_call 104; refine (place_any (some a) n c l s _ (HC.out.below ((Below.refl _ _).alloc (Nat.le_refl _) _))).mono ?_; rintro e w1 ⟨rfl, hb1⟩; rw [HI.out]; have HB1 : Hid (Below w.heap.size w w1) := ((Below.refl _ _).alloc (Nat.le_refl _) _).trans (hb1.mono (by simp)); have HA1 := HA.out.keep (HB1.out.block _ hal); have c0 := HA1.c0; have c1 := HA1.c1; have c2 := HA1.c2; clear HA1 hb1)
    go_ret2
    exact ⟨rfl, HB1.out⟩

set_option maxRecDepth 100000 in
set_option maxHeartbeats 4000000 in
theorem typ_parts_all (op : ByteArray) (k i : Int) (vs s : ByteArray) (B : Option Addr) (p d : Nat) (hp : p ≤ 1000) (hp1 : 1 ≤ p) (l : List Ex) (ty : Ex → Int × Int) (A : Option Addr) (n c : Nat) (P : Nat → Prop) (M : Nat) (w : World)
    (h1 : (op.toList == [108, 105, 116]) = false) (h2 : (op.toList == [99, 111, 108]) = false) (hS : Sl w P M l (.slice B p d)) (hl : l.length = p)
    (hrec : ∀ (t : Ex) (u : Value) (M : Nat) (W : World), t ∈ l → Tr W P M t u → Below w.heap.size w W → Calls Tryz.prog 66 #[EVt t u, .slice A n c] W fun e w' => e = .returned (.tuple #[.int .i64 (ty t).1, .int .i64 (ty t).2]) ∧ Below W.heap.size W w')
    (hdo : ∀ (g cap : Nat) (W : World), W.ownsRow w.heap.size 3 1 (.slice (some ⟨g, 0, none⟩) p cap) p (l.map fun t => .int .i64 (ty t).1) → Calls Tryz.prog 105 #[.string op, .slice (some ⟨g, 0, none⟩) p cap] W fun e w' => e = .returned (.tuple #[.int .i64 (madeI op.toList (l.map fun t => (ty t).1)).1, .int .i64 (madeI op.toList (l.map fun t => (ty t).1)).2]) ∧ Below W.heap.size W w') :
    Calls Tryz.prog 66 #[.agg #[.string op, .int .i64 k, .int .i64 i, .string vs, .string s, .slice B p d], .slice A n c] w fun e w' => e = .returned (.tuple #[.int .i64 (partsI op.toList (l.map ty)).1, .int .i64 (partsI op.toList (l.map ty)).2]) ∧ Below w.heap.size w w' := by
  obtain ⟨i0, hi, hz0, hz1, hz2⟩ := info_parts infoInt
  have HS := Lib.hid hS
  have HL := Lib.hid hl
  have HR := Lib.hid hrec
  have HO := Lib.hid hdo
  obtain ⟨R, HRR⟩ : ∃ R, Hid (partsI op.toList (l.map ty) = R) := ⟨_, Lib.hid rfl⟩
  rw [HRR.out]
  clear hS hl hrec hdo
  go_enter Tryz.func66, Tryz.ntmps66
  go_wp2_with (fail)
  refine wp_gen (Boxt w op) ⟨(Below.refl _ _).alloc (Nat.le_refl _) _, by simp [go_sem]⟩ fun w0 hw0 => ?_
  have HW := Lib.hid hw0
  have hwl := hw0.lt
  clear hw0
  go_loopw [7, 35] (fun v iv wr => ∃ j : Nat, j ≤ p ∧ iv = .int .i64 j ∧ Below w0.heap.size w0 wr ∧ Hid (∀ t ∈ l.take j, (ty t).2 = 0) ∧ wr.ownsRow w0.heap.size 3 1 v j ((l.take j).map fun t => .int .i64 (ty t).1)) (fun _ iv _ => p - (intOf iv).toNat)
  case atStart => exact ⟨0, by omega, rfl, Below.refl _ _, (fun t ht => by simp at ht), World.ownsRow_nil _ _ _ _⟩
  case round =>
    obtain ⟨j, hj, rfl, hb, HG, hown⟩ := hrel
    have hbs := hb.size
    have HX := Lib.hid (HW.out.later hb)
    have e3 := HX.out.e0
    have hzz0 : w.heap.size < wr.heap.size := by omega
    by_cases hlt : j < p
    · have hjl : j < l.length := by rw [HL.out]; exact hlt
      obtain ⟨a, u', M', hBa, hPa, hE, hTr, _⟩ := HS.out.at_ hjl
      obtain ⟨A2, cap', hu, _⟩ := hTr.form
      obtain ⟨n', hn'⟩ : ∃ n', n' = l[j].l.length := ⟨_, rfl⟩
      rw [← hn'] at hu
      clear hn'
      subst hu hBa
      have hE' := hE.keep (HX.out.below.block _ hE.lt)
      have HT' := Lib.hid (hTr.below HX.out.below)
      obtain ⟨ta, te, hty⟩ : ∃ ta te, ty l[j] = (ta, te) := ⟨_, _, rfl⟩
      have HMem := List.getElem_mem hjl
      have HRy : Hid (∀ (u : Value) (M : Nat) (W : World), Tr W P M l[j] u → Below w.heap.size w W → Calls Tryz.prog 66 #[EVt l[j] u, .slice A n c] W fun e w' => e = .returned (.tuple #[.int .i64 ta, .int .i64 te]) ∧ Below W.heap.size W w') := by
        intro u M W hT hB
        have := HR.out l[j] u M W HMem hT hB
        rw [hty] at this
        exact this
      have HTk : Hid (((l.take (j + 1)).map fun t => Value.int .i64 (ty t).1) = ((l.take j).map fun t => Value.int .i64 (ty t).1) ++ [.int .i64 ta]) := by
        rw [take_snoc' (List.getElem?_eq_getElem hjl), List.map_append]
        show _ = _
        rw [List.map_cons, hty]
        rfl
      have HBad : Hid (te ≠ 0 → R = (0, te)) := by
        intro hne
        have := partsI_bad (op := op.toList) (ty := ty) hjl HG.out (by rw [hty]; exact hne)
        rw [HRR.out, hty] at this
        exact this
      have HG1 : Hid (te = 0 → ∀ t ∈ l.take (j + 1), (ty t).2 = 0) := by
        intro h0 t ht
        rw [take_snoc' (List.getElem?_eq_getElem hjl)] at ht
        rcases List.mem_append.1 ht with h | h
        · exact HG.out t h
        · rw [List.mem_singleton.1 h, hty]; exact h0
      have c0 := hE'.c0
      have c1 := hE'.c1
      have c2 := hE'.c2
      have c3 := hE'.c3
      have c4 := hE'.c4
      have c5 := hE'.c5
      clear hE hE' hTr HMem hty
      generalize l[j] = y at c0 c1 c2 c3 c4 c5 HT' HRy
      by_cases hte : te = 0
      · subst hte
        clear HBad
        have HG2 := Lib.hid (HG1.out rfl)
        clear HG1
        go_wp2_with (first
          | (go_at_call 66; refine (HRy.out _ M' _ (HT'.out.below ((Below.refl _ _).alloc (Nat.le_refl _) _)) ((HX.out.below).alloc (HX.out.below.size) _)).mono ?_; rintro e w1 ⟨rfl, hb1⟩; have hown1 := (World.ownsRow.alloc hown _).kept (row := none) ⟨hb1.os, hb1.tape, hb1.output, hb1.size, fun q hq _ => hb1.block q hq⟩ (by cases h : Value.ownBlock _ with | none => exact .inl rfl | some _ => exact .inr (by simp)); have HB1 : Hid (Below w0.heap.size w0 w1) := (hb.alloc hbs _).trans (hb1.mono (by simp; omega)); have hs1 := hb1.size; (try simp at hs1); clear hb1 hown)
          | (at_builtin; refine wpList_append_own _ rfl _ _ 23 rfl w0.heap.size 3 i0 (.int .i64 0) 1 8 Tryz.underlying23 hi hz0 hz1 hz2 rfl (by decide) _ _ _ rfl (World.ownsRow.alloc hown1 _) ⟨w1.heap.size, 0, none⟩ 1 1 [.int .i64 ta] rfl rfl ?c1 ?c2 ?c3 ?c4 ?c5 ?_))
        case c1 =>
          intro q u hq
          match q with
          | 0 => simp at hq; subst hq; simp [Addr.add, go_sem]
          | q + 1 => simp at hq
        case c2 => intro u hu; simp at hu; subst hu; rfl
        case c3 => unfold maxLen; omega
        case c4 => omega
        case c5 => simp; omega
        intro v' w2 hown' hgrow _
        have hs := HB1.out.size
        have hb2 : Below w0.heap.size w0 w2 := (HB1.out.alloc (by omega) _).grown hgrow (by simp; omega) fun g hg' => (hown1.lt g hg').1
        have hown2 : w2.ownsRow w0.heap.size 3 1 v' (j + 1) ((l.take (j + 1)).map fun t => .int .i64 (ty t).1) := by
          rw [HTk.out]
          first | exact hown' | (rw [List.map_take]; exact hown')
        have HO2 := Lib.hid hown2
        clear hown' hown1 hown2 hgrow
        go_wp2_with (fail)
        go_roundw
        case rel => exact ⟨j + 1, by omega, by go_num, hb2, HG2, HO2.out⟩
        case measure => simp [intOf]; omega
      · have hR := HBad.out hte
        subst hR
        have q0 : (te == 0) = false := by simp [hte]
        clear HBad HG1 HTk hte
        go_wp2_with (go_at_call 66; refine (HRy.out _ M' _ (HT'.out.below ((Below.refl _ _).alloc (Nat.le_refl _) _)) ((HX.out.below).alloc (HX.out.below.size) _)).mono ?_; rintro e w1 ⟨rfl, hb1⟩; have HB1 : Hid (Below w0.heap.size w0 w1) := (hb.alloc hbs _).trans (hb1.mono (by simp; omega)); clear hb1)
        go_ret2
        exact ⟨rfl, HW.out.below.trans (HB1.out.mono (HW.out.below.size))⟩
    · obtain rfl : p = j := by omega
      have hall : l.take p = l := List.take_of_length_le (by rw [HL.out]; exact Nat.le_refl _)
      rw [hall] at hown HG
      have hR := partsI_good (op := op.toList) (ty := ty) HG.out
      rw [HRR.out] at hR
      rw [← hR] at HO
      have HOw : Hid (wr.ownsRow w.heap.size 3 1 _ p (l.map fun t => .int .i64 (ty t).1)) := own_mono hown HW.out.below.size
      clear hall HG HRR hR
      rcases hown.2 with ⟨_, h0⟩ | ⟨g, cap, cur, rfl, _, _, _, _, _, _⟩
      · omega
      clear hown
      go_wp2_with (go_at_call 105; refine (HO.out g cap wr HOw.out).mono ?_; rintro e w1 ⟨rfl, hb1⟩; have HB1 := Lib.hid hb1; clear hb1)
      go_ret2
      exact ⟨rfl, HX.out.below.trans (HB1.out.mono (HX.out.below.size))⟩
end Go.Proofs.YtmhkmliebhbkdaaGreat

/- The type of any expression that may be: typ_any; expr.Type: etype_any. -/
namespace Go.Proofs.YtmhkmliebhbkdaaGreat
open Go.RowKit Go.Lib

theorem typF_lit {cols : List Cl} {n : Nat} {t : Ex} (h : t.op.toList = [108, 105, 116]) : typF cols (n + 1) t = (t.x.k, 0) := by
  conv => lhs; unfold typF
  rw [if_pos h]
theorem typF_col {cols : List Cl} {n : Nat} {t : Ex} (h : t.op.toList = [99, 111, 108]) : typF cols (n + 1) t = colTy cols t.s := by
  conv => lhs; unfold typF
  rw [if_neg (by rw [h]; decide), if_pos h]
theorem typF_op {cols : List Cl} {n : Nat} {t : Ex} {o : List UInt8} (h : t.op.toList = o) (h1 : o ≠ [108, 105, 116]) (h2 : o ≠ [99, 111, 108]) : typF cols (n + 1) t = partsI o (t.l.map (typF cols n)) := by
  conv => lhs; unfold typF
  rw [if_neg (by rw [h]; exact h1), if_neg (by rw [h]; exact h2), h]

theorem own_i1 {W : World} {B g cap : Nat} {x : Int} (h : W.ownsRow B 3 1 (.slice (some ⟨g, 0, none⟩) 1 cap) 1 [.int .i64 x]) : ∀ j (h : j < [x].length), ∃ a, (some ⟨g, 0, none⟩ : Option Addr) = some a ∧ W.cell? (a.add (j * 1)) = some (.int .i64 [x][j]) := by
  intro j hj
  match j, hj with
  | 0, _ => exact ⟨_, rfl, h.cellAt 0 (by omega)⟩
theorem own_i2 {W : World} {B g cap : Nat} {x y : Int} (h : W.ownsRow B 3 1 (.slice (some ⟨g, 0, none⟩) 2 cap) 2 [.int .i64 x, .int .i64 y]) : ∀ j (h : j < [x, y].length), ∃ a, (some ⟨g, 0, none⟩ : Option Addr) = some a ∧ W.cell? (a.add (j * 1)) = some (.int .i64 [x, y][j]) := by
  intro j hj
  match j, hj with
  | 0, _ => exact ⟨_, rfl, h.cellAt 0 (by omega)⟩
  | 1, _ => exact ⟨_, rfl, h.cellAt 1 (by omega)⟩

theorem typ_parts_o {o : List UInt8} (op : ByteArray) (ho : op.toList = o) (k i : Int) (vs s : ByteArray) (B : Option Addr) (p d : Nat) (hp : p ≤ 1000) (hp1 : 1 ≤ p) (l : List Ex) (ty : Ex → Int × Int) (A : Option Addr) (n c : Nat) (P : Nat → Prop) (M : Nat) (w : World)
    (h1 : (o == [108, 105, 116]) = false) (h2 : (o == [99, 111, 108]) = false) (hS : Sl w P M l (.slice B p d)) (hl : l.length = p)
    (hrec : ∀ (t : Ex) (u : Value) (M : Nat) (W : World), t ∈ l → Tr W P M t u → Below w.heap.size w W → Calls Tryz.prog 66 #[EVt t u, .slice A n c] W fun e w' => e = .returned (.tuple #[.int .i64 (ty t).1, .int .i64 (ty t).2]) ∧ Below W.heap.size W w')
    (hdo : ∀ (g cap : Nat) (W : World), W.ownsRow w.heap.size 3 1 (.slice (some ⟨g, 0, none⟩) p cap) p (l.map fun t => .int .i64 (ty t).1) → Calls Tryz.prog 105 #[.string op, .slice (some ⟨g, 0, none⟩) p cap] W fun e w' => e = .returned (.tuple #[.int .i64 (madeI o (l.map fun t => (ty t).1)).1, .int .i64 (madeI o (l.map fun t => (ty t).1)).2]) ∧ Below W.heap.size W w') :
    Calls Tryz.prog 66 #[.agg #[.string op, .int .i64 k, .int .i64 i, .string vs, .string s, .slice B p d], .slice A n c] w fun e w' => e = .returned (.tuple #[.int .i64 (partsI o (l.map ty)).1, .int .i64 (partsI o (l.map ty)).2]) ∧ Below w.heap.size w w' := by
  subst ho
  exact typ_parts_all op k i vs s B p d hp hp1 l ty A n c P M w h1 h2 hS hl hrec hdo

set_option maxHeartbeats 1600000 in
theorem typ_any (A : Option Addr) (n c : Nat) (cols : List Cl) (P : Nat → Prop) : ∀ (d : Nat) (t : Ex) (u : Value) (N : Nat) (w : World), wfF d t → Tr w P N t u → ColS w A n cols →
    Calls Tryz.prog 66 #[EVt t u, .slice A n c] w fun e w' => e = .returned (.tuple #[.int .i64 (typF cols d t).1, .int .i64 (typF cols d t).2]) ∧ Below w.heap.size w w'
  | 0, _, _, _, _, h, _, _ => h.elim
  | d + 1, t, u, N, w, ⟨hf, hp⟩, ht, hc => by
    have hrec : ∀ (y : Ex) (u : Value) (M : Nat) (W : World), y ∈ t.l → Tr W P M y u → Below w.heap.size w W → Calls Tryz.prog 66 #[EVt y u, .slice A n c] W fun e w' => e = .returned (.tuple #[.int .i64 (typF cols d y).1, .int .i64 (typF cols d y).2]) ∧ Below W.heap.size W w' :=
      fun y u M W hy hT hb => typ_any A n c cols P d y u M W (hp y hy) hT (hc.below hb)
    obtain ⟨B, q, rfl, _⟩ := ht.form
    have hS := ht.2
    cases t with
    | mk op x s l =>
    obtain ⟨k, i, vs⟩ := x
    unfold EVt
    simp only [Ex.op, Ex.x, Ex.s, Ex.l] at hrec hS ⊢
    have hf' : fmB op k i vs s l.length = true := hf
    clear hf hp ht
    rcases fm_cases hf' with h | h | ⟨hn, h⟩ | ⟨hn, h⟩
    · obtain rfl := bytes_of h
      rw [typF_lit (show (Ex.mk _ ⟨k, i, vs⟩ s l).op.toList = _ from h)]
      exact typ_lit k i vs s B l.length q A n c w
    · obtain rfl := bytes_of h
      rw [typF_col (show (Ex.mk _ ⟨k, i, vs⟩ s l).op.toList = _ from h)]
      exact typ_col_all k i vs s B l.length q A n c cols w hc
    · obtain ⟨y, rfl⟩ := len_one hn
      rcases h with h | h
      · have e := bytes_of h
        rw [typF_op (show (Ex.mk op ⟨k, i, vs⟩ s [y]).op.toList = _ from h) (by decide) (by decide)]
        subst e
        refine typ_parts_o _ h k i vs s B 1 q (by omega) (by omega) [y] (typF cols d) A n c P N w (by decide) (by decide) hS rfl hrec fun g cap W hown => ?_
        exact made_not _ 1 cap _ W (by omega) rfl (own_i1 hown)
      · have e := bytes_of h
        rw [typF_op (show (Ex.mk op ⟨k, i, vs⟩ s [y]).op.toList = _ from h) (by decide) (by decide)]
        subst e
        refine typ_parts_o _ h k i vs s B 1 q (by omega) (by omega) [y] (typF cols d) A n c P N w (by decide) (by decide) hS rfl hrec fun g cap W hown => ?_
        exact made_null _ _ _ _ W
    · obtain ⟨y, z, rfl⟩ := len_two hn
      rcases h with h | h | h | h | h | h
      · have e := bytes_of h
        rw [typF_op (show (Ex.mk op ⟨k, i, vs⟩ s [y, z]).op.toList = _ from h) (by decide) (by decide)]
        subst e
        refine typ_parts_o _ h k i vs s B 2 q (by omega) (by omega) [y, z] (typF cols d) A n c P N w (by decide) (by decide) hS rfl hrec fun g cap W hown => ?_
        exact made_and _ 2 cap _ W (by omega) rfl (own_i2 hown)
      · have e := bytes_of h
        rw [typF_op (show (Ex.mk op ⟨k, i, vs⟩ s [y, z]).op.toList = _ from h) (by decide) (by decide)]
        subst e
        refine typ_parts_o _ h k i vs s B 2 q (by omega) (by omega) [y, z] (typF cols d) A n c P N w (by decide) (by decide) hS rfl hrec fun g cap W hown => ?_
        exact made_or _ 2 cap _ W (by omega) rfl (own_i2 hown)
      · have e := bytes_of h
        rw [typF_op (show (Ex.mk op ⟨k, i, vs⟩ s [y, z]).op.toList = _ from h) (by decide) (by decide)]
        subst e
        refine typ_parts_o _ h k i vs s B 2 q (by omega) (by omega) [y, z] (typF cols d) A n c P N w (by decide) (by decide) hS rfl hrec fun g cap W hown => ?_
        exact made_eq ⟨g, 0, none⟩ cap _ _ W (hown.cellAt 0 (by omega)) (hown.cellAt 1 (by omega))
      · have e := bytes_of h
        rw [typF_op (show (Ex.mk op ⟨k, i, vs⟩ s [y, z]).op.toList = _ from h) (by decide) (by decide)]
        subst e
        refine typ_parts_o _ h k i vs s B 2 q (by omega) (by omega) [y, z] (typF cols d) A n c P N w (by decide) (by decide) hS rfl hrec fun g cap W hown => ?_
        exact made_less ⟨g, 0, none⟩ cap _ _ W (hown.cellAt 0 (by omega)) (hown.cellAt 1 (by omega))
      · have e := bytes_of h
        rw [typF_op (show (Ex.mk op ⟨k, i, vs⟩ s [y, z]).op.toList = _ from h) (by decide) (by decide)]
        subst e
        refine typ_parts_o _ h k i vs s B 2 q (by omega) (by omega) [y, z] (typF cols d) A n c P N w (by decide) (by decide) hS rfl hrec fun g cap W hown => ?_
        exact made_plus _ 2 cap _ W (by omega) rfl (own_i2 hown)
      · have e := bytes_of h
        rw [typF_op (show (Ex.mk op ⟨k, i, vs⟩ s [y, z]).op.toList = _ from h) (by decide) (by decide)]
        subst e
        refine typ_parts_o _ h k i vs s B 2 q (by omega) (by omega) [y, z] (typF cols d) A n c P N w (by decide) (by decide) hS rfl hrec fun g cap W hown => ?_
        exact made_minus _ 2 cap _ W (by omega) rfl (own_i2 hown)

/-- An expression's type. -/
def typT (cols : List Cl) (t : Ex) : Int × Int := if mayT t = true then typF cols 12 t else (0, 1)

set_option maxRecDepth 100000 in
set_option maxHeartbeats 4000000 in
theorem etype_any (A : Option Addr) (n c : Nat) (cols : List Cl) (P : Nat → Prop) (N : Nat) (t : Ex) (u : Value) (w : World) (ht : Tr w P N t u) (hc : ColS w A n cols) :
    Calls Tryz.prog 32 #[EVt t u, .slice A n c] w fun e w' => e = .returned (.tuple #[.int .i64 (typT cols t).1, .int .i64 (typT cols t).2]) ∧ Below w.heap.size w w' := by
  have HT := Lib.hid ht
  have HC := Lib.hid hc
  have HM := Lib.hid (fun W h => emay_any P N t u W h)
  have HW := Lib.hid (fun h W h1 h2 => typ_any A n c cols P 12 t u N W (wf_may h) h1 h2)
  unfold typT
  obtain ⟨B, q, rfl, hn⟩ := ht.form
  obtain ⟨p, HN⟩ : ∃ p, Hid (t.l.length = p) := ⟨_, Lib.hid rfl⟩
  clear ht hc
  unfold EVt at HM HW ⊢
  rw [HN.out] at hn HM HT HW ⊢
  cases hm : mayT t with
  | false =>
    have HF := Lib.hid hm
    rw [if_neg (by decide)]
    clear hm HW
    go_enter Tryz.func32, Tryz.ntmps32
    go_wp2_with (go_at_call 65; refine (HM.out _ (HT.out.below ((Below.refl _ _).alloc (Nat.le_refl _) _))).mono ?_; rintro e w1 ⟨rfl, hb1⟩; rw [HF.out]; have HB1 : Hid (Below w.heap.size w w1) := ((Below.refl _ _).alloc (Nat.le_refl _) _).trans (hb1.mono (by simp)); clear hb1)
    go_ret2
    exact ⟨rfl, HB1.out⟩
  | true =>
    have HF := Lib.hid hm
    have HV := Lib.hid (HW.out hm)
    rw [if_pos rfl]
    clear hm HW
    generalize typF cols 12 t = R at HV ⊢
    go_enter Tryz.func32, Tryz.ntmps32
    go_wp2_with (first
      | (go_at_call 65; refine (HM.out _ (HT.out.below ((Below.refl _ _).alloc (Nat.le_refl _) _))).mono ?_; rintro e w1 ⟨rfl, hb1⟩; rw [HF.out]; have HB1 : Hid (Below w.heap.size w w1) := ((Below.refl _ _).alloc (Nat.le_refl _) _).trans (hb1.mono (by simp)); have hc1 := (bcell hb1).1; have hf1 := (bcell hb1).2; have hy1 := hb1.size; (try simp at hy1); have hz1_0 : w.heap.size < w1.heap.size := (by omega))
      | (go_at_call 66; refine (HV.out _ (HT.out.below HB1.out) (HC.out.below HB1.out)).mono ?_; rintro e w2 ⟨rfl, hb2⟩; have HB2 : Hid (Below w.heap.size w w2) := HB1.out.trans (hb2.mono HB1.out.size); clear hb2))
    go_ret2
    exact ⟨rfl, HB2.out⟩
end Go.Proofs.YtmhkmliebhbkdaaGreat

/- Tables: what may be a name, a column, a place; the first that is not so. -/
namespace Go.Proofs.YtmhkmliebhbkdaaGreat
open Go.RowKit Go.Lib

structure Rf where
  c : Int
  t : ByteArray
structure RfAt (W : World) (a : Addr) (r : Rf) : Prop where
  c0 : W.cell? a = some (.int .i64 r.c)
  c1 : W.cell? ⟨a.block, a.off + 1, none⟩ = some (.string r.t)
theorem RfAt.lt {W : World} {a : Addr} {r : Rf} (h : RfAt W a r) : a.block < W.heap.size := World.block_lt_of_cell? W _ h.c0
theorem RfAt.keep {W W' : World} {a : Addr} {r : Rf} (h : RfAt W a r) (hb : W'.heap[a.block]? = W.heap[a.block]?) : RfAt W' a r :=
  ⟨(World.cell?_of_block (w := W) (a := a) hb).trans h.c0, (World.cell?_of_block (w := W) (a := ⟨a.block, _, none⟩) hb).trans h.c1⟩
def RfS (W : World) (A : Option Addr) (n : Nat) (l : List Rf) : Prop := l.length = n ∧ n ≤ maxLen ∧ ∀ j (h : j < l.length), ∃ a, A = some a ∧ RfAt W (a.add (j * 2)) l[j]
theorem RfS.below {W W' : World} {A : Option Addr} {n : Nat} {l : List Rf} (h : RfS W A n l) (hb : Below W.heap.size W W') : RfS W' A n l :=
  ⟨h.1, h.2.1, fun j hj => by obtain ⟨a, e, hc⟩ := h.2.2 j hj; exact ⟨a, e, hc.keep (hb.block _ hc.lt)⟩⟩
def IntS (W : World) (A : Option Addr) (n : Nat) (l : List Int) : Prop := l.length = n ∧ n ≤ maxLen ∧ ∀ j (h : j < l.length), ∃ a, A = some a ∧ W.cell? (a.add (j * 1)) = some (.int .i64 l[j])
theorem IntS.below {W W' : World} {A : Option Addr} {n : Nat} {l : List Int} (h : IntS W A n l) (hb : Below W.heap.size W W') : IntS W' A n l :=
  ⟨h.1, h.2.1, fun j hj => by obtain ⟨a, e, hc⟩ := h.2.2 j hj; exact ⟨a, e, (hb.cell (World.block_lt_of_cell? W _ hc)).trans hc⟩⟩

/-- Where the first is of which p says yes; -1. -/
def idxP {α : Type} (f : α → Bool) : List α → Int → Int
  | [], _ => -1
  | t :: r, k => if f t = true then k else idxP f r (k + 1)
theorem idxP_any {α : Type} (f : α → Bool) : ∀ (l : List α) (k : Int), 0 ≤ k → decide (0 ≤ idxP f l k) = l.any f
  | [], k, _ => by simp [idxP]
  | t :: r, k, hk => by
    rw [idxP]
    cases h : f t with
    | true => simp [h, hk]
    | false => simp [h, idxP_any f r (k + 1) (by omega)]

/-- May this be a name? -/
def colB (s : ByteArray) : Bool := mayT (.mk ⟨#[99, 111, 108]⟩ nulV s [])
set_option maxRecDepth 100000 in
set_option maxHeartbeats 4000000 in
theorem tnamed_any (s : ByteArray) (hs : s.size ≤ 100000) (w : World) : Calls Tryz.prog 55 #[.string s] w fun e w' => e = .returned (.bool (colB s)) ∧ Below w.heap.size w w' := by
  have HM := Lib.hid (fun W => emay_any (fun _ => True) 0 (.mk ⟨#[99, 111, 108]⟩ nulV s []) (.slice none 0 0) W ⟨hs, rfl, none, 0, rfl⟩)
  unfold colB
  generalize mayT (.mk ⟨#[99, 111, 108]⟩ nulV s []) = z at HM ⊢
  go_enter Tryz.func55, Tryz.ntmps55
  go_wp2_with (go_at_call 65; refine (HM.out _).mono ?_; rintro e w1 ⟨rfl, hb1⟩)
  go_ret
  exact ⟨rfl, hb1⟩

/-- May this not be a column? -/
def unfitB (x : Cl) : Bool := !colB x.n || (decide (x.t < 1) || decide (x.t > 3))
set_option maxRecDepth 100000 in
set_option maxHeartbeats 4000000 in
theorem unfit_any (y : Cl) (hs : y.n.size ≤ 100000) (w : World) : Calls Tryz.prog 88 #[(.agg #[.string y.n, .int .i64 y.t, .bool y.b])] w fun e w' => e = .returned (.bool (unfitB y)) ∧ Below w.heap.size w w' := by
  obtain ⟨n, t, b⟩ := y
  have HN := Lib.hid (fun W => tnamed_any n hs W)
  unfold unfitB
  dsimp only at HN ⊢
  clear hs
  generalize colB n = z at HN ⊢
  cases z with
  | false =>
    rw [Bool.not_false, Bool.true_or]
    go_enter Tryz.func88, Tryz.ntmps88
    go_wp2_with (go_at_call 55; refine (HN.out _).mono ?_; rintro e w1 ⟨rfl, hb1⟩; have HB1 : Hid (Below w.heap.size w w1) := ((Below.refl _ _).alloc (Nat.le_refl _) _).trans (hb1.mono (by simp)); have hc1 := (bcell hb1).1; have hf1 := (bcell hb1).2; have hy1 := hb1.size; (try simp at hy1); have hz1_0 : w.heap.size < w1.heap.size := (by omega))
    go_ret
    exact ⟨rfl, HB1.out⟩
  | true =>
    rw [Bool.not_true, Bool.false_or]
    by_cases h1 : t < 1
    · have d1 : decide (t < 1) = true := decide_eq_true h1
      rw [d1, Bool.true_or]
      go_enter Tryz.func88, Tryz.ntmps88
      go_wp2_with (go_at_call 55; refine (HN.out _).mono ?_; rintro e w1 ⟨rfl, hb1⟩; have HB1 : Hid (Below w.heap.size w w1) := ((Below.refl _ _).alloc (Nat.le_refl _) _).trans (hb1.mono (by simp)); have hc1 := (bcell hb1).1; have hf1 := (bcell hb1).2; have hy1 := hb1.size; (try simp at hy1); have hz1_0 : w.heap.size < w1.heap.size := (by omega))
      go_ret
      exact ⟨rfl, HB1.out⟩
    · have d1 : decide (t < 1) = false := decide_eq_false h1
      rw [d1, Bool.false_or]
      have d2 : decide (t > 3) = decide (3 < t) := rfl
      rw [d2]
      clear h1 d2
      generalize hz : decide (3 < t) = z
      go_enter Tryz.func88, Tryz.ntmps88
      go_wp2_with (go_at_call 55; refine (HN.out _).mono ?_; rintro e w1 ⟨rfl, hb1⟩; have HB1 : Hid (Below w.heap.size w w1) := ((Below.refl _ _).alloc (Nat.le_refl _) _).trans (hb1.mono (by simp)); have hc1 := (bcell hb1).1; have hf1 := (bcell hb1).2; have hy1 := hb1.size; (try simp at hy1); have hz1_0 : w.heap.size < w1.heap.size := (by omega))
      go_ret
      exact ⟨by first | rfl | rw [hz], HB1.out⟩

set_option maxRecDepth 100000 in
set_option maxHeartbeats 4000000 in
theorem has_any (nm : ByteArray) (A : Option Addr) (n c : Nat) (key : Int) (U : Option Addr) (m cu : Nat) (R : Option Addr) (p cr : Nat) (op : ByteArray) (k i : Int) (vs s : ByteArray) (B : Option Addr) (q d : Nat) (x : Int) (w : World) : Calls Tryz.prog 90 #[.agg #[.string nm, .slice A n c, .int .i64 key, .slice U m cu, .slice R p cr, .string op, .int .i64 k, .int .i64 i, .string vs, .string s, .slice B q d], .int .i64 x] w fun e w' => e = .returned (.bool (decide (0 ≤ x) && decide (x < n))) ∧ Below w.heap.size w w' := by
  by_cases h1 : 0 ≤ x
  · have d1 : decide (0 ≤ x) = true := decide_eq_true h1
    rw [d1, Bool.true_and]
    clear h1
    generalize hz : decide (x < n) = z
    go_enter Tryz.func90, Tryz.ntmps90
    go_wp2_with (fail)
    go_ret
    exact ⟨by first | rfl | rw [hz], (Below.refl _ _).alloc (Nat.le_refl _) _⟩
  · have d1 : decide (0 ≤ x) = false := decide_eq_false h1
    rw [d1, Bool.false_and]
    clear h1
    go_enter Tryz.func90, Tryz.ntmps90
    go_wp2_with (fail)
    go_ret
    exact ⟨rfl, (Below.refl _ _).alloc (Nat.le_refl _) _⟩

set_option maxRecDepth 100000 in
set_option maxHeartbeats 4000000 in
theorem twice1_any (y : Cl) (b : Nat) (x : Cl) (w : World) (hb : ClAt w ⟨b, 0, none⟩ x) : Calls Tryz.prog 131 #[(.agg #[.string y.n, .int .i64 y.t, .bool y.b]), .pointer (some ⟨b, 0, none⟩)] w fun e w' => e = .returned (.bool (y.n.toList == x.n.toList)) ∧ Below w.heap.size w w' := by
  have hbl := hb.lt
  have c0 := hb.c0
  clear hb
  go_enter Tryz.func131, Tryz.ntmps131
  go_wp2_with (fail)
  go_ret
  exact ⟨rfl, (Below.refl _ _).alloc (Nat.le_refl _) _⟩
end Go.Proofs.YtmhkmliebhbkdaaGreat
