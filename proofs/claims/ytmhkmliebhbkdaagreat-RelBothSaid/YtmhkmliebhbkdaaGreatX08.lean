import Derived.Test.YtmhkmliebhbkdaaGreatX07

/- What each Op does with the values of its parts. -/
namespace Go.Proofs.YtmhkmliebhbkdaaGreat
open Go.RowKit Go.Lib

def nulV : Vl := ⟨0, 0, ⟨#[]⟩⟩
def triV (m : Int) : Vl := ⟨triK m, triI m, ⟨#[]⟩⟩
def notV (x : Vl) : Vl := triV (2 - saysN x.k x.i x.s)
def isnV (x : Vl) : Vl := ⟨3, b2i (hK x.k x.i x.s == 0), ⟨#[]⟩⟩
def andV (x y : Vl) : Vl := triV (minN (saysN x.k x.i x.s) (saysN y.k y.i y.s))
def orV (x y : Vl) : Vl := triV (maxN (saysN x.k x.i x.s) (saysN y.k y.i y.s))
def eqV (x y : Vl) : Vl := if alikeB x.k x.i x.s y.k y.i y.s = true then ⟨3, b2i (ordN x.k x.i x.s y.k y.i y.s == 0), ⟨#[]⟩⟩ else nulV
def lessV (x y : Vl) : Vl := if alikeB x.k x.i x.s y.k y.i y.s = true then ⟨3, b2i (decide (ordN x.k x.i x.s y.k y.i y.s < 0)), ⟨#[]⟩⟩ else nulV
def plusV (x y : Vl) : Vl := if numsB x.k x.i x.s y.k y.i y.s = true then (if badPlus x.i y.i = true then nulV else ⟨1, wrap64 (x.i + y.i), ⟨#[]⟩⟩) else nulV
def minusV (x y : Vl) : Vl := if numsB x.k x.i x.s y.k y.i y.s = true then (if badMinus x.i y.i = true then nulV else ⟨1, wrap64 (x.i - y.i), ⟨#[]⟩⟩) else nulV

theorem vnot (x : Vl) (w : World) :
    Calls Tryz.prog 107 #[.agg #[.int .i64 x.k, .int .i64 x.i, .string x.s]] w fun e w' => e = .returned (.agg #[.int .i64 (notV x).k, .int .i64 (notV x).i, .string (notV x).s]) ∧ Below w.heap.size w w' := by
  exact not_any _ _ _ _
theorem visn (x : Vl) (w : World) :
    Calls Tryz.prog 108 #[.agg #[.int .i64 x.k, .int .i64 x.i, .string x.s]] w fun e w' => e = .returned (.agg #[.int .i64 (isnV x).k, .int .i64 (isnV x).i, .string (isnV x).s]) ∧ Below w.heap.size w w' := by
  exact isNull_any _ _ _ _
theorem vand (x y : Vl) (w : World) :
    Calls Tryz.prog 110 #[.agg #[.int .i64 x.k, .int .i64 x.i, .string x.s], .agg #[.int .i64 y.k, .int .i64 y.i, .string y.s]] w fun e w' => e = .returned (.agg #[.int .i64 (andV x y).k, .int .i64 (andV x y).i, .string (andV x y).s]) ∧ Below w.heap.size w w' := by
  exact and_any _ _ _ _ _ _ _
theorem vor (x y : Vl) (w : World) :
    Calls Tryz.prog 111 #[.agg #[.int .i64 x.k, .int .i64 x.i, .string x.s], .agg #[.int .i64 y.k, .int .i64 y.i, .string y.s]] w fun e w' => e = .returned (.agg #[.int .i64 (orV x y).k, .int .i64 (orV x y).i, .string (orV x y).s]) ∧ Below w.heap.size w w' := by
  exact or_any _ _ _ _ _ _ _
theorem veq (x y : Vl) (w : World) :
    Calls Tryz.prog 112 #[.agg #[.int .i64 x.k, .int .i64 x.i, .string x.s], .agg #[.int .i64 y.k, .int .i64 y.i, .string y.s]] w fun e w' => e = .returned (.agg #[.int .i64 (eqV x y).k, .int .i64 (eqV x y).i, .string (eqV x y).s]) ∧ Below w.heap.size w w' := by
  unfold eqV
  cases h : alikeB x.k x.i x.s y.k y.i y.s with
  | true => rw [if_pos rfl]; exact equal_yes _ _ _ _ _ _ _ h
  | false => rw [if_neg (by decide)]; exact equal_no _ _ _ _ _ _ _ h
theorem vless (x y : Vl) (w : World) :
    Calls Tryz.prog 113 #[.agg #[.int .i64 x.k, .int .i64 x.i, .string x.s], .agg #[.int .i64 y.k, .int .i64 y.i, .string y.s]] w fun e w' => e = .returned (.agg #[.int .i64 (lessV x y).k, .int .i64 (lessV x y).i, .string (lessV x y).s]) ∧ Below w.heap.size w w' := by
  unfold lessV
  cases h : alikeB x.k x.i x.s y.k y.i y.s with
  | true => rw [if_pos rfl]; exact less_yes _ _ _ _ _ _ _ h
  | false => rw [if_neg (by decide)]; exact less_no _ _ _ _ _ _ _ h
theorem vplus (x y : Vl) (w : World) :
    Calls Tryz.prog 114 #[.agg #[.int .i64 x.k, .int .i64 x.i, .string x.s], .agg #[.int .i64 y.k, .int .i64 y.i, .string y.s]] w fun e w' => e = .returned (.agg #[.int .i64 (plusV x y).k, .int .i64 (plusV x y).i, .string (plusV x y).s]) ∧ Below w.heap.size w w' := by
  unfold plusV
  cases h : numsB x.k x.i x.s y.k y.i y.s with
  | true =>
    rw [if_pos rfl]
    cases hb : badPlus x.i y.i with
    | true => rw [if_pos rfl]; exact plus_bad _ _ _ _ _ _ _ h hb
    | false => rw [if_neg (by decide)]; exact plus_yes _ _ _ _ _ _ _ h hb
  | false => rw [if_neg (by decide)]; exact plus_no _ _ _ _ _ _ _ h
theorem vminus (x y : Vl) (w : World) :
    Calls Tryz.prog 115 #[.agg #[.int .i64 x.k, .int .i64 x.i, .string x.s], .agg #[.int .i64 y.k, .int .i64 y.i, .string y.s]] w fun e w' => e = .returned (.agg #[.int .i64 (minusV x y).k, .int .i64 (minusV x y).i, .string (minusV x y).s]) ∧ Below w.heap.size w w' := by
  unfold minusV
  cases h : numsB x.k x.i x.s y.k y.i y.s with
  | true =>
    rw [if_pos rfl]
    cases hb : badMinus x.i y.i with
    | true => rw [if_pos rfl]; exact minus_bad _ _ _ _ _ _ _ h hb
    | false => rw [if_neg (by decide)]; exact minus_yes _ _ _ _ _ _ _ h hb
  | false => rw [if_neg (by decide)]; exact minus_no _ _ _ _ _ _ _ h

set_option maxRecDepth 100000 in
set_option maxHeartbeats 1600000 in
theorem does_0 (g n c : Nat) (x : Vl) (b : Nat) (w : World) (hn : 1 ≤ n) (hb : w.cell? ⟨b, 0, none⟩ = some (.func (.func 107) #[] #[])) (h0 : w.cell? ⟨g, 0, none⟩ = some (.int .i64 x.k)) (h1 : w.cell? ⟨g, 1, none⟩ = some (.int .i64 x.i)) (h2 : w.cell? ⟨g, 2, none⟩ = some (.string x.s)) :
    Calls Tryz.prog 143 #[.slice (some ⟨g, 0, none⟩) n c, .pointer (some ⟨b, 0, none⟩)] w fun e w' => e = .returned (.agg #[.int .i64 (notV x).k, .int .i64 (notV x).i, .string (notV x).s]) ∧ Below w.heap.size w w' := by
  have d0 : 0 < n := by omega
  have hgl := World.block_lt_of_cell? w _ h0
  have hbl := World.block_lt_of_cell? w _ hb
  have HV : Hid (∀ w, Calls Tryz.prog 107 #[.agg #[.int .i64 x.k, .int .i64 x.i, .string x.s]] w fun e w' => e = .returned (.agg #[.int .i64 (notV x).k, .int .i64 (notV x).i, .string (notV x).s]) ∧ Below w.heap.size w w') := vnot x
  generalize notV x = R at HV ⊢
  go_enter Tryz.func143, Tryz.ntmps143
  go_wp2
  refine detL_begin [.val (.func (.func 107) #[] #[]), .val (.slice (some ⟨g, 0, none⟩) n c), .val (.pointer (some ⟨g, 0, none⟩)), .val (.agg #[.int .i64 x.k, .int .i64 x.i, .string x.s]), .val (.agg #[.int .i64 R.k, .int .i64 R.i, .string R.s])] 5 (by kernel_rfl) ?_
  repeat
    (refine detL_val (by kernel_rfl) (yields_of rfl fun w1 hb1 => ?_) ?_
     · have hc1 := bcellD hb1
       clear hb1
       go_simp
       with_reducible first
         | exact Det1_same
         | exact Det1_enter (HV.out _)
     simp only [Act.put, List.setIfInBounds_toArray, List.set_cons_zero, List.set_cons_succ])
  refine detL_tail rfl (by kernel_rfl) fun w1 hw1 => ?_
  have hc1 := (bcell hw1.below).1
  have hf1 := (bcell hw1.below).2
  have hz1 : w.heap.size < w1.heap.size := by have := hw1.below.size; simp at this; omega
  go_wp2
  exact bodyPost_ret (v := .agg #[.int .i64 R.k, .int .i64 R.i, .string R.s]) (by simp [results, Tryz.results143, go_sem, hc1, hf1, hz1]) rfl ⟨rfl, bSet3 (((Below.refl _ _).alloc (Nat.le_refl _) _).drew.trans (hw1.below.mono (by simp))) (by omega) _ _ _⟩

set_option maxRecDepth 100000 in
set_option maxHeartbeats 1600000 in
theorem does_1 (g n c : Nat) (x : Vl) (b : Nat) (w : World) (hn : 1 ≤ n) (hb : w.cell? ⟨b, 0, none⟩ = some (.func (.func 108) #[] #[])) (h0 : w.cell? ⟨g, 0, none⟩ = some (.int .i64 x.k)) (h1 : w.cell? ⟨g, 1, none⟩ = some (.int .i64 x.i)) (h2 : w.cell? ⟨g, 2, none⟩ = some (.string x.s)) :
    Calls Tryz.prog 143 #[.slice (some ⟨g, 0, none⟩) n c, .pointer (some ⟨b, 0, none⟩)] w fun e w' => e = .returned (.agg #[.int .i64 (isnV x).k, .int .i64 (isnV x).i, .string (isnV x).s]) ∧ Below w.heap.size w w' := by
  have d0 : 0 < n := by omega
  have hgl := World.block_lt_of_cell? w _ h0
  have hbl := World.block_lt_of_cell? w _ hb
  have HV : Hid (∀ w, Calls Tryz.prog 108 #[.agg #[.int .i64 x.k, .int .i64 x.i, .string x.s]] w fun e w' => e = .returned (.agg #[.int .i64 (isnV x).k, .int .i64 (isnV x).i, .string (isnV x).s]) ∧ Below w.heap.size w w') := visn x
  generalize isnV x = R at HV ⊢
  go_enter Tryz.func143, Tryz.ntmps143
  go_wp2
  refine detL_begin [.val (.func (.func 108) #[] #[]), .val (.slice (some ⟨g, 0, none⟩) n c), .val (.pointer (some ⟨g, 0, none⟩)), .val (.agg #[.int .i64 x.k, .int .i64 x.i, .string x.s]), .val (.agg #[.int .i64 R.k, .int .i64 R.i, .string R.s])] 5 (by kernel_rfl) ?_
  repeat
    (refine detL_val (by kernel_rfl) (yields_of rfl fun w1 hb1 => ?_) ?_
     · have hc1 := bcellD hb1
       clear hb1
       go_simp
       with_reducible first
         | exact Det1_same
         | exact Det1_enter (HV.out _)
     simp only [Act.put, List.setIfInBounds_toArray, List.set_cons_zero, List.set_cons_succ])
  refine detL_tail rfl (by kernel_rfl) fun w1 hw1 => ?_
  have hc1 := (bcell hw1.below).1
  have hf1 := (bcell hw1.below).2
  have hz1 : w.heap.size < w1.heap.size := by have := hw1.below.size; simp at this; omega
  go_wp2
  exact bodyPost_ret (v := .agg #[.int .i64 R.k, .int .i64 R.i, .string R.s]) (by simp [results, Tryz.results143, go_sem, hc1, hf1, hz1]) rfl ⟨rfl, bSet3 (((Below.refl _ _).alloc (Nat.le_refl _) _).drew.trans (hw1.below.mono (by simp))) (by omega) _ _ _⟩

set_option maxRecDepth 100000 in
set_option maxHeartbeats 1600000 in
theorem does_2 (g n c : Nat) (x y : Vl) (b : Nat) (w : World) (hn : 2 ≤ n) (hb : w.cell? ⟨b, 0, none⟩ = some (.func (.func 110) #[] #[])) (h0 : w.cell? ⟨g, 0, none⟩ = some (.int .i64 x.k)) (h1 : w.cell? ⟨g, 1, none⟩ = some (.int .i64 x.i)) (h2 : w.cell? ⟨g, 2, none⟩ = some (.string x.s)) (h3 : w.cell? ⟨g, 3, none⟩ = some (.int .i64 y.k)) (h4 : w.cell? ⟨g, 4, none⟩ = some (.int .i64 y.i)) (h5 : w.cell? ⟨g, 5, none⟩ = some (.string y.s)) :
    Calls Tryz.prog 147 #[.slice (some ⟨g, 0, none⟩) n c, .pointer (some ⟨b, 0, none⟩)] w fun e w' => e = .returned (.agg #[.int .i64 (andV x y).k, .int .i64 (andV x y).i, .string (andV x y).s]) ∧ Below w.heap.size w w' := by
  have d0 : 0 < n := by omega
  have d1 : (1 : Int) < (n : Int) := by omega
  have hgl := World.block_lt_of_cell? w _ h0
  have hbl := World.block_lt_of_cell? w _ hb
  have HV : Hid (∀ w, Calls Tryz.prog 110 #[.agg #[.int .i64 x.k, .int .i64 x.i, .string x.s], .agg #[.int .i64 y.k, .int .i64 y.i, .string y.s]] w fun e w' => e = .returned (.agg #[.int .i64 (andV x y).k, .int .i64 (andV x y).i, .string (andV x y).s]) ∧ Below w.heap.size w w') := vand x y
  generalize andV x y = R at HV ⊢
  go_enter Tryz.func147, Tryz.ntmps147
  go_wp2
  refine detL_begin [.val (.func (.func 110) #[] #[]), .val (.slice (some ⟨g, 0, none⟩) n c), .val (.pointer (some ⟨g, 0, none⟩)), .val (.agg #[.int .i64 x.k, .int .i64 x.i, .string x.s]), .val (.slice (some ⟨g, 0, none⟩) n c), .val (.pointer (some ⟨g, 3, none⟩)), .val (.agg #[.int .i64 y.k, .int .i64 y.i, .string y.s]), .val (.agg #[.int .i64 R.k, .int .i64 R.i, .string R.s])] 8 (by kernel_rfl) ?_
  repeat
    (refine detL_val (by kernel_rfl) (yields_of rfl fun w1 hb1 => ?_) ?_
     · have hc1 := bcellD hb1
       clear hb1
       go_simp
       with_reducible first
         | exact Det1_same
         | exact Det1_enter (HV.out _)
     simp only [Act.put, List.setIfInBounds_toArray, List.set_cons_zero, List.set_cons_succ])
  refine detL_tail rfl (by kernel_rfl) fun w1 hw1 => ?_
  have hc1 := (bcell hw1.below).1
  have hf1 := (bcell hw1.below).2
  have hz1 : w.heap.size < w1.heap.size := by have := hw1.below.size; simp at this; omega
  go_wp2
  exact bodyPost_ret (v := .agg #[.int .i64 R.k, .int .i64 R.i, .string R.s]) (by simp [results, Tryz.results147, go_sem, hc1, hf1, hz1]) rfl ⟨rfl, bSet3 (((Below.refl _ _).alloc (Nat.le_refl _) _).drew.trans (hw1.below.mono (by simp))) (by omega) _ _ _⟩

set_option maxRecDepth 100000 in
set_option maxHeartbeats 1600000 in
theorem does_3 (g n c : Nat) (x y : Vl) (b : Nat) (w : World) (hn : 2 ≤ n) (hb : w.cell? ⟨b, 0, none⟩ = some (.func (.func 111) #[] #[])) (h0 : w.cell? ⟨g, 0, none⟩ = some (.int .i64 x.k)) (h1 : w.cell? ⟨g, 1, none⟩ = some (.int .i64 x.i)) (h2 : w.cell? ⟨g, 2, none⟩ = some (.string x.s)) (h3 : w.cell? ⟨g, 3, none⟩ = some (.int .i64 y.k)) (h4 : w.cell? ⟨g, 4, none⟩ = some (.int .i64 y.i)) (h5 : w.cell? ⟨g, 5, none⟩ = some (.string y.s)) :
    Calls Tryz.prog 147 #[.slice (some ⟨g, 0, none⟩) n c, .pointer (some ⟨b, 0, none⟩)] w fun e w' => e = .returned (.agg #[.int .i64 (orV x y).k, .int .i64 (orV x y).i, .string (orV x y).s]) ∧ Below w.heap.size w w' := by
  have d0 : 0 < n := by omega
  have d1 : (1 : Int) < (n : Int) := by omega
  have hgl := World.block_lt_of_cell? w _ h0
  have hbl := World.block_lt_of_cell? w _ hb
  have HV : Hid (∀ w, Calls Tryz.prog 111 #[.agg #[.int .i64 x.k, .int .i64 x.i, .string x.s], .agg #[.int .i64 y.k, .int .i64 y.i, .string y.s]] w fun e w' => e = .returned (.agg #[.int .i64 (orV x y).k, .int .i64 (orV x y).i, .string (orV x y).s]) ∧ Below w.heap.size w w') := vor x y
  generalize orV x y = R at HV ⊢
  go_enter Tryz.func147, Tryz.ntmps147
  go_wp2
  refine detL_begin [.val (.func (.func 111) #[] #[]), .val (.slice (some ⟨g, 0, none⟩) n c), .val (.pointer (some ⟨g, 0, none⟩)), .val (.agg #[.int .i64 x.k, .int .i64 x.i, .string x.s]), .val (.slice (some ⟨g, 0, none⟩) n c), .val (.pointer (some ⟨g, 3, none⟩)), .val (.agg #[.int .i64 y.k, .int .i64 y.i, .string y.s]), .val (.agg #[.int .i64 R.k, .int .i64 R.i, .string R.s])] 8 (by kernel_rfl) ?_
  repeat
    (refine detL_val (by kernel_rfl) (yields_of rfl fun w1 hb1 => ?_) ?_
     · have hc1 := bcellD hb1
       clear hb1
       go_simp
       with_reducible first
         | exact Det1_same
         | exact Det1_enter (HV.out _)
     simp only [Act.put, List.setIfInBounds_toArray, List.set_cons_zero, List.set_cons_succ])
  refine detL_tail rfl (by kernel_rfl) fun w1 hw1 => ?_
  have hc1 := (bcell hw1.below).1
  have hf1 := (bcell hw1.below).2
  have hz1 : w.heap.size < w1.heap.size := by have := hw1.below.size; simp at this; omega
  go_wp2
  exact bodyPost_ret (v := .agg #[.int .i64 R.k, .int .i64 R.i, .string R.s]) (by simp [results, Tryz.results147, go_sem, hc1, hf1, hz1]) rfl ⟨rfl, bSet3 (((Below.refl _ _).alloc (Nat.le_refl _) _).drew.trans (hw1.below.mono (by simp))) (by omega) _ _ _⟩

set_option maxRecDepth 100000 in
set_option maxHeartbeats 1600000 in
theorem does_4 (g n c : Nat) (x y : Vl) (b : Nat) (w : World) (hn : 2 ≤ n) (hb : w.cell? ⟨b, 0, none⟩ = some (.func (.func 112) #[] #[])) (h0 : w.cell? ⟨g, 0, none⟩ = some (.int .i64 x.k)) (h1 : w.cell? ⟨g, 1, none⟩ = some (.int .i64 x.i)) (h2 : w.cell? ⟨g, 2, none⟩ = some (.string x.s)) (h3 : w.cell? ⟨g, 3, none⟩ = some (.int .i64 y.k)) (h4 : w.cell? ⟨g, 4, none⟩ = some (.int .i64 y.i)) (h5 : w.cell? ⟨g, 5, none⟩ = some (.string y.s)) :
    Calls Tryz.prog 147 #[.slice (some ⟨g, 0, none⟩) n c, .pointer (some ⟨b, 0, none⟩)] w fun e w' => e = .returned (.agg #[.int .i64 (eqV x y).k, .int .i64 (eqV x y).i, .string (eqV x y).s]) ∧ Below w.heap.size w w' := by
  have d0 : 0 < n := by omega
  have d1 : (1 : Int) < (n : Int) := by omega
  have hgl := World.block_lt_of_cell? w _ h0
  have hbl := World.block_lt_of_cell? w _ hb
  have HV : Hid (∀ w, Calls Tryz.prog 112 #[.agg #[.int .i64 x.k, .int .i64 x.i, .string x.s], .agg #[.int .i64 y.k, .int .i64 y.i, .string y.s]] w fun e w' => e = .returned (.agg #[.int .i64 (eqV x y).k, .int .i64 (eqV x y).i, .string (eqV x y).s]) ∧ Below w.heap.size w w') := veq x y
  generalize eqV x y = R at HV ⊢
  go_enter Tryz.func147, Tryz.ntmps147
  go_wp2
  refine detL_begin [.val (.func (.func 112) #[] #[]), .val (.slice (some ⟨g, 0, none⟩) n c), .val (.pointer (some ⟨g, 0, none⟩)), .val (.agg #[.int .i64 x.k, .int .i64 x.i, .string x.s]), .val (.slice (some ⟨g, 0, none⟩) n c), .val (.pointer (some ⟨g, 3, none⟩)), .val (.agg #[.int .i64 y.k, .int .i64 y.i, .string y.s]), .val (.agg #[.int .i64 R.k, .int .i64 R.i, .string R.s])] 8 (by kernel_rfl) ?_
  repeat
    (refine detL_val (by kernel_rfl) (yields_of rfl fun w1 hb1 => ?_) ?_
     · have hc1 := bcellD hb1
       clear hb1
       go_simp
       with_reducible first
         | exact Det1_same
         | exact Det1_enter (HV.out _)
     simp only [Act.put, List.setIfInBounds_toArray, List.set_cons_zero, List.set_cons_succ])
  refine detL_tail rfl (by kernel_rfl) fun w1 hw1 => ?_
  have hc1 := (bcell hw1.below).1
  have hf1 := (bcell hw1.below).2
  have hz1 : w.heap.size < w1.heap.size := by have := hw1.below.size; simp at this; omega
  go_wp2
  exact bodyPost_ret (v := .agg #[.int .i64 R.k, .int .i64 R.i, .string R.s]) (by simp [results, Tryz.results147, go_sem, hc1, hf1, hz1]) rfl ⟨rfl, bSet3 (((Below.refl _ _).alloc (Nat.le_refl _) _).drew.trans (hw1.below.mono (by simp))) (by omega) _ _ _⟩

set_option maxRecDepth 100000 in
set_option maxHeartbeats 1600000 in
theorem does_5 (g n c : Nat) (x y : Vl) (b : Nat) (w : World) (hn : 2 ≤ n) (hb : w.cell? ⟨b, 0, none⟩ = some (.func (.func 113) #[] #[])) (h0 : w.cell? ⟨g, 0, none⟩ = some (.int .i64 x.k)) (h1 : w.cell? ⟨g, 1, none⟩ = some (.int .i64 x.i)) (h2 : w.cell? ⟨g, 2, none⟩ = some (.string x.s)) (h3 : w.cell? ⟨g, 3, none⟩ = some (.int .i64 y.k)) (h4 : w.cell? ⟨g, 4, none⟩ = some (.int .i64 y.i)) (h5 : w.cell? ⟨g, 5, none⟩ = some (.string y.s)) :
    Calls Tryz.prog 147 #[.slice (some ⟨g, 0, none⟩) n c, .pointer (some ⟨b, 0, none⟩)] w fun e w' => e = .returned (.agg #[.int .i64 (lessV x y).k, .int .i64 (lessV x y).i, .string (lessV x y).s]) ∧ Below w.heap.size w w' := by
  have d0 : 0 < n := by omega
  have d1 : (1 : Int) < (n : Int) := by omega
  have hgl := World.block_lt_of_cell? w _ h0
  have hbl := World.block_lt_of_cell? w _ hb
  have HV : Hid (∀ w, Calls Tryz.prog 113 #[.agg #[.int .i64 x.k, .int .i64 x.i, .string x.s], .agg #[.int .i64 y.k, .int .i64 y.i, .string y.s]] w fun e w' => e = .returned (.agg #[.int .i64 (lessV x y).k, .int .i64 (lessV x y).i, .string (lessV x y).s]) ∧ Below w.heap.size w w') := vless x y
  generalize lessV x y = R at HV ⊢
  go_enter Tryz.func147, Tryz.ntmps147
  go_wp2
  refine detL_begin [.val (.func (.func 113) #[] #[]), .val (.slice (some ⟨g, 0, none⟩) n c), .val (.pointer (some ⟨g, 0, none⟩)), .val (.agg #[.int .i64 x.k, .int .i64 x.i, .string x.s]), .val (.slice (some ⟨g, 0, none⟩) n c), .val (.pointer (some ⟨g, 3, none⟩)), .val (.agg #[.int .i64 y.k, .int .i64 y.i, .string y.s]), .val (.agg #[.int .i64 R.k, .int .i64 R.i, .string R.s])] 8 (by kernel_rfl) ?_
  repeat
    (refine detL_val (by kernel_rfl) (yields_of rfl fun w1 hb1 => ?_) ?_
     · have hc1 := bcellD hb1
       clear hb1
       go_simp
       with_reducible first
         | exact Det1_same
         | exact Det1_enter (HV.out _)
     simp only [Act.put, List.setIfInBounds_toArray, List.set_cons_zero, List.set_cons_succ])
  refine detL_tail rfl (by kernel_rfl) fun w1 hw1 => ?_
  have hc1 := (bcell hw1.below).1
  have hf1 := (bcell hw1.below).2
  have hz1 : w.heap.size < w1.heap.size := by have := hw1.below.size; simp at this; omega
  go_wp2
  exact bodyPost_ret (v := .agg #[.int .i64 R.k, .int .i64 R.i, .string R.s]) (by simp [results, Tryz.results147, go_sem, hc1, hf1, hz1]) rfl ⟨rfl, bSet3 (((Below.refl _ _).alloc (Nat.le_refl _) _).drew.trans (hw1.below.mono (by simp))) (by omega) _ _ _⟩

set_option maxRecDepth 100000 in
set_option maxHeartbeats 1600000 in
theorem does_6 (g n c : Nat) (x y : Vl) (b : Nat) (w : World) (hn : 2 ≤ n) (hb : w.cell? ⟨b, 0, none⟩ = some (.func (.func 114) #[] #[])) (h0 : w.cell? ⟨g, 0, none⟩ = some (.int .i64 x.k)) (h1 : w.cell? ⟨g, 1, none⟩ = some (.int .i64 x.i)) (h2 : w.cell? ⟨g, 2, none⟩ = some (.string x.s)) (h3 : w.cell? ⟨g, 3, none⟩ = some (.int .i64 y.k)) (h4 : w.cell? ⟨g, 4, none⟩ = some (.int .i64 y.i)) (h5 : w.cell? ⟨g, 5, none⟩ = some (.string y.s)) :
    Calls Tryz.prog 147 #[.slice (some ⟨g, 0, none⟩) n c, .pointer (some ⟨b, 0, none⟩)] w fun e w' => e = .returned (.agg #[.int .i64 (plusV x y).k, .int .i64 (plusV x y).i, .string (plusV x y).s]) ∧ Below w.heap.size w w' := by
  have d0 : 0 < n := by omega
  have d1 : (1 : Int) < (n : Int) := by omega
  have hgl := World.block_lt_of_cell? w _ h0
  have hbl := World.block_lt_of_cell? w _ hb
  have HV : Hid (∀ w, Calls Tryz.prog 114 #[.agg #[.int .i64 x.k, .int .i64 x.i, .string x.s], .agg #[.int .i64 y.k, .int .i64 y.i, .string y.s]] w fun e w' => e = .returned (.agg #[.int .i64 (plusV x y).k, .int .i64 (plusV x y).i, .string (plusV x y).s]) ∧ Below w.heap.size w w') := vplus x y
  generalize plusV x y = R at HV ⊢
  go_enter Tryz.func147, Tryz.ntmps147
  go_wp2
  refine detL_begin [.val (.func (.func 114) #[] #[]), .val (.slice (some ⟨g, 0, none⟩) n c), .val (.pointer (some ⟨g, 0, none⟩)), .val (.agg #[.int .i64 x.k, .int .i64 x.i, .string x.s]), .val (.slice (some ⟨g, 0, none⟩) n c), .val (.pointer (some ⟨g, 3, none⟩)), .val (.agg #[.int .i64 y.k, .int .i64 y.i, .string y.s]), .val (.agg #[.int .i64 R.k, .int .i64 R.i, .string R.s])] 8 (by kernel_rfl) ?_
  repeat
    (refine detL_val (by kernel_rfl) (yields_of rfl fun w1 hb1 => ?_) ?_
     · have hc1 := bcellD hb1
       clear hb1
       go_simp
       with_reducible first
         | exact Det1_same
         | exact Det1_enter (HV.out _)
     simp only [Act.put, List.setIfInBounds_toArray, List.set_cons_zero, List.set_cons_succ])
  refine detL_tail rfl (by kernel_rfl) fun w1 hw1 => ?_
  have hc1 := (bcell hw1.below).1
  have hf1 := (bcell hw1.below).2
  have hz1 : w.heap.size < w1.heap.size := by have := hw1.below.size; simp at this; omega
  go_wp2
  exact bodyPost_ret (v := .agg #[.int .i64 R.k, .int .i64 R.i, .string R.s]) (by simp [results, Tryz.results147, go_sem, hc1, hf1, hz1]) rfl ⟨rfl, bSet3 (((Below.refl _ _).alloc (Nat.le_refl _) _).drew.trans (hw1.below.mono (by simp))) (by omega) _ _ _⟩

set_option maxRecDepth 100000 in
set_option maxHeartbeats 1600000 in
theorem does_7 (g n c : Nat) (x y : Vl) (b : Nat) (w : World) (hn : 2 ≤ n) (hb : w.cell? ⟨b, 0, none⟩ = some (.func (.func 115) #[] #[])) (h0 : w.cell? ⟨g, 0, none⟩ = some (.int .i64 x.k)) (h1 : w.cell? ⟨g, 1, none⟩ = some (.int .i64 x.i)) (h2 : w.cell? ⟨g, 2, none⟩ = some (.string x.s)) (h3 : w.cell? ⟨g, 3, none⟩ = some (.int .i64 y.k)) (h4 : w.cell? ⟨g, 4, none⟩ = some (.int .i64 y.i)) (h5 : w.cell? ⟨g, 5, none⟩ = some (.string y.s)) :
    Calls Tryz.prog 147 #[.slice (some ⟨g, 0, none⟩) n c, .pointer (some ⟨b, 0, none⟩)] w fun e w' => e = .returned (.agg #[.int .i64 (minusV x y).k, .int .i64 (minusV x y).i, .string (minusV x y).s]) ∧ Below w.heap.size w w' := by
  have d0 : 0 < n := by omega
  have d1 : (1 : Int) < (n : Int) := by omega
  have hgl := World.block_lt_of_cell? w _ h0
  have hbl := World.block_lt_of_cell? w _ hb
  have HV : Hid (∀ w, Calls Tryz.prog 115 #[.agg #[.int .i64 x.k, .int .i64 x.i, .string x.s], .agg #[.int .i64 y.k, .int .i64 y.i, .string y.s]] w fun e w' => e = .returned (.agg #[.int .i64 (minusV x y).k, .int .i64 (minusV x y).i, .string (minusV x y).s]) ∧ Below w.heap.size w w') := vminus x y
  generalize minusV x y = R at HV ⊢
  go_enter Tryz.func147, Tryz.ntmps147
  go_wp2
  refine detL_begin [.val (.func (.func 115) #[] #[]), .val (.slice (some ⟨g, 0, none⟩) n c), .val (.pointer (some ⟨g, 0, none⟩)), .val (.agg #[.int .i64 x.k, .int .i64 x.i, .string x.s]), .val (.slice (some ⟨g, 0, none⟩) n c), .val (.pointer (some ⟨g, 3, none⟩)), .val (.agg #[.int .i64 y.k, .int .i64 y.i, .string y.s]), .val (.agg #[.int .i64 R.k, .int .i64 R.i, .string R.s])] 8 (by kernel_rfl) ?_
  repeat
    (refine detL_val (by kernel_rfl) (yields_of rfl fun w1 hb1 => ?_) ?_
     · have hc1 := bcellD hb1
       clear hb1
       go_simp
       with_reducible first
         | exact Det1_same
         | exact Det1_enter (HV.out _)
     simp only [Act.put, List.setIfInBounds_toArray, List.set_cons_zero, List.set_cons_succ])
  refine detL_tail rfl (by kernel_rfl) fun w1 hw1 => ?_
  have hc1 := (bcell hw1.below).1
  have hf1 := (bcell hw1.below).2
  have hz1 : w.heap.size < w1.heap.size := by have := hw1.below.size; simp at this; omega
  go_wp2
  exact bodyPost_ret (v := .agg #[.int .i64 R.k, .int .i64 R.i, .string R.s]) (by simp [results, Tryz.results147, go_sem, hc1, hf1, hz1]) rfl ⟨rfl, bSet3 (((Below.refl _ _).alloc (Nat.le_refl _) _).drew.trans (hw1.below.mono (by simp))) (by omega) _ _ _⟩
end Go.Proofs.YtmhkmliebhbkdaaGreat

/- Columns: where a name's first one is; its value in a row. -/
namespace Go.Proofs.YtmhkmliebhbkdaaGreat
open Go.RowKit Go.Lib

structure Cl where
  n : ByteArray
  t : Int
  b : Bool
structure ClAt (W : World) (a : Addr) (c : Cl) : Prop where
  c0 : W.cell? a = some (.string c.n)
  c1 : W.cell? ⟨a.block, a.off + 1, none⟩ = some (.int .i64 c.t)
  c2 : W.cell? ⟨a.block, a.off + 2, none⟩ = some (.bool c.b)
theorem ClAt.lt {W : World} {a : Addr} {c : Cl} (h : ClAt W a c) : a.block < W.heap.size := World.block_lt_of_cell? W _ h.c0
theorem ClAt.keep {W W' : World} {a : Addr} {c : Cl} (h : ClAt W a c) (hb : W'.heap[a.block]? = W.heap[a.block]?) : ClAt W' a c :=
  ⟨(World.cell?_of_block (w := W) (a := a) hb).trans h.c0, (World.cell?_of_block (w := W) (a := ⟨a.block, _, none⟩) hb).trans h.c1, (World.cell?_of_block (w := W) (a := ⟨a.block, _, none⟩) hb).trans h.c2⟩
/-- A slice reads as these columns. -/
def ColS (W : World) (A : Option Addr) (n : Nat) (l : List Cl) : Prop := l.length = n ∧ n ≤ maxLen ∧ ∀ j (h : j < l.length), ∃ a, A = some a ∧ ClAt W (a.add (j * 3)) l[j]
theorem ColS.below {W W' : World} {A : Option Addr} {n : Nat} {l : List Cl} (h : ColS W A n l) (hb : Below W.heap.size W W') : ColS W' A n l :=
  ⟨h.1, h.2.1, fun j hj => by obtain ⟨a, e, hc⟩ := h.2.2 j hj; exact ⟨a, e, hc.keep (hb.block _ hc.lt)⟩⟩

/-- The place of the first column of a name; -1: there is none. -/
def plF (nm : ByteArray) : List Cl → Int → Int
  | [], _ => -1
  | c :: r, k => if (c.n.toList == nm.toList) = true then k else plF nm r (k + 1)
theorem plF_t {nm : ByteArray} {l : List Cl} {j : Nat} (hj : j < l.length) (h : (l[j].n.toList == nm.toList) = true) : plF nm (l.drop j) j = j := by
  rw [List.drop_eq_getElem_cons hj]
  unfold plF
  rw [if_pos h]
theorem plF_f {nm : ByteArray} {l : List Cl} {j : Nat} (hj : j < l.length) (h : (l[j].n.toList == nm.toList) = false) : plF nm (l.drop j) j = plF nm (l.drop (j + 1)) ((j + 1 : Nat) : Int) := by
  rw [List.drop_eq_getElem_cons hj]
  conv => lhs; unfold plF
  rw [if_neg (by rw [h]; decide)]
  rfl
theorem plF_bd {nm : ByteArray} : ∀ (l : List Cl) (k : Int), 0 ≤ k → plF nm l k = -1 ∨ (0 ≤ plF nm l k ∧ plF nm l k < k + l.length)
  | [], k, _ => .inl rfl
  | c :: r, k, h => by
    unfold plF
    split
    · right; simp; omega
    · rcases plF_bd (nm := nm) r (k + 1) (by omega) with h1 | ⟨h1, h2⟩
      · exact .inl h1
      · right; simp only [List.length_cons]; omega

set_option maxRecDepth 100000 in
set_option maxHeartbeats 1600000 in
theorem pred_any (c : Cl) (nm : ByteArray) (b : Nat) (w : World) (hb : w.cell? ⟨b, 0, none⟩ = some (.string nm)) :
    Calls Tryz.prog 140 #[.agg #[.string c.n, .int .i64 c.t, .bool c.b], .pointer (some ⟨b, 0, none⟩)] w fun e w' => e = .returned (.bool (c.n.toList == nm.toList)) ∧ Below w.heap.size w w' := by
  have hbl := World.block_lt_of_cell? w _ hb
  go_enter Tryz.func140, Tryz.ntmps140
  go_wp2_with (fail)
  go_ret
  exact ⟨rfl, (Below.refl _ _).alloc (Nat.le_refl _) _⟩

set_option maxRecDepth 100000 in
set_option maxHeartbeats 4000000 in
theorem index_any (A : Option Addr) (n cap : Nat) (l : List Cl) (nm : ByteArray) (b : Nat) (w : World) (hc : ColS w A n l) (hb : w.cell? ⟨b, 0, none⟩ = some (.string nm)) :
    Calls Tryz.prog 130 #[.slice A n cap, .func (.func 140) #[] #[.pointer (some ⟨b, 0, none⟩)]] w fun e w' => e = .returned (.int .i64 (plF nm l 0)) ∧ Below w.heap.size w w' := by
  have HC := Lib.hid hc
  have hn := hc.2.1
  have HL := Lib.hid hc.1
  have HB := Lib.hid hb
  have hbl := World.block_lt_of_cell? w _ hb
  unfold maxLen at hn
  clear hc hb
  go_enter Tryz.func130, Tryz.ntmps130
  go_wp2_with (fail)
  go_loopw [8] (fun i wr => ∃ j : Nat, i = .int .i64 j ∧ j ≤ n ∧ Below w.heap.size w wr ∧ Hid (plF nm l 0 = plF nm (l.drop j) j)) (fun i _ => n - (intOf i).toNat)
  case atStart => exact ⟨0, rfl, by omega, Below.refl _ _, rfl⟩
  case round =>
    obtain ⟨j, rfl, hj, hbw, HP⟩ := hrel
    by_cases hlt : j < n
    · have hjl : j < l.length := by rw [HL.out]; exact hlt
      obtain ⟨a, rfl, hE⟩ := HC.out.2.2 j hjl
      have hE' := hE.keep (hbw.block _ hE.lt)
      have c0 := hE'.c0
      have c1 := hE'.c1
      have c2 := hE'.c2
      have hbs := hbw.size
      have cb : Hid (wr.cell? ⟨b, 0, none⟩ = some (.string nm)) := (hbw.cell (p := ⟨b, 0, none⟩) hbl).trans HB.out
      have HT := Lib.hid (plF_t (nm := nm) hjl)
      have HF := Lib.hid (plF_f (nm := nm) hjl)
      clear hE hE'
      generalize l[j] = y at c0 c1 c2 HT HF
      cases hy : (y.n.toList == nm.toList) with
      | true =>
        have HY := Lib.hid hy
        clear hy
        go_wp2_with (go_at_call 140; refine (pred_any y nm b _ cb.out).mono ?_; rintro e w2 ⟨rfl, hb2⟩; rw [HY.out]; have HB2 := Lib.hid hb2; clear hb2)
        go_ret
        rw [HP.out, HT.out HY.out]
        exact ⟨rfl, hbw.trans (HB2.out.mono hbs)⟩
      | false =>
        have HY := Lib.hid hy
        clear hy
        go_wp2_with (go_at_call 140; refine (pred_any y nm b _ cb.out).mono ?_; rintro e w2 ⟨rfl, hb2⟩; rw [HY.out]; have HB2 := Lib.hid hb2; clear hb2)
        go_roundw
        case rel => exact ⟨j + 1, by go_num, by omega, hbw.trans (HB2.out.mono hbs), HP.out.trans (HF.out HY.out)⟩
        case measure => simp [intOf]; omega
    · obtain rfl : j = n := by omega
      go_wp2_with (fail)
      go_ret
      rw [HP.out, List.drop_eq_nil_of_le (by rw [HL.out]; exact Nat.le_refl _)]
      exact ⟨rfl, hbw⟩

set_option maxRecDepth 100000 in
set_option maxHeartbeats 1600000 in
theorem place_any (A : Option Addr) (n cap : Nat) (l : List Cl) (nm : ByteArray) (w : World) (hc : ColS w A n l) :
    Calls Tryz.prog 104 #[.slice A n cap, .string nm] w fun e w' => e = .returned (.int .i64 (plF nm l 0)) ∧ Below w.heap.size w w' := by
  have HC := Lib.hid hc
  clear hc
  go_enter Tryz.func104, Tryz.ntmps104
  go_wp2_with (go_at_call 130; refine (index_any A n cap l nm _ _ (HC.out.below ((Below.refl _ _).alloc (Nat.le_refl _) _)) (by simp [go_sem])).mono ?_; rintro e w1 ⟨rfl, hb1⟩)
  go_ret
  exact ⟨rfl, ((Below.refl _ _).alloc (Nat.le_refl _) _).trans (hb1.mono (by simp))⟩

/-- The value of a name's column. -/
def colV (cols : List Cl) (row : List Vl) (nm : ByteArray) : Vl := if 0 ≤ plF nm cols 0 then (row[(plF nm cols 0).toNat]?).getD nulV else nulV

set_option maxRecDepth 100000 in
set_option maxHeartbeats 2000000 in
theorem column_no (A : Option Addr) (n c : Nat) (l : List Cl) (A' : Option Addr) (m c' : Nat) (row : List Vl) (r : Nat) (nm : ByteArray) (w : World) (hc : ColS w A n l) (hv : Vals w w.heap.size A' m row) (hm : m ≤ maxLen) (hi : plF nm l 0 < 0) :
    Calls Tryz.prog 116 #[.agg #[.slice A n c, .slice A' m c', .map (some r)], .string nm] w fun e w' => e = .returned (.agg #[.int .i64 nulV.k, .int .i64 nulV.i, .string nulV.s]) ∧ Below w.heap.size w w' := by
  have HC := Lib.hid hc
  have HV := Lib.hid hv
  clear hc hv
  unfold maxLen at hm
  obtain ⟨i, HI⟩ : ∃ i, Hid (plF nm l 0 = i) := ⟨_, Lib.hid rfl⟩
  rw [HI.out] at hi
  have d1 : decide (i < 0) = true := decide_eq_true hi
  go_enter Tryz.func116, Tryz.ntmps116
  go_wp2_with (go_at_call 104; refine (place_any A n c l nm _ ((HC.out.below ((Below.refl _ _).alloc (Nat.le_refl _) _)).below ((Below.refl _ _).alloc (Nat.le_refl _) _))).mono ?_; rintro e w1 ⟨rfl, hb1⟩; rw [HI.out]; have hc1 := (bcell hb1).1; have hf1 := (bcell hb1).2; have hy1 := hb1.size; (try simp at hy1); have hz1_0 : w.heap.size < w1.heap.size := (by omega); have hz1_1 : w.heap.size + 1 < w1.heap.size := (by omega))
  refine bodyPost_ret (v := .agg #[.int .i64 0, .int .i64 0, .string ⟨#[]⟩]) (by simp [results, Tryz.results116, go_sem, *]; done) rfl ⟨rfl, ?_⟩
  repeat (first | (with_reducible exact Below.refl _ _) | ((with_reducible refine cSet3 ?_ ?_ _ _ _); (· ((try simp) <;> omega))) | (with_reducible refine Below.drew ?_) | ((with_reducible refine cAlloc ?_ ?_ _); (· ((try simp) <;> omega))) | ((with_reducible refine cOn (by assumption) ?_ ?_); (· ((try simp) <;> omega))))

set_option maxRecDepth 100000 in
set_option maxHeartbeats 2000000 in
theorem column_past (A : Option Addr) (n c : Nat) (l : List Cl) (A' : Option Addr) (m c' : Nat) (row : List Vl) (r : Nat) (nm : ByteArray) (w : World) (hc : ColS w A n l) (hv : Vals w w.heap.size A' m row) (hm : m ≤ maxLen) (i : Nat) (hi : plF nm l 0 = i) (him : m ≤ i) (hib : i < 9223372036854775807) :
    Calls Tryz.prog 116 #[.agg #[.slice A n c, .slice A' m c', .map (some r)], .string nm] w fun e w' => e = .returned (.agg #[.int .i64 nulV.k, .int .i64 nulV.i, .string nulV.s]) ∧ Below w.heap.size w w' := by
  have HC := Lib.hid hc
  have HV := Lib.hid hv
  clear hc hv
  unfold maxLen at hm
  have HI := Lib.hid hi
  clear hi
  have d1 : decide ((i : Int) < 0) = false := decide_eq_false (by omega)
  have d2 : decide ((m : Int) ≤ (i : Int)) = true := decide_eq_true (by omega)
  have d3 : decide (m ≤ i) = true := decide_eq_true (by omega)
  go_enter Tryz.func116, Tryz.ntmps116
  go_wp2_with (go_at_call 104; refine (place_any A n c l nm _ ((HC.out.below ((Below.refl _ _).alloc (Nat.le_refl _) _)).below ((Below.refl _ _).alloc (Nat.le_refl _) _))).mono ?_; rintro e w1 ⟨rfl, hb1⟩; rw [HI.out]; have hc1 := (bcell hb1).1; have hf1 := (bcell hb1).2; have hy1 := hb1.size; (try simp at hy1); have hz1_0 : w.heap.size < w1.heap.size := (by omega); have hz1_1 : w.heap.size + 1 < w1.heap.size := (by omega))
  refine bodyPost_ret (v := .agg #[.int .i64 0, .int .i64 0, .string ⟨#[]⟩]) (by simp [results, Tryz.results116, go_sem, *]; done) rfl ⟨rfl, ?_⟩
  repeat (first | (with_reducible exact Below.refl _ _) | ((with_reducible refine cSet3 ?_ ?_ _ _ _); (· ((try simp) <;> omega))) | (with_reducible refine Below.drew ?_) | ((with_reducible refine cAlloc ?_ ?_ _); (· ((try simp) <;> omega))) | ((with_reducible refine cOn (by assumption) ?_ ?_); (· ((try simp) <;> omega))))

set_option maxRecDepth 100000 in
set_option maxHeartbeats 2000000 in
theorem column_yes (A : Option Addr) (n c : Nat) (l : List Cl) (A' : Option Addr) (m c' : Nat) (row : List Vl) (r : Nat) (nm : ByteArray) (w : World) (hc : ColS w A n l) (hv : Vals w w.heap.size A' m row) (hm : m ≤ maxLen) (i : Nat) (hi : plF nm l 0 = i) (him : i < m) (x : Vl) (hx : row[i]? = some x) :
    Calls Tryz.prog 116 #[.agg #[.slice A n c, .slice A' m c', .map (some r)], .string nm] w fun e w' => e = .returned (.agg #[.int .i64 x.k, .int .i64 x.i, .string x.s]) ∧ Below w.heap.size w w' := by
  have HC := Lib.hid hc
  have HV := Lib.hid hv
  clear hc hv
  unfold maxLen at hm
  have HI := Lib.hid hi
  clear hi
  have d1 : decide ((i : Int) < 0) = false := decide_eq_false (by omega)
  have d2 : decide ((m : Int) ≤ (i : Int)) = false := decide_eq_false (by omega)
  have d3 : decide (m ≤ i) = false := decide_eq_false (by omega)
  obtain ⟨a, y, rfl, hy, hA, hB⟩ := HV.out.at_ him
  obtain rfl : y = x := by rw [hx] at hy; exact (Option.some.inj hy).symm
  have HA : Hid (VlAt w (a.add (i * 3)) y ∧ (a.add (i * 3)).block < w.heap.size) := ⟨hA, by rw [add_block]; exact hB⟩
  clear hA hB hx hy
  go_enter Tryz.func116, Tryz.ntmps116
  go_wp2_with (go_at_call 104; refine (place_any A n c l nm _ ((HC.out.below ((Below.refl _ _).alloc (Nat.le_refl _) _)).below ((Below.refl _ _).alloc (Nat.le_refl _) _))).mono ?_; rintro e w1 ⟨rfl, hb1⟩; rw [HI.out]; have hc1 := (bcell hb1).1; have hf1 := (bcell hb1).2; have hy1 := hb1.size; (try simp at hy1); have hz1_0 : w.heap.size < w1.heap.size := (by omega); have hz1_1 : w.heap.size + 1 < w1.heap.size := (by omega); have HA1 := HA.out.1.keep ((((Below.refl w.heap.size w).alloc (Nat.le_refl _) _).alloc (by simp) _).trans (hb1.mono (by simp; omega))) HA.out.2; have c0 := HA1.k; have c1 := HA1.i; have c2 := HA1.s; clear HA1)
  refine bodyPost_ret (v := .agg #[.int .i64 y.k, .int .i64 y.i, .string y.s]) (by simp [results, Tryz.results116, go_sem, *]; done) rfl ⟨rfl, ?_⟩
  repeat (first | (with_reducible exact Below.refl _ _) | ((with_reducible refine cSet3 ?_ ?_ _ _ _); (· ((try simp) <;> omega))) | (with_reducible refine Below.drew ?_) | ((with_reducible refine cAlloc ?_ ?_ _); (· ((try simp) <;> omega))) | ((with_reducible refine cOn (by assumption) ?_ ?_); (· ((try simp) <;> omega))))

theorem column_any (A : Option Addr) (n c : Nat) (l : List Cl) (A' : Option Addr) (m c' : Nat) (row : List Vl) (r : Nat) (nm : ByteArray) (w : World) (hc : ColS w A n l) (hv : Vals w w.heap.size A' m row) (hm : m ≤ maxLen) :
    Calls Tryz.prog 116 #[.agg #[.slice A n c, .slice A' m c', .map (some r)], .string nm] w fun e w' => e = .returned (.agg #[.int .i64 (colV l row nm).k, .int .i64 (colV l row nm).i, .string (colV l row nm).s]) ∧ Below w.heap.size w w' := by
  rcases plF_bd (nm := nm) l 0 (by omega) with h | ⟨h1, h2⟩
  · have e : colV l row nm = nulV := by unfold colV; rw [h, if_neg (by decide)]
    rw [e]
    exact column_no A n c l A' m c' row r nm w hc hv hm (by omega)
  · obtain ⟨i, hi⟩ := Int.eq_ofNat_of_zero_le h1
    have hln := hc.1
    have hnn := hc.2.1
    unfold maxLen at hnn
    by_cases him : i < m
    · have hil : i < row.length := by rw [hv.1]; exact him
      have e : colV l row nm = row[i] := by unfold colV; rw [if_pos h1, hi]; simp [List.getElem?_eq_getElem hil]
      rw [e]
      exact column_yes A n c l A' m c' row r nm w hc hv hm i hi him _ (List.getElem?_eq_getElem hil)
    · have e : colV l row nm = nulV := by unfold colV; rw [if_pos h1, hi]; simp [List.getElem?_eq_none (show row.length ≤ i by rw [hv.1]; omega)]
      rw [e]
      exact column_past A n c l A' m c' row r nm w hc hv hm i hi (by omega) (by omega)
end Go.Proofs.YtmhkmliebhbkdaaGreat
