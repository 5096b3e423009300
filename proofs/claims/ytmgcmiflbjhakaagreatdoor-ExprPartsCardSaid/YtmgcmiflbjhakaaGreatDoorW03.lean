import Derived.Test.YtmgcmiflbjhakaaGreatDoorW02
import Derived.Deep.Cut
import Derived.IntWalk
import Derived.LoopTactic
import Derived.Outline

/- The chapter's examples (awake), and Few. -/
namespace Go.Proofs.YtmgcmiflbjhakaaGreatDoor
open Go.RowKit Go.Lib

theorem isEmpty_nil : (⟨#[]⟩ : ByteArray).toList.isEmpty = true := by rw [nilBytes]; rfl
theorem may_null : mayB 0 0 ⟨#[]⟩ = true := by simp [mayB, nilBytes]
theorem may_int (i : Int) : mayB 1 i ⟨#[]⟩ = true := by simp [mayB, nilBytes]
theorem may_false : mayB 3 0 ⟨#[]⟩ = true := by simp [mayB, nilBytes]
theorem may_true : mayB 3 1 ⟨#[]⟩ = true := by simp [mayB, nilBytes]

set_option maxRecDepth 100000 in
set_option maxHeartbeats 800000 in
theorem aw_and  (w : World) :
    Calls Tryz.prog 56 #[.agg #[.int .i64 0, .int .i64 0, .string ⟨#[]⟩], .agg #[.int .i64 3, .int .i64 0, .string ⟨#[]⟩]] w fun e w' => e = .returned (.agg #[.int .i64 3, .int .i64 0, .string ⟨#[]⟩]) ∧ Below w.heap.size w w' := by
  have h := and_any 0 0 ⟨#[]⟩ 3 0 ⟨#[]⟩ w
  rw [saysN_1 (k := 0) (fun h => absurd h (by decide)), saysN_0 (k := 3) rfl rfl nilBytes] at h
  exact h

set_option maxRecDepth 100000 in
set_option maxHeartbeats 800000 in
theorem aw_less  (w : World) :
    Calls Tryz.prog 59 #[.agg #[.int .i64 1, .int .i64 1, .string ⟨#[]⟩], .agg #[.int .i64 2, .int .i64 0, .string ⟨#[97]⟩]] w fun e w' => e = .returned (.agg #[.int .i64 0, .int .i64 0, .string ⟨#[]⟩]) ∧ Below w.heap.size w w' := by
  refine less_no 1 1 ⟨#[]⟩ 2 0 ⟨#[97]⟩ w ?_
  unfold alikeB hK
  rw [may_int]
  simp only [if_true]
  split <;> decide

theorem nums_int (i i' : Int) : numsB 1 i ⟨#[]⟩ 1 i' ⟨#[]⟩ = true := by
  unfold numsB hK
  rw [may_int, may_int]
  decide

set_option maxRecDepth 100000 in
set_option maxHeartbeats 800000 in
theorem aw_plus_max  (w : World) :
    Calls Tryz.prog 60 #[.agg #[.int .i64 1, .int .i64 9223372036854775807, .string ⟨#[]⟩], .agg #[.int .i64 1, .int .i64 1, .string ⟨#[]⟩]] w fun e w' => e = .returned (.agg #[.int .i64 0, .int .i64 0, .string ⟨#[]⟩]) ∧ Below w.heap.size w w' := by
  exact plus_bad 1 9223372036854775807 ⟨#[]⟩ 1 1 ⟨#[]⟩ w (nums_int _ _) (by kernel_rfl)

set_option maxRecDepth 100000 in
set_option maxHeartbeats 800000 in
theorem aw_plus_one  (w : World) :
    Calls Tryz.prog 60 #[.agg #[.int .i64 1, .int .i64 1, .string ⟨#[]⟩], .agg #[.int .i64 1, .int .i64 1, .string ⟨#[]⟩]] w fun e w' => e = .returned (.agg #[.int .i64 1, .int .i64 2, .string ⟨#[]⟩]) ∧ Below w.heap.size w w' := by
  have h := plus_yes 1 1 ⟨#[]⟩ 1 1 ⟨#[]⟩ w (nums_int _ _) (by kernel_rfl)
  rw [show wrap64 (1 + 1) = 2 by kernel_rfl] at h
  exact h

set_option maxRecDepth 100000 in
set_option maxHeartbeats 800000 in
theorem aw_text  (w : World) (m : Int) (hm : w.cell? ⟨1, 0, none⟩ = some (.int .i64 m)) :
    Calls Tryz.prog 74 #[.agg #[.int .i64 2, .int .i64 0, .string ⟨#[105, 116, 39, 115]⟩]] w fun e w' => e = .returned (.string ⟨#[39, 105, 116, 39, 39, 115, 39]⟩) ∧ Below w.heap.size w w' := by
  have hmay : mayB 2 0 ⟨#[105, 116, 39, 115]⟩ = true := by decide
  have hA := fun (W : World) (hW : W.cell? ⟨1, 0, none⟩ = some (.int .i64 m)) => Tryz.strings_ReplaceAll ⟨#[105, 116, 39, 115]⟩ ⟨#[39]⟩ ⟨#[39, 39]⟩ m W (by decide) hW (by decide) (by decide)
  have hB : (⟨(Lib.replaceAll [105, 116, 39, 115] [39] [39, 39]).toArray⟩ : ByteArray) = ⟨#[105, 116, 39, 39, 115]⟩ := by decide
  simp only [] at hA
  rw [hB] at hA
  have hlt : 1 < w.heap.size := World.block_lt_of_cell? w _ hm
  go_enter Tryz.func74, Tryz.ntmps74
  go_wp2_with (first
    | (go_at_call 93; refine (may_t _ _ _ _ hmay).mono ?_; rintro e w1 ⟨rfl, hb1⟩; have hc1 := (bcell hb1).1; have hf1 := (bcell hb1).2; have hy1 := hb1.size; (try simp at hy1); have hz1_0 : w.heap.size < w1.heap.size := (by omega))
    | (go_at_call 134; refine (hA _ (by exact (((((Below.refl w.heap.size w).alloc (Nat.le_refl _) _).trans (hb1.mono (by simp))).cell (p := ⟨1, 0, none⟩) hlt).trans hm))).mono ?_; rintro e w1 ⟨rfl, hb1⟩; have hc1 := (bcell hb1).1; have hf1 := (bcell hb1).2; have hy1 := hb1.size; (try simp at hy1); have hz1_0 : w.heap.size < w1.heap.size := (by omega)))
  go_ret
  refine ⟨rfl, ?_⟩
  repeat (first | (with_reducible exact Below.refl _ _) | ((with_reducible refine cSet3 ?_ ?_ _ _ _); (· ((try simp) <;> omega))) | (with_reducible refine Below.drew ?_) | ((with_reducible refine cAlloc ?_ ?_ _); (· ((try simp) <;> omega))) | ((with_reducible refine cOn (by assumption) ?_ ?_); (· ((try simp) <;> omega))))

theorem few_size {s : ByteArray} : (if 60 < s.size then s.extract 0 60 else s).size ≤ 60 := by
  split
  · simp; omega
  · omega
def fewS (s : ByteArray) : ByteArray := if 60 < s.size then s.extract 0 60 else s
set_option maxRecDepth 100000 in
set_option maxHeartbeats 800000 in
theorem few_any (k i : Int) (s : ByteArray) (w : World) (hs : s.size ≤ maxLen) :
    Calls Tryz.prog 33 #[.agg #[.int .i64 k, .int .i64 i, .string s]] w fun e w' => e = .returned (.agg #[.int .i64 k, .int .i64 i, .string (fewS s)]) ∧ Below w.heap.size w w' := by
  unfold maxLen at hs
  go_enter Tryz.func33, Tryz.ntmps33
  go_wp2
  · have e : fewS s = s.extract 0 60 := if_pos (by omega)
    rw [e]
    (refine bodyPost_ret (v := .agg #[.int .i64 k, .int .i64 i, .string (s.extract 0 60)]) ?_ rfl ⟨rfl, ?_⟩; (· (simp [results, Tryz.results33, go_sem]; done)))
    repeat (first | (with_reducible exact Below.refl _ _) | ((with_reducible refine cSet3 ?_ ?_ _ _ _); (· ((try simp) <;> omega))) | (with_reducible refine Below.drew ?_) | ((with_reducible refine cAlloc ?_ ?_ _); (· ((try simp) <;> omega))) | ((with_reducible refine cOn (by assumption) ?_ ?_); (· ((try simp) <;> omega))))
  · have e : fewS s = s := if_neg (by omega)
    rw [e]
    (refine bodyPost_ret (v := .agg #[.int .i64 k, .int .i64 i, .string s]) ?_ rfl ⟨rfl, ?_⟩; (· (simp [results, Tryz.results33, go_sem]; done)))
    repeat (first | (with_reducible exact Below.refl _ _) | ((with_reducible refine cSet3 ?_ ?_ _ _ _); (· ((try simp) <;> omega))) | (with_reducible refine Below.drew ?_) | ((with_reducible refine cAlloc ?_ ?_ _); (· ((try simp) <;> omega))) | ((with_reducible refine cOn (by assumption) ?_ ?_); (· ((try simp) <;> omega))))

theorem fewS_size (s : ByteArray) : (fewS s).size ≤ 60 := few_size

end Go.Proofs.YtmgcmiflbjhakaaGreatDoor

/- Boxes that hold values, however many; what the laws' walks carry from region to region. -/
namespace Go.Proofs.YtmgcmiflbjhakaaGreatDoor
open Go.RowKit Go.Lib

/-- Block b holds this value. -/
structure At3 (W : World) (b : Nat) (k i : Int) (s : ByteArray) : Prop where
  k : W.cell? ⟨b, 0, none⟩ = some (.int .i64 k)
  i : W.cell? ⟨b, 1, none⟩ = some (.int .i64 i)
  s : W.cell? ⟨b, 2, none⟩ = some (.string s)

theorem At3.lt {W : World} {b : Nat} {k i : Int} {s : ByteArray} (h : At3 W b k i s) : b < W.heap.size := World.block_lt_of_cell? W _ h.k
theorem At3.later {W W' : World} {b : Nat} {k i : Int} {s : ByteArray} (h : At3 W b k i s) (hb : Below W.heap.size W W') : At3 W' b k i s :=
  ⟨(hb.cell (p := ⟨b, _, none⟩) h.lt).trans h.k, (hb.cell (p := ⟨b, _, none⟩) h.lt).trans h.i, (hb.cell (p := ⟨b, _, none⟩) h.lt).trans h.s⟩
theorem At3.drew {W : World} {b : Nat} {k i : Int} {s : ByteArray} (h : At3 W b k i s) : At3 W.drew b k i s := ⟨h.k, h.i, h.s⟩
theorem At3.alloc {W : World} {b : Nat} {k i : Int} {s : ByteArray} (h : At3 W b k i s) (o : Obj) : At3 (W.alloc o) b k i s := h.later ((Below.refl _ _).alloc (Nat.le_refl _) o)
theorem At3.new {W : World} {b : Nat} {k i : Int} {s : ByteArray} {t : TypeId} (hb : b = W.heap.size) : At3 (W.alloc (.cells #[.int .i64 k, .int .i64 i, .string s] t)) b k i s := by
  subst hb
  exact ⟨by simp [go_sem], by simp [go_sem], by simp [go_sem]⟩
theorem At3.set_same {W : World} {b : Nat} {k i : Int} {s : ByteArray} (h : At3 W b k i s) (K I : Int) (S : ByteArray) :
    At3 (((W.setCell ⟨b, 0, none⟩ (.int .i64 K)).setCell ⟨b, 1, none⟩ (.int .i64 I)).setCell ⟨b, 2, none⟩ (.string S)) b K I S := by
  have h1 := h.k
  have h2 := h.i
  have h3 := h.s
  exact ⟨by simp [go_sem, *], by simp [go_sem, *], by simp [go_sem, *]⟩
theorem At3.set_other {W : World} {b b' : Nat} {k i : Int} {s : ByteArray} (h : At3 W b k i s) (hne : b' ≠ b) (x y z : Value) :
    At3 (((W.setCell ⟨b', 0, none⟩ x).setCell ⟨b', 1, none⟩ y).setCell ⟨b', 2, none⟩ z) b k i s := by
  have e : ∀ (u : World) (o o' : Nat) (v : Value), (u.setCell ⟨b', o, none⟩ v).cell? ⟨b, o', none⟩ = u.cell? ⟨b, o', none⟩ := fun u o o' v => World.cell?_setCell_other _ _ _ _ (fun e => hne (by injection e))
  exact ⟨by rw [e, e, e]; exact h.k, by rw [e, e, e]; exact h.i, by rw [e, e, e]; exact h.s⟩

theorem At3.set_other' {W : World} {b b' : Nat} {k i : Int} {s : ByteArray} (hne : b' ≠ b) (h : At3 W b k i s) (x y z : Value) :
    At3 (((W.setCell ⟨b', 0, none⟩ x).setCell ⟨b', 1, none⟩ y).setCell ⟨b', 2, none⟩ z) b k i s := h.set_other hne x y z

/-- Block b holds some value. -/
def Box (W : World) (b : Nat) : Prop := ∃ k i s, At3 W b k i s
theorem Box.of {W : World} {b : Nat} {k i : Int} {s : ByteArray} (h : At3 W b k i s) : Box W b := ⟨_, _, _, h⟩
theorem Box.drew {W : World} {b : Nat} (h : Box W b) : Box W.drew b := by obtain ⟨_, _, _, h⟩ := h; exact .of h.drew
theorem Box.alloc {W : World} {b : Nat} (h : Box W b) (o : Obj) : Box (W.alloc o) b := by obtain ⟨_, _, _, h⟩ := h; exact .of (h.alloc o)
theorem Box.set {W : World} {b : Nat} (h : Box W b) (K I : Int) (S : ByteArray) : At3 (((W.setCell ⟨b, 0, none⟩ (.int .i64 K)).setCell ⟨b, 1, none⟩ (.int .i64 I)).setCell ⟨b, 2, none⟩ (.string S)) b K I S := by
  obtain ⟨_, _, _, h⟩ := h; exact h.set_same K I S
theorem Box.set_other {W : World} {b b' : Nat} (hne : b' ≠ b) (h : Box W b) (x y z : Value) : Box (((W.setCell ⟨b', 0, none⟩ x).setCell ⟨b', 1, none⟩ y).setCell ⟨b', 2, none⟩ z) b := by
  obtain ⟨_, _, _, h⟩ := h; exact .of (h.set_other hne x y z)

theorem wlt {w W : World} {n : Nat} (hb : Below w.heap.size w W) (h : n < w.heap.size) : n < W.heap.size := Nat.lt_of_lt_of_le h hb.size

theorem hK_null : hK 0 0 ⟨#[]⟩ = 0 := by unfold hK; split <;> rfl
theorem alike_null_r (k i : Int) (s : ByteArray) : alikeB k i s 0 0 ⟨#[]⟩ = false := by
  unfold alikeB; rw [hK_null]; cases h : decide (hK k i s = 0) with
  | true => rw [of_decide_eq_true h]; rfl
  | false => rfl
theorem alike_null_l (k i : Int) (s : ByteArray) : alikeB 0 0 ⟨#[]⟩ k i s = false := by
  unfold alikeB; rw [hK_null]; simp
theorem nums_null_l (k i : Int) (s : ByteArray) : numsB 0 0 ⟨#[]⟩ k i s = false := by unfold numsB; rw [hK_null]; rfl
theorem nums_null_r (k i : Int) (s : ByteArray) : numsB k i s 0 0 ⟨#[]⟩ = false := by unfold numsB; rw [hK_null]; simp
end Go.Proofs.YtmgcmiflbjhakaaGreatDoor

/- What is known of the order of values, with no walk. -/
namespace Go.Proofs.YtmgcmiflbjhakaaGreatDoor
open Go.RowKit Go.Lib

theorem cmpInt_anti (x y : Int) : Lib.compareInt y x = -Lib.compareInt x y := by unfold Lib.compareInt; repeat (split <;> try omega)
theorem cmpInt_bd (x y : Int) : -1 ≤ Lib.compareInt x y ∧ Lib.compareInt x y ≤ 1 := by unfold Lib.compareInt; split <;> (try split) <;> omega
theorem cmpBytes_anti : ∀ (a b : List UInt8), Lib.compareBytes b a = -Lib.compareBytes a b
  | [], [] => rfl
  | [], _ :: _ => rfl
  | _ :: _, [] => rfl
  | x :: a, y :: b => by
    simp only [Lib.compareBytes]
    by_cases h1 : x < y
    · have h2 : ¬ y < x := fun h => by rw [UInt8.lt_iff_toNat_lt] at h h1; omega
      simp [h1, h2]
    · by_cases h2 : y < x
      · simp [h1, h2]
      · simp only [h1, h2, if_false]
        exact cmpBytes_anti a b
theorem cmpBytes_bd : ∀ (a b : List UInt8), -1 ≤ Lib.compareBytes a b ∧ Lib.compareBytes a b ≤ 1
  | [], [] => by simp [Lib.compareBytes]
  | [], _ :: _ => by simp [Lib.compareBytes]
  | _ :: _, [] => by simp [Lib.compareBytes]
  | x :: a, y :: b => by
    simp only [Lib.compareBytes]
    split
    · omega
    · split
      · omega
      · exact cmpBytes_bd a b
theorem or3_neg (x y z : Int) : or3 (-x) (-y) (-z) = -or3 x y z := by unfold or3; repeat (split <;> try omega)
theorem ord_anti (k i : Int) (s : ByteArray) (k' i' : Int) (s' : ByteArray) : ordN k' i' s' k i s = -ordN k i s k' i' s' := by
  unfold ordN ordH
  rw [cmpInt_anti (hK k i s) (hK k' i' s'), cmpInt_anti (hI k i s) (hI k' i' s'), cmpBytes_anti, or3_neg]
theorem ord_bd (k i : Int) (s : ByteArray) (k' i' : Int) (s' : ByteArray) : -1 ≤ ordN k i s k' i' s' ∧ ordN k i s k' i' s' ≤ 1 := by
  unfold ordN ordH or3
  split
  · exact cmpInt_bd _ _
  · split
    · exact cmpInt_bd _ _
    · exact cmpBytes_bd _ _
theorem alike_comm (k i : Int) (s : ByteArray) (k' i' : Int) (s' : ByteArray) : alikeB k' i' s' k i s = alikeB k i s k' i' s' := by
  unfold alikeB
  by_cases h : hK k i s = hK k' i' s'
  · rw [h]
  · simp [h, Ne.symm h]
theorem b2i_bd (b : Bool) : 0 ≤ b2i b ∧ b2i b ≤ 1 := by cases b <;> decide
/-- Just one holds. -/
theorem one_of_three (k i : Int) (s : ByteArray) (k' i' : Int) (s' : ByteArray) :
    b2i (decide (ordN k i s k' i' s' < 0)) + b2i (decide (ordN k' i' s' k i s < 0)) + b2i (ordN k i s k' i' s' == 0) = 1 := by
  rw [ord_anti k i s k' i' s']
  generalize ordN k i s k' i' s' = o
  unfold b2i
  by_cases h1 : o < 0
  · rw [decide_eq_true h1, decide_eq_false (show ¬ (-o < 0) by omega), beq_eq_false_iff_ne.2 (show o ≠ 0 by omega)]; rfl
  · by_cases h2 : o = 0
    · subst h2; decide
    · rw [decide_eq_false h1, decide_eq_true (show -o < 0 by omega), beq_eq_false_iff_ne.2 h2]; rfl

/-- A variable that a region has made. -/
def newR (u : Value) (F : List Nat) (w : World) : Prop := ∃ b, F = [b] ∧ u = .pointer (some ⟨b, 0, none⟩) ∧ At3 w b 0 0 ⟨#[]⟩ ∧ ∀ o, w.frozen? ⟨b, o, none⟩ = false
theorem newR_lasting : ∀ u F, Lasting (newR u F) := by
  rintro u F w w' hb ⟨b, h1, h2, h3, h4⟩
  exact ⟨b, h1, h2, h3.later hb, fun o => (hb.frozen (p := ⟨b, o, none⟩) h3.lt).trans (h4 o)⟩
theorem newR_at {v : Value} {b : Nat} {w : World} (h : newR v [b] w) : At3 w b 0 0 ⟨#[]⟩ ∧ ∀ o, w.frozen? ⟨b, o, none⟩ = false := by
  obtain ⟨b', e, _, h⟩ := h
  obtain rfl : b = b' := by injection e
  exact h
theorem newR_made {P : Program} {w : World} {t : TypeId} : Rel1 P newR w (.ok (.value (.pointer (some ⟨w.heap.size, 0, none⟩))) (w.alloc (.cells #[.int .i64 0, .int .i64 0, .string ⟨#[]⟩] t))) :=
  ⟨[w.heap.size], ⟨_, rfl, rfl, At3.new rfl, fun o => by simp [go_sem]⟩, by simp, (Below.refl _ _).alloc (Nat.le_refl _) _⟩
end Go.Proofs.YtmgcmiflbjhakaaGreatDoor

/- The order of values goes on from one to the next; the same are equal. No walk. -/
namespace Go.Proofs.YtmgcmiflbjhakaaGreatDoor
open Go.RowKit Go.Lib

/-- A way of comparing goes on: of three, the third pair is as the first two say. -/
def Goes (x y z : Int) : Prop := 0 < x ∨ 0 < y ∨ z < 0 ∨ (z = 0 ∧ x = 0 ∧ y = 0)
theorem goes_of {x y z : Int} (h : x ≤ 0 → y ≤ 0 → z ≤ 0 ∧ (z = 0 → x = 0 ∧ y = 0)) : Goes x y z := by
  unfold Goes
  by_cases h1 : x ≤ 0
  · by_cases h2 : y ≤ 0
    · have := h h1 h2
      by_cases h3 : z = 0
      · exact .inr (.inr (.inr ⟨h3, this.2 h3⟩))
      · exact .inr (.inr (.inl (by omega)))
    · exact .inr (.inl (by omega))
  · exact .inl (by omega)
theorem cmpInt_goes (a b c : Int) : Goes (Lib.compareInt a b) (Lib.compareInt b c) (Lib.compareInt a c) := by
  have e : ∀ x y : Int, (x < y ∧ Lib.compareInt x y = -1) ∨ (y < x ∧ Lib.compareInt x y = 1) ∨ (x = y ∧ Lib.compareInt x y = 0) := by
    intro x y
    unfold Lib.compareInt
    by_cases h : x < y
    · exact .inl ⟨h, if_pos h⟩
    · by_cases h' : x > y
      · exact .inr (.inl ⟨h', by rw [if_neg h, if_pos h']⟩)
      · exact .inr (.inr ⟨by omega, by rw [if_neg h, if_neg h']⟩)
  have h1 := e a b
  have h2 := e b c
  have h3 := e a c
  unfold Goes
  omega
theorem cmpBytes_goes : ∀ (a b c : List UInt8), Goes (Lib.compareBytes a b) (Lib.compareBytes b c) (Lib.compareBytes a c)
  | [], [], [] => by simp [Goes, Lib.compareBytes]
  | [], [], _ :: _ => by simp [Goes, Lib.compareBytes]
  | [], _ :: _, [] => by simp [Goes, Lib.compareBytes]
  | [], _ :: _, _ :: _ => by simp [Goes, Lib.compareBytes]
  | _ :: _, [], _ => by simp [Goes, Lib.compareBytes]
  | _ :: _, _ :: _, [] => by simp [Goes, Lib.compareBytes]
  | x :: a, y :: b, z :: c => by
    have ih := cmpBytes_goes a b c
    simp only [Lib.compareBytes]
    by_cases e1 : x < y
    · by_cases e2 : y < z
      · have e3 : x < z := by rw [UInt8.lt_iff_toNat_lt] at *; omega
        simp [Goes, e3]
      · by_cases e4 : z < y
        · simp [Goes, e2, e4]
        · have e3 : x < z := by rw [UInt8.lt_iff_toNat_lt] at *; omega
          simp [Goes, e3]
    · by_cases e5 : y < x
      · simp [Goes, e1, e5]
      · by_cases e2 : y < z
        · have e3 : x < z := by rw [UInt8.lt_iff_toNat_lt] at *; omega
          simp [Goes, e3]
        · by_cases e4 : z < y
          · simp [Goes, e2, e4]
          · have e6 : ¬ x < z := by rw [UInt8.lt_iff_toNat_lt] at *; omega
            have e7 : ¬ z < x := by rw [UInt8.lt_iff_toNat_lt] at *; omega
            simp only [e1, e5, e2, e4, e6, e7, if_false]
            exact ih
theorem or3_goes {x1 x2 x3 y1 y2 y3 z1 z2 z3 : Int} (h1 : Goes x1 y1 z1) (h2 : Goes x2 y2 z2) (h3 : Goes x3 y3 z3) : Goes (or3 x1 x2 x3) (or3 y1 y2 y3) (or3 z1 z2 z3) := by
  unfold Goes at h1 h2 h3 ⊢
  unfold or3
  by_cases p1 : x1 = 0 <;> by_cases q1 : y1 = 0 <;> by_cases p2 : x2 = 0 <;> by_cases q2 : y2 = 0 <;> by_cases r1 : z1 = 0 <;> by_cases r2 : z2 = 0 <;>
    simp only [p1, q1, p2, q2, r1, r2, ne_eq, not_true_eq_false, not_false_eq_true, if_true, if_false] <;> omega
theorem goes_le {x y z : Int} (h : Goes x y z) (h1 : x ≤ 0) (h2 : y ≤ 0) : z ≤ 0 := by unfold Goes at h; omega
theorem ord_goes (k i : Int) (s : ByteArray) (k' i' : Int) (s' : ByteArray) (k'' i'' : Int) (s'' : ByteArray) (h1 : ordN k i s k' i' s' ≤ 0) (h2 : ordN k' i' s' k'' i'' s'' ≤ 0) : ordN k i s k'' i'' s'' ≤ 0 :=
  goes_le (or3_goes (cmpInt_goes _ _ _) (cmpInt_goes _ _ _) (cmpBytes_goes _ _ _)) h1 h2
theorem cmpInt_zero (a b : Int) : Lib.compareInt a b = 0 ↔ a = b := by unfold Lib.compareInt; repeat' split <;> omega
theorem cmpBytes_zero : ∀ (a b : List UInt8), Lib.compareBytes a b = 0 ↔ a = b
  | [], [] => by simp [Lib.compareBytes]
  | [], _ :: _ => by simp [Lib.compareBytes]
  | _ :: _, [] => by simp [Lib.compareBytes]
  | x :: a, y :: b => by
    simp only [Lib.compareBytes, List.cons.injEq]
    by_cases e1 : x < y
    · have : x ≠ y := fun h => by subst h; exact absurd e1 (UInt8.lt_irrefl _)
      simp [e1, this]
    · by_cases e2 : y < x
      · have : x ≠ y := fun h => by subst h; exact absurd e2 (UInt8.lt_irrefl _)
        simp [e1, e2, this]
      · have : x = y := by rw [UInt8.lt_iff_toNat_lt] at e1 e2; exact UInt8.toNat_inj.1 (by omega)
        rw [if_neg e1, if_neg e2, cmpBytes_zero a b]
        simp [this]
theorem or3_zero (x y z : Int) : or3 x y z = 0 ↔ x = 0 ∧ y = 0 ∧ z = 0 := by
  unfold or3
  by_cases h1 : x = 0 <;> by_cases h2 : y = 0 <;> simp [h1, h2]
theorem ordH_zero (k i : Int) (s : ByteArray) (k' i' : Int) (s' : ByteArray) : ordH k i s k' i' s' = 0 ↔ k = k' ∧ i = i' ∧ s = s' := by
  unfold ordH
  rw [or3_zero, cmpInt_zero, cmpInt_zero, cmpBytes_zero]
  constructor
  · rintro ⟨h1, h2, h3⟩
    exact ⟨h1, h2, ByteArray.ext (Array.toList_inj.1 h3)⟩
  · rintro ⟨h1, h2, h3⟩
    exact ⟨h1, h2, by rw [h3]⟩
theorem ord_zero (k i : Int) (s : ByteArray) (k' i' : Int) (s' : ByteArray) (h : mayB k i s = true) (h' : mayB k' i' s' = true) : ordN k i s k' i' s' = 0 ↔ k = k' ∧ i = i' ∧ s = s' := by
  unfold ordN hK hI hS
  rw [if_pos h, if_pos h, if_pos h, if_pos h', if_pos h', if_pos h', ordH_zero]
end Go.Proofs.YtmgcmiflbjhakaaGreatDoor

/- Sums and differences of 64 bits: what is known of them with no walk. -/
namespace Go.Proofs.YtmgcmiflbjhakaaGreatDoor
open Go.RowKit Go.Lib

def In64 (a : Int) : Prop := -9223372036854775808 ≤ a ∧ a ≤ 9223372036854775807
theorem wrap_in {n : Int} (h : In64 n) : wrap64 n = n := IntWalk.wrap64_in n ⟨h.1, h.2⟩
theorem wrap_over {n : Int} (h : 9223372036854775808 ≤ n) (h' : n ≤ 18446744073709551615) : wrap64 n = n - 18446744073709551616 := by
  unfold wrap64; omega
theorem wrap_under {n : Int} (h : n < -9223372036854775808) (h' : -18446744073709551616 ≤ n) : wrap64 n = n + 18446744073709551616 := by
  unfold wrap64; omega
theorem badPlus_in {a b : Int} (h : In64 (a + b)) : badPlus a b = false := by
  unfold badPlus
  rw [wrap_in h]
  have : decide (a < a + b) = decide (0 < b) := by rw [decide_eq_decide]; omega
  rw [this]; cases decide (0 < b) <;> rfl
theorem badPlus_out {a b : Int} (ha : In64 a) (hb : In64 b) (h : ¬ In64 (a + b)) : badPlus a b = true := by
  unfold badPlus
  unfold In64 at *
  by_cases h1 : 9223372036854775808 ≤ a + b
  · rw [wrap_over h1 (by omega), decide_eq_false (by omega), decide_eq_true (by omega)]; rfl
  · rw [wrap_under (by omega) (by omega), decide_eq_true (by omega), decide_eq_false (by omega)]; rfl
theorem badMinus_in {a b : Int} (h : In64 (a - b)) : badMinus a b = false := by
  unfold badMinus
  rw [wrap_in h]
  have : decide (a - b < a) = decide (0 < b) := by rw [decide_eq_decide]; omega
  rw [this]; cases decide (0 < b) <;> rfl
theorem badMinus_out {a b : Int} (ha : In64 a) (hb : In64 b) (h : ¬ In64 (a - b)) : badMinus a b = true := by
  unfold badMinus
  unfold In64 at *
  by_cases h1 : 9223372036854775808 ≤ a - b
  · rw [wrap_over h1 (by omega), decide_eq_true (by omega), decide_eq_false (by omega)]; rfl
  · rw [wrap_under (by omega) (by omega), decide_eq_false (by omega), decide_eq_true (by omega)]; rfl

theorem badPlus_eq {a b : Int} (ha : In64 a) (hb : In64 b) : (badPlus a b = false ↔ In64 (a + b)) := by
  refine ⟨fun h => ?_, badPlus_in⟩
  by_cases h1 : In64 (a + b)
  · exact h1
  · rw [badPlus_out ha hb h1] at h; cases h
theorem badMinus_eq {a b : Int} (ha : In64 a) (hb : In64 b) : (badMinus a b = false ↔ In64 (a - b)) := by
  refine ⟨fun h => ?_, badMinus_in⟩
  by_cases h1 : In64 (a - b)
  · exact h1
  · rw [badMinus_out ha hb h1] at h; cases h
theorem in64_of_wf {a : Int} (h : (Lit.int .i64 a).wf = true) : In64 a := by
  simp only [Lit.wf, IntKind.min, IntKind.max, IntKind.signed, IntKind.bits, Bool.and_eq_true, decide_eq_true_eq, if_true] at h
  unfold In64; omega

theorem nums1 (i i' : Int) : numsB 1 i ⟨#[]⟩ 1 i' ⟨#[]⟩ = true := nums_int i i'

theorem num_plus_ok (a b : Int) (w : World) (ha : In64 a) (hb : In64 b) (h : In64 (a + b)) :
    Calls Tryz.prog 60 #[.agg #[.int .i64 1, .int .i64 a, .string ⟨#[]⟩], .agg #[.int .i64 1, .int .i64 b, .string ⟨#[]⟩]] w fun e w' => e = .returned (.agg #[.int .i64 1, .int .i64 (a + b), .string ⟨#[]⟩]) ∧ Below w.heap.size w w' := by
  have h1 := plus_yes 1 a ⟨#[]⟩ 1 b ⟨#[]⟩ w (nums_int _ _) (badPlus_in h)
  rw [wrap_in h] at h1
  exact h1
theorem num_plus_bad (a b : Int) (w : World) (ha : In64 a) (hb : In64 b) (h : ¬ In64 (a + b)) :
    Calls Tryz.prog 60 #[.agg #[.int .i64 1, .int .i64 a, .string ⟨#[]⟩], .agg #[.int .i64 1, .int .i64 b, .string ⟨#[]⟩]] w fun e w' => e = .returned (.agg #[.int .i64 0, .int .i64 0, .string ⟨#[]⟩]) ∧ Below w.heap.size w w' :=
  plus_bad 1 a ⟨#[]⟩ 1 b ⟨#[]⟩ w (nums_int _ _) (badPlus_out ha hb h)
theorem num_minus_ok (a b : Int) (w : World) (ha : In64 a) (hb : In64 b) (h : In64 (a - b)) :
    Calls Tryz.prog 61 #[.agg #[.int .i64 1, .int .i64 a, .string ⟨#[]⟩], .agg #[.int .i64 1, .int .i64 b, .string ⟨#[]⟩]] w fun e w' => e = .returned (.agg #[.int .i64 1, .int .i64 (a - b), .string ⟨#[]⟩]) ∧ Below w.heap.size w w' := by
  have h1 := minus_yes 1 a ⟨#[]⟩ 1 b ⟨#[]⟩ w (nums_int _ _) (badMinus_in h)
  rw [wrap_in h] at h1
  exact h1
theorem num_minus_bad (a b : Int) (w : World) (ha : In64 a) (hb : In64 b) (h : ¬ In64 (a - b)) :
    Calls Tryz.prog 61 #[.agg #[.int .i64 1, .int .i64 a, .string ⟨#[]⟩], .agg #[.int .i64 1, .int .i64 b, .string ⟨#[]⟩]] w fun e w' => e = .returned (.agg #[.int .i64 0, .int .i64 0, .string ⟨#[]⟩]) ∧ Below w.heap.size w w' :=
  minus_bad 1 a ⟨#[]⟩ 1 b ⟨#[]⟩ w (nums_int _ _) (badMinus_out ha hb h)
theorem num_plus_sw (a b : Int) (w : World) (ha : In64 a) (hb : In64 b) (h : In64 (a + b)) :
    Calls Tryz.prog 60 #[.agg #[.int .i64 1, .int .i64 b, .string ⟨#[]⟩], .agg #[.int .i64 1, .int .i64 a, .string ⟨#[]⟩]] w fun e w' => e = .returned (.agg #[.int .i64 1, .int .i64 (a + b), .string ⟨#[]⟩]) ∧ Below w.heap.size w w' := by
  rw [Int.add_comm a b] at h ⊢
  exact num_plus_ok b a w hb ha h
theorem num_plus_swbad (a b : Int) (w : World) (ha : In64 a) (hb : In64 b) (h : ¬ In64 (a + b)) :
    Calls Tryz.prog 60 #[.agg #[.int .i64 1, .int .i64 b, .string ⟨#[]⟩], .agg #[.int .i64 1, .int .i64 a, .string ⟨#[]⟩]] w fun e w' => e = .returned (.agg #[.int .i64 0, .int .i64 0, .string ⟨#[]⟩]) ∧ Below w.heap.size w w' := by
  rw [Int.add_comm a b] at h
  exact num_plus_bad b a w hb ha h
/-- What is added and taken away again. -/
theorem num_back (a b : Int) (w : World) (ha : In64 a) (hb : In64 b) (h : In64 (a + b)) :
    Calls Tryz.prog 61 #[.agg #[.int .i64 1, .int .i64 (a + b), .string ⟨#[]⟩], .agg #[.int .i64 1, .int .i64 b, .string ⟨#[]⟩]] w fun e w' => e = .returned (.agg #[.int .i64 1, .int .i64 a, .string ⟨#[]⟩]) ∧ Below w.heap.size w w' := by
  have h1 := num_minus_ok (a + b) b w h hb (by rw [Int.add_sub_cancel]; exact ha)
  rw [Int.add_sub_cancel] at h1
  exact h1
theorem num_forth (a b : Int) (w : World) (ha : In64 a) (hb : In64 b) (h : In64 (a - b)) :
    Calls Tryz.prog 60 #[.agg #[.int .i64 1, .int .i64 (a - b), .string ⟨#[]⟩], .agg #[.int .i64 1, .int .i64 b, .string ⟨#[]⟩]] w fun e w' => e = .returned (.agg #[.int .i64 1, .int .i64 a, .string ⟨#[]⟩]) ∧ Below w.heap.size w w' := by
  have h1 := num_plus_ok (a - b) b w h hb (by rw [Int.sub_add_cancel]; exact ha)
  rw [Int.sub_add_cancel] at h1
  exact h1
theorem num_self (a : Int) (w : World) (ha : In64 a) :
    Calls Tryz.prog 61 #[.agg #[.int .i64 1, .int .i64 a, .string ⟨#[]⟩], .agg #[.int .i64 1, .int .i64 a, .string ⟨#[]⟩]] w fun e w' => e = .returned (.agg #[.int .i64 1, .int .i64 0, .string ⟨#[]⟩]) ∧ Below w.heap.size w w' := by
  have e : a - a = 0 := by omega
  have h1 := num_minus_ok a a w ha ha (by rw [e]; unfold In64; omega)
  rw [e] at h1
  exact h1
end Go.Proofs.YtmgcmiflbjhakaaGreatDoor

/- The octets of a text that may be; the document's own May and good. -/
namespace Go.Proofs.YtmgcmiflbjhakaaGreatDoor
open Go.RowKit Go.Lib

def okO (c : UInt8) : Bool := decide (32 ≤ c.toNat) && decide (c.toNat ≤ 126)
def allO (s : ByteArray) : Bool := s.data.toList.all okO
/-- The first n octets are those of a text. -/
def okTo (s : ByteArray) (n : Nat) : Prop := ∀ j, j < n → okO (s.get! j) = true

theorem decode_lo (s : ByteArray) (i : Nat) (h : (s.get! i).toNat < 128) : Utf8.decode s i = ((s.get! i).toNat, 1) := by
  rw [decode_at, decodeN, if_pos h]
theorem decode_hi (s : ByteArray) (i : Nat) (h : 128 ≤ (s.get! i).toNat) : 128 ≤ (Utf8.decode s i).1 := by
  rw [decode_at]
  unfold decodeN
  repeat' split
  all_goals (simp only; omega)
theorem out_ok (s : ByteArray) (i : Nat) : outP (Utf8.decode s i).1 = !okO (s.get! i) := by
  unfold outP okO
  by_cases h : (s.get! i).toNat < 128
  · rw [decode_lo s i h]
    generalize (s.get! i).toNat = n
    rw [Bool.eq_iff_iff]; simp; omega
  · have := decode_hi s i (by omega)
    rw [Bool.eq_iff_iff]; simp; omega
theorem idx_out (s : ByteArray) : ∀ (f pos : Nat), s.size ≤ pos + f → (0 ≤ Lib.idxFuncFrom outP true s f pos ↔ ∃ j, pos ≤ j ∧ j < s.size ∧ okO (s.get! j) = false)
  | 0, pos, h => by simp [Lib.idxFuncFrom]; omega
  | f + 1, pos, h => by
    rw [Lib.idxFuncFrom]
    by_cases hp : pos < s.size
    · rw [if_pos hp]
      cases ho : okO (s.get! pos) with
      | false => rw [out_ok, ho]; simp only [Bool.not_false, if_true]; exact ⟨fun _ => ⟨pos, Nat.le_refl _, hp, ho⟩, fun _ => by omega⟩
      | true =>
        have hlo : (s.get! pos).toNat < 128 := by unfold okO at ho; simp at ho; omega
        rw [out_ok, ho]
        simp only [Bool.not_true, Bool.false_eq_true, if_false]
        rw [decode_lo s pos hlo, idx_out s f (pos + 1) (by omega)]
        constructor
        · rintro ⟨j, h1, h2, h3⟩; exact ⟨j, by omega, h2, h3⟩
        · rintro ⟨j, h1, h2, h3⟩
          refine ⟨j, ?_, h2, h3⟩
          by_cases hj : j = pos
          · subst hj; rw [ho] at h3; cases h3
          · omega
    · rw [if_neg hp]
      constructor
      · intro h; omega
      · rintro ⟨j, h1, h2, _⟩; omega
theorem allO_iff (s : ByteArray) : allO s = true ↔ okTo s s.size := by
  unfold allO okTo
  rw [List.all_eq_true]
  constructor
  · intro h j hj
    refine h _ ?_
    have : s.get! j = s.data[j]'hj := by simp [ByteArray.get!, hj]
    rw [this]; simp
  · intro h x hx
    obtain ⟨j, hj, rfl⟩ := List.getElem_of_mem hx
    have hj' : j < s.size := by simpa using hj
    have := h j hj'
    rw [show s.get! j = s.data[j]'hj' by simp [ByteArray.get!, hj']] at this
    simpa using this
theorem txt_all (s : ByteArray) : txtB s = allO s := by
  unfold txtB Lib.idxFunc
  have h := idx_out s s.size 0 (by omega)
  cases ha : allO s with
  | true =>
    have ho := (allO_iff s).1 ha
    have : ¬ (0 ≤ Lib.idxFuncFrom outP true s s.size 0) := fun h' => by
      obtain ⟨j, _, hj, hf⟩ := h.1 h'
      rw [ho j hj] at hf; cases hf
    simp [this]
  | false =>
    have : 0 ≤ Lib.idxFuncFrom outP true s s.size 0 := by
      refine h.2 (Classical.byContradiction fun hn => ?_)
      have : allO s = true := (allO_iff s).2 fun j hj => by
        cases ho : okO (s.get! j) with
        | true => rfl
        | false => exact absurd ⟨j, Nat.zero_le _, hj, ho⟩ hn
      rw [ha] at this; cases this
    simp [this]

theorem toList_data (s : ByteArray) : s.toList = s.data.toList := ByteArray.toList_eq s
/-- One that has an octet that is none may not be. -/
theorem may_bad (k i : Int) (s : ByteArray) (h : allO s = false) : mayB k i s = false := by
  have hne : s.toList.isEmpty = false := by
    cases he : s.toList.isEmpty with
    | false => rfl
    | true =>
      rw [toList_data] at he
      unfold allO at h
      rw [List.isEmpty_iff.1 he] at h
      cases h
  unfold mayB
  rw [txt_all, h, hne]
  simp
/-- One that has none such. -/
def mayA (k i : Int) (s : ByteArray) : Bool :=
  if k = 0 then decide (i = 0) && s.toList.isEmpty else if k = 1 then s.toList.isEmpty else if k = 2 then decide (i = 0) && decide (s.size ≤ 40) else if k = 3 then s.toList.isEmpty && (decide (i = 0) || decide (i = 1)) else false
theorem may_good (k i : Int) (s : ByteArray) (h : allO s = true) : mayB k i s = mayA k i s := by
  unfold mayB mayA
  rw [txt_all, h]
  simp
theorem okTo_succ {s : ByteArray} {n : Nat} (h : okTo s n) (ho : okO (s.get! n) = true) : okTo s (n + 1) := fun j hj => by
  by_cases e : j = n
  · rw [e]; exact ho
  · exact h j (by omega)
theorem okTo_bad {s : ByteArray} {n : Nat} (hn : n < s.size) (ho : okO (s.get! n) = false) : allO s = false := by
  cases ha : allO s with
  | false => rfl
  | true => have := (allO_iff s).1 ha n hn; rw [ho] at this; cases this
theorem get_at (s : ByteArray) (n : Nat) (h : n < s.size) : s.get! n = s[n] := by
  show s.data[n]! = s.data[n]
  exact getElem!_pos _ _ _

set_option maxHeartbeats 800000 in
theorem rmay_any (k i : Int) (s : ByteArray) (w : World) (hs : s.size ≤ maxLen) :
    Calls Tryz.prog 106 #[.agg #[.int .i64 k, .int .i64 i, .string s]] w fun e w' => e = .returned (.bool (mayB k i s)) ∧ Below w.heap.size w w' := by
  unfold maxLen at hs
  go_enter Tryz.func106, Tryz.ntmps106
  go_wp2
  go_loop [3] (fun t => ∃ n : Nat, n ≤ s.size ∧ okTo s n ∧ t = .int .i64 n) (fun t => s.size - (intOf t).toNat)
  case atStart => exact ⟨0, Nat.zero_le _, fun j hj => absurd hj (by omega), rfl⟩
  case round =>
    obtain ⟨n, hn, hok, rfl⟩ := hrel
    by_cases hlt : n < s.size
    · have hg := get_at s n hlt
      by_cases h1 : (s[n].toNat : Int) < 32
      · have hbad : mayB k i s = false := may_bad k i s (okTo_bad hlt (by rw [hg]; unfold okO; simp; omega))
        have HB := Lib.hid hbad
        clear hbad hg
        go_wp2
        go_ret
        exact ⟨ret_bool HB.out.symm, (Below.refl _ _).alloc (Nat.le_refl _) _⟩
      · by_cases h2 : (126 : Int) < (s[n].toNat : Int)
        · have hbad : mayB k i s = false := may_bad k i s (okTo_bad hlt (by rw [hg]; unfold okO; simp; omega))
          have HB := Lib.hid hbad
          clear hbad hg
          go_wp2
          go_ret
          exact ⟨ret_bool HB.out.symm, (Below.refl _ _).alloc (Nat.le_refl _) _⟩
        · have hok' : okTo s (n + 1) := okTo_succ hok (by rw [hg]; unfold okO; simp; omega)
          clear hg hok
          go_wp2
          go_round
          case rel => exact ⟨n + 1, by omega, hok', by go_num⟩
          case measure => simp [intOf]; omega
    · have hall : allO s = true := (allO_iff s).2 fun j hj => hok j (by omega)
      have HB := Lib.hid (may_good k i s hall)
      clear hall hok
      go_wp2
      all_goals
        go_ret
        refine ⟨ret_bool ?_, (Below.refl _ _).alloc (Nat.le_refl _) _⟩
        (try subst_vars)
        rw [HB.out]
        clear HB
        simp_all [mayA] <;> (try omega) <;> (try (rw [Bool.eq_iff_iff]; simp; omega))
end Go.Proofs.YtmgcmiflbjhakaaGreatDoor

/- The document's own good, apart, Order, Equal, Less, Plus, Minus, Truth. -/
namespace Go.Proofs.YtmgcmiflbjhakaaGreatDoor
open Go.RowKit Go.Lib

set_option maxRecDepth 100000 in
set_option maxHeartbeats 800000 in
theorem rgood_t (k i : Int) (s : ByteArray) (w : World) (hs : s.size ≤ maxLen) (h : mayB k i s = true) :
    Calls Tryz.prog 63 #[.agg #[.int .i64 k, .int .i64 i, .string s]] w fun e w' => e = .returned (.agg #[.int .i64 k, .int .i64 i, .string s]) ∧ Below w.heap.size w w' := by
  have H := Lib.hid (And.intro h hs)
  clear h hs
  go_enter Tryz.func63, Tryz.ntmps63
  go_wp2_with (first
    | (go_at_call 106; refine ((rmay_any k i s _ H.out.2).mono (fun _ _ h => (H.out.1 ▸ h : _ = Ending.returned (.bool true) ∧ _))).mono ?_; rintro e w1 ⟨rfl, hb1⟩; have hc1 := (bcell hb1).1; have hf1 := (bcell hb1).2; have hy1 := hb1.size; (try simp at hy1); have hz1_0 : w.heap.size < w1.heap.size := (by omega); have hz1_1 : w.heap.size + 1 < w1.heap.size := (by omega)))
  (refine bodyPost_ret (v := .agg #[.int .i64 k, .int .i64 i, .string s]) ?_ rfl ⟨rfl, ?_⟩; (· (simp [results, Tryz.results63, go_sem, *]; done)))
  repeat (first | (with_reducible exact Below.refl _ _) | ((with_reducible refine cSet3 ?_ ?_ _ _ _); (· ((try simp) <;> omega))) | (with_reducible refine Below.drew ?_) | ((with_reducible refine cAlloc ?_ ?_ _); (· ((try simp) <;> omega))) | ((with_reducible refine cOn (by assumption) ?_ ?_); (· ((try simp) <;> omega))))

set_option maxRecDepth 100000 in
set_option maxHeartbeats 800000 in
theorem rgood_f (k i : Int) (s : ByteArray) (w : World) (hs : s.size ≤ maxLen) (h : mayB k i s = false) :
    Calls Tryz.prog 63 #[.agg #[.int .i64 k, .int .i64 i, .string s]] w fun e w' => e = .returned (.agg #[.int .i64 0, .int .i64 0, .string ⟨#[]⟩]) ∧ Below w.heap.size w w' := by
  have H := Lib.hid (And.intro h hs)
  clear h hs
  go_enter Tryz.func63, Tryz.ntmps63
  go_wp2_with (first
    | (go_at_call 106; refine ((rmay_any k i s _ H.out.2).mono (fun _ _ h => (H.out.1 ▸ h : _ = Ending.returned (.bool false) ∧ _))).mono ?_; rintro e w1 ⟨rfl, hb1⟩; have hc1 := (bcell hb1).1; have hf1 := (bcell hb1).2; have hy1 := hb1.size; (try simp at hy1); have hz1_0 : w.heap.size < w1.heap.size := (by omega); have hz1_1 : w.heap.size + 1 < w1.heap.size := (by omega)))
  (refine bodyPost_ret (v := .agg #[.int .i64 0, .int .i64 0, .string ⟨#[]⟩]) ?_ rfl ⟨rfl, ?_⟩; (· (simp [results, Tryz.results63, go_sem, *]; done)))
  repeat (first | (with_reducible exact Below.refl _ _) | ((with_reducible refine cSet3 ?_ ?_ _ _ _); (· ((try simp) <;> omega))) | (with_reducible refine Below.drew ?_) | ((with_reducible refine cAlloc ?_ ?_ _); (· ((try simp) <;> omega))) | ((with_reducible refine cOn (by assumption) ?_ ?_); (· ((try simp) <;> omega))))

theorem rgood_any (k i : Int) (s : ByteArray) (w : World) (hs : s.size ≤ maxLen) :
    Calls Tryz.prog 63 #[.agg #[.int .i64 k, .int .i64 i, .string s]] w fun e w' => e = .returned (.agg #[.int .i64 (hK k i s), .int .i64 (hI k i s), .string (hS k i s)]) ∧ Below w.heap.size w w' := by
  cases h : mayB k i s with
  | true =>
    have := rgood_t k i s w hs h
    unfold hK hI hS
    simp only [h, if_true]
    exact this
  | false =>
    have := rgood_f k i s w hs h
    unfold hK hI hS
    simp only [h, Bool.false_eq_true, if_false]
    exact this

set_option maxRecDepth 100000 in
set_option maxHeartbeats 800000 in
theorem rapart_any (k i : Int) (s : ByteArray) (k' i' : Int) (s' : ByteArray) (w : World) (hs : s.size ≤ maxLen) (hs' : s'.size ≤ maxLen) :
    Calls Tryz.prog 39 #[.agg #[.int .i64 k, .int .i64 i, .string s], .agg #[.int .i64 k', .int .i64 i', .string s']] w fun e w' => e = .returned (.bool (!alikeB k i s k' i' s')) ∧ Below w.heap.size w w' := by
  go_enter Tryz.func39, Tryz.ntmps39
  go_wp2
  refine detL_begin [.val (.agg #[.int .i64 k, .int .i64 i, .string s]), .val (.agg #[.int .i64 (hK k i s), .int .i64 (hI k i s), .string (hS k i s)]), .val (.agg #[.int .i64 k', .int .i64 i', .string s']), .val (.agg #[.int .i64 (hK k' i' s'), .int .i64 (hI k' i' s'), .string (hS k' i' s')])] 4 (by kernel_rfl) ?_
  repeat
    (refine detL_val (by kernel_rfl) (yields_of rfl fun w1 hb1 => ?_) ?_
     · have hc1 := bcellD hb1
       clear hb1
       go_simp
       with_reducible first
         | exact Det1_same
         | exact Det1_enter (rgood_any _ _ _ _ hs)
         | exact Det1_enter (rgood_any _ _ _ _ hs')
     simp only [Act.put, List.setIfInBounds_toArray, List.set_cons_zero, List.set_cons_succ])
  refine detL_tail rfl (by kernel_rfl) fun w1 hw1 => ?_
  have hb1 := hw1.below
  clear hw1 hs hs'
  have hc1 := (bcell hb1).1
  have hf1 := (bcell hb1).2
  have hy1 := hb1.size
  (try simp at hy1)
  have hz1_0 : w.heap.size < w1.heap.size := (by omega)
  have hz1_1 : w.heap.size + 1 < w1.heap.size := (by omega)
  go_upto_region 2 with (fail)
  refine wp_gen (Boxes w (hK k i s) (hI k i s) (hS k i s) (hK k' i' s') (hI k' i' s') (hS k' i' s')) (((Boxes.start w k i s k' i' s' 23 23).later hb1).store _ _ _ _ _ _) ?_
  intro W hW
  clear hc1 hf1 hb1 hy1 hz1_0 hz1_1
  have hk := hW.k
  have hi := hW.i
  have hs := hW.s
  have hk' := hW.k'
  have hi' := hW.i'
  have hs' := hW.s'
  have hn0 : w.heap.size < W.heap.size := by have := hW.size; omega
  have hn1 : w.heap.size + 1 < W.heap.size := by have := hW.size; omega
  go_wp2
  all_goals
    go_ret
    refine ⟨ret_bool ?_, hW.below⟩
    clear hW hk hi hs hk' hi' hs' hn0 hn1
    unfold alikeB
    by_cases h1 : (hK k i s) = 0 <;> by_cases h2 : (hK k' i' s') = 0 <;> by_cases h3 : (hK k i s) = (hK k' i' s') <;> simp_all [bne]

theorem less_cmp : ∀ (a b : List UInt8), Op.bytesLess a b = decide (Lib.compareBytes a b < 0)
  | [], [] => by simp [Op.bytesLess, Lib.compareBytes]
  | [], _ :: _ => by simp [Op.bytesLess, Lib.compareBytes]
  | _ :: _, [] => by simp [Op.bytesLess, Lib.compareBytes]
  | x :: a, y :: b => by
    simp only [Op.bytesLess, Lib.compareBytes]
    by_cases h1 : x < y
    · simp [h1]
    · by_cases h2 : y < x
      · have : x ≠ y := fun h => by subst h; exact absurd h2 (UInt8.lt_irrefl _)
        simp [h1, h2, this]
      · have : x = y := by rw [UInt8.lt_iff_toNat_lt] at h1 h2; exact UInt8.toNat_inj.1 (by omega)
        subst this
        simp [less_cmp a b, h1]
theorem ord_way0 {k i : Int} {s : ByteArray} {k' i' : Int} {s' : ByteArray} (h1 : (hK k i s) = (hK k' i' s')) (h2 : (hI k i s) = (hI k' i' s')) (h3 : (hS k i s).toList = (hS k' i' s').toList) : ordN k i s k' i' s' = 0 := by
  unfold ordN
  rw [ordH_zero]
  refine ⟨h1, h2, ?_⟩
  rw [toList_data, toList_data] at h3
  exact ByteArray.ext (Array.toList_inj.1 h3)
theorem ord_way1 {k i : Int} {s : ByteArray} {k' i' : Int} {s' : ByteArray} (h1 : (hK k i s) = (hK k' i' s')) (h2 : (hI k i s) = (hI k' i' s')) (h3 : Op.bytesLess (hS k i s).toList (hS k' i' s').toList = true) : ordN k i s k' i' s' = -1 := by
  rw [less_cmp, toList_data, toList_data] at h3
  have hb := cmpBytes_bd (hS k i s).data.toList (hS k' i' s').data.toList
  have h4 := of_decide_eq_true h3
  unfold ordN ordH or3
  rw [(cmpInt_zero _ _).2 h1, (cmpInt_zero _ _).2 h2]
  simp only [ne_eq, not_true_eq_false, if_false]
  omega
theorem ord_way2 {k i : Int} {s : ByteArray} {k' i' : Int} {s' : ByteArray} (h1 : (hK k i s) = (hK k' i' s')) (h2 : (hI k i s) = (hI k' i' s')) (h0 : ¬ (hS k i s).toList = (hS k' i' s').toList) (h3 : Op.bytesLess (hS k i s).toList (hS k' i' s').toList = false) : ordN k i s k' i' s' = 1 := by
  rw [less_cmp, toList_data, toList_data] at h3
  rw [toList_data, toList_data] at h0
  have hb := cmpBytes_bd (hS k i s).data.toList (hS k' i' s').data.toList
  have h4 := of_decide_eq_false h3
  have h5 : ¬ Lib.compareBytes (hS k i s).data.toList (hS k' i' s').data.toList = 0 := fun q => h0 ((cmpBytes_zero _ _).1 q)
  unfold ordN ordH or3
  rw [(cmpInt_zero _ _).2 h1, (cmpInt_zero _ _).2 h2]
  simp only [ne_eq, not_true_eq_false, if_false]
  omega
theorem cmpInt_lt {a b : Int} (h : a < b) : Lib.compareInt a b = -1 := by unfold Lib.compareInt; rw [if_pos h]
theorem cmpInt_gt {a b : Int} (h : b < a) : Lib.compareInt a b = 1 := by unfold Lib.compareInt; rw [if_neg (by omega), if_pos h]
theorem ord_way3 {k i : Int} {s : ByteArray} {k' i' : Int} {s' : ByteArray} (h1 : (hK k i s) = (hK k' i' s')) (h2 : (hI k i s) < (hI k' i' s')) : ordN k i s k' i' s' = -1 := by
  unfold ordN ordH or3
  rw [(cmpInt_zero _ _).2 h1, cmpInt_lt h2]
  simp
theorem ord_way4 {k i : Int} {s : ByteArray} {k' i' : Int} {s' : ByteArray} (h1 : (hK k i s) = (hK k' i' s')) (h0 : ¬ (hI k i s) = (hI k' i' s')) (h2 : (hI k' i' s') ≤ (hI k i s)) : ordN k i s k' i' s' = 1 := by
  unfold ordN ordH or3
  rw [(cmpInt_zero _ _).2 h1, cmpInt_gt (by omega)]
  simp
theorem ord_way5 {k i : Int} {s : ByteArray} {k' i' : Int} {s' : ByteArray} (h1 : (hK k i s) < (hK k' i' s')) : ordN k i s k' i' s' = -1 := by
  unfold ordN ordH or3
  rw [cmpInt_lt h1]
  simp
theorem ord_way6 {k i : Int} {s : ByteArray} {k' i' : Int} {s' : ByteArray} (h1 : ¬ (hK k i s) = (hK k' i' s')) (h2 : (hK k' i' s') ≤ (hK k i s)) : ordN k i s k' i' s' = 1 := by
  unfold ordN ordH or3
  rw [cmpInt_gt (by omega)]
  simp

theorem alike_may {k i : Int} {s : ByteArray} {k' i' : Int} {s' : ByteArray} (h : alikeB k i s k' i' s' = true) : mayB k i s = true ∧ mayB k' i' s' = true ∧ k = k' ∧ k ≠ 0 := by
  unfold alikeB at h
  rw [Bool.and_eq_true, decide_eq_true_eq, bne_iff_ne] at h
  obtain ⟨h1, h2⟩ := h
  have m1 : mayB k i s = true := by
    cases q : mayB k i s with
    | true => rfl
    | false => exact absurd (by unfold hK; rw [q]; rfl) h2
  have m2 : mayB k' i' s' = true := by
    cases q : mayB k' i' s' with
    | true => rfl
    | false => exact absurd (by rw [h1]; unfold hK; rw [q]; rfl) h2
  unfold hK at h1 h2
  rw [if_pos m1] at h1 h2
  rw [if_pos m2] at h1
  exact ⟨m1, m2, h1, h2⟩
theorem ret_b {n m : Int} (h : n = m) : Ending.returned (.agg #[.int .i64 3, .int .i64 n, .string ⟨#[]⟩]) = .returned (.agg #[.int .i64 3, .int .i64 m, .string ⟨#[]⟩]) := by rw [h]
theorem eq_way1 {k i : Int} {s : ByteArray} {k' i' : Int} {s' : ByteArray} (ha : alikeB k i s k' i' s' = true) (h1 : k = k') (h2 : i = i') (h3 : s.toList = s'.toList) : (1 : Int) = b2i (ordN k i s k' i' s' == 0) := by
  obtain ⟨m1, m2, -, -⟩ := alike_may ha
  rw [toList_data, toList_data] at h3
  rw [(ord_zero k i s k' i' s' m1 m2).2 ⟨h1, h2, ByteArray.ext (Array.toList_inj.1 h3)⟩]
  rfl
theorem eq_way0 {k i : Int} {s : ByteArray} {k' i' : Int} {s' : ByteArray} (ha : alikeB k i s k' i' s' = true) (h : ¬ (k = k' ∧ i = i' ∧ s.toList = s'.toList)) : (0 : Int) = b2i (ordN k i s k' i' s' == 0) := by
  obtain ⟨m1, m2, -, -⟩ := alike_may ha
  have : ¬ ordN k i s k' i' s' = 0 := fun q => by
    obtain ⟨h1, h2, h3⟩ := (ord_zero k i s k' i' s' m1 m2).1 q
    exact h ⟨h1, h2, by rw [h3]⟩
  rw [beq_eq_false_iff_ne.2 this]
  rfl
theorem ls_way {k i : Int} {s : ByteArray} {k' i' : Int} {s' : ByteArray} (ha : alikeB k i s k' i' s' = true) : decide (ordN k i s k' i' s' < 0) = (decide (i < i') || Op.bytesLess s.toList s'.toList) := by
  obtain ⟨m1, m2, hk, hn⟩ := alike_may ha
  have e : ordN k i s k' i' s' = ordH k i s k' i' s' := by unfold ordN hK hI hS; rw [if_pos m1, if_pos m1, if_pos m1, if_pos m2, if_pos m2, if_pos m2]
  subst hk
  rw [e, less_cmp, toList_data, toList_data]
  unfold ordH or3
  rw [(cmpInt_zero k k).2 rfl]
  have hI := cmpInt_bd i i'
  unfold mayB at m1 m2
  by_cases h1 : k = 1
  · simp [h1] at m1 m2
    rw [toList_data] at m1 m2
    rw [m1, m2]
    simp [Lib.compareBytes]
    unfold Lib.compareInt
    split <;> (try split) <;> simp_all <;> omega
  · by_cases h2 : k = 2
    · simp [h2] at m1 m2
      rw [m1.1.1, m2.1.1, (cmpInt_zero 0 0).2 rfl]
      simp
    · by_cases h3 : k = 3
      · simp [h3] at m1 m2
        rw [toList_data] at m1 m2
        rw [m1.1, m2.1]
        simp [Lib.compareBytes]
        unfold Lib.compareInt
        split <;> (try split) <;> simp_all <;> omega
      · simp [hn, h1, h2, h3] at m1

set_option maxRecDepth 100000 in
set_option maxHeartbeats 800000 in
theorem requal_no (k i : Int) (s : ByteArray) (k' i' : Int) (s' : ByteArray) (w : World) (hs : s.size ≤ maxLen) (hs' : s'.size ≤ maxLen) (ha : alikeB k i s k' i' s' = false) :
    Calls Tryz.prog 17 #[.agg #[.int .i64 k, .int .i64 i, .string s], .agg #[.int .i64 k', .int .i64 i', .string s']] w fun e w' => e = .returned (.agg #[.int .i64 0, .int .i64 0, .string ⟨#[]⟩]) ∧ Below w.heap.size w w' := by
  have H := Lib.hid (And.intro ha (And.intro hs hs'))
  clear ha hs hs'
  go_enter Tryz.func17, Tryz.ntmps17
  go_wp2_with (first
    | (go_at_call 39; refine ((rapart_any _ _ _ _ _ _ _ H.out.2.1 H.out.2.2).mono (fun _ _ h => (H.out.1 ▸ h : _ = Ending.returned (.bool (!false)) ∧ _))).mono ?_; rintro e w1 ⟨rfl, hb1⟩; have hc1 := (bcell hb1).1; have hf1 := (bcell hb1).2; have hy1 := hb1.size; (try simp at hy1); have hz1_0 : w.heap.size < w1.heap.size := (by omega); have hz1_1 : w.heap.size + 1 < w1.heap.size := (by omega); have hz1_2 : w.heap.size + 1 + 1 < w1.heap.size := (by omega)))
  (refine bodyPost_ret (v := .agg #[.int .i64 0, .int .i64 0, .string ⟨#[]⟩]) ?_ rfl ⟨rfl, ?_⟩; (· (simp [results, Tryz.results17, go_sem, *]; done)))
  repeat (first | (with_reducible exact Below.refl _ _) | ((with_reducible refine cSet3 ?_ ?_ _ _ _); (· ((try simp) <;> omega))) | (with_reducible refine Below.drew ?_) | ((with_reducible refine cAlloc ?_ ?_ _); (· ((try simp) <;> omega))) | ((with_reducible refine cOn (by assumption) ?_ ?_); (· ((try simp) <;> omega))))

set_option maxRecDepth 100000 in
set_option maxHeartbeats 800000 in
theorem requal_yes (k i : Int) (s : ByteArray) (k' i' : Int) (s' : ByteArray) (w : World) (hs : s.size ≤ maxLen) (hs' : s'.size ≤ maxLen) (ha : alikeB k i s k' i' s' = true) :
    Calls Tryz.prog 17 #[.agg #[.int .i64 k, .int .i64 i, .string s], .agg #[.int .i64 k', .int .i64 i', .string s']] w fun e w' => e = .returned (.agg #[.int .i64 3, .int .i64 (b2i (ordN k i s k' i' s' == 0)), .string ⟨#[]⟩]) ∧ Below w.heap.size w w' := by
  have H := Lib.hid (And.intro ha (And.intro hs hs'))
  clear ha hs hs'
  go_enter Tryz.func17, Tryz.ntmps17
  go_wp2_with (first
    | (go_at_call 39; refine ((rapart_any _ _ _ _ _ _ _ H.out.2.1 H.out.2.2).mono (fun _ _ h => (H.out.1 ▸ h : _ = Ending.returned (.bool (!true)) ∧ _))).mono ?_; rintro e w1 ⟨rfl, hb1⟩; have hc1 := (bcell hb1).1; have hf1 := (bcell hb1).2; have hy1 := hb1.size; (try simp at hy1); have hz1_0 : w.heap.size < w1.heap.size := (by omega); have hz1_1 : w.heap.size + 1 < w1.heap.size := (by omega); have hz1_2 : w.heap.size + 1 + 1 < w1.heap.size := (by omega))
    | (go_at_call_of 38 (Value.bool true); refine (rtruth_t _).mono ?_; rintro e w1 ⟨rfl, hb1⟩; have hc1 := (bcell hb1).1; have hf1 := (bcell hb1).2; have hy1 := hb1.size; (try simp at hy1); have hz1_0 : w.heap.size < w1.heap.size := (by omega); have hz1_1 : w.heap.size + 1 < w1.heap.size := (by omega); have hz1_2 : w.heap.size + 1 + 1 < w1.heap.size := (by omega))
    | (go_at_call_of 38 (Value.bool false); refine (rtruth_f _).mono ?_; rintro e w1 ⟨rfl, hb1⟩; have hc1 := (bcell hb1).1; have hf1 := (bcell hb1).2; have hy1 := hb1.size; (try simp at hy1); have hz1_0 : w.heap.size < w1.heap.size := (by omega); have hz1_1 : w.heap.size + 1 < w1.heap.size := (by omega); have hz1_2 : w.heap.size + 1 + 1 < w1.heap.size := (by omega)))
  all_goals
    first
      | (refine bodyPost_ret (v := .agg #[.int .i64 3, .int .i64 1, .string ⟨#[]⟩]) (by simp [results, Tryz.results17, go_sem, *]; done) rfl ⟨ret_b (eq_way1 H.out.1 (by assumption) (by assumption) (by assumption)), ?_⟩)
      | (refine bodyPost_ret (v := .agg #[.int .i64 3, .int .i64 0, .string ⟨#[]⟩]) (by simp [results, Tryz.results17, go_sem, *]; done) rfl ⟨ret_b (eq_way0 H.out.1 (fun q => absurd q.1 (by assumption))), ?_⟩)
      | (refine bodyPost_ret (v := .agg #[.int .i64 3, .int .i64 0, .string ⟨#[]⟩]) (by simp [results, Tryz.results17, go_sem, *]; done) rfl ⟨ret_b (eq_way0 H.out.1 (fun q => absurd q.2.1 (by assumption))), ?_⟩)
      | (refine bodyPost_ret (v := .agg #[.int .i64 3, .int .i64 0, .string ⟨#[]⟩]) (by simp [results, Tryz.results17, go_sem, *]; done) rfl ⟨ret_b (eq_way0 H.out.1 (fun q => absurd q.2.2 (by assumption))), ?_⟩)
    repeat (first | (with_reducible exact Below.refl _ _) | ((with_reducible refine cSet3 ?_ ?_ _ _ _); (· ((try simp) <;> omega))) | (with_reducible refine Below.drew ?_) | ((with_reducible refine cAlloc ?_ ?_ _); (· ((try simp) <;> omega))) | ((with_reducible refine cOn (by assumption) ?_ ?_); (· ((try simp) <;> omega))))

set_option maxRecDepth 100000 in
set_option maxHeartbeats 800000 in
theorem rless_no (k i : Int) (s : ByteArray) (k' i' : Int) (s' : ByteArray) (w : World) (hs : s.size ≤ maxLen) (hs' : s'.size ≤ maxLen) (ha : alikeB k i s k' i' s' = false) :
    Calls Tryz.prog 18 #[.agg #[.int .i64 k, .int .i64 i, .string s], .agg #[.int .i64 k', .int .i64 i', .string s']] w fun e w' => e = .returned (.agg #[.int .i64 0, .int .i64 0, .string ⟨#[]⟩]) ∧ Below w.heap.size w w' := by
  have H := Lib.hid (And.intro ha (And.intro hs hs'))
  clear ha hs hs'
  go_enter Tryz.func18, Tryz.ntmps18
  go_wp2_with (first
    | (go_at_call 39; refine ((rapart_any _ _ _ _ _ _ _ H.out.2.1 H.out.2.2).mono (fun _ _ h => (H.out.1 ▸ h : _ = Ending.returned (.bool (!false)) ∧ _))).mono ?_; rintro e w1 ⟨rfl, hb1⟩; have hc1 := (bcell hb1).1; have hf1 := (bcell hb1).2; have hy1 := hb1.size; (try simp at hy1); have hz1_0 : w.heap.size < w1.heap.size := (by omega); have hz1_1 : w.heap.size + 1 < w1.heap.size := (by omega); have hz1_2 : w.heap.size + 1 + 1 < w1.heap.size := (by omega)))
  (refine bodyPost_ret (v := .agg #[.int .i64 0, .int .i64 0, .string ⟨#[]⟩]) ?_ rfl ⟨rfl, ?_⟩; (· (simp [results, Tryz.results18, go_sem, *]; done)))
  repeat (first | (with_reducible exact Below.refl _ _) | ((with_reducible refine cSet3 ?_ ?_ _ _ _); (· ((try simp) <;> omega))) | (with_reducible refine Below.drew ?_) | ((with_reducible refine cAlloc ?_ ?_ _); (· ((try simp) <;> omega))) | ((with_reducible refine cOn (by assumption) ?_ ?_); (· ((try simp) <;> omega))))

set_option maxRecDepth 100000 in
set_option maxHeartbeats 800000 in
theorem rless_yes (k i : Int) (s : ByteArray) (k' i' : Int) (s' : ByteArray) (w : World) (hs : s.size ≤ maxLen) (hs' : s'.size ≤ maxLen) (ha : alikeB k i s k' i' s' = true) :
    Calls Tryz.prog 18 #[.agg #[.int .i64 k, .int .i64 i, .string s], .agg #[.int .i64 k', .int .i64 i', .string s']] w fun e w' => e = .returned (.agg #[.int .i64 3, .int .i64 (b2i (decide (ordN k i s k' i' s' < 0))), .string ⟨#[]⟩]) ∧ Below w.heap.size w w' := by
  rw [ls_way ha]
  have H := Lib.hid (And.intro ha (And.intro hs hs'))
  clear ha hs hs'
  by_cases h1 : i < i'
  · rw [decide_eq_true h1, Bool.true_or]
    go_enter Tryz.func18, Tryz.ntmps18
    go_wp2_with (first
    | (go_at_call 39; refine ((rapart_any _ _ _ _ _ _ _ H.out.2.1 H.out.2.2).mono (fun _ _ h => (H.out.1 ▸ h : _ = Ending.returned (.bool (!true)) ∧ _))).mono ?_; rintro e w1 ⟨rfl, hb1⟩; have hc1 := (bcell hb1).1; have hf1 := (bcell hb1).2; have hy1 := hb1.size; (try simp at hy1); have hz1_0 : w.heap.size < w1.heap.size := (by omega); have hz1_1 : w.heap.size + 1 < w1.heap.size := (by omega); have hz1_2 : w.heap.size + 1 + 1 < w1.heap.size := (by omega))
    | (go_at_call_of 38 (Value.bool true); refine (rtruth_t _).mono ?_; rintro e w1 ⟨rfl, hb1⟩; have hc1 := (bcell hb1).1; have hf1 := (bcell hb1).2; have hy1 := hb1.size; (try simp at hy1); have hz1_0 : w.heap.size < w1.heap.size := (by omega); have hz1_1 : w.heap.size + 1 < w1.heap.size := (by omega); have hz1_2 : w.heap.size + 1 + 1 < w1.heap.size := (by omega)))
    (refine bodyPost_ret (v := .agg #[.int .i64 3, .int .i64 1, .string ⟨#[]⟩]) ?_ rfl ⟨rfl, ?_⟩; (· (simp [results, Tryz.results18, go_sem, *]; done)))
    repeat (first | (with_reducible exact Below.refl _ _) | ((with_reducible refine cSet3 ?_ ?_ _ _ _); (· ((try simp) <;> omega))) | (with_reducible refine Below.drew ?_) | ((with_reducible refine cAlloc ?_ ?_ _); (· ((try simp) <;> omega))) | ((with_reducible refine cOn (by assumption) ?_ ?_); (· ((try simp) <;> omega))))
  · cases h2 : Op.bytesLess s.toList s'.toList with
    | true =>
      rw [Bool.or_true]
      go_enter Tryz.func18, Tryz.ntmps18
      go_wp2_with (first
    | (go_at_call 39; refine ((rapart_any _ _ _ _ _ _ _ H.out.2.1 H.out.2.2).mono (fun _ _ h => (H.out.1 ▸ h : _ = Ending.returned (.bool (!true)) ∧ _))).mono ?_; rintro e w1 ⟨rfl, hb1⟩; have hc1 := (bcell hb1).1; have hf1 := (bcell hb1).2; have hy1 := hb1.size; (try simp at hy1); have hz1_0 : w.heap.size < w1.heap.size := (by omega); have hz1_1 : w.heap.size + 1 < w1.heap.size := (by omega); have hz1_2 : w.heap.size + 1 + 1 < w1.heap.size := (by omega))
    | (go_at_call_of 38 (Value.bool true); refine (rtruth_t _).mono ?_; rintro e w1 ⟨rfl, hb1⟩; have hc1 := (bcell hb1).1; have hf1 := (bcell hb1).2; have hy1 := hb1.size; (try simp at hy1); have hz1_0 : w.heap.size < w1.heap.size := (by omega); have hz1_1 : w.heap.size + 1 < w1.heap.size := (by omega); have hz1_2 : w.heap.size + 1 + 1 < w1.heap.size := (by omega)))
      (refine bodyPost_ret (v := .agg #[.int .i64 3, .int .i64 1, .string ⟨#[]⟩]) ?_ rfl ⟨rfl, ?_⟩; (· (simp [results, Tryz.results18, go_sem, *]; done)))
      repeat (first | (with_reducible exact Below.refl _ _) | ((with_reducible refine cSet3 ?_ ?_ _ _ _); (· ((try simp) <;> omega))) | (with_reducible refine Below.drew ?_) | ((with_reducible refine cAlloc ?_ ?_ _); (· ((try simp) <;> omega))) | ((with_reducible refine cOn (by assumption) ?_ ?_); (· ((try simp) <;> omega))))
    | false =>
      rw [decide_eq_false h1, Bool.or_false]
      have hd : decide (i < i') = false := decide_eq_false h1
      go_enter Tryz.func18, Tryz.ntmps18
      go_wp2_with (first
    | (go_at_call 39; refine ((rapart_any _ _ _ _ _ _ _ H.out.2.1 H.out.2.2).mono (fun _ _ h => (H.out.1 ▸ h : _ = Ending.returned (.bool (!true)) ∧ _))).mono ?_; rintro e w1 ⟨rfl, hb1⟩; have hc1 := (bcell hb1).1; have hf1 := (bcell hb1).2; have hy1 := hb1.size; (try simp at hy1); have hz1_0 : w.heap.size < w1.heap.size := (by omega); have hz1_1 : w.heap.size + 1 < w1.heap.size := (by omega); have hz1_2 : w.heap.size + 1 + 1 < w1.heap.size := (by omega))
    | (go_at_call_of 38 (Value.bool false); refine (rtruth_f _).mono ?_; rintro e w1 ⟨rfl, hb1⟩; have hc1 := (bcell hb1).1; have hf1 := (bcell hb1).2; have hy1 := hb1.size; (try simp at hy1); have hz1_0 : w.heap.size < w1.heap.size := (by omega); have hz1_1 : w.heap.size + 1 < w1.heap.size := (by omega); have hz1_2 : w.heap.size + 1 + 1 < w1.heap.size := (by omega)))
      (refine bodyPost_ret (v := .agg #[.int .i64 3, .int .i64 0, .string ⟨#[]⟩]) ?_ rfl ⟨rfl, ?_⟩; (· (simp [results, Tryz.results18, go_sem, *]; done)))
      repeat (first | (with_reducible exact Below.refl _ _) | ((with_reducible refine cSet3 ?_ ?_ _ _ _); (· ((try simp) <;> omega))) | (with_reducible refine Below.drew ?_) | ((with_reducible refine cAlloc ?_ ?_ _); (· ((try simp) <;> omega))) | ((with_reducible refine cOn (by assumption) ?_ ?_); (· ((try simp) <;> omega))))

end Go.Proofs.YtmgcmiflbjhakaaGreatDoor

/- Rows of values in memory: Few. -/
namespace Go.Proofs.YtmgcmiflbjhakaaGreatDoor
open Go.RowKit Go.Lib

structure Vl where
  k : Int
  i : Int
  s : ByteArray
def Vl.few (x : Vl) : Vl := ⟨x.k, x.i, fewS x.s⟩
def Vl.cells (x : Vl) : List Value := [.int .i64 x.k, .int .i64 x.i, .string x.s]
def cellsOf (l : List Vl) : List Value := l.flatMap Vl.cells

/-- Value x lies at this address. -/
structure VlAt (W : World) (a : Addr) (x : Vl) : Prop where
  k : W.cell? a = some (.int .i64 x.k)
  i : W.cell? ⟨a.block, a.off + 1, none⟩ = some (.int .i64 x.i)
  s : W.cell? ⟨a.block, a.off + 2, none⟩ = some (.string x.s)

theorem VlAt.keep {W W' : World} {a : Addr} {x : Vl} {B : Nat} (h : VlAt W a x) (hb : Below B W W') (hB : a.block < B) : VlAt W' a x :=
  ⟨(hb.cell hB).trans h.k, (hb.cell (p := ⟨a.block, _, none⟩) hB).trans h.i, (hb.cell (p := ⟨a.block, _, none⟩) hB).trans h.s⟩

/-- The slice of n elements at A reads as these values; it lies below block B. -/
def Vals (W : World) (B : Nat) (A : Option Addr) (n : Nat) (l : List Vl) : Prop :=
  l.length = n ∧ ∀ j (h : j < l.length), ∃ a, A = some a ∧ VlAt W (a.add (j * 3)) l[j] ∧ a.block < B

theorem add_block (a : Addr) (n : Nat) : (a.add n).block = a.block := by unfold Addr.add; split <;> rfl
theorem Vals.keep {W W' : World} {B : Nat} {A : Option Addr} {n : Nat} {l : List Vl} (h : Vals W B A n l) (hb : Below B W W') : Vals W' B A n l :=
  ⟨h.1, fun j hj => by
    obtain ⟨a, e, h1, h2⟩ := h.2 j hj
    exact ⟨a, e, h1.keep hb (by rw [add_block]; exact h2), h2⟩⟩
theorem Vals.more {W : World} {B B' : Nat} {A : Option Addr} {n : Nat} {l : List Vl} (h : Vals W B A n l) (hB : B ≤ B') : Vals W B' A n l :=
  ⟨h.1, fun j hj => by
    obtain ⟨a, e, h1, h2⟩ := h.2 j hj
    exact ⟨a, e, h1, by omega⟩⟩
theorem Vals.at_ {W : World} {B : Nat} {A : Option Addr} {n : Nat} {l : List Vl} (h : Vals W B A n l) {k : Nat} (hk : k < n) : ∃ a x, A = some a ∧ l[k]? = some x ∧ VlAt W (a.add (k * 3)) x ∧ a.block < B := by
  obtain ⟨h1, h2⟩ := h
  obtain ⟨a, e, h3, h4⟩ := h2 k (by omega)
  exact ⟨a, l[k]'(by omega), e, List.getElem?_eq_getElem _, h3, h4⟩

theorem cells_len (l : List Vl) : (cellsOf l).length = l.length * 3 := by
  induction l with
  | nil => rfl
  | cons x l ih => simp only [cellsOf, List.flatMap_cons, List.length_append] at ih ⊢; rw [ih]; simp [Vl.cells]; omega
theorem cells_snoc (l : List Vl) (x : Vl) : cellsOf (l ++ [x]) = cellsOf l ++ x.cells := by simp [cellsOf]
theorem cells_app (l r : List Vl) : cellsOf (l ++ r) = cellsOf l ++ cellsOf r := by simp [cellsOf]
theorem cells_at (l : List Vl) : ∀ j (h : j < l.length), (cellsOf l)[j * 3]? = some (.int .i64 l[j].k) ∧ (cellsOf l)[j * 3 + 1]? = some (.int .i64 l[j].i) ∧ (cellsOf l)[j * 3 + 2]? = some (.string l[j].s) := by
  induction l with
  | nil => intro j h; simp at h
  | cons x l ih =>
    intro j h
    cases j with
    | zero => simp [cellsOf, Vl.cells]
    | succ j =>
      have := ih j (by simpa using h)
      have e : cellsOf (x :: l) = x.cells ++ cellsOf l := by simp [cellsOf]
      have hl : x.cells.length = 3 := rfl
      rw [e]
      refine ⟨?_, ?_, ?_⟩
      · rw [List.getElem?_append_right (by rw [hl]; omega), hl, show (j + 1) * 3 - 3 = j * 3 by omega]; exact this.1
      · rw [List.getElem?_append_right (by rw [hl]; omega), hl, show (j + 1) * 3 + 1 - 3 = j * 3 + 1 by omega]; exact this.2.1
      · rw [List.getElem?_append_right (by rw [hl]; omega), hl, show (j + 1) * 3 + 2 - 3 = j * 3 + 2 by omega]; exact this.2.2
theorem cells_one (l : List Vl) : ∀ u ∈ cellsOf l, u.oneCell' = true := by
  intro u hu
  simp only [cellsOf, List.mem_flatMap, Vl.cells] at hu
  obtain ⟨x, _, hx⟩ := hu
  simp at hx
  rcases hx with rfl | rfl | rfl <;> rfl

/-- A row of the call's own reads as its values. -/
theorem Vals.of_own {W : World} {B : Nat} {v : Value} {l : List Vl} {n : Nat} (h : W.ownsRow B 23 3 v n (cellsOf l)) : ∃ A cap, v = .slice A n cap ∧ Vals W W.heap.size A n l ∧ n ≤ cap ∧ cap ≤ maxLen := by
  have hl : l.length = n := by have := h.1; rw [cells_len] at this; omega
  rcases h.2 with ⟨rfl, h0⟩ | ⟨g, cap, cur, rfl, hB, hg, hc, hm, hs, ht⟩
  · subst h0
    exact ⟨none, 0, rfl, ⟨hl, fun j hj => absurd hj (by omega)⟩, Nat.le_refl _, by unfold maxLen; omega⟩
  · refine ⟨_, cap, rfl, ⟨hl, fun j hj => ⟨_, rfl, ?_, (Array.getElem?_eq_some_iff.1 hg).1⟩⟩, hc, hm⟩
    have hadd : (⟨g, 0, none⟩ : Addr).add (j * 3) = ⟨g, j * 3, none⟩ := by unfold Addr.add; split <;> simp_all
    obtain ⟨c0, c1, c2⟩ := cells_at l j hj
    rw [hadd]
    exact ⟨(h.cellAt (j * 3) (by omega)).trans c0, (h.cellAt (j * 3 + 1) (by omega)).trans c1, (h.cellAt (j * 3 + 2) (by omega)).trans c2⟩

theorem infoVal : (Tryz.prog.info? 23).map (fun i => (i.zero, i.size, i.bytes)) = some (some (.agg #[.int .i64 0, .int .i64 0, .string ⟨#[]⟩]), 3, 32) := by kernel_rfl

/-- The cells of a value that has just been written. -/
theorem new_cells {W : World} {t : TypeId} {x : Vl} : ∀ j u, x.cells[j]? = some u → (W.alloc (.cells #[.int .i64 x.k, .int .i64 x.i, .string x.s] t)).cell? ((⟨W.heap.size, 0, none⟩ : Addr).add j) = some u := by
  intro j u h
  match j with
  | 0 => simp [Vl.cells] at h; subst h; simp [Addr.add, go_sem]
  | 1 => simp [Vl.cells] at h; subst h; simp [Addr.add, go_sem]
  | 2 => simp [Vl.cells] at h; subst h; simp [Addr.add, go_sem]
  | j + 3 => simp [Vl.cells] at h
theorem row_below {B : Nat} {w W W' : World} {n : Nat} {xs : List Value} {v : Value} {o : Obj} (hb : Below B w W) (hB : B ≤ w.heap.size) (hown : W.ownsRow B 23 3 v n xs) (hg : (W.alloc o).grownBy W' v.ownBlock) : Below B w W' := by
  have hs := hb.size
  exact (hb.alloc (by omega) o).grown hg (by simp; omega) fun g hg' => (hown.lt g hg').1
theorem take_snoc' {α : Type} {l : List α} {k : Nat} {x : α} (h : l[k]? = some x) : l.take (k + 1) = l.take k ++ [x] := by
  rw [List.take_add_one, h]; rfl

def fewL (l : List Vl) : List Vl := (l.take 14).map Vl.few

set_option maxRecDepth 100000 in
set_option maxHeartbeats 4000000 in
theorem few2_any (A : Option Addr) (n cap : Nat) (l : List Vl) (w : World) (hn : n ≤ maxLen) (hat : Vals w w.heap.size A n l) (hsz : ∀ x ∈ l, x.s.size ≤ maxLen) :
    Calls Tryz.prog 11 #[.slice A n cap] w fun e w' => ∃ v, e = .returned v ∧ w'.ownsRow w.heap.size 23 3 v (fewL l).length (cellsOf (fewL l)) ∧ Below w.heap.size w w' := by
  unfold maxLen at hn
  obtain ⟨i0, hi, hz0, hz1, hz2⟩ := info_parts infoVal
  have HS := Lib.hid (And.intro hat hsz)
  have hll := hat.1
  clear hat hsz
  have HL := Lib.hid hll
  clear hll
  go_enter Tryz.func11, Tryz.ntmps11
  go_wp2
  go_loopw [3, 4] (fun v i wr => ∃ k : Nat, k ≤ n ∧ k ≤ 14 ∧ i = .int .i64 k ∧ Below w.heap.size w wr ∧ wr.ownsRow w.heap.size 23 3 v k (cellsOf ((l.take k).map Vl.few))) (fun _ i _ => n - (intOf i).toNat)
  case atStart => exact ⟨0, by omega, by omega, rfl, Below.refl _ _, World.ownsRow_nil _ _ _ _⟩
  case round =>
    obtain ⟨k, hk, hk14, rfl, hb, hown⟩ := hrel
    have hbs := hb.size
    by_cases hlt : k < n
    · by_cases h14 : k < 14
      · have hd1 : decide ((k : Int) < 14) = true := decide_eq_true (by omega)
        obtain ⟨a, x, rfl, hx, hA, hB⟩ := HS.out.1.at_ hlt
        have hA' := hA.keep hb (by rw [add_block]; exact hB)
        have hxs : x.s.size ≤ maxLen := HS.out.2 x (List.mem_of_getElem? hx)
        have ck := hA'.k
        have ci := hA'.i
        have cs := hA'.s
        have HX := Lib.hid (And.intro hx hxs)
        clear hx hxs hA hA' hB
        go_wp2_with (first
          | (go_at_call 33; refine (few_any _ _ _ _ HX.out.2).mono ?_; rintro e w1 ⟨rfl, hb1⟩; have hown1 := hown.kept (row := none) ⟨hb1.os, hb1.tape, hb1.output, hb1.size, fun q hq _ => hb1.block q hq⟩ (by cases h : Value.ownBlock _ with | none => exact .inl rfl | some _ => exact .inr (by simp)); have HB1 := Lib.hid (hb.trans (hb1.mono hbs)); have hs1 := hb1.size; clear hb1 hown)
          | (at_builtin; refine wpList_append_own _ rfl _ _ 28 rfl w.heap.size 23 i0 _ 3 32 Tryz.underlying28 hi hz0 hz1 hz2 rfl (by decide) _ _ _ rfl (World.ownsRow.alloc hown1 _) ⟨w1.heap.size, 0, none⟩ 1 1 (Vl.cells x.few) rfl rfl ?c1 ?c2 ?c3 ?c4 ?c5 ?_))
        case c1 => exact new_cells
        case c2 => intro u hu; exact cells_one [x.few] u (by simpa [cellsOf] using hu)
        case c3 => unfold maxLen; omega
        case c4 => omega
        case c5 => simp; omega
        intro v' w2 hown' hgrow _
        have hb2 := row_below HB1.out (Nat.le_refl _) hown1 hgrow
        have hown2 : w2.ownsRow w.heap.size 23 3 v' (k + 1) (cellsOf ((l.take (k + 1)).map Vl.few)) := by
          rw [take_snoc' HX.out.1, List.map_append]
          show w2.ownsRow w.heap.size _ 3 v' (k + 1) (cellsOf ((l.take k).map Vl.few ++ [x.few]))
          rw [cells_snoc]
          first | exact hown' | (rw [List.map_take]; exact hown')
        have HO := Lib.hid hown2
        clear hown' hown1 hown2 hgrow
        go_wp2
        go_roundw
        case rel => exact ⟨k + 1, by omega, by omega, by go_num, hb2, HO.out⟩
        case measure => simp [intOf]; omega
      · have hd1 : decide ((k : Int) < 14) = false := decide_eq_false (by omega)
        have he : fewL l = (l.take k).map Vl.few := by unfold fewL; rw [show k = 14 by omega]
        have HO := Lib.hid (he ▸ hown)
        have HE : Hid ((fewL l).length = k) := by rw [he]; have := HL.out; show _ = _; simp; omega
        clear hown he
        go_wp2
        go_ret
        exact ⟨_, rfl, by rw [HE.out]; exact HO.out, hb⟩
    · have he : fewL l = (l.take k).map Vl.few := by unfold fewL; rw [List.take_of_length_le (by have := HL.out; omega), List.take_of_length_le (by have := HL.out; omega)]
      have HO := Lib.hid (he ▸ hown)
      have HE : Hid ((fewL l).length = k) := by rw [he]; have := HL.out; show _ = _; simp; omega
      clear hown he
      go_wp2
      go_ret
      exact ⟨_, rfl, by rw [HE.out]; exact HO.out, hb⟩
end Go.Proofs.YtmgcmiflbjhakaaGreatDoor
