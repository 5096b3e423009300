import Derived.Test.YtnahejljelbbgaaGreatDoorTa
import Derived.Test.YtnahejljelbbgaaGreatDoorVg
import Derived.Test.YtnahejljelbbgaaGreatDoorVq
import Derived.Lib.SmallJoins
import Derived.Lib.AppendIntMem
import Derived.Test.YtnahejljelbbgaaGreatDoorShelf
/- The text of a value: value.Text. -/
namespace Go.Proofs.YtnahejljelbbgaaGreatDoor
open Go.RowKit Go.Lib

/-- What is known of the library's variables. -/
structure Libs (w : World) : Prop where
  tab : Lib.TabIs Tryz.prog w "internal/strconv.uint64pow10" .u64 Lib.pow10Tab
  max : ∃ m, w.cell? ⟨3, 0, none⟩ = some (.int .i64 m)
theorem Libs.lt {w : World} (h : Libs w) : 3 < w.heap.size := by obtain ⟨m, hm⟩ := h.max; exact World.block_lt_of_cell? w _ hm
theorem Libs.keep {w w' : World} {B : Nat} (h : Libs w) (hb : Below B w w') (hB : w.heap.size ≤ B) : Libs w' :=
  ⟨Go.Joins.tab_stays (g := 0) (by kernel_rfl) h.tab hb hB, by
    obtain ⟨m, hm⟩ := h.max
    exact ⟨m, (hb.cell (p := ⟨3, 0, none⟩) (Nat.lt_of_lt_of_le h.lt hB)).trans hm⟩⟩
theorem Libs.drew {w : World} (h : Libs w) : Libs w.drew := h.keep ((Below.refl w.heap.size w).drew) (Nat.le_refl _)
theorem ret_str {a b : ByteArray} (h : a = b) : Ending.returned (.string a) = .returned (.string b) := by rw [h]
theorem drewN_below (w : World) (k : Nat) : Below w.heap.size w (w.drewN k) := ⟨rfl, rfl, rfl, Nat.le_refl _, fun _ _ => rfl⟩

/-- strconv.FormatInt at base 10. -/
theorem format_any (i : Int) (w : World) (hi : In64 i) (hl : Libs w) :
    Calls Tryz.prog 45 #[.int .i64 i, .int .i64 10] w fun e w' => e = .returned (.string ⟨(itoa i).toArray⟩) ∧ Below w.heap.size w w' :=
  (Tryz.strconv_FormatInt_10 i hi.1 hi.2 w hl.tab).mono fun _ _ ⟨h, k, os, h'⟩ => ⟨h, h' ▸ below_grow w.heap.size w (Nat.le_refl _) k os⟩
theorem replace_any (s : ByteArray) (w : World) (hs : s.size ≤ 40) (hl : Libs w) :
    Calls Tryz.prog 46 #[.string s, .string ⟨#[39]⟩, .string ⟨#[39, 39]⟩] w fun e w' => e = .returned (.string ⟨(dbl s.data.toList).toArray⟩) ∧ Below w.heap.size w w' := by
  obtain ⟨m, hm⟩ := hl.max
  have hc := countB_mul_le ⟨#[39]⟩ (by decide) s.size s (Nat.le_refl _)
  have h := Tryz.strings_ReplaceAll s ⟨#[39]⟩ ⟨#[39, 39]⟩ m w (by omega) hm (by decide) (by
    have e1 : (⟨#[39]⟩ : ByteArray).size = 1 := rfl
    have e2 : (⟨#[39, 39]⟩ : ByteArray).size = 2 := rfl
    rw [e1] at hc
    rw [e2]
    omega)
  have e : Lib.replaceAll s.data.toList (⟨#[39]⟩ : ByteArray).data.toList (⟨#[39, 39]⟩ : ByteArray).data.toList = dbl s.data.toList := all_dbl _
  rw [e] at h
  exact h

set_option maxRecDepth 100000 in
set_option maxHeartbeats 4000000 in
theorem text_f (k i : Int) (s : ByteArray) (w : World) (hl : Libs w) (hm : mayB k i s = false) :
    Calls Tryz.prog 30 #[.agg #[.int .i64 k, .int .i64 i, .string s]] w fun e w' => e = .returned (.string ⟨([] : List UInt8).toArray⟩) ∧ Below w.heap.size w w' := by
  have HM := Lib.hid hm
  have HL := Lib.hid hl
  clear hm hl
  go_enter Tryz.func30, Tryz.ntmps30
  go_wp2_with (first
    | (go_at_call 24; refine (may_f _ _ _ _ HM.out).mono ?_; rintro e w1 ⟨rfl, hb1⟩; have hc1 := (bcell hb1).1; have hf1 := (bcell hb1).2; have hy1 := hb1.size; (try simp at hy1); have hz1_0 : w.heap.size < w1.heap.size := (by omega)))
  go_ret
  refine ⟨rfl, ?_⟩
  repeat (first | (with_reducible exact Below.refl _ _) | ((with_reducible refine cSet3 ?_ ?_ _ _ _); (· ((try simp) <;> omega))) | (with_reducible refine Below.drew ?_) | ((with_reducible refine cAlloc ?_ ?_ _); (· ((try simp) <;> omega))) | ((with_reducible refine cOn (by assumption) ?_ ?_); (· ((try simp) <;> omega))))

set_option maxRecDepth 100000 in
set_option maxHeartbeats 4000000 in
theorem text_0 (k i : Int) (s : ByteArray) (w : World) (hl : Libs w) (hm : mayB k i s = true) (hk : k = 0) :
    Calls Tryz.prog 30 #[.agg #[.int .i64 k, .int .i64 i, .string s]] w fun e w' => e = .returned (.string ⟨([78, 85, 76, 76] : List UInt8).toArray⟩) ∧ Below w.heap.size w w' := by
  have HM := Lib.hid hm
  have HL := Lib.hid hl
  clear hm hl
  subst hk
  go_enter Tryz.func30, Tryz.ntmps30
  go_wp2_with (first
    | (go_at_call 24; refine (may_t _ _ _ _ HM.out).mono ?_; rintro e w1 ⟨rfl, hb1⟩; have hc1 := (bcell hb1).1; have hf1 := (bcell hb1).2; have hy1 := hb1.size; (try simp at hy1); have hz1_0 : w.heap.size < w1.heap.size := (by omega)))
  go_ret
  refine ⟨rfl, ?_⟩
  repeat (first | (with_reducible exact Below.refl _ _) | ((with_reducible refine cSet3 ?_ ?_ _ _ _); (· ((try simp) <;> omega))) | (with_reducible refine Below.drew ?_) | ((with_reducible refine cAlloc ?_ ?_ _); (· ((try simp) <;> omega))) | ((with_reducible refine cOn (by assumption) ?_ ?_); (· ((try simp) <;> omega))))

set_option maxRecDepth 100000 in
set_option maxHeartbeats 4000000 in
theorem text_1 (k i : Int) (s : ByteArray) (w : World) (hl : Libs w) (hm : mayB k i s = true) (hk : k = 1) (hi : In64 i) :
    Calls Tryz.prog 30 #[.agg #[.int .i64 k, .int .i64 i, .string s]] w fun e w' => e = .returned (.string ⟨(itoa i : List UInt8).toArray⟩) ∧ Below w.heap.size w w' := by
  have HM := Lib.hid hm
  have HL := Lib.hid hl
  clear hm hl
  subst hk
  have HI := Lib.hid hi
  clear hi
  go_enter Tryz.func30, Tryz.ntmps30
  go_wp2_with (first
    | (go_at_call 24; refine (may_t _ _ _ _ HM.out).mono ?_; rintro e w1 ⟨rfl, hb1⟩; have hc1 := (bcell hb1).1; have hf1 := (bcell hb1).2; have hy1 := hb1.size; (try simp at hy1); have hz1_0 : w.heap.size < w1.heap.size := (by omega))
    | (go_at_call 45; refine (format_any i _ HI.out (HL.out.keep (by repeat (first | (with_reducible exact Below.refl _ _) | ((with_reducible refine cSet3 ?_ ?_ _ _ _); (· ((try simp) <;> omega))) | (with_reducible refine Below.drew ?_) | ((with_reducible refine cAlloc ?_ ?_ _); (· ((try simp) <;> omega))) | ((with_reducible refine cOn (by assumption) ?_ ?_); (· ((try simp) <;> omega))))) (Nat.le_refl _))).mono ?_; rintro e w2 ⟨rfl, hb2⟩; have hc2 := (bcell hb2).1; have hf2 := (bcell hb2).2; have hy2 := hb2.size; (try simp at hy2); have hz2_0 : w.heap.size < w2.heap.size := (by omega)))
  go_ret
  refine ⟨rfl, ?_⟩
  repeat (first | (with_reducible exact Below.refl _ _) | ((with_reducible refine cSet3 ?_ ?_ _ _ _); (· ((try simp) <;> omega))) | (with_reducible refine Below.drew ?_) | ((with_reducible refine cAlloc ?_ ?_ _); (· ((try simp) <;> omega))) | ((with_reducible refine cOn (by assumption) ?_ ?_); (· ((try simp) <;> omega))))

set_option maxRecDepth 100000 in
set_option maxHeartbeats 4000000 in
theorem text_2 (k i : Int) (s : ByteArray) (w : World) (hl : Libs w) (hm : mayB k i s = true) (hk : k = 2) (hz : s.size ≤ 40) :
    Calls Tryz.prog 30 #[.agg #[.int .i64 k, .int .i64 i, .string s]] w fun e w' => e = .returned (.string ⟨(39 :: (dbl s.data.toList ++ [39]) : List UInt8).toArray⟩) ∧ Below w.heap.size w w' := by
  have HM := Lib.hid hm
  have HL := Lib.hid hl
  clear hm hl
  subst hk
  obtain ⟨D, hD, hD80⟩ : ∃ D : ByteArray, D = ⟨(dbl s.data.toList).toArray⟩ ∧ D.size ≤ 80 := ⟨_, rfl, by have := dbl_len s.data.toList; simp [ByteArray.size]; simp at this; omega⟩
  have HR := Lib.hid (fun (W : World) (h : Libs W) => hD ▸ replace_any s W hz h)
  have HD := Lib.hid hD
  clear hD
  go_enter Tryz.func30, Tryz.ntmps30
  go_wp2_with (first
    | (go_at_call 24; refine (may_t _ _ _ _ HM.out).mono ?_; rintro e w1 ⟨rfl, hb1⟩; have hc1 := (bcell hb1).1; have hf1 := (bcell hb1).2; have hy1 := hb1.size; (try simp at hy1); have hz1_0 : w.heap.size < w1.heap.size := (by omega))
    | (go_at_call 46; refine (HR.out _ (HL.out.keep (by repeat (first | (with_reducible exact Below.refl _ _) | ((with_reducible refine cSet3 ?_ ?_ _ _ _); (· ((try simp) <;> omega))) | (with_reducible refine Below.drew ?_) | ((with_reducible refine cAlloc ?_ ?_ _); (· ((try simp) <;> omega))) | ((with_reducible refine cOn (by assumption) ?_ ?_); (· ((try simp) <;> omega))))) (Nat.le_refl _))).mono ?_; rintro e w2 ⟨rfl, hb2⟩; have hc2 := (bcell hb2).1; have hf2 := (bcell hb2).2; have hy2 := hb2.size; (try simp at hy2); have hz2_0 : w.heap.size < w2.heap.size := (by omega)))
  go_ret
  refine ⟨ret_str ?_, ?_⟩
  · rw [HD.out]; apply ByteArray.ext; simp
  repeat (first | (with_reducible exact Below.refl _ _) | ((with_reducible refine cSet3 ?_ ?_ _ _ _); (· ((try simp) <;> omega))) | (with_reducible refine Below.drew ?_) | ((with_reducible refine cAlloc ?_ ?_ _); (· ((try simp) <;> omega))) | ((with_reducible refine cOn (by assumption) ?_ ?_); (· ((try simp) <;> omega))))

set_option maxRecDepth 100000 in
set_option maxHeartbeats 4000000 in
theorem text_t (k i : Int) (s : ByteArray) (w : World) (hl : Libs w) (hm : mayB k i s = true) (hk : k = 3) (hi : i = 1) (hs : s = ⟨#[]⟩) :
    Calls Tryz.prog 30 #[.agg #[.int .i64 k, .int .i64 i, .string s]] w fun e w' => e = .returned (.string ⟨([84, 82, 85, 69] : List UInt8).toArray⟩) ∧ Below w.heap.size w w' := by
  have HM := Lib.hid hm
  have HL := Lib.hid hl
  clear hm hl
  subst hk hi hs
  go_enter Tryz.func30, Tryz.ntmps30
  go_wp2_with (first
    | (go_at_call 24; refine (may_t _ _ _ _ HM.out).mono ?_; rintro e w1 ⟨rfl, hb1⟩; have hc1 := (bcell hb1).1; have hf1 := (bcell hb1).2; have hy1 := hb1.size; (try simp at hy1); have hz1_0 : w.heap.size < w1.heap.size := (by omega)))
  refine detL_begin [.val (.agg #[.int .i64 3, .int .i64 1, .string ⟨#[]⟩]), .val (.agg #[.int .i64 3, .int .i64 1, .string ⟨#[]⟩]), .val (.bool true)] 3 (by kernel_rfl) ?_
  repeat
    (refine detL_val (by kernel_rfl) (yields_of rfl fun w1 hb1 => ?_) ?_
     · have hc1 := bcellD hb1
       clear hb1
       go_simp
       with_reducible first
         | exact Det1_same
         | exact Det1_enter (truth_t _)
     simp only [Act.put, List.setIfInBounds_toArray, List.set_cons_zero, List.set_cons_succ])
  refine detL_done (by kernel_rfl) fun w2 hw2 => ?_
  have hb2 := hw2.below
  clear hw2
  go_wp2
  go_ret
  refine ⟨rfl, ?_⟩
  repeat (first | (with_reducible exact Below.refl _ _) | ((with_reducible refine cSet3 ?_ ?_ _ _ _); (· ((try simp) <;> omega))) | (with_reducible refine Below.drew ?_) | ((with_reducible refine cAlloc ?_ ?_ _); (· ((try simp) <;> omega))) | ((with_reducible refine cOn (by assumption) ?_ ?_); (· ((try simp) <;> omega))))

set_option maxRecDepth 100000 in
set_option maxHeartbeats 4000000 in
theorem text_n (k i : Int) (s : ByteArray) (w : World) (hl : Libs w) (hm : mayB k i s = true) (hk : k = 3) (hi : i = 0) (hs : s = ⟨#[]⟩) :
    Calls Tryz.prog 30 #[.agg #[.int .i64 k, .int .i64 i, .string s]] w fun e w' => e = .returned (.string ⟨([70, 65, 76, 83, 69] : List UInt8).toArray⟩) ∧ Below w.heap.size w w' := by
  have HM := Lib.hid hm
  have HL := Lib.hid hl
  clear hm hl
  subst hk hi hs
  go_enter Tryz.func30, Tryz.ntmps30
  go_wp2_with (first
    | (go_at_call 24; refine (may_t _ _ _ _ HM.out).mono ?_; rintro e w1 ⟨rfl, hb1⟩; have hc1 := (bcell hb1).1; have hf1 := (bcell hb1).2; have hy1 := hb1.size; (try simp at hy1); have hz1_0 : w.heap.size < w1.heap.size := (by omega)))
  refine detL_begin [.val (.agg #[.int .i64 3, .int .i64 0, .string ⟨#[]⟩]), .val (.agg #[.int .i64 3, .int .i64 1, .string ⟨#[]⟩]), .val (.bool false)] 3 (by kernel_rfl) ?_
  repeat
    (refine detL_val (by kernel_rfl) (yields_of rfl fun w1 hb1 => ?_) ?_
     · have hc1 := bcellD hb1
       clear hb1
       go_simp
       with_reducible first
         | exact Det1_same
         | exact Det1_enter (truth_t _)
     simp only [Act.put, List.setIfInBounds_toArray, List.set_cons_zero, List.set_cons_succ])
  refine detL_done (by kernel_rfl) fun w2 hw2 => ?_
  have hb2 := hw2.below
  clear hw2
  go_wp2
  go_ret
  refine ⟨rfl, ?_⟩
  repeat (first | (with_reducible exact Below.refl _ _) | ((with_reducible refine cSet3 ?_ ?_ _ _ _); (· ((try simp) <;> omega))) | (with_reducible refine Below.drew ?_) | ((with_reducible refine cAlloc ?_ ?_ _); (· ((try simp) <;> omega))) | ((with_reducible refine cOn (by assumption) ?_ ?_); (· ((try simp) <;> omega))))

theorem text_any (k i : Int) (s : ByteArray) (w : World) (hl : Libs w) (hi : In64 i) :
    Calls Tryz.prog 30 #[.agg #[.int .i64 k, .int .i64 i, .string s]] w fun e w' => e = .returned (.string ⟨(txtO k i s).toArray⟩) ∧ Below w.heap.size w w' := by
  cases hm : mayB k i s with
  | false =>
    rw [show txtO k i s = [] by unfold txtO; rw [hm]; rfl]
    exact text_f k i s w hl hm
  | true =>
    cases four k i s hm with
    | null hk _ _ ht => rw [ht]; exact text_0 k i s w hl hm hk
    | num hk _ ht => rw [ht]; exact text_1 k i s w hl hm hk hi
    | text hk _ hz _ ht => rw [ht]; exact text_2 k i s w hl hm hk hz
    | no hk h0 hs ht => rw [ht]; exact text_n k i s w hl hm hk h0 hs
    | yes hk h1 hs ht => rw [ht]; exact text_t k i s w hl hm hk h1 hs
end Go.Proofs.YtnahejljelbbgaaGreatDoor
