import Derived.Test.YtchebhdndkaheaaGreatDoorW03
import Derived.Lib.ReplaceLaws
import Derived.Lib.ItoaNum
import Derived.Lib.SmallJoins
import Derived.Lib.AppendIntMem
import Derived.Test.YtchebhdndkaheaaGreatDoorW02
import Derived.Laws.BytesArg
import Derived.Laws.OwnMore
import Derived.Deep.LoopGhost
import Derived.Lib.ItoaLen
import Derived.Lib.ItoaMem
import Derived.Lib.IndexLaws

/- The text of a value: plain facts, no walk. -/
namespace Go.Proofs.YtchebhdndkaheaaGreatDoor
open Go.RowKit Go.Lib

/-- Each quote twice. -/
def dbl : List UInt8 → List UInt8
  | [] => []
  | c :: l => if c = 39 then 39 :: 39 :: dbl l else c :: dbl l
theorem idx_hit (l : List UInt8) : Lib.index (39 :: l) [39] = 0 := by simp [Lib.index]
theorem idx_miss {c : UInt8} (hc : c ≠ 39) (l : List UInt8) : Lib.index (c :: l) [39] = if Lib.index l [39] == -1 then -1 else Lib.index l [39] + 1 := by
  have : ([39] : List UInt8).isPrefixOf (c :: l) = false := by simp [List.isPrefixOf, Ne.symm hc]
  simp [Lib.index, this]
theorem rep_dbl : ∀ (l : List UInt8), replaceK [39] [39, 39] (l.count 39) l = dbl l
  | [] => rfl
  | c :: l => by
    have ih := rep_dbl l
    by_cases hc : c = 39
    · subst hc
      rw [List.count_cons_self, replaceK_hit _ _ _ _ 0 (idx_hit l)]
      simp [dbl, ih]
    · rw [List.count_cons_of_ne hc]
      simp only [dbl, hc, if_false]
      cases hk : l.count 39 with
      | zero => rw [hk] at ih; simp only [replaceK] at ih ⊢; rw [← ih]
      | succ k =>
        rw [hk] at ih
        obtain ⟨i, hi⟩ := index_of_count (s := l) (old := [39]) (by rw [count_one, hk]; omega)
        have hi' : Lib.index (c :: l) [39] = ((i + 1 : Nat) : Int) := by
          rw [idx_miss hc, hi]
          have : ((i : Int) == -1) = false := beq_eq_false_iff_ne.2 (by omega)
          rw [this]; simp
        rw [replaceK_hit _ _ _ _ _ hi', ← ih, replaceK_hit _ _ _ _ _ hi]
        simp
theorem all_dbl (l : List UInt8) : Lib.replaceAll l [39] [39, 39] = dbl l := by
  unfold Lib.replaceAll Lib.replace Lib.replaceNum
  rw [if_neg (by decide), if_pos (.inl (by decide)), count_one]
  exact rep_dbl l
theorem dbl_inj : ∀ (l m : List UInt8), dbl l = dbl m → l = m
  | [], [], _ => rfl
  | [], c :: m, h => by simp only [dbl] at h; split at h <;> simp at h
  | c :: l, [], h => by simp only [dbl] at h; split at h <;> simp at h
  | c :: l, d :: m, h => by
    simp only [dbl] at h
    by_cases h1 : c = 39 <;> by_cases h2 : d = 39
    · rw [if_pos h1, if_pos h2] at h
      simp only [List.cons.injEq, true_and] at h
      rw [h1, h2, dbl_inj l m h]
    · rw [if_pos h1, if_neg h2] at h
      simp only [List.cons.injEq] at h
      exact absurd h.1.symm h2
    · rw [if_neg h1, if_pos h2] at h
      simp only [List.cons.injEq] at h
      exact absurd h.1 h1
    · rw [if_neg h1, if_neg h2] at h
      simp only [List.cons.injEq] at h
      rw [h.1, dbl_inj l m h.2]
theorem dbl_len : ∀ (l : List UInt8), (dbl l).length ≤ 2 * l.length
  | [] => by simp [dbl]
  | c :: l => by
    have := dbl_len l
    simp only [dbl]
    split <;> simp <;> omega

/-- What digits say. -/
def valD (l : List UInt8) : Nat := l.foldl (fun a c => 10 * a + (c.toNat - 48)) 0
theorem valD_snoc (l : List UInt8) (c : UInt8) : valD (l ++ [c]) = 10 * valD l + (c.toNat - 48) := by simp [valD]
theorem dig_val {d : Nat} (h : d < 10) : (UInt8.ofNat (48 + d)).toNat = 48 + d := by rw [UInt8.toNat_ofNat']; omega
theorem valD_dec (u : Nat) : valD (decDigits u) = u := by
  induction u using Nat.strongRecOn with
  | ind u ih =>
    rw [decDigits]
    split
    · rename_i h
      simp only [valD, List.foldl_cons, List.foldl_nil]
      rw [dig_val h]; omega
    · rename_i h
      rw [valD_snoc, ih (u / 10) (by omega), dig_val (by omega)]
      omega
theorem dec_digits (u : Nat) : ∀ c ∈ decDigits u, 48 ≤ c.toNat ∧ c.toNat ≤ 57 := by
  induction u using Nat.strongRecOn with
  | ind u ih =>
    intro c hc
    rw [decDigits] at hc
    split at hc
    · rename_i h
      simp only [List.mem_singleton] at hc
      subst hc
      rw [dig_val h]; omega
    · rename_i h
      rw [List.mem_append] at hc
      rcases hc with hc | hc
      · exact ih (u / 10) (by omega) c hc
      · simp only [List.mem_singleton] at hc
        subst hc
        rw [dig_val (by omega)]; omega
theorem dec_ne (u : Nat) : decDigits u ≠ [] := by
  rw [decDigits]
  split <;> simp
theorem dec_inj {u v : Nat} (h : decDigits u = decDigits v) : u = v := by rw [← valD_dec u, h, valD_dec]
/-- A number's text begins with a digit, or with a minus. -/
theorem itoa_head (n : Int) : ∃ c l, itoa n = c :: l ∧ (c = 45 ∨ (48 ≤ c.toNat ∧ c.toNat ≤ 57)) ∧ (c = 45 ↔ n < 0) := by
  unfold itoa
  by_cases h : n < 0
  · rw [if_pos h]; exact ⟨45, _, rfl, .inl rfl, fun _ => h, fun _ => rfl⟩
  · rw [if_neg h]
    cases hd : decDigits n.toNat with
    | nil => exact absurd hd (dec_ne _)
    | cons c l =>
      have := dec_digits n.toNat c (by rw [hd]; exact List.mem_cons_self)
      exact ⟨c, l, rfl, .inr this, fun e => by subst e; exact absurd this.1 (by decide), fun h' => absurd h' h⟩
theorem itoa_inj {m n : Int} (h : itoa m = itoa n) : m = n := by
  obtain ⟨c, l, e1, _, i1⟩ := itoa_head m
  obtain ⟨d, r, e2, _, i2⟩ := itoa_head n
  have hcd : c = d := by rw [h, e2] at e1; injection e1 with e _; exact e.symm
  unfold itoa at h
  by_cases hm : m < 0
  · have hn : n < 0 := i2.1 (hcd ▸ i1.2 hm)
    rw [if_pos hm, if_pos hn] at h
    have := dec_inj (List.cons.inj h).2
    omega
  · have hn : ¬ n < 0 := fun hn => hm (i1.1 (hcd ▸ i2.2 hn))
    rw [if_neg hm, if_neg hn] at h
    have := dec_inj h
    omega

/-- A value's text. -/
def txtO (k i : Int) (s : ByteArray) : List UInt8 :=
  if mayB k i s then (if k = 1 then itoa i else if k = 2 then 39 :: (dbl s.data.toList ++ [39]) else if k = 3 then (if i = 1 then [84, 82, 85, 69] else [70, 65, 76, 83, 69]) else [78, 85, 76, 76]) else []

/-- A value that may be is one of four. -/
inductive Four (k i : Int) (s : ByteArray) : Prop
  | null (hk : k = 0) (hi : i = 0) (hs : s = ⟨#[]⟩) (ht : txtO k i s = [78, 85, 76, 76])
  | num (hk : k = 1) (hs : s = ⟨#[]⟩) (ht : txtO k i s = itoa i)
  | text (hk : k = 2) (hi : i = 0) (hz : s.size ≤ 40) (hc : ∀ c ∈ s.data.toList, okO c = true) (ht : txtO k i s = 39 :: (dbl s.data.toList ++ [39]))
  | no (hk : k = 3) (hi : i = 0) (hs : s = ⟨#[]⟩) (ht : txtO k i s = [70, 65, 76, 83, 69])
  | yes (hk : k = 3) (hi : i = 1) (hs : s = ⟨#[]⟩) (ht : txtO k i s = [84, 82, 85, 69])
theorem bs_nil {a : ByteArray} (h : a.data.toList = []) : a = ⟨#[]⟩ := ByteArray.ext (by simpa using h)
theorem four (k i : Int) (s : ByteArray) (hm : mayB k i s = true) : Four k i s := by
  obtain ⟨T, hT⟩ : ∃ T, T = txtO k i s := ⟨_, rfl⟩
  have ht := hT
  unfold txtO at ht
  rw [if_pos hm] at ht
  have hm' := hm
  unfold mayB at hm
  by_cases h1 : k = 1
  · rw [if_pos h1] at ht
    simp [h1] at hm
    rw [toList_data] at hm
    exact .num h1 (bs_nil hm) (hT.symm.trans ht)
  · rw [if_neg h1] at ht
    by_cases h2 : k = 2
    · rw [if_pos h2] at ht
      simp [h2] at hm
      have h3 := hm.2
      rw [txt_all] at h3
      unfold allO at h3
      exact .text h2 hm.1.1 hm.1.2 (List.all_eq_true.1 h3) (hT.symm.trans ht)
    · rw [if_neg h2] at ht
      by_cases h3 : k = 3
      · rw [if_pos h3] at ht
        simp [h3] at hm
        rw [toList_data] at hm
        rcases hm.2 with h | h
        · rw [if_neg (by omega)] at ht; exact .no h3 h (bs_nil hm.1) (hT.symm.trans ht)
        · rw [if_pos h] at ht; exact .yes h3 h (bs_nil hm.1) (hT.symm.trans ht)
      · rw [if_neg h3] at ht
        have h0 : k = 0 := Classical.byContradiction fun h0 => by simp [h0, h1, h2, h3] at hm
        simp [h0] at hm
        rw [toList_data] at hm
        exact .null h0 hm.1 (bs_nil hm.2) (hT.symm.trans ht)
/-- Two that may be have the same text just if they are the same. -/
theorem txt_inj {k i : Int} {s : ByteArray} {k' i' : Int} {s' : ByteArray} (h : mayB k i s = true) (h' : mayB k' i' s' = true) (e : txtO k i s = txtO k' i' s') : k = k' ∧ i = i' ∧ s = s' := by
  cases four k i s h with
  | null hk hi hs ht =>
    cases four k' i' s' h' with
    | null hk' hi' hs' ht' => exact ⟨by rw [hk, hk'], by rw [hi, hi'], by rw [hs, hs']⟩
    | num hk' hs' ht' =>
      obtain ⟨c, l, e1, hc, _⟩ := itoa_head i'
      rw [ht, ht', e1] at e
      injection e with e _
      subst e
      rcases hc with hc | hc
      · exact absurd hc (by decide)
      · exact absurd hc.2 (by decide)
    | text hk' hi' hz' hc' ht' => rw [ht, ht'] at e; simp at e
    | no hk' hi' hs' ht' => rw [ht, ht'] at e; simp at e
    | yes hk' hi' hs' ht' => rw [ht, ht'] at e; simp at e
  | num hk hs ht =>
    cases four k' i' s' h' with
    | num hk' hs' ht' => rw [ht, ht'] at e; exact ⟨by rw [hk, hk'], itoa_inj e, by rw [hs, hs']⟩
    | null hk' hi' hs' ht' =>
      obtain ⟨c, l, e1, hc, _⟩ := itoa_head i
      rw [ht, ht', e1] at e; injection e with e _; subst e
      rcases hc with hc | hc
      · exact absurd hc (by decide)
      · exact absurd hc.2 (by decide)
    | text hk' hi' hz' hc' ht' =>
      obtain ⟨c, l, e1, hc, _⟩ := itoa_head i
      rw [ht, ht', e1] at e; injection e with e _; subst e
      rcases hc with hc | hc
      · exact absurd hc (by decide)
      · exact absurd hc.1 (by decide)
    | no hk' hi' hs' ht' =>
      obtain ⟨c, l, e1, hc, _⟩ := itoa_head i
      rw [ht, ht', e1] at e; injection e with e _; subst e
      rcases hc with hc | hc
      · exact absurd hc (by decide)
      · exact absurd hc.2 (by decide)
    | yes hk' hi' hs' ht' =>
      obtain ⟨c, l, e1, hc, _⟩ := itoa_head i
      rw [ht, ht', e1] at e; injection e with e _; subst e
      rcases hc with hc | hc
      · exact absurd hc (by decide)
      · exact absurd hc.2 (by decide)
  | text hk hi hz hc ht =>
    cases four k' i' s' h' with
    | text hk' hi' hz' hc' ht' =>
      rw [ht, ht'] at e
      simp only [List.cons.injEq, true_and] at e
      have e2 := dbl_inj _ _ (List.append_cancel_right e)
      exact ⟨by rw [hk, hk'], by rw [hi, hi'], ByteArray.ext (Array.toList_inj.1 e2)⟩
    | null hk' hi' hs' ht' => rw [ht, ht'] at e; simp at e
    | num hk' hs' ht' =>
      obtain ⟨c, l, e1, hc, _⟩ := itoa_head i'
      rw [ht, ht', e1] at e; injection e with e _; subst e
      rcases hc with hc | hc
      · exact absurd hc (by decide)
      · exact absurd hc.1 (by decide)
    | no hk' hi' hs' ht' => rw [ht, ht'] at e; simp at e
    | yes hk' hi' hs' ht' => rw [ht, ht'] at e; simp at e
  | no hk hi hs ht =>
    cases four k' i' s' h' with
    | no hk' hi' hs' ht' => exact ⟨by rw [hk, hk'], by rw [hi, hi'], by rw [hs, hs']⟩
    | null hk' hi' hs' ht' => rw [ht, ht'] at e; simp at e
    | num hk' hs' ht' =>
      obtain ⟨c, l, e1, hc, _⟩ := itoa_head i'
      rw [ht, ht', e1] at e; injection e with e _; subst e
      rcases hc with hc | hc
      · exact absurd hc (by decide)
      · exact absurd hc.2 (by decide)
    | text hk' hi' hz' hc' ht' => rw [ht, ht'] at e; simp at e
    | yes hk' hi' hs' ht' => rw [ht, ht'] at e; simp at e
  | yes hk hi hs ht =>
    cases four k' i' s' h' with
    | yes hk' hi' hs' ht' => exact ⟨by rw [hk, hk'], by rw [hi, hi'], by rw [hs, hs']⟩
    | null hk' hi' hs' ht' => rw [ht, ht'] at e; simp at e
    | num hk' hs' ht' =>
      obtain ⟨c, l, e1, hc, _⟩ := itoa_head i'
      rw [ht, ht', e1] at e; injection e with e _; subst e
      rcases hc with hc | hc
      · exact absurd hc (by decide)
      · exact absurd hc.2 (by decide)
    | text hk' hi' hz' hc' ht' => rw [ht, ht'] at e; simp at e
    | no hk' hi' hs' ht' => rw [ht, ht'] at e; simp at e
end Go.Proofs.YtchebhdndkaheaaGreatDoor

/- The text of a value: value.Text. -/
namespace Go.Proofs.YtchebhdndkaheaaGreatDoor
open Go.RowKit Go.Lib

/-- What is known of the library's variables. -/
structure Libs (w : World) : Prop where
  tab : Lib.TabIs Tryz.prog w "internal/strconv.uint64pow10" .u64 Lib.pow10Tab
  max : ∃ m, w.cell? ⟨0, 0, none⟩ = some (.int .i64 m)
theorem Libs.lt {w : World} (h : Libs w) : 0 < w.heap.size := by obtain ⟨m, hm⟩ := h.max; exact World.block_lt_of_cell? w _ hm
theorem Libs.keep {w w' : World} {B : Nat} (h : Libs w) (hb : Below B w w') (hB : w.heap.size ≤ B) : Libs w' :=
  ⟨Go.Joins.tab_stays (g := 2) (by kernel_rfl) h.tab hb hB, by
    obtain ⟨m, hm⟩ := h.max
    exact ⟨m, (hb.cell (p := ⟨0, 0, none⟩) (Nat.lt_of_lt_of_le h.lt hB)).trans hm⟩⟩
theorem Libs.drew {w : World} (h : Libs w) : Libs w.drew := h.keep ((Below.refl w.heap.size w).drew) (Nat.le_refl _)
theorem ret_str {a b : ByteArray} (h : a = b) : Ending.returned (.string a) = .returned (.string b) := by rw [h]
/-- strconv.FormatInt at base 10. -/
theorem format_any (i : Int) (w : World) (hi : In64 i) (hl : Libs w) :
    Calls Tryz.prog 135 #[.int .i64 i, .int .i64 10] w fun e w' => e = .returned (.string ⟨(itoa i).toArray⟩) ∧ Below w.heap.size w w' :=
  (Tryz.strconv_FormatInt_10 i hi.1 hi.2 w hl.tab).mono fun _ _ ⟨h, k, os, h'⟩ => ⟨h, h' ▸ below_grow w.heap.size w (Nat.le_refl _) k os⟩
theorem replace_any (s : ByteArray) (w : World) (hs : s.size ≤ 40) (hl : Libs w) :
    Calls Tryz.prog 136 #[.string s, .string ⟨#[39]⟩, .string ⟨#[39, 39]⟩] w fun e w' => e = .returned (.string ⟨(dbl s.data.toList).toArray⟩) ∧ Below w.heap.size w w' := by
  obtain ⟨m, hm⟩ := hl.max
  have hc := countB_mul_le ⟨#[39]⟩ (by decide) s.size s (Nat.le_refl _)
  have h := Tryz.strings_ReplaceAll s ⟨#[39]⟩ ⟨#[39, 39]⟩ m w (by omega) hm (by decide) (by
    have e1 : (⟨#[39]⟩ : ByteArray).size = 1 := rfl
    have e2 : (⟨#[39, 39]⟩ : ByteArray).size = 2 := rfl
    rw [e1] at hc
    rw [e2]
    omega)
  have e : Lib.replaceAll s.data.toList (⟨#[39]⟩ : ByteArray).data.toList (⟨#[39, 39]⟩ : ByteArray).data.toList = dbl s.data.toList := all_dbl _
  rw [e] at h
  exact h

set_option maxRecDepth 100000 in
set_option maxHeartbeats 4000000 in
theorem text_f (k i : Int) (s : ByteArray) (w : World) (hl : Libs w) (hm : mayB k i s = false) :
    Calls Tryz.prog 103 #[.agg #[.int .i64 k, .int .i64 i, .string s]] w fun e w' => e = .returned (.string ⟨([] : List UInt8).toArray⟩) ∧ Below w.heap.size w w' := by
  have HM := Lib.hid hm
  have HL := Lib.hid hl
  clear hm hl
  go_enter Tryz.func103, Tryz.ntmps103
  go_wp2_with (first
    | (go_at_call 24; refine (may_f _ _ _ _ HM.out).mono ?_; rintro e w1 ⟨rfl, hb1⟩; have hc1 := (bcell hb1).1; have hf1 := (bcell hb1).2; have hy1 := hb1.size; (try simp at hy1); have hz1_0 : w.heap.size < w1.heap.size := (by omega)))
  go_ret
  refine ⟨rfl, ?_⟩
  repeat (first | (with_reducible exact Below.refl _ _) | ((with_reducible refine cSet3 ?_ ?_ _ _ _); (· ((try simp) <;> omega))) | (with_reducible refine Below.drew ?_) | ((with_reducible refine cAlloc ?_ ?_ _); (· ((try simp) <;> omega))) | ((with_reducible refine cOn (by assumption) ?_ ?_); (· ((try simp) <;> omega))))

set_option maxRecDepth 100000 in
set_option maxHeartbeats 4000000 in
theorem text_0 (k i : Int) (s : ByteArray) (w : World) (hl : Libs w) (hm : mayB k i s = true) (hk : k = 0) :
    Calls Tryz.prog 103 #[.agg #[.int .i64 k, .int .i64 i, .string s]] w fun e w' => e = .returned (.string ⟨([78, 85, 76, 76] : List UInt8).toArray⟩) ∧ Below w.heap.size w w' := by
  have HM := Lib.hid hm
  have HL := Lib.hid hl
  clear hm hl
  subst hk
  go_enter Tryz.func103, Tryz.ntmps103
  go_wp2_with (first
    | (go_at_call 24; refine (may_t _ _ _ _ HM.out).mono ?_; rintro e w1 ⟨rfl, hb1⟩; have hc1 := (bcell hb1).1; have hf1 := (bcell hb1).2; have hy1 := hb1.size; (try simp at hy1); have hz1_0 : w.heap.size < w1.heap.size := (by omega)))
  go_ret
  refine ⟨rfl, ?_⟩
  repeat (first | (with_reducible exact Below.refl _ _) | ((with_reducible refine cSet3 ?_ ?_ _ _ _); (· ((try simp) <;> omega))) | (with_reducible refine Below.drew ?_) | ((with_reducible refine cAlloc ?_ ?_ _); (· ((try simp) <;> omega))) | ((with_reducible refine cOn (by assumption) ?_ ?_); (· ((try simp) <;> omega))))

set_option maxRecDepth 100000 in
set_option maxHeartbeats 4000000 in
theorem text_1 (k i : Int) (s : ByteArray) (w : World) (hl : Libs w) (hm : mayB k i s = true) (hk : k = 1) (hi : In64 i) :
    Calls Tryz.prog 103 #[.agg #[.int .i64 k, .int .i64 i, .string s]] w fun e w' => e = .returned (.string ⟨(itoa i : List UInt8).toArray⟩) ∧ Below w.heap.size w w' := by
  have HM := Lib.hid hm
  have HL := Lib.hid hl
  clear hm hl
  subst hk
  have HI := Lib.hid hi
  clear hi
  go_enter Tryz.func103, Tryz.ntmps103
  go_wp2_with (first
    | (go_at_call 24; refine (may_t _ _ _ _ HM.out).mono ?_; rintro e w1 ⟨rfl, hb1⟩; have hc1 := (bcell hb1).1; have hf1 := (bcell hb1).2; have hy1 := hb1.size; (try simp at hy1); have hz1_0 : w.heap.size < w1.heap.size := (by omega))
    | (go_at_call 135; refine (format_any i _ HI.out (HL.out.keep (by repeat (first | (with_reducible exact Below.refl _ _) | ((with_reducible refine cSet3 ?_ ?_ _ _ _); (· ((try simp) <;> omega))) | (with_reducible refine Below.drew ?_) | ((with_reducible refine cAlloc ?_ ?_ _); (· ((try simp) <;> omega))) | ((with_reducible refine cOn (by assumption) ?_ ?_); (· ((try simp) <;> omega))))) (Nat.le_refl _))).mono ?_; rintro e w2 ⟨rfl, hb2⟩; have hc2 := (bcell hb2).1; have hf2 := (bcell hb2).2; have hy2 := hb2.size; (try simp at hy2); have hz2_0 : w.heap.size < w2.heap.size := (by omega)))
  go_ret
  refine ⟨rfl, ?_⟩
  repeat (first | (with_reducible exact Below.refl _ _) | ((with_reducible refine cSet3 ?_ ?_ _ _ _); (· ((try simp) <;> omega))) | (with_reducible refine Below.drew ?_) | ((with_reducible refine cAlloc ?_ ?_ _); (· ((try simp) <;> omega))) | ((with_reducible refine cOn (by assumption) ?_ ?_); (· ((try simp) <;> omega))))

set_option maxRecDepth 100000 in
set_option maxHeartbeats 4000000 in
theorem text_2 (k i : Int) (s : ByteArray) (w : World) (hl : Libs w) (hm : mayB k i s = true) (hk : k = 2) (hz : s.size ≤ 40) :
    Calls Tryz.prog 103 #[.agg #[.int .i64 k, .int .i64 i, .string s]] w fun e w' => e = .returned (.string ⟨(39 :: (dbl s.data.toList ++ [39]) : List UInt8).toArray⟩) ∧ Below w.heap.size w w' := by
  have HM := Lib.hid hm
  have HL := Lib.hid hl
  clear hm hl
  subst hk
  obtain ⟨D, hD, hD80⟩ : ∃ D : ByteArray, D = ⟨(dbl s.data.toList).toArray⟩ ∧ D.size ≤ 80 := ⟨_, rfl, by have := dbl_len s.data.toList; simp [ByteArray.size]; simp at this; omega⟩
  have HR := Lib.hid (fun (W : World) (h : Libs W) => hD ▸ replace_any s W hz h)
  have HD := Lib.hid hD
  clear hD
  go_enter Tryz.func103, Tryz.ntmps103
  go_wp2_with (first
    | (go_at_call 24; refine (may_t _ _ _ _ HM.out).mono ?_; rintro e w1 ⟨rfl, hb1⟩; have hc1 := (bcell hb1).1; have hf1 := (bcell hb1).2; have hy1 := hb1.size; (try simp at hy1); have hz1_0 : w.heap.size < w1.heap.size := (by omega))
    | (go_at_call 136; refine (HR.out _ (HL.out.keep (by repeat (first | (with_reducible exact Below.refl _ _) | ((with_reducible refine cSet3 ?_ ?_ _ _ _); (· ((try simp) <;> omega))) | (with_reducible refine Below.drew ?_) | ((with_reducible refine cAlloc ?_ ?_ _); (· ((try simp) <;> omega))) | ((with_reducible refine cOn (by assumption) ?_ ?_); (· ((try simp) <;> omega))))) (Nat.le_refl _))).mono ?_; rintro e w2 ⟨rfl, hb2⟩; have hc2 := (bcell hb2).1; have hf2 := (bcell hb2).2; have hy2 := hb2.size; (try simp at hy2); have hz2_0 : w.heap.size < w2.heap.size := (by omega)))
  go_ret
  refine ⟨ret_str ?_, ?_⟩
  · rw [HD.out]; apply ByteArray.ext; simp
  repeat (first | (with_reducible exact Below.refl _ _) | ((with_reducible refine cSet3 ?_ ?_ _ _ _); (· ((try simp) <;> omega))) | (with_reducible refine Below.drew ?_) | ((with_reducible refine cAlloc ?_ ?_ _); (· ((try simp) <;> omega))) | ((with_reducible refine cOn (by assumption) ?_ ?_); (· ((try simp) <;> omega))))

set_option maxRecDepth 100000 in
set_option maxHeartbeats 4000000 in
theorem text_t (k i : Int) (s : ByteArray) (w : World) (hl : Libs w) (hm : mayB k i s = true) (hk : k = 3) (hi : i = 1) (hs : s = ⟨#[]⟩) :
    Calls Tryz.prog 103 #[.agg #[.int .i64 k, .int .i64 i, .string s]] w fun e w' => e = .returned (.string ⟨([84, 82, 85, 69] : List UInt8).toArray⟩) ∧ Below w.heap.size w w' := by
  have HM := Lib.hid hm
  have HL := Lib.hid hl
  clear hm hl
  subst hk hi hs
  go_enter Tryz.func103, Tryz.ntmps103
  go_wp2_with (first
    | (go_at_call 24; refine (may_t _ _ _ _ HM.out).mono ?_; rintro e w1 ⟨rfl, hb1⟩; have hc1 := (bcell hb1).1; have hf1 := (bcell hb1).2; have hy1 := hb1.size; (try simp at hy1); have hz1_0 : w.heap.size < w1.heap.size := (by omega)))
  refine detL_begin [.val (.agg #[.int .i64 3, .int .i64 1, .string ⟨#[]⟩]), .val (.agg #[.int .i64 3, .int .i64 1, .string ⟨#[]⟩]), .val (.bool true)] 3 (by kernel_rfl) ?_
  repeat
    (refine detL_val (by kernel_rfl) (yields_of rfl fun w1 hb1 => ?_) ?_
     · have hc1 := bcellD hb1
       clear hb1
       go_simp
       with_reducible first
         | exact Det1_same
         | exact Det1_enter (truth_t _)
     simp only [Act.put, List.setIfInBounds_toArray, List.set_cons_zero, List.set_cons_succ])
  refine detL_done (by kernel_rfl) fun w2 hw2 => ?_
  have hb2 := hw2.below
  clear hw2
  go_wp2
  go_ret
  refine ⟨rfl, ?_⟩
  repeat (first | (with_reducible exact Below.refl _ _) | ((with_reducible refine cSet3 ?_ ?_ _ _ _); (· ((try simp) <;> omega))) | (with_reducible refine Below.drew ?_) | ((with_reducible refine cAlloc ?_ ?_ _); (· ((try simp) <;> omega))) | ((with_reducible refine cOn (by assumption) ?_ ?_); (· ((try simp) <;> omega))))

set_option maxRecDepth 100000 in
set_option maxHeartbeats 4000000 in
theorem text_n (k i : Int) (s : ByteArray) (w : World) (hl : Libs w) (hm : mayB k i s = true) (hk : k = 3) (hi : i = 0) (hs : s = ⟨#[]⟩) :
    Calls Tryz.prog 103 #[.agg #[.int .i64 k, .int .i64 i, .string s]] w fun e w' => e = .returned (.string ⟨([70, 65, 76, 83, 69] : List UInt8).toArray⟩) ∧ Below w.heap.size w w' := by
  have HM := Lib.hid hm
  have HL := Lib.hid hl
  clear hm hl
  subst hk hi hs
  go_enter Tryz.func103, Tryz.ntmps103
  go_wp2_with (first
    | (go_at_call 24; refine (may_t _ _ _ _ HM.out).mono ?_; rintro e w1 ⟨rfl, hb1⟩; have hc1 := (bcell hb1).1; have hf1 := (bcell hb1).2; have hy1 := hb1.size; (try simp at hy1); have hz1_0 : w.heap.size < w1.heap.size := (by omega)))
  refine detL_begin [.val (.agg #[.int .i64 3, .int .i64 0, .string ⟨#[]⟩]), .val (.agg #[.int .i64 3, .int .i64 1, .string ⟨#[]⟩]), .val (.bool false)] 3 (by kernel_rfl) ?_
  repeat
    (refine detL_val (by kernel_rfl) (yields_of rfl fun w1 hb1 => ?_) ?_
     · have hc1 := bcellD hb1
       clear hb1
       go_simp
       with_reducible first
         | exact Det1_same
         | exact Det1_enter (truth_t _)
     simp only [Act.put, List.setIfInBounds_toArray, List.set_cons_zero, List.set_cons_succ])
  refine detL_done (by kernel_rfl) fun w2 hw2 => ?_
  have hb2 := hw2.below
  clear hw2
  go_wp2
  go_ret
  refine ⟨rfl, ?_⟩
  repeat (first | (with_reducible exact Below.refl _ _) | ((with_reducible refine cSet3 ?_ ?_ _ _ _); (· ((try simp) <;> omega))) | (with_reducible refine Below.drew ?_) | ((with_reducible refine cAlloc ?_ ?_ _); (· ((try simp) <;> omega))) | ((with_reducible refine cOn (by assumption) ?_ ?_); (· ((try simp) <;> omega))))

theorem text_any (k i : Int) (s : ByteArray) (w : World) (hl : Libs w) (hi : In64 i) :
    Calls Tryz.prog 103 #[.agg #[.int .i64 k, .int .i64 i, .string s]] w fun e w' => e = .returned (.string ⟨(txtO k i s).toArray⟩) ∧ Below w.heap.size w w' := by
  cases hm : mayB k i s with
  | false =>
    rw [show txtO k i s = [] by unfold txtO; rw [hm]; rfl]
    exact text_f k i s w hl hm
  | true =>
    cases four k i s hm with
    | null hk _ _ ht => rw [ht]; exact text_0 k i s w hl hm hk
    | num hk _ ht => rw [ht]; exact text_1 k i s w hl hm hk hi
    | text hk _ hz _ ht => rw [ht]; exact text_2 k i s w hl hm hk hz
    | no hk h0 hs ht => rw [ht]; exact text_n k i s w hl hm hk h0 hs
    | yes hk h1 hs ht => rw [ht]; exact text_t k i s w hl hm hk h1 hs
end Go.Proofs.YtchebhdndkaheaaGreatDoor

/- The document's own text of a value: digits, Text. -/
namespace Go.Proofs.YtchebhdndkaheaaGreatDoor
open Go.RowKit Go.Lib

theorem bs_eq {a : ByteArray} {l : List UInt8} (h : a.data.toList = l) : a = ⟨l.toArray⟩ := by
  subst h
  exact ByteArray.ext (by simp)
theorem dec_small {j : Nat} (h : j < 10) : decDigits j = [UInt8.ofNat (48 + j % 10)] := by rw [decDigits, dif_pos h, Nat.mod_eq_of_lt h]
theorem dec_big {j : Nat} (h : ¬ j < 10) : decDigits j = decDigits (j / 10) ++ [UInt8.ofNat (48 + j % 10)] := by rw [decDigits, dif_neg h]

end Go.Proofs.YtchebhdndkaheaaGreatDoor

/- The document's own text of a value: Text. -/
namespace Go.Proofs.YtchebhdndkaheaaGreatDoor
open Go.RowKit Go.Lib

end Go.Proofs.YtchebhdndkaheaaGreatDoor

/- Tokens of a text: plain facts, no walk. -/
namespace Go.Proofs.YtchebhdndkaheaaGreatDoor
open Go.RowKit Go.Lib

def letB (c : UInt8) : Bool := (decide (97 ≤ c.toNat) && decide (c.toNat ≤ 122)) || (decide (65 ≤ c.toNat) && decide (c.toNat ≤ 90))
def digB (c : UInt8) : Bool := decide (48 ≤ c.toNat) && decide (c.toNat ≤ 57)
def parB (c : UInt8) : Bool := letB c || (digB c || decide (c.toNat = 95))
def sigL : List UInt8 := [40, 41, 44, 61, 60, 43, 45, 42]
def sigB (c : UInt8) : Bool := sigL.contains c
def nonB (_ : UInt8) : Bool := false
/-- How many octets at the beginning stand together. -/
def tog (p q : UInt8 → Bool) : List UInt8 → Nat
  | [] => 0
  | c :: r => if p c then 1 + (r.takeWhile q).length else 0
/-- May one of the kind be this? -/
def kmay (p q : UInt8 → Bool) (most : Nat) (l : List UInt8) : Bool := !l.isEmpty && (decide (l.length ≤ most) && decide (tog p q l = l.length))
/-- What stands between two quotes, and what stands behind the second one. -/
def qscan : List UInt8 → Option (List UInt8 × List UInt8)
  | [] => none
  | [c] => if c = 39 then some ([], []) else none
  | c :: d :: r => if c = 39 then (if d = 39 then (qscan r).map (fun x => (39 :: x.1, x.2)) else some ([], d :: r)) else (qscan (d :: r)).map (fun x => (c :: x.1, x.2))
theorem qscan_other {c : UInt8} (hc : c ≠ 39) (r : List UInt8) : qscan (c :: r) = (qscan r).map (fun x => (c :: x.1, x.2)) := by
  cases r with
  | nil => simp [qscan, hc]
  | cons d r => rw [qscan, if_neg hc]
theorem qscan_two (r : List UInt8) : qscan (39 :: 39 :: r) = (qscan r).map (fun x => (39 :: x.1, x.2)) := by rw [qscan, if_pos rfl, if_pos rfl]
theorem qscan_end {r : List UInt8} (h : r.head? ≠ some 39) : qscan (39 :: r) = some ([], r) := by
  cases r with
  | nil => simp [qscan]
  | cons d r =>
    rw [qscan, if_pos rfl, if_neg]
    intro e
    subst e
    exact h rfl
theorem qscan_some : ∀ (n : Nat) (l x r : List UInt8), l.length ≤ n → qscan l = some (x, r) → l = dbl x ++ 39 :: r ∧ r.head? ≠ some 39
  | n, [], x, r, _, h => by simp [qscan] at h
  | 0, _ :: _, x, r, hn, h => by simp at hn
  | n + 1, c :: l, x, r, hn, h => by
    by_cases hc : c = 39
    · subst hc
      cases l with
      | nil => simp [qscan] at h; obtain ⟨rfl, rfl⟩ := h; simp [dbl]
      | cons d l =>
        by_cases hd : d = 39
        · subst hd
          rw [qscan_two] at h
          cases hq : qscan l with
          | none => rw [hq] at h; cases h
          | some y =>
            rw [hq] at h
            simp at h
            obtain ⟨rfl, rfl⟩ := h
            obtain ⟨h1, h2⟩ := qscan_some n l y.1 y.2 (by simp at hn; omega) hq
            exact ⟨by conv => lhs; rw [h1]
                      simp [dbl], h2⟩
        · rw [qscan_end (by simpa using hd)] at h
          simp at h
          obtain ⟨rfl, rfl⟩ := h
          exact ⟨by simp [dbl], by simpa using hd⟩
    · rw [qscan_other hc] at h
      cases hq : qscan l with
      | none => rw [hq] at h; cases h
      | some y =>
        rw [hq] at h
        simp at h
        obtain ⟨rfl, rfl⟩ := h
        obtain ⟨h1, h2⟩ := qscan_some n l y.1 y.2 (by simp at hn; omega) hq
        exact ⟨by conv => lhs; rw [h1]
                  simp [dbl, hc], h2⟩
theorem dbl_ge : ∀ l : List UInt8, l.length ≤ (dbl l).length
  | [] => by simp [dbl]
  | c :: l => by
    have := dbl_ge l
    simp only [dbl]
    split <;> simp <;> omega
/-- A token. -/
structure Tk where
  k : Int
  s : List UInt8
/-- The token at the beginning, and how many octets it takes. -/
def fst (l : List UInt8) : Option (Tk × Nat) :=
  match l with
  | [] => none
  | c :: r =>
    if c = 39 then (match qscan r with
      | none => none
      | some (x, t) => if mayB 2 0 ⟨x.toArray⟩ then some (⟨3, x⟩, l.length - t.length) else none)
    else if letB c then (if 1 + (r.takeWhile parB).length ≤ 16 then some (⟨1, l.take (1 + (r.takeWhile parB).length)⟩, 1 + (r.takeWhile parB).length) else none)
    else if digB c then (if 1 + (r.takeWhile digB).length ≤ 19 then some (⟨2, l.take (1 + (r.takeWhile digB).length)⟩, 1 + (r.takeWhile digB).length) else none)
    else if sigB c then some (⟨4, [c]⟩, 1)
    else none
def blankB (c : UInt8) : Bool := [32, 10].contains c
def skip (l : List UInt8) : List UInt8 := l.dropWhile blankB
theorem fst_pos {l : List UInt8} {t : Tk} {n : Nat} (h : fst l = some (t, n)) : 1 ≤ n ∧ n ≤ l.length := by
  unfold fst at h
  cases l with
  | nil => cases h
  | cons c r =>
    simp only at h
    split at h
    · cases hq : qscan r with
      | none => rw [hq] at h; cases h
      | some y =>
        rw [hq] at h
        simp only at h
        split at h
        · simp at h
          obtain ⟨h1, _⟩ := qscan_some _ r y.1 y.2 (Nat.le_refl _) hq
          have := congrArg List.length h1
          simp at this
          simp
          omega
        · cases h
    · split at h
      · split at h
        · simp at h
          have := (List.takeWhile_sublist parB (l := r)).length_le
          simp
          omega
        · cases h
      · split at h
        · split at h
          · simp at h
            have := (List.takeWhile_sublist digB (l := r)).length_le
            simp
            omega
          · cases h
        · split at h
          · simp at h; simp; omega
          · cases h
theorem fst_size {l : List UInt8} {t : Tk} {n : Nat} (h : fst l = some (t, n)) (hl : l.length ≤ 100000) : (⟨t.s.toArray⟩ : ByteArray).size ≤ 100000 := by
  have key : t.s.length ≤ l.length := by
    unfold fst at h
    cases l with
    | nil => cases h
    | cons c r =>
      simp only at h
      split at h
      · cases hq : qscan r with
        | none => rw [hq] at h; cases h
        | some y =>
          rw [hq] at h
          simp only at h
          split at h
          · simp at h
            obtain ⟨h1, _⟩ := qscan_some _ r y.1 y.2 (Nat.le_refl _) hq
            have h2 := congrArg List.length h1
            have h3 := dbl_ge y.1
            rw [← h.1]
            simp at h2
            simp
            omega
          · cases h
      · split at h
        · split at h
          · simp at h
            rw [← h.1]
            simp
            omega
          · cases h
        · split at h
          · split at h
            · simp at h
              rw [← h.1]
              simp
              omega
            · cases h
          · split at h
            · simp at h; rw [← h.1]; simp
            · cases h
  simp [ByteArray.size]
  omega
theorem skip_len (l : List UInt8) : (skip l).length ≤ l.length := (List.dropWhile_sublist _).length_le
/-- A text's tokens. -/
def cut (l : List UInt8) : Option (List Tk) :=
  match h : fst (skip l) with
  | none => if skip l = [] then some [] else none
  | some (t, n) => (cut ((skip l).drop n)).map (t :: ·)
termination_by l.length
decreasing_by
  have h1 := fst_pos h
  have h2 := skip_len l
  simp
  omega
theorem cut_none {l : List UInt8} (h : fst (skip l) = none) (hn : skip l ≠ []) : cut l = none := by
  rw [cut]
  split
  · rw [if_neg hn]
  · rename_i h'; rw [h] at h'; cases h'
theorem cut_end {l : List UInt8} (h : skip l = []) : cut l = some [] := by
  rw [cut]
  split
  · rw [if_pos h]
  · rename_i h'; rw [h] at h'; cases h'
theorem cut_more {l : List UInt8} {t : Tk} {n : Nat} (h : fst (skip l) = some (t, n)) : cut l = (cut ((skip l).drop n)).map (t :: ·) := by
  rw [cut]
  split
  · rename_i h'; rw [h] at h'; cases h'
  · rename_i t' n' h'
    rw [h] at h'
    simp at h'
    obtain ⟨rfl, rfl⟩ := h'
    rfl
theorem get_at' {s : ByteArray} {n : Nat} (h : n < s.size) : s.data.toList[n]? = some s[n] := by
  rw [List.getElem?_eq_getElem (by rw [← Lib.size_eq]; exact h)]; rfl
end Go.Proofs.YtchebhdndkaheaaGreatDoor
