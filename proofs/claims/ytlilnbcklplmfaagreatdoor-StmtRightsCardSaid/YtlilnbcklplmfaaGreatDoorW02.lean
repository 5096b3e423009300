import Derived.Test.YtlilnbcklplmfaaGreatDoorW01
import Derived.Lib.ReplaceLaws
import Derived.Lib.ItoaNum
import Derived.Lib.SmallJoins
import Derived.Lib.AppendIntMem
import Derived.Laws.BytesArg
import Derived.Laws.OwnMore
import Derived.Deep.LoopGhost
import Derived.Lib.ItoaLen
import Derived.Lib.ItoaMem
import Derived.Lib.IndexLaws
import Derived.LoopTactic
import Derived.Lib.ParseIntBTie
import Derived.Lib.AtoiAllCases
import Derived.Shelf.LaysC
import Derived.Shelf.Strconv.ParseIntPublic10
import Derived.Ground.GgwProg
import Derived.Test.YtlilnbcklplmfaaGreatDoorProg

/- The text of a value: plain facts, no walk. -/
namespace Go.Proofs.YtlilnbcklplmfaaGreatDoor
open Go.RowKit Go.Lib

/-- Each quote twice. -/
def dbl : List UInt8 → List UInt8
  | [] => []
  | c :: l => if c = 39 then 39 :: 39 :: dbl l else c :: dbl l
theorem idx_hit (l : List UInt8) : Lib.index (39 :: l) [39] = 0 := by simp [Lib.index]
theorem idx_miss {c : UInt8} (hc : c ≠ 39) (l : List UInt8) : Lib.index (c :: l) [39] = if Lib.index l [39] == -1 then -1 else Lib.index l [39] + 1 := by
  have : ([39] : List UInt8).isPrefixOf (c :: l) = false := by simp [List.isPrefixOf, Ne.symm hc]
  simp [Lib.index, this]
theorem rep_dbl : ∀ (l : List UInt8), replaceK [39] [39, 39] (l.count 39) l = dbl l
  | [] => rfl
  | c :: l => by
    have ih := rep_dbl l
    by_cases hc : c = 39
    · subst hc
      rw [List.count_cons_self, replaceK_hit _ _ _ _ 0 (idx_hit l)]
      simp [dbl, ih]
    · rw [List.count_cons_of_ne hc]
      simp only [dbl, hc, if_false]
      cases hk : l.count 39 with
      | zero => rw [hk] at ih; simp only [replaceK] at ih ⊢; rw [← ih]
      | succ k =>
        rw [hk] at ih
        obtain ⟨i, hi⟩ := index_of_count (s := l) (old := [39]) (by rw [count_one, hk]; omega)
        have hi' : Lib.index (c :: l) [39] = ((i + 1 : Nat) : Int) := by
          rw [idx_miss hc, hi]
          have : ((i : Int) == -1) = false := beq_eq_false_iff_ne.2 (by omega)
          rw [this]; simp
        rw [replaceK_hit _ _ _ _ _ hi', ← ih, replaceK_hit _ _ _ _ _ hi]
        simp
theorem all_dbl (l : List UInt8) : Lib.replaceAll l [39] [39, 39] = dbl l := by
  unfold Lib.replaceAll Lib.replace Lib.replaceNum
  rw [if_neg (by decide), if_pos (.inl (by decide)), count_one]
  exact rep_dbl l
theorem dbl_inj : ∀ (l m : List UInt8), dbl l = dbl m → l = m
  | [], [], _ => rfl
  | [], c :: m, h => by simp only [dbl] at h; split at h <;> simp at h
  | c :: l, [], h => by simp only [dbl] at h; split at h <;> simp at h
  | c :: l, d :: m, h => by
    simp only [dbl] at h
    by_cases h1 : c = 39 <;> by_cases h2 : d = 39
    · rw [if_pos h1, if_pos h2] at h
      simp only [List.cons.injEq, true_and] at h
      rw [h1, h2, dbl_inj l m h]
    · rw [if_pos h1, if_neg h2] at h
      simp only [List.cons.injEq] at h
      exact absurd h.1.symm h2
    · rw [if_neg h1, if_pos h2] at h
      simp only [List.cons.injEq] at h
      exact absurd h.1 h1
    · rw [if_neg h1, if_neg h2] at h
      simp only [List.cons.injEq] at h
      rw [h.1, dbl_inj l m h.2]
theorem dbl_len : ∀ (l : List UInt8), (dbl l).length ≤ 2 * l.length
  | [] => by simp [dbl]
  | c :: l => by
    have := dbl_len l
    simp only [dbl]
    split <;> simp <;> omega

/-- What digits say. -/
def valD (l : List UInt8) : Nat := l.foldl (fun a c => 10 * a + (c.toNat - 48)) 0
theorem valD_snoc (l : List UInt8) (c : UInt8) : valD (l ++ [c]) = 10 * valD l + (c.toNat - 48) := by simp [valD]
theorem dig_val {d : Nat} (h : d < 10) : (UInt8.ofNat (48 + d)).toNat = 48 + d := by rw [UInt8.toNat_ofNat']; omega
theorem valD_dec (u : Nat) : valD (decDigits u) = u := by
  induction u using Nat.strongRecOn with
  | ind u ih =>
    rw [decDigits]
    split
    · rename_i h
      simp only [valD, List.foldl_cons, List.foldl_nil]
      rw [dig_val h]; omega
    · rename_i h
      rw [valD_snoc, ih (u / 10) (by omega), dig_val (by omega)]
      omega
theorem dec_digits (u : Nat) : ∀ c ∈ decDigits u, 48 ≤ c.toNat ∧ c.toNat ≤ 57 := by
  induction u using Nat.strongRecOn with
  | ind u ih =>
    intro c hc
    rw [decDigits] at hc
    split at hc
    · rename_i h
      simp only [List.mem_singleton] at hc
      subst hc
      rw [dig_val h]; omega
    · rename_i h
      rw [List.mem_append] at hc
      rcases hc with hc | hc
      · exact ih (u / 10) (by omega) c hc
      · simp only [List.mem_singleton] at hc
        subst hc
        rw [dig_val (by omega)]; omega
theorem dec_ne (u : Nat) : decDigits u ≠ [] := by
  rw [decDigits]
  split <;> simp
theorem dec_inj {u v : Nat} (h : decDigits u = decDigits v) : u = v := by rw [← valD_dec u, h, valD_dec]
/-- A number's text begins with a digit, or with a minus. -/
theorem itoa_head (n : Int) : ∃ c l, itoa n = c :: l ∧ (c = 45 ∨ (48 ≤ c.toNat ∧ c.toNat ≤ 57)) ∧ (c = 45 ↔ n < 0) := by
  unfold itoa
  by_cases h : n < 0
  · rw [if_pos h]; exact ⟨45, _, rfl, .inl rfl, fun _ => h, fun _ => rfl⟩
  · rw [if_neg h]
    cases hd : decDigits n.toNat with
    | nil => exact absurd hd (dec_ne _)
    | cons c l =>
      have := dec_digits n.toNat c (by rw [hd]; exact List.mem_cons_self)
      exact ⟨c, l, rfl, .inr this, fun e => by subst e; exact absurd this.1 (by decide), fun h' => absurd h' h⟩
theorem itoa_inj {m n : Int} (h : itoa m = itoa n) : m = n := by
  obtain ⟨c, l, e1, _, i1⟩ := itoa_head m
  obtain ⟨d, r, e2, _, i2⟩ := itoa_head n
  have hcd : c = d := by rw [h, e2] at e1; injection e1 with e _; exact e.symm
  unfold itoa at h
  by_cases hm : m < 0
  · have hn : n < 0 := i2.1 (hcd ▸ i1.2 hm)
    rw [if_pos hm, if_pos hn] at h
    have := dec_inj (List.cons.inj h).2
    omega
  · have hn : ¬ n < 0 := fun hn => hm (i1.1 (hcd ▸ i2.2 hn))
    rw [if_neg hm, if_neg hn] at h
    have := dec_inj h
    omega

/-- A value's text. -/
def txtO (k i : Int) (s : ByteArray) : List UInt8 :=
  if mayB k i s then (if k = 1 then itoa i else if k = 2 then 39 :: (dbl s.data.toList ++ [39]) else if k = 3 then (if i = 1 then [84, 82, 85, 69] else [70, 65, 76, 83, 69]) else [78, 85, 76, 76]) else []

/-- A value that may be is one of four. -/
inductive Four (k i : Int) (s : ByteArray) : Prop
  | null (hk : k = 0) (hi : i = 0) (hs : s = ⟨#[]⟩) (ht : txtO k i s = [78, 85, 76, 76])
  | num (hk : k = 1) (hs : s = ⟨#[]⟩) (ht : txtO k i s = itoa i)
  | text (hk : k = 2) (hi : i = 0) (hz : s.size ≤ 40) (hc : ∀ c ∈ s.data.toList, okO c = true) (ht : txtO k i s = 39 :: (dbl s.data.toList ++ [39]))
  | no (hk : k = 3) (hi : i = 0) (hs : s = ⟨#[]⟩) (ht : txtO k i s = [70, 65, 76, 83, 69])
  | yes (hk : k = 3) (hi : i = 1) (hs : s = ⟨#[]⟩) (ht : txtO k i s = [84, 82, 85, 69])
theorem bs_nil {a : ByteArray} (h : a.data.toList = []) : a = ⟨#[]⟩ := ByteArray.ext (by simpa using h)
theorem four (k i : Int) (s : ByteArray) (hm : mayB k i s = true) : Four k i s := by
  obtain ⟨T, hT⟩ : ∃ T, T = txtO k i s := ⟨_, rfl⟩
  have ht := hT
  unfold txtO at ht
  rw [if_pos hm] at ht
  have hm' := hm
  unfold mayB at hm
  by_cases h1 : k = 1
  · rw [if_pos h1] at ht
    simp [h1] at hm
    rw [toList_data] at hm
    exact .num h1 (bs_nil hm) (hT.symm.trans ht)
  · rw [if_neg h1] at ht
    by_cases h2 : k = 2
    · rw [if_pos h2] at ht
      simp [h2] at hm
      have h3 := hm.2
      rw [txt_all] at h3
      unfold allO at h3
      exact .text h2 hm.1.1 hm.1.2 (List.all_eq_true.1 h3) (hT.symm.trans ht)
    · rw [if_neg h2] at ht
      by_cases h3 : k = 3
      · rw [if_pos h3] at ht
        simp [h3] at hm
        rw [toList_data] at hm
        rcases hm.2 with h | h
        · rw [if_neg (by omega)] at ht; exact .no h3 h (bs_nil hm.1) (hT.symm.trans ht)
        · rw [if_pos h] at ht; exact .yes h3 h (bs_nil hm.1) (hT.symm.trans ht)
      · rw [if_neg h3] at ht
        have h0 : k = 0 := Classical.byContradiction fun h0 => by simp [h0, h1, h2, h3] at hm
        simp [h0] at hm
        rw [toList_data] at hm
        exact .null h0 hm.1 (bs_nil hm.2) (hT.symm.trans ht)
/-- Two that may be have the same text just if they are the same. -/
theorem txt_inj {k i : Int} {s : ByteArray} {k' i' : Int} {s' : ByteArray} (h : mayB k i s = true) (h' : mayB k' i' s' = true) (e : txtO k i s = txtO k' i' s') : k = k' ∧ i = i' ∧ s = s' := by
  cases four k i s h with
  | null hk hi hs ht =>
    cases four k' i' s' h' with
    | null hk' hi' hs' ht' => exact ⟨by rw [hk, hk'], by rw [hi, hi'], by rw [hs, hs']⟩
    | num hk' hs' ht' =>
      obtain ⟨c, l, e1, hc, _⟩ := itoa_head i'
      rw [ht, ht', e1] at e
      injection e with e _
      subst e
      rcases hc with hc | hc
      · exact absurd hc (by decide)
      · exact absurd hc.2 (by decide)
    | text hk' hi' hz' hc' ht' => rw [ht, ht'] at e; simp at e
    | no hk' hi' hs' ht' => rw [ht, ht'] at e; simp at e
    | yes hk' hi' hs' ht' => rw [ht, ht'] at e; simp at e
  | num hk hs ht =>
    cases four k' i' s' h' with
    | num hk' hs' ht' => rw [ht, ht'] at e; exact ⟨by rw [hk, hk'], itoa_inj e, by rw [hs, hs']⟩
    | null hk' hi' hs' ht' =>
      obtain ⟨c, l, e1, hc, _⟩ := itoa_head i
      rw [ht, ht', e1] at e; injection e with e _; subst e
      rcases hc with hc | hc
      · exact absurd hc (by decide)
      · exact absurd hc.2 (by decide)
    | text hk' hi' hz' hc' ht' =>
      obtain ⟨c, l, e1, hc, _⟩ := itoa_head i
      rw [ht, ht', e1] at e; injection e with e _; subst e
      rcases hc with hc | hc
      · exact absurd hc (by decide)
      · exact absurd hc.1 (by decide)
    | no hk' hi' hs' ht' =>
      obtain ⟨c, l, e1, hc, _⟩ := itoa_head i
      rw [ht, ht', e1] at e; injection e with e _; subst e
      rcases hc with hc | hc
      · exact absurd hc (by decide)
      · exact absurd hc.2 (by decide)
    | yes hk' hi' hs' ht' =>
      obtain ⟨c, l, e1, hc, _⟩ := itoa_head i
      rw [ht, ht', e1] at e; injection e with e _; subst e
      rcases hc with hc | hc
      · exact absurd hc (by decide)
      · exact absurd hc.2 (by decide)
  | text hk hi hz hc ht =>
    cases four k' i' s' h' with
    | text hk' hi' hz' hc' ht' =>
      rw [ht, ht'] at e
      simp only [List.cons.injEq, true_and] at e
      have e2 := dbl_inj _ _ (List.append_cancel_right e)
      exact ⟨by rw [hk, hk'], by rw [hi, hi'], ByteArray.ext (Array.toList_inj.1 e2)⟩
    | null hk' hi' hs' ht' => rw [ht, ht'] at e; simp at e
    | num hk' hs' ht' =>
      obtain ⟨c, l, e1, hc, _⟩ := itoa_head i'
      rw [ht, ht', e1] at e; injection e with e _; subst e
      rcases hc with hc | hc
      · exact absurd hc (by decide)
      · exact absurd hc.1 (by decide)
    | no hk' hi' hs' ht' => rw [ht, ht'] at e; simp at e
    | yes hk' hi' hs' ht' => rw [ht, ht'] at e; simp at e
  | no hk hi hs ht =>
    cases four k' i' s' h' with
    | no hk' hi' hs' ht' => exact ⟨by rw [hk, hk'], by rw [hi, hi'], by rw [hs, hs']⟩
    | null hk' hi' hs' ht' => rw [ht, ht'] at e; simp at e
    | num hk' hs' ht' =>
      obtain ⟨c, l, e1, hc, _⟩ := itoa_head i'
      rw [ht, ht', e1] at e; injection e with e _; subst e
      rcases hc with hc | hc
      · exact absurd hc (by decide)
      · exact absurd hc.2 (by decide)
    | text hk' hi' hz' hc' ht' => rw [ht, ht'] at e; simp at e
    | yes hk' hi' hs' ht' => rw [ht, ht'] at e; simp at e
  | yes hk hi hs ht =>
    cases four k' i' s' h' with
    | yes hk' hi' hs' ht' => exact ⟨by rw [hk, hk'], by rw [hi, hi'], by rw [hs, hs']⟩
    | null hk' hi' hs' ht' => rw [ht, ht'] at e; simp at e
    | num hk' hs' ht' =>
      obtain ⟨c, l, e1, hc, _⟩ := itoa_head i'
      rw [ht, ht', e1] at e; injection e with e _; subst e
      rcases hc with hc | hc
      · exact absurd hc (by decide)
      · exact absurd hc.2 (by decide)
    | text hk' hi' hz' hc' ht' => rw [ht, ht'] at e; simp at e
    | no hk' hi' hs' ht' => rw [ht, ht'] at e; simp at e
end Go.Proofs.YtlilnbcklplmfaaGreatDoor

/- The text of a value: value.Text. -/
namespace Go.Proofs.YtlilnbcklplmfaaGreatDoor
open Go.RowKit Go.Lib

/-- What is known of the library's variables. -/
structure Libs (w : World) : Prop where
  tab : Lib.TabIs Tryz.prog w "internal/strconv.uint64pow10" .u64 Lib.pow10Tab
  max : ∃ m, w.cell? ⟨1, 0, none⟩ = some (.int .i64 m)
theorem Libs.lt {w : World} (h : Libs w) : 1 < w.heap.size := by obtain ⟨m, hm⟩ := h.max; exact World.block_lt_of_cell? w _ hm
theorem Libs.keep {w w' : World} {B : Nat} (h : Libs w) (hb : Below B w w') (hB : w.heap.size ≤ B) : Libs w' :=
  ⟨Go.Joins.tab_stays (g := 4) (by kernel_rfl) h.tab hb hB, by
    obtain ⟨m, hm⟩ := h.max
    exact ⟨m, (hb.cell (p := ⟨1, 0, none⟩) (Nat.lt_of_lt_of_le h.lt hB)).trans hm⟩⟩
theorem Libs.drew {w : World} (h : Libs w) : Libs w.drew := h.keep ((Below.refl w.heap.size w).drew) (Nat.le_refl _)
theorem ret_str {a b : ByteArray} (h : a = b) : Ending.returned (.string a) = .returned (.string b) := by rw [h]
/-- strconv.FormatInt at base 10. -/
theorem format_any (i : Int) (w : World) (hi : In64 i) (hl : Libs w) :
    Calls Tryz.prog 199 #[.int .i64 i, .int .i64 10] w fun e w' => e = .returned (.string ⟨(itoa i).toArray⟩) ∧ Below w.heap.size w w' :=
  (Tryz.strconv_FormatInt_10 i hi.1 hi.2 w hl.tab).mono fun _ _ ⟨h, k, os, h'⟩ => ⟨h, h' ▸ below_grow w.heap.size w (Nat.le_refl _) k os⟩
theorem replace_any (s : ByteArray) (w : World) (hs : s.size ≤ 40) (hl : Libs w) :
    Calls Tryz.prog 200 #[.string s, .string ⟨#[39]⟩, .string ⟨#[39, 39]⟩] w fun e w' => e = .returned (.string ⟨(dbl s.data.toList).toArray⟩) ∧ Below w.heap.size w w' := by
  obtain ⟨m, hm⟩ := hl.max
  have hc := countB_mul_le ⟨#[39]⟩ (by decide) s.size s (Nat.le_refl _)
  have h := Tryz.strings_ReplaceAll s ⟨#[39]⟩ ⟨#[39, 39]⟩ m w (by omega) hm (by decide) (by
    have e1 : (⟨#[39]⟩ : ByteArray).size = 1 := rfl
    have e2 : (⟨#[39, 39]⟩ : ByteArray).size = 2 := rfl
    rw [e1] at hc
    rw [e2]
    omega)
  have e : Lib.replaceAll s.data.toList (⟨#[39]⟩ : ByteArray).data.toList (⟨#[39, 39]⟩ : ByteArray).data.toList = dbl s.data.toList := all_dbl _
  rw [e] at h
  exact h

set_option maxRecDepth 100000 in
set_option maxHeartbeats 4000000 in
theorem text_f (k i : Int) (s : ByteArray) (w : World) (hl : Libs w) (hm : mayB k i s = false) :
    Calls Tryz.prog 152 #[.agg #[.int .i64 k, .int .i64 i, .string s]] w fun e w' => e = .returned (.string ⟨([] : List UInt8).toArray⟩) ∧ Below w.heap.size w w' := by
  have HM := Lib.hid hm
  have HL := Lib.hid hl
  clear hm hl
  go_enter Tryz.func152, Tryz.ntmps152
  go_wp2_with (first
    | (go_at_call 33; refine (may_f _ _ _ _ HM.out).mono ?_; rintro e w1 ⟨rfl, hb1⟩; have hc1 := (bcell hb1).1; have hf1 := (bcell hb1).2; have hy1 := hb1.size; (try simp at hy1); have hz1_0 : w.heap.size < w1.heap.size := (by omega)))
  go_ret
  refine ⟨rfl, ?_⟩
  repeat (first | (with_reducible exact Below.refl _ _) | ((with_reducible refine cSet3 ?_ ?_ _ _ _); (· ((try simp) <;> omega))) | (with_reducible refine Below.drew ?_) | ((with_reducible refine cAlloc ?_ ?_ _); (· ((try simp) <;> omega))) | ((with_reducible refine cOn (by assumption) ?_ ?_); (· ((try simp) <;> omega))))

set_option maxRecDepth 100000 in
set_option maxHeartbeats 4000000 in
theorem text_0 (k i : Int) (s : ByteArray) (w : World) (hl : Libs w) (hm : mayB k i s = true) (hk : k = 0) :
    Calls Tryz.prog 152 #[.agg #[.int .i64 k, .int .i64 i, .string s]] w fun e w' => e = .returned (.string ⟨([78, 85, 76, 76] : List UInt8).toArray⟩) ∧ Below w.heap.size w w' := by
  have HM := Lib.hid hm
  have HL := Lib.hid hl
  clear hm hl
  subst hk
  go_enter Tryz.func152, Tryz.ntmps152
  go_wp2_with (first
    | (go_at_call 33; refine (may_t _ _ _ _ HM.out).mono ?_; rintro e w1 ⟨rfl, hb1⟩; have hc1 := (bcell hb1).1; have hf1 := (bcell hb1).2; have hy1 := hb1.size; (try simp at hy1); have hz1_0 : w.heap.size < w1.heap.size := (by omega)))
  go_ret
  refine ⟨rfl, ?_⟩
  repeat (first | (with_reducible exact Below.refl _ _) | ((with_reducible refine cSet3 ?_ ?_ _ _ _); (· ((try simp) <;> omega))) | (with_reducible refine Below.drew ?_) | ((with_reducible refine cAlloc ?_ ?_ _); (· ((try simp) <;> omega))) | ((with_reducible refine cOn (by assumption) ?_ ?_); (· ((try simp) <;> omega))))

set_option maxRecDepth 100000 in
set_option maxHeartbeats 4000000 in
theorem text_1 (k i : Int) (s : ByteArray) (w : World) (hl : Libs w) (hm : mayB k i s = true) (hk : k = 1) (hi : In64 i) :
    Calls Tryz.prog 152 #[.agg #[.int .i64 k, .int .i64 i, .string s]] w fun e w' => e = .returned (.string ⟨(itoa i : List UInt8).toArray⟩) ∧ Below w.heap.size w w' := by
  have HM := Lib.hid hm
  have HL := Lib.hid hl
  clear hm hl
  subst hk
  have HI := Lib.hid hi
  clear hi
  go_enter Tryz.func152, Tryz.ntmps152
  go_wp2_with (first
    | (go_at_call 33; refine (may_t _ _ _ _ HM.out).mono ?_; rintro e w1 ⟨rfl, hb1⟩; have hc1 := (bcell hb1).1; have hf1 := (bcell hb1).2; have hy1 := hb1.size; (try simp at hy1); have hz1_0 : w.heap.size < w1.heap.size := (by omega))
    | (go_at_call 199; refine (format_any i _ HI.out (HL.out.keep (by repeat (first | (with_reducible exact Below.refl _ _) | ((with_reducible refine cSet3 ?_ ?_ _ _ _); (· ((try simp) <;> omega))) | (with_reducible refine Below.drew ?_) | ((with_reducible refine cAlloc ?_ ?_ _); (· ((try simp) <;> omega))) | ((with_reducible refine cOn (by assumption) ?_ ?_); (· ((try simp) <;> omega))))) (Nat.le_refl _))).mono ?_; rintro e w2 ⟨rfl, hb2⟩; have hc2 := (bcell hb2).1; have hf2 := (bcell hb2).2; have hy2 := hb2.size; (try simp at hy2); have hz2_0 : w.heap.size < w2.heap.size := (by omega)))
  go_ret
  refine ⟨rfl, ?_⟩
  repeat (first | (with_reducible exact Below.refl _ _) | ((with_reducible refine cSet3 ?_ ?_ _ _ _); (· ((try simp) <;> omega))) | (with_reducible refine Below.drew ?_) | ((with_reducible refine cAlloc ?_ ?_ _); (· ((try simp) <;> omega))) | ((with_reducible refine cOn (by assumption) ?_ ?_); (· ((try simp) <;> omega))))

set_option maxRecDepth 100000 in
set_option maxHeartbeats 4000000 in
theorem text_2 (k i : Int) (s : ByteArray) (w : World) (hl : Libs w) (hm : mayB k i s = true) (hk : k = 2) (hz : s.size ≤ 40) :
    Calls Tryz.prog 152 #[.agg #[.int .i64 k, .int .i64 i, .string s]] w fun e w' => e = .returned (.string ⟨(39 :: (dbl s.data.toList ++ [39]) : List UInt8).toArray⟩) ∧ Below w.heap.size w w' := by
  have HM := Lib.hid hm
  have HL := Lib.hid hl
  clear hm hl
  subst hk
  obtain ⟨D, hD, hD80⟩ : ∃ D : ByteArray, D = ⟨(dbl s.data.toList).toArray⟩ ∧ D.size ≤ 80 := ⟨_, rfl, by have := dbl_len s.data.toList; simp [ByteArray.size]; simp at this; omega⟩
  have HR := Lib.hid (fun (W : World) (h : Libs W) => hD ▸ replace_any s W hz h)
  have HD := Lib.hid hD
  clear hD
  go_enter Tryz.func152, Tryz.ntmps152
  go_wp2_with (first
    | (go_at_call 33; refine (may_t _ _ _ _ HM.out).mono ?_; rintro e w1 ⟨rfl, hb1⟩; have hc1 := (bcell hb1).1; have hf1 := (bcell hb1).2; have hy1 := hb1.size; (try simp at hy1); have hz1_0 : w.heap.size < w1.heap.size := (by omega))
    | (go_at_call 200; refine (HR.out _ (HL.out.keep (by repeat (first | (with_reducible exact Below.refl _ _) | ((with_reducible refine cSet3 ?_ ?_ _ _ _); (· ((try simp) <;> omega))) | (with_reducible refine Below.drew ?_) | ((with_reducible refine cAlloc ?_ ?_ _); (· ((try simp) <;> omega))) | ((with_reducible refine cOn (by assumption) ?_ ?_); (· ((try simp) <;> omega))))) (Nat.le_refl _))).mono ?_; rintro e w2 ⟨rfl, hb2⟩; have hc2 := (bcell hb2).1; have hf2 := (bcell hb2).2; have hy2 := hb2.size; (try simp at hy2); have hz2_0 : w.heap.size < w2.heap.size := (by omega)))
  go_ret
  refine ⟨ret_str ?_, ?_⟩
  · rw [HD.out]; apply ByteArray.ext; simp
  repeat (first | (with_reducible exact Below.refl _ _) | ((with_reducible refine cSet3 ?_ ?_ _ _ _); (· ((try simp) <;> omega))) | (with_reducible refine Below.drew ?_) | ((with_reducible refine cAlloc ?_ ?_ _); (· ((try simp) <;> omega))) | ((with_reducible refine cOn (by assumption) ?_ ?_); (· ((try simp) <;> omega))))

set_option maxRecDepth 100000 in
set_option maxHeartbeats 4000000 in
theorem text_t (k i : Int) (s : ByteArray) (w : World) (hl : Libs w) (hm : mayB k i s = true) (hk : k = 3) (hi : i = 1) (hs : s = ⟨#[]⟩) :
    Calls Tryz.prog 152 #[.agg #[.int .i64 k, .int .i64 i, .string s]] w fun e w' => e = .returned (.string ⟨([84, 82, 85, 69] : List UInt8).toArray⟩) ∧ Below w.heap.size w w' := by
  have HM := Lib.hid hm
  have HL := Lib.hid hl
  clear hm hl
  subst hk hi hs
  go_enter Tryz.func152, Tryz.ntmps152
  go_wp2_with (first
    | (go_at_call 33; refine (may_t _ _ _ _ HM.out).mono ?_; rintro e w1 ⟨rfl, hb1⟩; have hc1 := (bcell hb1).1; have hf1 := (bcell hb1).2; have hy1 := hb1.size; (try simp at hy1); have hz1_0 : w.heap.size < w1.heap.size := (by omega)))
  refine detL_begin [.val (.agg #[.int .i64 3, .int .i64 1, .string ⟨#[]⟩]), .val (.agg #[.int .i64 3, .int .i64 1, .string ⟨#[]⟩]), .val (.bool true)] 3 (by kernel_rfl) ?_
  repeat
    (refine detL_val (by kernel_rfl) (yields_of rfl fun w1 hb1 => ?_) ?_
     · have hc1 := bcellD hb1
       clear hb1
       go_simp
       with_reducible first
         | exact Det1_same
         | exact Det1_enter (truth_t _)
     simp only [Act.put, List.setIfInBounds_toArray, List.set_cons_zero, List.set_cons_succ])
  refine detL_done (by kernel_rfl) fun w2 hw2 => ?_
  have hb2 := hw2.below
  clear hw2
  go_wp2
  go_ret
  refine ⟨rfl, ?_⟩
  repeat (first | (with_reducible exact Below.refl _ _) | ((with_reducible refine cSet3 ?_ ?_ _ _ _); (· ((try simp) <;> omega))) | (with_reducible refine Below.drew ?_) | ((with_reducible refine cAlloc ?_ ?_ _); (· ((try simp) <;> omega))) | ((with_reducible refine cOn (by assumption) ?_ ?_); (· ((try simp) <;> omega))))

set_option maxRecDepth 100000 in
set_option maxHeartbeats 4000000 in
theorem text_n (k i : Int) (s : ByteArray) (w : World) (hl : Libs w) (hm : mayB k i s = true) (hk : k = 3) (hi : i = 0) (hs : s = ⟨#[]⟩) :
    Calls Tryz.prog 152 #[.agg #[.int .i64 k, .int .i64 i, .string s]] w fun e w' => e = .returned (.string ⟨([70, 65, 76, 83, 69] : List UInt8).toArray⟩) ∧ Below w.heap.size w w' := by
  have HM := Lib.hid hm
  have HL := Lib.hid hl
  clear hm hl
  subst hk hi hs
  go_enter Tryz.func152, Tryz.ntmps152
  go_wp2_with (first
    | (go_at_call 33; refine (may_t _ _ _ _ HM.out).mono ?_; rintro e w1 ⟨rfl, hb1⟩; have hc1 := (bcell hb1).1; have hf1 := (bcell hb1).2; have hy1 := hb1.size; (try simp at hy1); have hz1_0 : w.heap.size < w1.heap.size := (by omega)))
  refine detL_begin [.val (.agg #[.int .i64 3, .int .i64 0, .string ⟨#[]⟩]), .val (.agg #[.int .i64 3, .int .i64 1, .string ⟨#[]⟩]), .val (.bool false)] 3 (by kernel_rfl) ?_
  repeat
    (refine detL_val (by kernel_rfl) (yields_of rfl fun w1 hb1 => ?_) ?_
     · have hc1 := bcellD hb1
       clear hb1
       go_simp
       with_reducible first
         | exact Det1_same
         | exact Det1_enter (truth_t _)
     simp only [Act.put, List.setIfInBounds_toArray, List.set_cons_zero, List.set_cons_succ])
  refine detL_done (by kernel_rfl) fun w2 hw2 => ?_
  have hb2 := hw2.below
  clear hw2
  go_wp2
  go_ret
  refine ⟨rfl, ?_⟩
  repeat (first | (with_reducible exact Below.refl _ _) | ((with_reducible refine cSet3 ?_ ?_ _ _ _); (· ((try simp) <;> omega))) | (with_reducible refine Below.drew ?_) | ((with_reducible refine cAlloc ?_ ?_ _); (· ((try simp) <;> omega))) | ((with_reducible refine cOn (by assumption) ?_ ?_); (· ((try simp) <;> omega))))

theorem text_any (k i : Int) (s : ByteArray) (w : World) (hl : Libs w) (hi : In64 i) :
    Calls Tryz.prog 152 #[.agg #[.int .i64 k, .int .i64 i, .string s]] w fun e w' => e = .returned (.string ⟨(txtO k i s).toArray⟩) ∧ Below w.heap.size w w' := by
  cases hm : mayB k i s with
  | false =>
    rw [show txtO k i s = [] by unfold txtO; rw [hm]; rfl]
    exact text_f k i s w hl hm
  | true =>
    cases four k i s hm with
    | null hk _ _ ht => rw [ht]; exact text_0 k i s w hl hm hk
    | num hk _ ht => rw [ht]; exact text_1 k i s w hl hm hk hi
    | text hk _ hz _ ht => rw [ht]; exact text_2 k i s w hl hm hk hz
    | no hk h0 hs ht => rw [ht]; exact text_n k i s w hl hm hk h0 hs
    | yes hk h1 hs ht => rw [ht]; exact text_t k i s w hl hm hk h1 hs
end Go.Proofs.YtlilnbcklplmfaaGreatDoor

/- The document's own text of a value: digits, Text. -/
namespace Go.Proofs.YtlilnbcklplmfaaGreatDoor
open Go.RowKit Go.Lib

theorem bs_eq {a : ByteArray} {l : List UInt8} (h : a.data.toList = l) : a = ⟨l.toArray⟩ := by
  subst h
  exact ByteArray.ext (by simp)
theorem dec_small {j : Nat} (h : j < 10) : decDigits j = [UInt8.ofNat (48 + j % 10)] := by rw [decDigits, dif_pos h, Nat.mod_eq_of_lt h]
theorem dec_big {j : Nat} (h : ¬ j < 10) : decDigits j = decDigits (j / 10) ++ [UInt8.ofNat (48 + j % 10)] := by rw [decDigits, dif_neg h]

end Go.Proofs.YtlilnbcklplmfaaGreatDoor

/- The document's own text of a value: Text. -/
namespace Go.Proofs.YtlilnbcklplmfaaGreatDoor
open Go.RowKit Go.Lib

end Go.Proofs.YtlilnbcklplmfaaGreatDoor

/- Tokens of a text: plain facts, no walk. -/
namespace Go.Proofs.YtlilnbcklplmfaaGreatDoor
open Go.RowKit Go.Lib

def letB (c : UInt8) : Bool := (decide (97 ≤ c.toNat) && decide (c.toNat ≤ 122)) || (decide (65 ≤ c.toNat) && decide (c.toNat ≤ 90))
def digB (c : UInt8) : Bool := decide (48 ≤ c.toNat) && decide (c.toNat ≤ 57)
def parB (c : UInt8) : Bool := letB c || (digB c || decide (c.toNat = 95))
def sigL : List UInt8 := [40, 41, 44, 61, 60, 43, 45, 42]
def sigB (c : UInt8) : Bool := sigL.contains c
def nonB (_ : UInt8) : Bool := false
/-- How many octets at the beginning stand together. -/
def tog (p q : UInt8 → Bool) : List UInt8 → Nat
  | [] => 0
  | c :: r => if p c then 1 + (r.takeWhile q).length else 0
/-- May one of the kind be this? -/
def kmay (p q : UInt8 → Bool) (most : Nat) (l : List UInt8) : Bool := !l.isEmpty && (decide (l.length ≤ most) && decide (tog p q l = l.length))
/-- What stands between two quotes, and what stands behind the second one. -/
def qscan : List UInt8 → Option (List UInt8 × List UInt8)
  | [] => none
  | [c] => if c = 39 then some ([], []) else none
  | c :: d :: r => if c = 39 then (if d = 39 then (qscan r).map (fun x => (39 :: x.1, x.2)) else some ([], d :: r)) else (qscan (d :: r)).map (fun x => (c :: x.1, x.2))
theorem qscan_other {c : UInt8} (hc : c ≠ 39) (r : List UInt8) : qscan (c :: r) = (qscan r).map (fun x => (c :: x.1, x.2)) := by
  cases r with
  | nil => simp [qscan, hc]
  | cons d r => rw [qscan, if_neg hc]
theorem qscan_two (r : List UInt8) : qscan (39 :: 39 :: r) = (qscan r).map (fun x => (39 :: x.1, x.2)) := by rw [qscan, if_pos rfl, if_pos rfl]
theorem qscan_end {r : List UInt8} (h : r.head? ≠ some 39) : qscan (39 :: r) = some ([], r) := by
  cases r with
  | nil => simp [qscan]
  | cons d r =>
    rw [qscan, if_pos rfl, if_neg]
    intro e
    subst e
    exact h rfl
theorem qscan_dbl : ∀ (x r : List UInt8), r.head? ≠ some 39 → qscan (dbl x ++ 39 :: r) = some (x, r)
  | [], r, h => by rw [dbl, List.nil_append]; exact qscan_end h
  | c :: x, r, h => by
    have ih := qscan_dbl x r h
    by_cases hc : c = 39
    · subst hc
      rw [show dbl (39 :: x) = 39 :: 39 :: dbl x by simp [dbl], List.cons_append, List.cons_append, qscan_two, ih]
      rfl
    · rw [show dbl (c :: x) = c :: dbl x by simp [dbl, hc], List.cons_append, qscan_other hc, ih]
      rfl
theorem qscan_some : ∀ (n : Nat) (l x r : List UInt8), l.length ≤ n → qscan l = some (x, r) → l = dbl x ++ 39 :: r ∧ r.head? ≠ some 39
  | n, [], x, r, _, h => by simp [qscan] at h
  | 0, _ :: _, x, r, hn, h => by simp at hn
  | n + 1, c :: l, x, r, hn, h => by
    by_cases hc : c = 39
    · subst hc
      cases l with
      | nil => simp [qscan] at h; obtain ⟨rfl, rfl⟩ := h; simp [dbl]
      | cons d l =>
        by_cases hd : d = 39
        · subst hd
          rw [qscan_two] at h
          cases hq : qscan l with
          | none => rw [hq] at h; cases h
          | some y =>
            rw [hq] at h
            simp at h
            obtain ⟨rfl, rfl⟩ := h
            obtain ⟨h1, h2⟩ := qscan_some n l y.1 y.2 (by simp at hn; omega) hq
            exact ⟨by conv => lhs; rw [h1]
                      simp [dbl], h2⟩
        · rw [qscan_end (by simpa using hd)] at h
          simp at h
          obtain ⟨rfl, rfl⟩ := h
          exact ⟨by simp [dbl], by simpa using hd⟩
    · rw [qscan_other hc] at h
      cases hq : qscan l with
      | none => rw [hq] at h; cases h
      | some y =>
        rw [hq] at h
        simp at h
        obtain ⟨rfl, rfl⟩ := h
        obtain ⟨h1, h2⟩ := qscan_some n l y.1 y.2 (by simp at hn; omega) hq
        exact ⟨by conv => lhs; rw [h1]
                  simp [dbl, hc], h2⟩
theorem dbl_ge : ∀ l : List UInt8, l.length ≤ (dbl l).length
  | [] => by simp [dbl]
  | c :: l => by
    have := dbl_ge l
    simp only [dbl]
    split <;> simp <;> omega
/-- A token. -/
structure Tk where
  k : Int
  s : List UInt8
/-- The token at the beginning, and how many octets it takes. -/
def fst (l : List UInt8) : Option (Tk × Nat) :=
  match l with
  | [] => none
  | c :: r =>
    if c = 39 then (match qscan r with
      | none => none
      | some (x, t) => if mayB 2 0 ⟨x.toArray⟩ then some (⟨3, x⟩, l.length - t.length) else none)
    else if letB c then (if 1 + (r.takeWhile parB).length ≤ 16 then some (⟨1, l.take (1 + (r.takeWhile parB).length)⟩, 1 + (r.takeWhile parB).length) else none)
    else if digB c then (if 1 + (r.takeWhile digB).length ≤ 19 then some (⟨2, l.take (1 + (r.takeWhile digB).length)⟩, 1 + (r.takeWhile digB).length) else none)
    else if sigB c then some (⟨4, [c]⟩, 1)
    else none
def blankB (c : UInt8) : Bool := [32, 10].contains c
def skip (l : List UInt8) : List UInt8 := l.dropWhile blankB
theorem fst_pos {l : List UInt8} {t : Tk} {n : Nat} (h : fst l = some (t, n)) : 1 ≤ n ∧ n ≤ l.length := by
  unfold fst at h
  cases l with
  | nil => cases h
  | cons c r =>
    simp only at h
    split at h
    · cases hq : qscan r with
      | none => rw [hq] at h; cases h
      | some y =>
        rw [hq] at h
        simp only at h
        split at h
        · simp at h
          obtain ⟨h1, _⟩ := qscan_some _ r y.1 y.2 (Nat.le_refl _) hq
          have := congrArg List.length h1
          simp at this
          simp
          omega
        · cases h
    · split at h
      · split at h
        · simp at h
          have := (List.takeWhile_sublist parB (l := r)).length_le
          simp
          omega
        · cases h
      · split at h
        · split at h
          · simp at h
            have := (List.takeWhile_sublist digB (l := r)).length_le
            simp
            omega
          · cases h
        · split at h
          · simp at h; simp; omega
          · cases h
theorem fst_size {l : List UInt8} {t : Tk} {n : Nat} (h : fst l = some (t, n)) (hl : l.length ≤ 100000) : (⟨t.s.toArray⟩ : ByteArray).size ≤ 100000 := by
  have key : t.s.length ≤ l.length := by
    unfold fst at h
    cases l with
    | nil => cases h
    | cons c r =>
      simp only at h
      split at h
      · cases hq : qscan r with
        | none => rw [hq] at h; cases h
        | some y =>
          rw [hq] at h
          simp only at h
          split at h
          · simp at h
            obtain ⟨h1, _⟩ := qscan_some _ r y.1 y.2 (Nat.le_refl _) hq
            have h2 := congrArg List.length h1
            have h3 := dbl_ge y.1
            rw [← h.1]
            simp at h2
            simp
            omega
          · cases h
      · split at h
        · split at h
          · simp at h
            rw [← h.1]
            simp
            omega
          · cases h
        · split at h
          · split at h
            · simp at h
              rw [← h.1]
              simp
              omega
            · cases h
          · split at h
            · simp at h; rw [← h.1]; simp
            · cases h
  simp [ByteArray.size]
  omega
theorem skip_len (l : List UInt8) : (skip l).length ≤ l.length := (List.dropWhile_sublist _).length_le
/-- A text's tokens. -/
def cut (l : List UInt8) : Option (List Tk) :=
  match h : fst (skip l) with
  | none => if skip l = [] then some [] else none
  | some (t, n) => (cut ((skip l).drop n)).map (t :: ·)
termination_by l.length
decreasing_by
  have h1 := fst_pos h
  have h2 := skip_len l
  simp
  omega
theorem cut_none {l : List UInt8} (h : fst (skip l) = none) (hn : skip l ≠ []) : cut l = none := by
  rw [cut]
  split
  · rw [if_neg hn]
  · rename_i h'; rw [h] at h'; cases h'
theorem cut_end {l : List UInt8} (h : skip l = []) : cut l = some [] := by
  rw [cut]
  split
  · rw [if_pos h]
  · rename_i h'; rw [h] at h'; cases h'
theorem cut_more {l : List UInt8} {t : Tk} {n : Nat} (h : fst (skip l) = some (t, n)) : cut l = (cut ((skip l).drop n)).map (t :: ·) := by
  rw [cut]
  split
  · rename_i h'; rw [h] at h'; cases h'
  · rename_i t' n' h'
    rw [h] at h'
    simp at h'
    obtain ⟨rfl, rfl⟩ := h'
    rfl
theorem get_at' {s : ByteArray} {n : Nat} (h : n < s.size) : s.data.toList[n]? = some s[n] := by
  rw [List.getElem?_eq_getElem (by rw [← Lib.size_eq]; exact h)]; rfl
end Go.Proofs.YtlilnbcklplmfaaGreatDoor

/- Kinds of octets: letter, digit, inWord, isSign, none; how many octets stand together; may one of a kind be. -/
namespace Go.Proofs.YtlilnbcklplmfaaGreatDoor
open Go.RowKit Go.Lib

theorem cSet1 {a b : World} {n k : Nat} (hn : n ≤ k) (h : Below n a b) (o : Nat) (v : Value) : Below n a (b.setCell ⟨k, o, none⟩ v) := h.setCell hn v
theorem nonempty_of' {s : ByteArray} (h : 0 < s.size) : s.toList.isEmpty = false := by
  rw [toList_data]
  cases hl : s.data.toList with
  | nil =>
    have h2 : s.size = 0 := by rw [Lib.size_eq, hl]; rfl
    omega
  | cons _ _ => rfl
set_option maxRecDepth 100000 in
set_option maxHeartbeats 800000 in
theorem letter_any (b : UInt8) (w : World) :
    Calls Tryz.prog 174 #[.int .u8 (b.toNat : Int)] w fun e w' => e = .returned (.bool (letB b)) ∧ Below w.heap.size w w' := by
  go_enter Tryz.func174, Tryz.ntmps174
  go_wp2
  all_goals
    go_ret
    refine ⟨ret_bool ?_, ?_⟩
    · (first | (simp [letB, *]; done) | (simp [letB, *]; rw [Bool.eq_iff_iff]; simp; omega) | (simp [letB, *]; omega) | (unfold letB; rw [Bool.eq_iff_iff]; simp; omega) | (unfold letB; simp_all <;> omega))
    · (first | exact hb1.trans (hb2.mono hb1.size) | exact hb1 | (repeat (first | (with_reducible exact Below.refl _ _) | ((with_reducible refine cSet3 ?_ ?_ _ _ _); (· ((try simp) <;> omega))) | (with_reducible refine Below.drew ?_) | ((with_reducible refine cAlloc ?_ ?_ _); (· ((try simp) <;> omega))) | ((with_reducible refine cOn (by assumption) ?_ ?_); (· ((try simp) <;> omega))))))

set_option maxRecDepth 100000 in
set_option maxHeartbeats 800000 in
theorem digit_any (b : UInt8) (w : World) :
    Calls Tryz.prog 176 #[.int .u8 (b.toNat : Int)] w fun e w' => e = .returned (.bool (digB b)) ∧ Below w.heap.size w w' := by
  go_enter Tryz.func176, Tryz.ntmps176
  go_wp2
  all_goals
    go_ret
    refine ⟨ret_bool ?_, ?_⟩
    · (first | (simp [digB, *]; done) | (simp [digB, *]; rw [Bool.eq_iff_iff]; simp; omega) | (simp [digB, *]; omega) | (unfold digB; rw [Bool.eq_iff_iff]; simp; omega) | (unfold digB; simp_all <;> omega))
    · (first | exact hb1.trans (hb2.mono hb1.size) | exact hb1 | (repeat (first | (with_reducible exact Below.refl _ _) | ((with_reducible refine cSet3 ?_ ?_ _ _ _); (· ((try simp) <;> omega))) | (with_reducible refine Below.drew ?_) | ((with_reducible refine cAlloc ?_ ?_ _); (· ((try simp) <;> omega))) | ((with_reducible refine cOn (by assumption) ?_ ?_); (· ((try simp) <;> omega))))))

set_option maxRecDepth 100000 in
set_option maxHeartbeats 800000 in
theorem none_any (b : UInt8) (w : World) :
    Calls Tryz.prog 178 #[.int .u8 (b.toNat : Int)] w fun e w' => e = .returned (.bool (nonB b)) ∧ Below w.heap.size w w' := by
  go_enter Tryz.func178, Tryz.ntmps178
  go_wp2
  all_goals
    go_ret
    refine ⟨ret_bool ?_, ?_⟩
    · (first | (simp [nonB, *]; done) | (simp [nonB, *]; rw [Bool.eq_iff_iff]; simp; omega) | (simp [nonB, *]; omega) | (unfold nonB; rw [Bool.eq_iff_iff]; simp; omega) | (unfold nonB; simp_all <;> omega))
    · (first | exact hb1.trans (hb2.mono hb1.size) | exact hb1 | (repeat (first | (with_reducible exact Below.refl _ _) | ((with_reducible refine cSet3 ?_ ?_ _ _ _); (· ((try simp) <;> omega))) | (with_reducible refine Below.drew ?_) | ((with_reducible refine cAlloc ?_ ?_ _); (· ((try simp) <;> omega))) | ((with_reducible refine cOn (by assumption) ?_ ?_); (· ((try simp) <;> omega))))))

set_option maxRecDepth 100000 in
set_option maxHeartbeats 800000 in
theorem inWord_any (b : UInt8) (w : World) :
    Calls Tryz.prog 175 #[.int .u8 (b.toNat : Int)] w fun e w' => e = .returned (.bool (parB b)) ∧ Below w.heap.size w w' := by
  go_enter Tryz.func175, Tryz.ntmps175
  go_wp2_with (first
    | (go_at_call 174; refine (letter_any b _).mono ?_; rintro e w1 ⟨rfl, hb1⟩)
    | (go_at_call 176; refine (digit_any b _).mono ?_; rintro e w2 ⟨rfl, hb2⟩))
  all_goals
    go_ret
    refine ⟨ret_bool ?_, ?_⟩
    · (first | (simp [parB, *]; done) | (simp [parB, *]; rw [Bool.eq_iff_iff]; simp; omega) | (simp [parB, *]; omega) | (unfold parB; rw [Bool.eq_iff_iff]; simp; omega) | (unfold parB; simp_all <;> omega))
    · (first | exact hb1.trans (hb2.mono hb1.size) | exact hb1 | (repeat (first | (with_reducible exact Below.refl _ _) | ((with_reducible refine cSet3 ?_ ?_ _ _ _); (· ((try simp) <;> omega))) | (with_reducible refine Below.drew ?_) | ((with_reducible refine cAlloc ?_ ?_ _); (· ((try simp) <;> omega))) | ((with_reducible refine cOn (by assumption) ?_ ?_); (· ((try simp) <;> omega))))))

theorem sig_index (b : UInt8) : decide (0 ≤ Lib.indexByte [40, 41, 44, 61, 60, 43, 45, 42] b) = sigB b := by
  unfold sigB sigL
  rw [Bool.eq_iff_iff, decide_eq_true_eq]
  constructor
  · intro h
    obtain ⟨o, ho⟩ := Int.eq_ofNat_of_zero_le h
    have := (indexByte_some ho).1
    exact List.contains_iff_mem.2 (List.mem_of_getElem? this)
  · intro h
    have hm := List.contains_iff_mem.1 h
    obtain ⟨k, hk⟩ := List.getElem?_of_mem hm
    have hge := indexByte_ge [40, 41, 44, 61, 60, 43, 45, 42] b
    have hne : Lib.indexByte [40, 41, 44, 61, 60, 43, 45, 42] b ≠ -1 := fun e => indexByte_none e k hk
    omega
theorem u8_back (b : UInt8) : ((b.toNat : Int)).toNat.toUInt8 = b := by simp

set_option maxRecDepth 100000 in
set_option maxHeartbeats 800000 in
theorem isSign_any (b : UInt8) (w : World) :
    Calls Tryz.prog 177 #[.int .u8 (b.toNat : Int)] w fun e w' => e = .returned (.bool (sigB b)) ∧ Below w.heap.size w w' := by
  have HS := Lib.hid (sig_index b)
  have HC := Lib.hid (fun (W : World) => (show Calls Tryz.prog 172 #[.string ⟨#[40, 41, 44, 61, 60, 43, 45, 42]⟩, .int .u8 (b.toNat : Int)] W fun e w' => e = .returned (.int .i64 (Lib.indexByte [40, 41, 44, 61, 60, 43, 45, 42] b)) ∧ w' = W by
    have := Tryz.strings_IndexByte ⟨#[40, 41, 44, 61, 60, 43, 45, 42]⟩ (b.toNat : Int) W
    rwa [u8_back] at this))
  go_enter Tryz.func177, Tryz.ntmps177
  go_wp2_with (go_at_call 172; refine (HC.out _).mono ?_; rintro e w1 ⟨rfl, rfl⟩)
  go_ret
  exact ⟨ret_bool HS.out, Below.refl _ _⟩

/-- A function that tells octets. -/
structure Cls (f : Nat) (p : UInt8 → Bool) : Prop where
  enter : ∀ args w, (callFunc f args).run Tryz.prog w = .ok (.enter f args) w
  gives : ∀ (b : UInt8) (w : World), Calls Tryz.prog f #[.int .u8 (b.toNat : Int)] w fun e w' => e = .returned (.bool (p b)) ∧ Below w.heap.size w w'
theorem cls_letter : Cls 174 letB := ⟨enters_of Tryz.func174 (by kernel_rfl) rfl, letter_any⟩
theorem cls_digit : Cls 176 digB := ⟨enters_of Tryz.func176 (by kernel_rfl) rfl, digit_any⟩
theorem cls_inWord : Cls 175 parB := ⟨enters_of Tryz.func175 (by kernel_rfl) rfl, inWord_any⟩
theorem cls_isSign : Cls 177 sigB := ⟨enters_of Tryz.func177 (by kernel_rfl) rfl, isSign_any⟩
theorem cls_none : Cls 178 nonB := ⟨enters_of Tryz.func178 (by kernel_rfl) rfl, none_any⟩

set_option maxRecDepth 100000 in
set_option maxHeartbeats 1600000 in
theorem tog_0 (num most : Int) (f g : Nat) (p q : UInt8 → Bool) (hf : Cls f p) (hg : Cls g q) (s : ByteArray) (w : World) (hs : s.size ≤ 100000) (h0 : s.toList = []) :
    Calls Tryz.prog 81 #[.agg #[.int .i64 num, .int .i64 most, .func (.func f) #[] #[], .func (.func g) #[] #[]], .string s] w fun e w' => e = .returned (.int .i64 0) ∧ Below w.heap.size w w' := by
  have HF := Lib.hid hf
  have HG := Lib.hid hg
  have ef := hf.enter
  have eg := hg.enter
  clear hf hg
  have h0' : s.toList.isEmpty = true := by rw [h0]; rfl
  go_enter Tryz.func81, Tryz.ntmps81
  go_wp2
  refine detL_begin [.val (.string s), .val (.bool true), .val (.bool true), .val (undef), .val (undef), .val (undef), .val (undef), .val (undef), .val (undef), .val (.bool true)] 10 (by kernel_rfl) ?_
  refine detL_val (by kernel_rfl) (yields_of rfl fun w1 hb1 => ?_) ?_
  · have hc1 := bcellD hb1
    clear hb1
    go_simp
    exact Det1_same
  simp only [Act.put, List.setIfInBounds_toArray, List.set_cons_zero, List.set_cons_succ]
  refine detL_val (by kernel_rfl) (yields_of rfl fun w1 hb1 => ?_) ?_
  · have hc1 := bcellD hb1
    clear hb1
    go_simp
    exact Det1_same
  simp only [Act.put, List.setIfInBounds_toArray, List.set_cons_zero, List.set_cons_succ]
  refine detL_val (by kernel_rfl) (yields_of rfl fun w1 hb1 => ?_) ?_
  · have hc1 := bcellD hb1
    clear hb1
    go_simp
    exact Det1_same
  simp only [Act.put, List.setIfInBounds_toArray, List.set_cons_zero, List.set_cons_succ]
  refine detL_val (by kernel_rfl) (yields_not rfl) ?_
  simp only [Act.put, List.setIfInBounds_toArray, List.set_cons_zero, List.set_cons_succ]
  refine detL_val (by kernel_rfl) (yields_not rfl) ?_
  simp only [Act.put, List.setIfInBounds_toArray, List.set_cons_zero, List.set_cons_succ]
  refine detL_val (by kernel_rfl) (yields_not rfl) ?_
  simp only [Act.put, List.setIfInBounds_toArray, List.set_cons_zero, List.set_cons_succ]
  refine detL_val (by kernel_rfl) (yields_not rfl) ?_
  simp only [Act.put, List.setIfInBounds_toArray, List.set_cons_zero, List.set_cons_succ]
  refine detL_val (by kernel_rfl) (yields_not rfl) ?_
  simp only [Act.put, List.setIfInBounds_toArray, List.set_cons_zero, List.set_cons_succ]
  refine detL_val (by kernel_rfl) (yields_not rfl) ?_
  simp only [Act.put, List.setIfInBounds_toArray, List.set_cons_zero, List.set_cons_succ]
  refine detL_val (by kernel_rfl) (yields_of rfl fun w1 hb1 => ?_) ?_
  · have hc1 := bcellD hb1
    clear hb1
    go_simp
    exact Det1_same
  simp only [Act.put, List.setIfInBounds_toArray, List.set_cons_zero, List.set_cons_succ]
  refine detL_done (by kernel_rfl) fun w1 hw1 => ?_
  have hb1 := hw1.below
  clear hw1
  go_wp2
  go_ret
  exact ⟨rfl, by repeat (first | (with_reducible exact Below.refl _ _) | ((with_reducible refine cSet3 ?_ ?_ _ _ _); (· ((try simp) <;> omega))) | (with_reducible refine Below.drew ?_) | ((with_reducible refine cAlloc ?_ ?_ _); (· ((try simp) <;> omega))) | ((with_reducible refine cOn (by assumption) ?_ ?_); (· ((try simp) <;> omega))))⟩

set_option maxRecDepth 100000 in
set_option maxHeartbeats 1600000 in
theorem tog_no (num most : Int) (f g : Nat) (p q : UInt8 → Bool) (hf : Cls f p) (hg : Cls g q) (s : ByteArray) (w : World) (hs : s.size ≤ 100000) (hl : 0 < s.size) (hp : p s[0] = false) :
    Calls Tryz.prog 81 #[.agg #[.int .i64 num, .int .i64 most, .func (.func f) #[] #[], .func (.func g) #[] #[]], .string s] w fun e w' => e = .returned (.int .i64 0) ∧ Below w.heap.size w w' := by
  have HF := Lib.hid hf
  have HG := Lib.hid hg
  have ef := hf.enter
  have eg := hg.enter
  clear hf hg
  have h0' : s.toList.isEmpty = false := nonempty_of' hl
  have h0 : ¬ s.toList = [] := fun h => by rw [h] at h0'; cases h0'
  have HP := Lib.hid (fun (W : World) => (show Calls Tryz.prog f #[.int .u8 (s[0].toNat : Int)] W fun e w' => e = .returned (.bool false) ∧ Below W.heap.size W w' from hp ▸ HF.out.gives s[0] W))
  clear hp
  go_enter Tryz.func81, Tryz.ntmps81
  go_wp2
  refine detL_begin [.val (.string s), .val (.bool false), .val (.bool false), .val (.pointer (some ⟨w.heap.size, 2, none⟩)), .val (.func (.func f) #[] #[]), .val (.string s), .val (.int .u8 s[0].toNat), .val (.bool false), .val (.bool true), .val (.bool true)] 10 (by kernel_rfl) ?_
  refine detL_val (by kernel_rfl) (yields_of rfl fun w1 hb1 => ?_) ?_
  · have hc1 := bcellD hb1
    clear hb1
    go_simp
    exact Det1_same
  simp only [Act.put, List.setIfInBounds_toArray, List.set_cons_zero, List.set_cons_succ]
  refine detL_val (by kernel_rfl) (yields_of rfl fun w1 hb1 => ?_) ?_
  · have hc1 := bcellD hb1
    clear hb1
    go_simp
    exact Det1_same
  simp only [Act.put, List.setIfInBounds_toArray, List.set_cons_zero, List.set_cons_succ]
  refine detL_val (by kernel_rfl) (yields_of rfl fun w1 hb1 => ?_) ?_
  · have hc1 := bcellD hb1
    clear hb1
    go_simp
    exact Det1_same
  simp only [Act.put, List.setIfInBounds_toArray, List.set_cons_zero, List.set_cons_succ]
  refine detL_val (by kernel_rfl) (yields_of rfl fun w1 hb1 => ?_) ?_
  · have hc1 := bcellD hb1
    clear hb1
    go_simp
    exact Det1_same
  simp only [Act.put, List.setIfInBounds_toArray, List.set_cons_zero, List.set_cons_succ]
  refine detL_val (by kernel_rfl) (yields_of rfl fun w1 hb1 => ?_) ?_
  · have hc1 := bcellD hb1
    clear hb1
    go_simp
    exact Det1_same
  simp only [Act.put, List.setIfInBounds_toArray, List.set_cons_zero, List.set_cons_succ]
  refine detL_val (by kernel_rfl) (yields_of rfl fun w1 hb1 => ?_) ?_
  · have hc1 := bcellD hb1
    clear hb1
    go_simp
    exact Det1_same
  simp only [Act.put, List.setIfInBounds_toArray, List.set_cons_zero, List.set_cons_succ]
  refine detL_val (by kernel_rfl) (yields_of rfl fun w1 hb1 => ?_) ?_
  · have hc1 := bcellD hb1
    clear hb1
    go_simp
    exact Det1_same
  simp only [Act.put, List.setIfInBounds_toArray, List.set_cons_zero, List.set_cons_succ]
  refine detL_val (by kernel_rfl) (yields_of rfl fun w1 hb1 => ?_) ?_
  · have hc1 := bcellD hb1
    clear hb1
    go_simp
    exact Det1_enter (HP.out _)
  simp only [Act.put, List.setIfInBounds_toArray, List.set_cons_zero, List.set_cons_succ]
  refine detL_val (by kernel_rfl) (yields_of rfl fun w1 hb1 => ?_) ?_
  · have hc1 := bcellD hb1
    clear hb1
    go_simp
    exact Det1_same
  simp only [Act.put, List.setIfInBounds_toArray, List.set_cons_zero, List.set_cons_succ]
  refine detL_val (by kernel_rfl) (yields_of rfl fun w1 hb1 => ?_) ?_
  · have hc1 := bcellD hb1
    clear hb1
    go_simp
    exact Det1_same
  simp only [Act.put, List.setIfInBounds_toArray, List.set_cons_zero, List.set_cons_succ]
  refine detL_done (by kernel_rfl) fun w1 hw1 => ?_
  have hb1 := hw1.below
  clear hw1
  go_wp2
  go_ret
  exact ⟨rfl, by repeat (first | (with_reducible exact Below.refl _ _) | ((with_reducible refine cSet3 ?_ ?_ _ _ _); (· ((try simp) <;> omega))) | (with_reducible refine Below.drew ?_) | ((with_reducible refine cAlloc ?_ ?_ _); (· ((try simp) <;> omega))) | ((with_reducible refine cOn (by assumption) ?_ ?_); (· ((try simp) <;> omega))))⟩

/-- How many stand together, from the n-th on. -/
def togN (q : UInt8 → Bool) (s : ByteArray) (n : Nat) : Nat := n + ((s.data.toList.drop n).takeWhile q).length
theorem togN_step {q : UInt8 → Bool} {s : ByteArray} {n : Nat} (h : n < s.size) (hq : q s[n] = true) : togN q s n = togN q s (n + 1) := by
  have h2 : n < s.data.toList.length := by rw [← Lib.size_eq]; exact h
  have e : s.data.toList[n] = s[n] := rfl
  unfold togN
  rw [List.drop_eq_getElem_cons h2, e, List.takeWhile_cons, if_pos hq, List.length_cons]
  omega
theorem togN_stop {q : UInt8 → Bool} {s : ByteArray} {n : Nat} (h : n < s.size) (hq : q s[n] = false) : togN q s n = n := by
  have h2 : n < s.data.toList.length := by rw [← Lib.size_eq]; exact h
  have e : s.data.toList[n] = s[n] := rfl
  unfold togN
  rw [List.drop_eq_getElem_cons h2, e, List.takeWhile_cons, hq]
  simp
theorem togN_end {q : UInt8 → Bool} {s : ByteArray} : togN q s s.size = s.size := by
  unfold togN
  rw [List.drop_of_length_le (by rw [← Lib.size_eq]; omega)]
  simp
theorem tog_one {p q : UInt8 → Bool} {s : ByteArray} (h : 0 < s.size) (hp : p s[0] = true) : tog p q s.data.toList = togN q s 1 := by
  have h2 : 0 < s.data.toList.length := by rw [← Lib.size_eq]; exact h
  have e : s.data.toList[0] = s[0] := rfl
  unfold togN
  cases hl : s.data.toList with
  | nil => rw [hl] at h2; simp at h2
  | cons c r =>
    have hc : c = s[0] := by rw [← e]; simp [hl]
    rw [tog, hc, if_pos hp]
    rfl
theorem ret_i64 {a b : Int} (h : a = b) : Ending.returned (.int .i64 a) = .returned (.int .i64 b) := by rw [h]

set_option maxRecDepth 100000 in
set_option maxHeartbeats 1600000 in
theorem tog_yes (num most : Int) (f g : Nat) (p q : UInt8 → Bool) (hf : Cls f p) (hg : Cls g q) (s : ByteArray) (w : World) (hs : s.size ≤ 100000) (hl : 0 < s.size) (hp : p s[0] = true) :
    Calls Tryz.prog 81 #[.agg #[.int .i64 num, .int .i64 most, .func (.func f) #[] #[], .func (.func g) #[] #[]], .string s] w fun e w' => e = .returned (.int .i64 (tog p q s.data.toList)) ∧ Below w.heap.size w w' := by
  have HF := Lib.hid hf
  have HG := Lib.hid hg
  have ef := hf.enter
  have eg := hg.enter
  clear hf hg
  have HT := Lib.hid (tog_one (q := q) hl hp)
  have h0' : s.toList.isEmpty = false := nonempty_of' hl
  have h0 : ¬ s.toList = [] := fun h => by rw [h] at h0'; cases h0'
  have HP := Lib.hid (fun (W : World) => (show Calls Tryz.prog f #[.int .u8 (s[0].toNat : Int)] W fun e w' => e = .returned (.bool true) ∧ Below W.heap.size W w' from hp ▸ HF.out.gives s[0] W))
  clear hp
  go_enter Tryz.func81, Tryz.ntmps81
  go_wp2
  refine detL_begin [.val (.string s), .val (.bool false), .val (.bool false), .val (.pointer (some ⟨w.heap.size, 2, none⟩)), .val (.func (.func f) #[] #[]), .val (.string s), .val (.int .u8 s[0].toNat), .val (.bool true), .val (.bool false), .val (.bool false)] 10 (by kernel_rfl) ?_
  refine detL_val (by kernel_rfl) (yields_of rfl fun w1 hb1 => ?_) ?_
  · have hc1 := bcellD hb1
    clear hb1
    go_simp
    exact Det1_same
  simp only [Act.put, List.setIfInBounds_toArray, List.set_cons_zero, List.set_cons_succ]
  refine detL_val (by kernel_rfl) (yields_of rfl fun w1 hb1 => ?_) ?_
  · have hc1 := bcellD hb1
    clear hb1
    go_simp
    exact Det1_same
  simp only [Act.put, List.setIfInBounds_toArray, List.set_cons_zero, List.set_cons_succ]
  refine detL_val (by kernel_rfl) (yields_of rfl fun w1 hb1 => ?_) ?_
  · have hc1 := bcellD hb1
    clear hb1
    go_simp
    exact Det1_same
  simp only [Act.put, List.setIfInBounds_toArray, List.set_cons_zero, List.set_cons_succ]
  refine detL_val (by kernel_rfl) (yields_of rfl fun w1 hb1 => ?_) ?_
  · have hc1 := bcellD hb1
    clear hb1
    go_simp
    exact Det1_same
  simp only [Act.put, List.setIfInBounds_toArray, List.set_cons_zero, List.set_cons_succ]
  refine detL_val (by kernel_rfl) (yields_of rfl fun w1 hb1 => ?_) ?_
  · have hc1 := bcellD hb1
    clear hb1
    go_simp
    exact Det1_same
  simp only [Act.put, List.setIfInBounds_toArray, List.set_cons_zero, List.set_cons_succ]
  refine detL_val (by kernel_rfl) (yields_of rfl fun w1 hb1 => ?_) ?_
  · have hc1 := bcellD hb1
    clear hb1
    go_simp
    exact Det1_same
  simp only [Act.put, List.setIfInBounds_toArray, List.set_cons_zero, List.set_cons_succ]
  refine detL_val (by kernel_rfl) (yields_of rfl fun w1 hb1 => ?_) ?_
  · have hc1 := bcellD hb1
    clear hb1
    go_simp
    exact Det1_same
  simp only [Act.put, List.setIfInBounds_toArray, List.set_cons_zero, List.set_cons_succ]
  refine detL_val (by kernel_rfl) (yields_of rfl fun w1 hb1 => ?_) ?_
  · have hc1 := bcellD hb1
    clear hb1
    go_simp
    exact Det1_enter (HP.out _)
  simp only [Act.put, List.setIfInBounds_toArray, List.set_cons_zero, List.set_cons_succ]
  refine detL_val (by kernel_rfl) (yields_of rfl fun w1 hb1 => ?_) ?_
  · have hc1 := bcellD hb1
    clear hb1
    go_simp
    exact Det1_same
  simp only [Act.put, List.setIfInBounds_toArray, List.set_cons_zero, List.set_cons_succ]
  refine detL_val (by kernel_rfl) (yields_of rfl fun w1 hb1 => ?_) ?_
  · have hc1 := bcellD hb1
    clear hb1
    go_simp
    exact Det1_same
  simp only [Act.put, List.setIfInBounds_toArray, List.set_cons_zero, List.set_cons_succ]
  refine detL_done (by kernel_rfl) fun w1 hw1 => ?_
  have hcell1 := hw1.below.cell (p := ⟨w.heap.size, 3, none⟩) (by simp)
  have hcell : w1.cell? ⟨w.heap.size, 3, none⟩ = some (.func (.func g) #[] #[]) := hcell1.trans (by simp [go_sem])
  have hwz : w.heap.size < w1.heap.size := by have := hw1.below.size; simp at this; omega
  have HB1 : Hid (Below w.heap.size w w1) := by
    have hb1 := hw1.below
    show Below w.heap.size w w1
    repeat (first | (with_reducible exact Below.refl _ _) | ((with_reducible refine cSet3 ?_ ?_ _ _ _); (· ((try simp) <;> omega))) | (with_reducible refine Below.drew ?_) | ((with_reducible refine cAlloc ?_ ?_ _); (· ((try simp) <;> omega))) | ((with_reducible refine cOn (by assumption) ?_ ?_); (· ((try simp) <;> omega))))
  clear hw1 hcell1
  go_wp2
  obtain ⟨wo, hwo⟩ : ∃ wo : World, wo = w1 := ⟨_, rfl⟩
  rw [← hwo] at hcell hwz HB1 ⊢
  clear hwo
  have HC := Lib.hid hcell
  clear hcell hwz
  go_loopw [5] (fun i wr => ∃ n : Nat, 1 ≤ n ∧ n ≤ s.size ∧ i = .int .i64 n ∧ Below wo.heap.size wo wr ∧ Hid (tog p q s.data.toList = togN q s n)) (fun i _ => s.size - (intOf i).toNat)
  case atStart => exact ⟨1, by omega, by omega, rfl, Below.refl _ _, HT.out⟩
  case round =>
    obtain ⟨n, hn1, hn2, rfl, hb, HN⟩ := hrel
    have hz0 : w.heap.size < wo.heap.size := World.block_lt_of_cell? _ _ HC.out
    have hcell := (hb.cell (p := ⟨w.heap.size, 3, none⟩) hz0).trans HC.out
    have hwz : w.heap.size < wr.heap.size := Nat.lt_of_lt_of_le hz0 hb.size
    have hbs := hb.size
    by_cases hlt : n < s.size
    · cases hq : q s[n] with
      | true =>
        have HQ := Lib.hid (fun (W : World) => (show Calls Tryz.prog g #[.int .u8 (s[n].toNat : Int)] W fun e w' => e = .returned (.bool true) ∧ Below W.heap.size W w' from hq ▸ HG.out.gives s[n] W))
        have HS := Lib.hid (togN_step hlt hq)
        clear hq
        go_wp2
        refine detL_begin [.val (.int .i64 n), .val (.string s), .val (.int .i64 s.size), .val (.bool true), .val (.bool true), .val (.pointer (some ⟨w.heap.size, 3, none⟩)), .val (.func (.func g) #[] #[]), .val (.string s), .val (.int .i64 n), .val (.int .u8 s[n].toNat), .val (.bool true), .val (.bool true)] 12 (by kernel_rfl) ?_
        refine detL_val (by kernel_rfl) (yields_of rfl fun w1 hb1 => ?_) ?_
        · have hc1 := bcellD hb1
          clear hb1
          go_simp
          exact Det1_same
        simp only [Act.put, List.setIfInBounds_toArray, List.set_cons_zero, List.set_cons_succ]
        refine detL_val (by kernel_rfl) (yields_of rfl fun w1 hb1 => ?_) ?_
        · have hc1 := bcellD hb1
          clear hb1
          go_simp
          exact Det1_same
        simp only [Act.put, List.setIfInBounds_toArray, List.set_cons_zero, List.set_cons_succ]
        refine detL_val (by kernel_rfl) (yields_of rfl fun w1 hb1 => ?_) ?_
        · have hc1 := bcellD hb1
          clear hb1
          go_simp
          exact Det1_same
        simp only [Act.put, List.setIfInBounds_toArray, List.set_cons_zero, List.set_cons_succ]
        refine detL_val (by kernel_rfl) (yields_of rfl fun w1 hb1 => ?_) ?_
        · have hc1 := bcellD hb1
          clear hb1
          go_simp
          exact Det1_same
        simp only [Act.put, List.setIfInBounds_toArray, List.set_cons_zero, List.set_cons_succ]
        refine detL_val (by kernel_rfl) (yields_of rfl fun w1 hb1 => ?_) ?_
        · have hc1 := bcellD hb1
          clear hb1
          go_simp
          exact Det1_same
        simp only [Act.put, List.setIfInBounds_toArray, List.set_cons_zero, List.set_cons_succ]
        refine detL_val (by kernel_rfl) (yields_of rfl fun w1 hb1 => ?_) ?_
        · have hc1 := bcellD hb1
          clear hb1
          go_simp
          exact Det1_same
        simp only [Act.put, List.setIfInBounds_toArray, List.set_cons_zero, List.set_cons_succ]
        refine detL_val (by kernel_rfl) (yields_of rfl fun w1 hb1 => ?_) ?_
        · have hc1 := bcellD hb1
          have qg := (hc1 w.heap.size 3 hwz).trans hcell
          clear hb1
          go_simp
          exact Det1_same
        simp only [Act.put, List.setIfInBounds_toArray, List.set_cons_zero, List.set_cons_succ]
        refine detL_val (by kernel_rfl) (yields_of rfl fun w1 hb1 => ?_) ?_
        · have hc1 := bcellD hb1
          clear hb1
          go_simp
          exact Det1_same
        simp only [Act.put, List.setIfInBounds_toArray, List.set_cons_zero, List.set_cons_succ]
        refine detL_val (by kernel_rfl) (yields_of rfl fun w1 hb1 => ?_) ?_
        · have hc1 := bcellD hb1
          clear hb1
          go_simp
          exact Det1_same
        simp only [Act.put, List.setIfInBounds_toArray, List.set_cons_zero, List.set_cons_succ]
        refine detL_val (by kernel_rfl) (yields_of rfl fun w1 hb1 => ?_) ?_
        · have hc1 := bcellD hb1
          clear hb1
          go_simp
          exact Det1_same
        simp only [Act.put, List.setIfInBounds_toArray, List.set_cons_zero, List.set_cons_succ]
        refine detL_val (by kernel_rfl) (yields_of rfl fun w1 hb1 => ?_) ?_
        · have hc1 := bcellD hb1
          clear hb1
          go_simp
          exact Det1_enter (HQ.out _)
        simp only [Act.put, List.setIfInBounds_toArray, List.set_cons_zero, List.set_cons_succ]
        refine detL_val (by kernel_rfl) (yields_of rfl fun w1 hb1 => ?_) ?_
        · have hc1 := bcellD hb1
          clear hb1
          go_simp
          exact Det1_same
        simp only [Act.put, List.setIfInBounds_toArray, List.set_cons_zero, List.set_cons_succ]
        refine detL_done (by kernel_rfl) fun w2 hw2 => ?_
        have hb2 := hw2.below
        clear hw2
        go_wp2
        go_roundw
        case rel => exact ⟨n + 1, by omega, by omega, by go_num, hb.drew.trans (hb2.mono hbs), HN.out.trans HS.out⟩
        case measure => simp [intOf]; omega
      | false =>
        have HQ := Lib.hid (fun (W : World) => (show Calls Tryz.prog g #[.int .u8 (s[n].toNat : Int)] W fun e w' => e = .returned (.bool false) ∧ Below W.heap.size W w' from hq ▸ HG.out.gives s[n] W))
        have HS := Lib.hid (togN_stop hlt hq)
        clear hq
        go_wp2
        refine detL_begin [.val (.int .i64 n), .val (.string s), .val (.int .i64 s.size), .val (.bool true), .val (.bool true), .val (.pointer (some ⟨w.heap.size, 3, none⟩)), .val (.func (.func g) #[] #[]), .val (.string s), .val (.int .i64 n), .val (.int .u8 s[n].toNat), .val (.bool false), .val (.bool false)] 12 (by kernel_rfl) ?_
        refine detL_val (by kernel_rfl) (yields_of rfl fun w1 hb1 => ?_) ?_
        · have hc1 := bcellD hb1
          clear hb1
          go_simp
          exact Det1_same
        simp only [Act.put, List.setIfInBounds_toArray, List.set_cons_zero, List.set_cons_succ]
        refine detL_val (by kernel_rfl) (yields_of rfl fun w1 hb1 => ?_) ?_
        · have hc1 := bcellD hb1
          clear hb1
          go_simp
          exact Det1_same
        simp only [Act.put, List.setIfInBounds_toArray, List.set_cons_zero, List.set_cons_succ]
        refine detL_val (by kernel_rfl) (yields_of rfl fun w1 hb1 => ?_) ?_
        · have hc1 := bcellD hb1
          clear hb1
          go_simp
          exact Det1_same
        simp only [Act.put, List.setIfInBounds_toArray, List.set_cons_zero, List.set_cons_succ]
        refine detL_val (by kernel_rfl) (yields_of rfl fun w1 hb1 => ?_) ?_
        · have hc1 := bcellD hb1
          clear hb1
          go_simp
          exact Det1_same
        simp only [Act.put, List.setIfInBounds_toArray, List.set_cons_zero, List.set_cons_succ]
        refine detL_val (by kernel_rfl) (yields_of rfl fun w1 hb1 => ?_) ?_
        · have hc1 := bcellD hb1
          clear hb1
          go_simp
          exact Det1_same
        simp only [Act.put, List.setIfInBounds_toArray, List.set_cons_zero, List.set_cons_succ]
        refine detL_val (by kernel_rfl) (yields_of rfl fun w1 hb1 => ?_) ?_
        · have hc1 := bcellD hb1
          clear hb1
          go_simp
          exact Det1_same
        simp only [Act.put, List.setIfInBounds_toArray, List.set_cons_zero, List.set_cons_succ]
        refine detL_val (by kernel_rfl) (yields_of rfl fun w1 hb1 => ?_) ?_
        · have hc1 := bcellD hb1
          have qg := (hc1 w.heap.size 3 hwz).trans hcell
          clear hb1
          go_simp
          exact Det1_same
        simp only [Act.put, List.setIfInBounds_toArray, List.set_cons_zero, List.set_cons_succ]
        refine detL_val (by kernel_rfl) (yields_of rfl fun w1 hb1 => ?_) ?_
        · have hc1 := bcellD hb1
          clear hb1
          go_simp
          exact Det1_same
        simp only [Act.put, List.setIfInBounds_toArray, List.set_cons_zero, List.set_cons_succ]
        refine detL_val (by kernel_rfl) (yields_of rfl fun w1 hb1 => ?_) ?_
        · have hc1 := bcellD hb1
          clear hb1
          go_simp
          exact Det1_same
        simp only [Act.put, List.setIfInBounds_toArray, List.set_cons_zero, List.set_cons_succ]
        refine detL_val (by kernel_rfl) (yields_of rfl fun w1 hb1 => ?_) ?_
        · have hc1 := bcellD hb1
          clear hb1
          go_simp
          exact Det1_same
        simp only [Act.put, List.setIfInBounds_toArray, List.set_cons_zero, List.set_cons_succ]
        refine detL_val (by kernel_rfl) (yields_of rfl fun w1 hb1 => ?_) ?_
        · have hc1 := bcellD hb1
          clear hb1
          go_simp
          exact Det1_enter (HQ.out _)
        simp only [Act.put, List.setIfInBounds_toArray, List.set_cons_zero, List.set_cons_succ]
        refine detL_val (by kernel_rfl) (yields_of rfl fun w1 hb1 => ?_) ?_
        · have hc1 := bcellD hb1
          clear hb1
          go_simp
          exact Det1_same
        simp only [Act.put, List.setIfInBounds_toArray, List.set_cons_zero, List.set_cons_succ]
        refine detL_done (by kernel_rfl) fun w2 hw2 => ?_
        have hb2 := hw2.below
        clear hw2
        go_wp2
        go_ret
        exact ⟨ret_i64 (by rw [HN.out, HS.out]), HB1.out.trans ((hb.drew.trans (hb2.mono hbs)).mono HB1.out.size)⟩
    · obtain rfl : n = s.size := by omega
      go_wp2
      refine detL_begin [.val (.int .i64 s.size), .val (.string s), .val (.int .i64 s.size), .val (.bool false), .val (.bool false), .val (undef), .val (undef), .val (undef), .val (undef), .val (undef), .val (undef), .val (.bool false)] 12 (by kernel_rfl) ?_
      refine detL_val (by kernel_rfl) (yields_of rfl fun w1 hb1 => ?_) ?_
      · have hc1 := bcellD hb1
        clear hb1
        go_simp
        exact Det1_same
      simp only [Act.put, List.setIfInBounds_toArray, List.set_cons_zero, List.set_cons_succ]
      refine detL_val (by kernel_rfl) (yields_of rfl fun w1 hb1 => ?_) ?_
      · have hc1 := bcellD hb1
        clear hb1
        go_simp
        exact Det1_same
      simp only [Act.put, List.setIfInBounds_toArray, List.set_cons_zero, List.set_cons_succ]
      refine detL_val (by kernel_rfl) (yields_of rfl fun w1 hb1 => ?_) ?_
      · have hc1 := bcellD hb1
        clear hb1
        go_simp
        exact Det1_same
      simp only [Act.put, List.setIfInBounds_toArray, List.set_cons_zero, List.set_cons_succ]
      refine detL_val (by kernel_rfl) (yields_of rfl fun w1 hb1 => ?_) ?_
      · have hc1 := bcellD hb1
        clear hb1
        go_simp
        exact Det1_same
      simp only [Act.put, List.setIfInBounds_toArray, List.set_cons_zero, List.set_cons_succ]
      refine detL_val (by kernel_rfl) (yields_of rfl fun w1 hb1 => ?_) ?_
      · have hc1 := bcellD hb1
        clear hb1
        go_simp
        exact Det1_same
      simp only [Act.put, List.setIfInBounds_toArray, List.set_cons_zero, List.set_cons_succ]
      refine detL_val (by kernel_rfl) (yields_not rfl) ?_
      simp only [Act.put, List.setIfInBounds_toArray, List.set_cons_zero, List.set_cons_succ]
      refine detL_val (by kernel_rfl) (yields_not rfl) ?_
      simp only [Act.put, List.setIfInBounds_toArray, List.set_cons_zero, List.set_cons_succ]
      refine detL_val (by kernel_rfl) (yields_not rfl) ?_
      simp only [Act.put, List.setIfInBounds_toArray, List.set_cons_zero, List.set_cons_succ]
      refine detL_val (by kernel_rfl) (yields_not rfl) ?_
      simp only [Act.put, List.setIfInBounds_toArray, List.set_cons_zero, List.set_cons_succ]
      refine detL_val (by kernel_rfl) (yields_not rfl) ?_
      simp only [Act.put, List.setIfInBounds_toArray, List.set_cons_zero, List.set_cons_succ]
      refine detL_val (by kernel_rfl) (yields_not rfl) ?_
      simp only [Act.put, List.setIfInBounds_toArray, List.set_cons_zero, List.set_cons_succ]
      refine detL_val (by kernel_rfl) (yields_of rfl fun w1 hb1 => ?_) ?_
      · have hc1 := bcellD hb1
        clear hb1
        go_simp
        exact Det1_same
      simp only [Act.put, List.setIfInBounds_toArray, List.set_cons_zero, List.set_cons_succ]
      refine detL_done (by kernel_rfl) fun w2 hw2 => ?_
      have hb2 := hw2.below
      clear hw2
      go_wp2
      go_ret
      exact ⟨ret_i64 (by rw [HN.out, togN_end]), HB1.out.trans ((hb.drew.trans (hb2.mono hbs)).mono HB1.out.size)⟩

theorem tog_any (num most : Int) (f g : Nat) (p q : UInt8 → Bool) (hf : Cls f p) (hg : Cls g q) (s : ByteArray) (w : World) (hs : s.size ≤ 100000) :
    Calls Tryz.prog 81 #[.agg #[.int .i64 num, .int .i64 most, .func (.func f) #[] #[], .func (.func g) #[] #[]], .string s] w fun e w' => e = .returned (.int .i64 (tog p q s.data.toList)) ∧ Below w.heap.size w w' := by
  by_cases hl : 0 < s.size
  · cases hp : p s[0] with
    | true => exact tog_yes num most f g p q hf hg s w hs hl hp
    | false =>
      have e : tog p q s.data.toList = 0 := by
        cases hd : s.data.toList with
        | nil => rfl
        | cons c r =>
          have : c = s[0] := by
            have h2 : 0 < s.data.toList.length := by rw [← Lib.size_eq]; exact hl
            have e : s.data.toList[0] = s[0] := rfl
            rw [← e]; simp [hd]
          rw [tog, this, hp]; rfl
      rw [e]
      exact tog_no num most f g p q hf hg s w hs hl hp
  · have e : s.data.toList = [] := List.length_eq_zero_iff.1 (by rw [← Lib.size_eq]; omega)
    rw [e]
    exact tog_0 num most f g p q hf hg s w hs (by rw [toList_data]; exact e)
end Go.Proofs.YtlilnbcklplmfaaGreatDoor

/- Each quote twice, and each pair of quotes once: plain facts. -/
namespace Go.Proofs.YtlilnbcklplmfaaGreatDoor
open Go.RowKit Go.Lib

theorem idx2_hit (l : List UInt8) : Lib.index (39 :: 39 :: l) [39, 39] = 0 := by simp [Lib.index]
theorem idx2_miss {c : UInt8} (hc : c ≠ 39) (l : List UInt8) : Lib.index (c :: l) [39, 39] = if Lib.index l [39, 39] == -1 then -1 else Lib.index l [39, 39] + 1 := by
  have : ([39, 39] : List UInt8).isPrefixOf (c :: l) = false := by simp [List.isPrefixOf, Ne.symm hc]
  simp [Lib.index, this]
theorem rep2_dbl : ∀ (k : Nat) (l : List UInt8), l.count 39 ≤ k → replaceK [39, 39] [39] k (dbl l) = l
  | k, [], _ => by
    cases k with
    | zero => rfl
    | succ k => simp [replaceK, dbl, Lib.index]
  | k, c :: l, h => by
    by_cases hc : c = 39
    · subst hc
      rw [List.count_cons_self] at h
      obtain ⟨j, rfl⟩ : ∃ j, k = j + 1 := ⟨k - 1, by omega⟩
      have ih := rep2_dbl j l (by omega)
      have hh : Lib.index (dbl (39 :: l)) [39, 39] = ((0 : Nat) : Int) := by simp only [dbl, if_true]; exact idx2_hit _
      rw [replaceK_hit _ _ _ _ 0 hh]
      simp only [dbl, if_true]
      simpa using ih
    · rw [List.count_cons_of_ne hc] at h
      have ih := rep2_dbl k l h
      simp only [dbl, hc, if_false]
      cases k with
      | zero => simp only [replaceK] at ih ⊢; rw [ih]
      | succ k =>
        by_cases hm : Lib.index (dbl l) [39, 39] = -1
        · have hm' : Lib.index (c :: dbl l) [39, 39] = -1 := by rw [idx2_miss hc, hm]; rfl
          rw [replaceK, if_pos (by rw [hm]; rfl)] at ih
          rw [replaceK, if_pos (by rw [hm']; rfl), ih]
        · have hge := index_ge (dbl l) [39, 39]
          obtain ⟨i, hi⟩ : ∃ i : Nat, Lib.index (dbl l) [39, 39] = i := ⟨(Lib.index (dbl l) [39, 39]).toNat, by omega⟩
          have hi' : Lib.index (c :: dbl l) [39, 39] = ((i + 1 : Nat) : Int) := by
            rw [idx2_miss hc, hi]
            have : ((i : Int) == -1) = false := beq_eq_false_iff_ne.2 (by omega)
            rw [this]; simp
          rw [replaceK_hit _ _ _ _ _ hi] at ih
          rw [replaceK_hit _ _ _ _ _ hi']
          simpa using ih
theorem cnt2_ne {c : UInt8} (hc : c ≠ 39) (l : List UInt8) : Lib.count (c :: l) [39, 39] = Lib.count l [39, 39] := by
  by_cases hm : Lib.index l [39, 39] = -1
  · have hm' : Lib.index (c :: l) [39, 39] = -1 := by rw [idx2_miss hc, hm]; rfl
    rw [count_miss hm, count_miss hm']
  · have hge := index_ge l [39, 39]
    obtain ⟨i, hi⟩ : ∃ i : Nat, Lib.index l [39, 39] = i := ⟨(Lib.index l [39, 39]).toNat, by omega⟩
    have hi' : Lib.index (c :: l) [39, 39] = ((i + 1 : Nat) : Int) := by
      rw [idx2_miss hc, hi]
      have : ((i : Int) == -1) = false := beq_eq_false_iff_ne.2 (by omega)
      rw [this]; simp
    rw [count_hit (by simp) hi, count_hit (by simp) hi']
    simp
theorem cnt2 : ∀ l : List UInt8, Lib.count (dbl l) [39, 39] = l.count 39
  | [] => by rw [count_miss (by simp [dbl, Lib.index])]; rfl
  | c :: l => by
    by_cases hc : c = 39
    · subst hc
      have hh : Lib.index (dbl (39 :: l)) [39, 39] = ((0 : Nat) : Int) := by simp only [dbl, if_true]; exact idx2_hit _
      rw [count_hit (by simp) hh, List.count_cons_self]
      simp only [dbl, if_true]
      have := cnt2 l
      simp
      omega
    · rw [List.count_cons_of_ne hc]
      simp only [dbl, hc, if_false]
      rw [cnt2_ne hc, cnt2 l]
/-- Each pair of quotes once gives the text back. -/
theorem undbl (l : List UInt8) : Lib.replaceAll (dbl l) [39, 39] [39] = l := by
  unfold Lib.replaceAll Lib.replace Lib.replaceNum
  rw [if_neg (by decide), if_pos (.inl (by decide)), cnt2]
  exact rep2_dbl _ l (Nat.le_refl _)
end Go.Proofs.YtlilnbcklplmfaaGreatDoor

/- ReplaceAll at a pair of quotes. -/
namespace Go.Proofs.YtlilnbcklplmfaaGreatDoor
open Go.RowKit Go.Lib

end Go.Proofs.YtlilnbcklplmfaaGreatDoor

/- A number's digits are parsed as that number: plain facts. -/
namespace Go.Proofs.YtlilnbcklplmfaaGreatDoor
open Go.RowKit Go.Lib

theorem pu_snoc : ∀ (l : List UInt8) (acc v : Nat) (c : UInt8) (d : Nat), parseUint10 acc l = .ok v → c.toNat = 48 + d → d < 10 → v * 10 + d < 18446744073709551616 → parseUint10 acc (l ++ [c]) = .ok (v * 10 + d)
  | [], acc, v, c, d, h, hc, hd, hv => by
    simp only [parseUint10] at h
    injection h with h
    subst h
    simp only [List.nil_append, parseUint10]
    rw [if_pos (by omega), if_neg (by omega), if_neg (by omega), hc, show 48 + d - 48 = d by omega]
  | b :: l, acc, v, c, d, h, hc, hd, hv => by
    simp only [List.cons_append, parseUint10] at h ⊢
    split at h
    · rename_i h1
      rw [if_pos h1]
      split at h
      · cases h
      · rename_i h2
        rw [if_neg h2]
        split at h
        · cases h
        · rename_i h3
          rw [if_neg h3]
          exact pu_snoc l _ v c d h hc hd hv
    · cases h
theorem pu_dec (u : Nat) (hu : u < 18446744073709551616) : parseUint10 0 (decDigits u) = .ok u := by
  induction u using Nat.strongRecOn with
  | ind u ih =>
    by_cases h : u < 10
    · rw [dec_small h]
      have := pu_snoc [] 0 0 (UInt8.ofNat (48 + u % 10)) (u % 10) rfl (dig_val (by omega)) (by omega) (by omega)
      rw [show u % 10 = u by omega] at this ⊢
      simpa using this
    · rw [dec_big h]
      have := pu_snoc _ 0 (u / 10) (UInt8.ofNat (48 + u % 10)) (u % 10) (ih (u / 10) (by omega) (by omega)) (dig_val (by omega)) (by omega) (by omega)
      rw [this, show u / 10 * 10 + u % 10 = u by omega]
theorem mag_dec (u : Nat) (hu : u < 18446744073709551616) : parseMag (decDigits u) = .ok u := by
  unfold parseMag
  rw [if_neg (dec_ne u)]
  exact pu_dec u hu
theorem dec_head (u : Nat) : ∃ c r, decDigits u = c :: r ∧ c.toNat ≠ 43 ∧ c.toNat ≠ 45 := by
  induction u using Nat.strongRecOn with
  | ind u ih =>
    by_cases h : u < 10
    · refine ⟨_, _, dec_small h, ?_, ?_⟩ <;> rw [dig_val (by omega)] <;> omega
    · obtain ⟨c, r, e, h1, h2⟩ := ih (u / 10) (by omega)
      exact ⟨c, r ++ [_], by rw [dec_big h, e]; rfl, h1, h2⟩
/-- A number is parsed as it is written. -/
theorem parse_itoa (i : Int) (hi : In64 i) : parseIntB 64 (itoa i) = .ok i := by
  unfold In64 at hi
  rw [parseIntB_64]
  by_cases h : 0 ≤ i
  · obtain ⟨m, rfl⟩ := Int.eq_ofNat_of_zero_le h
    rw [itoa_nonneg]
    obtain ⟨c, r, e, h1, h2⟩ := dec_head m
    rw [e, atoiAll_plain c r h1 h2, ← e, mag_dec m (by omega)]
    simp only [signless]
    rw [if_neg (by omega)]
  · obtain ⟨m, hm⟩ := Int.eq_ofNat_of_zero_le (show 0 ≤ -i by omega)
    obtain rfl : i = -(m : Int) := by omega
    rw [itoa_neg m (by omega), atoiAll_minus, mag_dec m (by omega)]
    simp only [signed]
    rw [if_neg (by omega)]
end Go.Proofs.YtlilnbcklplmfaaGreatDoor

/- Contracts of the library that this program comes to, laid at its own numbers by the kit's own programs (lay-shelf.mjs, lay-plain.mjs). -/
namespace Go.Proofs
open Go.Shelf
def Tryz.laysC174_ren : Go.Shelf.Ren := ⟨fun | 174 => 214 | 247 => 235 | 245 => 236 | 287 => 251 | 279 => 252 | 280 => 253 | 281 => 254 | 282 => 255 | 321 => 273 | 322 => 274 | 316 => 83 | 171 => 276 | 205 => 275 | 243 => 291 | 246 => 224 | 283 => 242 | 284 => 243 | 285 => 244 | 286 => 245 | 129 => 265 | 317 => 264 | 318 => 266 | 319 => 267 | 320 => 268 | 337 => 285 | 338 => 286 | n => n, fun | 9 => 9 | 3 => 3 | 2 => 2 | 75 => 209 | 85 => 216 | 4 => 4 | 167 => 247 | 5 => 5 | 53 => 239 | 175 => 248 | 46 => 228 | 168 => 250 | 37 => 159 | 0 => 0 | 210 => 263 | 21 => 21 | 127 => 160 | 145 => 272 | 143 => 270 | 171 => 238 | 173 => 242 | 212 => 257 | 51 => 258 | 20 => 20 | 213 => 259 | 232 => 275 | 233 => 276 | 80 => 127 | n => n, fun | 15 => 5 | 16 => 6 | 17 => 4 | 18 => 7 | 19 => 8 | n => n⟩
theorem Tryz.laysC174 : Go.Proofs.LaysC.n174 Tryz.prog Tryz.laysC174_ren := {
  mixed := by kernel_rfl
  f129 := Tryz.func265.trans (congrArg some (by kernel_rfl))
  f171 := Tryz.func276.trans (congrArg some (by kernel_rfl))
  f174 := Tryz.func214.trans (congrArg some (by kernel_rfl))
  f205 := Tryz.func275.trans (congrArg some (by kernel_rfl))
  f243 := Tryz.func291.trans (congrArg some (by kernel_rfl))
  f245 := Tryz.func236.trans (congrArg some (by kernel_rfl))
  f246 := Tryz.func224.trans (congrArg some (by kernel_rfl))
  f247 := Tryz.func235.trans (congrArg some (by kernel_rfl))
  f279 := Tryz.func252.trans (congrArg some (by kernel_rfl))
  f280 := Tryz.func253.trans (congrArg some (by kernel_rfl))
  f281 := Tryz.func254.trans (congrArg some (by kernel_rfl))
  f282 := Tryz.func255.trans (congrArg some (by kernel_rfl))
  f283 := Tryz.func242.trans (congrArg some (by kernel_rfl))
  f284 := Tryz.func243.trans (congrArg some (by kernel_rfl))
  f285 := Tryz.func244.trans (congrArg some (by kernel_rfl))
  f286 := Tryz.func245.trans (congrArg some (by kernel_rfl))
  f287 := Tryz.func251.trans (congrArg some (by kernel_rfl))
  f316 := Tryz.func83.trans (congrArg some (by kernel_rfl))
  f317 := Tryz.func264.trans (congrArg some (by kernel_rfl))
  f318 := Tryz.func266.trans (congrArg some (by kernel_rfl))
  f319 := Tryz.func267.trans (congrArg some (by kernel_rfl))
  f320 := Tryz.func268.trans (congrArg some (by kernel_rfl))
  f321 := Tryz.func273.trans (congrArg some (by kernel_rfl))
  f322 := Tryz.func274.trans (congrArg some (by kernel_rfl))
  f337 := Tryz.func285.trans (congrArg some (by kernel_rfl))
  f338 := Tryz.func286.trans (congrArg some (by kernel_rfl))
  t0 := Tryz.underlying0
  a0 := Tryz.isAgg0
  z0 := Tryz.sizeOf0
  v0 := Tryz.zeroValue0
  t2 := Tryz.underlying2
  a2 := Tryz.isAgg2
  z2 := Tryz.sizeOf2
  v2 := Tryz.zeroValue2
  t3 := Tryz.underlying3
  a3 := Tryz.isAgg3
  z3 := Tryz.sizeOf3
  v3 := Tryz.zeroValue3
  t4 := Tryz.underlying4
  a4 := Tryz.isAgg4
  z4 := Tryz.sizeOf4
  v4 := Tryz.zeroValue4
  t5 := Tryz.underlying5
  a5 := Tryz.isAgg5
  z5 := Tryz.sizeOf5
  v5 := Tryz.zeroValue5
  t9 := Tryz.underlying9
  a9 := Tryz.isAgg9
  z9 := Tryz.sizeOf9
  v9 := Tryz.zeroValue9
  t20 := Tryz.underlying20
  a20 := Tryz.isAgg20
  z20 := Tryz.sizeOf20
  v20 := Tryz.zeroValue20
  t21 := Tryz.underlying21
  a21 := Tryz.isAgg21
  z21 := Tryz.sizeOf21
  v21 := Tryz.zeroValue21
  t37 := Tryz.underlying159
  a37 := Tryz.isAgg159
  z37 := Tryz.sizeOf159
  v37 := Tryz.zeroValue159
  t46 := Tryz.underlying228
  a46 := Tryz.isAgg228
  z46 := Tryz.sizeOf228
  v46 := Tryz.zeroValue228
  t51 := Tryz.underlying258
  a51 := Tryz.isAgg258
  z51 := Tryz.sizeOf258
  v51 := Tryz.zeroValue258
  t53 := Tryz.underlying239
  a53 := Tryz.isAgg239
  z53 := Tryz.sizeOf239
  v53 := Tryz.zeroValue239
  t75 := Tryz.underlying209
  a75 := Tryz.isAgg209
  z75 := Tryz.sizeOf209
  v75 := Tryz.zeroValue209
  t85 := Tryz.underlying216
  a85 := Tryz.isAgg216
  z85 := Tryz.sizeOf216
  v85 := Tryz.zeroValue216
  t127 := Tryz.underlying160
  a127 := Tryz.isAgg160
  z127 := Tryz.sizeOf160
  v127 := Tryz.zeroValue160
  t143 := Tryz.underlying270
  a143 := Tryz.isAgg270
  z143 := Tryz.sizeOf270
  v143 := Tryz.zeroValue270
  t145 := Tryz.underlying272
  a145 := Tryz.isAgg272
  z145 := Tryz.sizeOf272
  v145 := Tryz.zeroValue272
  t167 := Tryz.underlying247
  a167 := Tryz.isAgg247
  z167 := Tryz.sizeOf247
  v167 := Tryz.zeroValue247
  t168 := Tryz.underlying250
  a168 := Tryz.isAgg250
  z168 := Tryz.sizeOf250
  v168 := Tryz.zeroValue250
  t171 := Tryz.underlying238
  a171 := Tryz.isAgg238
  z171 := Tryz.sizeOf238
  v171 := Tryz.zeroValue238
  t173 := Tryz.underlying242
  a173 := Tryz.isAgg242
  z173 := Tryz.sizeOf242
  v173 := Tryz.zeroValue242
  t175 := Tryz.underlying248
  a175 := Tryz.isAgg248
  z175 := Tryz.sizeOf248
  v175 := Tryz.zeroValue248
  t210 := Tryz.underlying263
  a210 := Tryz.isAgg263
  z210 := Tryz.sizeOf263
  v210 := Tryz.zeroValue263
  t212 := Tryz.underlying257
  a212 := Tryz.isAgg257
  z212 := Tryz.sizeOf257
  v212 := Tryz.zeroValue257
  t213 := Tryz.underlying259
  a213 := Tryz.isAgg259
  z213 := Tryz.sizeOf259
  t232 := Tryz.underlying275
  a232 := Tryz.isAgg275
  z232 := Tryz.sizeOf275
  v232 := Tryz.zeroValue275
  t233 := Tryz.underlying276
  a233 := Tryz.isAgg276
  z233 := Tryz.sizeOf276
  v233 := Tryz.zeroValue276
  g15 := by kernel_rfl
  g16 := by kernel_rfl
  g17 := by kernel_rfl
  g18 := by kernel_rfl
  g19 := by kernel_rfl
  t80 := Tryz.underlying127
  a80 := Tryz.isAgg127
  z80 := Tryz.sizeOf127
  v80 := Tryz.zeroValue127
  i0 := by kernel_rfl
  i2 := by kernel_rfl
  i3 := by kernel_rfl
  i4 := by kernel_rfl
  i5 := by kernel_rfl
  i9 := by kernel_rfl
  i20 := by kernel_rfl
  i21 := by kernel_rfl
  i37 := by kernel_rfl
  i46 := by kernel_rfl
  i51 := by kernel_rfl
  i53 := by kernel_rfl
  i75 := by kernel_rfl
  i80 := by kernel_rfl
  i85 := by kernel_rfl
  i127 := by kernel_rfl
  i143 := by kernel_rfl
  i145 := by kernel_rfl
  i167 := by kernel_rfl
  i168 := by kernel_rfl
  i171 := by kernel_rfl
  i173 := by kernel_rfl
  i175 := by kernel_rfl
  i210 := by kernel_rfl
  i212 := by kernel_rfl
  i232 := by kernel_rfl
  i233 := by kernel_rfl
  m15 := by kernel_rfl
  m16 := by kernel_rfl
  m17 := by kernel_rfl
  m18 := by kernel_rfl
  m19 := by kernel_rfl
  c0 := by kernel_rfl
  c2 := by kernel_rfl
  c3 := by kernel_rfl
  c4 := by kernel_rfl
  c5 := by kernel_rfl
  c9 := by kernel_rfl
  c20 := by kernel_rfl
  c21 := by kernel_rfl
  c37 := by kernel_rfl
  c46 := by kernel_rfl
  c51 := by kernel_rfl
  c53 := by kernel_rfl
  c75 := by kernel_rfl
  c80 := by kernel_rfl
  c85 := by kernel_rfl
  c127 := by kernel_rfl
  c143 := by kernel_rfl
  c145 := by kernel_rfl
  c167 := by kernel_rfl
  c168 := by kernel_rfl
  c171 := by kernel_rfl
  c173 := by kernel_rfl
  c175 := by kernel_rfl
  c210 := by kernel_rfl
  c212 := by kernel_rfl
  c213 := by kernel_rfl
  c232 := by kernel_rfl
  c233 := by kernel_rfl }
open Go.RowKit in
theorem Tryz.strconv_ParseInt_10_at64_ok (s : ByteArray) (hmax : s.size ≤ 9223372036854775806) (v : Int) (h : Lib.parseIntB 64 s.data.toList = .ok v) (w : World) :
    Calls Tryz.prog 214 #[.string s, .int .i64 10, .int .i64 64] w fun e w' => e = .returned (.tuple #[.int .i64 v, .nilIface]) ∧ (w' = w ∨ ∃ t, w' = Lib.bytesWorld w 5 t) := Any.strconv_ParseInt_10_at64_ok Tryz.laysC174 s hmax v h w
open Go.RowKit in
theorem Tryz.strconv_ParseInt_10_at64_range (s : ByteArray) (hlim : s.size ≤ 281474976710656) (h : Lib.parseIntB 64 s.data.toList = .range) (ev : Value) (w : World) (hv : w.cell? ⟨6, 0, none⟩ = some ev) (hev : ev = .nilIface ∨ ∃ te pe, ev = .iface te pe) :
    Calls Tryz.prog 214 #[.string s, .int .i64 10, .int .i64 64] w fun e w' => ∃ N, e = .returned (.tuple #[.int .i64 (Lib.intSat 64 s.data.toList), .iface 250 (.pointer (some ⟨N, 0, none⟩))]) ∧ w.heap.size ≤ N ∧ w'.heap[N]? = some (.cells #[.string ⟨#[80, 97, 114, 115, 101, 73, 110, 116]⟩, .string s, ev] 263 (0, 0)) ∧ Below w.heap.size w w' := Any.strconv_ParseInt_10_at64_range Tryz.laysC174 s hlim h ev w hv hev

end Go.Proofs
