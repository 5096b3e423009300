import Derived.Test.YtnahejljelbbgaaGreatDoorVt
import Derived.Lib.ReplaceLaws
import Derived.Lib.ItoaNum
/- The text of a value: plain facts, no walk. -/
namespace Go.Proofs.YtnahejljelbbgaaGreatDoor
open Go.RowKit Go.Lib

/-- Each quote twice. -/
def dbl : List UInt8 → List UInt8
  | [] => []
  | c :: l => if c = 39 then 39 :: 39 :: dbl l else c :: dbl l
theorem idx_hit (l : List UInt8) : Lib.index (39 :: l) [39] = 0 := by simp [Lib.index]
theorem idx_miss {c : UInt8} (hc : c ≠ 39) (l : List UInt8) : Lib.index (c :: l) [39] = if Lib.index l [39] == -1 then -1 else Lib.index l [39] + 1 := by
  have : ([39] : List UInt8).isPrefixOf (c :: l) = false := by simp [List.isPrefixOf, Ne.symm hc]
  simp [Lib.index, this]
theorem rep_dbl : ∀ (l : List UInt8), replaceK [39] [39, 39] (l.count 39) l = dbl l
  | [] => rfl
  | c :: l => by
    have ih := rep_dbl l
    by_cases hc : c = 39
    · subst hc
      rw [List.count_cons_self, replaceK_hit _ _ _ _ 0 (idx_hit l)]
      simp [dbl, ih]
    · rw [List.count_cons_of_ne hc]
      simp only [dbl, hc, if_false]
      cases hk : l.count 39 with
      | zero => rw [hk] at ih; simp only [replaceK] at ih ⊢; rw [← ih]
      | succ k =>
        rw [hk] at ih
        obtain ⟨i, hi⟩ := index_of_count (s := l) (old := [39]) (by rw [count_one, hk]; omega)
        have hi' : Lib.index (c :: l) [39] = ((i + 1 : Nat) : Int) := by
          rw [idx_miss hc, hi]
          have : ((i : Int) == -1) = false := beq_eq_false_iff_ne.2 (by omega)
          rw [this]; simp
        rw [replaceK_hit _ _ _ _ _ hi', ← ih, replaceK_hit _ _ _ _ _ hi]
        simp
theorem all_dbl (l : List UInt8) : Lib.replaceAll l [39] [39, 39] = dbl l := by
  unfold Lib.replaceAll Lib.replace Lib.replaceNum
  rw [if_neg (by decide), if_pos (.inl (by decide)), count_one]
  exact rep_dbl l
theorem dbl_inj : ∀ (l m : List UInt8), dbl l = dbl m → l = m
  | [], [], _ => rfl
  | [], c :: m, h => by simp only [dbl] at h; split at h <;> simp at h
  | c :: l, [], h => by simp only [dbl] at h; split at h <;> simp at h
  | c :: l, d :: m, h => by
    simp only [dbl] at h
    by_cases h1 : c = 39 <;> by_cases h2 : d = 39
    · rw [if_pos h1, if_pos h2] at h
      simp only [List.cons.injEq, true_and] at h
      rw [h1, h2, dbl_inj l m h]
    · rw [if_pos h1, if_neg h2] at h
      simp only [List.cons.injEq] at h
      exact absurd h.1.symm h2
    · rw [if_neg h1, if_pos h2] at h
      simp only [List.cons.injEq] at h
      exact absurd h.1 h1
    · rw [if_neg h1, if_neg h2] at h
      simp only [List.cons.injEq] at h
      rw [h.1, dbl_inj l m h.2]
theorem dbl_len : ∀ (l : List UInt8), (dbl l).length ≤ 2 * l.length
  | [] => by simp [dbl]
  | c :: l => by
    have := dbl_len l
    simp only [dbl]
    split <;> simp <;> omega

/-- What digits say. -/
def valD (l : List UInt8) : Nat := l.foldl (fun a c => 10 * a + (c.toNat - 48)) 0
theorem valD_snoc (l : List UInt8) (c : UInt8) : valD (l ++ [c]) = 10 * valD l + (c.toNat - 48) := by simp [valD]
theorem dig_val {d : Nat} (h : d < 10) : (UInt8.ofNat (48 + d)).toNat = 48 + d := by rw [UInt8.toNat_ofNat']; omega
theorem valD_dec (u : Nat) : valD (decDigits u) = u := by
  induction u using Nat.strongRecOn with
  | ind u ih =>
    rw [decDigits]
    split
    · rename_i h
      simp only [valD, List.foldl_cons, List.foldl_nil]
      rw [dig_val h]; omega
    · rename_i h
      rw [valD_snoc, ih (u / 10) (by omega), dig_val (by omega)]
      omega
theorem dec_digits (u : Nat) : ∀ c ∈ decDigits u, 48 ≤ c.toNat ∧ c.toNat ≤ 57 := by
  induction u using Nat.strongRecOn with
  | ind u ih =>
    intro c hc
    rw [decDigits] at hc
    split at hc
    · rename_i h
      simp only [List.mem_singleton] at hc
      subst hc
      rw [dig_val h]; omega
    · rename_i h
      rw [List.mem_append] at hc
      rcases hc with hc | hc
      · exact ih (u / 10) (by omega) c hc
      · simp only [List.mem_singleton] at hc
        subst hc
        rw [dig_val (by omega)]; omega
theorem dec_ne (u : Nat) : decDigits u ≠ [] := by
  rw [decDigits]
  split <;> simp
theorem dec_inj {u v : Nat} (h : decDigits u = decDigits v) : u = v := by rw [← valD_dec u, h, valD_dec]
/-- A number's text begins with a digit, or with a minus. -/
theorem itoa_head (n : Int) : ∃ c l, itoa n = c :: l ∧ (c = 45 ∨ (48 ≤ c.toNat ∧ c.toNat ≤ 57)) ∧ (c = 45 ↔ n < 0) := by
  unfold itoa
  by_cases h : n < 0
  · rw [if_pos h]; exact ⟨45, _, rfl, .inl rfl, fun _ => h, fun _ => rfl⟩
  · rw [if_neg h]
    cases hd : decDigits n.toNat with
    | nil => exact absurd hd (dec_ne _)
    | cons c l =>
      have := dec_digits n.toNat c (by rw [hd]; exact List.mem_cons_self)
      exact ⟨c, l, rfl, .inr this, fun e => by subst e; exact absurd this.1 (by decide), fun h' => absurd h' h⟩
theorem itoa_inj {m n : Int} (h : itoa m = itoa n) : m = n := by
  obtain ⟨c, l, e1, _, i1⟩ := itoa_head m
  obtain ⟨d, r, e2, _, i2⟩ := itoa_head n
  have hcd : c = d := by rw [h, e2] at e1; injection e1 with e _; exact e.symm
  unfold itoa at h
  by_cases hm : m < 0
  · have hn : n < 0 := i2.1 (hcd ▸ i1.2 hm)
    rw [if_pos hm, if_pos hn] at h
    have := dec_inj (List.cons.inj h).2
    omega
  · have hn : ¬ n < 0 := fun hn => hm (i1.1 (hcd ▸ i2.2 hn))
    rw [if_neg hm, if_neg hn] at h
    have := dec_inj h
    omega

/-- A value's text. -/
def txtO (k i : Int) (s : ByteArray) : List UInt8 :=
  if mayB k i s then (if k = 1 then itoa i else if k = 2 then 39 :: (dbl s.data.toList ++ [39]) else if k = 3 then (if i = 1 then [84, 82, 85, 69] else [70, 65, 76, 83, 69]) else [78, 85, 76, 76]) else []

/-- A value that may be is one of four. -/
inductive Four (k i : Int) (s : ByteArray) : Prop
  | null (hk : k = 0) (hi : i = 0) (hs : s = ⟨#[]⟩) (ht : txtO k i s = [78, 85, 76, 76])
  | num (hk : k = 1) (hs : s = ⟨#[]⟩) (ht : txtO k i s = itoa i)
  | text (hk : k = 2) (hi : i = 0) (hz : s.size ≤ 40) (hc : ∀ c ∈ s.data.toList, okO c = true) (ht : txtO k i s = 39 :: (dbl s.data.toList ++ [39]))
  | no (hk : k = 3) (hi : i = 0) (hs : s = ⟨#[]⟩) (ht : txtO k i s = [70, 65, 76, 83, 69])
  | yes (hk : k = 3) (hi : i = 1) (hs : s = ⟨#[]⟩) (ht : txtO k i s = [84, 82, 85, 69])
theorem bs_nil {a : ByteArray} (h : a.data.toList = []) : a = ⟨#[]⟩ := ByteArray.ext (by simpa using h)
theorem four (k i : Int) (s : ByteArray) (hm : mayB k i s = true) : Four k i s := by
  obtain ⟨T, hT⟩ : ∃ T, T = txtO k i s := ⟨_, rfl⟩
  have ht := hT
  unfold txtO at ht
  rw [if_pos hm] at ht
  have hm' := hm
  unfold mayB at hm
  by_cases h1 : k = 1
  · rw [if_pos h1] at ht
    simp [h1] at hm
    rw [toList_data] at hm
    exact .num h1 (bs_nil hm) (hT.symm.trans ht)
  · rw [if_neg h1] at ht
    by_cases h2 : k = 2
    · rw [if_pos h2] at ht
      simp [h2] at hm
      have h3 := hm.2
      rw [txt_all] at h3
      unfold allO at h3
      exact .text h2 hm.1.1 hm.1.2 (List.all_eq_true.1 h3) (hT.symm.trans ht)
    · rw [if_neg h2] at ht
      by_cases h3 : k = 3
      · rw [if_pos h3] at ht
        simp [h3] at hm
        rw [toList_data] at hm
        rcases hm.2 with h | h
        · rw [if_neg (by omega)] at ht; exact .no h3 h (bs_nil hm.1) (hT.symm.trans ht)
        · rw [if_pos h] at ht; exact .yes h3 h (bs_nil hm.1) (hT.symm.trans ht)
      · rw [if_neg h3] at ht
        have h0 : k = 0 := Classical.byContradiction fun h0 => by simp [h0, h1, h2, h3] at hm
        simp [h0] at hm
        rw [toList_data] at hm
        exact .null h0 hm.1 (bs_nil hm.2) (hT.symm.trans ht)
/-- Two that may be have the same text just if they are the same. -/
theorem txt_inj {k i : Int} {s : ByteArray} {k' i' : Int} {s' : ByteArray} (h : mayB k i s = true) (h' : mayB k' i' s' = true) (e : txtO k i s = txtO k' i' s') : k = k' ∧ i = i' ∧ s = s' := by
  cases four k i s h with
  | null hk hi hs ht =>
    cases four k' i' s' h' with
    | null hk' hi' hs' ht' => exact ⟨by rw [hk, hk'], by rw [hi, hi'], by rw [hs, hs']⟩
    | num hk' hs' ht' =>
      obtain ⟨c, l, e1, hc, _⟩ := itoa_head i'
      rw [ht, ht', e1] at e
      injection e with e _
      subst e
      rcases hc with hc | hc
      · exact absurd hc (by decide)
      · exact absurd hc.2 (by decide)
    | text hk' hi' hz' hc' ht' => rw [ht, ht'] at e; simp at e
    | no hk' hi' hs' ht' => rw [ht, ht'] at e; simp at e
    | yes hk' hi' hs' ht' => rw [ht, ht'] at e; simp at e
  | num hk hs ht =>
    cases four k' i' s' h' with
    | num hk' hs' ht' => rw [ht, ht'] at e; exact ⟨by rw [hk, hk'], itoa_inj e, by rw [hs, hs']⟩
    | null hk' hi' hs' ht' =>
      obtain ⟨c, l, e1, hc, _⟩ := itoa_head i
      rw [ht, ht', e1] at e; injection e with e _; subst e
      rcases hc with hc | hc
      · exact absurd hc (by decide)
      · exact absurd hc.2 (by decide)
    | text hk' hi' hz' hc' ht' =>
      obtain ⟨c, l, e1, hc, _⟩ := itoa_head i
      rw [ht, ht', e1] at e; injection e with e _; subst e
      rcases hc with hc | hc
      · exact absurd hc (by decide)
      · exact absurd hc.1 (by decide)
    | no hk' hi' hs' ht' =>
      obtain ⟨c, l, e1, hc, _⟩ := itoa_head i
      rw [ht, ht', e1] at e; injection e with e _; subst e
      rcases hc with hc | hc
      · exact absurd hc (by decide)
      · exact absurd hc.2 (by decide)
    | yes hk' hi' hs' ht' =>
      obtain ⟨c, l, e1, hc, _⟩ := itoa_head i
      rw [ht, ht', e1] at e; injection e with e _; subst e
      rcases hc with hc | hc
      · exact absurd hc (by decide)
      · exact absurd hc.2 (by decide)
  | text hk hi hz hc ht =>
    cases four k' i' s' h' with
    | text hk' hi' hz' hc' ht' =>
      rw [ht, ht'] at e
      simp only [List.cons.injEq, true_and] at e
      have e2 := dbl_inj _ _ (List.append_cancel_right e)
      exact ⟨by rw [hk, hk'], by rw [hi, hi'], ByteArray.ext (Array.toList_inj.1 e2)⟩
    | null hk' hi' hs' ht' => rw [ht, ht'] at e; simp at e
    | num hk' hs' ht' =>
      obtain ⟨c, l, e1, hc, _⟩ := itoa_head i'
      rw [ht, ht', e1] at e; injection e with e _; subst e
      rcases hc with hc | hc
      · exact absurd hc (by decide)
      · exact absurd hc.1 (by decide)
    | no hk' hi' hs' ht' => rw [ht, ht'] at e; simp at e
    | yes hk' hi' hs' ht' => rw [ht, ht'] at e; simp at e
  | no hk hi hs ht =>
    cases four k' i' s' h' with
    | no hk' hi' hs' ht' => exact ⟨by rw [hk, hk'], by rw [hi, hi'], by rw [hs, hs']⟩
    | null hk' hi' hs' ht' => rw [ht, ht'] at e; simp at e
    | num hk' hs' ht' =>
      obtain ⟨c, l, e1, hc, _⟩ := itoa_head i'
      rw [ht, ht', e1] at e; injection e with e _; subst e
      rcases hc with hc | hc
      · exact absurd hc (by decide)
      · exact absurd hc.2 (by decide)
    | text hk' hi' hz' hc' ht' => rw [ht, ht'] at e; simp at e
    | yes hk' hi' hs' ht' => rw [ht, ht'] at e; simp at e
  | yes hk hi hs ht =>
    cases four k' i' s' h' with
    | yes hk' hi' hs' ht' => exact ⟨by rw [hk, hk'], by rw [hi, hi'], by rw [hs, hs']⟩
    | null hk' hi' hs' ht' => rw [ht, ht'] at e; simp at e
    | num hk' hs' ht' =>
      obtain ⟨c, l, e1, hc, _⟩ := itoa_head i'
      rw [ht, ht', e1] at e; injection e with e _; subst e
      rcases hc with hc | hc
      · exact absurd hc (by decide)
      · exact absurd hc.2 (by decide)
    | text hk' hi' hz' hc' ht' => rw [ht, ht'] at e; simp at e
    | no hk' hi' hs' ht' => rw [ht, ht'] at e; simp at e
end Go.Proofs.YtnahejljelbbgaaGreatDoor
