import Derived.Test.YtnahejljelbbgaaGreatDoorVc
import Derived.LoopTactic
import Derived.Outline
/- The octets of a text that may be; the document's own May and good. -/
namespace Go.Proofs.YtnahejljelbbgaaGreatDoor
open Go.RowKit Go.Lib

def okO (c : UInt8) : Bool := decide (32 ≤ c.toNat) && decide (c.toNat ≤ 126)
def allO (s : ByteArray) : Bool := s.data.toList.all okO
/-- The first n octets are those of a text. -/
def okTo (s : ByteArray) (n : Nat) : Prop := ∀ j, j < n → okO (s.get! j) = true

theorem decode_lo (s : ByteArray) (i : Nat) (h : (s.get! i).toNat < 128) : Utf8.decode s i = ((s.get! i).toNat, 1) := by
  rw [decode_at, decodeN, if_pos h]
theorem decode_hi (s : ByteArray) (i : Nat) (h : 128 ≤ (s.get! i).toNat) : 128 ≤ (Utf8.decode s i).1 := by
  rw [decode_at]
  unfold decodeN
  repeat' split
  all_goals (simp only; omega)
theorem out_ok (s : ByteArray) (i : Nat) : outP (Utf8.decode s i).1 = !okO (s.get! i) := by
  unfold outP okO
  by_cases h : (s.get! i).toNat < 128
  · rw [decode_lo s i h]
    generalize (s.get! i).toNat = n
    rw [Bool.eq_iff_iff]; simp; omega
  · have := decode_hi s i (by omega)
    rw [Bool.eq_iff_iff]; simp; omega
theorem idx_out (s : ByteArray) : ∀ (f pos : Nat), s.size ≤ pos + f → (0 ≤ Lib.idxFuncFrom outP true s f pos ↔ ∃ j, pos ≤ j ∧ j < s.size ∧ okO (s.get! j) = false)
  | 0, pos, h => by simp [Lib.idxFuncFrom]; omega
  | f + 1, pos, h => by
    rw [Lib.idxFuncFrom]
    by_cases hp : pos < s.size
    · rw [if_pos hp]
      cases ho : okO (s.get! pos) with
      | false => rw [out_ok, ho]; simp only [Bool.not_false, if_true]; exact ⟨fun _ => ⟨pos, Nat.le_refl _, hp, ho⟩, fun _ => by omega⟩
      | true =>
        have hlo : (s.get! pos).toNat < 128 := by unfold okO at ho; simp at ho; omega
        rw [out_ok, ho]
        simp only [Bool.not_true, Bool.false_eq_true, if_false]
        rw [decode_lo s pos hlo, idx_out s f (pos + 1) (by omega)]
        constructor
        · rintro ⟨j, h1, h2, h3⟩; exact ⟨j, by omega, h2, h3⟩
        · rintro ⟨j, h1, h2, h3⟩
          refine ⟨j, ?_, h2, h3⟩
          by_cases hj : j = pos
          · subst hj; rw [ho] at h3; cases h3
          · omega
    · rw [if_neg hp]
      constructor
      · intro h; omega
      · rintro ⟨j, h1, h2, _⟩; omega
theorem allO_iff (s : ByteArray) : allO s = true ↔ okTo s s.size := by
  unfold allO okTo
  rw [List.all_eq_true]
  constructor
  · intro h j hj
    refine h _ ?_
    have : s.get! j = s.data[j]'hj := by simp [ByteArray.get!, hj]
    rw [this]; simp
  · intro h x hx
    obtain ⟨j, hj, rfl⟩ := List.getElem_of_mem hx
    have hj' : j < s.size := by simpa using hj
    have := h j hj'
    rw [show s.get! j = s.data[j]'hj' by simp [ByteArray.get!, hj']] at this
    simpa using this
theorem txt_all (s : ByteArray) : txtB s = allO s := by
  unfold txtB Lib.idxFunc
  have h := idx_out s s.size 0 (by omega)
  cases ha : allO s with
  | true =>
    have ho := (allO_iff s).1 ha
    have : ¬ (0 ≤ Lib.idxFuncFrom outP true s s.size 0) := fun h' => by
      obtain ⟨j, _, hj, hf⟩ := h.1 h'
      rw [ho j hj] at hf; cases hf
    simp [this]
  | false =>
    have : 0 ≤ Lib.idxFuncFrom outP true s s.size 0 := by
      refine h.2 (Classical.byContradiction fun hn => ?_)
      have : allO s = true := (allO_iff s).2 fun j hj => by
        cases ho : okO (s.get! j) with
        | true => rfl
        | false => exact absurd ⟨j, Nat.zero_le _, hj, ho⟩ hn
      rw [ha] at this; cases this
    simp [this]

theorem toList_data (s : ByteArray) : s.toList = s.data.toList := ByteArray.toList_eq s
/-- One that has an octet that is none may not be. -/
theorem may_bad (k i : Int) (s : ByteArray) (h : allO s = false) : mayB k i s = false := by
  have hne : s.toList.isEmpty = false := by
    cases he : s.toList.isEmpty with
    | false => rfl
    | true =>
      rw [toList_data] at he
      unfold allO at h
      rw [List.isEmpty_iff.1 he] at h
      cases h
  unfold mayB
  rw [txt_all, h, hne]
  simp
/-- One that has none such. -/
def mayA (k i : Int) (s : ByteArray) : Bool :=
  if k = 0 then decide (i = 0) && s.toList.isEmpty else if k = 1 then s.toList.isEmpty else if k = 2 then decide (i = 0) && decide (s.size ≤ 40) else if k = 3 then s.toList.isEmpty && (decide (i = 0) || decide (i = 1)) else false
theorem may_good (k i : Int) (s : ByteArray) (h : allO s = true) : mayB k i s = mayA k i s := by
  unfold mayB mayA
  rw [txt_all, h]
  simp
theorem okTo_succ {s : ByteArray} {n : Nat} (h : okTo s n) (ho : okO (s.get! n) = true) : okTo s (n + 1) := fun j hj => by
  by_cases e : j = n
  · rw [e]; exact ho
  · exact h j (by omega)
theorem okTo_bad {s : ByteArray} {n : Nat} (hn : n < s.size) (ho : okO (s.get! n) = false) : allO s = false := by
  cases ha : allO s with
  | false => rfl
  | true => have := (allO_iff s).1 ha n hn; rw [ho] at this; cases this
theorem get_at (s : ByteArray) (n : Nat) (h : n < s.size) : s.get! n = s[n] := by
  show s.data[n]! = s.data[n]
  exact getElem!_pos _ _ _

set_option maxHeartbeats 800000 in
theorem rmay_any (k i : Int) (s : ByteArray) (w : World) (hs : s.size ≤ maxLen) :
    Calls Tryz.prog 33 #[.agg #[.int .i64 k, .int .i64 i, .string s]] w fun e w' => e = .returned (.bool (mayB k i s)) ∧ Below w.heap.size w w' := by
  unfold maxLen at hs
  go_enter Tryz.func33, Tryz.ntmps33
  go_wp2
  go_loop [3] (fun t => ∃ n : Nat, n ≤ s.size ∧ okTo s n ∧ t = .int .i64 n) (fun t => s.size - (intOf t).toNat)
  case atStart => exact ⟨0, Nat.zero_le _, fun j hj => absurd hj (by omega), rfl⟩
  case round =>
    obtain ⟨n, hn, hok, rfl⟩ := hrel
    by_cases hlt : n < s.size
    · have hg := get_at s n hlt
      by_cases h1 : (s[n].toNat : Int) < 32
      · have hbad : mayB k i s = false := may_bad k i s (okTo_bad hlt (by rw [hg]; unfold okO; simp; omega))
        have HB := Lib.hid hbad
        clear hbad hg
        go_wp2
        go_ret
        exact ⟨ret_bool HB.out.symm, (Below.refl _ _).alloc (Nat.le_refl _) _⟩
      · by_cases h2 : (126 : Int) < (s[n].toNat : Int)
        · have hbad : mayB k i s = false := may_bad k i s (okTo_bad hlt (by rw [hg]; unfold okO; simp; omega))
          have HB := Lib.hid hbad
          clear hbad hg
          go_wp2
          go_ret
          exact ⟨ret_bool HB.out.symm, (Below.refl _ _).alloc (Nat.le_refl _) _⟩
        · have hok' : okTo s (n + 1) := okTo_succ hok (by rw [hg]; unfold okO; simp; omega)
          clear hg hok
          go_wp2
          go_round
          case rel => exact ⟨n + 1, by omega, hok', by go_num⟩
          case measure => simp [intOf]; omega
    · have hall : allO s = true := (allO_iff s).2 fun j hj => hok j (by omega)
      have HB := Lib.hid (may_good k i s hall)
      clear hall hok
      go_wp2
      all_goals
        go_ret
        refine ⟨ret_bool ?_, (Below.refl _ _).alloc (Nat.le_refl _) _⟩
        (try subst_vars)
        rw [HB.out]
        clear HB
        simp_all [mayA] <;> (try omega) <;> (try (rw [Bool.eq_iff_iff]; simp; omega))
end Go.Proofs.YtnahejljelbbgaaGreatDoor
