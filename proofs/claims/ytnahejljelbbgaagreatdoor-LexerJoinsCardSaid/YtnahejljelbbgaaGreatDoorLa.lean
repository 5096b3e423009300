import Derived.Test.YtnahejljelbbgaaGreatDoorTe
import Derived.Lib.IndexLaws
/- Tokens of a text: plain facts, no walk. -/
namespace Go.Proofs.YtnahejljelbbgaaGreatDoor
open Go.RowKit Go.Lib

def letB (c : UInt8) : Bool := (decide (97 ≤ c.toNat) && decide (c.toNat ≤ 122)) || (decide (65 ≤ c.toNat) && decide (c.toNat ≤ 90))
def digB (c : UInt8) : Bool := decide (48 ≤ c.toNat) && decide (c.toNat ≤ 57)
def parB (c : UInt8) : Bool := letB c || (digB c || decide (c.toNat = 95))
def sigL : List UInt8 := [40, 41, 44, 61, 60, 43, 45, 42]
def sigB (c : UInt8) : Bool := sigL.contains c
def nonB (_ : UInt8) : Bool := false
/-- How many octets at the beginning stand together. -/
def tog (p q : UInt8 → Bool) : List UInt8 → Nat
  | [] => 0
  | c :: r => if p c then 1 + (r.takeWhile q).length else 0
/-- May one of the kind be this? -/
def kmay (p q : UInt8 → Bool) (most : Nat) (l : List UInt8) : Bool := !l.isEmpty && (decide (l.length ≤ most) && decide (tog p q l = l.length))
/-- What stands between two quotes, and what stands behind the second one. -/
def qscan : List UInt8 → Option (List UInt8 × List UInt8)
  | [] => none
  | [c] => if c = 39 then some ([], []) else none
  | c :: d :: r => if c = 39 then (if d = 39 then (qscan r).map (fun x => (39 :: x.1, x.2)) else some ([], d :: r)) else (qscan (d :: r)).map (fun x => (c :: x.1, x.2))
theorem qscan_other {c : UInt8} (hc : c ≠ 39) (r : List UInt8) : qscan (c :: r) = (qscan r).map (fun x => (c :: x.1, x.2)) := by
  cases r with
  | nil => simp [qscan, hc]
  | cons d r => rw [qscan, if_neg hc]
theorem qscan_two (r : List UInt8) : qscan (39 :: 39 :: r) = (qscan r).map (fun x => (39 :: x.1, x.2)) := by rw [qscan, if_pos rfl, if_pos rfl]
theorem qscan_end {r : List UInt8} (h : r.head? ≠ some 39) : qscan (39 :: r) = some ([], r) := by
  cases r with
  | nil => simp [qscan]
  | cons d r =>
    rw [qscan, if_pos rfl, if_neg]
    intro e
    subst e
    exact h rfl
theorem qscan_dbl : ∀ (x r : List UInt8), r.head? ≠ some 39 → qscan (dbl x ++ 39 :: r) = some (x, r)
  | [], r, h => by rw [dbl, List.nil_append]; exact qscan_end h
  | c :: x, r, h => by
    have ih := qscan_dbl x r h
    by_cases hc : c = 39
    · subst hc
      rw [show dbl (39 :: x) = 39 :: 39 :: dbl x by simp [dbl], List.cons_append, List.cons_append, qscan_two, ih]
      rfl
    · rw [show dbl (c :: x) = c :: dbl x by simp [dbl, hc], List.cons_append, qscan_other hc, ih]
      rfl
theorem qscan_some : ∀ (n : Nat) (l x r : List UInt8), l.length ≤ n → qscan l = some (x, r) → l = dbl x ++ 39 :: r ∧ r.head? ≠ some 39
  | n, [], x, r, _, h => by simp [qscan] at h
  | 0, _ :: _, x, r, hn, h => by simp at hn
  | n + 1, c :: l, x, r, hn, h => by
    by_cases hc : c = 39
    · subst hc
      cases l with
      | nil => simp [qscan] at h; obtain ⟨rfl, rfl⟩ := h; simp [dbl]
      | cons d l =>
        by_cases hd : d = 39
        · subst hd
          rw [qscan_two] at h
          cases hq : qscan l with
          | none => rw [hq] at h; cases h
          | some y =>
            rw [hq] at h
            simp at h
            obtain ⟨rfl, rfl⟩ := h
            obtain ⟨h1, h2⟩ := qscan_some n l y.1 y.2 (by simp at hn; omega) hq
            exact ⟨by conv => lhs; rw [h1]
                      simp [dbl], h2⟩
        · rw [qscan_end (by simpa using hd)] at h
          simp at h
          obtain ⟨rfl, rfl⟩ := h
          exact ⟨by simp [dbl], by simpa using hd⟩
    · rw [qscan_other hc] at h
      cases hq : qscan l with
      | none => rw [hq] at h; cases h
      | some y =>
        rw [hq] at h
        simp at h
        obtain ⟨rfl, rfl⟩ := h
        obtain ⟨h1, h2⟩ := qscan_some n l y.1 y.2 (by simp at hn; omega) hq
        exact ⟨by conv => lhs; rw [h1]
                  simp [dbl, hc], h2⟩
theorem dbl_ge : ∀ l : List UInt8, l.length ≤ (dbl l).length
  | [] => by simp [dbl]
  | c :: l => by
    have := dbl_ge l
    simp only [dbl]
    split <;> simp <;> omega
/-- A token. -/
structure Tk where
  k : Int
  s : List UInt8
/-- The token at the beginning, and how many octets it takes. -/
def fst (l : List UInt8) : Option (Tk × Nat) :=
  match l with
  | [] => none
  | c :: r =>
    if c = 39 then (match qscan r with
      | none => none
      | some (x, t) => if mayB 2 0 ⟨x.toArray⟩ then some (⟨3, x⟩, l.length - t.length) else none)
    else if letB c then (if 1 + (r.takeWhile parB).length ≤ 16 then some (⟨1, l.take (1 + (r.takeWhile parB).length)⟩, 1 + (r.takeWhile parB).length) else none)
    else if digB c then (if 1 + (r.takeWhile digB).length ≤ 19 then some (⟨2, l.take (1 + (r.takeWhile digB).length)⟩, 1 + (r.takeWhile digB).length) else none)
    else if sigB c then some (⟨4, [c]⟩, 1)
    else none
def blankB (c : UInt8) : Bool := [32, 10].contains c
def skip (l : List UInt8) : List UInt8 := l.dropWhile blankB
theorem fst_pos {l : List UInt8} {t : Tk} {n : Nat} (h : fst l = some (t, n)) : 1 ≤ n ∧ n ≤ l.length := by
  unfold fst at h
  cases l with
  | nil => cases h
  | cons c r =>
    simp only at h
    split at h
    · cases hq : qscan r with
      | none => rw [hq] at h; cases h
      | some y =>
        rw [hq] at h
        simp only at h
        split at h
        · simp at h
          obtain ⟨h1, _⟩ := qscan_some _ r y.1 y.2 (Nat.le_refl _) hq
          have := congrArg List.length h1
          simp at this
          simp
          omega
        · cases h
    · split at h
      · split at h
        · simp at h
          have := (List.takeWhile_sublist parB (l := r)).length_le
          simp
          omega
        · cases h
      · split at h
        · split at h
          · simp at h
            have := (List.takeWhile_sublist digB (l := r)).length_le
            simp
            omega
          · cases h
        · split at h
          · simp at h; simp; omega
          · cases h
theorem fst_size {l : List UInt8} {t : Tk} {n : Nat} (h : fst l = some (t, n)) (hl : l.length ≤ 100000) : (⟨t.s.toArray⟩ : ByteArray).size ≤ 100000 := by
  have key : t.s.length ≤ l.length := by
    unfold fst at h
    cases l with
    | nil => cases h
    | cons c r =>
      simp only at h
      split at h
      · cases hq : qscan r with
        | none => rw [hq] at h; cases h
        | some y =>
          rw [hq] at h
          simp only at h
          split at h
          · simp at h
            obtain ⟨h1, _⟩ := qscan_some _ r y.1 y.2 (Nat.le_refl _) hq
            have h2 := congrArg List.length h1
            have h3 := dbl_ge y.1
            rw [← h.1]
            simp at h2
            simp
            omega
          · cases h
      · split at h
        · split at h
          · simp at h
            rw [← h.1]
            simp
            omega
          · cases h
        · split at h
          · split at h
            · simp at h
              rw [← h.1]
              simp
              omega
            · cases h
          · split at h
            · simp at h; rw [← h.1]; simp
            · cases h
  simp [ByteArray.size]
  omega
theorem skip_len (l : List UInt8) : (skip l).length ≤ l.length := (List.dropWhile_sublist _).length_le
/-- A text's tokens. -/
def cut (l : List UInt8) : Option (List Tk) :=
  match h : fst (skip l) with
  | none => if skip l = [] then some [] else none
  | some (t, n) => (cut ((skip l).drop n)).map (t :: ·)
termination_by l.length
decreasing_by
  have h1 := fst_pos h
  have h2 := skip_len l
  simp
  omega
theorem cut_none {l : List UInt8} (h : fst (skip l) = none) (hn : skip l ≠ []) : cut l = none := by
  rw [cut]
  split
  · rw [if_neg hn]
  · rename_i h'; rw [h] at h'; cases h'
theorem cut_end {l : List UInt8} (h : skip l = []) : cut l = some [] := by
  rw [cut]
  split
  · rw [if_pos h]
  · rename_i h'; rw [h] at h'; cases h'
theorem cut_more {l : List UInt8} {t : Tk} {n : Nat} (h : fst (skip l) = some (t, n)) : cut l = (cut ((skip l).drop n)).map (t :: ·) := by
  rw [cut]
  split
  · rename_i h'; rw [h] at h'; cases h'
  · rename_i t' n' h'
    rw [h] at h'
    simp at h'
    obtain ⟨rfl, rfl⟩ := h'
    rfl
theorem get_at' {s : ByteArray} {n : Nat} (h : n < s.size) : s.data.toList[n]? = some s[n] := by
  rw [List.getElem?_eq_getElem (by rw [← Lib.size_eq]; exact h)]; rfl
end Go.Proofs.YtnahejljelbbgaaGreatDoor
