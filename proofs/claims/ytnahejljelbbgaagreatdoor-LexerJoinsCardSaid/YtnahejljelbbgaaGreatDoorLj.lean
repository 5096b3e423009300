import Derived.Test.YtnahejljelbbgaaGreatDoorLi
/- What is written is cut as it was: plain facts, no walk. -/
namespace Go.Proofs.YtnahejljelbbgaaGreatDoor
open Go.RowKit Go.Lib

def Tk.may (t : Tk) : Bool := tmayB t.k ⟨t.s.toArray⟩
/-- A token as it is written. -/
def tkO (t : Tk) : List UInt8 := if t.k = 3 then 39 :: (dbl t.s ++ [39]) else t.s
/-- What may stand behind a token: nothing, or a blank. -/
def After (r : List UInt8) : Prop := ∀ c, r.head? = some c → blankB c = true
theorem blank_is {c : UInt8} (h : blankB c = true) : c = 32 ∨ c = 10 := by
  have := List.contains_iff_mem.1 h
  simpa using this
theorem After.nil : After [] := fun c h => by cases h
theorem After.cons {c : UInt8} (h : blankB c = true) (r : List UInt8) : After (c :: r) := fun d hd => by simp at hd; rw [← hd]; exact h
theorem After.q {r : List UInt8} (h : After r) : r.head? ≠ some 39 := fun e => by rcases blank_is (h 39 e) with h | h <;> exact absurd h (by decide)
theorem After.no {r : List UInt8} (h : After r) (q : UInt8 → Bool) (h1 : q 32 = false) (h2 : q 10 = false) : r.takeWhile q = [] := by
  cases r with
  | nil => rfl
  | cons c r =>
    rw [List.takeWhile_cons]
    rcases blank_is (h c rfl) with e | e
    · rw [e, h1]; rfl
    · rw [e, h2]; rfl
theorem tw_app {q : UInt8 → Bool} {r : List UInt8} : ∀ (l : List UInt8), r.takeWhile q = [] → (l ++ r).takeWhile q = l.takeWhile q
  | [], h => h
  | c :: l, h => by
    rw [List.cons_append, List.takeWhile_cons, List.takeWhile_cons, tw_app l h]
theorem par_32 : parB 32 = false ∧ parB 10 = false := by decide
theorem dig_32 : digB 32 = false ∧ digB 10 = false := by decide
theorem qscan_app : ∀ (n : Nat) (l x t b : List UInt8), l.length ≤ n → qscan l = some (x, t) → (t = [] → b.head? ≠ some 39) → qscan (l ++ b) = some (x, t ++ b) := by
  intro n l x t b _ h hb
  obtain ⟨h1, h2⟩ := qscan_some _ l x t (Nat.le_refl _) h
  rw [h1, List.append_assoc, List.cons_append]
  refine qscan_dbl x (t ++ b) ?_
  cases t with
  | nil => exact hb rfl
  | cons c t => simpa using h2
theorem qscan_none_app : ∀ (n : Nat) (l b : List UInt8), l.length ≤ n → (∀ c ∈ b, c ≠ 39) → qscan l = none → qscan (l ++ b) = none
  | _, [], b, _, hb, _ => qscan_free b fun k e => hb 39 (List.mem_of_getElem? e) rfl
  | 0, _ :: _, _, hn, _, _ => by simp at hn
  | n + 1, c :: l, b, hn, hb, h => by
    by_cases hc : c = 39
    · subst hc
      cases l with
      | nil => simp [qscan] at h
      | cons d l =>
        by_cases hd : d = 39
        · subst hd
          rw [qscan_two] at h
          have h' : qscan l = none := by
            cases hq : qscan l with
            | none => rfl
            | some y => rw [hq] at h; cases h
          rw [List.cons_append, List.cons_append, qscan_two, qscan_none_app n l b (by simp at hn; omega) hb h']
          rfl
        · rw [qscan_end (by simpa using hd)] at h
          cases h
    · rw [qscan_other hc] at h
      have h' : qscan l = none := by
        cases hq : qscan l with
        | none => rfl
        | some y => rw [hq] at h; cases h
      rw [List.cons_append, qscan_other hc, qscan_none_app n l b (by simp at hn; omega) hb h']
      rfl
theorem fst_app {x b : List UInt8} {t : Tk} {n : Nat} (h : fst x = some (t, n)) (hb : After b) : fst (x ++ b) = some (t, n) := by
  obtain ⟨hn1, hn2⟩ := fst_pos h
  cases x with
  | nil => cases h
  | cons c r =>
    have hp := tw_app (q := parB) r (hb.no parB par_32.1 par_32.2)
    have hd := tw_app (q := digB) r (hb.no digB dig_32.1 dig_32.2)
    have lp := (List.takeWhile_sublist parB (l := r)).length_le
    have ld := (List.takeWhile_sublist digB (l := r)).length_le
    rw [List.cons_append]
    unfold fst at h ⊢
    simp only at h ⊢
    by_cases h39 : c = 39
    · rw [if_pos h39] at h ⊢
      cases hq : qscan r with
      | none => rw [hq] at h; cases h
      | some y =>
        obtain ⟨y1, y2⟩ := y
        rw [hq] at h
        rw [qscan_app _ r y1 y2 b (Nat.le_refl _) hq (fun _ => hb.q)]
        simp only at h ⊢
        split at h
        · rename_i hm
          rw [if_pos hm]
          simp only [Option.some.injEq, Prod.mk.injEq] at h
          rw [← h.1, ← h.2]
          simp
          omega
        · cases h
    · rw [if_neg h39] at h ⊢
      rw [hp, hd]
      by_cases hl : letB c = true
      · rw [if_pos hl] at h ⊢
        split at h
        · rename_i hz
          rw [if_pos hz]
          simp only [Option.some.injEq, Prod.mk.injEq] at h
          rw [← h.1, ← h.2]
          have e : (c :: (r ++ b)).take (1 + (r.takeWhile parB).length) = (c :: r).take (1 + (r.takeWhile parB).length) := by
            rw [← List.cons_append, List.take_append_of_le_length (by simp; omega)]
          rw [e]
        · cases h
      · rw [if_neg hl] at h ⊢
        by_cases hg : digB c = true
        · rw [if_pos hg] at h ⊢
          split at h
          · rename_i hz
            rw [if_pos hz]
            simp only [Option.some.injEq, Prod.mk.injEq] at h
            rw [← h.1, ← h.2]
            have e : (c :: (r ++ b)).take (1 + (r.takeWhile digB).length) = (c :: r).take (1 + (r.takeWhile digB).length) := by
              rw [← List.cons_append, List.take_append_of_le_length (by simp; omega)]
            rw [e]
          · cases h
        · rw [if_neg hg] at h ⊢
          exact h
theorem fst_none_app {x b : List UInt8} (hx : x ≠ []) (h : fst x = none) (hb : ∀ c ∈ b, blankB c = true) : fst (x ++ b) = none := by
  have ha : After b := fun c hc => hb c (List.mem_of_mem_head? hc)
  have hq39 : ∀ c ∈ b, c ≠ 39 := fun c hc e => by subst e; exact absurd (hb 39 hc) (by decide)
  cases x with
  | nil => exact absurd rfl hx
  | cons c r =>
    have hp := tw_app (q := parB) r (ha.no parB par_32.1 par_32.2)
    have hd := tw_app (q := digB) r (ha.no digB dig_32.1 dig_32.2)
    rw [List.cons_append]
    unfold fst at h ⊢
    simp only at h ⊢
    by_cases h39 : c = 39
    · rw [if_pos h39] at h ⊢
      cases hq : qscan r with
      | none => rw [qscan_none_app _ r b (Nat.le_refl _) hq39 hq]
      | some y =>
        obtain ⟨y1, y2⟩ := y
        rw [hq] at h
        rw [qscan_app _ r y1 y2 b (Nat.le_refl _) hq (fun _ => ha.q)]
        simp only at h ⊢
        split at h
        · cases h
        · rename_i hm; rw [if_neg hm]
    · rw [if_neg h39] at h ⊢
      rw [hp, hd]
      by_cases hl : letB c = true
      · rw [if_pos hl] at h ⊢
        split at h
        · cases h
        · rename_i hz; rw [if_neg hz]
      · rw [if_neg hl] at h ⊢
        by_cases hg : digB c = true
        · rw [if_pos hg] at h ⊢
          split at h
          · cases h
          · rename_i hz; rw [if_neg hz]
        · rw [if_neg hg] at h ⊢
          exact h
theorem skip_app_of {s : List UInt8} (b : List UInt8) (h : skip s ≠ []) : skip (s ++ b) = skip s ++ b := by
  unfold skip at *
  induction s with
  | nil => exact absurd rfl h
  | cons c s ih =>
    rw [List.cons_append, List.dropWhile_cons, List.dropWhile_cons]
    rw [List.dropWhile_cons] at h
    split
    · rename_i hc; rw [if_pos hc] at h; exact ih h
    · rfl
theorem skip_app_nil {s : List UInt8} (b : List UInt8) (h : skip s = []) : skip (s ++ b) = skip b := by
  unfold skip at *
  induction s with
  | nil => rfl
  | cons c s ih =>
    rw [List.cons_append, List.dropWhile_cons]
    rw [List.dropWhile_cons] at h
    split
    · rename_i hc; rw [if_pos hc] at h; exact ih h
    · rename_i hc; rw [if_neg hc] at h; cases h
theorem skip_blank {b : List UInt8} (hb : ∀ c ∈ b, blankB c = true) : skip b = [] := by
  induction b with
  | nil => rfl
  | cons c b ih =>
    unfold skip
    rw [List.dropWhile_cons, if_pos (hb c List.mem_cons_self)]
    exact ih fun d hd => hb d (List.mem_cons_of_mem _ hd)
theorem cut_front {b : List UInt8} (hb : ∀ c ∈ b, blankB c = true) (s : List UInt8) : cut (b ++ s) = cut s := by
  rw [← cut_skip (b ++ s), skip_app_nil s (skip_blank hb), cut_skip]
theorem cut_app : ∀ (k : Nat) (s : List UInt8), s.length ≤ k → ∀ (a : List Tk) (z : List UInt8), cut s = some a → After z → cut (s ++ z) = (cut z).map (a ++ ·)
  | k, s, hk, a, z, h, hz => by
    cases hf : fst (skip s) with
    | none =>
      by_cases hn : skip s = []
      · rw [cut_end hn] at h
        obtain rfl := Option.some.inj h
        rw [← cut_skip (s ++ z), skip_app_nil z hn, cut_skip]
        cases cut z <;> rfl
      · rw [cut_none hf hn] at h; cases h
    | some y =>
      obtain ⟨t, n⟩ := y
      obtain ⟨p1, p2⟩ := fst_pos hf
      have hsk := skip_len s
      have hn : skip s ≠ [] := fun e => by rw [e] at hf; cases hf
      rw [cut_more hf] at h
      cases hr : cut ((skip s).drop n) with
      | none => rw [hr] at h; cases h
      | some a' =>
        rw [hr] at h
        obtain rfl := Option.some.inj h
        have e := skip_app_of z hn
        have hf' : fst (skip (s ++ z)) = some (t, n) := by rw [e]; exact fst_app hf hz
        rw [cut_more hf', e, List.drop_append_of_le_length p2]
        cases k with
        | zero => omega
        | succ k =>
          rw [cut_app k ((skip s).drop n) (by rw [List.length_drop]; omega) a' z hr hz]
          cases cut z <;> simp
theorem cut_app_none : ∀ (k : Nat) (s : List UInt8), s.length ≤ k → ∀ (b : List UInt8), cut s = none → (∀ c ∈ b, blankB c = true) → cut (s ++ b) = none
  | k, s, hk, b, h, hb => by
    have ha : After b := fun c hc => hb c (List.mem_of_mem_head? hc)
    cases hf : fst (skip s) with
    | none =>
      by_cases hn : skip s = []
      · rw [cut_end hn] at h; cases h
      · have e := skip_app_of b hn
        exact cut_none (by rw [e]; exact fst_none_app hn hf hb) (by rw [e]; simp [hn])
    | some y =>
      obtain ⟨t, n⟩ := y
      obtain ⟨p1, p2⟩ := fst_pos hf
      have hsk := skip_len s
      have hn : skip s ≠ [] := fun e => by rw [e] at hf; cases hf
      rw [cut_more hf] at h
      have hr : cut ((skip s).drop n) = none := by
        cases hr : cut ((skip s).drop n) with
        | none => rfl
        | some a' => rw [hr] at h; cases h
      have e := skip_app_of b hn
      have hf' : fst (skip (s ++ b)) = some (t, n) := by rw [e]; exact fst_app hf ha
      rw [cut_more hf', e, List.drop_append_of_le_length p2]
      cases k with
      | zero => omega
      | succ k =>
        rw [cut_app_none k ((skip s).drop n) (by rw [List.length_drop]; omega) b hr hb]
        rfl
/-- Blanks at either end change nothing. -/
theorem cut_ends {b : List UInt8} (hb : ∀ c ∈ b, blankB c = true) (s : List UInt8) : cut (b ++ s ++ b) = cut s := by
  rw [List.append_assoc, cut_front hb]
  cases h : cut s with
  | none => exact cut_app_none _ s (Nat.le_refl _) b h hb
  | some a =>
    rw [cut_app _ s (Nat.le_refl _) a b h (fun c hc => hb c (List.mem_of_mem_head? hc)), cut_end (skip_blank hb)]
    simp
theorem cut_between {b s t : List UInt8} {x y : List Tk} (hb : ∀ c ∈ b, blankB c = true) (hne : b ≠ []) (hs : cut s = some x) (ht : cut t = some y) : cut (s ++ b ++ t) = some (x ++ y) := by
  rw [List.append_assoc, cut_app _ s (Nat.le_refl _) x (b ++ t) hs (fun c hc => by
    cases b with
    | nil => exact absurd rfl hne
    | cons d b => exact hb c (by simp at hc; rw [hc]; exact List.mem_cons_self)), cut_front hb, ht]
  rfl

theorem kmay_form {p q : UInt8 → Bool} {m : Nat} {l : List UInt8} (h : kmay p q m l = true) : ∃ c r, l = c :: r ∧ p c = true ∧ r.takeWhile q = r ∧ 1 + r.length ≤ m := by
  unfold kmay at h
  cases l with
  | nil => simp at h
  | cons c r =>
    rw [Bool.and_eq_true, Bool.and_eq_true, decide_eq_true_eq, decide_eq_true_eq] at h
    obtain ⟨_, h1, h2⟩ := h
    cases hp : p c with
    | false => rw [tog_zero hp] at h2; simp at h2
    | true =>
      rw [tog_on hp] at h2
      simp only [List.length_cons] at h1 h2
      refine ⟨c, r, rfl, hp, ?_, by omega⟩
      exact (List.takeWhile_prefix q).eq_of_length (by omega)
/-- A token that may be, as it is written, is the first token of what begins so. -/
theorem fst_tk {t : Tk} (h : t.may = true) {r : List UInt8} (hr : After r) : fst (tkO t ++ r) = some (t, (tkO t).length) ∧ ∃ c l, tkO t = c :: l ∧ blankB c = false := by
  have key : fst (tkO t) = some (t, (tkO t).length) ∧ ∃ c l, tkO t = c :: l ∧ blankB c = false := by
    obtain ⟨k, s⟩ := t
    unfold Tk.may tmayB at h
    simp only at h
    unfold tkO
    simp only
    by_cases h3 : k = 3
    · subst h3
      rw [if_pos rfl] at h ⊢
      refine ⟨?_, 39, _, rfl, by decide⟩
      have := qscan_dbl s [] (by simp)
      simp only [fst, if_true]
      rw [this]
      simp only
      rw [if_pos h]
      simp
    · rw [if_neg h3] at h ⊢
      by_cases h1 : k = 1
      · rw [if_pos h1] at h
        obtain ⟨c, l, e, hp, hq, hm⟩ := kmay_form h
        have e : s = c :: l := by simpa using e
        subst e
        have hc39 : c ≠ 39 := fun e => by subst e; exact absurd hp (by decide)
        refine ⟨?_, c, l, rfl, ?_⟩
        · simp only [fst]
          rw [if_neg hc39, if_pos hp, hq, if_pos hm, h1, List.take_of_length_le (by simp; omega)]
          simp
          omega
        · cases hb : blankB c with
          | false => rfl
          | true => rcases blank_is hb with rfl | rfl <;> exact absurd hp (by decide)
      · rw [if_neg h1] at h
        by_cases h2 : k = 2
        · rw [if_pos h2] at h
          obtain ⟨c, l, e, hp, hq, hm⟩ := kmay_form h
          have e : s = c :: l := by simpa using e
          subst e
          have hc39 : c ≠ 39 := fun e => by subst e; exact absurd hp (by decide)
          have hlet : ¬ letB c = true := fun e => by rw [let_not e] at hp; cases hp
          refine ⟨?_, c, l, rfl, ?_⟩
          · simp only [fst]
            rw [if_neg hc39, if_neg hlet, if_pos hp, hq, if_pos hm, h2, List.take_of_length_le (by simp; omega)]
            simp
            omega
          · cases hb : blankB c with
            | false => rfl
            | true => rcases blank_is hb with rfl | rfl <;> exact absurd hp (by decide)
        · rw [if_neg h2] at h
          by_cases h4 : k = 4
          · rw [if_pos h4] at h
            obtain ⟨c, l, e, hp, hq, hm⟩ := kmay_form h
            have e : s = c :: l := by simpa using e
            have hl : l = [] := List.length_eq_zero_iff.1 (by omega)
            subst hl
            subst e
            have hc39 : c ≠ 39 := fun e => by subst e; exact absurd hp (by decide)
            obtain ⟨n1, n2⟩ := sig_not hp
            refine ⟨?_, c, [], rfl, ?_⟩
            · simp only [fst]
              rw [if_neg hc39, n1, n2, hp, h4]
              rfl
            · cases hb : blankB c with
              | false => rfl
              | true => rcases blank_is hb with rfl | rfl <;> exact absurd hp (by decide)
          · rw [if_neg h4] at h; cases h
  exact ⟨fst_app key.1 hr, key.2⟩
theorem skip_tk {t : Tk} (h : t.may = true) (r : List UInt8) : skip (tkO t ++ r) = tkO t ++ r := by
  obtain ⟨_, c, l, e, hb⟩ := fst_tk h (r := []) After.nil
  rw [e, List.cons_append]
  unfold skip
  rw [List.dropWhile_cons, hb]
  rfl
theorem cut_tk {t : Tk} (h : t.may = true) {r : List UInt8} (hr : After r) : cut (tkO t ++ r) = (cut r).map (t :: ·) := by
  rw [cut_more (l := tkO t ++ r) (by rw [skip_tk h]; exact (fst_tk h hr).1), skip_tk h, List.drop_left]
/-- Tokens as they are written. -/
def joinO : List Tk → List UInt8
  | [] => []
  | [t] => tkO t
  | t :: u :: l => tkO t ++ 32 :: joinO (u :: l)
theorem cut_join : ∀ l : List Tk, (∀ t ∈ l, t.may = true) → cut (joinO l) = some l
  | [], _ => cut_end rfl
  | [t], h => by
    have := cut_tk (h t List.mem_cons_self) After.nil
    rw [List.append_nil, cut_end (l := []) rfl] at this
    exact this
  | t :: u :: l, h => by
    rw [joinO, cut_tk (h t List.mem_cons_self) (After.cons (by decide) _)]
    have e : cut (32 :: joinO (u :: l)) = cut (joinO (u :: l)) := cut_front (b := [32]) (by decide) _
    rw [e, cut_join (u :: l) fun x hx => h x (List.mem_cons_of_mem _ hx)]
    rfl
/-- What a text is cut into may be. -/
theorem fst_may {l : List UInt8} {t : Tk} {n : Nat} (h : fst l = some (t, n)) : t.may = true := by
  cases l with
  | nil => cases h
  | cons c r =>
    unfold fst at h
    simp only at h
    have hk : ∀ (p q : UInt8 → Bool) (m : Nat), p c = true → 1 + (r.takeWhile q).length ≤ m → kmay p q m ((c :: r).take (1 + (r.takeWhile q).length)) = true := by
      intro p q m hp hm
      have := kmay_take p q m (c :: r)
      rw [tog_on hp] at this
      rw [this, decide_eq_true hm]
      simp
    split at h
    · cases hq : qscan r with
      | none => rw [hq] at h; cases h
      | some y =>
        rw [hq] at h
        simp only at h
        split at h
        · rename_i hm
          simp only [Option.some.injEq, Prod.mk.injEq] at h
          rw [← h.1]
          exact hm
        · cases h
    · split at h
      · rename_i hp
        split at h
        · rename_i hm
          simp only [Option.some.injEq, Prod.mk.injEq] at h
          rw [← h.1]
          exact hk letB parB 16 hp hm
        · cases h
      · split at h
        · rename_i hp
          split at h
          · rename_i hm
            simp only [Option.some.injEq, Prod.mk.injEq] at h
            rw [← h.1]
            exact hk digB digB 19 hp hm
          · cases h
        · split at h
          · rename_i hp
            simp only [Option.some.injEq, Prod.mk.injEq] at h
            rw [← h.1]
            have := hk sigB nonB 1 hp (by rw [none_none]; simp)
            rw [none_none] at this
            exact this
          · cases h
theorem cut_may : ∀ (k : Nat) (s : List UInt8), s.length ≤ k → ∀ ts : List Tk, cut s = some ts → ∀ t ∈ ts, t.may = true
  | k, s, hk, ts, h => by
    cases hf : fst (skip s) with
    | none =>
      by_cases hn : skip s = []
      · rw [cut_end hn] at h
        obtain rfl := Option.some.inj h
        intro t ht; cases ht
      · rw [cut_none hf hn] at h; cases h
    | some y =>
      obtain ⟨t, n⟩ := y
      obtain ⟨p1, p2⟩ := fst_pos hf
      have hsk := skip_len s
      rw [cut_more hf] at h
      cases hr : cut ((skip s).drop n) with
      | none => rw [hr] at h; cases h
      | some a' =>
        rw [hr] at h
        obtain rfl := Option.some.inj h
        cases k with
        | zero => omega
        | succ k =>
          intro u hu
          rcases List.mem_cons.1 hu with rfl | hu
          · exact fst_may hf
          · exact cut_may k ((skip s).drop n) (by rw [List.length_drop]; omega) a' hr u hu
end Go.Proofs.YtnahejljelbbgaaGreatDoor
