import Derived.Test.YtlilnbcklplmfaaGreatDoorW14

/- What Parse gives for a text of a right. -/
namespace Go.Proofs.YtlilnbcklplmfaaGreatDoor
open Go.RowKit Go.Lib

theorem tk_size {t : Tk} (h : t.may = true) : (tnOf t).s.size ≤ 1000 := by
  have e : (tnOf t).s.size = t.s.length := by simp [tnOf, Lib.size_eq]
  rw [e]
  unfold Tk.may tmayB at h
  split at h
  · unfold mayB at h
    simp [Lib.size_eq] at h
    omega
  · split at h
    · obtain ⟨c, r, e1, _, _, e2⟩ := kmay_form h
      simp at e1
      rw [e1]; simp; omega
    · split at h
      · obtain ⟨c, r, e1, _, _, e2⟩ := kmay_form h
        simp at e1
        rw [e1]; simp; omega
      · split at h
        · obtain ⟨c, r, e1, _, _, e2⟩ := kmay_form h
          simp at e1
          rw [e1]; simp; omega
        · cases h
theorem nm_may {n : ByteArray} (h : nmB n = true) : Tk.may ⟨1, n.data.toList⟩ = true := by
  unfold nmB at h
  have h1 := (Bool.and_eq_true _ _ ▸ h).1
  unfold nameB at h1
  unfold Tk.may tmayB
  rw [if_neg (show ¬ (1 : Int) = 3 by decide), if_pos rfl]
  simpa using h1
theorem nm_is {n : ByteArray} (h : nmB n = true) : isNm (tnOf ⟨1, n.data.toList⟩) = true := by
  unfold isNm tnOf
  simpa using h
theorem cut_name {n : ByteArray} (h : nmB n = true) : cut n.data.toList = some [⟨1, n.data.toList⟩] := by
  have h1 := cut_tk (nm_may h) (r := []) (by intro c hc; cases hc)
  have e : tkO ⟨1, n.data.toList⟩ = n.data.toList := by unfold tkO; rw [if_neg (show ¬ (1 : Int) = 3 by decide)]
  rw [e, List.append_nil, cut_end (l := []) rfl] at h1
  exact h1
theorem two_names {n1 n2 : ByteArray} (h1 : nmB n1 = true) (h2 : nmB n2 = true) : Two n1.data.toList n2.data.toList ⟨1, n1.data.toList⟩ ⟨1, n2.data.toList⟩ := ⟨cut_name h1, cut_name h2, nm_is h1, nm_is h2⟩
theorem nm_of {t : Tk} (h : isNm (tnOf t) = true) : nmOf (tnOf t) = ⟨t.s.toArray⟩ := by unfold nmOf; rw [if_pos h]; rfl

theorem list_read (tb ro : ByteArray) : (⟨#[71, 82, 65, 78, 84, 32, 82, 69, 65, 68, 32, 79, 78, 32]⟩ ++ tb ++ ⟨#[32, 84, 79, 32]⟩ ++ ro).data.toList = [71, 82, 65, 78, 84] ++ 32 :: ([82, 69, 65, 68] ++ 32 :: ([79, 78] ++ 32 :: (tb.data.toList ++ 32 :: ([84, 79] ++ 32 :: ro.data.toList)))) := by
  simp [ByteArray.data_append]
theorem cut_read (tb ro : ByteArray) : cut (⟨#[71, 82, 65, 78, 84, 32, 82, 69, 65, 68, 32, 79, 78, 32]⟩ ++ tb ++ ⟨#[32, 84, 79, 32]⟩ ++ ro).data.toList = (cut (tb.data.toList ++ 32 :: ([84, 79] ++ 32 :: ro.data.toList))).map (fun z => (⟨1, [71, 82, 65, 78, 84]⟩ : Tk) :: ⟨1, [82, 69, 65, 68]⟩ :: ⟨1, [79, 78]⟩ :: z) := by
  rw [list_read, cut_word (by decide), cut_word (by decide), cut_word (by decide)]
  cases cut (tb.data.toList ++ 32 :: ([84, 79] ++ 32 :: ro.data.toList)) <;> rfl
theorem parsed_read (tb ro : ByteArray) (w : World) (h1 : tb.size ≤ 1000) (h2 : ro.size ≤ 1000) (hl : LibE w) :
    Calls Tryz.prog 7 #[.string (⟨#[71, 82, 65, 78, 84, 32, 82, 69, 65, 68, 32, 79, 78, 32]⟩ ++ tb ++ ⟨#[32, 84, 79, 32]⟩ ++ ro)] w fun e w' => ((∃ a b, Two tb.data.toList ro.data.toList a b ∧ e = .returned (.tuple #[.agg (rtC ⟨#[114, 101, 97, 100]⟩ ⟨a.s.toArray⟩ ⟨b.s.toArray⟩), .int .i64 0])) ∨ ((¬ ∃ a b, Two tb.data.toList ro.data.toList a b) ∧ e = .returned (.tuple #[.agg #[.string ⟨#[]⟩, .string ⟨#[]⟩, .string ⟨#[]⟩, .slice none 0 0, .slice none 0 0, .string ⟨#[]⟩, .slice none 0 0, .slice none 0 0, .string ⟨#[]⟩, .int .i64 0, .int .i64 0, .string ⟨#[]⟩, .string ⟨#[]⟩, .slice none 0 0, .slice none 0 0, .slice none 0 0, .string ⟨#[]⟩, .int .i64 0, .int .i64 0, .string ⟨#[]⟩, .string ⟨#[]⟩, .slice none 0 0, .string ⟨#[]⟩], .int .i64 2]))) ∧ Below w.heap.size w w' := by
  have hm : Tk.may ⟨1, [84, 79]⟩ = true := by decide
  have hr : isNm (tnOf ⟨1, [84, 79]⟩) = false := by kernel_rfl
  have hon : isB (tnOf ⟨1, [79, 78]⟩) ⟨#[79, 78]⟩ = true := by kernel_rfl
  have hmm : isB (tnOf ⟨1, [84, 79]⟩) ⟨#[84, 79]⟩ = true := by kernel_rfl
  have hs : (⟨#[71, 82, 65, 78, 84, 32, 82, 69, 65, 68, 32, 79, 78, 32]⟩ ++ tb ++ ⟨#[32, 84, 79, 32]⟩ ++ ro).size ≤ 100000 := by simp only [ByteArray.size_append]; have e1 : (⟨#[71, 82, 65, 78, 84, 32, 82, 69, 65, 68, 32, 79, 78, 32]⟩ : ByteArray).size = 14 := rfl; have e2 : (⟨#[32, 84, 79, 32]⟩ : ByteArray).size = 4 := rfl; omega
  have hcut : ∀ n1 n2 : ByteArray, nmB n1 = true → nmB n2 = true → n1.size ≤ 1000 → n2.size ≤ 1000 → ∃ ts, cutR (⟨#[71, 82, 65, 78, 84, 32, 82, 69, 65, 68, 32, 79, 78, 32]⟩ ++ n1 ++ ⟨#[32, 84, 79, 32]⟩ ++ n2).data.toList = some ts := fun n1 n2 g1 g2 _ _ =>
    ⟨_, cutR_some ((cut_read n1 n2).trans (by rw [two_yes hm (two_names g1 g2)]; rfl)) (by simp)⟩
  cases hc : cutR (⟨#[71, 82, 65, 78, 84, 32, 82, 69, 65, 68, 32, 79, 78, 32]⟩ ++ tb ++ ⟨#[32, 84, 79, 32]⟩ ++ ro).data.toList with
  | none =>
    refine (sparse_no _ w hs hl hc).mono fun e w' ⟨he, hb⟩ => ⟨.inr ⟨?_, he⟩, hb⟩
    rintro ⟨a, b, h⟩
    rw [cutR_some ((cut_read tb ro).trans (by rw [two_yes hm h]; rfl)) (by simp)] at hc
    cases hc
  | some ts =>
    obtain ⟨hct, hlen⟩ := cutR_get hc
    have hsz : ∀ t ∈ ts.map tnOf, t.s.size ≤ 1000 := by
      intro t ht
      obtain ⟨u, hu, rfl⟩ := List.mem_map.1 ht
      exact tk_size (cut_may _ _ (Nat.le_refl _) _ hct u hu)
    have hct' := (cut_read tb ro).symm.trans hct
    cases hz : cut (tb.data.toList ++ 32 :: ([84, 79] ++ 32 :: ro.data.toList)) with
    | none => rw [hz] at hct'; cases hct'
    | some z =>
      rw [hz] at hct'
      obtain rfl : (⟨1, [71, 82, 65, 78, 84]⟩ : Tk) :: ⟨1, [82, 69, 65, 68]⟩ :: ⟨1, [79, 78]⟩ :: z = ts := Option.some.inj hct'
      have hp := sparse_read _ w hs hl _ hc (by omega) hsz rfl rfl hcut
      by_cases hq : ∃ a b, Two tb.data.toList ro.data.toList a b
      · obtain ⟨a, b, h⟩ := hq
        rw [two_yes hm h] at hz
        obtain rfl := Option.some.inj hz
        have k := acc_of (m := ⟨#[84, 79]⟩) (t0 := ⟨1, [71, 82, 65, 78, 84]⟩) (t1 := ⟨1, [82, 69, 65, 68]⟩) hon h.2.2.1 hmm h.2.2.2
        have k1 := k.1
        unfold Acc at k1
        rw [if_pos k1, k.2.1, k.2.2, nm_of h.2.2.1, nm_of h.2.2.2] at hp
        exact hp.mono fun e w' ⟨he, hb⟩ => ⟨.inl ⟨a, b, h, he⟩, hb⟩
      · have k := two_no (t0 := ⟨1, [71, 82, 65, 78, 84]⟩) (t1 := ⟨1, [82, 69, 65, 68]⟩) hm hr hq hon hz
        unfold Acc at k
        rw [if_neg k] at hp
        exact hp.mono fun e w' ⟨he, hb⟩ => ⟨.inr ⟨hq, he⟩, hb⟩
theorem list_write (tb ro : ByteArray) : (⟨#[71, 82, 65, 78, 84, 32, 87, 82, 73, 84, 69, 32, 79, 78, 32]⟩ ++ tb ++ ⟨#[32, 84, 79, 32]⟩ ++ ro).data.toList = [71, 82, 65, 78, 84] ++ 32 :: ([87, 82, 73, 84, 69] ++ 32 :: ([79, 78] ++ 32 :: (tb.data.toList ++ 32 :: ([84, 79] ++ 32 :: ro.data.toList)))) := by
  simp [ByteArray.data_append]
theorem cut_write (tb ro : ByteArray) : cut (⟨#[71, 82, 65, 78, 84, 32, 87, 82, 73, 84, 69, 32, 79, 78, 32]⟩ ++ tb ++ ⟨#[32, 84, 79, 32]⟩ ++ ro).data.toList = (cut (tb.data.toList ++ 32 :: ([84, 79] ++ 32 :: ro.data.toList))).map (fun z => (⟨1, [71, 82, 65, 78, 84]⟩ : Tk) :: ⟨1, [87, 82, 73, 84, 69]⟩ :: ⟨1, [79, 78]⟩ :: z) := by
  rw [list_write, cut_word (by decide), cut_word (by decide), cut_word (by decide)]
  cases cut (tb.data.toList ++ 32 :: ([84, 79] ++ 32 :: ro.data.toList)) <;> rfl
theorem parsed_write (tb ro : ByteArray) (w : World) (h1 : tb.size ≤ 1000) (h2 : ro.size ≤ 1000) (hl : LibE w) :
    Calls Tryz.prog 7 #[.string (⟨#[71, 82, 65, 78, 84, 32, 87, 82, 73, 84, 69, 32, 79, 78, 32]⟩ ++ tb ++ ⟨#[32, 84, 79, 32]⟩ ++ ro)] w fun e w' => ((∃ a b, Two tb.data.toList ro.data.toList a b ∧ e = .returned (.tuple #[.agg (rtC ⟨#[119, 114, 105, 116, 101]⟩ ⟨a.s.toArray⟩ ⟨b.s.toArray⟩), .int .i64 0])) ∨ ((¬ ∃ a b, Two tb.data.toList ro.data.toList a b) ∧ e = .returned (.tuple #[.agg #[.string ⟨#[]⟩, .string ⟨#[]⟩, .string ⟨#[]⟩, .slice none 0 0, .slice none 0 0, .string ⟨#[]⟩, .slice none 0 0, .slice none 0 0, .string ⟨#[]⟩, .int .i64 0, .int .i64 0, .string ⟨#[]⟩, .string ⟨#[]⟩, .slice none 0 0, .slice none 0 0, .slice none 0 0, .string ⟨#[]⟩, .int .i64 0, .int .i64 0, .string ⟨#[]⟩, .string ⟨#[]⟩, .slice none 0 0, .string ⟨#[]⟩], .int .i64 2]))) ∧ Below w.heap.size w w' := by
  have hm : Tk.may ⟨1, [84, 79]⟩ = true := by decide
  have hr : isNm (tnOf ⟨1, [84, 79]⟩) = false := by kernel_rfl
  have hon : isB (tnOf ⟨1, [79, 78]⟩) ⟨#[79, 78]⟩ = true := by kernel_rfl
  have hmm : isB (tnOf ⟨1, [84, 79]⟩) ⟨#[84, 79]⟩ = true := by kernel_rfl
  have hs : (⟨#[71, 82, 65, 78, 84, 32, 87, 82, 73, 84, 69, 32, 79, 78, 32]⟩ ++ tb ++ ⟨#[32, 84, 79, 32]⟩ ++ ro).size ≤ 100000 := by simp only [ByteArray.size_append]; have e1 : (⟨#[71, 82, 65, 78, 84, 32, 87, 82, 73, 84, 69, 32, 79, 78, 32]⟩ : ByteArray).size = 15 := rfl; have e2 : (⟨#[32, 84, 79, 32]⟩ : ByteArray).size = 4 := rfl; omega
  have hcut : ∀ n1 n2 : ByteArray, nmB n1 = true → nmB n2 = true → n1.size ≤ 1000 → n2.size ≤ 1000 → ∃ ts, cutR (⟨#[71, 82, 65, 78, 84, 32, 87, 82, 73, 84, 69, 32, 79, 78, 32]⟩ ++ n1 ++ ⟨#[32, 84, 79, 32]⟩ ++ n2).data.toList = some ts := fun n1 n2 g1 g2 _ _ =>
    ⟨_, cutR_some ((cut_write n1 n2).trans (by rw [two_yes hm (two_names g1 g2)]; rfl)) (by simp)⟩
  cases hc : cutR (⟨#[71, 82, 65, 78, 84, 32, 87, 82, 73, 84, 69, 32, 79, 78, 32]⟩ ++ tb ++ ⟨#[32, 84, 79, 32]⟩ ++ ro).data.toList with
  | none =>
    refine (sparse_no _ w hs hl hc).mono fun e w' ⟨he, hb⟩ => ⟨.inr ⟨?_, he⟩, hb⟩
    rintro ⟨a, b, h⟩
    rw [cutR_some ((cut_write tb ro).trans (by rw [two_yes hm h]; rfl)) (by simp)] at hc
    cases hc
  | some ts =>
    obtain ⟨hct, hlen⟩ := cutR_get hc
    have hsz : ∀ t ∈ ts.map tnOf, t.s.size ≤ 1000 := by
      intro t ht
      obtain ⟨u, hu, rfl⟩ := List.mem_map.1 ht
      exact tk_size (cut_may _ _ (Nat.le_refl _) _ hct u hu)
    have hct' := (cut_write tb ro).symm.trans hct
    cases hz : cut (tb.data.toList ++ 32 :: ([84, 79] ++ 32 :: ro.data.toList)) with
    | none => rw [hz] at hct'; cases hct'
    | some z =>
      rw [hz] at hct'
      obtain rfl : (⟨1, [71, 82, 65, 78, 84]⟩ : Tk) :: ⟨1, [87, 82, 73, 84, 69]⟩ :: ⟨1, [79, 78]⟩ :: z = ts := Option.some.inj hct'
      have hp := sparse_write _ w hs hl _ hc (by omega) hsz rfl rfl hcut
      by_cases hq : ∃ a b, Two tb.data.toList ro.data.toList a b
      · obtain ⟨a, b, h⟩ := hq
        rw [two_yes hm h] at hz
        obtain rfl := Option.some.inj hz
        have k := acc_of (m := ⟨#[84, 79]⟩) (t0 := ⟨1, [71, 82, 65, 78, 84]⟩) (t1 := ⟨1, [87, 82, 73, 84, 69]⟩) hon h.2.2.1 hmm h.2.2.2
        have k1 := k.1
        unfold Acc at k1
        rw [if_pos k1, k.2.1, k.2.2, nm_of h.2.2.1, nm_of h.2.2.2] at hp
        exact hp.mono fun e w' ⟨he, hb⟩ => ⟨.inl ⟨a, b, h, he⟩, hb⟩
      · have k := two_no (t0 := ⟨1, [71, 82, 65, 78, 84]⟩) (t1 := ⟨1, [87, 82, 73, 84, 69]⟩) hm hr hq hon hz
        unfold Acc at k
        rw [if_neg k] at hp
        exact hp.mono fun e w' ⟨he, hb⟩ => ⟨.inr ⟨hq, he⟩, hb⟩
theorem list_unread (tb ro : ByteArray) : (⟨#[82, 69, 86, 79, 75, 69, 32, 82, 69, 65, 68, 32, 79, 78, 32]⟩ ++ tb ++ ⟨#[32, 70, 82, 79, 77, 32]⟩ ++ ro).data.toList = [82, 69, 86, 79, 75, 69] ++ 32 :: ([82, 69, 65, 68] ++ 32 :: ([79, 78] ++ 32 :: (tb.data.toList ++ 32 :: ([70, 82, 79, 77] ++ 32 :: ro.data.toList)))) := by
  simp [ByteArray.data_append]
theorem cut_unread (tb ro : ByteArray) : cut (⟨#[82, 69, 86, 79, 75, 69, 32, 82, 69, 65, 68, 32, 79, 78, 32]⟩ ++ tb ++ ⟨#[32, 70, 82, 79, 77, 32]⟩ ++ ro).data.toList = (cut (tb.data.toList ++ 32 :: ([70, 82, 79, 77] ++ 32 :: ro.data.toList))).map (fun z => (⟨1, [82, 69, 86, 79, 75, 69]⟩ : Tk) :: ⟨1, [82, 69, 65, 68]⟩ :: ⟨1, [79, 78]⟩ :: z) := by
  rw [list_unread, cut_word (by decide), cut_word (by decide), cut_word (by decide)]
  cases cut (tb.data.toList ++ 32 :: ([70, 82, 79, 77] ++ 32 :: ro.data.toList)) <;> rfl
theorem parsed_unread (tb ro : ByteArray) (w : World) (h1 : tb.size ≤ 1000) (h2 : ro.size ≤ 1000) (hl : LibE w) :
    Calls Tryz.prog 7 #[.string (⟨#[82, 69, 86, 79, 75, 69, 32, 82, 69, 65, 68, 32, 79, 78, 32]⟩ ++ tb ++ ⟨#[32, 70, 82, 79, 77, 32]⟩ ++ ro)] w fun e w' => ((∃ a b, Two tb.data.toList ro.data.toList a b ∧ e = .returned (.tuple #[.agg (rtC ⟨#[117, 110, 114, 101, 97, 100]⟩ ⟨a.s.toArray⟩ ⟨b.s.toArray⟩), .int .i64 0])) ∨ ((¬ ∃ a b, Two tb.data.toList ro.data.toList a b) ∧ e = .returned (.tuple #[.agg #[.string ⟨#[]⟩, .string ⟨#[]⟩, .string ⟨#[]⟩, .slice none 0 0, .slice none 0 0, .string ⟨#[]⟩, .slice none 0 0, .slice none 0 0, .string ⟨#[]⟩, .int .i64 0, .int .i64 0, .string ⟨#[]⟩, .string ⟨#[]⟩, .slice none 0 0, .slice none 0 0, .slice none 0 0, .string ⟨#[]⟩, .int .i64 0, .int .i64 0, .string ⟨#[]⟩, .string ⟨#[]⟩, .slice none 0 0, .string ⟨#[]⟩], .int .i64 2]))) ∧ Below w.heap.size w w' := by
  have hm : Tk.may ⟨1, [70, 82, 79, 77]⟩ = true := by decide
  have hr : isNm (tnOf ⟨1, [70, 82, 79, 77]⟩) = false := by kernel_rfl
  have hon : isB (tnOf ⟨1, [79, 78]⟩) ⟨#[79, 78]⟩ = true := by kernel_rfl
  have hmm : isB (tnOf ⟨1, [70, 82, 79, 77]⟩) ⟨#[70, 82, 79, 77]⟩ = true := by kernel_rfl
  have hs : (⟨#[82, 69, 86, 79, 75, 69, 32, 82, 69, 65, 68, 32, 79, 78, 32]⟩ ++ tb ++ ⟨#[32, 70, 82, 79, 77, 32]⟩ ++ ro).size ≤ 100000 := by simp only [ByteArray.size_append]; have e1 : (⟨#[82, 69, 86, 79, 75, 69, 32, 82, 69, 65, 68, 32, 79, 78, 32]⟩ : ByteArray).size = 15 := rfl; have e2 : (⟨#[32, 70, 82, 79, 77, 32]⟩ : ByteArray).size = 6 := rfl; omega
  have hcut : ∀ n1 n2 : ByteArray, nmB n1 = true → nmB n2 = true → n1.size ≤ 1000 → n2.size ≤ 1000 → ∃ ts, cutR (⟨#[82, 69, 86, 79, 75, 69, 32, 82, 69, 65, 68, 32, 79, 78, 32]⟩ ++ n1 ++ ⟨#[32, 70, 82, 79, 77, 32]⟩ ++ n2).data.toList = some ts := fun n1 n2 g1 g2 _ _ =>
    ⟨_, cutR_some ((cut_unread n1 n2).trans (by rw [two_yes hm (two_names g1 g2)]; rfl)) (by simp)⟩
  cases hc : cutR (⟨#[82, 69, 86, 79, 75, 69, 32, 82, 69, 65, 68, 32, 79, 78, 32]⟩ ++ tb ++ ⟨#[32, 70, 82, 79, 77, 32]⟩ ++ ro).data.toList with
  | none =>
    refine (sparse_no _ w hs hl hc).mono fun e w' ⟨he, hb⟩ => ⟨.inr ⟨?_, he⟩, hb⟩
    rintro ⟨a, b, h⟩
    rw [cutR_some ((cut_unread tb ro).trans (by rw [two_yes hm h]; rfl)) (by simp)] at hc
    cases hc
  | some ts =>
    obtain ⟨hct, hlen⟩ := cutR_get hc
    have hsz : ∀ t ∈ ts.map tnOf, t.s.size ≤ 1000 := by
      intro t ht
      obtain ⟨u, hu, rfl⟩ := List.mem_map.1 ht
      exact tk_size (cut_may _ _ (Nat.le_refl _) _ hct u hu)
    have hct' := (cut_unread tb ro).symm.trans hct
    cases hz : cut (tb.data.toList ++ 32 :: ([70, 82, 79, 77] ++ 32 :: ro.data.toList)) with
    | none => rw [hz] at hct'; cases hct'
    | some z =>
      rw [hz] at hct'
      obtain rfl : (⟨1, [82, 69, 86, 79, 75, 69]⟩ : Tk) :: ⟨1, [82, 69, 65, 68]⟩ :: ⟨1, [79, 78]⟩ :: z = ts := Option.some.inj hct'
      have hp := sparse_unread _ w hs hl _ hc (by omega) hsz rfl rfl hcut
      by_cases hq : ∃ a b, Two tb.data.toList ro.data.toList a b
      · obtain ⟨a, b, h⟩ := hq
        rw [two_yes hm h] at hz
        obtain rfl := Option.some.inj hz
        have k := acc_of (m := ⟨#[70, 82, 79, 77]⟩) (t0 := ⟨1, [82, 69, 86, 79, 75, 69]⟩) (t1 := ⟨1, [82, 69, 65, 68]⟩) hon h.2.2.1 hmm h.2.2.2
        have k1 := k.1
        unfold Acc at k1
        rw [if_pos k1, k.2.1, k.2.2, nm_of h.2.2.1, nm_of h.2.2.2] at hp
        exact hp.mono fun e w' ⟨he, hb⟩ => ⟨.inl ⟨a, b, h, he⟩, hb⟩
      · have k := two_no (t0 := ⟨1, [82, 69, 86, 79, 75, 69]⟩) (t1 := ⟨1, [82, 69, 65, 68]⟩) hm hr hq hon hz
        unfold Acc at k
        rw [if_neg k] at hp
        exact hp.mono fun e w' ⟨he, hb⟩ => ⟨.inr ⟨hq, he⟩, hb⟩
theorem list_unwrite (tb ro : ByteArray) : (⟨#[82, 69, 86, 79, 75, 69, 32, 87, 82, 73, 84, 69, 32, 79, 78, 32]⟩ ++ tb ++ ⟨#[32, 70, 82, 79, 77, 32]⟩ ++ ro).data.toList = [82, 69, 86, 79, 75, 69] ++ 32 :: ([87, 82, 73, 84, 69] ++ 32 :: ([79, 78] ++ 32 :: (tb.data.toList ++ 32 :: ([70, 82, 79, 77] ++ 32 :: ro.data.toList)))) := by
  simp [ByteArray.data_append]
theorem cut_unwrite (tb ro : ByteArray) : cut (⟨#[82, 69, 86, 79, 75, 69, 32, 87, 82, 73, 84, 69, 32, 79, 78, 32]⟩ ++ tb ++ ⟨#[32, 70, 82, 79, 77, 32]⟩ ++ ro).data.toList = (cut (tb.data.toList ++ 32 :: ([70, 82, 79, 77] ++ 32 :: ro.data.toList))).map (fun z => (⟨1, [82, 69, 86, 79, 75, 69]⟩ : Tk) :: ⟨1, [87, 82, 73, 84, 69]⟩ :: ⟨1, [79, 78]⟩ :: z) := by
  rw [list_unwrite, cut_word (by decide), cut_word (by decide), cut_word (by decide)]
  cases cut (tb.data.toList ++ 32 :: ([70, 82, 79, 77] ++ 32 :: ro.data.toList)) <;> rfl
theorem parsed_unwrite (tb ro : ByteArray) (w : World) (h1 : tb.size ≤ 1000) (h2 : ro.size ≤ 1000) (hl : LibE w) :
    Calls Tryz.prog 7 #[.string (⟨#[82, 69, 86, 79, 75, 69, 32, 87, 82, 73, 84, 69, 32, 79, 78, 32]⟩ ++ tb ++ ⟨#[32, 70, 82, 79, 77, 32]⟩ ++ ro)] w fun e w' => ((∃ a b, Two tb.data.toList ro.data.toList a b ∧ e = .returned (.tuple #[.agg (rtC ⟨#[117, 110, 119, 114, 105, 116, 101]⟩ ⟨a.s.toArray⟩ ⟨b.s.toArray⟩), .int .i64 0])) ∨ ((¬ ∃ a b, Two tb.data.toList ro.data.toList a b) ∧ e = .returned (.tuple #[.agg #[.string ⟨#[]⟩, .string ⟨#[]⟩, .string ⟨#[]⟩, .slice none 0 0, .slice none 0 0, .string ⟨#[]⟩, .slice none 0 0, .slice none 0 0, .string ⟨#[]⟩, .int .i64 0, .int .i64 0, .string ⟨#[]⟩, .string ⟨#[]⟩, .slice none 0 0, .slice none 0 0, .slice none 0 0, .string ⟨#[]⟩, .int .i64 0, .int .i64 0, .string ⟨#[]⟩, .string ⟨#[]⟩, .slice none 0 0, .string ⟨#[]⟩], .int .i64 2]))) ∧ Below w.heap.size w w' := by
  have hm : Tk.may ⟨1, [70, 82, 79, 77]⟩ = true := by decide
  have hr : isNm (tnOf ⟨1, [70, 82, 79, 77]⟩) = false := by kernel_rfl
  have hon : isB (tnOf ⟨1, [79, 78]⟩) ⟨#[79, 78]⟩ = true := by kernel_rfl
  have hmm : isB (tnOf ⟨1, [70, 82, 79, 77]⟩) ⟨#[70, 82, 79, 77]⟩ = true := by kernel_rfl
  have hs : (⟨#[82, 69, 86, 79, 75, 69, 32, 87, 82, 73, 84, 69, 32, 79, 78, 32]⟩ ++ tb ++ ⟨#[32, 70, 82, 79, 77, 32]⟩ ++ ro).size ≤ 100000 := by simp only [ByteArray.size_append]; have e1 : (⟨#[82, 69, 86, 79, 75, 69, 32, 87, 82, 73, 84, 69, 32, 79, 78, 32]⟩ : ByteArray).size = 16 := rfl; have e2 : (⟨#[32, 70, 82, 79, 77, 32]⟩ : ByteArray).size = 6 := rfl; omega
  have hcut : ∀ n1 n2 : ByteArray, nmB n1 = true → nmB n2 = true → n1.size ≤ 1000 → n2.size ≤ 1000 → ∃ ts, cutR (⟨#[82, 69, 86, 79, 75, 69, 32, 87, 82, 73, 84, 69, 32, 79, 78, 32]⟩ ++ n1 ++ ⟨#[32, 70, 82, 79, 77, 32]⟩ ++ n2).data.toList = some ts := fun n1 n2 g1 g2 _ _ =>
    ⟨_, cutR_some ((cut_unwrite n1 n2).trans (by rw [two_yes hm (two_names g1 g2)]; rfl)) (by simp)⟩
  cases hc : cutR (⟨#[82, 69, 86, 79, 75, 69, 32, 87, 82, 73, 84, 69, 32, 79, 78, 32]⟩ ++ tb ++ ⟨#[32, 70, 82, 79, 77, 32]⟩ ++ ro).data.toList with
  | none =>
    refine (sparse_no _ w hs hl hc).mono fun e w' ⟨he, hb⟩ => ⟨.inr ⟨?_, he⟩, hb⟩
    rintro ⟨a, b, h⟩
    rw [cutR_some ((cut_unwrite tb ro).trans (by rw [two_yes hm h]; rfl)) (by simp)] at hc
    cases hc
  | some ts =>
    obtain ⟨hct, hlen⟩ := cutR_get hc
    have hsz : ∀ t ∈ ts.map tnOf, t.s.size ≤ 1000 := by
      intro t ht
      obtain ⟨u, hu, rfl⟩ := List.mem_map.1 ht
      exact tk_size (cut_may _ _ (Nat.le_refl _) _ hct u hu)
    have hct' := (cut_unwrite tb ro).symm.trans hct
    cases hz : cut (tb.data.toList ++ 32 :: ([70, 82, 79, 77] ++ 32 :: ro.data.toList)) with
    | none => rw [hz] at hct'; cases hct'
    | some z =>
      rw [hz] at hct'
      obtain rfl : (⟨1, [82, 69, 86, 79, 75, 69]⟩ : Tk) :: ⟨1, [87, 82, 73, 84, 69]⟩ :: ⟨1, [79, 78]⟩ :: z = ts := Option.some.inj hct'
      have hp := sparse_unwrite _ w hs hl _ hc (by omega) hsz rfl rfl hcut
      by_cases hq : ∃ a b, Two tb.data.toList ro.data.toList a b
      · obtain ⟨a, b, h⟩ := hq
        rw [two_yes hm h] at hz
        obtain rfl := Option.some.inj hz
        have k := acc_of (m := ⟨#[70, 82, 79, 77]⟩) (t0 := ⟨1, [82, 69, 86, 79, 75, 69]⟩) (t1 := ⟨1, [87, 82, 73, 84, 69]⟩) hon h.2.2.1 hmm h.2.2.2
        have k1 := k.1
        unfold Acc at k1
        rw [if_pos k1, k.2.1, k.2.2, nm_of h.2.2.1, nm_of h.2.2.2] at hp
        exact hp.mono fun e w' ⟨he, hb⟩ => ⟨.inl ⟨a, b, h, he⟩, hb⟩
      · have k := two_no (t0 := ⟨1, [82, 69, 86, 79, 75, 69]⟩) (t1 := ⟨1, [87, 82, 73, 84, 69]⟩) hm hr hq hon hz
        unfold Acc at k
        rw [if_neg k] at hp
        exact hp.mono fun e w' ⟨he, hb⟩ => ⟨.inr ⟨hq, he⟩, hb⟩
end Go.Proofs.YtlilnbcklplmfaaGreatDoor

/- The law of rights, but for the examples. -/
namespace Go.Proofs.YtlilnbcklplmfaaGreatDoor
open Go.RowKit Go.Lib

set_option maxRecDepth 100000 in
set_option maxHeartbeats 4000000 in
theorem text5_any (s : ByteArray) (w : World) (hs : s.size ≤ maxLen) : Calls Tryz.prog 6 #[.string s] w fun e w' => ∃ t, e = .returned (.string t) ∧ Hid (t.size ≤ 20) ∧ w = w' := by
  have hm : (maxLen : Int) < 2 ^ 63 := by decide
  by_cases h : s.size ≤ 20
  · have h' : ¬ (20 : Int) < (s.size : Int) := by omega
    go_enter Tryz.func6, Tryz.ntmps6
    go_wp2_with (fail)
    go_ret
    exact ⟨_, rfl, h, rfl⟩
  · have h' : (20 : Int) < (s.size : Int) := by omega
    go_enter Tryz.func6, Tryz.ntmps6
    go_wp2_with (fail)
    go_ret
    exact ⟨_, rfl, (by show _ ≤ 20; simp [ByteArray.size_extract]; omega), rfl⟩
/-- Statements in boxes behind w's blocks. -/
structure Lw (w : World) (bs : List (Nat × Array Value)) (W : World) : Prop where
  lo : Below w.heap.size w W
  at' : ∀ p ∈ bs, W.heap[p.1]? = some (.cells p.2 34 (0, 0)) ∧ w.heap.size ≤ p.1
section
variable {w W W' : World} {bs : List (Nat × Array Value)}
theorem Lw.step (h : Lw w bs W) (hb : Below W.heap.size W W') : Lw w bs W' :=
  ⟨h.lo.trans (hb.mono h.lo.size), fun p hp => ⟨(hb.block _ (lt_of_block (h.at' p hp).1)).trans (h.at' p hp).1, (h.at' p hp).2⟩⟩
theorem Lw.push (h : Lw w bs W) (cs : Array Value) : Lw w ((W.heap.size, cs) :: bs) ((W.alloc (.cells #[.string ⟨#[]⟩, .string ⟨#[]⟩, .string ⟨#[]⟩, .slice none 0 0, .slice none 0 0, .string ⟨#[]⟩, .slice none 0 0, .slice none 0 0, .string ⟨#[]⟩, .int .i64 0, .int .i64 0, .string ⟨#[]⟩, .string ⟨#[]⟩, .slice none 0 0, .slice none 0 0, .slice none 0 0, .string ⟨#[]⟩, .int .i64 0, .int .i64 0, .string ⟨#[]⟩, .string ⟨#[]⟩, .slice none 0 0, .string ⟨#[]⟩] 34)).setRow W.heap.size cs) :=
  ⟨below_row (h.lo.alloc h.lo.size _) _ h.lo.size, fun p hp => by
    rcases List.mem_cons.1 hp with rfl | hp
    · exact ⟨setRow_heap _ _ _ _ _ _ (alloc_at rfl _), h.lo.size⟩
    · have hl := lt_of_block (h.at' p hp).1
      exact ⟨(setRow_other _ _ _ _ (by omega)).trans ((Below.heap_alloc _ _ _ hl).trans (h.at' p hp).1), (h.at' p hp).2⟩⟩
end

end Go.Proofs.YtlilnbcklplmfaaGreatDoor

/- The law of rights, but for the examples: its walk. -/
namespace Go.Proofs.YtlilnbcklplmfaaGreatDoor
open Go.RowKit Go.Lib

theorem yes_read (tb ro : ByteArray) (w : World) (h1 : tb.size ≤ 1000) (h2 : ro.size ≤ 1000) (hl : LibE w) {a b : Tk} (h : Two tb.data.toList ro.data.toList a b) :
    Calls Tryz.prog 7 #[.string (⟨#[71, 82, 65, 78, 84, 32, 82, 69, 65, 68, 32, 79, 78, 32]⟩ ++ tb ++ ⟨#[32, 84, 79, 32]⟩ ++ ro)] w fun e w' => e = .returned (.tuple #[.agg #[.string ⟨#[114, 101, 97, 100]⟩, .string ⟨a.s.toArray⟩, .string ⟨#[]⟩, .slice none 0 0, .slice none 0 0, .string ⟨#[]⟩, .slice none 0 0, .slice none 0 0, .string ⟨#[]⟩, .int .i64 0, .int .i64 0, .string ⟨#[]⟩, .string ⟨#[]⟩, .slice none 0 0, .slice none 0 0, .slice none 0 0, .string ⟨#[]⟩, .int .i64 0, .int .i64 0, .string ⟨#[]⟩, .string ⟨#[]⟩, .slice none 0 0, .string ⟨b.s.toArray⟩], .int .i64 0]) ∧ Below w.heap.size w w' :=
  (parsed_read tb ro w h1 h2 hl).mono fun e w' ⟨hc, hb⟩ => ⟨by
    rcases hc with ⟨a', b', h', he⟩ | ⟨hn, _⟩
    · have e1 := h.1.symm.trans h'.1
      have e2 := h.2.1.symm.trans h'.2.1
      simp only [Option.some.injEq, List.cons.injEq, and_true] at e1 e2
      rw [e1, e2]
      exact he
    · exact absurd ⟨a, b, h⟩ hn, hb⟩
theorem no_read (tb ro : ByteArray) (w : World) (h1 : tb.size ≤ 1000) (h2 : ro.size ≤ 1000) (hl : LibE w) (h : ¬ ∃ a b, Two tb.data.toList ro.data.toList a b) :
    Calls Tryz.prog 7 #[.string (⟨#[71, 82, 65, 78, 84, 32, 82, 69, 65, 68, 32, 79, 78, 32]⟩ ++ tb ++ ⟨#[32, 84, 79, 32]⟩ ++ ro)] w fun e w' => e = .returned (.tuple #[.agg #[.string ⟨#[]⟩, .string ⟨#[]⟩, .string ⟨#[]⟩, .slice none 0 0, .slice none 0 0, .string ⟨#[]⟩, .slice none 0 0, .slice none 0 0, .string ⟨#[]⟩, .int .i64 0, .int .i64 0, .string ⟨#[]⟩, .string ⟨#[]⟩, .slice none 0 0, .slice none 0 0, .slice none 0 0, .string ⟨#[]⟩, .int .i64 0, .int .i64 0, .string ⟨#[]⟩, .string ⟨#[]⟩, .slice none 0 0, .string ⟨#[]⟩], .int .i64 2]) ∧ Below w.heap.size w w' :=
  (parsed_read tb ro w h1 h2 hl).mono fun e w' ⟨hc, hb⟩ => ⟨by
    rcases hc with ⟨a', b', h', _⟩ | ⟨_, he⟩
    · exact absurd ⟨a', b', h'⟩ h
    · exact he, hb⟩
theorem yes_unread (tb ro : ByteArray) (w : World) (h1 : tb.size ≤ 1000) (h2 : ro.size ≤ 1000) (hl : LibE w) {a b : Tk} (h : Two tb.data.toList ro.data.toList a b) :
    Calls Tryz.prog 7 #[.string (⟨#[82, 69, 86, 79, 75, 69, 32, 82, 69, 65, 68, 32, 79, 78, 32]⟩ ++ tb ++ ⟨#[32, 70, 82, 79, 77, 32]⟩ ++ ro)] w fun e w' => e = .returned (.tuple #[.agg #[.string ⟨#[117, 110, 114, 101, 97, 100]⟩, .string ⟨a.s.toArray⟩, .string ⟨#[]⟩, .slice none 0 0, .slice none 0 0, .string ⟨#[]⟩, .slice none 0 0, .slice none 0 0, .string ⟨#[]⟩, .int .i64 0, .int .i64 0, .string ⟨#[]⟩, .string ⟨#[]⟩, .slice none 0 0, .slice none 0 0, .slice none 0 0, .string ⟨#[]⟩, .int .i64 0, .int .i64 0, .string ⟨#[]⟩, .string ⟨#[]⟩, .slice none 0 0, .string ⟨b.s.toArray⟩], .int .i64 0]) ∧ Below w.heap.size w w' :=
  (parsed_unread tb ro w h1 h2 hl).mono fun e w' ⟨hc, hb⟩ => ⟨by
    rcases hc with ⟨a', b', h', he⟩ | ⟨hn, _⟩
    · have e1 := h.1.symm.trans h'.1
      have e2 := h.2.1.symm.trans h'.2.1
      simp only [Option.some.injEq, List.cons.injEq, and_true] at e1 e2
      rw [e1, e2]
      exact he
    · exact absurd ⟨a, b, h⟩ hn, hb⟩
theorem no_unread (tb ro : ByteArray) (w : World) (h1 : tb.size ≤ 1000) (h2 : ro.size ≤ 1000) (hl : LibE w) (h : ¬ ∃ a b, Two tb.data.toList ro.data.toList a b) :
    Calls Tryz.prog 7 #[.string (⟨#[82, 69, 86, 79, 75, 69, 32, 82, 69, 65, 68, 32, 79, 78, 32]⟩ ++ tb ++ ⟨#[32, 70, 82, 79, 77, 32]⟩ ++ ro)] w fun e w' => e = .returned (.tuple #[.agg #[.string ⟨#[]⟩, .string ⟨#[]⟩, .string ⟨#[]⟩, .slice none 0 0, .slice none 0 0, .string ⟨#[]⟩, .slice none 0 0, .slice none 0 0, .string ⟨#[]⟩, .int .i64 0, .int .i64 0, .string ⟨#[]⟩, .string ⟨#[]⟩, .slice none 0 0, .slice none 0 0, .slice none 0 0, .string ⟨#[]⟩, .int .i64 0, .int .i64 0, .string ⟨#[]⟩, .string ⟨#[]⟩, .slice none 0 0, .string ⟨#[]⟩], .int .i64 2]) ∧ Below w.heap.size w w' :=
  (parsed_unread tb ro w h1 h2 hl).mono fun e w' ⟨hc, hb⟩ => ⟨by
    rcases hc with ⟨a', b', h', _⟩ | ⟨_, he⟩
    · exact absurd ⟨a', b', h'⟩ h
    · exact he, hb⟩
theorem yes_write (tb ro : ByteArray) (w : World) (h1 : tb.size ≤ 1000) (h2 : ro.size ≤ 1000) (hl : LibE w) {a b : Tk} (h : Two tb.data.toList ro.data.toList a b) :
    Calls Tryz.prog 7 #[.string (⟨#[71, 82, 65, 78, 84, 32, 87, 82, 73, 84, 69, 32, 79, 78, 32]⟩ ++ tb ++ ⟨#[32, 84, 79, 32]⟩ ++ ro)] w fun e w' => e = .returned (.tuple #[.agg #[.string ⟨#[119, 114, 105, 116, 101]⟩, .string ⟨a.s.toArray⟩, .string ⟨#[]⟩, .slice none 0 0, .slice none 0 0, .string ⟨#[]⟩, .slice none 0 0, .slice none 0 0, .string ⟨#[]⟩, .int .i64 0, .int .i64 0, .string ⟨#[]⟩, .string ⟨#[]⟩, .slice none 0 0, .slice none 0 0, .slice none 0 0, .string ⟨#[]⟩, .int .i64 0, .int .i64 0, .string ⟨#[]⟩, .string ⟨#[]⟩, .slice none 0 0, .string ⟨b.s.toArray⟩], .int .i64 0]) ∧ Below w.heap.size w w' :=
  (parsed_write tb ro w h1 h2 hl).mono fun e w' ⟨hc, hb⟩ => ⟨by
    rcases hc with ⟨a', b', h', he⟩ | ⟨hn, _⟩
    · have e1 := h.1.symm.trans h'.1
      have e2 := h.2.1.symm.trans h'.2.1
      simp only [Option.some.injEq, List.cons.injEq, and_true] at e1 e2
      rw [e1, e2]
      exact he
    · exact absurd ⟨a, b, h⟩ hn, hb⟩
theorem no_write (tb ro : ByteArray) (w : World) (h1 : tb.size ≤ 1000) (h2 : ro.size ≤ 1000) (hl : LibE w) (h : ¬ ∃ a b, Two tb.data.toList ro.data.toList a b) :
    Calls Tryz.prog 7 #[.string (⟨#[71, 82, 65, 78, 84, 32, 87, 82, 73, 84, 69, 32, 79, 78, 32]⟩ ++ tb ++ ⟨#[32, 84, 79, 32]⟩ ++ ro)] w fun e w' => e = .returned (.tuple #[.agg #[.string ⟨#[]⟩, .string ⟨#[]⟩, .string ⟨#[]⟩, .slice none 0 0, .slice none 0 0, .string ⟨#[]⟩, .slice none 0 0, .slice none 0 0, .string ⟨#[]⟩, .int .i64 0, .int .i64 0, .string ⟨#[]⟩, .string ⟨#[]⟩, .slice none 0 0, .slice none 0 0, .slice none 0 0, .string ⟨#[]⟩, .int .i64 0, .int .i64 0, .string ⟨#[]⟩, .string ⟨#[]⟩, .slice none 0 0, .string ⟨#[]⟩], .int .i64 2]) ∧ Below w.heap.size w w' :=
  (parsed_write tb ro w h1 h2 hl).mono fun e w' ⟨hc, hb⟩ => ⟨by
    rcases hc with ⟨a', b', h', _⟩ | ⟨_, he⟩
    · exact absurd ⟨a', b', h'⟩ h
    · exact he, hb⟩
theorem yes_unwrite (tb ro : ByteArray) (w : World) (h1 : tb.size ≤ 1000) (h2 : ro.size ≤ 1000) (hl : LibE w) {a b : Tk} (h : Two tb.data.toList ro.data.toList a b) :
    Calls Tryz.prog 7 #[.string (⟨#[82, 69, 86, 79, 75, 69, 32, 87, 82, 73, 84, 69, 32, 79, 78, 32]⟩ ++ tb ++ ⟨#[32, 70, 82, 79, 77, 32]⟩ ++ ro)] w fun e w' => e = .returned (.tuple #[.agg #[.string ⟨#[117, 110, 119, 114, 105, 116, 101]⟩, .string ⟨a.s.toArray⟩, .string ⟨#[]⟩, .slice none 0 0, .slice none 0 0, .string ⟨#[]⟩, .slice none 0 0, .slice none 0 0, .string ⟨#[]⟩, .int .i64 0, .int .i64 0, .string ⟨#[]⟩, .string ⟨#[]⟩, .slice none 0 0, .slice none 0 0, .slice none 0 0, .string ⟨#[]⟩, .int .i64 0, .int .i64 0, .string ⟨#[]⟩, .string ⟨#[]⟩, .slice none 0 0, .string ⟨b.s.toArray⟩], .int .i64 0]) ∧ Below w.heap.size w w' :=
  (parsed_unwrite tb ro w h1 h2 hl).mono fun e w' ⟨hc, hb⟩ => ⟨by
    rcases hc with ⟨a', b', h', he⟩ | ⟨hn, _⟩
    · have e1 := h.1.symm.trans h'.1
      have e2 := h.2.1.symm.trans h'.2.1
      simp only [Option.some.injEq, List.cons.injEq, and_true] at e1 e2
      rw [e1, e2]
      exact he
    · exact absurd ⟨a, b, h⟩ hn, hb⟩
theorem no_unwrite (tb ro : ByteArray) (w : World) (h1 : tb.size ≤ 1000) (h2 : ro.size ≤ 1000) (hl : LibE w) (h : ¬ ∃ a b, Two tb.data.toList ro.data.toList a b) :
    Calls Tryz.prog 7 #[.string (⟨#[82, 69, 86, 79, 75, 69, 32, 87, 82, 73, 84, 69, 32, 79, 78, 32]⟩ ++ tb ++ ⟨#[32, 70, 82, 79, 77, 32]⟩ ++ ro)] w fun e w' => e = .returned (.tuple #[.agg #[.string ⟨#[]⟩, .string ⟨#[]⟩, .string ⟨#[]⟩, .slice none 0 0, .slice none 0 0, .string ⟨#[]⟩, .slice none 0 0, .slice none 0 0, .string ⟨#[]⟩, .int .i64 0, .int .i64 0, .string ⟨#[]⟩, .string ⟨#[]⟩, .slice none 0 0, .slice none 0 0, .slice none 0 0, .string ⟨#[]⟩, .int .i64 0, .int .i64 0, .string ⟨#[]⟩, .string ⟨#[]⟩, .slice none 0 0, .string ⟨#[]⟩], .int .i64 2]) ∧ Below w.heap.size w w' :=
  (parsed_unwrite tb ro w h1 h2 hl).mono fun e w' ⟨hc, hb⟩ => ⟨by
    rcases hc with ⟨a', b', h', _⟩ | ⟨_, he⟩
    · exact absurd ⟨a', b', h'⟩ h
    · exact he, hb⟩
/-- Four boxes that hold the same statement. -/
structure R4 (w : World) (n5 n7 n9 n11 : Nat) (cs : Array Value) (W : World) : Prop where
  lo : Below w.heap.size w W
  b5 : W.heap[n5]? = some (.cells cs 34 (0, 0))
  b7 : W.heap[n7]? = some (.cells cs 34 (0, 0))
  b9 : W.heap[n9]? = some (.cells cs 34 (0, 0))
  b11 : W.heap[n11]? = some (.cells cs 34 (0, 0))
theorem R4.step {w W W' : World} {n5 n7 n9 n11 : Nat} {cs : Array Value} (h : R4 w n5 n7 n9 n11 cs W) (hb : Below W.heap.size W W') : R4 w n5 n7 n9 n11 cs W' :=
  ⟨h.lo.trans (hb.mono h.lo.size), (hb.block _ (lt_of_block h.b5)).trans h.b5, (hb.block _ (lt_of_block h.b7)).trans h.b7, (hb.block _ (lt_of_block h.b9)).trans h.b9, (hb.block _ (lt_of_block h.b11)).trans h.b11⟩
set_option maxRecDepth 100000 in
set_option maxHeartbeats 4000000 in
theorem law_rights (table role : ByteArray) (w : World) (hl : LibE w) (h1 : table.size ≤ maxLen) (h2 : role.size ≤ maxLen)
    (ha : ∀ W : World, LibE W → Calls Tryz.prog 8 #[] W fun e w' => e = .returned (.bool true) ∧ Below W.heap.size W w') :
    Calls Tryz.prog 3 #[.string table, .string role] w fun e w' => e = .returned (.bool true) ∧ Below w.heap.size w w' := by
  have HL := Lib.hid hl
  have HA := Lib.hid ha
  have HV0 : Hid (Lw w [] w) := Lib.hid ⟨Below.refl _ _, fun p hp => by cases hp⟩
  clear hl ha
  go_enter Tryz.func3, Tryz.ntmps3
  go_upto_region 2 with (first
    | (go_at_call 6; (with_reducible refine (text5_any table w h1).mono ?_); rintro e w' ⟨tb, rfl, htb, rfl⟩)
    | (go_at_call 6; (with_reducible refine (text5_any role _ h2).mono ?_); rintro e w' ⟨ro, rfl, hro, rfl⟩))
  have z1 := htb.out
  have z2 := hro.out
  clear htb hro h1 h2
  by_cases hq : ∃ a b, Two tb.data.toList ro.data.toList a b
  · obtain ⟨a, b, hq⟩ := hq
    go_upto_region 3 with (first
      | (go_at_call 7; (with_reducible refine (yes_read tb ro _ (by omega) (by omega) (HL.out.keep HV0.out.lo (Nat.le_refl _)) hq).mono ?_); rintro e w1 ⟨rfl, hb1⟩; have HB1 := Lib.hid hb1; clear hb1)
      | (refine wpList_store_row rfl 34 (.tmp 5) (.tmp 24) rfl w1.heap.size #[.string ⟨#[114, 101, 97, 100]⟩, .string ⟨a.s.toArray⟩, .string ⟨#[]⟩, .slice none 0 0, .slice none 0 0, .string ⟨#[]⟩, .slice none 0 0, .slice none 0 0, .string ⟨#[]⟩, .int .i64 0, .int .i64 0, .string ⟨#[]⟩, .string ⟨#[]⟩, .slice none 0 0, .slice none 0 0, .slice none 0 0, .string ⟨#[]⟩, .int .i64 0, .int .i64 0, .string ⟨#[]⟩, .string ⟨#[]⟩, .slice none 0 0, .string ⟨b.s.toArray⟩] rfl rfl 34 _ (alloc_at rfl _) stSize rfl (rt_one _ _ _) ?_))
    refine wp_gen (Lw w ((w1.heap.size, #[.string ⟨#[114, 101, 97, 100]⟩, .string ⟨a.s.toArray⟩, .string ⟨#[]⟩, .slice none 0 0, .slice none 0 0, .string ⟨#[]⟩, .slice none 0 0, .slice none 0 0, .string ⟨#[]⟩, .int .i64 0, .int .i64 0, .string ⟨#[]⟩, .string ⟨#[]⟩, .slice none 0 0, .slice none 0 0, .slice none 0 0, .string ⟨#[]⟩, .int .i64 0, .int .i64 0, .string ⟨#[]⟩, .string ⟨#[]⟩, .slice none 0 0, .string ⟨b.s.toArray⟩]) :: [])) ((HV0.out.step HB1.out).push _) fun v1 hv1 => ?_
    have HV1 := Lib.hid hv1
    clear hv1
    go_upto_region 4 with (first
      | (go_at_call 7; (with_reducible refine (yes_unread tb ro _ (by omega) (by omega) (HL.out.keep HV1.out.lo (Nat.le_refl _)) hq).mono ?_); rintro e w2 ⟨rfl, hb2⟩; have HB2 := Lib.hid hb2; clear hb2)
      | (refine wpList_store_row rfl 34 (.tmp 7) (.tmp 33) rfl w2.heap.size #[.string ⟨#[117, 110, 114, 101, 97, 100]⟩, .string ⟨a.s.toArray⟩, .string ⟨#[]⟩, .slice none 0 0, .slice none 0 0, .string ⟨#[]⟩, .slice none 0 0, .slice none 0 0, .string ⟨#[]⟩, .int .i64 0, .int .i64 0, .string ⟨#[]⟩, .string ⟨#[]⟩, .slice none 0 0, .slice none 0 0, .slice none 0 0, .string ⟨#[]⟩, .int .i64 0, .int .i64 0, .string ⟨#[]⟩, .string ⟨#[]⟩, .slice none 0 0, .string ⟨b.s.toArray⟩] rfl rfl 34 _ (alloc_at rfl _) stSize rfl (rt_one _ _ _) ?_))
    refine wp_gen (Lw w ((w2.heap.size, #[.string ⟨#[117, 110, 114, 101, 97, 100]⟩, .string ⟨a.s.toArray⟩, .string ⟨#[]⟩, .slice none 0 0, .slice none 0 0, .string ⟨#[]⟩, .slice none 0 0, .slice none 0 0, .string ⟨#[]⟩, .int .i64 0, .int .i64 0, .string ⟨#[]⟩, .string ⟨#[]⟩, .slice none 0 0, .slice none 0 0, .slice none 0 0, .string ⟨#[]⟩, .int .i64 0, .int .i64 0, .string ⟨#[]⟩, .string ⟨#[]⟩, .slice none 0 0, .string ⟨b.s.toArray⟩]) :: (w1.heap.size, #[.string ⟨#[114, 101, 97, 100]⟩, .string ⟨a.s.toArray⟩, .string ⟨#[]⟩, .slice none 0 0, .slice none 0 0, .string ⟨#[]⟩, .slice none 0 0, .slice none 0 0, .string ⟨#[]⟩, .int .i64 0, .int .i64 0, .string ⟨#[]⟩, .string ⟨#[]⟩, .slice none 0 0, .slice none 0 0, .slice none 0 0, .string ⟨#[]⟩, .int .i64 0, .int .i64 0, .string ⟨#[]⟩, .string ⟨#[]⟩, .slice none 0 0, .string ⟨b.s.toArray⟩]) :: [])) ((HV1.out.step HB2.out).push _) fun v2 hv2 => ?_
    have HV2 := Lib.hid hv2
    clear hv2
    go_upto_region 5 with (first
      | (go_at_call 7; (with_reducible refine (yes_write tb ro _ (by omega) (by omega) (HL.out.keep HV2.out.lo (Nat.le_refl _)) hq).mono ?_); rintro e w3 ⟨rfl, hb3⟩; have HB3 := Lib.hid hb3; clear hb3)
      | (refine wpList_store_row rfl 34 (.tmp 9) (.tmp 42) rfl w3.heap.size #[.string ⟨#[119, 114, 105, 116, 101]⟩, .string ⟨a.s.toArray⟩, .string ⟨#[]⟩, .slice none 0 0, .slice none 0 0, .string ⟨#[]⟩, .slice none 0 0, .slice none 0 0, .string ⟨#[]⟩, .int .i64 0, .int .i64 0, .string ⟨#[]⟩, .string ⟨#[]⟩, .slice none 0 0, .slice none 0 0, .slice none 0 0, .string ⟨#[]⟩, .int .i64 0, .int .i64 0, .string ⟨#[]⟩, .string ⟨#[]⟩, .slice none 0 0, .string ⟨b.s.toArray⟩] rfl rfl 34 _ (alloc_at rfl _) stSize rfl (rt_one _ _ _) ?_))
    refine wp_gen (Lw w ((w3.heap.size, #[.string ⟨#[119, 114, 105, 116, 101]⟩, .string ⟨a.s.toArray⟩, .string ⟨#[]⟩, .slice none 0 0, .slice none 0 0, .string ⟨#[]⟩, .slice none 0 0, .slice none 0 0, .string ⟨#[]⟩, .int .i64 0, .int .i64 0, .string ⟨#[]⟩, .string ⟨#[]⟩, .slice none 0 0, .slice none 0 0, .slice none 0 0, .string ⟨#[]⟩, .int .i64 0, .int .i64 0, .string ⟨#[]⟩, .string ⟨#[]⟩, .slice none 0 0, .string ⟨b.s.toArray⟩]) :: (w2.heap.size, #[.string ⟨#[117, 110, 114, 101, 97, 100]⟩, .string ⟨a.s.toArray⟩, .string ⟨#[]⟩, .slice none 0 0, .slice none 0 0, .string ⟨#[]⟩, .slice none 0 0, .slice none 0 0, .string ⟨#[]⟩, .int .i64 0, .int .i64 0, .string ⟨#[]⟩, .string ⟨#[]⟩, .slice none 0 0, .slice none 0 0, .slice none 0 0, .string ⟨#[]⟩, .int .i64 0, .int .i64 0, .string ⟨#[]⟩, .string ⟨#[]⟩, .slice none 0 0, .string ⟨b.s.toArray⟩]) :: (w1.heap.size, #[.string ⟨#[114, 101, 97, 100]⟩, .string ⟨a.s.toArray⟩, .string ⟨#[]⟩, .slice none 0 0, .slice none 0 0, .string ⟨#[]⟩, .slice none 0 0, .slice none 0 0, .string ⟨#[]⟩, .int .i64 0, .int .i64 0, .string ⟨#[]⟩, .string ⟨#[]⟩, .slice none 0 0, .slice none 0 0, .slice none 0 0, .string ⟨#[]⟩, .int .i64 0, .int .i64 0, .string ⟨#[]⟩, .string ⟨#[]⟩, .slice none 0 0, .string ⟨b.s.toArray⟩]) :: [])) ((HV2.out.step HB3.out).push _) fun v3 hv3 => ?_
    have HV3 := Lib.hid hv3
    clear hv3
    go_upto_region 6 with (first
      | (go_at_call 7; (with_reducible refine (yes_unwrite tb ro _ (by omega) (by omega) (HL.out.keep HV3.out.lo (Nat.le_refl _)) hq).mono ?_); rintro e w4 ⟨rfl, hb4⟩; have HB4 := Lib.hid hb4; clear hb4)
      | (refine wpList_store_row rfl 34 (.tmp 11) (.tmp 51) rfl w4.heap.size #[.string ⟨#[117, 110, 119, 114, 105, 116, 101]⟩, .string ⟨a.s.toArray⟩, .string ⟨#[]⟩, .slice none 0 0, .slice none 0 0, .string ⟨#[]⟩, .slice none 0 0, .slice none 0 0, .string ⟨#[]⟩, .int .i64 0, .int .i64 0, .string ⟨#[]⟩, .string ⟨#[]⟩, .slice none 0 0, .slice none 0 0, .slice none 0 0, .string ⟨#[]⟩, .int .i64 0, .int .i64 0, .string ⟨#[]⟩, .string ⟨#[]⟩, .slice none 0 0, .string ⟨b.s.toArray⟩] rfl rfl 34 _ (alloc_at rfl _) stSize rfl (rt_one _ _ _) ?_))
    refine wp_gen (Lw w ((w4.heap.size, #[.string ⟨#[117, 110, 119, 114, 105, 116, 101]⟩, .string ⟨a.s.toArray⟩, .string ⟨#[]⟩, .slice none 0 0, .slice none 0 0, .string ⟨#[]⟩, .slice none 0 0, .slice none 0 0, .string ⟨#[]⟩, .int .i64 0, .int .i64 0, .string ⟨#[]⟩, .string ⟨#[]⟩, .slice none 0 0, .slice none 0 0, .slice none 0 0, .string ⟨#[]⟩, .int .i64 0, .int .i64 0, .string ⟨#[]⟩, .string ⟨#[]⟩, .slice none 0 0, .string ⟨b.s.toArray⟩]) :: (w3.heap.size, #[.string ⟨#[119, 114, 105, 116, 101]⟩, .string ⟨a.s.toArray⟩, .string ⟨#[]⟩, .slice none 0 0, .slice none 0 0, .string ⟨#[]⟩, .slice none 0 0, .slice none 0 0, .string ⟨#[]⟩, .int .i64 0, .int .i64 0, .string ⟨#[]⟩, .string ⟨#[]⟩, .slice none 0 0, .slice none 0 0, .slice none 0 0, .string ⟨#[]⟩, .int .i64 0, .int .i64 0, .string ⟨#[]⟩, .string ⟨#[]⟩, .slice none 0 0, .string ⟨b.s.toArray⟩]) :: (w2.heap.size, #[.string ⟨#[117, 110, 114, 101, 97, 100]⟩, .string ⟨a.s.toArray⟩, .string ⟨#[]⟩, .slice none 0 0, .slice none 0 0, .string ⟨#[]⟩, .slice none 0 0, .slice none 0 0, .string ⟨#[]⟩, .int .i64 0, .int .i64 0, .string ⟨#[]⟩, .string ⟨#[]⟩, .slice none 0 0, .slice none 0 0, .slice none 0 0, .string ⟨#[]⟩, .int .i64 0, .int .i64 0, .string ⟨#[]⟩, .string ⟨#[]⟩, .slice none 0 0, .string ⟨b.s.toArray⟩]) :: (w1.heap.size, #[.string ⟨#[114, 101, 97, 100]⟩, .string ⟨a.s.toArray⟩, .string ⟨#[]⟩, .slice none 0 0, .slice none 0 0, .string ⟨#[]⟩, .slice none 0 0, .slice none 0 0, .string ⟨#[]⟩, .int .i64 0, .int .i64 0, .string ⟨#[]⟩, .string ⟨#[]⟩, .slice none 0 0, .slice none 0 0, .slice none 0 0, .string ⟨#[]⟩, .int .i64 0, .int .i64 0, .string ⟨#[]⟩, .string ⟨#[]⟩, .slice none 0 0, .string ⟨b.s.toArray⟩]) :: [])) ((HV3.out.step HB4.out).push _) fun v4 hv4 => ?_
    have HV4 := Lib.hid hv4
    clear hv4
    have d12 : w1.heap.size < w2.heap.size := Nat.lt_of_lt_of_le (lt_of_block (HV1.out.at' _ (List.Mem.head _)).1) HB2.out.size
    have d23 : w2.heap.size < w3.heap.size := Nat.lt_of_lt_of_le (lt_of_block (HV2.out.at' _ (List.Mem.head _)).1) HB3.out.size
    have d34 : w3.heap.size < w4.heap.size := Nat.lt_of_lt_of_le (lt_of_block (HV3.out.at' _ (List.Mem.head _)).1) HB4.out.size
    have q1 := HV4.out.at' (w1.heap.size, #[.string ⟨#[114, 101, 97, 100]⟩, .string ⟨a.s.toArray⟩, .string ⟨#[]⟩, .slice none 0 0, .slice none 0 0, .string ⟨#[]⟩, .slice none 0 0, .slice none 0 0, .string ⟨#[]⟩, .int .i64 0, .int .i64 0, .string ⟨#[]⟩, .string ⟨#[]⟩, .slice none 0 0, .slice none 0 0, .slice none 0 0, .string ⟨#[]⟩, .int .i64 0, .int .i64 0, .string ⟨#[]⟩, .string ⟨#[]⟩, .slice none 0 0, .string ⟨b.s.toArray⟩]) (by simp)
    have q2 := HV4.out.at' (w2.heap.size, #[.string ⟨#[117, 110, 114, 101, 97, 100]⟩, .string ⟨a.s.toArray⟩, .string ⟨#[]⟩, .slice none 0 0, .slice none 0 0, .string ⟨#[]⟩, .slice none 0 0, .slice none 0 0, .string ⟨#[]⟩, .int .i64 0, .int .i64 0, .string ⟨#[]⟩, .string ⟨#[]⟩, .slice none 0 0, .slice none 0 0, .slice none 0 0, .string ⟨#[]⟩, .int .i64 0, .int .i64 0, .string ⟨#[]⟩, .string ⟨#[]⟩, .slice none 0 0, .string ⟨b.s.toArray⟩]) (by simp)
    have q3 := HV4.out.at' (w3.heap.size, #[.string ⟨#[119, 114, 105, 116, 101]⟩, .string ⟨a.s.toArray⟩, .string ⟨#[]⟩, .slice none 0 0, .slice none 0 0, .string ⟨#[]⟩, .slice none 0 0, .slice none 0 0, .string ⟨#[]⟩, .int .i64 0, .int .i64 0, .string ⟨#[]⟩, .string ⟨#[]⟩, .slice none 0 0, .slice none 0 0, .slice none 0 0, .string ⟨#[]⟩, .int .i64 0, .int .i64 0, .string ⟨#[]⟩, .string ⟨#[]⟩, .slice none 0 0, .string ⟨b.s.toArray⟩]) (by simp)
    have q4 := HV4.out.at' (w4.heap.size, #[.string ⟨#[117, 110, 119, 114, 105, 116, 101]⟩, .string ⟨a.s.toArray⟩, .string ⟨#[]⟩, .slice none 0 0, .slice none 0 0, .string ⟨#[]⟩, .slice none 0 0, .slice none 0 0, .string ⟨#[]⟩, .int .i64 0, .int .i64 0, .string ⟨#[]⟩, .string ⟨#[]⟩, .slice none 0 0, .slice none 0 0, .slice none 0 0, .string ⟨#[]⟩, .int .i64 0, .int .i64 0, .string ⟨#[]⟩, .string ⟨#[]⟩, .slice none 0 0, .string ⟨b.s.toArray⟩]) (by simp)
    have g1 : v4.cell? ⟨w1.heap.size, 0, none⟩ = some (.string ⟨#[114, 101, 97, 100]⟩) := Lib.cell_of_heap q1.1 0
    have g2 : v4.cell? ⟨w2.heap.size, 0, none⟩ = some (.string ⟨#[117, 110, 114, 101, 97, 100]⟩) := Lib.cell_of_heap q2.1 0
    have g3 : v4.cell? ⟨w3.heap.size, 0, none⟩ = some (.string ⟨#[119, 114, 105, 116, 101]⟩) := Lib.cell_of_heap q3.1 0
    have g4 : v4.cell? ⟨w4.heap.size, 0, none⟩ = some (.string ⟨#[117, 110, 119, 114, 105, 116, 101]⟩) := Lib.cell_of_heap q4.1 0
    have f2 := Lib.frozen_of_heap q2.1 0
    have f3 := Lib.frozen_of_heap q3.1 0
    have f4 := Lib.frozen_of_heap q4.1 0
    have l2 := lt_of_block q2.1
    have l3 := lt_of_block q3.1
    have l4 := lt_of_block q4.1
    have Q1 := Lib.hid q1
    have Q2 := Lib.hid q2
    have Q3 := Lib.hid q3
    have Q4 := Lib.hid q4
    clear q1 q2 q3 q4
    go_upto_region 13 with (fail)
    refine wp_gen (R4 w w1.heap.size w2.heap.size w3.heap.size w4.heap.size #[.string ⟨#[114, 101, 97, 100]⟩, .string ⟨a.s.toArray⟩, .string ⟨#[]⟩, .slice none 0 0, .slice none 0 0, .string ⟨#[]⟩, .slice none 0 0, .slice none 0 0, .string ⟨#[]⟩, .int .i64 0, .int .i64 0, .string ⟨#[]⟩, .string ⟨#[]⟩, .slice none 0 0, .slice none 0 0, .slice none 0 0, .string ⟨#[]⟩, .int .i64 0, .int .i64 0, .string ⟨#[]⟩, .string ⟨#[]⟩, .slice none 0 0, .string ⟨b.s.toArray⟩]) (W := ((v4.setCell ⟨w2.heap.size, 0, none⟩ (.string ⟨#[114, 101, 97, 100]⟩)).setCell ⟨w3.heap.size, 0, none⟩ (.string ⟨#[114, 101, 97, 100]⟩)).setCell ⟨w4.heap.size, 0, none⟩ (.string ⟨#[114, 101, 97, 100]⟩)) ⟨((HV4.out.lo.setCell (p := ⟨w2.heap.size, 0, none⟩) Q2.out.2 _).setCell (p := ⟨w3.heap.size, 0, none⟩) Q3.out.2 _).setCell (p := ⟨w4.heap.size, 0, none⟩) Q4.out.2 _,
      (Below.heap_setCell _ _ _ _ (by show w1.heap.size ≠ w4.heap.size; omega)).trans ((Below.heap_setCell _ _ _ _ (by show w1.heap.size ≠ w3.heap.size; omega)).trans ((Below.heap_setCell _ _ _ _ (by show w1.heap.size ≠ w2.heap.size; omega)).trans Q1.out.1)),
      (Below.heap_setCell _ _ _ _ (by show w2.heap.size ≠ w4.heap.size; omega)).trans ((Below.heap_setCell _ _ _ _ (by show w2.heap.size ≠ w3.heap.size; omega)).trans (any_set Q2.out.1 0 _)),
      (Below.heap_setCell _ _ _ _ (by show w3.heap.size ≠ w4.heap.size; omega)).trans (any_set ((Below.heap_setCell _ _ _ _ (by show w3.heap.size ≠ w2.heap.size; omega)).trans Q3.out.1) 0 _),
      any_set ((Below.heap_setCell _ _ _ _ (by show w4.heap.size ≠ w3.heap.size; omega)).trans ((Below.heap_setCell _ _ _ _ (by show w4.heap.size ≠ w2.heap.size; omega)).trans Q4.out.1)) 0 _⟩ fun v5 hv5 => ?_
    have G := Lib.hid hv5
    clear hv5 g1 g2 g3 g4 f2 f3 f4 l2 l3 l4
    have x5 := G.out.b5
    have x7 := G.out.b7
    have x9 := G.out.b9
    have x11 := G.out.b11
    go_wp2_with (first
      | (refine wpList_load_row_on rfl 34 (.tmp 5) rfl w1.heap.size rfl 34 #[.string ⟨#[114, 101, 97, 100]⟩, .string ⟨a.s.toArray⟩, .string ⟨#[]⟩, .slice none 0 0, .slice none 0 0, .string ⟨#[]⟩, .slice none 0 0, .slice none 0 0, .string ⟨#[]⟩, .int .i64 0, .int .i64 0, .string ⟨#[]⟩, .string ⟨#[]⟩, .slice none 0 0, .slice none 0 0, .slice none 0 0, .string ⟨#[]⟩, .int .i64 0, .int .i64 0, .string ⟨#[]⟩, .string ⟨#[]⟩, .slice none 0 0, .string ⟨b.s.toArray⟩] (0, 0) _ x5 Tryz.underlying34 rfl stSize ?_)
      | (refine wpList_load_row_on rfl 34 (.tmp 7) rfl w2.heap.size rfl 34 #[.string ⟨#[114, 101, 97, 100]⟩, .string ⟨a.s.toArray⟩, .string ⟨#[]⟩, .slice none 0 0, .slice none 0 0, .string ⟨#[]⟩, .slice none 0 0, .slice none 0 0, .string ⟨#[]⟩, .int .i64 0, .int .i64 0, .string ⟨#[]⟩, .string ⟨#[]⟩, .slice none 0 0, .slice none 0 0, .slice none 0 0, .string ⟨#[]⟩, .int .i64 0, .int .i64 0, .string ⟨#[]⟩, .string ⟨#[]⟩, .slice none 0 0, .string ⟨b.s.toArray⟩] (0, 0) _ x7 Tryz.underlying34 rfl stSize ?_)
      | (refine wpList_load_row_on rfl 34 (.tmp 9) rfl w3.heap.size rfl 34 #[.string ⟨#[114, 101, 97, 100]⟩, .string ⟨a.s.toArray⟩, .string ⟨#[]⟩, .slice none 0 0, .slice none 0 0, .string ⟨#[]⟩, .slice none 0 0, .slice none 0 0, .string ⟨#[]⟩, .int .i64 0, .int .i64 0, .string ⟨#[]⟩, .string ⟨#[]⟩, .slice none 0 0, .slice none 0 0, .slice none 0 0, .string ⟨#[]⟩, .int .i64 0, .int .i64 0, .string ⟨#[]⟩, .string ⟨#[]⟩, .slice none 0 0, .string ⟨b.s.toArray⟩] (0, 0) _ x9 Tryz.underlying34 rfl stSize ?_)
      | (refine wpList_load_row_on rfl 34 (.tmp 11) rfl w4.heap.size rfl 34 #[.string ⟨#[114, 101, 97, 100]⟩, .string ⟨a.s.toArray⟩, .string ⟨#[]⟩, .slice none 0 0, .slice none 0 0, .string ⟨#[]⟩, .slice none 0 0, .slice none 0 0, .string ⟨#[]⟩, .int .i64 0, .int .i64 0, .string ⟨#[]⟩, .string ⟨#[]⟩, .slice none 0 0, .slice none 0 0, .slice none 0 0, .string ⟨#[]⟩, .int .i64 0, .int .i64 0, .string ⟨#[]⟩, .string ⟨#[]⟩, .slice none 0 0, .string ⟨b.s.toArray⟩] (0, 0) _ x11 Tryz.underlying34 rfl stSize ?_)
      | (go_at_call 9; (with_reducible refine (rsame_right ⟨#[114, 101, 97, 100]⟩ ⟨a.s.toArray⟩ ⟨b.s.toArray⟩ _).mono ?_); rintro e w6 ⟨rfl, hb6⟩; have G := Lib.hid (G.out.step hb6); have x5 := G.out.b5; have x7 := G.out.b7; have x9 := G.out.b9; have x11 := G.out.b11; clear hb6)
      | (go_at_call 8; (with_reducible refine (HA.out _ (HL.out.keep G.out.lo (Nat.le_refl _))).mono ?_); rintro e w6 ⟨rfl, hb6⟩; have G := Lib.hid (G.out.step hb6); clear hb6))
    go_ret
    exact ⟨rfl, G.out.lo⟩
  · go_upto_region 3 with (first
      | (go_at_call 7; (with_reducible refine (no_read tb ro _ (by omega) (by omega) (HL.out.keep HV0.out.lo (Nat.le_refl _)) hq).mono ?_); rintro e w1 ⟨rfl, hb1⟩; have HB1 := Lib.hid hb1; clear hb1)
      | (refine wpList_store_row rfl 34 (.tmp 5) (.tmp 24) rfl w1.heap.size #[.string ⟨#[]⟩, .string ⟨#[]⟩, .string ⟨#[]⟩, .slice none 0 0, .slice none 0 0, .string ⟨#[]⟩, .slice none 0 0, .slice none 0 0, .string ⟨#[]⟩, .int .i64 0, .int .i64 0, .string ⟨#[]⟩, .string ⟨#[]⟩, .slice none 0 0, .slice none 0 0, .slice none 0 0, .string ⟨#[]⟩, .int .i64 0, .int .i64 0, .string ⟨#[]⟩, .string ⟨#[]⟩, .slice none 0 0, .string ⟨#[]⟩] rfl rfl 34 _ (alloc_at rfl _) stSize rfl (rt_one _ _ _) ?_))
    refine wp_gen (Lw w ((w1.heap.size, #[.string ⟨#[]⟩, .string ⟨#[]⟩, .string ⟨#[]⟩, .slice none 0 0, .slice none 0 0, .string ⟨#[]⟩, .slice none 0 0, .slice none 0 0, .string ⟨#[]⟩, .int .i64 0, .int .i64 0, .string ⟨#[]⟩, .string ⟨#[]⟩, .slice none 0 0, .slice none 0 0, .slice none 0 0, .string ⟨#[]⟩, .int .i64 0, .int .i64 0, .string ⟨#[]⟩, .string ⟨#[]⟩, .slice none 0 0, .string ⟨#[]⟩]) :: [])) ((HV0.out.step HB1.out).push _) fun v1 hv1 => ?_
    have HV1 := Lib.hid hv1
    clear hv1
    go_upto_region 4 with (first
      | (go_at_call 7; (with_reducible refine (no_unread tb ro _ (by omega) (by omega) (HL.out.keep HV1.out.lo (Nat.le_refl _)) hq).mono ?_); rintro e w2 ⟨rfl, hb2⟩; have HB2 := Lib.hid hb2; clear hb2)
      | (refine wpList_store_row rfl 34 (.tmp 7) (.tmp 33) rfl w2.heap.size #[.string ⟨#[]⟩, .string ⟨#[]⟩, .string ⟨#[]⟩, .slice none 0 0, .slice none 0 0, .string ⟨#[]⟩, .slice none 0 0, .slice none 0 0, .string ⟨#[]⟩, .int .i64 0, .int .i64 0, .string ⟨#[]⟩, .string ⟨#[]⟩, .slice none 0 0, .slice none 0 0, .slice none 0 0, .string ⟨#[]⟩, .int .i64 0, .int .i64 0, .string ⟨#[]⟩, .string ⟨#[]⟩, .slice none 0 0, .string ⟨#[]⟩] rfl rfl 34 _ (alloc_at rfl _) stSize rfl (rt_one _ _ _) ?_))
    refine wp_gen (Lw w ((w2.heap.size, #[.string ⟨#[]⟩, .string ⟨#[]⟩, .string ⟨#[]⟩, .slice none 0 0, .slice none 0 0, .string ⟨#[]⟩, .slice none 0 0, .slice none 0 0, .string ⟨#[]⟩, .int .i64 0, .int .i64 0, .string ⟨#[]⟩, .string ⟨#[]⟩, .slice none 0 0, .slice none 0 0, .slice none 0 0, .string ⟨#[]⟩, .int .i64 0, .int .i64 0, .string ⟨#[]⟩, .string ⟨#[]⟩, .slice none 0 0, .string ⟨#[]⟩]) :: (w1.heap.size, #[.string ⟨#[]⟩, .string ⟨#[]⟩, .string ⟨#[]⟩, .slice none 0 0, .slice none 0 0, .string ⟨#[]⟩, .slice none 0 0, .slice none 0 0, .string ⟨#[]⟩, .int .i64 0, .int .i64 0, .string ⟨#[]⟩, .string ⟨#[]⟩, .slice none 0 0, .slice none 0 0, .slice none 0 0, .string ⟨#[]⟩, .int .i64 0, .int .i64 0, .string ⟨#[]⟩, .string ⟨#[]⟩, .slice none 0 0, .string ⟨#[]⟩]) :: [])) ((HV1.out.step HB2.out).push _) fun v2 hv2 => ?_
    have HV2 := Lib.hid hv2
    clear hv2
    go_upto_region 5 with (first
      | (go_at_call 7; (with_reducible refine (no_write tb ro _ (by omega) (by omega) (HL.out.keep HV2.out.lo (Nat.le_refl _)) hq).mono ?_); rintro e w3 ⟨rfl, hb3⟩; have HB3 := Lib.hid hb3; clear hb3)
      | (refine wpList_store_row rfl 34 (.tmp 9) (.tmp 42) rfl w3.heap.size #[.string ⟨#[]⟩, .string ⟨#[]⟩, .string ⟨#[]⟩, .slice none 0 0, .slice none 0 0, .string ⟨#[]⟩, .slice none 0 0, .slice none 0 0, .string ⟨#[]⟩, .int .i64 0, .int .i64 0, .string ⟨#[]⟩, .string ⟨#[]⟩, .slice none 0 0, .slice none 0 0, .slice none 0 0, .string ⟨#[]⟩, .int .i64 0, .int .i64 0, .string ⟨#[]⟩, .string ⟨#[]⟩, .slice none 0 0, .string ⟨#[]⟩] rfl rfl 34 _ (alloc_at rfl _) stSize rfl (rt_one _ _ _) ?_))
    refine wp_gen (Lw w ((w3.heap.size, #[.string ⟨#[]⟩, .string ⟨#[]⟩, .string ⟨#[]⟩, .slice none 0 0, .slice none 0 0, .string ⟨#[]⟩, .slice none 0 0, .slice none 0 0, .string ⟨#[]⟩, .int .i64 0, .int .i64 0, .string ⟨#[]⟩, .string ⟨#[]⟩, .slice none 0 0, .slice none 0 0, .slice none 0 0, .string ⟨#[]⟩, .int .i64 0, .int .i64 0, .string ⟨#[]⟩, .string ⟨#[]⟩, .slice none 0 0, .string ⟨#[]⟩]) :: (w2.heap.size, #[.string ⟨#[]⟩, .string ⟨#[]⟩, .string ⟨#[]⟩, .slice none 0 0, .slice none 0 0, .string ⟨#[]⟩, .slice none 0 0, .slice none 0 0, .string ⟨#[]⟩, .int .i64 0, .int .i64 0, .string ⟨#[]⟩, .string ⟨#[]⟩, .slice none 0 0, .slice none 0 0, .slice none 0 0, .string ⟨#[]⟩, .int .i64 0, .int .i64 0, .string ⟨#[]⟩, .string ⟨#[]⟩, .slice none 0 0, .string ⟨#[]⟩]) :: (w1.heap.size, #[.string ⟨#[]⟩, .string ⟨#[]⟩, .string ⟨#[]⟩, .slice none 0 0, .slice none 0 0, .string ⟨#[]⟩, .slice none 0 0, .slice none 0 0, .string ⟨#[]⟩, .int .i64 0, .int .i64 0, .string ⟨#[]⟩, .string ⟨#[]⟩, .slice none 0 0, .slice none 0 0, .slice none 0 0, .string ⟨#[]⟩, .int .i64 0, .int .i64 0, .string ⟨#[]⟩, .string ⟨#[]⟩, .slice none 0 0, .string ⟨#[]⟩]) :: [])) ((HV2.out.step HB3.out).push _) fun v3 hv3 => ?_
    have HV3 := Lib.hid hv3
    clear hv3
    go_upto_region 6 with (first
      | (go_at_call 7; (with_reducible refine (no_unwrite tb ro _ (by omega) (by omega) (HL.out.keep HV3.out.lo (Nat.le_refl _)) hq).mono ?_); rintro e w4 ⟨rfl, hb4⟩; have HB4 := Lib.hid hb4; clear hb4)
      | (refine wpList_store_row rfl 34 (.tmp 11) (.tmp 51) rfl w4.heap.size #[.string ⟨#[]⟩, .string ⟨#[]⟩, .string ⟨#[]⟩, .slice none 0 0, .slice none 0 0, .string ⟨#[]⟩, .slice none 0 0, .slice none 0 0, .string ⟨#[]⟩, .int .i64 0, .int .i64 0, .string ⟨#[]⟩, .string ⟨#[]⟩, .slice none 0 0, .slice none 0 0, .slice none 0 0, .string ⟨#[]⟩, .int .i64 0, .int .i64 0, .string ⟨#[]⟩, .string ⟨#[]⟩, .slice none 0 0, .string ⟨#[]⟩] rfl rfl 34 _ (alloc_at rfl _) stSize rfl (rt_one _ _ _) ?_))
    refine wp_gen (Lw w ((w4.heap.size, #[.string ⟨#[]⟩, .string ⟨#[]⟩, .string ⟨#[]⟩, .slice none 0 0, .slice none 0 0, .string ⟨#[]⟩, .slice none 0 0, .slice none 0 0, .string ⟨#[]⟩, .int .i64 0, .int .i64 0, .string ⟨#[]⟩, .string ⟨#[]⟩, .slice none 0 0, .slice none 0 0, .slice none 0 0, .string ⟨#[]⟩, .int .i64 0, .int .i64 0, .string ⟨#[]⟩, .string ⟨#[]⟩, .slice none 0 0, .string ⟨#[]⟩]) :: (w3.heap.size, #[.string ⟨#[]⟩, .string ⟨#[]⟩, .string ⟨#[]⟩, .slice none 0 0, .slice none 0 0, .string ⟨#[]⟩, .slice none 0 0, .slice none 0 0, .string ⟨#[]⟩, .int .i64 0, .int .i64 0, .string ⟨#[]⟩, .string ⟨#[]⟩, .slice none 0 0, .slice none 0 0, .slice none 0 0, .string ⟨#[]⟩, .int .i64 0, .int .i64 0, .string ⟨#[]⟩, .string ⟨#[]⟩, .slice none 0 0, .string ⟨#[]⟩]) :: (w2.heap.size, #[.string ⟨#[]⟩, .string ⟨#[]⟩, .string ⟨#[]⟩, .slice none 0 0, .slice none 0 0, .string ⟨#[]⟩, .slice none 0 0, .slice none 0 0, .string ⟨#[]⟩, .int .i64 0, .int .i64 0, .string ⟨#[]⟩, .string ⟨#[]⟩, .slice none 0 0, .slice none 0 0, .slice none 0 0, .string ⟨#[]⟩, .int .i64 0, .int .i64 0, .string ⟨#[]⟩, .string ⟨#[]⟩, .slice none 0 0, .string ⟨#[]⟩]) :: (w1.heap.size, #[.string ⟨#[]⟩, .string ⟨#[]⟩, .string ⟨#[]⟩, .slice none 0 0, .slice none 0 0, .string ⟨#[]⟩, .slice none 0 0, .slice none 0 0, .string ⟨#[]⟩, .int .i64 0, .int .i64 0, .string ⟨#[]⟩, .string ⟨#[]⟩, .slice none 0 0, .slice none 0 0, .slice none 0 0, .string ⟨#[]⟩, .int .i64 0, .int .i64 0, .string ⟨#[]⟩, .string ⟨#[]⟩, .slice none 0 0, .string ⟨#[]⟩]) :: [])) ((HV3.out.step HB4.out).push _) fun v4 hv4 => ?_
    have HV4 := Lib.hid hv4
    clear hv4
    go_wp2_with (go_at_call 8; (with_reducible refine (HA.out _ (HL.out.keep HV4.out.lo (Nat.le_refl _))).mono ?_); rintro e w5 ⟨rfl, hb5⟩; have HB5 := Lib.hid (HV4.out.lo.trans (hb5.mono HV4.out.lo.size)); clear hb5)
    go_ret
    exact ⟨rfl, HB5.out⟩
end Go.Proofs.YtlilnbcklplmfaaGreatDoor

/- The chapter's examples of layer 5: the three texts are parsed. -/
namespace Go.Proofs.YtlilnbcklplmfaaGreatDoor
open Go.RowKit Go.Lib

set_option maxRecDepth 100000 in
set_option maxHeartbeats 4000000 in
theorem one_dropTable (g : Nat) (A : Option Addr) (c : Nat) (l : List Tn) (at' : Nat) (failed : Bool) (s : ByteArray) (r : Nat) (es : List (ByteArray × Value)) (cs : Array Value) (at2 : Nat) (f2 : Bool) (w : World) (hz : Sz w g A c l at' failed) (hl : l.length ≤ 100000) (ha : at' ≤ 100000) (ht : Ny l at' failed ⟨1, s⟩)
    (hm : MapAt w r es) (hf : es.find? (fun y => s == y.1) = some (s, .func (.func 43) #[.pointer (some ⟨g, 0, none⟩)] #[])) (h1 : cs.all (·.oneCell') = true) (h23 : cs.size = 23)
    (hr : ∀ W : World, Sz W g A c l (at' + 1) failed → w.heap.size ≤ W.heap.size → Calls Tryz.prog 43 #[.pointer (some ⟨g, 0, none⟩)] W fun e w' => e = .returned (.agg cs) ∧ Sz w' g A c l at2 f2 ∧ W.grownBy w' (some g)) :
    Calls Tryz.prog 41 #[.pointer (some ⟨g, 0, none⟩), .map (some r)] w fun e w' => e = .returned (.agg cs) ∧ Sz w' g A c l at2 f2 ∧ w.grownBy w' (some g) := by
  have hgl := hz.lt
  have HZ := Lib.hid (And.intro hz ht)
  have HR := Lib.hid hr
  have HM := Lib.hid hm
  have HF := Lib.hid hf
  clear hz ht hr hm hf
  go_enter Tryz.func41, Tryz.ntmps41
  go_wp2_with (first
    | (go_at_call 84; (with_reducible refine (snext_any g A c l at' failed _ (HZ.out.1.alloc _) hl ⟨1, s⟩ HZ.out.2).mono ?_); rintro e w1 ⟨rfl, hb1⟩; have HB1 : Hid (Below w.heap.size w (w1.alloc (.cells #[.int .i64 1, .string s] 89))) := (((Below.refl _ _).alloc (Nat.le_refl _) _).trans (hb1.mono (by simp))).alloc (by have := hb1.size; simp at this; omega) _; have HM1 := Lib.hid (HM.out.below HB1.out); have HS1 := Lib.hid (HZ.out.1.below HB1.out); have d1 := HS1.out.c1; have df := HS1.out.fz 1; have dl := HS1.out.lt; have HQ1 : Hid ((w1.alloc (.cells #[.int .i64 1, .string s] 89)).heap[w.heap.size]? = some (.cells #[.string ⟨#[]⟩, .string ⟨#[]⟩, .string ⟨#[]⟩, .slice none 0 0, .slice none 0 0, .string ⟨#[]⟩, .slice none 0 0, .slice none 0 0, .string ⟨#[]⟩, .int .i64 0, .int .i64 0, .string ⟨#[]⟩, .string ⟨#[]⟩, .slice none 0 0, .slice none 0 0, .slice none 0 0, .string ⟨#[]⟩, .int .i64 0, .int .i64 0, .string ⟨#[]⟩, .string ⟨#[]⟩, .slice none 0 0, .string ⟨#[]⟩] 34 (0, 0))) := (Below.heap_alloc _ _ _ (by have := hb1.size; simp at this; omega)).trans ((hb1.block _ (by simp)).trans (alloc_at rfl _)); have hq1 : w.heap.size < w1.heap.size := (by have := hb1.size; simp at this; omega); have hne : ¬ w1.heap.size = g := (by omega); clear hb1)
    | (refine wpList_look_ok _ rfl _ _ 93 rfl 9 61 Tryz.underlying93 Tryz.underlying9 r es rfl HM1.out s rfl _ HF.out ?_)
    | (go_at_call 43; have hgo : Sz ((w1.alloc (.cells #[.int .i64 1, .string s] 89)).setCell ⟨g, 1, none⟩ (.int .i64 ((at' : Int) + 1))) g A c l (at' + 1) failed := HS1.out.goto (at' + 1); (with_reducible refine (HR.out _ hgo (by simp; omega)).mono ?_); rintro e w2 ⟨rfl, hz2, hg2⟩; have hb2 : w2.heap[w.heap.size]? = some (.cells #[.string ⟨#[]⟩, .string ⟨#[]⟩, .string ⟨#[]⟩, .slice none 0 0, .slice none 0 0, .string ⟨#[]⟩, .slice none 0 0, .slice none 0 0, .string ⟨#[]⟩, .int .i64 0, .int .i64 0, .string ⟨#[]⟩, .string ⟨#[]⟩, .slice none 0 0, .slice none 0 0, .slice none 0 0, .string ⟨#[]⟩, .int .i64 0, .int .i64 0, .string ⟨#[]⟩, .string ⟨#[]⟩, .slice none 0 0, .string ⟨#[]⟩] 34 (0, 0)) := (hg2.block _ (by simp; omega) (fun e => by injection e with e; omega)).trans ((Below.heap_setCell _ _ _ _ (by show w.heap.size ≠ g; omega)).trans HQ1.out); have HZ2 := Lib.hid hz2; have HG2 : Hid (w.grownBy w2 (some g)) := grow_trans (grow_trans (grow_below HB1.out _) (grow_set _ _ _ _)) hg2; clear hz2 hg2)
    | (refine wpList_store_row rfl 34 (.tmp 4) (.tmp 36) rfl w.heap.size cs rfl rfl 34 _ hb2 (by rw [h23]; exact stSize) (by rw [h23]; rfl) h1 ?_))
  refine bodyPost_ret (results_cell_row rfl _ _ w.heap.size 34 cs (0, 0) _ rfl (setRow_heap _ _ _ _ _ _ hb2) Tryz.underlying34 rfl (by rw [h23]; exact stSize)) rfl ⟨rfl, HZ2.out.row _ hgl, grow_row _ HG2.out (Nat.le_refl _)⟩

theorem find_dropTable (g : Nat) : (([(⟨#[67, 82, 69, 65, 84, 69]⟩, .func (.func 42) #[.pointer (some ⟨g, 0, none⟩)] #[]), (⟨#[68, 82, 79, 80]⟩, .func (.func 43) #[.pointer (some ⟨g, 0, none⟩)] #[]), (⟨#[73, 78, 83, 69, 82, 84]⟩, .func (.func 44) #[.pointer (some ⟨g, 0, none⟩)] #[]), (⟨#[85, 80, 68, 65, 84, 69]⟩, .func (.func 45) #[.pointer (some ⟨g, 0, none⟩)] #[]), (⟨#[68, 69, 76, 69, 84, 69]⟩, .func (.func 46) #[.pointer (some ⟨g, 0, none⟩)] #[]), (⟨#[83, 69, 76, 69, 67, 84]⟩, .func (.func 47) #[.pointer (some ⟨g, 0, none⟩)] #[]), (⟨#[71, 82, 65, 78, 84]⟩, .func (.func 48) #[.pointer (some ⟨g, 0, none⟩)] #[]), (⟨#[82, 69, 86, 79, 75, 69]⟩, .func (.func 49) #[.pointer (some ⟨g, 0, none⟩)] #[]), (⟨#[77, 73, 71, 82, 65, 84, 69]⟩, .func (.func 50) #[.pointer (some ⟨g, 0, none⟩)] #[])] : List (ByteArray × Value)).find? fun y => (⟨#[68, 82, 79, 80]⟩ : ByteArray) == y.1) = some (⟨#[68, 82, 79, 80]⟩, .func (.func 43) #[.pointer (some ⟨g, 0, none⟩)] #[]) := by kernel_rfl
set_option maxRecDepth 100000 in
set_option maxHeartbeats 4000000 in
theorem statement_dropTable (g : Nat) (A : Option Addr) (c : Nat) (l : List Tn) (at' : Nat) (failed : Bool) (cs : Array Value) (at2 : Nat) (f2 : Bool) (w : World) (hz : Sz w g A c l at' failed) (hl : l.length ≤ 100000) (ha : at' ≤ 100000) (ht : Ny l at' failed ⟨1, ⟨#[68, 82, 79, 80]⟩⟩)
    (h1 : cs.all (·.oneCell') = true) (h23 : cs.size = 23)
    (hr : ∀ W : World, Sz W g A c l (at' + 1) failed → w.heap.size ≤ W.heap.size → Calls Tryz.prog 43 #[.pointer (some ⟨g, 0, none⟩)] W fun e w' => e = .returned (.agg cs) ∧ Sz w' g A c l at2 f2 ∧ W.grownBy w' (some g)) :
    Calls Tryz.prog 18 #[.pointer (some ⟨g, 0, none⟩)] w fun e w' => e = .returned (.agg cs) ∧ Sz w' g A c l at2 f2 ∧ w.grownBy w' (some g) := by
  have hmm := @run_makeMap Tryz.prog
  have H0 := Lib.hid (Ms.start hz)
  have HT := Lib.hid ht
  have HR := Lib.hid hr
  have hlg := hz.lt
  clear hz ht hr
  go_enter Tryz.func18, Tryz.ntmps18
  go_wp2_with (with_reducible refine wpList_insert_new _ rfl _ _ _ 93 rfl 9 61 Tryz.underlying93 Tryz.underlying9 (w.heap.size + 1) [] rfl H0.out.map ⟨#[67, 82, 69, 65, 84, 69]⟩ _ rfl rfl ?n0 ?k0)
  case n0 => intro y hy; cases hy
  intro y0 hm0 hg0
  have H1 : Hid (Ms w g A c l at' failed [(⟨#[67, 82, 69, 65, 84, 69]⟩, .func (.func 42) #[.pointer (some ⟨g, 0, none⟩)] #[])] y0) := Lib.hid (H0.out.ins hm0 hg0)
  clear hm0 hg0 H0
  go_wp2_with (with_reducible refine wpList_insert_new _ rfl _ _ _ 93 rfl 9 61 Tryz.underlying93 Tryz.underlying9 (w.heap.size + 1) [(⟨#[67, 82, 69, 65, 84, 69]⟩, .func (.func 42) #[.pointer (some ⟨g, 0, none⟩)] #[])] rfl H1.out.map ⟨#[68, 82, 79, 80]⟩ _ rfl rfl ?n1 ?k1)
  case n1 => intro y hy; simp at hy; rcases hy with rfl <;> rfl
  intro y1 hm1 hg1
  have H2 : Hid (Ms w g A c l at' failed [(⟨#[67, 82, 69, 65, 84, 69]⟩, .func (.func 42) #[.pointer (some ⟨g, 0, none⟩)] #[]), (⟨#[68, 82, 79, 80]⟩, .func (.func 43) #[.pointer (some ⟨g, 0, none⟩)] #[])] y1) := Lib.hid (H1.out.ins hm1 hg1)
  clear hm1 hg1 H1
  go_wp2_with (with_reducible refine wpList_insert_new _ rfl _ _ _ 93 rfl 9 61 Tryz.underlying93 Tryz.underlying9 (w.heap.size + 1) [(⟨#[67, 82, 69, 65, 84, 69]⟩, .func (.func 42) #[.pointer (some ⟨g, 0, none⟩)] #[]), (⟨#[68, 82, 79, 80]⟩, .func (.func 43) #[.pointer (some ⟨g, 0, none⟩)] #[])] rfl H2.out.map ⟨#[73, 78, 83, 69, 82, 84]⟩ _ rfl rfl ?n2 ?k2)
  case n2 => intro y hy; simp at hy; rcases hy with rfl | rfl <;> rfl
  intro y2 hm2 hg2
  have H3 : Hid (Ms w g A c l at' failed [(⟨#[67, 82, 69, 65, 84, 69]⟩, .func (.func 42) #[.pointer (some ⟨g, 0, none⟩)] #[]), (⟨#[68, 82, 79, 80]⟩, .func (.func 43) #[.pointer (some ⟨g, 0, none⟩)] #[]), (⟨#[73, 78, 83, 69, 82, 84]⟩, .func (.func 44) #[.pointer (some ⟨g, 0, none⟩)] #[])] y2) := Lib.hid (H2.out.ins hm2 hg2)
  clear hm2 hg2 H2
  go_wp2_with (with_reducible refine wpList_insert_new _ rfl _ _ _ 93 rfl 9 61 Tryz.underlying93 Tryz.underlying9 (w.heap.size + 1) [(⟨#[67, 82, 69, 65, 84, 69]⟩, .func (.func 42) #[.pointer (some ⟨g, 0, none⟩)] #[]), (⟨#[68, 82, 79, 80]⟩, .func (.func 43) #[.pointer (some ⟨g, 0, none⟩)] #[]), (⟨#[73, 78, 83, 69, 82, 84]⟩, .func (.func 44) #[.pointer (some ⟨g, 0, none⟩)] #[])] rfl H3.out.map ⟨#[85, 80, 68, 65, 84, 69]⟩ _ rfl rfl ?n3 ?k3)
  case n3 => intro y hy; simp at hy; rcases hy with rfl | rfl | rfl <;> rfl
  intro y3 hm3 hg3
  have H4 : Hid (Ms w g A c l at' failed [(⟨#[67, 82, 69, 65, 84, 69]⟩, .func (.func 42) #[.pointer (some ⟨g, 0, none⟩)] #[]), (⟨#[68, 82, 79, 80]⟩, .func (.func 43) #[.pointer (some ⟨g, 0, none⟩)] #[]), (⟨#[73, 78, 83, 69, 82, 84]⟩, .func (.func 44) #[.pointer (some ⟨g, 0, none⟩)] #[]), (⟨#[85, 80, 68, 65, 84, 69]⟩, .func (.func 45) #[.pointer (some ⟨g, 0, none⟩)] #[])] y3) := Lib.hid (H3.out.ins hm3 hg3)
  clear hm3 hg3 H3
  go_wp2_with (with_reducible refine wpList_insert_new _ rfl _ _ _ 93 rfl 9 61 Tryz.underlying93 Tryz.underlying9 (w.heap.size + 1) [(⟨#[67, 82, 69, 65, 84, 69]⟩, .func (.func 42) #[.pointer (some ⟨g, 0, none⟩)] #[]), (⟨#[68, 82, 79, 80]⟩, .func (.func 43) #[.pointer (some ⟨g, 0, none⟩)] #[]), (⟨#[73, 78, 83, 69, 82, 84]⟩, .func (.func 44) #[.pointer (some ⟨g, 0, none⟩)] #[]), (⟨#[85, 80, 68, 65, 84, 69]⟩, .func (.func 45) #[.pointer (some ⟨g, 0, none⟩)] #[])] rfl H4.out.map ⟨#[68, 69, 76, 69, 84, 69]⟩ _ rfl rfl ?n4 ?k4)
  case n4 => intro y hy; simp at hy; rcases hy with rfl | rfl | rfl | rfl <;> rfl
  intro y4 hm4 hg4
  have H5 : Hid (Ms w g A c l at' failed [(⟨#[67, 82, 69, 65, 84, 69]⟩, .func (.func 42) #[.pointer (some ⟨g, 0, none⟩)] #[]), (⟨#[68, 82, 79, 80]⟩, .func (.func 43) #[.pointer (some ⟨g, 0, none⟩)] #[]), (⟨#[73, 78, 83, 69, 82, 84]⟩, .func (.func 44) #[.pointer (some ⟨g, 0, none⟩)] #[]), (⟨#[85, 80, 68, 65, 84, 69]⟩, .func (.func 45) #[.pointer (some ⟨g, 0, none⟩)] #[]), (⟨#[68, 69, 76, 69, 84, 69]⟩, .func (.func 46) #[.pointer (some ⟨g, 0, none⟩)] #[])] y4) := Lib.hid (H4.out.ins hm4 hg4)
  clear hm4 hg4 H4
  go_wp2_with (with_reducible refine wpList_insert_new _ rfl _ _ _ 93 rfl 9 61 Tryz.underlying93 Tryz.underlying9 (w.heap.size + 1) [(⟨#[67, 82, 69, 65, 84, 69]⟩, .func (.func 42) #[.pointer (some ⟨g, 0, none⟩)] #[]), (⟨#[68, 82, 79, 80]⟩, .func (.func 43) #[.pointer (some ⟨g, 0, none⟩)] #[]), (⟨#[73, 78, 83, 69, 82, 84]⟩, .func (.func 44) #[.pointer (some ⟨g, 0, none⟩)] #[]), (⟨#[85, 80, 68, 65, 84, 69]⟩, .func (.func 45) #[.pointer (some ⟨g, 0, none⟩)] #[]), (⟨#[68, 69, 76, 69, 84, 69]⟩, .func (.func 46) #[.pointer (some ⟨g, 0, none⟩)] #[])] rfl H5.out.map ⟨#[83, 69, 76, 69, 67, 84]⟩ _ rfl rfl ?n5 ?k5)
  case n5 => intro y hy; simp at hy; rcases hy with rfl | rfl | rfl | rfl | rfl <;> rfl
  intro y5 hm5 hg5
  have H6 : Hid (Ms w g A c l at' failed [(⟨#[67, 82, 69, 65, 84, 69]⟩, .func (.func 42) #[.pointer (some ⟨g, 0, none⟩)] #[]), (⟨#[68, 82, 79, 80]⟩, .func (.func 43) #[.pointer (some ⟨g, 0, none⟩)] #[]), (⟨#[73, 78, 83, 69, 82, 84]⟩, .func (.func 44) #[.pointer (some ⟨g, 0, none⟩)] #[]), (⟨#[85, 80, 68, 65, 84, 69]⟩, .func (.func 45) #[.pointer (some ⟨g, 0, none⟩)] #[]), (⟨#[68, 69, 76, 69, 84, 69]⟩, .func (.func 46) #[.pointer (some ⟨g, 0, none⟩)] #[]), (⟨#[83, 69, 76, 69, 67, 84]⟩, .func (.func 47) #[.pointer (some ⟨g, 0, none⟩)] #[])] y5) := Lib.hid (H5.out.ins hm5 hg5)
  clear hm5 hg5 H5
  go_wp2_with (with_reducible refine wpList_insert_new _ rfl _ _ _ 93 rfl 9 61 Tryz.underlying93 Tryz.underlying9 (w.heap.size + 1) [(⟨#[67, 82, 69, 65, 84, 69]⟩, .func (.func 42) #[.pointer (some ⟨g, 0, none⟩)] #[]), (⟨#[68, 82, 79, 80]⟩, .func (.func 43) #[.pointer (some ⟨g, 0, none⟩)] #[]), (⟨#[73, 78, 83, 69, 82, 84]⟩, .func (.func 44) #[.pointer (some ⟨g, 0, none⟩)] #[]), (⟨#[85, 80, 68, 65, 84, 69]⟩, .func (.func 45) #[.pointer (some ⟨g, 0, none⟩)] #[]), (⟨#[68, 69, 76, 69, 84, 69]⟩, .func (.func 46) #[.pointer (some ⟨g, 0, none⟩)] #[]), (⟨#[83, 69, 76, 69, 67, 84]⟩, .func (.func 47) #[.pointer (some ⟨g, 0, none⟩)] #[])] rfl H6.out.map ⟨#[71, 82, 65, 78, 84]⟩ _ rfl rfl ?n6 ?k6)
  case n6 => intro y hy; simp at hy; rcases hy with rfl | rfl | rfl | rfl | rfl | rfl <;> rfl
  intro y6 hm6 hg6
  have H7 : Hid (Ms w g A c l at' failed [(⟨#[67, 82, 69, 65, 84, 69]⟩, .func (.func 42) #[.pointer (some ⟨g, 0, none⟩)] #[]), (⟨#[68, 82, 79, 80]⟩, .func (.func 43) #[.pointer (some ⟨g, 0, none⟩)] #[]), (⟨#[73, 78, 83, 69, 82, 84]⟩, .func (.func 44) #[.pointer (some ⟨g, 0, none⟩)] #[]), (⟨#[85, 80, 68, 65, 84, 69]⟩, .func (.func 45) #[.pointer (some ⟨g, 0, none⟩)] #[]), (⟨#[68, 69, 76, 69, 84, 69]⟩, .func (.func 46) #[.pointer (some ⟨g, 0, none⟩)] #[]), (⟨#[83, 69, 76, 69, 67, 84]⟩, .func (.func 47) #[.pointer (some ⟨g, 0, none⟩)] #[]), (⟨#[71, 82, 65, 78, 84]⟩, .func (.func 48) #[.pointer (some ⟨g, 0, none⟩)] #[])] y6) := Lib.hid (H6.out.ins hm6 hg6)
  clear hm6 hg6 H6
  go_wp2_with (with_reducible refine wpList_insert_new _ rfl _ _ _ 93 rfl 9 61 Tryz.underlying93 Tryz.underlying9 (w.heap.size + 1) [(⟨#[67, 82, 69, 65, 84, 69]⟩, .func (.func 42) #[.pointer (some ⟨g, 0, none⟩)] #[]), (⟨#[68, 82, 79, 80]⟩, .func (.func 43) #[.pointer (some ⟨g, 0, none⟩)] #[]), (⟨#[73, 78, 83, 69, 82, 84]⟩, .func (.func 44) #[.pointer (some ⟨g, 0, none⟩)] #[]), (⟨#[85, 80, 68, 65, 84, 69]⟩, .func (.func 45) #[.pointer (some ⟨g, 0, none⟩)] #[]), (⟨#[68, 69, 76, 69, 84, 69]⟩, .func (.func 46) #[.pointer (some ⟨g, 0, none⟩)] #[]), (⟨#[83, 69, 76, 69, 67, 84]⟩, .func (.func 47) #[.pointer (some ⟨g, 0, none⟩)] #[]), (⟨#[71, 82, 65, 78, 84]⟩, .func (.func 48) #[.pointer (some ⟨g, 0, none⟩)] #[])] rfl H7.out.map ⟨#[82, 69, 86, 79, 75, 69]⟩ _ rfl rfl ?n7 ?k7)
  case n7 => intro y hy; simp at hy; rcases hy with rfl | rfl | rfl | rfl | rfl | rfl | rfl <;> rfl
  intro y7 hm7 hg7
  have H8 : Hid (Ms w g A c l at' failed [(⟨#[67, 82, 69, 65, 84, 69]⟩, .func (.func 42) #[.pointer (some ⟨g, 0, none⟩)] #[]), (⟨#[68, 82, 79, 80]⟩, .func (.func 43) #[.pointer (some ⟨g, 0, none⟩)] #[]), (⟨#[73, 78, 83, 69, 82, 84]⟩, .func (.func 44) #[.pointer (some ⟨g, 0, none⟩)] #[]), (⟨#[85, 80, 68, 65, 84, 69]⟩, .func (.func 45) #[.pointer (some ⟨g, 0, none⟩)] #[]), (⟨#[68, 69, 76, 69, 84, 69]⟩, .func (.func 46) #[.pointer (some ⟨g, 0, none⟩)] #[]), (⟨#[83, 69, 76, 69, 67, 84]⟩, .func (.func 47) #[.pointer (some ⟨g, 0, none⟩)] #[]), (⟨#[71, 82, 65, 78, 84]⟩, .func (.func 48) #[.pointer (some ⟨g, 0, none⟩)] #[]), (⟨#[82, 69, 86, 79, 75, 69]⟩, .func (.func 49) #[.pointer (some ⟨g, 0, none⟩)] #[])] y7) := Lib.hid (H7.out.ins hm7 hg7)
  clear hm7 hg7 H7
  go_wp2_with (with_reducible refine wpList_insert_new _ rfl _ _ _ 93 rfl 9 61 Tryz.underlying93 Tryz.underlying9 (w.heap.size + 1) [(⟨#[67, 82, 69, 65, 84, 69]⟩, .func (.func 42) #[.pointer (some ⟨g, 0, none⟩)] #[]), (⟨#[68, 82, 79, 80]⟩, .func (.func 43) #[.pointer (some ⟨g, 0, none⟩)] #[]), (⟨#[73, 78, 83, 69, 82, 84]⟩, .func (.func 44) #[.pointer (some ⟨g, 0, none⟩)] #[]), (⟨#[85, 80, 68, 65, 84, 69]⟩, .func (.func 45) #[.pointer (some ⟨g, 0, none⟩)] #[]), (⟨#[68, 69, 76, 69, 84, 69]⟩, .func (.func 46) #[.pointer (some ⟨g, 0, none⟩)] #[]), (⟨#[83, 69, 76, 69, 67, 84]⟩, .func (.func 47) #[.pointer (some ⟨g, 0, none⟩)] #[]), (⟨#[71, 82, 65, 78, 84]⟩, .func (.func 48) #[.pointer (some ⟨g, 0, none⟩)] #[]), (⟨#[82, 69, 86, 79, 75, 69]⟩, .func (.func 49) #[.pointer (some ⟨g, 0, none⟩)] #[])] rfl H8.out.map ⟨#[77, 73, 71, 82, 65, 84, 69]⟩ _ rfl rfl ?n8 ?k8)
  case n8 => intro y hy; simp at hy; rcases hy with rfl | rfl | rfl | rfl | rfl | rfl | rfl | rfl <;> rfl
  intro y8 hm8 hg8
  have H9 : Hid (Ms w g A c l at' failed [(⟨#[67, 82, 69, 65, 84, 69]⟩, .func (.func 42) #[.pointer (some ⟨g, 0, none⟩)] #[]), (⟨#[68, 82, 79, 80]⟩, .func (.func 43) #[.pointer (some ⟨g, 0, none⟩)] #[]), (⟨#[73, 78, 83, 69, 82, 84]⟩, .func (.func 44) #[.pointer (some ⟨g, 0, none⟩)] #[]), (⟨#[85, 80, 68, 65, 84, 69]⟩, .func (.func 45) #[.pointer (some ⟨g, 0, none⟩)] #[]), (⟨#[68, 69, 76, 69, 84, 69]⟩, .func (.func 46) #[.pointer (some ⟨g, 0, none⟩)] #[]), (⟨#[83, 69, 76, 69, 67, 84]⟩, .func (.func 47) #[.pointer (some ⟨g, 0, none⟩)] #[]), (⟨#[71, 82, 65, 78, 84]⟩, .func (.func 48) #[.pointer (some ⟨g, 0, none⟩)] #[]), (⟨#[82, 69, 86, 79, 75, 69]⟩, .func (.func 49) #[.pointer (some ⟨g, 0, none⟩)] #[]), (⟨#[77, 73, 71, 82, 65, 84, 69]⟩, .func (.func 50) #[.pointer (some ⟨g, 0, none⟩)] #[])] y8) := Lib.hid (H8.out.ins hm8 hg8)
  clear hm8 hg8 H8
  go_wp2_with (first
    | (go_at_call 41; (with_reducible refine (one_dropTable g A c l at' failed ⟨#[68, 82, 79, 80]⟩ (w.heap.size + 1) [(⟨#[67, 82, 69, 65, 84, 69]⟩, .func (.func 42) #[.pointer (some ⟨g, 0, none⟩)] #[]), (⟨#[68, 82, 79, 80]⟩, .func (.func 43) #[.pointer (some ⟨g, 0, none⟩)] #[]), (⟨#[73, 78, 83, 69, 82, 84]⟩, .func (.func 44) #[.pointer (some ⟨g, 0, none⟩)] #[]), (⟨#[85, 80, 68, 65, 84, 69]⟩, .func (.func 45) #[.pointer (some ⟨g, 0, none⟩)] #[]), (⟨#[68, 69, 76, 69, 84, 69]⟩, .func (.func 46) #[.pointer (some ⟨g, 0, none⟩)] #[]), (⟨#[83, 69, 76, 69, 67, 84]⟩, .func (.func 47) #[.pointer (some ⟨g, 0, none⟩)] #[]), (⟨#[71, 82, 65, 78, 84]⟩, .func (.func 48) #[.pointer (some ⟨g, 0, none⟩)] #[]), (⟨#[82, 69, 86, 79, 75, 69]⟩, .func (.func 49) #[.pointer (some ⟨g, 0, none⟩)] #[]), (⟨#[77, 73, 71, 82, 65, 84, 69]⟩, .func (.func 50) #[.pointer (some ⟨g, 0, none⟩)] #[])] cs at2 f2 _ H9.out.sz hl ha HT.out H9.out.map (find_dropTable g) h1 h23 (fun W hW hs => HR.out W hW (Nat.le_trans H9.out.gr.size hs))).mono ?_); rintro e w2 ⟨rfl, hz2, hg2⟩; have hb2 : w2.heap[w.heap.size]? = some (.cells #[.string ⟨#[]⟩, .string ⟨#[]⟩, .string ⟨#[]⟩, .slice none 0 0, .slice none 0 0, .string ⟨#[]⟩, .slice none 0 0, .slice none 0 0, .string ⟨#[]⟩, .int .i64 0, .int .i64 0, .string ⟨#[]⟩, .string ⟨#[]⟩, .slice none 0 0, .slice none 0 0, .slice none 0 0, .string ⟨#[]⟩, .int .i64 0, .int .i64 0, .string ⟨#[]⟩, .string ⟨#[]⟩, .slice none 0 0, .string ⟨#[]⟩] 34 (0, 0)) := (hg2.block _ (lt_of_block H9.out.res) (fun e => by injection e with e; omega)).trans H9.out.res; have HZ2 := Lib.hid hz2; have HG2 := Lib.hid (grow_trans H9.out.gr hg2); clear hz2 hg2)
    | (refine wpList_store_row rfl 34 (.tmp 2) (.tmp 24) rfl w.heap.size cs rfl rfl 34 _ hb2 (by rw [h23]; exact stSize) (by rw [h23]; rfl) h1 ?_))
  refine bodyPost_ret (results_cell_row rfl _ _ w.heap.size 34 cs (0, 0) _ rfl (setRow_heap _ _ _ _ _ _ hb2) Tryz.underlying34 rfl (by rw [h23]; exact stSize)) rfl ⟨rfl, HZ2.out.row _ hlg, grow_row _ HG2.out (Nat.le_refl _)⟩

def tsD : List Tk := [⟨1, [68, 82, 79, 80]⟩, ⟨1, [116]⟩]
theorem ld2 : (tsD.map tnOf).length ≤ 100000 := by decide
theorem nd0 : Ny (tsD.map tnOf) 0 false ⟨1, ⟨#[68, 82, 79, 80]⟩⟩ := .inr (.inr ⟨rfl, rfl⟩)
theorem nd1 : Ny (tsD.map tnOf) 1 false ⟨1, ⟨#[116]⟩⟩ := .inr (.inr ⟨rfl, rfl⟩)
theorem nd1' : Ny (tsD.map tnOf) 1 true ⟨0, ⟨#[]⟩⟩ := .inl ⟨rfl, rfl⟩
theorem nmof_z : nmOf ⟨0, ⟨#[]⟩⟩ = ⟨#[]⟩ := by unfold nmOf; rw [isNm_z]; rfl
set_option maxRecDepth 100000 in
set_option maxHeartbeats 4000000 in
theorem sdrop_no (g : Nat) (A : Option Addr) (c : Nat) (w : World) (hz : Sz w g A c (tsD.map tnOf) 1 false) :
    Calls Tryz.prog 43 #[.pointer (some ⟨g, 0, none⟩)] w fun e w' => e = .returned (.agg (rtC ⟨#[100, 114, 111, 112]⟩ ⟨#[]⟩ ⟨#[]⟩)) ∧ Sz w' g A c (tsD.map tnOf) 1 true ∧ w.grownBy w' (some g) := by
  have HZ := Lib.hid hz
  have hgl := hz.lt
  clear hz
  go_enter Tryz.func43, Tryz.ntmps43
  go_wp2_with (first
    | (go_at_call 85; refine (must1_any g A c (tsD.map tnOf) 1 false (w.heap.size + 1) 1 ⟨#[84, 65, 66, 76, 69]⟩ ⟨1, ⟨#[116]⟩⟩ ((w.alloc (.cells #[.string ⟨#[]⟩, .string ⟨#[]⟩, .string ⟨#[]⟩, .slice none 0 0, .slice none 0 0, .string ⟨#[]⟩, .slice none 0 0, .slice none 0 0, .string ⟨#[]⟩, .int .i64 0, .int .i64 0, .string ⟨#[]⟩, .string ⟨#[]⟩, .slice none 0 0, .slice none 0 0, .slice none 0 0, .string ⟨#[]⟩, .int .i64 0, .int .i64 0, .string ⟨#[]⟩, .string ⟨#[]⟩, .slice none 0 0, .string ⟨#[]⟩] 34)).alloc (.cells #[.string ⟨#[84, 65, 66, 76, 69]⟩] 9)) ((HZ.out.alloc _).alloc _) ld2 (by omega) (by omega) (wds1 _ (by simp) _) nd1).mono ?_; rintro e w1 ⟨rfl, hz, hg⟩; rw [show isB ⟨1, ⟨#[116]⟩⟩ ⟨#[84, 65, 66, 76, 69]⟩ = false by (unfold isB; simp only [toList_data]; decide)] at hz; rw [if_neg (by decide)] at hz; have HB1 : Hid (Sz w1 g A c (tsD.map tnOf) 1 true ∧ w.grownBy w1 (some g) ∧ w1.heap[w.heap.size]? = some (.cells #[.string ⟨#[]⟩, .string ⟨#[]⟩, .string ⟨#[]⟩, .slice none 0 0, .slice none 0 0, .string ⟨#[]⟩, .slice none 0 0, .slice none 0 0, .string ⟨#[]⟩, .int .i64 0, .int .i64 0, .string ⟨#[]⟩, .string ⟨#[]⟩, .slice none 0 0, .slice none 0 0, .slice none 0 0, .string ⟨#[]⟩, .int .i64 0, .int .i64 0, .string ⟨#[]⟩, .string ⟨#[]⟩, .slice none 0 0, .string ⟨#[]⟩] 34 (0, 0))) := ⟨hz, grow_trans (grow_trans (grow_alloc _ _ _) (grow_alloc _ _ _)) hg, (hg.block _ (by simp; omega) (fun e => by injection e with e; omega)).trans ((Below.heap_alloc _ _ _ (by simp)).trans (alloc_at rfl _))⟩; clear hz hg)
    | (go_at_call 86; (with_reducible refine (sname_any g A c (tsD.map tnOf) 1 true ⟨0, ⟨#[]⟩⟩ w1 HB1.out.1 ld2 (by omega) nd1' (by decide)).mono ?_); rintro e w2 ⟨rfl, hz, hg⟩; rw [nmof_z]; rw [isNm_z] at hz; have hbx : w2.heap[w.heap.size]? = some (.cells #[.string ⟨#[]⟩, .string ⟨#[]⟩, .string ⟨#[]⟩, .slice none 0 0, .slice none 0 0, .string ⟨#[]⟩, .slice none 0 0, .slice none 0 0, .string ⟨#[]⟩, .int .i64 0, .int .i64 0, .string ⟨#[]⟩, .string ⟨#[]⟩, .slice none 0 0, .slice none 0 0, .slice none 0 0, .string ⟨#[]⟩, .int .i64 0, .int .i64 0, .string ⟨#[]⟩, .string ⟨#[]⟩, .slice none 0 0, .string ⟨#[]⟩] 34 (0, 0)) := (hg.block _ (lt_of_block HB1.out.2.2) (fun e => by injection e with e; omega)).trans HB1.out.2.2; have HB2 : Hid (Sz w2 g A c (tsD.map tnOf) 1 true ∧ w.grownBy w2 (some g)) := ⟨hz, grow_trans HB1.out.2.1 hg⟩; clear hz hg)
    | (refine wpList_buildTo rfl 34 _ rfl _ rfl (rtC ⟨#[100, 114, 111, 112]⟩ ⟨#[]⟩ ⟨#[]⟩) (by as_aux_lemma => kernel_rfl) ?_)
    | (refine wpList_store_row rfl 34 (.tmp 2) (.tmp 8) rfl w.heap.size (rtC ⟨#[100, 114, 111, 112]⟩ ⟨#[]⟩ ⟨#[]⟩) rfl rfl 34 _ hbx stSize rfl (rt_one _ _ _) ?_))
  refine bodyPost_ret (results_cell_row rfl _ _ w.heap.size 34 (rtC ⟨#[100, 114, 111, 112]⟩ ⟨#[]⟩ ⟨#[]⟩) (0, 0) _ rfl (setRow_heap _ _ _ _ _ _ hbx) Tryz.underlying34 rfl stSize) rfl ⟨rfl, HB2.out.1.row _ hgl, grow_row _ HB2.out.2 (Nat.le_refl _)⟩
theorem cut_1 : cutR (⟨#[83, 69, 76, 69, 67, 84, 32, 42, 32, 70, 82, 79, 77, 32, 116, 32, 87, 72, 69, 82, 69, 32, 107, 32, 61, 32, 49]⟩ : ByteArray).data.toList = some tsS := by kernel_rfl
theorem cut_2 : cutR (⟨#[68, 82, 79, 80, 32, 116]⟩ : ByteArray).data.toList = some tsD := by kernel_rfl
theorem cut_3 : cutR (⟨#[73, 78, 83, 69, 82, 84, 32, 73, 78, 84, 79, 32, 116, 32, 86, 65, 76, 85, 69, 83, 32, 40, 49, 44, 32, 39, 97, 39, 44, 32, 78, 85, 76, 76, 41]⟩ : ByteArray).data.toList = some tsI := by kernel_rfl
theorem parse_2 (w : World) (hl : LibE w) : Calls Tryz.prog 7 #[.string ⟨#[68, 82, 79, 80, 32, 116]⟩] w fun e w' => e = .returned (.tuple #[.agg #[.string ⟨#[]⟩, .string ⟨#[]⟩, .string ⟨#[]⟩, .slice none 0 0, .slice none 0 0, .string ⟨#[]⟩, .slice none 0 0, .slice none 0 0, .string ⟨#[]⟩, .int .i64 0, .int .i64 0, .string ⟨#[]⟩, .string ⟨#[]⟩, .slice none 0 0, .slice none 0 0, .slice none 0 0, .string ⟨#[]⟩, .int .i64 0, .int .i64 0, .string ⟨#[]⟩, .string ⟨#[]⟩, .slice none 0 0, .string ⟨#[]⟩], .int .i64 2]) ∧ Below w.heap.size w w' :=
  sparse_failed ⟨#[68, 82, 79, 80, 32, 116]⟩ w (by decide) hl tsD cut_2 (rtC ⟨#[100, 114, 111, 112]⟩ ⟨#[]⟩ ⟨#[]⟩) 1 (rt_one _ _ _) rfl fun g A cap W hz => statement_dropTable g A cap (tsD.map tnOf) 0 false (rtC ⟨#[100, 114, 111, 112]⟩ ⟨#[]⟩ ⟨#[]⟩) 1 true W hz ld2 (by omega) nd0 (rt_one _ _ _) rfl fun W1 hz1 _ => sdrop_no g A cap W1 hz1
theorem ns0 : Ny (tsS.map tnOf) 0 false ⟨1, ⟨#[83, 69, 76, 69, 67, 84]⟩⟩ := .inr (.inr ⟨rfl, rfl⟩)
theorem parse_1 (w : World) (hl : LibE w) : Calls Tryz.prog 7 #[.string ⟨#[83, 69, 76, 69, 67, 84, 32, 42, 32, 70, 82, 79, 77, 32, 116, 32, 87, 72, 69, 82, 69, 32, 107, 32, 61, 32, 49]⟩] w fun e w' => ∃ u, e = .returned (.tuple #[.agg (selC u), .int .i64 0]) ∧ u.oneCell' = true ∧ Below w.heap.size w w' := by
  refine (sparsec_done SelC selKp ⟨#[83, 69, 76, 69, 67, 84, 32, 42, 32, 70, 82, 79, 77, 32, 116, 32, 87, 72, 69, 82, 69, 32, 107, 32, 61, 32, 49]⟩ w (by decide) hl tsS cut_1 8 (fun g A cap W hz hcap => ?_) rfl (fun n W cs h hW => ?_)).mono ?_
  · obtain ⟨a, rfl, _, _⟩ := hz.tk 0 (by decide)
    exact statementc_selectFrom g (some a) cap (tsS.map tnOf) 0 false SelC selKp 8 false W hz ls8 (by omega) ns0 fun W1 hz1 => sselect_ok g a cap W1 hz1 hcap
  · obtain ⟨u, rfl, _, ht⟩ := h
    exact may_sel (fun b => n ≤ b) u W ht hW
  · rintro e w' ⟨cs, rfl, ⟨u, rfl, hu, _⟩, hb⟩
    exact ⟨u, rfl, hu, hb⟩
theorem parse_3 (w : World) (hl : LibE w) : Calls Tryz.prog 7 #[.string ⟨#[73, 78, 83, 69, 82, 84, 32, 73, 78, 84, 79, 32, 116, 32, 86, 65, 76, 85, 69, 83, 32, 40, 49, 44, 32, 39, 97, 39, 44, 32, 78, 85, 76, 76, 41]⟩] w fun e w' => ∃ A cap, e = .returned (.tuple #[.agg (insC (.slice A 3 cap)), .int .i64 0]) ∧ Below w.heap.size w w' := by
  refine (sparsec_done InsC insKp ⟨#[73, 78, 83, 69, 82, 84, 32, 73, 78, 84, 79, 32, 116, 32, 86, 65, 76, 85, 69, 83, 32, 40, 49, 44, 32, 39, 97, 39, 44, 32, 78, 85, 76, 76, 41]⟩ w (by decide) hl tsI cut_3 11 (fun g A cap W hz hcap => ?_) rfl (fun n W cs h hW => ?_)).mono ?_
  · obtain ⟨a, rfl, _, _⟩ := hz.tk 0 (by decide)
    exact statementc_insertInto g (some a) cap (tsI.map tnOf) 0 false InsC insKp 11 false W hz li11 (by omega) ni0 fun W1 hz1 => sinsert_ok g a cap W1 hz1 hcap
  · obtain ⟨v, rfl, ho⟩ := h
    obtain ⟨A, cap, rfl, hv, _, _⟩ := Vals.of_own ho
    exact may_ins A cap W hv hW
  · rintro e w' ⟨cs, rfl, ⟨v, rfl, ho⟩, hb⟩
    obtain ⟨A, cap, rfl, _⟩ := Vals.of_own ho
    exact ⟨A, cap, rfl, hb⟩
set_option maxRecDepth 100000 in
set_option maxHeartbeats 4000000 in
theorem awake5_any (w : World) (hl : LibE w) : Calls Tryz.prog 8 #[] w fun e w' => e = .returned (.bool true) ∧ Below w.heap.size w w' := by
  have HL := Lib.hid hl
  have HV0 : Hid (Lw w [] w) := Lib.hid ⟨Below.refl _ _, fun p hp => by cases hp⟩
  clear hl
  go_enter Tryz.func8, Tryz.ntmps8
  go_upto_region 2 with (first
    | (go_at_call 7; (with_reducible refine (parse_1 _ (HL.out.keep HV0.out.lo (Nat.le_refl _))).mono ?_); rintro e w1 ⟨u, rfl, hu, hb⟩; have HB1 := Lib.hid hb; clear hb)
    | (refine wpList_store_row rfl 34 (.tmp 1) (.tmp 9) rfl w1.heap.size (selC u) rfl rfl 34 _ (alloc_at rfl _) stSize rfl (sel_one u hu) ?_))
  refine wp_gen (Lw w ((w1.heap.size, (selC u)) :: [])) ((HV0.out.step HB1.out).push _) fun v1 hv1 => ?_
  have HV1 := Lib.hid hv1
  clear hv1
  go_upto_region 3 with (first
    | (go_at_call 7; (with_reducible refine (parse_2 _ (HL.out.keep HV1.out.lo (Nat.le_refl _))).mono ?_); rintro e w2 ⟨rfl, hb⟩; have HB2 := Lib.hid hb; clear hb)
    | (refine wpList_store_row rfl 34 (.tmp 3) (.tmp 13) rfl w2.heap.size #[.string ⟨#[]⟩, .string ⟨#[]⟩, .string ⟨#[]⟩, .slice none 0 0, .slice none 0 0, .string ⟨#[]⟩, .slice none 0 0, .slice none 0 0, .string ⟨#[]⟩, .int .i64 0, .int .i64 0, .string ⟨#[]⟩, .string ⟨#[]⟩, .slice none 0 0, .slice none 0 0, .slice none 0 0, .string ⟨#[]⟩, .int .i64 0, .int .i64 0, .string ⟨#[]⟩, .string ⟨#[]⟩, .slice none 0 0, .string ⟨#[]⟩] rfl rfl 34 _ (alloc_at rfl _) stSize rfl (rt_one _ _ _) ?_))
  refine wp_gen (Lw w ((w2.heap.size, #[.string ⟨#[]⟩, .string ⟨#[]⟩, .string ⟨#[]⟩, .slice none 0 0, .slice none 0 0, .string ⟨#[]⟩, .slice none 0 0, .slice none 0 0, .string ⟨#[]⟩, .int .i64 0, .int .i64 0, .string ⟨#[]⟩, .string ⟨#[]⟩, .slice none 0 0, .slice none 0 0, .slice none 0 0, .string ⟨#[]⟩, .int .i64 0, .int .i64 0, .string ⟨#[]⟩, .string ⟨#[]⟩, .slice none 0 0, .string ⟨#[]⟩]) :: [(w1.heap.size, selC u)])) ((HV1.out.step HB2.out).push _) fun v2 hv2 => ?_
  have HV2 := Lib.hid hv2
  clear hv2
  go_upto_region 4 with (first
    | (go_at_call 7; (with_reducible refine (parse_3 _ (HL.out.keep HV2.out.lo (Nat.le_refl _))).mono ?_); rintro e w3 ⟨A, cap, rfl, hb⟩; have HB3 := Lib.hid hb; clear hb)
    | (refine wpList_store_row rfl 34 (.tmp 5) (.tmp 17) rfl w3.heap.size (insC (.slice A 3 cap)) rfl rfl 34 _ (alloc_at rfl _) stSize rfl (ins_one _ rfl) ?_))
  refine wp_gen (Lw w ((w3.heap.size, (insC (.slice A 3 cap))) :: [(w2.heap.size, #[.string ⟨#[]⟩, .string ⟨#[]⟩, .string ⟨#[]⟩, .slice none 0 0, .slice none 0 0, .string ⟨#[]⟩, .slice none 0 0, .slice none 0 0, .string ⟨#[]⟩, .int .i64 0, .int .i64 0, .string ⟨#[]⟩, .string ⟨#[]⟩, .slice none 0 0, .slice none 0 0, .slice none 0 0, .string ⟨#[]⟩, .int .i64 0, .int .i64 0, .string ⟨#[]⟩, .string ⟨#[]⟩, .slice none 0 0, .string ⟨#[]⟩]), (w1.heap.size, selC u)])) ((HV2.out.step HB3.out).push _) fun v3 hv3 => ?_
  have HV3 := Lib.hid hv3
  clear hv3
  have q1 := HV3.out.at' (w1.heap.size, selC u) (by simp)
  have q3 := HV3.out.at' (w3.heap.size, insC (.slice A 3 cap)) (by simp)
  have a0 : v3.cell? ⟨w1.heap.size, 0, none⟩ = some (.string ⟨#[115, 101, 108, 101, 99, 116]⟩) := Lib.cell_of_heap q1.1 0
  have a1 : v3.cell? ⟨w1.heap.size, 1, none⟩ = some (.string ⟨#[116]⟩) := Lib.cell_of_heap q1.1 1
  have a16 : v3.cell? ⟨w1.heap.size, 16, none⟩ = some (.string ⟨#[61]⟩) := Lib.cell_of_heap q1.1 16
  have b0 : v3.cell? ⟨w3.heap.size, 0, none⟩ = some (.string ⟨#[105, 110, 115, 101, 114, 116]⟩) := Lib.cell_of_heap q3.1 0
  have b14 : v3.cell? ⟨w3.heap.size, 14, none⟩ = some (.slice A 3 cap) := Lib.cell_of_heap q3.1 14
  clear q1 q3
  go_wp2
  go_ret
  exact ⟨rfl, HV3.out.lo⟩
end Go.Proofs.YtlilnbcklplmfaaGreatDoor
