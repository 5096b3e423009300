import Derived.Test.YtnahejljelbbgaaDoorLj
/- The law LexerQuotes. -/
namespace Go.Proofs.YtnahejljelbbgaaDoor
open Go.RowKit Go.Lib

/-- A row of tokens that lies in block g. -/
structure Own2 (W : World) (g : Nat) (n : Nat) (l : List Tk) : Prop where
  lt : g < W.heap.size
  k : ∀ j (h : j < l.length), W.cell? ⟨g, j * 2, none⟩ = some (.int .i64 l[j].k)
  s : ∀ j (h : j < l.length), W.cell? ⟨g, j * 2 + 1, none⟩ = some (.string ⟨l[j].s.toArray⟩)
theorem Own2.later {W W' : World} {g n : Nat} {l : List Tk} (h : Own2 W g n l) (hb : Below W.heap.size W W') : Own2 W' g n l :=
  ⟨Nat.lt_of_lt_of_le h.lt hb.size, fun j hj => (hb.cell (p := ⟨g, _, none⟩) h.lt).trans (h.k j hj), fun j hj => (hb.cell (p := ⟨g, _, none⟩) h.lt).trans (h.s j hj)⟩
theorem OwnT.own2 {W : World} {B : Nat} {v : Value} {l : List Tk} (h : OwnT W B v l) (hn : l ≠ []) : ∃ g cap, v = .slice (some ⟨g, 0, none⟩) l.length cap ∧ Own2 W g l.length l := by
  have h' := h
  rcases h.2 with ⟨_, h0⟩ | ⟨g, cap, cur, rfl, hB, hg, hc, hm, hs, ht⟩
  · exact absurd (List.length_eq_zero_iff.1 h0) hn
  · refine ⟨g, cap, rfl, (Array.getElem?_eq_some_iff.1 hg).1, fun j hj => ?_, fun j hj => ?_⟩
    · exact (World.ownsRow.cellAt h' (j * 2) (by omega)).trans (tcells_at l j hj).1
    · exact (World.ownsRow.cellAt h' (j * 2 + 1) (by omega)).trans (tcells_at l j hj).2
theorem cut_own (s : ByteArray) (w : World) (hs : s.size ≤ 100000) (hl : LibE w) (ts : List Tk) (h : cutR s.data.toList = some ts) (n : Nat) (hn : ts.length = n) (h0 : ts ≠ []) :
    Calls Tryd.prog 14 #[.string s] w fun e w' => ∃ g cap, e = .returned (.tuple #[.slice (some ⟨g, 0, none⟩) n cap, .int .i64 0]) ∧ Hid (Own2 w' g n ts) ∧ Below w.heap.size w w' :=
  (cut_ok s w hs hl ts h).mono fun e w' ⟨v, h1, h2, hb⟩ => by
    obtain ⟨g, cap, rfl, ht⟩ := h2.out.own2 h0
    subst hn
    exact ⟨g, cap, h1, ht, hb⟩

set_option maxRecDepth 100000 in
set_option maxHeartbeats 1600000 in
theorem quotes_f (s : ByteArray) (w : World) (hs : s.size ≤ maxLen) (hl : LibE w) (hm : mayB 2 0 (few3S s) = false) :
    Calls Tryd.prog 5 #[.string s] w fun e w' => e = .returned (.bool true) ∧ Below w.heap.size w w' := by
  have HL := Lib.hid hl
  have hfz := few3_size s
  obtain ⟨f, hf⟩ : ∃ f, f = few3S s := ⟨_, rfl⟩
  rw [← hf] at hm hfz
  have HF := Lib.hid (fun (W : World) => hf ▸ few3s_any s W hs)
  have HT := Lib.hid (fun (W : World) => (show Calls Tryd.prog 10 #[.agg #[.int .i64 2, .int .i64 0, .string f]] W fun e w' => e = .returned (.string ⟨#[]⟩) ∧ Below W.heap.size W w' from rtext_f 2 0 f W (by unfold maxLen; omega) hm))
  have HM := Lib.hid (fun (W : World) => hm ▸ tmay_3 f W)
  have HC := Lib.hid (show cutR (⟨#[]⟩ : ByteArray).data.toList = some [] from cutR_some (cut_end rfl) (by simp))
  clear hf hm hl
  go_enter Tryd.func5, Tryd.ntmps5
  go_wp2_with (first
    | (go_at_call 13; refine (HF.out _).mono ?_; rintro e w1 ⟨rfl, hb1⟩; have hy1 := hb1.size; (try simp at hy1))
    | (go_at_call 10; refine (HT.out _).mono ?_; rintro e w2 ⟨rfl, hb2⟩; have hy2 := hb2.size; (try simp at hy2))
    | (go_at_call 14; refine (cut_ok' ⟨#[]⟩ _ (by decide) (HL.out.keep (by repeat (first | (with_reducible exact Below.refl _ _) | ((with_reducible refine cSet3 ?_ ?_ _ _ _); (· ((try simp) <;> omega))) | (with_reducible refine Below.drew ?_) | ((with_reducible refine cAlloc ?_ ?_ _); (· ((try simp) <;> omega))) | ((with_reducible refine cOn (by assumption) ?_ ?_); (· ((try simp) <;> omega))))) (Nat.le_refl _)) [] HC.out 0 rfl).mono ?_; rintro e w3 ⟨A3, c3, rfl, HT3, hb3⟩; have hy3 := hb3.size; (try simp at hy3))
    | (go_at_call 17; refine (HM.out _).mono ?_; rintro e w4 ⟨rfl, hb4⟩; have hy4 := hb4.size; (try simp at hy4))
    | (go_at_call 16; refine (awake3_any _ (HL.out.keep (by repeat (first | (with_reducible exact Below.refl _ _) | ((with_reducible refine cSet3 ?_ ?_ _ _ _); (· ((try simp) <;> omega))) | (with_reducible refine Below.drew ?_) | ((with_reducible refine cAlloc ?_ ?_ _); (· ((try simp) <;> omega))) | ((with_reducible refine cOn (by assumption) ?_ ?_); (· ((try simp) <;> omega))))) (Nat.le_refl _))).mono ?_; rintro e w6 ⟨rfl, hb6⟩; have hy6 := hb6.size; (try simp at hy6)))
  go_ret
  refine ⟨rfl, ?_⟩
  repeat (first | (with_reducible exact Below.refl _ _) | ((with_reducible refine cSet3 ?_ ?_ _ _ _); (· ((try simp) <;> omega))) | (with_reducible refine Below.drew ?_) | ((with_reducible refine cAlloc ?_ ?_ _); (· ((try simp) <;> omega))) | ((with_reducible refine cOn (by assumption) ?_ ?_); (· ((try simp) <;> omega))))

theorem quote_one {f : ByteArray} (hm : mayB 2 0 f = true) : (⟨3, f.data.toList⟩ : Tk).may = true := by
  unfold Tk.may tmayB
  simpa using hm
theorem join_app (a b : ByteArray) : (a ++ (⟨#[32]⟩ : ByteArray) ++ b).data.toList = a.data.toList ++ 32 :: b.data.toList := by simp
set_option maxRecDepth 100000 in
set_option maxHeartbeats 3200000 in
theorem quotes_t (s : ByteArray) (w : World) (hs : s.size ≤ maxLen) (hl : LibE w) (hm : mayB 2 0 (few3S s) = true) :
    Calls Tryd.prog 5 #[.string s] w fun e w' => e = .returned (.bool true) ∧ Below w.heap.size w w' := by
  have HL := Lib.hid hl
  have hfz := few3_size s
  obtain ⟨f, hf⟩ : ∃ f, f = few3S s := ⟨_, rfl⟩
  rw [← hf] at hm hfz
  have HF := Lib.hid (fun (W : World) => hf ▸ few3s_any s W hs)
  have hmt := quote_one hm
  obtain ⟨t, ht⟩ : ∃ t : Tk, t = ⟨3, f.data.toList⟩ := ⟨_, rfl⟩
  obtain ⟨q, hq⟩ : ∃ q : ByteArray, q = ⟨(txtO 2 0 f).toArray⟩ := ⟨_, rfl⟩
  have hql : q.data.toList = tkO t := by
    have e : txtO 2 0 f = 39 :: (dbl f.data.toList ++ [39]) := by have := quote_txt f.data.toList (by simpa using hm); simpa using this
    rw [hq, ht, e]; rfl
  have HT := Lib.hid (fun (W : World) => hq ▸ rtext_any 2 0 f W in64_0 (by unfold maxLen; omega))
  have hqz : q.size ≤ 10000 := by
    have := dbl_len f.data.toList
    rw [← Lib.size_eq] at this
    rw [Lib.size_eq, hql, ht]
    simp [tkO]
    (try omega)
  rw [← ht] at hmt
  have hq0 : 0 < q.size := by rw [Lib.size_eq, hql, ht]; simp [tkO]
  have hne := nonempty_of' hq0
  have hne2 : ¬ q.toList = [] := fun h => by rw [h] at hne; cases hne
  have q1 : (⟨#[32]⟩ : ByteArray).size = 1 := rfl
  have hall : ∀ x ∈ [t], x.may = true := fun x hx => by simp at hx; rw [hx]; exact hmt
  have hall2 : ∀ x ∈ [t, t], x.may = true := fun x hx => by simp at hx; rw [hx]; exact hmt
  have HC1 := Lib.hid (show cutR q.data.toList = some [t] from cutR_some (by rw [hql]; exact cut_join [t] hall) (by simp))
  have HC2 := Lib.hid (show cutR (q ++ (⟨#[32]⟩ : ByteArray) ++ q).data.toList = some [t, t] from cutR_some (by rw [join_app, hql]; exact cut_join [t, t] hall2) (by simp))
  have HE : Hid ((⟨t.s.toArray⟩ : ByteArray) = f) := by show _ = _; rw [ht]; (try simp)
  have HK : Hid (t.k = 3) := by show _ = _; rw [ht]
  have hqz2 : (q ++ (⟨#[32]⟩ : ByteArray) ++ q).size ≤ 100000 := by rw [ByteArray.size_append, ByteArray.size_append, q1]; omega
  clear hf hm hl hmt ht hq hql hall hall2 hq0
  go_enter Tryd.func5, Tryd.ntmps5
  go_wp2_with (first
    | (go_at_call 13; refine (HF.out _).mono ?_; rintro e w1 ⟨rfl, hb1⟩; have hy1 := hb1.size; (try simp at hy1))
    | (go_at_call 10; refine (HT.out _).mono ?_; rintro e w2 ⟨rfl, hb2⟩; have hy2 := hb2.size; (try simp at hy2))
    | (go_at_call_of 14 (Value.string q); refine (cut_own q _ (by omega) (HL.out.keep (by repeat (first | (with_reducible exact Below.refl _ _) | ((with_reducible refine cSet3 ?_ ?_ _ _ _); (· ((try simp) <;> omega))) | (with_reducible refine Below.drew ?_) | ((with_reducible refine cAlloc ?_ ?_ _); (· ((try simp) <;> omega))) | ((with_reducible refine cOn (by assumption) ?_ ?_); (· ((try simp) <;> omega))))) (Nat.le_refl _)) [t] HC1.out 1 rfl (by simp)).mono ?_; rintro e w3 ⟨xg, c3, rfl, HT3, hb3⟩; have hy3 := hb3.size; (try simp at hy3))
    | (go_at_call_of 14 (Value.string (q ++ (⟨#[32]⟩ : ByteArray) ++ q)); refine (cut_own _ _ hqz2 (HL.out.keep (by repeat (first | (with_reducible exact Below.refl _ _) | ((with_reducible refine cSet3 ?_ ?_ _ _ _); (· ((try simp) <;> omega))) | (with_reducible refine Below.drew ?_) | ((with_reducible refine cAlloc ?_ ?_ _); (· ((try simp) <;> omega))) | ((with_reducible refine cOn (by assumption) ?_ ?_); (· ((try simp) <;> omega))))) (Nat.le_refl _)) [t, t] HC2.out 2 rfl (by simp)).mono ?_; rintro e w4 ⟨yg, c4, rfl, HT4, hb4⟩; have hy4 := hb4.size; (try simp at hy4)))
  have HL4 := Lib.hid (HL.out.keep (show Below w.heap.size w w4 by repeat (first | (with_reducible exact Below.refl _ _) | ((with_reducible refine cSet3 ?_ ?_ _ _ _); (· ((try simp) <;> omega))) | (with_reducible refine Below.drew ?_) | ((with_reducible refine cAlloc ?_ ?_ _); (· ((try simp) <;> omega))) | ((with_reducible refine cOn (by assumption) ?_ ?_); (· ((try simp) <;> omega))))) (Nat.le_refl _)).drew
  have HX := Lib.hid (HT3.out.later hb4)
  have HY := Lib.hid HT4.out
  have HXk : Hid (w4.cell? ⟨xg, 0, none⟩ = some (.int .i64 3)) := (HX.out.k 0 (by simp)).trans (by simp [HK.out])
  have HXs : Hid (w4.cell? ⟨xg, 1, none⟩ = some (.string f)) := (HX.out.s 0 (by simp)).trans (by simp [HE.out])
  have HYk : Hid (w4.cell? ⟨yg, 2, none⟩ = some (.int .i64 3)) := (HY.out.k 1 (by simp)).trans (by simp [HK.out])
  have HYs : Hid (w4.cell? ⟨yg, 3, none⟩ = some (.string f)) := (HY.out.s 1 (by simp)).trans (by simp [HE.out])
  have HB4 := Lib.hid (show Below w.heap.size w w4 by repeat (first | (with_reducible exact Below.refl _ _) | ((with_reducible refine cSet3 ?_ ?_ _ _ _); (· ((try simp) <;> omega))) | (with_reducible refine Below.drew ?_) | ((with_reducible refine cAlloc ?_ ?_ _); (· ((try simp) <;> omega))) | ((with_reducible refine cOn (by assumption) ?_ ?_); (· ((try simp) <;> omega)))))
  have hy4' : w.heap.size ≤ w4.heap.size := by omega
  clear hb1 hb2 hb3 hb4
  refine detL_begin [.val (.int .i64 0), .val (.bool true), .val (.bool true), .val (.slice (some ⟨xg, 0, none⟩) 1 c3), .val (.int .i64 1), .val (.bool true), .val (.bool true), .val (.bool true), .val (.slice (some ⟨xg, 0, none⟩) 1 c3), .val (.pointer (some ⟨xg, 0, none⟩)), .val (.agg #[.int .i64 3, .string f]), .val (.string f), .val (.agg #[.int .i64 3, .string f]), .val (.bool true), .val (.bool true), .val (.bool true), .val (.int .i64 0), .val (.bool true), .val (.bool true), .val (.bool true), .val (.slice (some ⟨yg, 0, none⟩) 2 c4), .val (.int .i64 2), .val (.bool true), .val (.bool true), .val (.bool true), .val (.slice (some ⟨yg, 0, none⟩) 2 c4), .val (.pointer (some ⟨yg, 2, none⟩)), .val (.agg #[.int .i64 3, .string f]), .val (.slice (some ⟨xg, 0, none⟩) 1 c3), .val (.pointer (some ⟨xg, 0, none⟩)), .val (.agg #[.int .i64 3, .string f]), .val (.bool true), .val (.bool true), .val (.bool true), .val (.bool true), .val (.bool true)] 36 (by kernel_rfl) ?_
  refine detL_val (by kernel_rfl) (yields_of rfl fun w1 hb1 => ?_) ?_
  · have hc1 := bcellD hb1
    clear hb1
    go_simp
    exact Det1_same
  simp only [Act.put, List.setIfInBounds_toArray, List.set_cons_zero, List.set_cons_succ]
  refine detL_val (by kernel_rfl) (yields_of rfl fun w1 hb1 => ?_) ?_
  · have hc1 := bcellD hb1
    clear hb1
    go_simp
    exact Det1_same
  simp only [Act.put, List.setIfInBounds_toArray, List.set_cons_zero, List.set_cons_succ]
  refine detL_val (by kernel_rfl) (yields_of rfl fun w1 hb1 => ?_) ?_
  · have hc1 := bcellD hb1
    clear hb1
    go_simp
    exact Det1_same
  simp only [Act.put, List.setIfInBounds_toArray, List.set_cons_zero, List.set_cons_succ]
  refine detL_val (by kernel_rfl) (yields_of rfl fun w1 hb1 => ?_) ?_
  · have hc1 := bcellD hb1
    clear hb1
    go_simp
    exact Det1_same
  simp only [Act.put, List.setIfInBounds_toArray, List.set_cons_zero, List.set_cons_succ]
  refine detL_val (by kernel_rfl) (yields_of rfl fun w1 hb1 => ?_) ?_
  · have hc1 := bcellD hb1
    clear hb1
    go_simp
    exact Det1_same
  simp only [Act.put, List.setIfInBounds_toArray, List.set_cons_zero, List.set_cons_succ]
  refine detL_val (by kernel_rfl) (yields_of rfl fun w1 hb1 => ?_) ?_
  · have hc1 := bcellD hb1
    clear hb1
    go_simp
    exact Det1_same
  simp only [Act.put, List.setIfInBounds_toArray, List.set_cons_zero, List.set_cons_succ]
  refine detL_val (by kernel_rfl) (yields_of rfl fun w1 hb1 => ?_) ?_
  · have hc1 := bcellD hb1
    clear hb1
    go_simp
    exact Det1_same
  simp only [Act.put, List.setIfInBounds_toArray, List.set_cons_zero, List.set_cons_succ]
  refine detL_val (by kernel_rfl) (yields_of rfl fun w1 hb1 => ?_) ?_
  · have hc1 := bcellD hb1
    clear hb1
    go_simp
    exact Det1_same
  simp only [Act.put, List.setIfInBounds_toArray, List.set_cons_zero, List.set_cons_succ]
  refine detL_val (by kernel_rfl) (yields_of rfl fun w1 hb1 => ?_) ?_
  · have hc1 := bcellD hb1
    clear hb1
    go_simp
    exact Det1_same
  simp only [Act.put, List.setIfInBounds_toArray, List.set_cons_zero, List.set_cons_succ]
  refine detL_val (by kernel_rfl) (yields_of rfl fun w1 hb1 => ?_) ?_
  · have hc1 := bcellD hb1
    clear hb1
    go_simp
    exact Det1_same
  simp only [Act.put, List.setIfInBounds_toArray, List.set_cons_zero, List.set_cons_succ]
  refine detL_val (by kernel_rfl) (yields_of rfl fun w1 hb1 => ?_) ?_
  · have hc1 := bcellD hb1
    have d1 := (hb1.cell (p := ⟨xg, _, none⟩) HX.out.lt).trans HXk.out; have d2 := (hb1.cell (p := ⟨xg, _, none⟩) HX.out.lt).trans HXs.out
    clear hb1
    go_simp
    exact Det1_same
  simp only [Act.put, List.setIfInBounds_toArray, List.set_cons_zero, List.set_cons_succ]
  refine detL_val (by kernel_rfl) (yields_of rfl fun w1 hb1 => ?_) ?_
  · have hc1 := bcellD hb1
    clear hb1
    go_simp
    exact Det1_same
  simp only [Act.put, List.setIfInBounds_toArray, List.set_cons_zero, List.set_cons_succ]
  refine detL_val (by kernel_rfl) (yields_of rfl fun w1 hb1 => ?_) ?_
  · have hc1 := bcellD hb1
    clear hb1
    go_simp
    exact Det1_same
  simp only [Act.put, List.setIfInBounds_toArray, List.set_cons_zero, List.set_cons_succ]
  refine detL_val (by kernel_rfl) (yields_of rfl fun w1 hb1 => ?_) ?_
  · have hc1 := bcellD hb1
    clear hb1
    go_simp
    exact Det1_same
  simp only [Act.put, List.setIfInBounds_toArray, List.set_cons_zero, List.set_cons_succ]
  refine detL_val (by kernel_rfl) (yields_of rfl fun w1 hb1 => ?_) ?_
  · have hc1 := bcellD hb1
    clear hb1
    go_simp
    exact Det1_same
  simp only [Act.put, List.setIfInBounds_toArray, List.set_cons_zero, List.set_cons_succ]
  refine detL_val (by kernel_rfl) (yields_of rfl fun w1 hb1 => ?_) ?_
  · have hc1 := bcellD hb1
    clear hb1
    go_simp
    exact Det1_same
  simp only [Act.put, List.setIfInBounds_toArray, List.set_cons_zero, List.set_cons_succ]
  refine detL_val (by kernel_rfl) (yields_of rfl fun w1 hb1 => ?_) ?_
  · have hc1 := bcellD hb1
    clear hb1
    go_simp
    exact Det1_same
  simp only [Act.put, List.setIfInBounds_toArray, List.set_cons_zero, List.set_cons_succ]
  refine detL_val (by kernel_rfl) (yields_of rfl fun w1 hb1 => ?_) ?_
  · have hc1 := bcellD hb1
    clear hb1
    go_simp
    exact Det1_same
  simp only [Act.put, List.setIfInBounds_toArray, List.set_cons_zero, List.set_cons_succ]
  refine detL_val (by kernel_rfl) (yields_of rfl fun w1 hb1 => ?_) ?_
  · have hc1 := bcellD hb1
    clear hb1
    go_simp
    exact Det1_same
  simp only [Act.put, List.setIfInBounds_toArray, List.set_cons_zero, List.set_cons_succ]
  refine detL_val (by kernel_rfl) (yields_of rfl fun w1 hb1 => ?_) ?_
  · have hc1 := bcellD hb1
    clear hb1
    go_simp
    exact Det1_same
  simp only [Act.put, List.setIfInBounds_toArray, List.set_cons_zero, List.set_cons_succ]
  refine detL_val (by kernel_rfl) (yields_of rfl fun w1 hb1 => ?_) ?_
  · have hc1 := bcellD hb1
    clear hb1
    go_simp
    exact Det1_same
  simp only [Act.put, List.setIfInBounds_toArray, List.set_cons_zero, List.set_cons_succ]
  refine detL_val (by kernel_rfl) (yields_of rfl fun w1 hb1 => ?_) ?_
  · have hc1 := bcellD hb1
    clear hb1
    go_simp
    exact Det1_same
  simp only [Act.put, List.setIfInBounds_toArray, List.set_cons_zero, List.set_cons_succ]
  refine detL_val (by kernel_rfl) (yields_of rfl fun w1 hb1 => ?_) ?_
  · have hc1 := bcellD hb1
    clear hb1
    go_simp
    exact Det1_same
  simp only [Act.put, List.setIfInBounds_toArray, List.set_cons_zero, List.set_cons_succ]
  refine detL_val (by kernel_rfl) (yields_of rfl fun w1 hb1 => ?_) ?_
  · have hc1 := bcellD hb1
    clear hb1
    go_simp
    exact Det1_same
  simp only [Act.put, List.setIfInBounds_toArray, List.set_cons_zero, List.set_cons_succ]
  refine detL_val (by kernel_rfl) (yields_of rfl fun w1 hb1 => ?_) ?_
  · have hc1 := bcellD hb1
    clear hb1
    go_simp
    exact Det1_same
  simp only [Act.put, List.setIfInBounds_toArray, List.set_cons_zero, List.set_cons_succ]
  refine detL_val (by kernel_rfl) (yields_of rfl fun w1 hb1 => ?_) ?_
  · have hc1 := bcellD hb1
    clear hb1
    go_simp
    exact Det1_same
  simp only [Act.put, List.setIfInBounds_toArray, List.set_cons_zero, List.set_cons_succ]
  refine detL_val (by kernel_rfl) (yields_of rfl fun w1 hb1 => ?_) ?_
  · have hc1 := bcellD hb1
    clear hb1
    go_simp
    exact Det1_same
  simp only [Act.put, List.setIfInBounds_toArray, List.set_cons_zero, List.set_cons_succ]
  refine detL_val (by kernel_rfl) (yields_of rfl fun w1 hb1 => ?_) ?_
  · have hc1 := bcellD hb1
    have d1 := (hb1.cell (p := ⟨yg, _, none⟩) HY.out.lt).trans HYk.out; have d2 := (hb1.cell (p := ⟨yg, _, none⟩) HY.out.lt).trans HYs.out
    clear hb1
    go_simp
    exact Det1_same
  simp only [Act.put, List.setIfInBounds_toArray, List.set_cons_zero, List.set_cons_succ]
  refine detL_val (by kernel_rfl) (yields_of rfl fun w1 hb1 => ?_) ?_
  · have hc1 := bcellD hb1
    clear hb1
    go_simp
    exact Det1_same
  simp only [Act.put, List.setIfInBounds_toArray, List.set_cons_zero, List.set_cons_succ]
  refine detL_val (by kernel_rfl) (yields_of rfl fun w1 hb1 => ?_) ?_
  · have hc1 := bcellD hb1
    clear hb1
    go_simp
    exact Det1_same
  simp only [Act.put, List.setIfInBounds_toArray, List.set_cons_zero, List.set_cons_succ]
  refine detL_val (by kernel_rfl) (yields_of rfl fun w1 hb1 => ?_) ?_
  · have hc1 := bcellD hb1
    have d1 := (hb1.cell (p := ⟨xg, _, none⟩) HX.out.lt).trans HXk.out; have d2 := (hb1.cell (p := ⟨xg, _, none⟩) HX.out.lt).trans HXs.out
    clear hb1
    go_simp
    exact Det1_same
  simp only [Act.put, List.setIfInBounds_toArray, List.set_cons_zero, List.set_cons_succ]
  refine detL_val (by kernel_rfl) (yields_of rfl fun w1 hb1 => ?_) ?_
  · have hc1 := bcellD hb1
    clear hb1
    go_simp
    exact Det1_same
  simp only [Act.put, List.setIfInBounds_toArray, List.set_cons_zero, List.set_cons_succ]
  refine detL_val (by kernel_rfl) (yields_of rfl fun w1 hb1 => ?_) ?_
  · have hc1 := bcellD hb1
    clear hb1
    go_simp
    exact Det1_same
  simp only [Act.put, List.setIfInBounds_toArray, List.set_cons_zero, List.set_cons_succ]
  refine detL_val (by kernel_rfl) (yields_of rfl fun w1 hb1 => ?_) ?_
  · have hc1 := bcellD hb1
    clear hb1
    go_simp
    exact Det1_same
  simp only [Act.put, List.setIfInBounds_toArray, List.set_cons_zero, List.set_cons_succ]
  refine detL_val (by kernel_rfl) (yields_of rfl fun w1 hb1 => ?_) ?_
  · have hc1 := bcellD hb1
    have HL1 := Lib.hid (HL4.out.keep hb1 (Nat.le_refl _))
    clear hb1
    go_simp
    exact Det1_enter (awake3_any _ HL1.out)
  simp only [Act.put, List.setIfInBounds_toArray, List.set_cons_zero, List.set_cons_succ]
  refine detL_val (by kernel_rfl) (yields_of rfl fun w1 hb1 => ?_) ?_
  · have hc1 := bcellD hb1
    clear hb1
    go_simp
    exact Det1_same
  simp only [Act.put, List.setIfInBounds_toArray, List.set_cons_zero, List.set_cons_succ]
  refine detL_tail rfl (by kernel_rfl) fun w5 hw5 => ?_
  have hb5 := hw5.below
  clear hw5
  go_wp2
  go_ret
  exact ⟨rfl, HB4.out.trans (((Below.refl _ _).drew.trans hb5).mono hy4')⟩
theorem law_quotes (s : ByteArray) (w : World) (hs : s.size ≤ maxLen) (hl : LibE w) :
    Calls Tryd.prog 5 #[.string s] w fun e w' => e = .returned (.bool true) ∧ Below w.heap.size w w' := by
  cases hm : mayB 2 0 (few3S s) with
  | false => exact quotes_f s w hs hl hm
  | true => exact quotes_t s w hs hl hm
end Go.Proofs.YtnahejljelbbgaaDoor
