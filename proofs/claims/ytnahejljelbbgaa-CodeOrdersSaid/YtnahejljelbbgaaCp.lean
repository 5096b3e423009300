import Derived.Test.YtnahejljelbbgaaCo
/- Octets tell values apart. No walk. -/
namespace Go.Proofs.Ytnahejljelbbgaa
open Go.RowKit Go.Lib

theorem octD_eq {u v d : Int} (h : octD u d = octD v d) : u / d % 256 = v / d % 256 := by
  rw [← octD_val, ← octD_val, h]
theorem be8_inj {u v : Int} (h0 : 0 ≤ u) (h1 : u < 18446744073709551616) (k0 : 0 ≤ v) (k1 : v < 18446744073709551616) (h : be8 u = be8 v) : u = v := by
  unfold be8 at h
  simp only [List.cons.injEq, and_true] at h
  obtain ⟨a, b, c, d, e, f, g, i⟩ := h
  have a := octD_eq a
  have b := octD_eq b
  have c := octD_eq c
  have d := octD_eq d
  have e := octD_eq e
  have f := octD_eq f
  have g := octD_eq g
  have i := octD_eq i
  omega
theorem nul_split : ∀ (t t' r r' : List UInt8), (∀ c ∈ t, okO c = true) → (∀ c ∈ t', okO c = true) → t ++ 0 :: r = t' ++ 0 :: r' → t = t' ∧ r = r'
  | [], [], r, r', _, _, h => by simpa using h
  | [], c :: t', r, r', _, h', h => by
    simp at h
    have := h' c List.mem_cons_self
    rw [← h.1] at this
    exact absurd this (by decide)
  | c :: t, [], r, r', h1, _, h => by
    simp at h
    have := h1 c List.mem_cons_self
    rw [h.1] at this
    exact absurd this (by decide)
  | c :: t, c' :: t', r, r', h1, h2, h => by
    simp only [List.cons_append, List.cons.injEq] at h
    obtain ⟨h3, h4⟩ := nul_split t t' r r' (fun x hx => h1 x (List.mem_cons_of_mem _ hx)) (fun x hx => h2 x (List.mem_cons_of_mem _ hx)) h.2
    exact ⟨by rw [h.1, h3], h4⟩
/-- A value that may be is one of four. -/
inductive Kind4 (x : Vl) : Prop
  | null (h : x = ⟨0, 0, ⟨#[]⟩⟩) (ho : x.oct = [0])
  | num (i : Int) (h : x = ⟨1, i, ⟨#[]⟩⟩) (ho : x.oct = 1 :: be8 (i + 9223372036854775808))
  | text (t : ByteArray) (h : x = ⟨2, 0, t⟩) (ho : x.oct = 2 :: (t.data.toList ++ [0])) (hc : ∀ c ∈ t.data.toList, okO c = true)
  | truth (i : Int) (h : x = ⟨3, i, ⟨#[]⟩⟩) (ho : x.oct = [3, UInt8.ofNat i.toNat]) (hi : i = 0 ∨ i = 1)
theorem kind4 (x : Vl) (hm : x.may = true) : Kind4 x := by
  obtain ⟨k, i, t⟩ := x
  unfold Vl.may at hm
  simp only at hm
  have ho : Vl.oct ⟨k, i, t⟩ = valO k i t := rfl
  unfold valO at ho
  rw [if_pos hm] at ho
  have hm' := hm
  unfold mayB at hm
  by_cases h1 : k = 1
  · subst h1
    simp at hm
    rw [toList_data] at hm
    obtain rfl : t = ⟨#[]⟩ := bs_eq hm
    exact .num i rfl (by rw [ho]; rfl)
  · by_cases h2 : k = 2
    · subst h2
      obtain ⟨rfl, _, hc⟩ := may2 hm'
      exact .text t rfl (by rw [ho]; rfl) hc
    · by_cases h3 : k = 3
      · subst h3
        simp at hm
        rw [toList_data] at hm
        obtain rfl : t = ⟨#[]⟩ := bs_eq hm.1
        exact .truth i rfl (by rw [ho]; rfl) hm.2
      · have h0 : k = 0 := Classical.byContradiction fun h0 => by simp [h0, h1, h2, h3] at hm
        subst h0
        simp at hm
        rw [toList_data] at hm
        obtain rfl : t = ⟨#[]⟩ := bs_eq hm.2
        obtain ⟨rfl, _⟩ := hm
        exact .null rfl (by rw [ho]; rfl)
/-- A value's octets end by themselves. -/
theorem oct_split {x y : Vl} {r r' : List UInt8} (hx : x.may = true) (hy : y.may = true) (hix : In64 x.i) (hiy : In64 y.i) (h : x.oct ++ r = y.oct ++ r') : x = y ∧ r = r' := by
  cases kind4 x hx with
  | null ex ox =>
    cases kind4 y hy with
    | null ey oy => rw [ox, oy] at h; subst ex ey; simpa using h
    | num i ey oy => rw [ox, oy] at h; simp at h
    | text t ey oy hc => rw [ox, oy] at h; simp at h
    | truth i ey oy hi => rw [ox, oy] at h; simp at h
  | num i ex ox =>
    cases kind4 y hy with
    | null ey oy => rw [ox, oy] at h; simp at h
    | num j ey oy =>
      rw [ox, oy, List.cons_append, List.cons_append, List.cons.injEq] at h
      obtain ⟨h1, h2⟩ := List.append_inj h.2 rfl
      subst ex ey
      unfold In64 at hix hiy
      simp only at hix hiy
      have := be8_inj (by omega) (by omega) (by omega) (by omega) h1
      obtain rfl : i = j := by omega
      exact ⟨rfl, h2⟩
    | text t ey oy hc => rw [ox, oy] at h; simp at h
    | truth i ey oy hi => rw [ox, oy] at h; simp at h
  | text t ex ox hc =>
    cases kind4 y hy with
    | null ey oy => rw [ox, oy] at h; simp at h
    | num i ey oy => rw [ox, oy] at h; simp at h
    | text t' ey oy hc' =>
      rw [ox, oy] at h
      simp only [List.cons_append, List.append_assoc, List.singleton_append, List.cons.injEq, true_and, List.nil_append] at h
      obtain ⟨h1, h2⟩ := nul_split _ _ _ _ hc hc' h
      subst ex ey
      exact ⟨by rw [ByteArray.ext (Array.toList_inj.1 h1)], h2⟩
    | truth i ey oy hi => rw [ox, oy] at h; simp at h
  | truth i ex ox hi =>
    cases kind4 y hy with
    | null ey oy => rw [ox, oy] at h; simp at h
    | num i ey oy => rw [ox, oy] at h; simp at h
    | text t ey oy hc => rw [ox, oy] at h; simp at h
    | truth j ey oy hj =>
      rw [ox, oy] at h
      subst ex ey
      simp at h
      rcases hi with rfl | rfl <;> rcases hj with rfl | rfl <;> simp at h ⊢ <;> exact h
theorem rowO_inj : ∀ (l m : List Vl), (∀ x ∈ l, x.may = true) → (∀ x ∈ m, x.may = true) → I64 l → I64 m → rowO l = rowO m → l = m
  | [], [], _, _, _, _, _ => rfl
  | [], y :: m, _, _, _, _, h => by
    have := oct_pos y
    have h' := congrArg List.length h
    simp [rowO] at h'
    omega
  | x :: l, [], _, _, _, _, h => by
    have := oct_pos x
    have h2 : (x.oct ++ rowO l).length = ([] : List UInt8).length := congrArg List.length h
    rw [List.length_append] at h2
    simp only [List.length_nil] at h2
    omega
  | x :: l, y :: m, hl, hm, il, im, h => by
    have h' : x.oct ++ rowO l = y.oct ++ rowO m := by simpa [rowO] using h
    obtain ⟨h1, h2⟩ := oct_split (hl x List.mem_cons_self) (hm y List.mem_cons_self) (il x List.mem_cons_self) (im y List.mem_cons_self) h'
    rw [h1, rowO_inj l m (fun x hx => hl x (List.mem_cons_of_mem _ hx)) (fun x hx => hm x (List.mem_cons_of_mem _ hx)) (fun x hx => il x (List.mem_cons_of_mem _ hx)) (fun x hx => im x (List.mem_cons_of_mem _ hx)) h2]

theorem few_len (l : List Vl) : (fewL l).length ≤ 14 := by unfold fewL; simp; omega
theorem few_i64 {l : List Vl} (h : I64 l) : I64 (fewL l) := by
  intro x hx
  unfold fewL at hx
  obtain ⟨y, hy, rfl⟩ := List.mem_map.1 hx
  exact h y (List.mem_of_mem_take hy)
theorem few_short (l : List Vl) : Short (fewL l) := by
  intro x hx
  unfold fewL at hx
  obtain ⟨y, _, rfl⟩ := List.mem_map.1 hx
  have := fewS_size y.s
  show (fewS y.s).size ≤ maxLen
  unfold maxLen; omega
theorem rowOk_may {l : List Vl} (h : rowOk l = true) : l.length ≤ 12 ∧ ∀ x ∈ l, x.may = true := by
  unfold rowOk at h
  rw [Bool.and_eq_true, decide_eq_true_eq, List.all_eq_true] at h
  exact h
theorem rowE_t {l : List Vl} (h : rowOk l = true) : rowE l = 0 := by unfold rowE; rw [h]; rfl
theorem rowE_f {l : List Vl} (h : rowOk l = false) : rowE l = 1 := by unfold rowE; rw [h]; rfl
theorem rowS_t {l : List Vl} (h : rowOk l = true) : (rowS l).toList = rowO l := by unfold rowS; rw [h, toList_data]; rfl
theorem rowS_f {l : List Vl} (h : rowOk l = false) : rowS l = ⟨#[]⟩ := by unfold rowS; rw [h]; rfl
/-- Two rows that may be have the same octets just if they are the same. -/
theorem row_same {l m : List Vl} (hl : rowOk l = true) (hm : rowOk m = true) (il : I64 l) (im : I64 m) : ((rowS l).toList == (rowS m).toList) = sameL l m := by
  rw [rowS_t hl, rowS_t hm, Bool.eq_iff_iff, beq_iff_eq, sameL_iff]
  exact ⟨rowO_inj l m (rowOk_may hl).2 (rowOk_may hm).2 il im, fun h => by rw [h]⟩
end Go.Proofs.Ytnahejljelbbgaa
