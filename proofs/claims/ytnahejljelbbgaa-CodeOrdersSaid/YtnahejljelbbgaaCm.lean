import Derived.Test.YtnahejljelbbgaaCl
/- What First comes to at a row's octets. -/
namespace Go.Proofs.Ytnahejljelbbgaa
open Go.RowKit Go.Lib

theorem get_of_list {s : ByteArray} {l : List UInt8} (h : s.data.toList = l) (j : Nat) {b : UInt8} (hb : l[j]? = some b) : s.get! j = b := by
  subst h
  have hj : j < s.size := by
    have := (List.getElem?_eq_some_iff.1 hb).1
    simpa using this
  rw [get_at s j hj]
  rw [List.getElem?_eq_getElem (by simpa using hj)] at hb
  injection hb
theorem size_of_list {s : ByteArray} {l : List UInt8} (h : s.data.toList = l) : s.size = l.length := by subst h; simp
theorem octD_nat (u d : Int) : ((octD u d).toNat : Int) = u / d % 256 := octD_val u d
theorem numP_be8 {s : ByteArray} {u : Int} {r : List UInt8} {c : UInt8} (h : s.data.toList = c :: (be8 u ++ r)) (h0 : 0 ≤ u) (h1 : u < 18446744073709551616) : numP s 1 8 = u := by
  have g1 := get_of_list h 1 (b := octD u 72057594037927936) (by simp [be8])
  have g2 := get_of_list h 2 (b := octD u 281474976710656) (by simp [be8])
  have g3 := get_of_list h 3 (b := octD u 1099511627776) (by simp [be8])
  have g4 := get_of_list h 4 (b := octD u 4294967296) (by simp [be8])
  have g5 := get_of_list h 5 (b := octD u 16777216) (by simp [be8])
  have g6 := get_of_list h 6 (b := octD u 65536) (by simp [be8])
  have g7 := get_of_list h 7 (b := octD u 256) (by simp [be8])
  have g8 := get_of_list h 8 (b := octD u 1) (by simp [be8])
  simp only [numP, Nat.add_zero, Nat.reduceAdd]
  rw [g1, g2, g3, g4, g5, g6, g7, g8]
  simp only [octD_nat]
  omega
theorem ok_ne0 {c : UInt8} (h : okO c = true) : c.toNat ≠ 0 := by unfold okO at h; simp at h; omega
theorem may2 {i : Int} {s : ByteArray} (h : mayB 2 i s = true) : i = 0 ∧ s.size ≤ 40 ∧ ∀ c ∈ s.data.toList, okO c = true := by
  unfold mayB at h
  simp at h
  refine ⟨h.1.1, h.1.2, ?_⟩
  have h2 := h.2
  rw [txt_all] at h2
  unfold allO at h2
  exact List.all_eq_true.1 h2
theorem noNul_of {s : ByteArray} {c : UInt8} {t r : List UInt8} (h : s.data.toList = c :: (t ++ r)) (ht : ∀ x ∈ t, okO x = true) : noNul s 1 t.length := fun j hj => by
  have : s.get! (1 + j) = t[j] := get_of_list h (1 + j) (by rw [Nat.add_comm, List.getElem?_cons_succ, List.getElem?_append_left hj, List.getElem?_eq_getElem hj])
  rw [this]
  exact ok_ne0 (ht _ (List.getElem_mem hj))

theorem first_row (x : Vl) (s : ByteArray) (r : List UInt8) (w : World) (hm : x.may = true) (hi : In64 x.i) (hs : s.data.toList = x.oct ++ r) (hz : s.size ≤ 100000) :
    Calls Try.prog 15 #[.string s] w fun e w' => e = .returned (.tuple #[.agg #[.int .i64 x.k, .int .i64 x.i, .string x.s], .int .i64 x.oct.length, .int .i64 0]) ∧ Below w.heap.size w w' := by
  obtain ⟨k, i, t⟩ := x
  have hsz := size_of_list hs
  unfold Vl.may at hm
  simp only at hm hi
  have ho : Vl.oct ⟨k, i, t⟩ = valO k i t := rfl
  rw [ho] at hs hsz ⊢
  unfold valO at hs hsz ⊢
  rw [if_pos hm] at hs hsz ⊢
  by_cases h1 : k = 1
  · subst h1
    rw [if_pos rfl] at hs hsz ⊢
    obtain ⟨i1, i2⟩ := hi
    have hnil : t = ⟨#[]⟩ := by
      unfold mayB at hm
      simp at hm
      rw [toList_data] at hm
      exact bs_eq hm
    subst hnil
    have hnum : numP s 1 8 = i + 9223372036854775808 := numP_be8 (by rw [hs]; rfl) (by omega) (by omega)
    have hrv := fun g w h => rv_num g s w h hz (by rw [hsz]; simp) (by rw [get_of_list hs 0 (b := 1) (by simp)]; rfl) (by rw [hsz]; simp [be8])
    rw [hnum, show i + 9223372036854775808 - 9223372036854775808 = i by omega] at hrv
    have := first_yes 1 i ⟨#[]⟩ s 9 w hrv
    simpa [be8] using this
  · rw [if_neg h1] at hs hsz ⊢
    by_cases h2 : k = 2
    · subst h2
      rw [if_pos rfl] at hs hsz ⊢
      obtain ⟨hi0, ht40, hok⟩ := may2 hm
      subst hi0
      have hs' : s.data.toList = 2 :: (t.data.toList ++ (0 :: r)) := by rw [hs]; simp
      have hlen : t.data.toList.length = t.size := by simp
      have hsz' : s.size = t.size + 2 + r.length := by rw [hsz]; simp; omega
      have hrv := fun g w h => rv_text g s w h hz (by rw [hsz']; omega) (by rw [get_of_list hs' 0 (b := 2) (by simp)]; rfl) t.size t (bs_eq (by rw [hs']; show _ = List.take t.size (t.data.toList ++ 0 :: r); rw [← hlen, List.take_left])) (hlen ▸ noNul_of hs' hok) (by rw [hsz']; omega)
        (by rw [get_of_list hs' (1 + t.size) (b := 0) (by rw [Nat.add_comm, List.getElem?_cons_succ, List.getElem?_append_right (by omega)]; simp)]; rfl) hm
      have := first_yes 2 0 t s (1 + t.size + 1) w hrv
      have hl : ([2] ++ t.data.toList ++ [(0 : UInt8)]).length = 1 + t.size + 1 := by simp; omega
      rw [hl]
      exact this
    · rw [if_neg h2] at hs hsz ⊢
      by_cases h3 : k = 3
      · subst h3
        rw [if_pos rfl] at hs hsz ⊢
        have hm' := hm
        unfold mayB at hm
        simp at hm
        rw [toList_data] at hm
        have hnil : t = ⟨#[]⟩ := bs_eq hm.1
        subst hnil
        have hg : (((s.get! 1).toNat : Nat) : Int) = i := by
          rw [get_of_list hs 1 (b := UInt8.ofNat i.toNat) (by simp), UInt8.toNat_ofNat']
          omega
        have hrv := fun g w h => rv_truth g s w h hz (by rw [hsz]; simp) (by rw [get_of_list hs 0 (b := 3) (by simp)]; rfl) (by rw [hsz]; simp) (by rw [hg]; exact hm')
        rw [hg] at hrv
        have := first_yes 3 i ⟨#[]⟩ s 2 w hrv
        simpa using this
      · rw [if_neg h3] at hs hsz ⊢
        have hm' := hm
        unfold mayB at hm
        have h0 : k = 0 := Classical.byContradiction fun h0 => by simp [h0, h1, h2, h3] at hm
        subst h0
        simp at hm
        rw [toList_data] at hm
        have hnil : t = ⟨#[]⟩ := bs_eq hm.2
        obtain ⟨rfl, _⟩ := hm
        subst hnil
        have hrv := fun g w h => rv_null g s w h hz (by rw [hsz]; simp) (by rw [get_of_list hs 0 (b := 0) (by simp)]; rfl)
        have := first_yes 0 0 ⟨#[]⟩ s 1 w hrv
        simpa using this

/-- Octets that end ahead of a value's end. -/
theorem first_cut (x : Vl) (s : ByteArray) (q : List UInt8) (w : World) (hm : x.may = true) (hs : x.oct = s.data.toList ++ q) (hq : q ≠ []) (h0 : 0 < s.size) :
    Calls Try.prog 15 #[.string s] w fun e w' => e = .returned (.tuple #[.agg #[.int .i64 0, .int .i64 0, .string ⟨#[]⟩], .int .i64 0, .int .i64 17]) ∧ Below w.heap.size w w' := by
  obtain ⟨k, i, t⟩ := x
  have hql := List.length_pos_iff.2 hq
  have hz : s.size ≤ 100000 := by
    have h := valO_len k i t
    have h' : valO k i t = s.data.toList ++ q := hs
    rw [h'] at h
    simp at h
    omega
  have hsl : s.data.toList.length = s.size := by simp
  unfold Vl.may at hm
  simp only at hm
  have ho : Vl.oct ⟨k, i, t⟩ = valO k i t := rfl
  rw [ho] at hs
  have hhead : ∀ c l, valO k i t = c :: l → s.get! 0 = c := fun c l h => by
    refine get_of_list rfl 0 ?_
    rw [h] at hs
    have : (s.data.toList ++ q)[0]? = some c := by rw [← hs]; rfl
    rwa [List.getElem?_append_left (by omega)] at this
  unfold valO at hs hhead
  rw [if_pos hm] at hs hhead
  have hlen := congrArg List.length hs
  simp only [List.length_append] at hlen
  by_cases h1 : k = 1
  · subst h1
    rw [if_pos rfl] at hs hhead hlen
    exact first_no 0 0 ⟨#[]⟩ s 0 w fun g w h => rv_num_short g s w h hz h0 (by rw [hhead 1 _ rfl]; rfl) (by simp [be8] at hlen; omega)
  · rw [if_neg h1] at hs hhead hlen
    by_cases h2 : k = 2
    · subst h2
      rw [if_pos rfl] at hs hhead hlen
      obtain ⟨_, _, hok⟩ := may2 hm
      refine first_no 0 0 ⟨#[]⟩ s 0 w fun g w h => rv_text_short g s w h hz h0 (by rw [hhead 2 _ rfl]; rfl) fun j hj => ?_
      have hb : s.data.toList[1 + j]? = some (s.get! (1 + j)) := by
        rw [get_at s (1 + j) (by omega), List.getElem?_eq_getElem (by simp; omega)]
        rfl
      have h3 : ([2] ++ t.data.toList ++ [(0 : UInt8)])[1 + j]? = some (s.get! (1 + j)) := by rw [hs, List.getElem?_append_left (by simp; omega)]; exact hb
      have ht : j < t.data.toList.length := by simp at hlen; simp; omega
      have h4 : t.data.toList[j]? = some (s.get! (1 + j)) := by
        rw [List.append_assoc, List.singleton_append, Nat.add_comm, List.getElem?_cons_succ, List.getElem?_append_left ht] at h3
        rw [h3, Nat.add_comm]
      exact ok_ne0 (hok _ (List.mem_of_getElem? h4))
    · rw [if_neg h2] at hs hhead hlen
      by_cases h3 : k = 3
      · subst h3
        rw [if_pos rfl] at hs hhead hlen
        exact first_no 0 0 ⟨#[]⟩ s 0 w fun g w h => rv_truth_short g s w h hz h0 (by rw [hhead 3 _ rfl]; rfl) (by simp at hlen; omega)
      · rw [if_neg h3] at hs hlen
        simp at hlen
        omega
end Go.Proofs.Ytnahejljelbbgaa
