import Derived.Test.YtnahejljelbbgaaGreatDoorLc
import Derived.Deep.RegionWith
/- The token with which a text begins. -/
namespace Go.Proofs.YtnahejljelbbgaaGreatDoor
open Go.RowKit Go.Lib

theorem qN_some {s : ByteArray} {x r : List UInt8} (h1 : 1 ≤ s.size) (h : qscan (s.data.toList.drop 1) = some (x, r)) : qN s.size (s.data.toList.drop 1) = s.size - r.length ∧ r.length + 2 ≤ s.size := by
  obtain ⟨h2, _⟩ := qscan_some _ _ _ _ (Nat.le_refl _) h
  have h3 := congrArg List.length h2
  rw [List.length_drop, ← Lib.size_eq] at h3
  simp at h3
  unfold qN
  rw [h]
  exact ⟨rfl, by omega⟩
theorem take_list (s : ByteArray) (n : Nat) : (s.extract 0 n).data.toList = s.data.toList.take n := by
  simp [ByteArray.extract, ByteArray.data_append, ByteArray.copySlice]
/-- The octets of a text in quotes are a value's text just if the text is one that may be. -/
theorem quote_txt (x : List UInt8) (h : mayB 2 0 ⟨x.toArray⟩ = true) : txtO 2 0 ⟨x.toArray⟩ = 39 :: (dbl x ++ [39]) := by
  unfold txtO
  rw [h]
  simp
theorem quote_only {x : List UInt8} {k i : Int} {S : ByteArray} (hm : mayB k i S = true) (h : txtO k i S = 39 :: (dbl x ++ [39])) : mayB 2 0 ⟨x.toArray⟩ = true := by
  cases four k i S hm with
  | null hk hi hs ht => rw [ht] at h; simp at h
  | num hk hs ht =>
    rw [ht] at h
    exact absurd h (itoa_no (by decide) (.inl (by decide)))
  | text hk hi hz hc ht =>
    rw [ht] at h
    have e := dbl_inj _ _ (List.append_cancel_right (List.cons.inj h).2)
    rw [← e, hk.symm, ← hi]
    simpa using hm
  | no hk hi hs ht => rw [ht] at h; simp at h
  | yes hk hi hs ht => rw [ht] at h; simp at h
theorem quote_cut {s : ByteArray} {x r : List UInt8} (h1 : 1 ≤ s.size) (h0 : s[0] = 39) (h : qscan (s.data.toList.drop 1) = some (x, r)) : (s.extract 0 (s.size - r.length)).data.toList = 39 :: (dbl x ++ [39]) := by
  obtain ⟨h2, _⟩ := qscan_some _ _ _ _ (Nat.le_refl _) h
  have h3 : 0 < s.data.toList.length := by rw [← Lib.size_eq]; omega
  have h4 : s.data.toList = 39 :: (dbl x ++ 39 :: r) := by
    rw [← h2, ← h0]
    exact (List.drop_eq_getElem_cons h3)
  rw [take_list, Lib.size_eq, h4]
  have e : (39 :: (dbl x ++ 39 :: r) : List UInt8) = (39 :: (dbl x ++ [39])) ++ r := by simp
  rw [e, List.take_append_of_le_length (by simp; omega), List.take_of_length_le (by simp; omega)]

set_option maxRecDepth 100000 in
set_option maxHeartbeats 800000 in
theorem fs_yes (s : ByteArray) (w : World) (h1 : 1 ≤ s.size) (hs : s.size ≤ 100000) (h0 : s[0] = 39) (hl : LibE w) (n : Nat) (x r : List UInt8) (hq : qscan (s.data.toList.drop 1) = some (x, r)) (hm : mayB 2 0 ⟨x.toArray⟩ = true) (hn : n = s.size - r.length) :
    Calls Tryz.prog 36 #[.string s] w fun e w' => e = .returned (.tuple #[.agg #[.int .i64 3, .string ⟨x.toArray⟩], .int .i64 n]) ∧ Below w.heap.size w w' := by
  have HL := Lib.hid hl
  obtain ⟨e1, e2⟩ := qN_some h1 hq
  have HQ := Lib.hid (fun (W : World) => (show Calls Tryz.prog 54 #[.string s] W fun e w' => e = .returned (.int .i64 n) ∧ Below W.heap.size W w' by
    have := quoted_any s W h1 hs
    rw [e1, ← hn] at this
    exact this))
  have HP := Lib.hid (fun (W : World) (h : LibE W) => vparse_ok 2 0 ⟨x.toArray⟩ (s.extract 0 n) W hm (by rw [quote_txt x hm, hn, quote_cut h1 h0 hq]) in64_0 (by rw [ByteArray.size_extract]; omega) h)
  have hle : (n : Int) ≤ (s.size : Int) := by omega
  have hle2 : n ≤ s.size := by omega
  clear hq hm hn e1 e2 h0
  clear hl
  go_enter Tryz.func36, Tryz.ntmps36
  go_wp2_with (first
    | (go_at_call 54; refine (HQ.out _).mono ?_; rintro e w1 ⟨rfl, hb1⟩; have hc1 := (bcell hb1).1; have hf1 := (bcell hb1).2; have hy1 := hb1.size; (try simp at hy1); have hz1_0 : w.heap.size < w1.heap.size := (by omega); have hx1 : w.heap.size < w1.heap.size + 1 := (by omega); have hx2 : ¬ w.heap.size = w1.heap.size := (by omega))
    | (go_at_call 55; refine (HP.out _ (HL.out.keep (by repeat (first | (with_reducible exact Below.refl _ _) | ((with_reducible refine cSet3 ?_ ?_ _ _ _); (· ((try simp) <;> omega))) | (with_reducible refine Below.drew ?_) | ((with_reducible refine cAlloc ?_ ?_ _); (· ((try simp) <;> omega))) | ((with_reducible refine cOn (by assumption) ?_ ?_); (· ((try simp) <;> omega))))) (Nat.le_refl _))).mono ?_; rintro e w2 ⟨rfl, hb2⟩; have hc2 := (bcell hb2).1; have hf2 := (bcell hb2).2; have hy2 := hb2.size; (try simp at hy2); have hz2_0 : w.heap.size < w2.heap.size := (by omega)))
  refine bodyPost_ret (v := .tuple #[.agg #[.int .i64 3, .string ⟨x.toArray⟩], .int .i64 n]) ?_ rfl ⟨rfl, ?_⟩
  · (simp [results, Tryz.results36, go_sem, *]; done)
  repeat (first | (with_reducible exact Below.refl _ _) | ((with_reducible refine cSet1 ?_ ?_ _ _); (· ((try simp) <;> omega))) | (with_reducible refine Below.drew ?_) | ((with_reducible refine cAlloc ?_ ?_ _); (· ((try simp) <;> omega))) | ((with_reducible refine cOn (by assumption) ?_ ?_); (· ((try simp) <;> omega))))

set_option maxRecDepth 100000 in
set_option maxHeartbeats 800000 in
theorem fs_bad (s : ByteArray) (w : World) (h1 : 1 ≤ s.size) (hs : s.size ≤ 100000) (h0 : s[0] = 39) (hl : LibE w) (n : Nat) (hn : n = qN s.size (s.data.toList.drop 1)) (hle2 : n ≤ s.size) (hno : ∀ k i S, In64 i → mayB k i S = true → txtO k i S ≠ (s.extract 0 n).data.toList) :
    Calls Tryz.prog 36 #[.string s] w fun e w' => e = .returned (.tuple #[.agg #[.int .i64 0, .string ⟨#[]⟩], .int .i64 0]) ∧ Below w.heap.size w w' := by
  have HL := Lib.hid hl
  have HQ := Lib.hid (fun (W : World) => (show Calls Tryz.prog 54 #[.string s] W fun e w' => e = .returned (.int .i64 n) ∧ Below W.heap.size W w' by
    have := quoted_any s W h1 hs
    rw [← hn] at this
    exact this))
  have HP := Lib.hid (fun (W : World) (h : LibE W) => vparse_no (s.extract 0 n) W hno (by rw [ByteArray.size_extract]; omega) h)
  have hle : (n : Int) ≤ (s.size : Int) := by omega
  clear hno hn h0
  clear hl
  go_enter Tryz.func36, Tryz.ntmps36
  go_wp2_with (first
    | (go_at_call 54; refine (HQ.out _).mono ?_; rintro e w1 ⟨rfl, hb1⟩; have hc1 := (bcell hb1).1; have hf1 := (bcell hb1).2; have hy1 := hb1.size; (try simp at hy1); have hz1_0 : w.heap.size < w1.heap.size := (by omega); have hx1 : w.heap.size < w1.heap.size + 1 := (by omega); have hx2 : ¬ w.heap.size = w1.heap.size := (by omega))
    | (go_at_call 55; refine (HP.out _ (HL.out.keep (by repeat (first | (with_reducible exact Below.refl _ _) | ((with_reducible refine cSet3 ?_ ?_ _ _ _); (· ((try simp) <;> omega))) | (with_reducible refine Below.drew ?_) | ((with_reducible refine cAlloc ?_ ?_ _); (· ((try simp) <;> omega))) | ((with_reducible refine cOn (by assumption) ?_ ?_); (· ((try simp) <;> omega))))) (Nat.le_refl _))).mono ?_; rintro e w2 ⟨rfl, hb2⟩; have hc2 := (bcell hb2).1; have hf2 := (bcell hb2).2; have hy2 := hb2.size; (try simp at hy2); have hz2_0 : w.heap.size < w2.heap.size := (by omega)))
  refine bodyPost_ret (v := .tuple #[.agg #[.int .i64 0, .string ⟨#[]⟩], .int .i64 0]) ?_ rfl ⟨rfl, ?_⟩
  · (simp [results, Tryz.results36, go_sem, *]; done)
  repeat (first | (with_reducible exact Below.refl _ _) | ((with_reducible refine cSet1 ?_ ?_ _ _); (· ((try simp) <;> omega))) | (with_reducible refine Below.drew ?_) | ((with_reducible refine cAlloc ?_ ?_ _); (· ((try simp) <;> omega))) | ((with_reducible refine cOn (by assumption) ?_ ?_); (· ((try simp) <;> omega))))

theorem no_text_nil : ∀ k i S, In64 i → mayB k i S = true → txtO k i S ≠ [] := by
  intro k i S hi hm e
  cases four k i S hm with
  | null hk hi hs ht => rw [ht] at e; cases e
  | num hk hs ht => obtain ⟨c, l, e1, _⟩ := itoa_head i; rw [ht, e1] at e; cases e
  | text hk hi hz hc ht => rw [ht] at e; cases e
  | no hk hi hs ht => rw [ht] at e; cases e
  | yes hk hi hs ht => rw [ht] at e; cases e
/-- What the document of tokens says of a text's beginning, as the program hands it on. -/
def tkV (t : Option (Tk × Nat)) : Value := match t with
  | none => .tuple #[.agg #[.int .i64 0, .string ⟨#[]⟩], .int .i64 0]
  | some (t, n) => .tuple #[.agg #[.int .i64 t.k, .string ⟨t.s.toArray⟩], .int .i64 n]
theorem list_head {s : ByteArray} (h : 0 < s.size) : ∃ r, s.data.toList = s[0] :: r ∧ r = s.data.toList.drop 1 := by
  have h3 : 0 < s.data.toList.length := by rw [← Lib.size_eq]; omega
  exact ⟨_, (List.drop_eq_getElem_cons h3), rfl⟩
theorem firstString_any (s : ByteArray) (w : World) (h1 : 1 ≤ s.size) (hs : s.size ≤ 100000) (h0 : s[0] = 39) (hl : LibE w) :
    Calls Tryz.prog 36 #[.string s] w fun e w' => e = .returned (tkV (fst s.data.toList)) ∧ Below w.heap.size w w' := by
  obtain ⟨r0, e0, er⟩ := list_head h1
  rw [h0] at e0
  have e1 : fst s.data.toList = match qscan (s.data.toList.drop 1) with
      | none => none
      | some (x, t) => if mayB 2 0 ⟨x.toArray⟩ then some (⟨3, x⟩, s.size - t.length) else none := by
    rw [Lib.size_eq, e0]
    simp [fst]
    cases qscan r0 <;> rfl
  cases hq : qscan (s.data.toList.drop 1) with
  | none =>
    rw [hq] at e1
    rw [e1]
    have hz : qN s.size (s.data.toList.drop 1) = 0 := by unfold qN; rw [hq]
    exact fs_bad s w h1 hs h0 hl 0 hz.symm (by omega) (by rw [take_list]; simpa using no_text_nil)
  | some y =>
    obtain ⟨x, r⟩ := y
    rw [hq] at e1
    simp only at e1
    cases hm : mayB 2 0 ⟨x.toArray⟩ with
    | true =>
      rw [hm] at e1
      rw [e1]
      exact fs_yes s w h1 hs h0 hl _ x r hq hm rfl
    | false =>
      rw [hm] at e1
      rw [e1]
      obtain ⟨q1, q2⟩ := qN_some h1 hq
      refine fs_bad s w h1 hs h0 hl (s.size - r.length) q1.symm (by omega) fun k i S hi hmm e => ?_
      rw [quote_cut h1 h0 hq] at e
      rw [quote_only hmm e] at hm
      cases hm

end Go.Proofs.YtnahejljelbbgaaGreatDoor
