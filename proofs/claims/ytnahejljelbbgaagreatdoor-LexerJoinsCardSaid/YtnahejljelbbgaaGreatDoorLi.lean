import Derived.Test.YtnahejljelbbgaaGreatDoorLh
/- May a token be. -/
namespace Go.Proofs.YtnahejljelbbgaaGreatDoor
open Go.RowKit Go.Lib

/-- May a token be? -/
def tmayB (k : Int) (s : ByteArray) : Bool :=
  if k = 3 then mayB 2 0 s else if k = 1 then kmay letB parB 16 s.data.toList else if k = 2 then kmay digB digB 19 s.data.toList else if k = 4 then kmay sigB nonB 1 s.data.toList else false
theorem vmay_any (k i : Int) (s : ByteArray) (w : World) :
    Calls Tryz.prog 24 #[.agg #[.int .i64 k, .int .i64 i, .string s]] w fun e w' => e = .returned (.bool (mayB k i s)) ∧ Below w.heap.size w w' := by
  cases h : mayB k i s with
  | true => exact may_t k i s w h
  | false => exact may_f k i s w h
set_option maxRecDepth 100000 in
theorem meant_any (k : Int) (s : ByteArray) (w : World) :
    Calls Tryz.prog 25 #[.agg #[.int .i64 k, .string s]] w fun e w' => e = .returned (.agg #[.int .i64 2, .int .i64 0, .string s]) ∧ Below w.heap.size w w' := by
  go_enter Tryz.func25, Tryz.ntmps25
  go_wp2
  refine bodyPost_ret (v := .agg #[.int .i64 2, .int .i64 0, .string s]) ?_ rfl ⟨rfl, ?_⟩
  · (simp [results, Tryz.results25, go_sem, *]; done)
  repeat (first | (with_reducible exact Below.refl _ _) | ((with_reducible refine cSet1 ?_ ?_ _ _); (· ((try simp) <;> omega))) | (with_reducible refine Below.drew ?_) | ((with_reducible refine cAlloc ?_ ?_ _); (· ((try simp) <;> omega))) | ((with_reducible refine cOn (by assumption) ?_ ?_); (· ((try simp) <;> omega))))

set_option maxRecDepth 100000 in
set_option maxHeartbeats 800000 in
theorem tmay_3 (s : ByteArray) (w : World) :
    Calls Tryz.prog 12 #[.agg #[.int .i64 3, .string s]] w fun e w' => e = .returned (.bool (mayB 2 0 s)) ∧ Below w.heap.size w w' := by
  go_enter Tryz.func12, Tryz.ntmps12
  go_wp2_with (first
    | (go_at_call 25; refine (meant_any _ _ _).mono ?_; rintro e w1 ⟨rfl, hb1⟩; have hc1 := (bcell hb1).1; have hf1 := (bcell hb1).2; have hy1 := hb1.size; (try simp at hy1); have hz1_0 : w.heap.size < w1.heap.size := (by omega))
    | (go_at_call 24; refine (vmay_any _ _ _ _).mono ?_; rintro e w2 ⟨rfl, hb2⟩; have hc2 := (bcell hb2).1; have hf2 := (bcell hb2).2; have hy2 := hb2.size; (try simp at hy2); have hz2_0 : w.heap.size < w2.heap.size := (by omega)))
  go_ret
  refine ⟨rfl, ?_⟩
  repeat (first | (with_reducible exact Below.refl _ _) | ((with_reducible refine cSet3 ?_ ?_ _ _ _); (· ((try simp) <;> omega))) | (with_reducible refine Below.drew ?_) | ((with_reducible refine cAlloc ?_ ?_ _); (· ((try simp) <;> omega))) | ((with_reducible refine cOn (by assumption) ?_ ?_); (· ((try simp) <;> omega))))

/-- The token's box, while the kinds are gone through. -/
structure TB (w : World) (k : Int) (s : ByteArray) (W : World) : Prop where
  below : Below w.heap.size w W
  c0 : W.cell? ⟨w.heap.size, 0, none⟩ = some (.int .i64 k)
  c1 : W.cell? ⟨w.heap.size, 1, none⟩ = some (.string s)
theorem TB.lt {w W : World} {k : Int} {s : ByteArray} (h : TB w k s W) : w.heap.size < W.heap.size := World.block_lt_of_cell? _ _ h.c0
theorem TB.later {w W W' : World} {k : Int} {s : ByteArray} (h : TB w k s W) (hb : Below W.heap.size W W') : TB w k s W' :=
  ⟨h.below.trans (hb.mono h.below.size), (hb.cell (p := ⟨_, _, none⟩) h.lt).trans h.c0, (hb.cell (p := ⟨_, _, none⟩) h.lt).trans h.c1⟩
theorem TB.alloc {w W : World} {k : Int} {s : ByteArray} (h : TB w k s W) (o : Obj) : TB w k s (W.alloc o) := h.later ((Below.refl _ _).alloc (Nat.le_refl _) o)
theorem TB.start (w : World) (k : Int) (s : ByteArray) (t : TypeId) : TB w k s (w.alloc (.cells #[.int .i64 k, .string s] t)) :=
  ⟨(Below.refl _ _).alloc (Nat.le_refl _) _, by simp [go_sem], by simp [go_sem]⟩

set_option maxRecDepth 100000 in
set_option maxHeartbeats 1600000 in
theorem tmay_k0 (s : ByteArray) (w : World) (hs : s.size ≤ 100000) :
    Calls Tryz.prog 12 #[.agg #[.int .i64 1, .string s]] w fun e w' => e = .returned (.bool (kmay letB parB 16 s.data.toList)) ∧ Below w.heap.size w w' := by
  go_enter Tryz.func12, Tryz.ntmps12
  go_wp2_with (go_at_call 26; refine (kinds_any _).mono ?_; rintro e w1 ⟨rfl, hb1⟩; have HW0 := Lib.hid ((TB.start w 1 s _).later hb1); clear hb1)
  go_loopw [12] (fun i wr => ∃ n : Nat, n ≤ 0 ∧ i = .int .i64 n ∧ TB w 1 s wr) (fun i _ => 3 - (intOf i).toNat)
  case atStart => exact ⟨0, by omega, rfl, HW0.out⟩
  case round =>
    obtain ⟨n, hn, rfl, hW⟩ := hrel
    have HW := Lib.hid hW
    clear hW HW0
    obtain ⟨wo, hwo⟩ : ∃ wo : World, wo = wr := ⟨_, rfl⟩
    rw [← hwo] at HW ⊢
    clear hwo
    by_cases hn0 : n = 0
    · subst hn0
      have r0 := HW.out.c0
      have r1 := HW.out.c1
      have rl := HW.out.lt
      have ix := kix0
      have rn : ¬ w.heap.size = wo.heap.size := by omega
      go_wp2_with (go_at_call 27; refine (kmay_any 1 16 _ _ letB parB cls_letter cls_inWord s _ hs (by omega)).mono ?_; rintro e w2 ⟨rfl, hb2⟩)
      go_ret
      exact ⟨rfl, (HW.out.alloc _).below.trans (hb2.mono (HW.out.alloc _).below.size)⟩
    · skip
      omega

set_option maxRecDepth 100000 in
set_option maxHeartbeats 1600000 in
theorem tmay_k1 (s : ByteArray) (w : World) (hs : s.size ≤ 100000) :
    Calls Tryz.prog 12 #[.agg #[.int .i64 2, .string s]] w fun e w' => e = .returned (.bool (kmay digB digB 19 s.data.toList)) ∧ Below w.heap.size w w' := by
  go_enter Tryz.func12, Tryz.ntmps12
  go_wp2_with (go_at_call 26; refine (kinds_any _).mono ?_; rintro e w1 ⟨rfl, hb1⟩; have HW0 := Lib.hid ((TB.start w 2 s _).later hb1); clear hb1)
  go_loopw [12] (fun i wr => ∃ n : Nat, n ≤ 1 ∧ i = .int .i64 n ∧ TB w 2 s wr) (fun i _ => 3 - (intOf i).toNat)
  case atStart => exact ⟨0, by omega, rfl, HW0.out⟩
  case round =>
    obtain ⟨n, hn, rfl, hW⟩ := hrel
    have HW := Lib.hid hW
    clear hW HW0
    obtain ⟨wo, hwo⟩ : ∃ wo : World, wo = wr := ⟨_, rfl⟩
    rw [← hwo] at HW ⊢
    clear hwo
    by_cases hn0 : n = 0
    · subst hn0
      have r0 := HW.out.c0
      have r1 := HW.out.c1
      have rl := HW.out.lt
      have ix := kix0
      have rn : ¬ w.heap.size = wo.heap.size := by omega
      go_wp2
      go_roundw
      case rel => exact ⟨0 + 1, by omega, by go_num, HW.out.alloc _⟩
      case measure => simp [intOf]; try omega
    · skip
      by_cases hn1 : n = 1
      · subst hn1
        have r0 := HW.out.c0
        have r1 := HW.out.c1
        have rl := HW.out.lt
        have ix := kix1
        have rn : ¬ w.heap.size = wo.heap.size := by omega
        go_wp2_with (go_at_call 27; refine (kmay_any 2 19 _ _ digB digB cls_digit cls_digit s _ hs (by omega)).mono ?_; rintro e w2 ⟨rfl, hb2⟩)
        go_ret
        exact ⟨rfl, (HW.out.alloc _).below.trans (hb2.mono (HW.out.alloc _).below.size)⟩
      · skip
        omega

set_option maxRecDepth 100000 in
set_option maxHeartbeats 1600000 in
theorem tmay_k2 (s : ByteArray) (w : World) (hs : s.size ≤ 100000) :
    Calls Tryz.prog 12 #[.agg #[.int .i64 4, .string s]] w fun e w' => e = .returned (.bool (kmay sigB nonB 1 s.data.toList)) ∧ Below w.heap.size w w' := by
  go_enter Tryz.func12, Tryz.ntmps12
  go_wp2_with (go_at_call 26; refine (kinds_any _).mono ?_; rintro e w1 ⟨rfl, hb1⟩; have HW0 := Lib.hid ((TB.start w 4 s _).later hb1); clear hb1)
  go_loopw [12] (fun i wr => ∃ n : Nat, n ≤ 2 ∧ i = .int .i64 n ∧ TB w 4 s wr) (fun i _ => 3 - (intOf i).toNat)
  case atStart => exact ⟨0, by omega, rfl, HW0.out⟩
  case round =>
    obtain ⟨n, hn, rfl, hW⟩ := hrel
    have HW := Lib.hid hW
    clear hW HW0
    obtain ⟨wo, hwo⟩ : ∃ wo : World, wo = wr := ⟨_, rfl⟩
    rw [← hwo] at HW ⊢
    clear hwo
    by_cases hn0 : n = 0
    · subst hn0
      have r0 := HW.out.c0
      have r1 := HW.out.c1
      have rl := HW.out.lt
      have ix := kix0
      have rn : ¬ w.heap.size = wo.heap.size := by omega
      go_wp2
      go_roundw
      case rel => exact ⟨0 + 1, by omega, by go_num, HW.out.alloc _⟩
      case measure => simp [intOf]; try omega
    · skip
      by_cases hn1 : n = 1
      · subst hn1
        have r0 := HW.out.c0
        have r1 := HW.out.c1
        have rl := HW.out.lt
        have ix := kix1
        have rn : ¬ w.heap.size = wo.heap.size := by omega
        go_wp2
        go_roundw
        case rel => exact ⟨1 + 1, by omega, by go_num, HW.out.alloc _⟩
        case measure => simp [intOf]; try omega
      · skip
        by_cases hn2 : n = 2
        · subst hn2
          have r0 := HW.out.c0
          have r1 := HW.out.c1
          have rl := HW.out.lt
          have ix := kix2
          have rn : ¬ w.heap.size = wo.heap.size := by omega
          go_wp2_with (go_at_call 27; refine (kmay_any 4 1 _ _ sigB nonB cls_isSign cls_none s _ hs (by omega)).mono ?_; rintro e w2 ⟨rfl, hb2⟩)
          go_ret
          exact ⟨rfl, (HW.out.alloc _).below.trans (hb2.mono (HW.out.alloc _).below.size)⟩
        · skip
          omega

set_option maxRecDepth 100000 in
set_option maxHeartbeats 1600000 in
theorem tmay_k3 (k : Int) (s : ByteArray) (w : World) (hs : s.size ≤ 100000) (hk0 : ¬ k = 1) (hk1 : ¬ k = 2) (hk2 : ¬ k = 4) (hk3 : ¬ k = 3) :
    Calls Tryz.prog 12 #[.agg #[.int .i64 k, .string s]] w fun e w' => e = .returned (.bool false) ∧ Below w.heap.size w w' := by
  have n0 : ¬ (1 : Int) = k := fun h => hk0 h.symm
  have n1 : ¬ (2 : Int) = k := fun h => hk1 h.symm
  have n2 : ¬ (4 : Int) = k := fun h => hk2 h.symm
  go_enter Tryz.func12, Tryz.ntmps12
  go_wp2_with (go_at_call 26; refine (kinds_any _).mono ?_; rintro e w1 ⟨rfl, hb1⟩; have HW0 := Lib.hid ((TB.start w k s _).later hb1); clear hb1)
  go_loopw [12] (fun i wr => ∃ n : Nat, n ≤ 3 ∧ i = .int .i64 n ∧ TB w k s wr) (fun i _ => 3 - (intOf i).toNat)
  case atStart => exact ⟨0, by omega, rfl, HW0.out⟩
  case round =>
    obtain ⟨n, hn, rfl, hW⟩ := hrel
    have HW := Lib.hid hW
    clear hW HW0
    obtain ⟨wo, hwo⟩ : ∃ wo : World, wo = wr := ⟨_, rfl⟩
    rw [← hwo] at HW ⊢
    clear hwo
    by_cases hn0 : n = 0
    · subst hn0
      have r0 := HW.out.c0
      have r1 := HW.out.c1
      have rl := HW.out.lt
      have ix := kix0
      have rn : ¬ w.heap.size = wo.heap.size := by omega
      go_wp2
      go_roundw
      case rel => exact ⟨0 + 1, by omega, by go_num, HW.out.alloc _⟩
      case measure => simp [intOf]; try omega
    · skip
      by_cases hn1 : n = 1
      · subst hn1
        have r0 := HW.out.c0
        have r1 := HW.out.c1
        have rl := HW.out.lt
        have ix := kix1
        have rn : ¬ w.heap.size = wo.heap.size := by omega
        go_wp2
        go_roundw
        case rel => exact ⟨1 + 1, by omega, by go_num, HW.out.alloc _⟩
        case measure => simp [intOf]; try omega
      · skip
        by_cases hn2 : n = 2
        · subst hn2
          have r0 := HW.out.c0
          have r1 := HW.out.c1
          have rl := HW.out.lt
          have ix := kix2
          have rn : ¬ w.heap.size = wo.heap.size := by omega
          go_wp2
          go_roundw
          case rel => exact ⟨2 + 1, by omega, by go_num, HW.out.alloc _⟩
          case measure => simp [intOf]; try omega
        · skip
          obtain rfl : n = 3 := by omega
          go_wp2
          go_ret
          exact ⟨rfl, HW.out.below⟩

theorem tmay_any (k : Int) (s : ByteArray) (w : World) (hs : s.size ≤ 100000) :
    Calls Tryz.prog 12 #[.agg #[.int .i64 k, .string s]] w fun e w' => e = .returned (.bool (tmayB k s)) ∧ Below w.heap.size w w' := by
  unfold tmayB
  by_cases h3 : k = 3
  · rw [if_pos h3]; subst h3; exact tmay_3 s w
  · rw [if_neg h3]
    by_cases h1 : k = 1
    · rw [if_pos h1]; subst h1; exact tmay_k0 s w hs
    · rw [if_neg h1]
      by_cases h2 : k = 2
      · rw [if_pos h2]; subst h2; exact tmay_k1 s w hs
      · rw [if_neg h2]
        by_cases h4 : k = 4
        · rw [if_pos h4]; subst h4; exact tmay_k2 s w hs
        · rw [if_neg h4]; exact tmay_k3 k s w hs h1 h2 h4 h3
end Go.Proofs.YtnahejljelbbgaaGreatDoor
