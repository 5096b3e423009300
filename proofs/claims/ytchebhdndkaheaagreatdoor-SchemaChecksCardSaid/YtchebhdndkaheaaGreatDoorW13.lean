import Derived.Test.YtchebhdndkaheaaGreatDoorW12
import Derived.RegionTactic

/- The token with which a text begins: first. -/
namespace Go.Proofs.YtchebhdndkaheaaGreatDoor
open Go.RowKit Go.Lib

/-- The result's box, while the kinds are gone through. -/
structure W2 (w W : World) : Prop where
  below : Below w.heap.size w W
  r0 : W.cell? ⟨w.heap.size, 0, none⟩ = some (.int .i64 0)
  r1 : W.cell? ⟨w.heap.size, 1, none⟩ = some (.string ⟨#[]⟩)
  f : ∀ o, W.frozen? ⟨w.heap.size, o, none⟩ = false
theorem W2.lt {w W : World} (h : W2 w W) : w.heap.size < W.heap.size := World.block_lt_of_cell? _ _ h.r0
theorem W2.later {w W W' : World} (h : W2 w W) (hb : Below W.heap.size W W') : W2 w W' :=
  ⟨h.below.trans (hb.mono h.below.size), (hb.cell (p := ⟨_, _, none⟩) h.lt).trans h.r0, (hb.cell (p := ⟨_, _, none⟩) h.lt).trans h.r1, fun o => (hb.frozen (p := ⟨_, o, none⟩) h.lt).trans (h.f o)⟩
theorem W2.alloc {w W : World} (h : W2 w W) (o : Obj) : W2 w (W.alloc o) := h.later ((Below.refl _ _).alloc (Nat.le_refl _) o)
theorem W2.start (w : World) (t : TypeId) : W2 w (w.alloc (.cells #[.int .i64 0, .string ⟨#[]⟩] t)) :=
  ⟨(Below.refl _ _).alloc (Nat.le_refl _) _, by simp [go_sem], by simp [go_sem], fun o => by simp [go_sem]⟩
theorem W2.later' {w W W1 W' : World} {o : Obj} (h : W2 w W) (e : W1 = W.alloc o) (hb : Below W1.heap.size W1 W') : W2 w W' := (h.alloc o).later (e ▸ hb)

theorem kix0 (W : World) : (Instr.index 172 (.agg #[.int .i64 1, .int .i64 16, .func (.func 147) #[] #[], .func (.func 148) #[] #[], .int .i64 2, .int .i64 19, .func (.func 171) #[] #[], .func (.func 171) #[] #[], .int .i64 4, .int .i64 1, .func (.func 189) #[] #[], .func (.func 190) #[] #[]]) (.int .i64 0)).run Tryz.prog W = .ok (.agg #[.int .i64 1, .int .i64 16, .func (.func 147) #[] #[], .func (.func 148) #[] #[]]) W := by kernel_rfl
theorem kix1 (W : World) : (Instr.index 172 (.agg #[.int .i64 1, .int .i64 16, .func (.func 147) #[] #[], .func (.func 148) #[] #[], .int .i64 2, .int .i64 19, .func (.func 171) #[] #[], .func (.func 171) #[] #[], .int .i64 4, .int .i64 1, .func (.func 189) #[] #[], .func (.func 190) #[] #[]]) (.int .i64 1)).run Tryz.prog W = .ok (.agg #[.int .i64 2, .int .i64 19, .func (.func 171) #[] #[], .func (.func 171) #[] #[]]) W := by kernel_rfl
theorem kix2 (W : World) : (Instr.index 172 (.agg #[.int .i64 1, .int .i64 16, .func (.func 147) #[] #[], .func (.func 148) #[] #[], .int .i64 2, .int .i64 19, .func (.func 171) #[] #[], .func (.func 171) #[] #[], .int .i64 4, .int .i64 1, .func (.func 189) #[] #[], .func (.func 190) #[] #[]]) (.int .i64 2)).run Tryz.prog W = .ok (.agg #[.int .i64 4, .int .i64 1, .func (.func 189) #[] #[], .func (.func 190) #[] #[]]) W := by kernel_rfl

set_option maxRecDepth 100000 in
set_option maxHeartbeats 800000 in
theorem first_quote (s : ByteArray) (w : World) (h1 : 1 ≤ s.size) (hs : s.size ≤ 100000) (h0 : s[0] = 39) (hl : LibE w) (k : Int) (S : ByteArray) (n : Int) (ht : tkV (fst s.data.toList) = .tuple #[.agg #[.int .i64 k, .string S], .int .i64 n]) :
    Calls Tryz.prog 110 #[.string s] w fun e w' => e = .returned (tkV (fst s.data.toList)) ∧ Below w.heap.size w w' := by
  have HF := Lib.hid (fun (W : World) (h : LibE W) => firstString_any s W h1 hs h0 h)
  rw [ht] at HF ⊢
  have HL := Lib.hid hl
  have h39 : (s[0].toNat : Int) = 39 := by rw [h0]; rfl
  clear hl ht h0
  go_enter Tryz.func110, Tryz.ntmps110
  go_wp2_with (first
    | (go_at_call 143; refine (HF.out _ (HL.out.keep (by repeat (first | (with_reducible exact Below.refl _ _) | ((with_reducible refine cSet3 ?_ ?_ _ _ _); (· ((try simp) <;> omega))) | (with_reducible refine Below.drew ?_) | ((with_reducible refine cAlloc ?_ ?_ _); (· ((try simp) <;> omega))) | ((with_reducible refine cOn (by assumption) ?_ ?_); (· ((try simp) <;> omega))))) (Nat.le_refl _))).mono ?_; rintro e w1 ⟨rfl, hb1⟩; have hc1 := (bcell hb1).1; have hf1 := (bcell hb1).2; have hy1 := hb1.size; (try simp at hy1); have hz1_0 : w.heap.size < w1.heap.size := (by omega)))
  refine bodyPost_ret (v := .tuple #[.agg #[.int .i64 k, .string S], .int .i64 n]) ?_ rfl ⟨rfl, ?_⟩
  · (simp [results, Tryz.results110, go_sem, *]; done)
  repeat (first | (with_reducible exact Below.refl _ _) | ((with_reducible refine cSet1 ?_ ?_ _ _); (· ((try simp) <;> omega))) | (with_reducible refine Below.drew ?_) | ((with_reducible refine cAlloc ?_ ?_ _); (· ((try simp) <;> omega))) | ((with_reducible refine cOn (by assumption) ?_ ?_); (· ((try simp) <;> omega))))

set_option maxRecDepth 100000 in
set_option maxHeartbeats 3200000 in
theorem first_0 (s : ByteArray) (w : World) (hs : s.size ≤ 100000) (hl : 0 < s.size) (h39 : ¬ (s[0].toNat : Int) = 39) (n0 : Nat) (h0 : n0 ≤ s.size) (t0 : ∀ W, Calls Tryz.prog 145 #[.agg #[.int .i64 1, .int .i64 16, .func (.func 147) #[] #[], .func (.func 148) #[] #[]], .string s] W fun e w' => e = .returned (.int .i64 n0) ∧ Below W.heap.size W w') (m0 : ∀ W, Calls Tryz.prog 113 #[.agg #[.int .i64 1, .int .i64 16, .func (.func 147) #[] #[], .func (.func 148) #[] #[]], .string (s.extract 0 n0)] W fun e w' => e = .returned (.bool true) ∧ Below W.heap.size W w') :
    Calls Tryz.prog 110 #[.string s] w fun e w' => e = .returned (.tuple #[.agg #[.int .i64 1, .string (s.extract 0 n0)], .int .i64 n0]) ∧ Below w.heap.size w w' := by
  have HT0 := Lib.hid t0
  have HM0 := Lib.hid m0
  have b0 : 0 ≤ (n0 : Int) ∧ (n0 : Int) ≤ (s.size : Int) := by omega
  clear t0 m0
  go_enter Tryz.func110, Tryz.ntmps110
  go_wp2_with (go_at_call 144; refine (kinds_any _).mono ?_; rintro e w1 ⟨rfl, hb1⟩; have HW0 := Lib.hid ((W2.start w _).later hb1); clear hb1)
  go_loopw [15] (fun i wr => ∃ k : Nat, k ≤ 0 ∧ i = .int .i64 k ∧ W2 w wr) (fun i _ => 3 - (intOf i).toNat)
  case atStart => exact ⟨0, by omega, rfl, HW0.out⟩
  case round =>
    obtain ⟨k, hk, rfl, hW⟩ := hrel
    have HW := Lib.hid hW
    clear hW HW0
    obtain ⟨wo, hwo⟩ : ∃ wo : World, wo = wr := ⟨_, rfl⟩
    rw [← hwo] at HW ⊢
    clear hwo
    by_cases hk0 : k = 0
    · subst hk0
      have r0 := HW.out.r0
      have r1 := HW.out.r1
      have rf := HW.out.f
      have rl := HW.out.lt
      have ix := kix0
      go_wp2_with (go_at_call 145; refine (HT0.out _).mono ?_; rintro e w1 ⟨rfl, hb1⟩; have HW1 := Lib.hid (HW.out.later' rfl hb1); have q0 : w1.cell? ⟨wo.heap.size, 0, none⟩ = some (.int .i64 1) := (hb1.cell (p := ⟨wo.heap.size, 0, none⟩) (by simp)).trans (by simp [go_sem]); have q1 : w1.cell? ⟨wo.heap.size, 1, none⟩ = some (.int .i64 16) := (hb1.cell (p := ⟨wo.heap.size, 1, none⟩) (by simp)).trans (by simp [go_sem]); have q2 : w1.cell? ⟨wo.heap.size, 2, none⟩ = some (.func (.func 147) #[] #[]) := (hb1.cell (p := ⟨wo.heap.size, 2, none⟩) (by simp)).trans (by simp [go_sem]); have q3 : w1.cell? ⟨wo.heap.size, 3, none⟩ = some (.func (.func 148) #[] #[]) := (hb1.cell (p := ⟨wo.heap.size, 3, none⟩) (by simp)).trans (by simp [go_sem]); have hwz : wo.heap.size < w1.heap.size := (by have := hb1.size; simp at this; omega); clear hb1 r0 r1 rf rl)
      refine detL_begin [.val (.agg #[.int .i64 1, .int .i64 16, .func (.func 147) #[] #[], .func (.func 148) #[] #[]]), .val (.string s), .val (.int .i64 n0), .val (.string (s.extract 0 n0)), .val (.bool true)] 5 (by kernel_rfl) ?_
      refine detL_val (by kernel_rfl) (yields_of rfl fun w1 hb1 => ?_) ?_
      · have hc1 := bcellD hb1
        have d0 := (hc1 wo.heap.size 0 hwz).trans q0; have d1 := (hc1 wo.heap.size 1 hwz).trans q1; have d2 := (hc1 wo.heap.size 2 hwz).trans q2; have d3 := (hc1 wo.heap.size 3 hwz).trans q3
        clear hb1
        go_simp
        exact Det1_same
      simp only [Act.put, List.setIfInBounds_toArray, List.set_cons_zero, List.set_cons_succ]
      refine detL_val (by kernel_rfl) (yields_of rfl fun w1 hb1 => ?_) ?_
      · have hc1 := bcellD hb1
        clear hb1
        go_simp
        exact Det1_same
      simp only [Act.put, List.setIfInBounds_toArray, List.set_cons_zero, List.set_cons_succ]
      refine detL_val (by kernel_rfl) (yields_of rfl fun w1 hb1 => ?_) ?_
      · have hc1 := bcellD hb1
        clear hb1
        go_simp
        exact Det1_same
      simp only [Act.put, List.setIfInBounds_toArray, List.set_cons_zero, List.set_cons_succ]
      refine detL_val (by kernel_rfl) (yields_of rfl fun w1 hb1 => ?_) ?_
      · have hc1 := bcellD hb1
        clear hb1
        go_simp
        exact Det1_same
      simp only [Act.put, List.setIfInBounds_toArray, List.set_cons_zero, List.set_cons_succ]
      refine detL_val (by kernel_rfl) (yields_of rfl fun w1 hb1 => ?_) ?_
      · have hc1 := bcellD hb1
        clear hb1
        go_simp
        exact Det1_enter (HM0.out _)
      simp only [Act.put, List.setIfInBounds_toArray, List.set_cons_zero, List.set_cons_succ]
      refine detL_done (by kernel_rfl) fun w2 hw2 => ?_
      have HW2 := Lib.hid (HW1.out.later ((Below.refl _ _).drew.trans hw2.below))
      have p0 : w2.cell? ⟨wo.heap.size, 0, none⟩ = some (.int .i64 1) := (hw2.below.cell (p := ⟨wo.heap.size, 0, none⟩) hwz).trans q0
      clear hw2 q0 q1 q2 q3
      have r0 := HW2.out.r0
      have r1 := HW2.out.r1
      have rf := HW2.out.f
      have rl := HW2.out.lt
      go_wp2
      go_region
      all_goals
        go_wp2
        refine bodyPost_ret (v := .tuple #[.agg #[.int .i64 1, .string (s.extract 0 n0)], .int .i64 n0]) ?_ rfl ⟨rfl, ?_⟩
        · (simp [results, Tryz.results110, go_sem, *]; done)
        · have hb1 := HW2.out.below
          repeat (first | (with_reducible exact Below.refl _ _) | ((with_reducible refine cSet1 ?_ ?_ _ _); (· ((try simp) <;> omega))) | (with_reducible refine Below.drew ?_) | ((with_reducible refine cAlloc ?_ ?_ _); (· ((try simp) <;> omega))) | ((with_reducible refine cOn (by assumption) ?_ ?_); (· ((try simp) <;> omega))))
    · skip
      omega

set_option maxRecDepth 100000 in
set_option maxHeartbeats 3200000 in
theorem first_1 (s : ByteArray) (w : World) (hs : s.size ≤ 100000) (hl : 0 < s.size) (h39 : ¬ (s[0].toNat : Int) = 39) (n0 : Nat) (h0 : n0 ≤ s.size) (t0 : ∀ W, Calls Tryz.prog 145 #[.agg #[.int .i64 1, .int .i64 16, .func (.func 147) #[] #[], .func (.func 148) #[] #[]], .string s] W fun e w' => e = .returned (.int .i64 n0) ∧ Below W.heap.size W w') (m0 : ∀ W, Calls Tryz.prog 113 #[.agg #[.int .i64 1, .int .i64 16, .func (.func 147) #[] #[], .func (.func 148) #[] #[]], .string (s.extract 0 n0)] W fun e w' => e = .returned (.bool false) ∧ Below W.heap.size W w') (n1 : Nat) (h1 : n1 ≤ s.size) (t1 : ∀ W, Calls Tryz.prog 145 #[.agg #[.int .i64 2, .int .i64 19, .func (.func 171) #[] #[], .func (.func 171) #[] #[]], .string s] W fun e w' => e = .returned (.int .i64 n1) ∧ Below W.heap.size W w') (m1 : ∀ W, Calls Tryz.prog 113 #[.agg #[.int .i64 2, .int .i64 19, .func (.func 171) #[] #[], .func (.func 171) #[] #[]], .string (s.extract 0 n1)] W fun e w' => e = .returned (.bool true) ∧ Below W.heap.size W w') :
    Calls Tryz.prog 110 #[.string s] w fun e w' => e = .returned (.tuple #[.agg #[.int .i64 2, .string (s.extract 0 n1)], .int .i64 n1]) ∧ Below w.heap.size w w' := by
  have HT0 := Lib.hid t0
  have HM0 := Lib.hid m0
  have b0 : 0 ≤ (n0 : Int) ∧ (n0 : Int) ≤ (s.size : Int) := by omega
  have HT1 := Lib.hid t1
  have HM1 := Lib.hid m1
  have b1 : 0 ≤ (n1 : Int) ∧ (n1 : Int) ≤ (s.size : Int) := by omega
  clear t0 m0 t1 m1
  go_enter Tryz.func110, Tryz.ntmps110
  go_wp2_with (go_at_call 144; refine (kinds_any _).mono ?_; rintro e w1 ⟨rfl, hb1⟩; have HW0 := Lib.hid ((W2.start w _).later hb1); clear hb1)
  go_loopw [15] (fun i wr => ∃ k : Nat, k ≤ 1 ∧ i = .int .i64 k ∧ W2 w wr) (fun i _ => 3 - (intOf i).toNat)
  case atStart => exact ⟨0, by omega, rfl, HW0.out⟩
  case round =>
    obtain ⟨k, hk, rfl, hW⟩ := hrel
    have HW := Lib.hid hW
    clear hW HW0
    obtain ⟨wo, hwo⟩ : ∃ wo : World, wo = wr := ⟨_, rfl⟩
    rw [← hwo] at HW ⊢
    clear hwo
    by_cases hk0 : k = 0
    · subst hk0
      have r0 := HW.out.r0
      have r1 := HW.out.r1
      have rf := HW.out.f
      have rl := HW.out.lt
      have ix := kix0
      go_wp2_with (go_at_call 145; refine (HT0.out _).mono ?_; rintro e w1 ⟨rfl, hb1⟩; have HW1 := Lib.hid (HW.out.later' rfl hb1); have q0 : w1.cell? ⟨wo.heap.size, 0, none⟩ = some (.int .i64 1) := (hb1.cell (p := ⟨wo.heap.size, 0, none⟩) (by simp)).trans (by simp [go_sem]); have q1 : w1.cell? ⟨wo.heap.size, 1, none⟩ = some (.int .i64 16) := (hb1.cell (p := ⟨wo.heap.size, 1, none⟩) (by simp)).trans (by simp [go_sem]); have q2 : w1.cell? ⟨wo.heap.size, 2, none⟩ = some (.func (.func 147) #[] #[]) := (hb1.cell (p := ⟨wo.heap.size, 2, none⟩) (by simp)).trans (by simp [go_sem]); have q3 : w1.cell? ⟨wo.heap.size, 3, none⟩ = some (.func (.func 148) #[] #[]) := (hb1.cell (p := ⟨wo.heap.size, 3, none⟩) (by simp)).trans (by simp [go_sem]); have hwz : wo.heap.size < w1.heap.size := (by have := hb1.size; simp at this; omega); clear hb1 r0 r1 rf rl)
      refine detL_begin [.val (.agg #[.int .i64 1, .int .i64 16, .func (.func 147) #[] #[], .func (.func 148) #[] #[]]), .val (.string s), .val (.int .i64 n0), .val (.string (s.extract 0 n0)), .val (.bool false)] 5 (by kernel_rfl) ?_
      refine detL_val (by kernel_rfl) (yields_of rfl fun w1 hb1 => ?_) ?_
      · have hc1 := bcellD hb1
        have d0 := (hc1 wo.heap.size 0 hwz).trans q0; have d1 := (hc1 wo.heap.size 1 hwz).trans q1; have d2 := (hc1 wo.heap.size 2 hwz).trans q2; have d3 := (hc1 wo.heap.size 3 hwz).trans q3
        clear hb1
        go_simp
        exact Det1_same
      simp only [Act.put, List.setIfInBounds_toArray, List.set_cons_zero, List.set_cons_succ]
      refine detL_val (by kernel_rfl) (yields_of rfl fun w1 hb1 => ?_) ?_
      · have hc1 := bcellD hb1
        clear hb1
        go_simp
        exact Det1_same
      simp only [Act.put, List.setIfInBounds_toArray, List.set_cons_zero, List.set_cons_succ]
      refine detL_val (by kernel_rfl) (yields_of rfl fun w1 hb1 => ?_) ?_
      · have hc1 := bcellD hb1
        clear hb1
        go_simp
        exact Det1_same
      simp only [Act.put, List.setIfInBounds_toArray, List.set_cons_zero, List.set_cons_succ]
      refine detL_val (by kernel_rfl) (yields_of rfl fun w1 hb1 => ?_) ?_
      · have hc1 := bcellD hb1
        clear hb1
        go_simp
        exact Det1_same
      simp only [Act.put, List.setIfInBounds_toArray, List.set_cons_zero, List.set_cons_succ]
      refine detL_val (by kernel_rfl) (yields_of rfl fun w1 hb1 => ?_) ?_
      · have hc1 := bcellD hb1
        clear hb1
        go_simp
        exact Det1_enter (HM0.out _)
      simp only [Act.put, List.setIfInBounds_toArray, List.set_cons_zero, List.set_cons_succ]
      refine detL_done (by kernel_rfl) fun w2 hw2 => ?_
      have HW2 := Lib.hid (HW1.out.later ((Below.refl _ _).drew.trans hw2.below))
      clear hw2 q0 q1 q2 q3
      go_wp2
      go_roundw
      case rel => exact ⟨0 + 1, by omega, by go_num, HW2.out⟩
      case measure => simp [intOf]; try omega
    · skip
      by_cases hk1 : k = 1
      · subst hk1
        have r0 := HW.out.r0
        have r1 := HW.out.r1
        have rf := HW.out.f
        have rl := HW.out.lt
        have ix := kix1
        go_wp2_with (go_at_call 145; refine (HT1.out _).mono ?_; rintro e w1 ⟨rfl, hb1⟩; have HW1 := Lib.hid (HW.out.later' rfl hb1); have q0 : w1.cell? ⟨wo.heap.size, 0, none⟩ = some (.int .i64 2) := (hb1.cell (p := ⟨wo.heap.size, 0, none⟩) (by simp)).trans (by simp [go_sem]); have q1 : w1.cell? ⟨wo.heap.size, 1, none⟩ = some (.int .i64 19) := (hb1.cell (p := ⟨wo.heap.size, 1, none⟩) (by simp)).trans (by simp [go_sem]); have q2 : w1.cell? ⟨wo.heap.size, 2, none⟩ = some (.func (.func 171) #[] #[]) := (hb1.cell (p := ⟨wo.heap.size, 2, none⟩) (by simp)).trans (by simp [go_sem]); have q3 : w1.cell? ⟨wo.heap.size, 3, none⟩ = some (.func (.func 171) #[] #[]) := (hb1.cell (p := ⟨wo.heap.size, 3, none⟩) (by simp)).trans (by simp [go_sem]); have hwz : wo.heap.size < w1.heap.size := (by have := hb1.size; simp at this; omega); clear hb1 r0 r1 rf rl)
        refine detL_begin [.val (.agg #[.int .i64 2, .int .i64 19, .func (.func 171) #[] #[], .func (.func 171) #[] #[]]), .val (.string s), .val (.int .i64 n1), .val (.string (s.extract 0 n1)), .val (.bool true)] 5 (by kernel_rfl) ?_
        refine detL_val (by kernel_rfl) (yields_of rfl fun w1 hb1 => ?_) ?_
        · have hc1 := bcellD hb1
          have d0 := (hc1 wo.heap.size 0 hwz).trans q0; have d1 := (hc1 wo.heap.size 1 hwz).trans q1; have d2 := (hc1 wo.heap.size 2 hwz).trans q2; have d3 := (hc1 wo.heap.size 3 hwz).trans q3
          clear hb1
          go_simp
          exact Det1_same
        simp only [Act.put, List.setIfInBounds_toArray, List.set_cons_zero, List.set_cons_succ]
        refine detL_val (by kernel_rfl) (yields_of rfl fun w1 hb1 => ?_) ?_
        · have hc1 := bcellD hb1
          clear hb1
          go_simp
          exact Det1_same
        simp only [Act.put, List.setIfInBounds_toArray, List.set_cons_zero, List.set_cons_succ]
        refine detL_val (by kernel_rfl) (yields_of rfl fun w1 hb1 => ?_) ?_
        · have hc1 := bcellD hb1
          clear hb1
          go_simp
          exact Det1_same
        simp only [Act.put, List.setIfInBounds_toArray, List.set_cons_zero, List.set_cons_succ]
        refine detL_val (by kernel_rfl) (yields_of rfl fun w1 hb1 => ?_) ?_
        · have hc1 := bcellD hb1
          clear hb1
          go_simp
          exact Det1_same
        simp only [Act.put, List.setIfInBounds_toArray, List.set_cons_zero, List.set_cons_succ]
        refine detL_val (by kernel_rfl) (yields_of rfl fun w1 hb1 => ?_) ?_
        · have hc1 := bcellD hb1
          clear hb1
          go_simp
          exact Det1_enter (HM1.out _)
        simp only [Act.put, List.setIfInBounds_toArray, List.set_cons_zero, List.set_cons_succ]
        refine detL_done (by kernel_rfl) fun w2 hw2 => ?_
        have HW2 := Lib.hid (HW1.out.later ((Below.refl _ _).drew.trans hw2.below))
        have p0 : w2.cell? ⟨wo.heap.size, 0, none⟩ = some (.int .i64 2) := (hw2.below.cell (p := ⟨wo.heap.size, 0, none⟩) hwz).trans q0
        clear hw2 q0 q1 q2 q3
        have r0 := HW2.out.r0
        have r1 := HW2.out.r1
        have rf := HW2.out.f
        have rl := HW2.out.lt
        go_wp2
        go_region
        all_goals
          go_wp2
          refine bodyPost_ret (v := .tuple #[.agg #[.int .i64 2, .string (s.extract 0 n1)], .int .i64 n1]) ?_ rfl ⟨rfl, ?_⟩
          · (simp [results, Tryz.results110, go_sem, *]; done)
          · have hb1 := HW2.out.below
            repeat (first | (with_reducible exact Below.refl _ _) | ((with_reducible refine cSet1 ?_ ?_ _ _); (· ((try simp) <;> omega))) | (with_reducible refine Below.drew ?_) | ((with_reducible refine cAlloc ?_ ?_ _); (· ((try simp) <;> omega))) | ((with_reducible refine cOn (by assumption) ?_ ?_); (· ((try simp) <;> omega))))
      · skip
        omega

set_option maxRecDepth 100000 in
set_option maxHeartbeats 3200000 in
theorem first_2 (s : ByteArray) (w : World) (hs : s.size ≤ 100000) (hl : 0 < s.size) (h39 : ¬ (s[0].toNat : Int) = 39) (n0 : Nat) (h0 : n0 ≤ s.size) (t0 : ∀ W, Calls Tryz.prog 145 #[.agg #[.int .i64 1, .int .i64 16, .func (.func 147) #[] #[], .func (.func 148) #[] #[]], .string s] W fun e w' => e = .returned (.int .i64 n0) ∧ Below W.heap.size W w') (m0 : ∀ W, Calls Tryz.prog 113 #[.agg #[.int .i64 1, .int .i64 16, .func (.func 147) #[] #[], .func (.func 148) #[] #[]], .string (s.extract 0 n0)] W fun e w' => e = .returned (.bool false) ∧ Below W.heap.size W w') (n1 : Nat) (h1 : n1 ≤ s.size) (t1 : ∀ W, Calls Tryz.prog 145 #[.agg #[.int .i64 2, .int .i64 19, .func (.func 171) #[] #[], .func (.func 171) #[] #[]], .string s] W fun e w' => e = .returned (.int .i64 n1) ∧ Below W.heap.size W w') (m1 : ∀ W, Calls Tryz.prog 113 #[.agg #[.int .i64 2, .int .i64 19, .func (.func 171) #[] #[], .func (.func 171) #[] #[]], .string (s.extract 0 n1)] W fun e w' => e = .returned (.bool false) ∧ Below W.heap.size W w') (n2 : Nat) (h2 : n2 ≤ s.size) (t2 : ∀ W, Calls Tryz.prog 145 #[.agg #[.int .i64 4, .int .i64 1, .func (.func 189) #[] #[], .func (.func 190) #[] #[]], .string s] W fun e w' => e = .returned (.int .i64 n2) ∧ Below W.heap.size W w') (m2 : ∀ W, Calls Tryz.prog 113 #[.agg #[.int .i64 4, .int .i64 1, .func (.func 189) #[] #[], .func (.func 190) #[] #[]], .string (s.extract 0 n2)] W fun e w' => e = .returned (.bool true) ∧ Below W.heap.size W w') :
    Calls Tryz.prog 110 #[.string s] w fun e w' => e = .returned (.tuple #[.agg #[.int .i64 4, .string (s.extract 0 n2)], .int .i64 n2]) ∧ Below w.heap.size w w' := by
  have HT0 := Lib.hid t0
  have HM0 := Lib.hid m0
  have b0 : 0 ≤ (n0 : Int) ∧ (n0 : Int) ≤ (s.size : Int) := by omega
  have HT1 := Lib.hid t1
  have HM1 := Lib.hid m1
  have b1 : 0 ≤ (n1 : Int) ∧ (n1 : Int) ≤ (s.size : Int) := by omega
  have HT2 := Lib.hid t2
  have HM2 := Lib.hid m2
  have b2 : 0 ≤ (n2 : Int) ∧ (n2 : Int) ≤ (s.size : Int) := by omega
  clear t0 m0 t1 m1 t2 m2
  go_enter Tryz.func110, Tryz.ntmps110
  go_wp2_with (go_at_call 144; refine (kinds_any _).mono ?_; rintro e w1 ⟨rfl, hb1⟩; have HW0 := Lib.hid ((W2.start w _).later hb1); clear hb1)
  go_loopw [15] (fun i wr => ∃ k : Nat, k ≤ 2 ∧ i = .int .i64 k ∧ W2 w wr) (fun i _ => 3 - (intOf i).toNat)
  case atStart => exact ⟨0, by omega, rfl, HW0.out⟩
  case round =>
    obtain ⟨k, hk, rfl, hW⟩ := hrel
    have HW := Lib.hid hW
    clear hW HW0
    obtain ⟨wo, hwo⟩ : ∃ wo : World, wo = wr := ⟨_, rfl⟩
    rw [← hwo] at HW ⊢
    clear hwo
    by_cases hk0 : k = 0
    · subst hk0
      have r0 := HW.out.r0
      have r1 := HW.out.r1
      have rf := HW.out.f
      have rl := HW.out.lt
      have ix := kix0
      go_wp2_with (go_at_call 145; refine (HT0.out _).mono ?_; rintro e w1 ⟨rfl, hb1⟩; have HW1 := Lib.hid (HW.out.later' rfl hb1); have q0 : w1.cell? ⟨wo.heap.size, 0, none⟩ = some (.int .i64 1) := (hb1.cell (p := ⟨wo.heap.size, 0, none⟩) (by simp)).trans (by simp [go_sem]); have q1 : w1.cell? ⟨wo.heap.size, 1, none⟩ = some (.int .i64 16) := (hb1.cell (p := ⟨wo.heap.size, 1, none⟩) (by simp)).trans (by simp [go_sem]); have q2 : w1.cell? ⟨wo.heap.size, 2, none⟩ = some (.func (.func 147) #[] #[]) := (hb1.cell (p := ⟨wo.heap.size, 2, none⟩) (by simp)).trans (by simp [go_sem]); have q3 : w1.cell? ⟨wo.heap.size, 3, none⟩ = some (.func (.func 148) #[] #[]) := (hb1.cell (p := ⟨wo.heap.size, 3, none⟩) (by simp)).trans (by simp [go_sem]); have hwz : wo.heap.size < w1.heap.size := (by have := hb1.size; simp at this; omega); clear hb1 r0 r1 rf rl)
      refine detL_begin [.val (.agg #[.int .i64 1, .int .i64 16, .func (.func 147) #[] #[], .func (.func 148) #[] #[]]), .val (.string s), .val (.int .i64 n0), .val (.string (s.extract 0 n0)), .val (.bool false)] 5 (by kernel_rfl) ?_
      refine detL_val (by kernel_rfl) (yields_of rfl fun w1 hb1 => ?_) ?_
      · have hc1 := bcellD hb1
        have d0 := (hc1 wo.heap.size 0 hwz).trans q0; have d1 := (hc1 wo.heap.size 1 hwz).trans q1; have d2 := (hc1 wo.heap.size 2 hwz).trans q2; have d3 := (hc1 wo.heap.size 3 hwz).trans q3
        clear hb1
        go_simp
        exact Det1_same
      simp only [Act.put, List.setIfInBounds_toArray, List.set_cons_zero, List.set_cons_succ]
      refine detL_val (by kernel_rfl) (yields_of rfl fun w1 hb1 => ?_) ?_
      · have hc1 := bcellD hb1
        clear hb1
        go_simp
        exact Det1_same
      simp only [Act.put, List.setIfInBounds_toArray, List.set_cons_zero, List.set_cons_succ]
      refine detL_val (by kernel_rfl) (yields_of rfl fun w1 hb1 => ?_) ?_
      · have hc1 := bcellD hb1
        clear hb1
        go_simp
        exact Det1_same
      simp only [Act.put, List.setIfInBounds_toArray, List.set_cons_zero, List.set_cons_succ]
      refine detL_val (by kernel_rfl) (yields_of rfl fun w1 hb1 => ?_) ?_
      · have hc1 := bcellD hb1
        clear hb1
        go_simp
        exact Det1_same
      simp only [Act.put, List.setIfInBounds_toArray, List.set_cons_zero, List.set_cons_succ]
      refine detL_val (by kernel_rfl) (yields_of rfl fun w1 hb1 => ?_) ?_
      · have hc1 := bcellD hb1
        clear hb1
        go_simp
        exact Det1_enter (HM0.out _)
      simp only [Act.put, List.setIfInBounds_toArray, List.set_cons_zero, List.set_cons_succ]
      refine detL_done (by kernel_rfl) fun w2 hw2 => ?_
      have HW2 := Lib.hid (HW1.out.later ((Below.refl _ _).drew.trans hw2.below))
      clear hw2 q0 q1 q2 q3
      go_wp2
      go_roundw
      case rel => exact ⟨0 + 1, by omega, by go_num, HW2.out⟩
      case measure => simp [intOf]; try omega
    · skip
      by_cases hk1 : k = 1
      · subst hk1
        have r0 := HW.out.r0
        have r1 := HW.out.r1
        have rf := HW.out.f
        have rl := HW.out.lt
        have ix := kix1
        go_wp2_with (go_at_call 145; refine (HT1.out _).mono ?_; rintro e w1 ⟨rfl, hb1⟩; have HW1 := Lib.hid (HW.out.later' rfl hb1); have q0 : w1.cell? ⟨wo.heap.size, 0, none⟩ = some (.int .i64 2) := (hb1.cell (p := ⟨wo.heap.size, 0, none⟩) (by simp)).trans (by simp [go_sem]); have q1 : w1.cell? ⟨wo.heap.size, 1, none⟩ = some (.int .i64 19) := (hb1.cell (p := ⟨wo.heap.size, 1, none⟩) (by simp)).trans (by simp [go_sem]); have q2 : w1.cell? ⟨wo.heap.size, 2, none⟩ = some (.func (.func 171) #[] #[]) := (hb1.cell (p := ⟨wo.heap.size, 2, none⟩) (by simp)).trans (by simp [go_sem]); have q3 : w1.cell? ⟨wo.heap.size, 3, none⟩ = some (.func (.func 171) #[] #[]) := (hb1.cell (p := ⟨wo.heap.size, 3, none⟩) (by simp)).trans (by simp [go_sem]); have hwz : wo.heap.size < w1.heap.size := (by have := hb1.size; simp at this; omega); clear hb1 r0 r1 rf rl)
        refine detL_begin [.val (.agg #[.int .i64 2, .int .i64 19, .func (.func 171) #[] #[], .func (.func 171) #[] #[]]), .val (.string s), .val (.int .i64 n1), .val (.string (s.extract 0 n1)), .val (.bool false)] 5 (by kernel_rfl) ?_
        refine detL_val (by kernel_rfl) (yields_of rfl fun w1 hb1 => ?_) ?_
        · have hc1 := bcellD hb1
          have d0 := (hc1 wo.heap.size 0 hwz).trans q0; have d1 := (hc1 wo.heap.size 1 hwz).trans q1; have d2 := (hc1 wo.heap.size 2 hwz).trans q2; have d3 := (hc1 wo.heap.size 3 hwz).trans q3
          clear hb1
          go_simp
          exact Det1_same
        simp only [Act.put, List.setIfInBounds_toArray, List.set_cons_zero, List.set_cons_succ]
        refine detL_val (by kernel_rfl) (yields_of rfl fun w1 hb1 => ?_) ?_
        · have hc1 := bcellD hb1
          clear hb1
          go_simp
          exact Det1_same
        simp only [Act.put, List.setIfInBounds_toArray, List.set_cons_zero, List.set_cons_succ]
        refine detL_val (by kernel_rfl) (yields_of rfl fun w1 hb1 => ?_) ?_
        · have hc1 := bcellD hb1
          clear hb1
          go_simp
          exact Det1_same
        simp only [Act.put, List.setIfInBounds_toArray, List.set_cons_zero, List.set_cons_succ]
        refine detL_val (by kernel_rfl) (yields_of rfl fun w1 hb1 => ?_) ?_
        · have hc1 := bcellD hb1
          clear hb1
          go_simp
          exact Det1_same
        simp only [Act.put, List.setIfInBounds_toArray, List.set_cons_zero, List.set_cons_succ]
        refine detL_val (by kernel_rfl) (yields_of rfl fun w1 hb1 => ?_) ?_
        · have hc1 := bcellD hb1
          clear hb1
          go_simp
          exact Det1_enter (HM1.out _)
        simp only [Act.put, List.setIfInBounds_toArray, List.set_cons_zero, List.set_cons_succ]
        refine detL_done (by kernel_rfl) fun w2 hw2 => ?_
        have HW2 := Lib.hid (HW1.out.later ((Below.refl _ _).drew.trans hw2.below))
        clear hw2 q0 q1 q2 q3
        go_wp2
        go_roundw
        case rel => exact ⟨1 + 1, by omega, by go_num, HW2.out⟩
        case measure => simp [intOf]; try omega
      · skip
        by_cases hk2 : k = 2
        · subst hk2
          have r0 := HW.out.r0
          have r1 := HW.out.r1
          have rf := HW.out.f
          have rl := HW.out.lt
          have ix := kix2
          go_wp2_with (go_at_call 145; refine (HT2.out _).mono ?_; rintro e w1 ⟨rfl, hb1⟩; have HW1 := Lib.hid (HW.out.later' rfl hb1); have q0 : w1.cell? ⟨wo.heap.size, 0, none⟩ = some (.int .i64 4) := (hb1.cell (p := ⟨wo.heap.size, 0, none⟩) (by simp)).trans (by simp [go_sem]); have q1 : w1.cell? ⟨wo.heap.size, 1, none⟩ = some (.int .i64 1) := (hb1.cell (p := ⟨wo.heap.size, 1, none⟩) (by simp)).trans (by simp [go_sem]); have q2 : w1.cell? ⟨wo.heap.size, 2, none⟩ = some (.func (.func 189) #[] #[]) := (hb1.cell (p := ⟨wo.heap.size, 2, none⟩) (by simp)).trans (by simp [go_sem]); have q3 : w1.cell? ⟨wo.heap.size, 3, none⟩ = some (.func (.func 190) #[] #[]) := (hb1.cell (p := ⟨wo.heap.size, 3, none⟩) (by simp)).trans (by simp [go_sem]); have hwz : wo.heap.size < w1.heap.size := (by have := hb1.size; simp at this; omega); clear hb1 r0 r1 rf rl)
          refine detL_begin [.val (.agg #[.int .i64 4, .int .i64 1, .func (.func 189) #[] #[], .func (.func 190) #[] #[]]), .val (.string s), .val (.int .i64 n2), .val (.string (s.extract 0 n2)), .val (.bool true)] 5 (by kernel_rfl) ?_
          refine detL_val (by kernel_rfl) (yields_of rfl fun w1 hb1 => ?_) ?_
          · have hc1 := bcellD hb1
            have d0 := (hc1 wo.heap.size 0 hwz).trans q0; have d1 := (hc1 wo.heap.size 1 hwz).trans q1; have d2 := (hc1 wo.heap.size 2 hwz).trans q2; have d3 := (hc1 wo.heap.size 3 hwz).trans q3
            clear hb1
            go_simp
            exact Det1_same
          simp only [Act.put, List.setIfInBounds_toArray, List.set_cons_zero, List.set_cons_succ]
          refine detL_val (by kernel_rfl) (yields_of rfl fun w1 hb1 => ?_) ?_
          · have hc1 := bcellD hb1
            clear hb1
            go_simp
            exact Det1_same
          simp only [Act.put, List.setIfInBounds_toArray, List.set_cons_zero, List.set_cons_succ]
          refine detL_val (by kernel_rfl) (yields_of rfl fun w1 hb1 => ?_) ?_
          · have hc1 := bcellD hb1
            clear hb1
            go_simp
            exact Det1_same
          simp only [Act.put, List.setIfInBounds_toArray, List.set_cons_zero, List.set_cons_succ]
          refine detL_val (by kernel_rfl) (yields_of rfl fun w1 hb1 => ?_) ?_
          · have hc1 := bcellD hb1
            clear hb1
            go_simp
            exact Det1_same
          simp only [Act.put, List.setIfInBounds_toArray, List.set_cons_zero, List.set_cons_succ]
          refine detL_val (by kernel_rfl) (yields_of rfl fun w1 hb1 => ?_) ?_
          · have hc1 := bcellD hb1
            clear hb1
            go_simp
            exact Det1_enter (HM2.out _)
          simp only [Act.put, List.setIfInBounds_toArray, List.set_cons_zero, List.set_cons_succ]
          refine detL_done (by kernel_rfl) fun w2 hw2 => ?_
          have HW2 := Lib.hid (HW1.out.later ((Below.refl _ _).drew.trans hw2.below))
          have p0 : w2.cell? ⟨wo.heap.size, 0, none⟩ = some (.int .i64 4) := (hw2.below.cell (p := ⟨wo.heap.size, 0, none⟩) hwz).trans q0
          clear hw2 q0 q1 q2 q3
          have r0 := HW2.out.r0
          have r1 := HW2.out.r1
          have rf := HW2.out.f
          have rl := HW2.out.lt
          go_wp2
          go_region
          all_goals
            go_wp2
            refine bodyPost_ret (v := .tuple #[.agg #[.int .i64 4, .string (s.extract 0 n2)], .int .i64 n2]) ?_ rfl ⟨rfl, ?_⟩
            · (simp [results, Tryz.results110, go_sem, *]; done)
            · have hb1 := HW2.out.below
              repeat (first | (with_reducible exact Below.refl _ _) | ((with_reducible refine cSet1 ?_ ?_ _ _); (· ((try simp) <;> omega))) | (with_reducible refine Below.drew ?_) | ((with_reducible refine cAlloc ?_ ?_ _); (· ((try simp) <;> omega))) | ((with_reducible refine cOn (by assumption) ?_ ?_); (· ((try simp) <;> omega))))
        · skip
          omega

set_option maxRecDepth 100000 in
set_option maxHeartbeats 3200000 in
theorem first_3 (s : ByteArray) (w : World) (hs : s.size ≤ 100000) (hl : 0 < s.size) (h39 : ¬ (s[0].toNat : Int) = 39) (n0 : Nat) (h0 : n0 ≤ s.size) (t0 : ∀ W, Calls Tryz.prog 145 #[.agg #[.int .i64 1, .int .i64 16, .func (.func 147) #[] #[], .func (.func 148) #[] #[]], .string s] W fun e w' => e = .returned (.int .i64 n0) ∧ Below W.heap.size W w') (m0 : ∀ W, Calls Tryz.prog 113 #[.agg #[.int .i64 1, .int .i64 16, .func (.func 147) #[] #[], .func (.func 148) #[] #[]], .string (s.extract 0 n0)] W fun e w' => e = .returned (.bool false) ∧ Below W.heap.size W w') (n1 : Nat) (h1 : n1 ≤ s.size) (t1 : ∀ W, Calls Tryz.prog 145 #[.agg #[.int .i64 2, .int .i64 19, .func (.func 171) #[] #[], .func (.func 171) #[] #[]], .string s] W fun e w' => e = .returned (.int .i64 n1) ∧ Below W.heap.size W w') (m1 : ∀ W, Calls Tryz.prog 113 #[.agg #[.int .i64 2, .int .i64 19, .func (.func 171) #[] #[], .func (.func 171) #[] #[]], .string (s.extract 0 n1)] W fun e w' => e = .returned (.bool false) ∧ Below W.heap.size W w') (n2 : Nat) (h2 : n2 ≤ s.size) (t2 : ∀ W, Calls Tryz.prog 145 #[.agg #[.int .i64 4, .int .i64 1, .func (.func 189) #[] #[], .func (.func 190) #[] #[]], .string s] W fun e w' => e = .returned (.int .i64 n2) ∧ Below W.heap.size W w') (m2 : ∀ W, Calls Tryz.prog 113 #[.agg #[.int .i64 4, .int .i64 1, .func (.func 189) #[] #[], .func (.func 190) #[] #[]], .string (s.extract 0 n2)] W fun e w' => e = .returned (.bool false) ∧ Below W.heap.size W w') :
    Calls Tryz.prog 110 #[.string s] w fun e w' => e = .returned (.tuple #[.agg #[.int .i64 0, .string ⟨#[]⟩], .int .i64 0]) ∧ Below w.heap.size w w' := by
  have HT0 := Lib.hid t0
  have HM0 := Lib.hid m0
  have b0 : 0 ≤ (n0 : Int) ∧ (n0 : Int) ≤ (s.size : Int) := by omega
  have HT1 := Lib.hid t1
  have HM1 := Lib.hid m1
  have b1 : 0 ≤ (n1 : Int) ∧ (n1 : Int) ≤ (s.size : Int) := by omega
  have HT2 := Lib.hid t2
  have HM2 := Lib.hid m2
  have b2 : 0 ≤ (n2 : Int) ∧ (n2 : Int) ≤ (s.size : Int) := by omega
  clear t0 m0 t1 m1 t2 m2
  go_enter Tryz.func110, Tryz.ntmps110
  go_wp2_with (go_at_call 144; refine (kinds_any _).mono ?_; rintro e w1 ⟨rfl, hb1⟩; have HW0 := Lib.hid ((W2.start w _).later hb1); clear hb1)
  go_loopw [15] (fun i wr => ∃ k : Nat, k ≤ 3 ∧ i = .int .i64 k ∧ W2 w wr) (fun i _ => 3 - (intOf i).toNat)
  case atStart => exact ⟨0, by omega, rfl, HW0.out⟩
  case round =>
    obtain ⟨k, hk, rfl, hW⟩ := hrel
    have HW := Lib.hid hW
    clear hW HW0
    obtain ⟨wo, hwo⟩ : ∃ wo : World, wo = wr := ⟨_, rfl⟩
    rw [← hwo] at HW ⊢
    clear hwo
    by_cases hk0 : k = 0
    · subst hk0
      have r0 := HW.out.r0
      have r1 := HW.out.r1
      have rf := HW.out.f
      have rl := HW.out.lt
      have ix := kix0
      go_wp2_with (go_at_call 145; refine (HT0.out _).mono ?_; rintro e w1 ⟨rfl, hb1⟩; have HW1 := Lib.hid (HW.out.later' rfl hb1); have q0 : w1.cell? ⟨wo.heap.size, 0, none⟩ = some (.int .i64 1) := (hb1.cell (p := ⟨wo.heap.size, 0, none⟩) (by simp)).trans (by simp [go_sem]); have q1 : w1.cell? ⟨wo.heap.size, 1, none⟩ = some (.int .i64 16) := (hb1.cell (p := ⟨wo.heap.size, 1, none⟩) (by simp)).trans (by simp [go_sem]); have q2 : w1.cell? ⟨wo.heap.size, 2, none⟩ = some (.func (.func 147) #[] #[]) := (hb1.cell (p := ⟨wo.heap.size, 2, none⟩) (by simp)).trans (by simp [go_sem]); have q3 : w1.cell? ⟨wo.heap.size, 3, none⟩ = some (.func (.func 148) #[] #[]) := (hb1.cell (p := ⟨wo.heap.size, 3, none⟩) (by simp)).trans (by simp [go_sem]); have hwz : wo.heap.size < w1.heap.size := (by have := hb1.size; simp at this; omega); clear hb1 r0 r1 rf rl)
      refine detL_begin [.val (.agg #[.int .i64 1, .int .i64 16, .func (.func 147) #[] #[], .func (.func 148) #[] #[]]), .val (.string s), .val (.int .i64 n0), .val (.string (s.extract 0 n0)), .val (.bool false)] 5 (by kernel_rfl) ?_
      refine detL_val (by kernel_rfl) (yields_of rfl fun w1 hb1 => ?_) ?_
      · have hc1 := bcellD hb1
        have d0 := (hc1 wo.heap.size 0 hwz).trans q0; have d1 := (hc1 wo.heap.size 1 hwz).trans q1; have d2 := (hc1 wo.heap.size 2 hwz).trans q2; have d3 := (hc1 wo.heap.size 3 hwz).trans q3
        clear hb1
        go_simp
        exact Det1_same
      simp only [Act.put, List.setIfInBounds_toArray, List.set_cons_zero, List.set_cons_succ]
      refine detL_val (by kernel_rfl) (yields_of rfl fun w1 hb1 => ?_) ?_
      · have hc1 := bcellD hb1
        clear hb1
        go_simp
        exact Det1_same
      simp only [Act.put, List.setIfInBounds_toArray, List.set_cons_zero, List.set_cons_succ]
      refine detL_val (by kernel_rfl) (yields_of rfl fun w1 hb1 => ?_) ?_
      · have hc1 := bcellD hb1
        clear hb1
        go_simp
        exact Det1_same
      simp only [Act.put, List.setIfInBounds_toArray, List.set_cons_zero, List.set_cons_succ]
      refine detL_val (by kernel_rfl) (yields_of rfl fun w1 hb1 => ?_) ?_
      · have hc1 := bcellD hb1
        clear hb1
        go_simp
        exact Det1_same
      simp only [Act.put, List.setIfInBounds_toArray, List.set_cons_zero, List.set_cons_succ]
      refine detL_val (by kernel_rfl) (yields_of rfl fun w1 hb1 => ?_) ?_
      · have hc1 := bcellD hb1
        clear hb1
        go_simp
        exact Det1_enter (HM0.out _)
      simp only [Act.put, List.setIfInBounds_toArray, List.set_cons_zero, List.set_cons_succ]
      refine detL_done (by kernel_rfl) fun w2 hw2 => ?_
      have HW2 := Lib.hid (HW1.out.later ((Below.refl _ _).drew.trans hw2.below))
      clear hw2 q0 q1 q2 q3
      go_wp2
      go_roundw
      case rel => exact ⟨0 + 1, by omega, by go_num, HW2.out⟩
      case measure => simp [intOf]; try omega
    · skip
      by_cases hk1 : k = 1
      · subst hk1
        have r0 := HW.out.r0
        have r1 := HW.out.r1
        have rf := HW.out.f
        have rl := HW.out.lt
        have ix := kix1
        go_wp2_with (go_at_call 145; refine (HT1.out _).mono ?_; rintro e w1 ⟨rfl, hb1⟩; have HW1 := Lib.hid (HW.out.later' rfl hb1); have q0 : w1.cell? ⟨wo.heap.size, 0, none⟩ = some (.int .i64 2) := (hb1.cell (p := ⟨wo.heap.size, 0, none⟩) (by simp)).trans (by simp [go_sem]); have q1 : w1.cell? ⟨wo.heap.size, 1, none⟩ = some (.int .i64 19) := (hb1.cell (p := ⟨wo.heap.size, 1, none⟩) (by simp)).trans (by simp [go_sem]); have q2 : w1.cell? ⟨wo.heap.size, 2, none⟩ = some (.func (.func 171) #[] #[]) := (hb1.cell (p := ⟨wo.heap.size, 2, none⟩) (by simp)).trans (by simp [go_sem]); have q3 : w1.cell? ⟨wo.heap.size, 3, none⟩ = some (.func (.func 171) #[] #[]) := (hb1.cell (p := ⟨wo.heap.size, 3, none⟩) (by simp)).trans (by simp [go_sem]); have hwz : wo.heap.size < w1.heap.size := (by have := hb1.size; simp at this; omega); clear hb1 r0 r1 rf rl)
        refine detL_begin [.val (.agg #[.int .i64 2, .int .i64 19, .func (.func 171) #[] #[], .func (.func 171) #[] #[]]), .val (.string s), .val (.int .i64 n1), .val (.string (s.extract 0 n1)), .val (.bool false)] 5 (by kernel_rfl) ?_
        refine detL_val (by kernel_rfl) (yields_of rfl fun w1 hb1 => ?_) ?_
        · have hc1 := bcellD hb1
          have d0 := (hc1 wo.heap.size 0 hwz).trans q0; have d1 := (hc1 wo.heap.size 1 hwz).trans q1; have d2 := (hc1 wo.heap.size 2 hwz).trans q2; have d3 := (hc1 wo.heap.size 3 hwz).trans q3
          clear hb1
          go_simp
          exact Det1_same
        simp only [Act.put, List.setIfInBounds_toArray, List.set_cons_zero, List.set_cons_succ]
        refine detL_val (by kernel_rfl) (yields_of rfl fun w1 hb1 => ?_) ?_
        · have hc1 := bcellD hb1
          clear hb1
          go_simp
          exact Det1_same
        simp only [Act.put, List.setIfInBounds_toArray, List.set_cons_zero, List.set_cons_succ]
        refine detL_val (by kernel_rfl) (yields_of rfl fun w1 hb1 => ?_) ?_
        · have hc1 := bcellD hb1
          clear hb1
          go_simp
          exact Det1_same
        simp only [Act.put, List.setIfInBounds_toArray, List.set_cons_zero, List.set_cons_succ]
        refine detL_val (by kernel_rfl) (yields_of rfl fun w1 hb1 => ?_) ?_
        · have hc1 := bcellD hb1
          clear hb1
          go_simp
          exact Det1_same
        simp only [Act.put, List.setIfInBounds_toArray, List.set_cons_zero, List.set_cons_succ]
        refine detL_val (by kernel_rfl) (yields_of rfl fun w1 hb1 => ?_) ?_
        · have hc1 := bcellD hb1
          clear hb1
          go_simp
          exact Det1_enter (HM1.out _)
        simp only [Act.put, List.setIfInBounds_toArray, List.set_cons_zero, List.set_cons_succ]
        refine detL_done (by kernel_rfl) fun w2 hw2 => ?_
        have HW2 := Lib.hid (HW1.out.later ((Below.refl _ _).drew.trans hw2.below))
        clear hw2 q0 q1 q2 q3
        go_wp2
        go_roundw
        case rel => exact ⟨1 + 1, by omega, by go_num, HW2.out⟩
        case measure => simp [intOf]; try omega
      · skip
        by_cases hk2 : k = 2
        · subst hk2
          have r0 := HW.out.r0
          have r1 := HW.out.r1
          have rf := HW.out.f
          have rl := HW.out.lt
          have ix := kix2
          go_wp2_with (go_at_call 145; refine (HT2.out _).mono ?_; rintro e w1 ⟨rfl, hb1⟩; have HW1 := Lib.hid (HW.out.later' rfl hb1); have q0 : w1.cell? ⟨wo.heap.size, 0, none⟩ = some (.int .i64 4) := (hb1.cell (p := ⟨wo.heap.size, 0, none⟩) (by simp)).trans (by simp [go_sem]); have q1 : w1.cell? ⟨wo.heap.size, 1, none⟩ = some (.int .i64 1) := (hb1.cell (p := ⟨wo.heap.size, 1, none⟩) (by simp)).trans (by simp [go_sem]); have q2 : w1.cell? ⟨wo.heap.size, 2, none⟩ = some (.func (.func 189) #[] #[]) := (hb1.cell (p := ⟨wo.heap.size, 2, none⟩) (by simp)).trans (by simp [go_sem]); have q3 : w1.cell? ⟨wo.heap.size, 3, none⟩ = some (.func (.func 190) #[] #[]) := (hb1.cell (p := ⟨wo.heap.size, 3, none⟩) (by simp)).trans (by simp [go_sem]); have hwz : wo.heap.size < w1.heap.size := (by have := hb1.size; simp at this; omega); clear hb1 r0 r1 rf rl)
          refine detL_begin [.val (.agg #[.int .i64 4, .int .i64 1, .func (.func 189) #[] #[], .func (.func 190) #[] #[]]), .val (.string s), .val (.int .i64 n2), .val (.string (s.extract 0 n2)), .val (.bool false)] 5 (by kernel_rfl) ?_
          refine detL_val (by kernel_rfl) (yields_of rfl fun w1 hb1 => ?_) ?_
          · have hc1 := bcellD hb1
            have d0 := (hc1 wo.heap.size 0 hwz).trans q0; have d1 := (hc1 wo.heap.size 1 hwz).trans q1; have d2 := (hc1 wo.heap.size 2 hwz).trans q2; have d3 := (hc1 wo.heap.size 3 hwz).trans q3
            clear hb1
            go_simp
            exact Det1_same
          simp only [Act.put, List.setIfInBounds_toArray, List.set_cons_zero, List.set_cons_succ]
          refine detL_val (by kernel_rfl) (yields_of rfl fun w1 hb1 => ?_) ?_
          · have hc1 := bcellD hb1
            clear hb1
            go_simp
            exact Det1_same
          simp only [Act.put, List.setIfInBounds_toArray, List.set_cons_zero, List.set_cons_succ]
          refine detL_val (by kernel_rfl) (yields_of rfl fun w1 hb1 => ?_) ?_
          · have hc1 := bcellD hb1
            clear hb1
            go_simp
            exact Det1_same
          simp only [Act.put, List.setIfInBounds_toArray, List.set_cons_zero, List.set_cons_succ]
          refine detL_val (by kernel_rfl) (yields_of rfl fun w1 hb1 => ?_) ?_
          · have hc1 := bcellD hb1
            clear hb1
            go_simp
            exact Det1_same
          simp only [Act.put, List.setIfInBounds_toArray, List.set_cons_zero, List.set_cons_succ]
          refine detL_val (by kernel_rfl) (yields_of rfl fun w1 hb1 => ?_) ?_
          · have hc1 := bcellD hb1
            clear hb1
            go_simp
            exact Det1_enter (HM2.out _)
          simp only [Act.put, List.setIfInBounds_toArray, List.set_cons_zero, List.set_cons_succ]
          refine detL_done (by kernel_rfl) fun w2 hw2 => ?_
          have HW2 := Lib.hid (HW1.out.later ((Below.refl _ _).drew.trans hw2.below))
          clear hw2 q0 q1 q2 q3
          go_wp2
          go_roundw
          case rel => exact ⟨2 + 1, by omega, by go_num, HW2.out⟩
          case measure => simp [intOf]; try omega
        · skip
          obtain rfl : k = 3 := by omega
          have r0 := HW.out.r0
          have r1 := HW.out.r1
          have rf := HW.out.f
          have rl := HW.out.lt
          go_wp2
          refine bodyPost_ret (v := .tuple #[.agg #[.int .i64 0, .string ⟨#[]⟩], .int .i64 0]) ?_ rfl ⟨rfl, ?_⟩
          · (simp [results, Tryz.results110, go_sem, *]; done)
          · have hb1 := HW.out.below
            repeat (first | (with_reducible exact Below.refl _ _) | ((with_reducible refine cSet1 ?_ ?_ _ _); (· ((try simp) <;> omega))) | (with_reducible refine Below.drew ?_) | ((with_reducible refine cAlloc ?_ ?_ _); (· ((try simp) <;> omega))) | ((with_reducible refine cOn (by assumption) ?_ ?_); (· ((try simp) <;> omega))))

theorem tw_tw (q : UInt8 → Bool) : ∀ r : List UInt8, (r.takeWhile q).takeWhile q = r.takeWhile q
  | [] => rfl
  | c :: r => by
    by_cases h : q c = true
    · rw [List.takeWhile_cons, if_pos h, List.takeWhile_cons, if_pos h, tw_tw q r]
    · rw [List.takeWhile_cons, if_neg h]; rfl
theorem tog_take {p q : UInt8 → Bool} {l : List UInt8} (h : 1 ≤ tog p q l) : tog p q (l.take (tog p q l)) = tog p q l ∧ tog p q l ≤ l.length := by
  cases l with
  | nil => simp [tog] at h
  | cons c r =>
    by_cases hp : p c
    · have e : tog p q (c :: r) = (r.takeWhile q).length + 1 := by rw [tog, if_pos hp]; omega
      have hl := (List.takeWhile_sublist q (l := r)).length_le
      rw [e, List.take_succ_cons, tog, if_pos hp]
      have e2 : r.take (r.takeWhile q).length = r.takeWhile q := by
        conv => lhs; arg 2; rw [← List.takeWhile_append_dropWhile (p := q) (l := r)]
        rw [List.take_append_of_le_length (Nat.le_refl _), List.take_of_length_le (Nat.le_refl _)]
      have e3 : (r.takeWhile q).takeWhile q = r.takeWhile q := tw_tw q r
      rw [e2, e3]
      simp
      omega
    · rw [tog, if_neg hp] at h
      omega
theorem tog_le (p q : UInt8 → Bool) (l : List UInt8) : tog p q l ≤ l.length := by
  by_cases h : 1 ≤ tog p q l
  · exact (tog_take h).2
  · omega
theorem kmay_take (p q : UInt8 → Bool) (most : Nat) (l : List UInt8) : kmay p q most (l.take (tog p q l)) = (decide (1 ≤ tog p q l) && decide (tog p q l ≤ most)) := by
  by_cases h : 1 ≤ tog p q l
  · obtain ⟨h1, h2⟩ := tog_take h
    have hl : (l.take (tog p q l)).length = tog p q l := by rw [List.length_take]; omega
    have he : (l.take (tog p q l)).isEmpty = false := by
      cases hx : l.take (tog p q l) with
      | nil => rw [hx] at hl; simp at hl; omega
      | cons _ _ => rfl
    unfold kmay
    rw [he, hl, h1, decide_eq_true h]
    simp
  · have h0 : tog p q l = 0 := by omega
    rw [h0]
    simp [kmay]
theorem sig_not {c : UInt8} (h : sigB c = true) : letB c = false ∧ digB c = false := by
  have h := List.contains_iff_mem.1 h
  simp only [sigL, List.mem_cons, List.mem_nil_iff, or_false] at h
  rcases h with rfl | rfl | rfl | rfl | rfl | rfl | rfl | rfl <;> decide
theorem let_not {c : UInt8} (h : letB c = true) : digB c = false := by
  unfold letB at h
  unfold digB
  simp at h
  simp
  omega
theorem tog_zero {p q : UInt8 → Bool} {c : UInt8} {r : List UInt8} (h : p c = false) : tog p q (c :: r) = 0 := by rw [tog, h]; rfl
theorem tog_on {p q : UInt8 → Bool} {c : UInt8} {r : List UInt8} (h : p c = true) : tog p q (c :: r) = 1 + (r.takeWhile q).length := by rw [tog, h]; rfl
theorem none_none (r : List UInt8) : r.takeWhile nonB = [] := by cases r <;> simp [nonB]
theorem bs_take (s : ByteArray) (n : Nat) : s.extract 0 n = ⟨(s.data.toList.take n).toArray⟩ := bs_eq (take_list s n)
set_option maxRecDepth 100000 in
theorem first_any (s : ByteArray) (w : World) (h1 : 1 ≤ s.size) (hs : s.size ≤ 100000) (hl : LibE w) :
    Calls Tryz.prog 110 #[.string s] w fun e w' => e = .returned (tkV (fst s.data.toList)) ∧ Below w.heap.size w w' := by
  by_cases h0 : s[0] = 39
  · cases hf : fst s.data.toList with
    | none =>
      have := first_quote s w h1 hs h0 hl 0 ⟨#[]⟩ 0 (by rw [hf]; rfl)
      rwa [hf] at this
    | some y =>
      obtain ⟨t, n⟩ := y
      have := first_quote s w h1 hs h0 hl t.k ⟨t.s.toArray⟩ n (by rw [hf]; rfl)
      rwa [hf] at this
  · have h39 : ¬ (s[0].toNat : Int) = 39 := fun h => h0 (UInt8.toNat_inj.1 (by show s[0].toNat = 39; omega))
    obtain ⟨r, e0, _⟩ := list_head h1
    have T0 := fun (W : World) => tog_any 1 16 _ _ letB parB cls_letter cls_inWord s W hs
    have T1 := fun (W : World) => tog_any 2 19 _ _ digB digB cls_digit cls_digit s W hs
    have T2 := fun (W : World) => tog_any 4 1 _ _ sigB nonB cls_isSign cls_none s W hs
    have L0 : tog letB parB s.data.toList ≤ s.size := by rw [Lib.size_eq]; exact tog_le _ _ _
    have L1 : tog digB digB s.data.toList ≤ s.size := by rw [Lib.size_eq]; exact tog_le _ _ _
    have L2 : tog sigB nonB s.data.toList ≤ s.size := by rw [Lib.size_eq]; exact tog_le _ _ _
    have M0 := fun (b : Bool) (h : (decide (1 ≤ tog letB parB s.data.toList) && decide (tog letB parB s.data.toList ≤ 16)) = b) (W : World) => (show Calls Tryz.prog 113 #[.agg #[.int .i64 1, .int .i64 16, .func (.func 147) #[] #[], .func (.func 148) #[] #[]], .string (s.extract 0 (tog letB parB s.data.toList))] W fun e w' => e = .returned (.bool b) ∧ Below W.heap.size W w' from by
      have := kmay_any 1 16 _ _ letB parB cls_letter cls_inWord (s.extract 0 (tog letB parB s.data.toList)) W (by rw [ByteArray.size_extract]; omega) (by omega)
      rwa [take_list, kmay_take, h] at this)
    have M1 := fun (b : Bool) (h : (decide (1 ≤ tog digB digB s.data.toList) && decide (tog digB digB s.data.toList ≤ 19)) = b) (W : World) => (show Calls Tryz.prog 113 #[.agg #[.int .i64 2, .int .i64 19, .func (.func 171) #[] #[], .func (.func 171) #[] #[]], .string (s.extract 0 (tog digB digB s.data.toList))] W fun e w' => e = .returned (.bool b) ∧ Below W.heap.size W w' from by
      have := kmay_any 2 19 _ _ digB digB cls_digit cls_digit (s.extract 0 (tog digB digB s.data.toList)) W (by rw [ByteArray.size_extract]; omega) (by omega)
      rwa [take_list, kmay_take, h] at this)
    have M2 := fun (b : Bool) (h : (decide (1 ≤ tog sigB nonB s.data.toList) && decide (tog sigB nonB s.data.toList ≤ 1)) = b) (W : World) => (show Calls Tryz.prog 113 #[.agg #[.int .i64 4, .int .i64 1, .func (.func 189) #[] #[], .func (.func 190) #[] #[]], .string (s.extract 0 (tog sigB nonB s.data.toList))] W fun e w' => e = .returned (.bool b) ∧ Below W.heap.size W w' from by
      have := kmay_any 4 1 _ _ sigB nonB cls_isSign cls_none (s.extract 0 (tog sigB nonB s.data.toList)) W (by rw [ByteArray.size_extract]; omega) (by omega)
      rwa [take_list, kmay_take, h] at this)
    have none3 : (decide (1 ≤ tog letB parB s.data.toList) && decide (tog letB parB s.data.toList ≤ 16)) = false → (decide (1 ≤ tog digB digB s.data.toList) && decide (tog digB digB s.data.toList ≤ 19)) = false → (decide (1 ≤ tog sigB nonB s.data.toList) && decide (tog sigB nonB s.data.toList ≤ 1)) = false → fst s.data.toList = none →
        Calls Tryz.prog 110 #[.string s] w fun e w' => e = .returned (tkV (fst s.data.toList)) ∧ Below w.heap.size w w' := fun a b c d => by
      rw [d]
      exact first_3 s w hs h1 h39 _ L0 T0 (M0 _ a) _ L1 T1 (M1 _ b) _ L2 T2 (M2 _ c)
    cases hlet : letB s[0] with
    | true =>
      have n1 : tog digB digB s.data.toList = 0 := by rw [e0]; exact tog_zero (let_not hlet)
      have hsig : sigB s[0] = false := by
        cases h : sigB s[0] with
        | false => rfl
        | true => rw [(sig_not h).1] at hlet; cases hlet
      have n2 : tog sigB nonB s.data.toList = 0 := by rw [e0]; exact tog_zero hsig
      have n0 : tog letB parB s.data.toList = 1 + (r.takeWhile parB).length := by rw [e0]; exact tog_on hlet
      by_cases hz : 1 + (r.takeWhile parB).length ≤ 16
      · have hf : fst s.data.toList = some (⟨1, s.data.toList.take (tog letB parB s.data.toList)⟩, tog letB parB s.data.toList) := by
          rw [n0, e0]
          simp [fst, h0, hlet, hz]
        rw [hf]
        have := first_0 s w hs h1 h39 _ L0 T0 (M0 true (by rw [n0, decide_eq_true hz]; simp))
        rwa [bs_take] at this
      · refine none3 (by rw [n0, decide_eq_false hz]; simp) (by rw [n1]; rfl) (by rw [n2]; rfl) ?_
        rw [e0]
        simp [fst, h0, hlet, hz]
    | false =>
      have n0 : tog letB parB s.data.toList = 0 := by rw [e0]; exact tog_zero hlet
      cases hdig : digB s[0] with
      | true =>
        have hsig : sigB s[0] = false := by
          cases h : sigB s[0] with
          | false => rfl
          | true => rw [(sig_not h).2] at hdig; cases hdig
        have n2 : tog sigB nonB s.data.toList = 0 := by rw [e0]; exact tog_zero hsig
        have n1 : tog digB digB s.data.toList = 1 + (r.takeWhile digB).length := by rw [e0]; exact tog_on hdig
        by_cases hz : 1 + (r.takeWhile digB).length ≤ 19
        · have hf : fst s.data.toList = some (⟨2, s.data.toList.take (tog digB digB s.data.toList)⟩, tog digB digB s.data.toList) := by
            rw [n1, e0]
            simp [fst, h0, hlet, hdig, hz]
          rw [hf]
          have := first_1 s w hs h1 h39 _ L0 T0 (M0 false (by rw [n0]; rfl)) _ L1 T1 (M1 true (by rw [n1, decide_eq_true hz]; simp))
          rwa [bs_take] at this
        · refine none3 (by rw [n0]; rfl) (by rw [n1, decide_eq_false hz]; simp) (by rw [n2]; rfl) ?_
          rw [e0]
          simp [fst, h0, hlet, hdig, hz]
      | false =>
        have n1 : tog digB digB s.data.toList = 0 := by rw [e0]; exact tog_zero hdig
        cases hsig : sigB s[0] with
        | true =>
          have n2 : tog sigB nonB s.data.toList = 1 := by rw [e0, tog_on hsig, none_none]; rfl
          have hf : fst s.data.toList = some (⟨4, s.data.toList.take (tog sigB nonB s.data.toList)⟩, tog sigB nonB s.data.toList) := by
            rw [n2, e0]
            simp [fst, h0, hlet, hdig, hsig]
          rw [hf]
          have := first_2 s w hs h1 h39 _ L0 T0 (M0 false (by rw [n0]; rfl)) _ L1 T1 (M1 false (by rw [n1]; rfl)) _ L2 T2 (M2 true (by rw [n2]; rfl))
          rwa [bs_take] at this
        | false =>
          have n2 : tog sigB nonB s.data.toList = 0 := by rw [e0]; exact tog_zero hsig
          refine none3 (by rw [n0]; rfl) (by rw [n1]; rfl) (by rw [n2]; rfl) ?_
          rw [e0]
          simp [fst, h0, hlet, hdig, hsig]
end Go.Proofs.YtchebhdndkaheaaGreatDoor
