import Derived.Test.YtchebhdndkaheaaGreatDoorW07
import Derived.RegionTactic
import Derived.Shelf.Strings.SlTrimAscii
import Derived.Laws.AppendOwn
import Derived.Laws.OwnMore
import Derived.Test.YtchebhdndkaheaaGreatDoorW04
import Derived.Deep.DeepCutAuto
import Derived.Defers
import Derived.Test.YtchebhdndkaheaaGreatDoorW03
import Derived.Lib.SmallJoins
import Derived.Lib.AppendStr
import Derived.Lib.UnsafeStr
import Derived.Lib.Builder
import Derived.Lib.Strings
import Derived.Lib.Slices
import Derived.Lib.Walk
import Derived.Laws.Externs
import Derived.Shelf.Strings.Builder2
import Derived.Ground.GgwProg
import Derived.Test.YtchebhdndkaheaaGreatDoorProg
import Derived.Shelf.Lays
import Derived.Deep.RegionWith
import Derived.Test.YtchebhdndkaheaaGreatDoorW05

/- The token with which a text begins: first. -/
namespace Go.Proofs.YtchebhdndkaheaaGreatDoor
open Go.RowKit Go.Lib

/-- The result's box, while the kinds are gone through. -/
structure W2 (w W : World) : Prop where
  below : Below w.heap.size w W
  r0 : W.cell? ⟨w.heap.size, 0, none⟩ = some (.int .i64 0)
  r1 : W.cell? ⟨w.heap.size, 1, none⟩ = some (.string ⟨#[]⟩)
  f : ∀ o, W.frozen? ⟨w.heap.size, o, none⟩ = false
theorem W2.lt {w W : World} (h : W2 w W) : w.heap.size < W.heap.size := World.block_lt_of_cell? _ _ h.r0
theorem W2.later {w W W' : World} (h : W2 w W) (hb : Below W.heap.size W W') : W2 w W' :=
  ⟨h.below.trans (hb.mono h.below.size), (hb.cell (p := ⟨_, _, none⟩) h.lt).trans h.r0, (hb.cell (p := ⟨_, _, none⟩) h.lt).trans h.r1, fun o => (hb.frozen (p := ⟨_, o, none⟩) h.lt).trans (h.f o)⟩
theorem W2.alloc {w W : World} (h : W2 w W) (o : Obj) : W2 w (W.alloc o) := h.later ((Below.refl _ _).alloc (Nat.le_refl _) o)
theorem W2.start (w : World) (t : TypeId) : W2 w (w.alloc (.cells #[.int .i64 0, .string ⟨#[]⟩] t)) :=
  ⟨(Below.refl _ _).alloc (Nat.le_refl _) _, by simp [go_sem], by simp [go_sem], fun o => by simp [go_sem]⟩
theorem W2.later' {w W W1 W' : World} {o : Obj} (h : W2 w W) (e : W1 = W.alloc o) (hb : Below W1.heap.size W1 W') : W2 w W' := (h.alloc o).later (e ▸ hb)

theorem kix0 (W : World) : (Instr.index 172 (.agg #[.int .i64 1, .int .i64 16, .func (.func 147) #[] #[], .func (.func 148) #[] #[], .int .i64 2, .int .i64 19, .func (.func 171) #[] #[], .func (.func 171) #[] #[], .int .i64 4, .int .i64 1, .func (.func 189) #[] #[], .func (.func 190) #[] #[]]) (.int .i64 0)).run Tryz.prog W = .ok (.agg #[.int .i64 1, .int .i64 16, .func (.func 147) #[] #[], .func (.func 148) #[] #[]]) W := by kernel_rfl
theorem kix1 (W : World) : (Instr.index 172 (.agg #[.int .i64 1, .int .i64 16, .func (.func 147) #[] #[], .func (.func 148) #[] #[], .int .i64 2, .int .i64 19, .func (.func 171) #[] #[], .func (.func 171) #[] #[], .int .i64 4, .int .i64 1, .func (.func 189) #[] #[], .func (.func 190) #[] #[]]) (.int .i64 1)).run Tryz.prog W = .ok (.agg #[.int .i64 2, .int .i64 19, .func (.func 171) #[] #[], .func (.func 171) #[] #[]]) W := by kernel_rfl
theorem kix2 (W : World) : (Instr.index 172 (.agg #[.int .i64 1, .int .i64 16, .func (.func 147) #[] #[], .func (.func 148) #[] #[], .int .i64 2, .int .i64 19, .func (.func 171) #[] #[], .func (.func 171) #[] #[], .int .i64 4, .int .i64 1, .func (.func 189) #[] #[], .func (.func 190) #[] #[]]) (.int .i64 2)).run Tryz.prog W = .ok (.agg #[.int .i64 4, .int .i64 1, .func (.func 189) #[] #[], .func (.func 190) #[] #[]]) W := by kernel_rfl

set_option maxRecDepth 100000 in
set_option maxHeartbeats 800000 in
theorem first_quote (s : ByteArray) (w : World) (h1 : 1 ≤ s.size) (hs : s.size ≤ 100000) (h0 : s[0] = 39) (hl : LibE w) (k : Int) (S : ByteArray) (n : Int) (ht : tkV (fst s.data.toList) = .tuple #[.agg #[.int .i64 k, .string S], .int .i64 n]) :
    Calls Tryz.prog 110 #[.string s] w fun e w' => e = .returned (tkV (fst s.data.toList)) ∧ Below w.heap.size w w' := by
  have HF := Lib.hid (fun (W : World) (h : LibE W) => firstString_any s W h1 hs h0 h)
  rw [ht] at HF ⊢
  have HL := Lib.hid hl
  have h39 : (s[0].toNat : Int) = 39 := by rw [h0]; rfl
  clear hl ht h0
  go_enter Tryz.func110, Tryz.ntmps110
  go_wp2_with (first
    | (go_at_call 143; refine (HF.out _ (HL.out.keep (by repeat (first | (with_reducible exact Below.refl _ _) | ((with_reducible refine cSet3 ?_ ?_ _ _ _); (· ((try simp) <;> omega))) | (with_reducible refine Below.drew ?_) | ((with_reducible refine cAlloc ?_ ?_ _); (· ((try simp) <;> omega))) | ((with_reducible refine cOn (by assumption) ?_ ?_); (· ((try simp) <;> omega))))) (Nat.le_refl _))).mono ?_; rintro e w1 ⟨rfl, hb1⟩; have hc1 := (bcell hb1).1; have hf1 := (bcell hb1).2; have hy1 := hb1.size; (try simp at hy1); have hz1_0 : w.heap.size < w1.heap.size := (by omega)))
  refine bodyPost_ret (v := .tuple #[.agg #[.int .i64 k, .string S], .int .i64 n]) ?_ rfl ⟨rfl, ?_⟩
  · (simp [results, Tryz.results110, go_sem, *]; done)
  repeat (first | (with_reducible exact Below.refl _ _) | ((with_reducible refine cSet1 ?_ ?_ _ _); (· ((try simp) <;> omega))) | (with_reducible refine Below.drew ?_) | ((with_reducible refine cAlloc ?_ ?_ _); (· ((try simp) <;> omega))) | ((with_reducible refine cOn (by assumption) ?_ ?_); (· ((try simp) <;> omega))))

set_option maxRecDepth 100000 in
set_option maxHeartbeats 3200000 in
theorem first_0 (s : ByteArray) (w : World) (hs : s.size ≤ 100000) (hl : 0 < s.size) (h39 : ¬ (s[0].toNat : Int) = 39) (n0 : Nat) (h0 : n0 ≤ s.size) (t0 : ∀ W, Calls Tryz.prog 145 #[.agg #[.int .i64 1, .int .i64 16, .func (.func 147) #[] #[], .func (.func 148) #[] #[]], .string s] W fun e w' => e = .returned (.int .i64 n0) ∧ Below W.heap.size W w') (m0 : ∀ W, Calls Tryz.prog 113 #[.agg #[.int .i64 1, .int .i64 16, .func (.func 147) #[] #[], .func (.func 148) #[] #[]], .string (s.extract 0 n0)] W fun e w' => e = .returned (.bool true) ∧ Below W.heap.size W w') :
    Calls Tryz.prog 110 #[.string s] w fun e w' => e = .returned (.tuple #[.agg #[.int .i64 1, .string (s.extract 0 n0)], .int .i64 n0]) ∧ Below w.heap.size w w' := by
  have HT0 := Lib.hid t0
  have HM0 := Lib.hid m0
  have b0 : 0 ≤ (n0 : Int) ∧ (n0 : Int) ≤ (s.size : Int) := by omega
  clear t0 m0
  go_enter Tryz.func110, Tryz.ntmps110
  go_wp2_with (go_at_call 144; refine (kinds_any _).mono ?_; rintro e w1 ⟨rfl, hb1⟩; have HW0 := Lib.hid ((W2.start w _).later hb1); clear hb1)
  go_loopw [15] (fun i wr => ∃ k : Nat, k ≤ 0 ∧ i = .int .i64 k ∧ W2 w wr) (fun i _ => 3 - (intOf i).toNat)
  case atStart => exact ⟨0, by omega, rfl, HW0.out⟩
  case round =>
    obtain ⟨k, hk, rfl, hW⟩ := hrel
    have HW := Lib.hid hW
    clear hW HW0
    obtain ⟨wo, hwo⟩ : ∃ wo : World, wo = wr := ⟨_, rfl⟩
    rw [← hwo] at HW ⊢
    clear hwo
    by_cases hk0 : k = 0
    · subst hk0
      have r0 := HW.out.r0
      have r1 := HW.out.r1
      have rf := HW.out.f
      have rl := HW.out.lt
      have ix := kix0
      go_wp2_with (go_at_call 145; refine (HT0.out _).mono ?_; rintro e w1 ⟨rfl, hb1⟩; have HW1 := Lib.hid (HW.out.later' rfl hb1); have q0 : w1.cell? ⟨wo.heap.size, 0, none⟩ = some (.int .i64 1) := (hb1.cell (p := ⟨wo.heap.size, 0, none⟩) (by simp)).trans (by simp [go_sem]); have q1 : w1.cell? ⟨wo.heap.size, 1, none⟩ = some (.int .i64 16) := (hb1.cell (p := ⟨wo.heap.size, 1, none⟩) (by simp)).trans (by simp [go_sem]); have q2 : w1.cell? ⟨wo.heap.size, 2, none⟩ = some (.func (.func 147) #[] #[]) := (hb1.cell (p := ⟨wo.heap.size, 2, none⟩) (by simp)).trans (by simp [go_sem]); have q3 : w1.cell? ⟨wo.heap.size, 3, none⟩ = some (.func (.func 148) #[] #[]) := (hb1.cell (p := ⟨wo.heap.size, 3, none⟩) (by simp)).trans (by simp [go_sem]); have hwz : wo.heap.size < w1.heap.size := (by have := hb1.size; simp at this; omega); clear hb1 r0 r1 rf rl)
      refine detL_begin [.val (.agg #[.int .i64 1, .int .i64 16, .func (.func 147) #[] #[], .func (.func 148) #[] #[]]), .val (.string s), .val (.int .i64 n0), .val (.string (s.extract 0 n0)), .val (.bool true)] 5 (by kernel_rfl) ?_
      refine detL_val (by kernel_rfl) (yields_of rfl fun w1 hb1 => ?_) ?_
      · have hc1 := bcellD hb1
        have d0 := (hc1 wo.heap.size 0 hwz).trans q0; have d1 := (hc1 wo.heap.size 1 hwz).trans q1; have d2 := (hc1 wo.heap.size 2 hwz).trans q2; have d3 := (hc1 wo.heap.size 3 hwz).trans q3
        clear hb1
        go_simp
        exact Det1_same
      simp only [Act.put, List.setIfInBounds_toArray, List.set_cons_zero, List.set_cons_succ]
      refine detL_val (by kernel_rfl) (yields_of rfl fun w1 hb1 => ?_) ?_
      · have hc1 := bcellD hb1
        clear hb1
        go_simp
        exact Det1_same
      simp only [Act.put, List.setIfInBounds_toArray, List.set_cons_zero, List.set_cons_succ]
      refine detL_val (by kernel_rfl) (yields_of rfl fun w1 hb1 => ?_) ?_
      · have hc1 := bcellD hb1
        clear hb1
        go_simp
        exact Det1_same
      simp only [Act.put, List.setIfInBounds_toArray, List.set_cons_zero, List.set_cons_succ]
      refine detL_val (by kernel_rfl) (yields_of rfl fun w1 hb1 => ?_) ?_
      · have hc1 := bcellD hb1
        clear hb1
        go_simp
        exact Det1_same
      simp only [Act.put, List.setIfInBounds_toArray, List.set_cons_zero, List.set_cons_succ]
      refine detL_val (by kernel_rfl) (yields_of rfl fun w1 hb1 => ?_) ?_
      · have hc1 := bcellD hb1
        clear hb1
        go_simp
        exact Det1_enter (HM0.out _)
      simp only [Act.put, List.setIfInBounds_toArray, List.set_cons_zero, List.set_cons_succ]
      refine detL_done (by kernel_rfl) fun w2 hw2 => ?_
      have HW2 := Lib.hid (HW1.out.later ((Below.refl _ _).drew.trans hw2.below))
      have p0 : w2.cell? ⟨wo.heap.size, 0, none⟩ = some (.int .i64 1) := (hw2.below.cell (p := ⟨wo.heap.size, 0, none⟩) hwz).trans q0
      clear hw2 q0 q1 q2 q3
      have r0 := HW2.out.r0
      have r1 := HW2.out.r1
      have rf := HW2.out.f
      have rl := HW2.out.lt
      go_wp2
      go_region
      all_goals
        go_wp2
        refine bodyPost_ret (v := .tuple #[.agg #[.int .i64 1, .string (s.extract 0 n0)], .int .i64 n0]) ?_ rfl ⟨rfl, ?_⟩
        · (simp [results, Tryz.results110, go_sem, *]; done)
        · have hb1 := HW2.out.below
          repeat (first | (with_reducible exact Below.refl _ _) | ((with_reducible refine cSet1 ?_ ?_ _ _); (· ((try simp) <;> omega))) | (with_reducible refine Below.drew ?_) | ((with_reducible refine cAlloc ?_ ?_ _); (· ((try simp) <;> omega))) | ((with_reducible refine cOn (by assumption) ?_ ?_); (· ((try simp) <;> omega))))
    · skip
      omega

set_option maxRecDepth 100000 in
set_option maxHeartbeats 3200000 in
theorem first_1 (s : ByteArray) (w : World) (hs : s.size ≤ 100000) (hl : 0 < s.size) (h39 : ¬ (s[0].toNat : Int) = 39) (n0 : Nat) (h0 : n0 ≤ s.size) (t0 : ∀ W, Calls Tryz.prog 145 #[.agg #[.int .i64 1, .int .i64 16, .func (.func 147) #[] #[], .func (.func 148) #[] #[]], .string s] W fun e w' => e = .returned (.int .i64 n0) ∧ Below W.heap.size W w') (m0 : ∀ W, Calls Tryz.prog 113 #[.agg #[.int .i64 1, .int .i64 16, .func (.func 147) #[] #[], .func (.func 148) #[] #[]], .string (s.extract 0 n0)] W fun e w' => e = .returned (.bool false) ∧ Below W.heap.size W w') (n1 : Nat) (h1 : n1 ≤ s.size) (t1 : ∀ W, Calls Tryz.prog 145 #[.agg #[.int .i64 2, .int .i64 19, .func (.func 171) #[] #[], .func (.func 171) #[] #[]], .string s] W fun e w' => e = .returned (.int .i64 n1) ∧ Below W.heap.size W w') (m1 : ∀ W, Calls Tryz.prog 113 #[.agg #[.int .i64 2, .int .i64 19, .func (.func 171) #[] #[], .func (.func 171) #[] #[]], .string (s.extract 0 n1)] W fun e w' => e = .returned (.bool true) ∧ Below W.heap.size W w') :
    Calls Tryz.prog 110 #[.string s] w fun e w' => e = .returned (.tuple #[.agg #[.int .i64 2, .string (s.extract 0 n1)], .int .i64 n1]) ∧ Below w.heap.size w w' := by
  have HT0 := Lib.hid t0
  have HM0 := Lib.hid m0
  have b0 : 0 ≤ (n0 : Int) ∧ (n0 : Int) ≤ (s.size : Int) := by omega
  have HT1 := Lib.hid t1
  have HM1 := Lib.hid m1
  have b1 : 0 ≤ (n1 : Int) ∧ (n1 : Int) ≤ (s.size : Int) := by omega
  clear t0 m0 t1 m1
  go_enter Tryz.func110, Tryz.ntmps110
  go_wp2_with (go_at_call 144; refine (kinds_any _).mono ?_; rintro e w1 ⟨rfl, hb1⟩; have HW0 := Lib.hid ((W2.start w _).later hb1); clear hb1)
  go_loopw [15] (fun i wr => ∃ k : Nat, k ≤ 1 ∧ i = .int .i64 k ∧ W2 w wr) (fun i _ => 3 - (intOf i).toNat)
  case atStart => exact ⟨0, by omega, rfl, HW0.out⟩
  case round =>
    obtain ⟨k, hk, rfl, hW⟩ := hrel
    have HW := Lib.hid hW
    clear hW HW0
    obtain ⟨wo, hwo⟩ : ∃ wo : World, wo = wr := ⟨_, rfl⟩
    rw [← hwo] at HW ⊢
    clear hwo
    by_cases hk0 : k = 0
    · subst hk0
      have r0 := HW.out.r0
      have r1 := HW.out.r1
      have rf := HW.out.f
      have rl := HW.out.lt
      have ix := kix0
      go_wp2_with (go_at_call 145; refine (HT0.out _).mono ?_; rintro e w1 ⟨rfl, hb1⟩; have HW1 := Lib.hid (HW.out.later' rfl hb1); have q0 : w1.cell? ⟨wo.heap.size, 0, none⟩ = some (.int .i64 1) := (hb1.cell (p := ⟨wo.heap.size, 0, none⟩) (by simp)).trans (by simp [go_sem]); have q1 : w1.cell? ⟨wo.heap.size, 1, none⟩ = some (.int .i64 16) := (hb1.cell (p := ⟨wo.heap.size, 1, none⟩) (by simp)).trans (by simp [go_sem]); have q2 : w1.cell? ⟨wo.heap.size, 2, none⟩ = some (.func (.func 147) #[] #[]) := (hb1.cell (p := ⟨wo.heap.size, 2, none⟩) (by simp)).trans (by simp [go_sem]); have q3 : w1.cell? ⟨wo.heap.size, 3, none⟩ = some (.func (.func 148) #[] #[]) := (hb1.cell (p := ⟨wo.heap.size, 3, none⟩) (by simp)).trans (by simp [go_sem]); have hwz : wo.heap.size < w1.heap.size := (by have := hb1.size; simp at this; omega); clear hb1 r0 r1 rf rl)
      refine detL_begin [.val (.agg #[.int .i64 1, .int .i64 16, .func (.func 147) #[] #[], .func (.func 148) #[] #[]]), .val (.string s), .val (.int .i64 n0), .val (.string (s.extract 0 n0)), .val (.bool false)] 5 (by kernel_rfl) ?_
      refine detL_val (by kernel_rfl) (yields_of rfl fun w1 hb1 => ?_) ?_
      · have hc1 := bcellD hb1
        have d0 := (hc1 wo.heap.size 0 hwz).trans q0; have d1 := (hc1 wo.heap.size 1 hwz).trans q1; have d2 := (hc1 wo.heap.size 2 hwz).trans q2; have d3 := (hc1 wo.heap.size 3 hwz).trans q3
        clear hb1
        go_simp
        exact Det1_same
      simp only [Act.put, List.setIfInBounds_toArray, List.set_cons_zero, List.set_cons_succ]
      refine detL_val (by kernel_rfl) (yields_of rfl fun w1 hb1 => ?_) ?_
      · have hc1 := bcellD hb1
        clear hb1
        go_simp
        exact Det1_same
      simp only [Act.put, List.setIfInBounds_toArray, List.set_cons_zero, List.set_cons_succ]
      refine detL_val (by kernel_rfl) (yields_of rfl fun w1 hb1 => ?_) ?_
      · have hc1 := bcellD hb1
        clear hb1
        go_simp
        exact Det1_same
      simp only [Act.put, List.setIfInBounds_toArray, List.set_cons_zero, List.set_cons_succ]
      refine detL_val (by kernel_rfl) (yields_of rfl fun w1 hb1 => ?_) ?_
      · have hc1 := bcellD hb1
        clear hb1
        go_simp
        exact Det1_same
      simp only [Act.put, List.setIfInBounds_toArray, List.set_cons_zero, List.set_cons_succ]
      refine detL_val (by kernel_rfl) (yields_of rfl fun w1 hb1 => ?_) ?_
      · have hc1 := bcellD hb1
        clear hb1
        go_simp
        exact Det1_enter (HM0.out _)
      simp only [Act.put, List.setIfInBounds_toArray, List.set_cons_zero, List.set_cons_succ]
      refine detL_done (by kernel_rfl) fun w2 hw2 => ?_
      have HW2 := Lib.hid (HW1.out.later ((Below.refl _ _).drew.trans hw2.below))
      clear hw2 q0 q1 q2 q3
      go_wp2
      go_roundw
      case rel => exact ⟨0 + 1, by omega, by go_num, HW2.out⟩
      case measure => simp [intOf]; try omega
    · skip
      by_cases hk1 : k = 1
      · subst hk1
        have r0 := HW.out.r0
        have r1 := HW.out.r1
        have rf := HW.out.f
        have rl := HW.out.lt
        have ix := kix1
        go_wp2_with (go_at_call 145; refine (HT1.out _).mono ?_; rintro e w1 ⟨rfl, hb1⟩; have HW1 := Lib.hid (HW.out.later' rfl hb1); have q0 : w1.cell? ⟨wo.heap.size, 0, none⟩ = some (.int .i64 2) := (hb1.cell (p := ⟨wo.heap.size, 0, none⟩) (by simp)).trans (by simp [go_sem]); have q1 : w1.cell? ⟨wo.heap.size, 1, none⟩ = some (.int .i64 19) := (hb1.cell (p := ⟨wo.heap.size, 1, none⟩) (by simp)).trans (by simp [go_sem]); have q2 : w1.cell? ⟨wo.heap.size, 2, none⟩ = some (.func (.func 171) #[] #[]) := (hb1.cell (p := ⟨wo.heap.size, 2, none⟩) (by simp)).trans (by simp [go_sem]); have q3 : w1.cell? ⟨wo.heap.size, 3, none⟩ = some (.func (.func 171) #[] #[]) := (hb1.cell (p := ⟨wo.heap.size, 3, none⟩) (by simp)).trans (by simp [go_sem]); have hwz : wo.heap.size < w1.heap.size := (by have := hb1.size; simp at this; omega); clear hb1 r0 r1 rf rl)
        refine detL_begin [.val (.agg #[.int .i64 2, .int .i64 19, .func (.func 171) #[] #[], .func (.func 171) #[] #[]]), .val (.string s), .val (.int .i64 n1), .val (.string (s.extract 0 n1)), .val (.bool true)] 5 (by kernel_rfl) ?_
        refine detL_val (by kernel_rfl) (yields_of rfl fun w1 hb1 => ?_) ?_
        · have hc1 := bcellD hb1
          have d0 := (hc1 wo.heap.size 0 hwz).trans q0; have d1 := (hc1 wo.heap.size 1 hwz).trans q1; have d2 := (hc1 wo.heap.size 2 hwz).trans q2; have d3 := (hc1 wo.heap.size 3 hwz).trans q3
          clear hb1
          go_simp
          exact Det1_same
        simp only [Act.put, List.setIfInBounds_toArray, List.set_cons_zero, List.set_cons_succ]
        refine detL_val (by kernel_rfl) (yields_of rfl fun w1 hb1 => ?_) ?_
        · have hc1 := bcellD hb1
          clear hb1
          go_simp
          exact Det1_same
        simp only [Act.put, List.setIfInBounds_toArray, List.set_cons_zero, List.set_cons_succ]
        refine detL_val (by kernel_rfl) (yields_of rfl fun w1 hb1 => ?_) ?_
        · have hc1 := bcellD hb1
          clear hb1
          go_simp
          exact Det1_same
        simp only [Act.put, List.setIfInBounds_toArray, List.set_cons_zero, List.set_cons_succ]
        refine detL_val (by kernel_rfl) (yields_of rfl fun w1 hb1 => ?_) ?_
        · have hc1 := bcellD hb1
          clear hb1
          go_simp
          exact Det1_same
        simp only [Act.put, List.setIfInBounds_toArray, List.set_cons_zero, List.set_cons_succ]
        refine detL_val (by kernel_rfl) (yields_of rfl fun w1 hb1 => ?_) ?_
        · have hc1 := bcellD hb1
          clear hb1
          go_simp
          exact Det1_enter (HM1.out _)
        simp only [Act.put, List.setIfInBounds_toArray, List.set_cons_zero, List.set_cons_succ]
        refine detL_done (by kernel_rfl) fun w2 hw2 => ?_
        have HW2 := Lib.hid (HW1.out.later ((Below.refl _ _).drew.trans hw2.below))
        have p0 : w2.cell? ⟨wo.heap.size, 0, none⟩ = some (.int .i64 2) := (hw2.below.cell (p := ⟨wo.heap.size, 0, none⟩) hwz).trans q0
        clear hw2 q0 q1 q2 q3
        have r0 := HW2.out.r0
        have r1 := HW2.out.r1
        have rf := HW2.out.f
        have rl := HW2.out.lt
        go_wp2
        go_region
        all_goals
          go_wp2
          refine bodyPost_ret (v := .tuple #[.agg #[.int .i64 2, .string (s.extract 0 n1)], .int .i64 n1]) ?_ rfl ⟨rfl, ?_⟩
          · (simp [results, Tryz.results110, go_sem, *]; done)
          · have hb1 := HW2.out.below
            repeat (first | (with_reducible exact Below.refl _ _) | ((with_reducible refine cSet1 ?_ ?_ _ _); (· ((try simp) <;> omega))) | (with_reducible refine Below.drew ?_) | ((with_reducible refine cAlloc ?_ ?_ _); (· ((try simp) <;> omega))) | ((with_reducible refine cOn (by assumption) ?_ ?_); (· ((try simp) <;> omega))))
      · skip
        omega

set_option maxRecDepth 100000 in
set_option maxHeartbeats 3200000 in
theorem first_2 (s : ByteArray) (w : World) (hs : s.size ≤ 100000) (hl : 0 < s.size) (h39 : ¬ (s[0].toNat : Int) = 39) (n0 : Nat) (h0 : n0 ≤ s.size) (t0 : ∀ W, Calls Tryz.prog 145 #[.agg #[.int .i64 1, .int .i64 16, .func (.func 147) #[] #[], .func (.func 148) #[] #[]], .string s] W fun e w' => e = .returned (.int .i64 n0) ∧ Below W.heap.size W w') (m0 : ∀ W, Calls Tryz.prog 113 #[.agg #[.int .i64 1, .int .i64 16, .func (.func 147) #[] #[], .func (.func 148) #[] #[]], .string (s.extract 0 n0)] W fun e w' => e = .returned (.bool false) ∧ Below W.heap.size W w') (n1 : Nat) (h1 : n1 ≤ s.size) (t1 : ∀ W, Calls Tryz.prog 145 #[.agg #[.int .i64 2, .int .i64 19, .func (.func 171) #[] #[], .func (.func 171) #[] #[]], .string s] W fun e w' => e = .returned (.int .i64 n1) ∧ Below W.heap.size W w') (m1 : ∀ W, Calls Tryz.prog 113 #[.agg #[.int .i64 2, .int .i64 19, .func (.func 171) #[] #[], .func (.func 171) #[] #[]], .string (s.extract 0 n1)] W fun e w' => e = .returned (.bool false) ∧ Below W.heap.size W w') (n2 : Nat) (h2 : n2 ≤ s.size) (t2 : ∀ W, Calls Tryz.prog 145 #[.agg #[.int .i64 4, .int .i64 1, .func (.func 189) #[] #[], .func (.func 190) #[] #[]], .string s] W fun e w' => e = .returned (.int .i64 n2) ∧ Below W.heap.size W w') (m2 : ∀ W, Calls Tryz.prog 113 #[.agg #[.int .i64 4, .int .i64 1, .func (.func 189) #[] #[], .func (.func 190) #[] #[]], .string (s.extract 0 n2)] W fun e w' => e = .returned (.bool true) ∧ Below W.heap.size W w') :
    Calls Tryz.prog 110 #[.string s] w fun e w' => e = .returned (.tuple #[.agg #[.int .i64 4, .string (s.extract 0 n2)], .int .i64 n2]) ∧ Below w.heap.size w w' := by
  have HT0 := Lib.hid t0
  have HM0 := Lib.hid m0
  have b0 : 0 ≤ (n0 : Int) ∧ (n0 : Int) ≤ (s.size : Int) := by omega
  have HT1 := Lib.hid t1
  have HM1 := Lib.hid m1
  have b1 : 0 ≤ (n1 : Int) ∧ (n1 : Int) ≤ (s.size : Int) := by omega
  have HT2 := Lib.hid t2
  have HM2 := Lib.hid m2
  have b2 : 0 ≤ (n2 : Int) ∧ (n2 : Int) ≤ (s.size : Int) := by omega
  clear t0 m0 t1 m1 t2 m2
  go_enter Tryz.func110, Tryz.ntmps110
  go_wp2_with (go_at_call 144; refine (kinds_any _).mono ?_; rintro e w1 ⟨rfl, hb1⟩; have HW0 := Lib.hid ((W2.start w _).later hb1); clear hb1)
  go_loopw [15] (fun i wr => ∃ k : Nat, k ≤ 2 ∧ i = .int .i64 k ∧ W2 w wr) (fun i _ => 3 - (intOf i).toNat)
  case atStart => exact ⟨0, by omega, rfl, HW0.out⟩
  case round =>
    obtain ⟨k, hk, rfl, hW⟩ := hrel
    have HW := Lib.hid hW
    clear hW HW0
    obtain ⟨wo, hwo⟩ : ∃ wo : World, wo = wr := ⟨_, rfl⟩
    rw [← hwo] at HW ⊢
    clear hwo
    by_cases hk0 : k = 0
    · subst hk0
      have r0 := HW.out.r0
      have r1 := HW.out.r1
      have rf := HW.out.f
      have rl := HW.out.lt
      have ix := kix0
      go_wp2_with (go_at_call 145; refine (HT0.out _).mono ?_; rintro e w1 ⟨rfl, hb1⟩; have HW1 := Lib.hid (HW.out.later' rfl hb1); have q0 : w1.cell? ⟨wo.heap.size, 0, none⟩ = some (.int .i64 1) := (hb1.cell (p := ⟨wo.heap.size, 0, none⟩) (by simp)).trans (by simp [go_sem]); have q1 : w1.cell? ⟨wo.heap.size, 1, none⟩ = some (.int .i64 16) := (hb1.cell (p := ⟨wo.heap.size, 1, none⟩) (by simp)).trans (by simp [go_sem]); have q2 : w1.cell? ⟨wo.heap.size, 2, none⟩ = some (.func (.func 147) #[] #[]) := (hb1.cell (p := ⟨wo.heap.size, 2, none⟩) (by simp)).trans (by simp [go_sem]); have q3 : w1.cell? ⟨wo.heap.size, 3, none⟩ = some (.func (.func 148) #[] #[]) := (hb1.cell (p := ⟨wo.heap.size, 3, none⟩) (by simp)).trans (by simp [go_sem]); have hwz : wo.heap.size < w1.heap.size := (by have := hb1.size; simp at this; omega); clear hb1 r0 r1 rf rl)
      refine detL_begin [.val (.agg #[.int .i64 1, .int .i64 16, .func (.func 147) #[] #[], .func (.func 148) #[] #[]]), .val (.string s), .val (.int .i64 n0), .val (.string (s.extract 0 n0)), .val (.bool false)] 5 (by kernel_rfl) ?_
      refine detL_val (by kernel_rfl) (yields_of rfl fun w1 hb1 => ?_) ?_
      · have hc1 := bcellD hb1
        have d0 := (hc1 wo.heap.size 0 hwz).trans q0; have d1 := (hc1 wo.heap.size 1 hwz).trans q1; have d2 := (hc1 wo.heap.size 2 hwz).trans q2; have d3 := (hc1 wo.heap.size 3 hwz).trans q3
        clear hb1
        go_simp
        exact Det1_same
      simp only [Act.put, List.setIfInBounds_toArray, List.set_cons_zero, List.set_cons_succ]
      refine detL_val (by kernel_rfl) (yields_of rfl fun w1 hb1 => ?_) ?_
      · have hc1 := bcellD hb1
        clear hb1
        go_simp
        exact Det1_same
      simp only [Act.put, List.setIfInBounds_toArray, List.set_cons_zero, List.set_cons_succ]
      refine detL_val (by kernel_rfl) (yields_of rfl fun w1 hb1 => ?_) ?_
      · have hc1 := bcellD hb1
        clear hb1
        go_simp
        exact Det1_same
      simp only [Act.put, List.setIfInBounds_toArray, List.set_cons_zero, List.set_cons_succ]
      refine detL_val (by kernel_rfl) (yields_of rfl fun w1 hb1 => ?_) ?_
      · have hc1 := bcellD hb1
        clear hb1
        go_simp
        exact Det1_same
      simp only [Act.put, List.setIfInBounds_toArray, List.set_cons_zero, List.set_cons_succ]
      refine detL_val (by kernel_rfl) (yields_of rfl fun w1 hb1 => ?_) ?_
      · have hc1 := bcellD hb1
        clear hb1
        go_simp
        exact Det1_enter (HM0.out _)
      simp only [Act.put, List.setIfInBounds_toArray, List.set_cons_zero, List.set_cons_succ]
      refine detL_done (by kernel_rfl) fun w2 hw2 => ?_
      have HW2 := Lib.hid (HW1.out.later ((Below.refl _ _).drew.trans hw2.below))
      clear hw2 q0 q1 q2 q3
      go_wp2
      go_roundw
      case rel => exact ⟨0 + 1, by omega, by go_num, HW2.out⟩
      case measure => simp [intOf]; try omega
    · skip
      by_cases hk1 : k = 1
      · subst hk1
        have r0 := HW.out.r0
        have r1 := HW.out.r1
        have rf := HW.out.f
        have rl := HW.out.lt
        have ix := kix1
        go_wp2_with (go_at_call 145; refine (HT1.out _).mono ?_; rintro e w1 ⟨rfl, hb1⟩; have HW1 := Lib.hid (HW.out.later' rfl hb1); have q0 : w1.cell? ⟨wo.heap.size, 0, none⟩ = some (.int .i64 2) := (hb1.cell (p := ⟨wo.heap.size, 0, none⟩) (by simp)).trans (by simp [go_sem]); have q1 : w1.cell? ⟨wo.heap.size, 1, none⟩ = some (.int .i64 19) := (hb1.cell (p := ⟨wo.heap.size, 1, none⟩) (by simp)).trans (by simp [go_sem]); have q2 : w1.cell? ⟨wo.heap.size, 2, none⟩ = some (.func (.func 171) #[] #[]) := (hb1.cell (p := ⟨wo.heap.size, 2, none⟩) (by simp)).trans (by simp [go_sem]); have q3 : w1.cell? ⟨wo.heap.size, 3, none⟩ = some (.func (.func 171) #[] #[]) := (hb1.cell (p := ⟨wo.heap.size, 3, none⟩) (by simp)).trans (by simp [go_sem]); have hwz : wo.heap.size < w1.heap.size := (by have := hb1.size; simp at this; omega); clear hb1 r0 r1 rf rl)
        refine detL_begin [.val (.agg #[.int .i64 2, .int .i64 19, .func (.func 171) #[] #[], .func (.func 171) #[] #[]]), .val (.string s), .val (.int .i64 n1), .val (.string (s.extract 0 n1)), .val (.bool false)] 5 (by kernel_rfl) ?_
        refine detL_val (by kernel_rfl) (yields_of rfl fun w1 hb1 => ?_) ?_
        · have hc1 := bcellD hb1
          have d0 := (hc1 wo.heap.size 0 hwz).trans q0; have d1 := (hc1 wo.heap.size 1 hwz).trans q1; have d2 := (hc1 wo.heap.size 2 hwz).trans q2; have d3 := (hc1 wo.heap.size 3 hwz).trans q3
          clear hb1
          go_simp
          exact Det1_same
        simp only [Act.put, List.setIfInBounds_toArray, List.set_cons_zero, List.set_cons_succ]
        refine detL_val (by kernel_rfl) (yields_of rfl fun w1 hb1 => ?_) ?_
        · have hc1 := bcellD hb1
          clear hb1
          go_simp
          exact Det1_same
        simp only [Act.put, List.setIfInBounds_toArray, List.set_cons_zero, List.set_cons_succ]
        refine detL_val (by kernel_rfl) (yields_of rfl fun w1 hb1 => ?_) ?_
        · have hc1 := bcellD hb1
          clear hb1
          go_simp
          exact Det1_same
        simp only [Act.put, List.setIfInBounds_toArray, List.set_cons_zero, List.set_cons_succ]
        refine detL_val (by kernel_rfl) (yields_of rfl fun w1 hb1 => ?_) ?_
        · have hc1 := bcellD hb1
          clear hb1
          go_simp
          exact Det1_same
        simp only [Act.put, List.setIfInBounds_toArray, List.set_cons_zero, List.set_cons_succ]
        refine detL_val (by kernel_rfl) (yields_of rfl fun w1 hb1 => ?_) ?_
        · have hc1 := bcellD hb1
          clear hb1
          go_simp
          exact Det1_enter (HM1.out _)
        simp only [Act.put, List.setIfInBounds_toArray, List.set_cons_zero, List.set_cons_succ]
        refine detL_done (by kernel_rfl) fun w2 hw2 => ?_
        have HW2 := Lib.hid (HW1.out.later ((Below.refl _ _).drew.trans hw2.below))
        clear hw2 q0 q1 q2 q3
        go_wp2
        go_roundw
        case rel => exact ⟨1 + 1, by omega, by go_num, HW2.out⟩
        case measure => simp [intOf]; try omega
      · skip
        by_cases hk2 : k = 2
        · subst hk2
          have r0 := HW.out.r0
          have r1 := HW.out.r1
          have rf := HW.out.f
          have rl := HW.out.lt
          have ix := kix2
          go_wp2_with (go_at_call 145; refine (HT2.out _).mono ?_; rintro e w1 ⟨rfl, hb1⟩; have HW1 := Lib.hid (HW.out.later' rfl hb1); have q0 : w1.cell? ⟨wo.heap.size, 0, none⟩ = some (.int .i64 4) := (hb1.cell (p := ⟨wo.heap.size, 0, none⟩) (by simp)).trans (by simp [go_sem]); have q1 : w1.cell? ⟨wo.heap.size, 1, none⟩ = some (.int .i64 1) := (hb1.cell (p := ⟨wo.heap.size, 1, none⟩) (by simp)).trans (by simp [go_sem]); have q2 : w1.cell? ⟨wo.heap.size, 2, none⟩ = some (.func (.func 189) #[] #[]) := (hb1.cell (p := ⟨wo.heap.size, 2, none⟩) (by simp)).trans (by simp [go_sem]); have q3 : w1.cell? ⟨wo.heap.size, 3, none⟩ = some (.func (.func 190) #[] #[]) := (hb1.cell (p := ⟨wo.heap.size, 3, none⟩) (by simp)).trans (by simp [go_sem]); have hwz : wo.heap.size < w1.heap.size := (by have := hb1.size; simp at this; omega); clear hb1 r0 r1 rf rl)
          refine detL_begin [.val (.agg #[.int .i64 4, .int .i64 1, .func (.func 189) #[] #[], .func (.func 190) #[] #[]]), .val (.string s), .val (.int .i64 n2), .val (.string (s.extract 0 n2)), .val (.bool true)] 5 (by kernel_rfl) ?_
          refine detL_val (by kernel_rfl) (yields_of rfl fun w1 hb1 => ?_) ?_
          · have hc1 := bcellD hb1
            have d0 := (hc1 wo.heap.size 0 hwz).trans q0; have d1 := (hc1 wo.heap.size 1 hwz).trans q1; have d2 := (hc1 wo.heap.size 2 hwz).trans q2; have d3 := (hc1 wo.heap.size 3 hwz).trans q3
            clear hb1
            go_simp
            exact Det1_same
          simp only [Act.put, List.setIfInBounds_toArray, List.set_cons_zero, List.set_cons_succ]
          refine detL_val (by kernel_rfl) (yields_of rfl fun w1 hb1 => ?_) ?_
          · have hc1 := bcellD hb1
            clear hb1
            go_simp
            exact Det1_same
          simp only [Act.put, List.setIfInBounds_toArray, List.set_cons_zero, List.set_cons_succ]
          refine detL_val (by kernel_rfl) (yields_of rfl fun w1 hb1 => ?_) ?_
          · have hc1 := bcellD hb1
            clear hb1
            go_simp
            exact Det1_same
          simp only [Act.put, List.setIfInBounds_toArray, List.set_cons_zero, List.set_cons_succ]
          refine detL_val (by kernel_rfl) (yields_of rfl fun w1 hb1 => ?_) ?_
          · have hc1 := bcellD hb1
            clear hb1
            go_simp
            exact Det1_same
          simp only [Act.put, List.setIfInBounds_toArray, List.set_cons_zero, List.set_cons_succ]
          refine detL_val (by kernel_rfl) (yields_of rfl fun w1 hb1 => ?_) ?_
          · have hc1 := bcellD hb1
            clear hb1
            go_simp
            exact Det1_enter (HM2.out _)
          simp only [Act.put, List.setIfInBounds_toArray, List.set_cons_zero, List.set_cons_succ]
          refine detL_done (by kernel_rfl) fun w2 hw2 => ?_
          have HW2 := Lib.hid (HW1.out.later ((Below.refl _ _).drew.trans hw2.below))
          have p0 : w2.cell? ⟨wo.heap.size, 0, none⟩ = some (.int .i64 4) := (hw2.below.cell (p := ⟨wo.heap.size, 0, none⟩) hwz).trans q0
          clear hw2 q0 q1 q2 q3
          have r0 := HW2.out.r0
          have r1 := HW2.out.r1
          have rf := HW2.out.f
          have rl := HW2.out.lt
          go_wp2
          go_region
          all_goals
            go_wp2
            refine bodyPost_ret (v := .tuple #[.agg #[.int .i64 4, .string (s.extract 0 n2)], .int .i64 n2]) ?_ rfl ⟨rfl, ?_⟩
            · (simp [results, Tryz.results110, go_sem, *]; done)
            · have hb1 := HW2.out.below
              repeat (first | (with_reducible exact Below.refl _ _) | ((with_reducible refine cSet1 ?_ ?_ _ _); (· ((try simp) <;> omega))) | (with_reducible refine Below.drew ?_) | ((with_reducible refine cAlloc ?_ ?_ _); (· ((try simp) <;> omega))) | ((with_reducible refine cOn (by assumption) ?_ ?_); (· ((try simp) <;> omega))))
        · skip
          omega

set_option maxRecDepth 100000 in
set_option maxHeartbeats 3200000 in
theorem first_3 (s : ByteArray) (w : World) (hs : s.size ≤ 100000) (hl : 0 < s.size) (h39 : ¬ (s[0].toNat : Int) = 39) (n0 : Nat) (h0 : n0 ≤ s.size) (t0 : ∀ W, Calls Tryz.prog 145 #[.agg #[.int .i64 1, .int .i64 16, .func (.func 147) #[] #[], .func (.func 148) #[] #[]], .string s] W fun e w' => e = .returned (.int .i64 n0) ∧ Below W.heap.size W w') (m0 : ∀ W, Calls Tryz.prog 113 #[.agg #[.int .i64 1, .int .i64 16, .func (.func 147) #[] #[], .func (.func 148) #[] #[]], .string (s.extract 0 n0)] W fun e w' => e = .returned (.bool false) ∧ Below W.heap.size W w') (n1 : Nat) (h1 : n1 ≤ s.size) (t1 : ∀ W, Calls Tryz.prog 145 #[.agg #[.int .i64 2, .int .i64 19, .func (.func 171) #[] #[], .func (.func 171) #[] #[]], .string s] W fun e w' => e = .returned (.int .i64 n1) ∧ Below W.heap.size W w') (m1 : ∀ W, Calls Tryz.prog 113 #[.agg #[.int .i64 2, .int .i64 19, .func (.func 171) #[] #[], .func (.func 171) #[] #[]], .string (s.extract 0 n1)] W fun e w' => e = .returned (.bool false) ∧ Below W.heap.size W w') (n2 : Nat) (h2 : n2 ≤ s.size) (t2 : ∀ W, Calls Tryz.prog 145 #[.agg #[.int .i64 4, .int .i64 1, .func (.func 189) #[] #[], .func (.func 190) #[] #[]], .string s] W fun e w' => e = .returned (.int .i64 n2) ∧ Below W.heap.size W w') (m2 : ∀ W, Calls Tryz.prog 113 #[.agg #[.int .i64 4, .int .i64 1, .func (.func 189) #[] #[], .func (.func 190) #[] #[]], .string (s.extract 0 n2)] W fun e w' => e = .returned (.bool false) ∧ Below W.heap.size W w') :
    Calls Tryz.prog 110 #[.string s] w fun e w' => e = .returned (.tuple #[.agg #[.int .i64 0, .string ⟨#[]⟩], .int .i64 0]) ∧ Below w.heap.size w w' := by
  have HT0 := Lib.hid t0
  have HM0 := Lib.hid m0
  have b0 : 0 ≤ (n0 : Int) ∧ (n0 : Int) ≤ (s.size : Int) := by omega
  have HT1 := Lib.hid t1
  have HM1 := Lib.hid m1
  have b1 : 0 ≤ (n1 : Int) ∧ (n1 : Int) ≤ (s.size : Int) := by omega
  have HT2 := Lib.hid t2
  have HM2 := Lib.hid m2
  have b2 : 0 ≤ (n2 : Int) ∧ (n2 : Int) ≤ (s.size : Int) := by omega
  clear t0 m0 t1 m1 t2 m2
  go_enter Tryz.func110, Tryz.ntmps110
  go_wp2_with (go_at_call 144; refine (kinds_any _).mono ?_; rintro e w1 ⟨rfl, hb1⟩; have HW0 := Lib.hid ((W2.start w _).later hb1); clear hb1)
  go_loopw [15] (fun i wr => ∃ k : Nat, k ≤ 3 ∧ i = .int .i64 k ∧ W2 w wr) (fun i _ => 3 - (intOf i).toNat)
  case atStart => exact ⟨0, by omega, rfl, HW0.out⟩
  case round =>
    obtain ⟨k, hk, rfl, hW⟩ := hrel
    have HW := Lib.hid hW
    clear hW HW0
    obtain ⟨wo, hwo⟩ : ∃ wo : World, wo = wr := ⟨_, rfl⟩
    rw [← hwo] at HW ⊢
    clear hwo
    by_cases hk0 : k = 0
    · subst hk0
      have r0 := HW.out.r0
      have r1 := HW.out.r1
      have rf := HW.out.f
      have rl := HW.out.lt
      have ix := kix0
      go_wp2_with (go_at_call 145; refine (HT0.out _).mono ?_; rintro e w1 ⟨rfl, hb1⟩; have HW1 := Lib.hid (HW.out.later' rfl hb1); have q0 : w1.cell? ⟨wo.heap.size, 0, none⟩ = some (.int .i64 1) := (hb1.cell (p := ⟨wo.heap.size, 0, none⟩) (by simp)).trans (by simp [go_sem]); have q1 : w1.cell? ⟨wo.heap.size, 1, none⟩ = some (.int .i64 16) := (hb1.cell (p := ⟨wo.heap.size, 1, none⟩) (by simp)).trans (by simp [go_sem]); have q2 : w1.cell? ⟨wo.heap.size, 2, none⟩ = some (.func (.func 147) #[] #[]) := (hb1.cell (p := ⟨wo.heap.size, 2, none⟩) (by simp)).trans (by simp [go_sem]); have q3 : w1.cell? ⟨wo.heap.size, 3, none⟩ = some (.func (.func 148) #[] #[]) := (hb1.cell (p := ⟨wo.heap.size, 3, none⟩) (by simp)).trans (by simp [go_sem]); have hwz : wo.heap.size < w1.heap.size := (by have := hb1.size; simp at this; omega); clear hb1 r0 r1 rf rl)
      refine detL_begin [.val (.agg #[.int .i64 1, .int .i64 16, .func (.func 147) #[] #[], .func (.func 148) #[] #[]]), .val (.string s), .val (.int .i64 n0), .val (.string (s.extract 0 n0)), .val (.bool false)] 5 (by kernel_rfl) ?_
      refine detL_val (by kernel_rfl) (yields_of rfl fun w1 hb1 => ?_) ?_
      · have hc1 := bcellD hb1
        have d0 := (hc1 wo.heap.size 0 hwz).trans q0; have d1 := (hc1 wo.heap.size 1 hwz).trans q1; have d2 := (hc1 wo.heap.size 2 hwz).trans q2; have d3 := (hc1 wo.heap.size 3 hwz).trans q3
        clear hb1
        go_simp
        exact Det1_same
      simp only [Act.put, List.setIfInBounds_toArray, List.set_cons_zero, List.set_cons_succ]
      refine detL_val (by kernel_rfl) (yields_of rfl fun w1 hb1 => ?_) ?_
      · have hc1 := bcellD hb1
        clear hb1
        go_simp
        exact Det1_same
      simp only [Act.put, List.setIfInBounds_toArray, List.set_cons_zero, List.set_cons_succ]
      refine detL_val (by kernel_rfl) (yields_of rfl fun w1 hb1 => ?_) ?_
      · have hc1 := bcellD hb1
        clear hb1
        go_simp
        exact Det1_same
      simp only [Act.put, List.setIfInBounds_toArray, List.set_cons_zero, List.set_cons_succ]
      refine detL_val (by kernel_rfl) (yields_of rfl fun w1 hb1 => ?_) ?_
      · have hc1 := bcellD hb1
        clear hb1
        go_simp
        exact Det1_same
      simp only [Act.put, List.setIfInBounds_toArray, List.set_cons_zero, List.set_cons_succ]
      refine detL_val (by kernel_rfl) (yields_of rfl fun w1 hb1 => ?_) ?_
      · have hc1 := bcellD hb1
        clear hb1
        go_simp
        exact Det1_enter (HM0.out _)
      simp only [Act.put, List.setIfInBounds_toArray, List.set_cons_zero, List.set_cons_succ]
      refine detL_done (by kernel_rfl) fun w2 hw2 => ?_
      have HW2 := Lib.hid (HW1.out.later ((Below.refl _ _).drew.trans hw2.below))
      clear hw2 q0 q1 q2 q3
      go_wp2
      go_roundw
      case rel => exact ⟨0 + 1, by omega, by go_num, HW2.out⟩
      case measure => simp [intOf]; try omega
    · skip
      by_cases hk1 : k = 1
      · subst hk1
        have r0 := HW.out.r0
        have r1 := HW.out.r1
        have rf := HW.out.f
        have rl := HW.out.lt
        have ix := kix1
        go_wp2_with (go_at_call 145; refine (HT1.out _).mono ?_; rintro e w1 ⟨rfl, hb1⟩; have HW1 := Lib.hid (HW.out.later' rfl hb1); have q0 : w1.cell? ⟨wo.heap.size, 0, none⟩ = some (.int .i64 2) := (hb1.cell (p := ⟨wo.heap.size, 0, none⟩) (by simp)).trans (by simp [go_sem]); have q1 : w1.cell? ⟨wo.heap.size, 1, none⟩ = some (.int .i64 19) := (hb1.cell (p := ⟨wo.heap.size, 1, none⟩) (by simp)).trans (by simp [go_sem]); have q2 : w1.cell? ⟨wo.heap.size, 2, none⟩ = some (.func (.func 171) #[] #[]) := (hb1.cell (p := ⟨wo.heap.size, 2, none⟩) (by simp)).trans (by simp [go_sem]); have q3 : w1.cell? ⟨wo.heap.size, 3, none⟩ = some (.func (.func 171) #[] #[]) := (hb1.cell (p := ⟨wo.heap.size, 3, none⟩) (by simp)).trans (by simp [go_sem]); have hwz : wo.heap.size < w1.heap.size := (by have := hb1.size; simp at this; omega); clear hb1 r0 r1 rf rl)
        refine detL_begin [.val (.agg #[.int .i64 2, .int .i64 19, .func (.func 171) #[] #[], .func (.func 171) #[] #[]]), .val (.string s), .val (.int .i64 n1), .val (.string (s.extract 0 n1)), .val (.bool false)] 5 (by kernel_rfl) ?_
        refine detL_val (by kernel_rfl) (yields_of rfl fun w1 hb1 => ?_) ?_
        · have hc1 := bcellD hb1
          have d0 := (hc1 wo.heap.size 0 hwz).trans q0; have d1 := (hc1 wo.heap.size 1 hwz).trans q1; have d2 := (hc1 wo.heap.size 2 hwz).trans q2; have d3 := (hc1 wo.heap.size 3 hwz).trans q3
          clear hb1
          go_simp
          exact Det1_same
        simp only [Act.put, List.setIfInBounds_toArray, List.set_cons_zero, List.set_cons_succ]
        refine detL_val (by kernel_rfl) (yields_of rfl fun w1 hb1 => ?_) ?_
        · have hc1 := bcellD hb1
          clear hb1
          go_simp
          exact Det1_same
        simp only [Act.put, List.setIfInBounds_toArray, List.set_cons_zero, List.set_cons_succ]
        refine detL_val (by kernel_rfl) (yields_of rfl fun w1 hb1 => ?_) ?_
        · have hc1 := bcellD hb1
          clear hb1
          go_simp
          exact Det1_same
        simp only [Act.put, List.setIfInBounds_toArray, List.set_cons_zero, List.set_cons_succ]
        refine detL_val (by kernel_rfl) (yields_of rfl fun w1 hb1 => ?_) ?_
        · have hc1 := bcellD hb1
          clear hb1
          go_simp
          exact Det1_same
        simp only [Act.put, List.setIfInBounds_toArray, List.set_cons_zero, List.set_cons_succ]
        refine detL_val (by kernel_rfl) (yields_of rfl fun w1 hb1 => ?_) ?_
        · have hc1 := bcellD hb1
          clear hb1
          go_simp
          exact Det1_enter (HM1.out _)
        simp only [Act.put, List.setIfInBounds_toArray, List.set_cons_zero, List.set_cons_succ]
        refine detL_done (by kernel_rfl) fun w2 hw2 => ?_
        have HW2 := Lib.hid (HW1.out.later ((Below.refl _ _).drew.trans hw2.below))
        clear hw2 q0 q1 q2 q3
        go_wp2
        go_roundw
        case rel => exact ⟨1 + 1, by omega, by go_num, HW2.out⟩
        case measure => simp [intOf]; try omega
      · skip
        by_cases hk2 : k = 2
        · subst hk2
          have r0 := HW.out.r0
          have r1 := HW.out.r1
          have rf := HW.out.f
          have rl := HW.out.lt
          have ix := kix2
          go_wp2_with (go_at_call 145; refine (HT2.out _).mono ?_; rintro e w1 ⟨rfl, hb1⟩; have HW1 := Lib.hid (HW.out.later' rfl hb1); have q0 : w1.cell? ⟨wo.heap.size, 0, none⟩ = some (.int .i64 4) := (hb1.cell (p := ⟨wo.heap.size, 0, none⟩) (by simp)).trans (by simp [go_sem]); have q1 : w1.cell? ⟨wo.heap.size, 1, none⟩ = some (.int .i64 1) := (hb1.cell (p := ⟨wo.heap.size, 1, none⟩) (by simp)).trans (by simp [go_sem]); have q2 : w1.cell? ⟨wo.heap.size, 2, none⟩ = some (.func (.func 189) #[] #[]) := (hb1.cell (p := ⟨wo.heap.size, 2, none⟩) (by simp)).trans (by simp [go_sem]); have q3 : w1.cell? ⟨wo.heap.size, 3, none⟩ = some (.func (.func 190) #[] #[]) := (hb1.cell (p := ⟨wo.heap.size, 3, none⟩) (by simp)).trans (by simp [go_sem]); have hwz : wo.heap.size < w1.heap.size := (by have := hb1.size; simp at this; omega); clear hb1 r0 r1 rf rl)
          refine detL_begin [.val (.agg #[.int .i64 4, .int .i64 1, .func (.func 189) #[] #[], .func (.func 190) #[] #[]]), .val (.string s), .val (.int .i64 n2), .val (.string (s.extract 0 n2)), .val (.bool false)] 5 (by kernel_rfl) ?_
          refine detL_val (by kernel_rfl) (yields_of rfl fun w1 hb1 => ?_) ?_
          · have hc1 := bcellD hb1
            have d0 := (hc1 wo.heap.size 0 hwz).trans q0; have d1 := (hc1 wo.heap.size 1 hwz).trans q1; have d2 := (hc1 wo.heap.size 2 hwz).trans q2; have d3 := (hc1 wo.heap.size 3 hwz).trans q3
            clear hb1
            go_simp
            exact Det1_same
          simp only [Act.put, List.setIfInBounds_toArray, List.set_cons_zero, List.set_cons_succ]
          refine detL_val (by kernel_rfl) (yields_of rfl fun w1 hb1 => ?_) ?_
          · have hc1 := bcellD hb1
            clear hb1
            go_simp
            exact Det1_same
          simp only [Act.put, List.setIfInBounds_toArray, List.set_cons_zero, List.set_cons_succ]
          refine detL_val (by kernel_rfl) (yields_of rfl fun w1 hb1 => ?_) ?_
          · have hc1 := bcellD hb1
            clear hb1
            go_simp
            exact Det1_same
          simp only [Act.put, List.setIfInBounds_toArray, List.set_cons_zero, List.set_cons_succ]
          refine detL_val (by kernel_rfl) (yields_of rfl fun w1 hb1 => ?_) ?_
          · have hc1 := bcellD hb1
            clear hb1
            go_simp
            exact Det1_same
          simp only [Act.put, List.setIfInBounds_toArray, List.set_cons_zero, List.set_cons_succ]
          refine detL_val (by kernel_rfl) (yields_of rfl fun w1 hb1 => ?_) ?_
          · have hc1 := bcellD hb1
            clear hb1
            go_simp
            exact Det1_enter (HM2.out _)
          simp only [Act.put, List.setIfInBounds_toArray, List.set_cons_zero, List.set_cons_succ]
          refine detL_done (by kernel_rfl) fun w2 hw2 => ?_
          have HW2 := Lib.hid (HW1.out.later ((Below.refl _ _).drew.trans hw2.below))
          clear hw2 q0 q1 q2 q3
          go_wp2
          go_roundw
          case rel => exact ⟨2 + 1, by omega, by go_num, HW2.out⟩
          case measure => simp [intOf]; try omega
        · skip
          obtain rfl : k = 3 := by omega
          have r0 := HW.out.r0
          have r1 := HW.out.r1
          have rf := HW.out.f
          have rl := HW.out.lt
          go_wp2
          refine bodyPost_ret (v := .tuple #[.agg #[.int .i64 0, .string ⟨#[]⟩], .int .i64 0]) ?_ rfl ⟨rfl, ?_⟩
          · (simp [results, Tryz.results110, go_sem, *]; done)
          · have hb1 := HW.out.below
            repeat (first | (with_reducible exact Below.refl _ _) | ((with_reducible refine cSet1 ?_ ?_ _ _); (· ((try simp) <;> omega))) | (with_reducible refine Below.drew ?_) | ((with_reducible refine cAlloc ?_ ?_ _); (· ((try simp) <;> omega))) | ((with_reducible refine cOn (by assumption) ?_ ?_); (· ((try simp) <;> omega))))

theorem tw_tw (q : UInt8 → Bool) : ∀ r : List UInt8, (r.takeWhile q).takeWhile q = r.takeWhile q
  | [] => rfl
  | c :: r => by
    by_cases h : q c = true
    · rw [List.takeWhile_cons, if_pos h, List.takeWhile_cons, if_pos h, tw_tw q r]
    · rw [List.takeWhile_cons, if_neg h]; rfl
theorem tog_take {p q : UInt8 → Bool} {l : List UInt8} (h : 1 ≤ tog p q l) : tog p q (l.take (tog p q l)) = tog p q l ∧ tog p q l ≤ l.length := by
  cases l with
  | nil => simp [tog] at h
  | cons c r =>
    by_cases hp : p c
    · have e : tog p q (c :: r) = (r.takeWhile q).length + 1 := by rw [tog, if_pos hp]; omega
      have hl := (List.takeWhile_sublist q (l := r)).length_le
      rw [e, List.take_succ_cons, tog, if_pos hp]
      have e2 : r.take (r.takeWhile q).length = r.takeWhile q := by
        conv => lhs; arg 2; rw [← List.takeWhile_append_dropWhile (p := q) (l := r)]
        rw [List.take_append_of_le_length (Nat.le_refl _), List.take_of_length_le (Nat.le_refl _)]
      have e3 : (r.takeWhile q).takeWhile q = r.takeWhile q := tw_tw q r
      rw [e2, e3]
      simp
      omega
    · rw [tog, if_neg hp] at h
      omega
theorem tog_le (p q : UInt8 → Bool) (l : List UInt8) : tog p q l ≤ l.length := by
  by_cases h : 1 ≤ tog p q l
  · exact (tog_take h).2
  · omega
theorem kmay_take (p q : UInt8 → Bool) (most : Nat) (l : List UInt8) : kmay p q most (l.take (tog p q l)) = (decide (1 ≤ tog p q l) && decide (tog p q l ≤ most)) := by
  by_cases h : 1 ≤ tog p q l
  · obtain ⟨h1, h2⟩ := tog_take h
    have hl : (l.take (tog p q l)).length = tog p q l := by rw [List.length_take]; omega
    have he : (l.take (tog p q l)).isEmpty = false := by
      cases hx : l.take (tog p q l) with
      | nil => rw [hx] at hl; simp at hl; omega
      | cons _ _ => rfl
    unfold kmay
    rw [he, hl, h1, decide_eq_true h]
    simp
  · have h0 : tog p q l = 0 := by omega
    rw [h0]
    simp [kmay]
theorem sig_not {c : UInt8} (h : sigB c = true) : letB c = false ∧ digB c = false := by
  have h := List.contains_iff_mem.1 h
  simp only [sigL, List.mem_cons, List.mem_nil_iff, or_false] at h
  rcases h with rfl | rfl | rfl | rfl | rfl | rfl | rfl | rfl <;> decide
theorem let_not {c : UInt8} (h : letB c = true) : digB c = false := by
  unfold letB at h
  unfold digB
  simp at h
  simp
  omega
theorem tog_zero {p q : UInt8 → Bool} {c : UInt8} {r : List UInt8} (h : p c = false) : tog p q (c :: r) = 0 := by rw [tog, h]; rfl
theorem tog_on {p q : UInt8 → Bool} {c : UInt8} {r : List UInt8} (h : p c = true) : tog p q (c :: r) = 1 + (r.takeWhile q).length := by rw [tog, h]; rfl
theorem none_none (r : List UInt8) : r.takeWhile nonB = [] := by cases r <;> simp [nonB]
theorem bs_take (s : ByteArray) (n : Nat) : s.extract 0 n = ⟨(s.data.toList.take n).toArray⟩ := bs_eq (take_list s n)
set_option maxRecDepth 100000 in
theorem first_any (s : ByteArray) (w : World) (h1 : 1 ≤ s.size) (hs : s.size ≤ 100000) (hl : LibE w) :
    Calls Tryz.prog 110 #[.string s] w fun e w' => e = .returned (tkV (fst s.data.toList)) ∧ Below w.heap.size w w' := by
  by_cases h0 : s[0] = 39
  · cases hf : fst s.data.toList with
    | none =>
      have := first_quote s w h1 hs h0 hl 0 ⟨#[]⟩ 0 (by rw [hf]; rfl)
      rwa [hf] at this
    | some y =>
      obtain ⟨t, n⟩ := y
      have := first_quote s w h1 hs h0 hl t.k ⟨t.s.toArray⟩ n (by rw [hf]; rfl)
      rwa [hf] at this
  · have h39 : ¬ (s[0].toNat : Int) = 39 := fun h => h0 (UInt8.toNat_inj.1 (by show s[0].toNat = 39; omega))
    obtain ⟨r, e0, _⟩ := list_head h1
    have T0 := fun (W : World) => tog_any 1 16 _ _ letB parB cls_letter cls_inWord s W hs
    have T1 := fun (W : World) => tog_any 2 19 _ _ digB digB cls_digit cls_digit s W hs
    have T2 := fun (W : World) => tog_any 4 1 _ _ sigB nonB cls_isSign cls_none s W hs
    have L0 : tog letB parB s.data.toList ≤ s.size := by rw [Lib.size_eq]; exact tog_le _ _ _
    have L1 : tog digB digB s.data.toList ≤ s.size := by rw [Lib.size_eq]; exact tog_le _ _ _
    have L2 : tog sigB nonB s.data.toList ≤ s.size := by rw [Lib.size_eq]; exact tog_le _ _ _
    have M0 := fun (b : Bool) (h : (decide (1 ≤ tog letB parB s.data.toList) && decide (tog letB parB s.data.toList ≤ 16)) = b) (W : World) => (show Calls Tryz.prog 113 #[.agg #[.int .i64 1, .int .i64 16, .func (.func 147) #[] #[], .func (.func 148) #[] #[]], .string (s.extract 0 (tog letB parB s.data.toList))] W fun e w' => e = .returned (.bool b) ∧ Below W.heap.size W w' from by
      have := kmay_any 1 16 _ _ letB parB cls_letter cls_inWord (s.extract 0 (tog letB parB s.data.toList)) W (by rw [ByteArray.size_extract]; omega) (by omega)
      rwa [take_list, kmay_take, h] at this)
    have M1 := fun (b : Bool) (h : (decide (1 ≤ tog digB digB s.data.toList) && decide (tog digB digB s.data.toList ≤ 19)) = b) (W : World) => (show Calls Tryz.prog 113 #[.agg #[.int .i64 2, .int .i64 19, .func (.func 171) #[] #[], .func (.func 171) #[] #[]], .string (s.extract 0 (tog digB digB s.data.toList))] W fun e w' => e = .returned (.bool b) ∧ Below W.heap.size W w' from by
      have := kmay_any 2 19 _ _ digB digB cls_digit cls_digit (s.extract 0 (tog digB digB s.data.toList)) W (by rw [ByteArray.size_extract]; omega) (by omega)
      rwa [take_list, kmay_take, h] at this)
    have M2 := fun (b : Bool) (h : (decide (1 ≤ tog sigB nonB s.data.toList) && decide (tog sigB nonB s.data.toList ≤ 1)) = b) (W : World) => (show Calls Tryz.prog 113 #[.agg #[.int .i64 4, .int .i64 1, .func (.func 189) #[] #[], .func (.func 190) #[] #[]], .string (s.extract 0 (tog sigB nonB s.data.toList))] W fun e w' => e = .returned (.bool b) ∧ Below W.heap.size W w' from by
      have := kmay_any 4 1 _ _ sigB nonB cls_isSign cls_none (s.extract 0 (tog sigB nonB s.data.toList)) W (by rw [ByteArray.size_extract]; omega) (by omega)
      rwa [take_list, kmay_take, h] at this)
    have none3 : (decide (1 ≤ tog letB parB s.data.toList) && decide (tog letB parB s.data.toList ≤ 16)) = false → (decide (1 ≤ tog digB digB s.data.toList) && decide (tog digB digB s.data.toList ≤ 19)) = false → (decide (1 ≤ tog sigB nonB s.data.toList) && decide (tog sigB nonB s.data.toList ≤ 1)) = false → fst s.data.toList = none →
        Calls Tryz.prog 110 #[.string s] w fun e w' => e = .returned (tkV (fst s.data.toList)) ∧ Below w.heap.size w w' := fun a b c d => by
      rw [d]
      exact first_3 s w hs h1 h39 _ L0 T0 (M0 _ a) _ L1 T1 (M1 _ b) _ L2 T2 (M2 _ c)
    cases hlet : letB s[0] with
    | true =>
      have n1 : tog digB digB s.data.toList = 0 := by rw [e0]; exact tog_zero (let_not hlet)
      have hsig : sigB s[0] = false := by
        cases h : sigB s[0] with
        | false => rfl
        | true => rw [(sig_not h).1] at hlet; cases hlet
      have n2 : tog sigB nonB s.data.toList = 0 := by rw [e0]; exact tog_zero hsig
      have n0 : tog letB parB s.data.toList = 1 + (r.takeWhile parB).length := by rw [e0]; exact tog_on hlet
      by_cases hz : 1 + (r.takeWhile parB).length ≤ 16
      · have hf : fst s.data.toList = some (⟨1, s.data.toList.take (tog letB parB s.data.toList)⟩, tog letB parB s.data.toList) := by
          rw [n0, e0]
          simp [fst, h0, hlet, hz]
        rw [hf]
        have := first_0 s w hs h1 h39 _ L0 T0 (M0 true (by rw [n0, decide_eq_true hz]; simp))
        rwa [bs_take] at this
      · refine none3 (by rw [n0, decide_eq_false hz]; simp) (by rw [n1]; rfl) (by rw [n2]; rfl) ?_
        rw [e0]
        simp [fst, h0, hlet, hz]
    | false =>
      have n0 : tog letB parB s.data.toList = 0 := by rw [e0]; exact tog_zero hlet
      cases hdig : digB s[0] with
      | true =>
        have hsig : sigB s[0] = false := by
          cases h : sigB s[0] with
          | false => rfl
          | true => rw [(sig_not h).2] at hdig; cases hdig
        have n2 : tog sigB nonB s.data.toList = 0 := by rw [e0]; exact tog_zero hsig
        have n1 : tog digB digB s.data.toList = 1 + (r.takeWhile digB).length := by rw [e0]; exact tog_on hdig
        by_cases hz : 1 + (r.takeWhile digB).length ≤ 19
        · have hf : fst s.data.toList = some (⟨2, s.data.toList.take (tog digB digB s.data.toList)⟩, tog digB digB s.data.toList) := by
            rw [n1, e0]
            simp [fst, h0, hlet, hdig, hz]
          rw [hf]
          have := first_1 s w hs h1 h39 _ L0 T0 (M0 false (by rw [n0]; rfl)) _ L1 T1 (M1 true (by rw [n1, decide_eq_true hz]; simp))
          rwa [bs_take] at this
        · refine none3 (by rw [n0]; rfl) (by rw [n1, decide_eq_false hz]; simp) (by rw [n2]; rfl) ?_
          rw [e0]
          simp [fst, h0, hlet, hdig, hz]
      | false =>
        have n1 : tog digB digB s.data.toList = 0 := by rw [e0]; exact tog_zero hdig
        cases hsig : sigB s[0] with
        | true =>
          have n2 : tog sigB nonB s.data.toList = 1 := by rw [e0, tog_on hsig, none_none]; rfl
          have hf : fst s.data.toList = some (⟨4, s.data.toList.take (tog sigB nonB s.data.toList)⟩, tog sigB nonB s.data.toList) := by
            rw [n2, e0]
            simp [fst, h0, hlet, hdig, hsig]
          rw [hf]
          have := first_2 s w hs h1 h39 _ L0 T0 (M0 false (by rw [n0]; rfl)) _ L1 T1 (M1 false (by rw [n1]; rfl)) _ L2 T2 (M2 true (by rw [n2]; rfl))
          rwa [bs_take] at this
        | false =>
          have n2 : tog sigB nonB s.data.toList = 0 := by rw [e0]; exact tog_zero hsig
          refine none3 (by rw [n0]; rfl) (by rw [n1]; rfl) (by rw [n2]; rfl) ?_
          rw [e0]
          simp [fst, h0, hlet, hdig, hsig]
end Go.Proofs.YtchebhdndkaheaaGreatDoor

/- Rows of tokens in memory; Cut. -/
namespace Go.Proofs.YtchebhdndkaheaaGreatDoor
open Go.RowKit Go.Lib

theorem ascii_two : ∀ (j : Nat) (b : UInt8), (⟨#[32, 10]⟩ : ByteArray).data.toList[j]? = some b → b.toNat < 128 := by
  intro j b h
  match j with
  | 0 => simp at h; subst h; decide
  | 1 => simp at h; subst h; decide
  | j + 2 => simp at h
theorem blanks_any (s : ByteArray) (w : World) :
    Calls Tryz.prog 142 #[.string s, .string ⟨#[32, 10]⟩] w fun e w' => e = .returned (.string ⟨(skip s.data.toList).toArray⟩) ∧ Below w.heap.size w w' :=
  Any.strings_TrimLeft_laid Tryz.lays161 (by kernel_rfl) s ⟨#[32, 10]⟩ w (by decide) ascii_two
set_option maxRecDepth 100000 in
theorem behind_any (s : ByteArray) (w : World) :
    Calls Tryz.prog 109 #[.string s] w fun e w' => e = .returned (.string ⟨(skip s.data.toList).toArray⟩) ∧ Below w.heap.size w w' := by
  go_enter Tryz.func109, Tryz.ntmps109
  go_wp2_with (go_at_call 142; refine (blanks_any s _).mono ?_; rintro e w1 ⟨rfl, hb1⟩)
  go_ret
  exact ⟨rfl, hb1⟩
theorem clone_any (s : ByteArray) (w : World) (hs : s.size ≤ 100000) :
    Calls Tryz.prog 111 #[.string s] w fun e w' => e = .returned (.string s) ∧ Below w.heap.size w w' := by
  go_enter Tryz.func111, Tryz.ntmps111
  go_wp2_with (go_at_call 146; refine (Tryz.stringslite_Clone s _ (by omega)).mono ?_; rintro e w1 ⟨rfl, hb1⟩)
  go_ret
  exact ⟨rfl, hb1⟩

def Tk.cells (x : Tk) : List Value := [.int .i64 x.k, .string ⟨x.s.toArray⟩]
def tcells (l : List Tk) : List Value := l.flatMap Tk.cells
theorem tcells_snoc (l : List Tk) (x : Tk) : tcells (l ++ [x]) = tcells l ++ x.cells := by simp [tcells]
theorem infoTok : (Tryz.prog.info? 136).map (fun i => (i.zero, i.size, i.bytes)) = some (some (.agg #[.int .i64 0, .string ⟨#[]⟩]), 2, 24) := by kernel_rfl
/-- A row of tokens of the call's own. -/
def OwnT (W : World) (B : Nat) (v : Value) (l : List Tk) : Prop := W.ownsRow B 136 2 v l.length (tcells l)
theorem OwnT.below {W W' : World} {B C : Nat} {v : Value} {l : List Tk} (h : OwnT W B v l) (hb : Below C W W') (hC : W.heap.size ≤ C) : OwnT W' B v l :=
  World.ownsRow.kept (row := none) h ⟨hb.os, hb.tape, hb.output, hb.size, fun q hq _ => hb.block q (by omega)⟩ (by cases h : Value.ownBlock v with | none => exact .inl rfl | some _ => exact .inr (by simp))
theorem OwnT.alloc {W : World} {B : Nat} {v : Value} {l : List Tk} (h : OwnT W B v l) (o : Obj) : OwnT (W.alloc o) B v l := World.ownsRow.alloc h o
theorem OwnT.set {W : World} {B b o : Nat} {v u : Value} {l : List Tk} (h : OwnT W B v l) (hb : ∀ g, v.ownBlock = some g → g < b) : OwnT (W.setCell ⟨b, o, none⟩ u) B v l :=
  World.ownsRow.kept (row := some b) h ⟨rfl, rfl, rfl, by simp [World.setCell], fun q _ hq => Below.heap_setCell _ _ _ _ (fun e => hq (by simp [e]))⟩ (by
    cases hv : v.ownBlock with
    | none => exact .inl rfl
    | some g => refine .inr fun e => ?_; injection e with e; have := hb g hv; omega)
theorem OwnT.mono {W : World} {B B' : Nat} {v : Value} {l : List Tk} (h : OwnT W B v l) (hB : B' ≤ B) : OwnT W B' v l := by
  refine ⟨h.1, ?_⟩
  rcases h.2 with h' | ⟨g, cap, cur, e, hb, r⟩
  · exact .inl h'
  · exact .inr ⟨g, cap, cur, e, Nat.le_trans hB hb, r⟩
theorem OwnT.form {W : World} {B : Nat} {v : Value} {l : List Tk} (h : OwnT W B v l) : ∃ A cap, v = .slice A l.length cap := by
  rcases h.2 with ⟨rfl, h0⟩ | ⟨g, cap, cur, rfl, _⟩
  · exact ⟨none, 0, by rw [h0]⟩
  · exact ⟨_, _, rfl⟩
theorem skip_skip (l : List UInt8) : skip (skip l) = skip l := by
  unfold skip
  induction l with
  | nil => rfl
  | cons c l ih =>
    rw [List.dropWhile_cons]
    split
    · exact ih
    · rename_i h
      rw [List.dropWhile_cons, if_neg h]
theorem cut_skip (l : List UInt8) : cut (skip l) = cut l := by
  cases h : fst (skip l) with
  | none =>
    by_cases hn : skip l = []
    · rw [cut_end hn, cut_end (by rw [skip_skip]; exact hn)]
    · rw [cut_none h hn, cut_none (by rw [skip_skip]; exact h) (by rw [skip_skip]; exact hn)]
  | some y =>
    obtain ⟨t, n⟩ := y
    rw [cut_more h, cut_more (l := skip l) (by rw [skip_skip]; exact h), skip_skip]
/-- A text's tokens, if there are no more than may be. -/
def cutR (l : List UInt8) : Option (List Tk) := match cut l with
  | none => none
  | some ts => if ts.length ≤ 400 then some ts else none
theorem cutR_none {l : List UInt8} (h : cut l = none) : cutR l = none := by unfold cutR; rw [h]
theorem cutR_some {l : List UInt8} {ts : List Tk} (h : cut l = some ts) (hl : ts.length ≤ 400) : cutR l = some ts := by unfold cutR; rw [h]; simp [hl]
theorem cutR_many {l : List UInt8} {m : List Tk} {o : Option (List Tk)} {d : List Tk} (h : cut l = (o.map (m ++ ·)).map (d ++ ·)) (hl : 400 < d.length + m.length) : cutR l = none := by
  unfold cutR
  rw [h]
  cases o with
  | none => rfl
  | some x =>
    show (if (d ++ (m ++ x)).length ≤ 400 then _ else _) = _
    rw [if_neg (by simp; omega)]
def CutR (l : List UInt8) (B : Nat) (e : Ending) (W : World) : Prop :=
  (∃ v ts, cutR l = some ts ∧ e = .returned (.tuple #[v, .int .i64 0]) ∧ OwnT W B v ts) ∨ (cutR l = none ∧ e = .returned (.tuple #[.slice none 0 0, .int .i64 2]))
theorem map_map_one {o : Option (List Tk)} {d : List Tk} {t : Tk} : (o.map (t :: ·)).map (d ++ ·) = o.map ((d ++ [t]) ++ ·) := by cases o <;> simp

set_option maxRecDepth 100000 in
set_option maxHeartbeats 3200000 in
theorem cut_any (s : ByteArray) (w : World) (hs : s.size ≤ 100000) (hl : LibE w) :
    Calls Tryz.prog 83 #[.string s] w fun e w' => CutR s.data.toList w.heap.size e w' ∧ Below w.heap.size w w' := by
  obtain ⟨i0, hi, hz0, hz1, hz2⟩ := info_parts infoTok
  have HL := Lib.hid hl
  clear hl
  obtain ⟨S0, hS0⟩ : ∃ S : ByteArray, S = ⟨(skip s.data.toList).toArray⟩ := ⟨_, rfl⟩
  have HB0 := Lib.hid (fun (W : World) => hS0 ▸ behind_any s W)
  have hs0 : S0.size ≤ 100000 := by
    have h1 := skip_len s.data.toList
    rw [← Lib.size_eq] at h1
    rw [hS0]
    simp [ByteArray.size]
    omega
  have HS0 : Hid (skip S0.data.toList = S0.data.toList ∧ cut s.data.toList = (cut S0.data.toList).map (([] : List Tk) ++ ·)) := by
    rw [hS0]
    refine ⟨skip_skip _, ?_⟩
    show _ = Option.map _ (cut (skip s.data.toList))
    rw [cut_skip]
    cases cut s.data.toList <;> rfl
  clear hS0
  go_enter Tryz.func83, Tryz.ntmps83
  go_wp2_with (go_at_call 109; refine (HB0.out _).mono ?_; rintro e w1 ⟨rfl, hb1⟩; have HB1 := Lib.hid hb1; clear hb1)
  go_loopw [0, 4, 5, 6] (fun sv v _ _ wr => ∃ (S : ByteArray) (d : List Tk), sv = .string S ∧ S.size ≤ 100000 ∧ d.length ≤ 400 ∧ OwnT wr w.heap.size v d ∧ Below w.heap.size w wr ∧ Hid (skip S.data.toList = S.data.toList ∧ cut s.data.toList = (cut S.data.toList).map (d ++ ·))) (fun sv _ _ _ _ => match sv with | .string S => S.size | _ => 0)
  case atStart => exact ⟨S0, [], rfl, hs0, by simp, World.ownsRow_nil _ _ _ _, HB1.out, HS0.out⟩
  case round =>
    obtain ⟨S, d, rfl, hS, hd, hown, hb, HC⟩ := hrel
    have HO := Lib.hid hown
    obtain ⟨A, cap, rfl⟩ := hown.form
    clear hown
    have hbs := hb.size
    by_cases h0 : 0 < S.size
    · have hne := nonempty_of' h0
      have hne2 : ¬ S.toList = [] := fun h => by rw [h] at hne; cases hne
      have hne3 : S.data.toList ≠ [] := fun h => hne2 (by rw [toList_data]; exact h)
      cases hf : fst S.data.toList with
      | none =>
        have HR := Lib.hid (show cutR s.data.toList = none from cutR_none (by rw [HC.out.2, cut_none (by rw [HC.out.1]; exact hf) (by rw [HC.out.1]; exact hne3)]; rfl))
        have HF := Lib.hid (fun (W : World) (h : LibE W) => (show Calls Tryz.prog 110 #[.string S] W fun e w' => e = .returned (.tuple #[.agg #[.int .i64 0, .string ⟨#[]⟩], .int .i64 0]) ∧ Below W.heap.size W w' from by
          have := first_any S W h0 hS h
          rwa [hf] at this))
        clear hf hne3
        go_wp2_with (go_at_call 110; refine (HF.out _ (HL.out.keep hb (Nat.le_refl _))).mono ?_; rintro e w2 ⟨rfl, hb2⟩)
        go_ret2
        exact ⟨.inr ⟨HR.out, rfl⟩, (hb.trans (hb2.mono hbs)).alloc (by have := hb2.size; omega) _⟩
      | some y =>
        obtain ⟨t, n⟩ := y
        obtain ⟨hn1, hn2⟩ := fst_pos hf
        rw [← Lib.size_eq] at hn2
        have HM := Lib.hid (show cut s.data.toList = ((cut (S.data.toList.drop n)).map (t :: ·)).map (d ++ ·) by
          rw [HC.out.2, cut_more (l := S.data.toList) (by rw [HC.out.1]; exact hf), HC.out.1])
        have hts : (⟨t.s.toArray⟩ : ByteArray).size ≤ 100000 := fst_size hf (by rw [← Lib.size_eq]; exact hS)
        obtain ⟨ts, hts'⟩ : ∃ ts : ByteArray, ts = ⟨t.s.toArray⟩ := ⟨_, rfl⟩
        rw [← hts'] at hts
        have HF := Lib.hid (fun (W : World) (h : LibE W) => (show Calls Tryz.prog 110 #[.string S] W fun e w' => e = .returned (.tuple #[.agg #[.int .i64 t.k, .string ts], .int .i64 n]) ∧ Below W.heap.size W w' from by
          have := first_any S W h0 hS h
          rw [hf] at this
          rw [hts']
          exact this))
        have HTS := Lib.hid hts'
        have hnz : ((n : Int) == 0) = false := beq_eq_false_iff_ne.2 (by omega)
        have hnz2 : ¬ (n : Int) = 0 := by omega
        have hnle : 0 ≤ (n : Int) ∧ (n : Int) ≤ (S.size : Int) := by omega
        clear hf hne3 hts'
        by_cases h400 : d.length = 400
        · have HR := Lib.hid (show cutR s.data.toList = none from by
            have h := HM.out
            exact cutR_many (m := [t]) (o := cut (S.data.toList.drop n)) (d := d) h (by simp; omega))
          have h4 : (d.length : Int) = 400 := by omega
          go_wp2_with (go_at_call 110; refine (HF.out _ (HL.out.keep hb (Nat.le_refl _))).mono ?_; rintro e w2 ⟨rfl, hb2⟩)
          go_ret2
          exact ⟨.inr ⟨HR.out, rfl⟩, (hb.trans (hb2.mono hbs)).alloc (by have := hb2.size; omega) _⟩
        · have h4 : ¬ (d.length : Int) = 400 := by omega
          obtain ⟨S2, hS2⟩ : ∃ S2 : ByteArray, S2 = ⟨(skip (S.data.toList.drop n)).toArray⟩ := ⟨_, rfl⟩
          have HBB := Lib.hid (fun (W : World) => (show Calls Tryz.prog 109 #[.string (S.extract n S.size)] W fun e w' => e = .returned (.string S2) ∧ Below W.heap.size W w' from by
            have := behind_any (S.extract n S.size) W
            rw [rest_list] at this
            rw [hS2]; exact this))
          have hs2 : S2.size < S.size := by
            have h1 := skip_len (S.data.toList.drop n)
            rw [List.length_drop, ← Lib.size_eq] at h1
            rw [hS2]
            simp only [ByteArray.size, List.size_toArray] at h1 ⊢
            have : S.data.size = S.size := rfl
            omega
          have HN : Hid (skip S2.data.toList = S2.data.toList ∧ cut s.data.toList = (cut S2.data.toList).map ((d ++ [t]) ++ ·)) := by
            rw [hS2]
            refine ⟨skip_skip _, ?_⟩
            show _ = Option.map _ (cut (skip (S.data.toList.drop n)))
            rw [cut_skip, HM.out, map_map_one]
          clear hS2
          go_wp2_with (first
            | (go_at_call 110; refine (HF.out _ (HL.out.keep hb (Nat.le_refl _))).mono ?_; rintro e w2 ⟨rfl, hb2⟩; have HO2 := Lib.hid (HO.out.below hb2 (Nat.le_refl _)); have HB2 := Lib.hid (hb.trans (hb2.mono hbs)); have hs21 := hb2.size; clear hb2)
            | (go_at_call 111; refine (clone_any _ _ hts).mono ?_; rintro e w3 ⟨rfl, hb3⟩; have t0 : w3.cell? ⟨w2.heap.size, 0, none⟩ = some (.int .i64 t.k) := (hb3.cell (p := ⟨w2.heap.size, 0, none⟩) (by simp)).trans (by simp [go_sem]); have t1 : w3.cell? ⟨w2.heap.size, 1, none⟩ = some (.string ts) := (hb3.cell (p := ⟨w2.heap.size, 1, none⟩) (by simp)).trans (by simp [go_sem]); have tf : ∀ o, w3.frozen? ⟨w2.heap.size, o, none⟩ = false := (fun o => (hb3.frozen (p := ⟨w2.heap.size, o, none⟩) (by simp)).trans (by simp [go_sem])); have HO3 := Lib.hid (((HO2.out.alloc _).below hb3 (Nat.le_refl _)).set (b := w2.heap.size) (o := 1) (u := .string ts) (fun g hg => (HO2.out.lt g hg).2)); have hs32 := hb3.size; (try simp at hs32); have HB3 := Lib.hid (cSet1 (show w.heap.size ≤ w2.heap.size by omega) ((HB2.out.alloc (by omega) (.cells #[.int .i64 t.k, .string ts] 136)).trans (hb3.mono (by simp; omega))) 1 (.string ts)); clear hb3)
            | (go_at_call 109; refine (HBB.out _).mono ?_; rintro e w5 ⟨rfl, hb5⟩)
            | (at_builtin; refine wpList_append_own _ rfl _ _ 113 rfl w.heap.size 136 i0 _ 2 24 Tryz.underlying113 hi hz0 hz1 hz2 rfl (by decide) _ _ _ rfl (World.ownsRow.alloc HO3.out _) ⟨w3.heap.size, 0, none⟩ 1 1 [.int .i64 t.k, .string ts] rfl rfl ?c1 ?c2 ?c3 ?c4 ?c5 ?_))
          case c1 =>
            intro j u h
            match j with
            | 0 => simp at h; subst h; simp [Addr.add, go_sem]
            | 1 => simp at h; subst h; simp [Addr.add, go_sem]
            | j + 2 => simp at h
          case c2 => intro u hu; simp at hu; rcases hu with rfl | rfl <;> rfl
          case c3 => unfold maxLen; omega
          case c4 => omega
          case c5 => simp; omega
          intro v' w4 hown' hgrow _
          have HO4 : Hid (OwnT w4 w.heap.size v' (d ++ [t])) := by
            show w4.ownsRow _ _ 2 v' (d ++ [t]).length _
            rw [tcells_snoc, List.length_append]
            have e : t.cells = [.int .i64 t.k, .string ts] := by rw [HTS.out]; rfl
            rw [e]
            exact hown'
          have hz := hgrow.size
          have HB4 : Hid (Below w.heap.size w w4) := (HB3.out.alloc (by simp; omega) _).grown hgrow (by simp; omega) fun g hg => (HO3.out.lt g hg).1
          clear hown' hgrow t0 t1 tf
          simp at hz
          go_wp2_with (go_at_call 109; refine (HBB.out _).mono ?_; rintro e w5 ⟨rfl, hb5⟩)
          go_roundw
          case rel => exact ⟨S2, d ++ [t], rfl, by omega, by simp; omega, HO4.out.below hb5 (Nat.le_refl _), HB4.out.trans (hb5.mono HB4.out.size), HN.out⟩
          case measure => exact hs2
    · have hemp : S.data.toList = [] := List.length_eq_zero_iff.1 (by rw [← Lib.size_eq]; omega)
      have hne : S.toList = [] := by rw [toList_data]; exact hemp
      have hne2 : S.toList.isEmpty = true := by rw [hne]; rfl
      have HR := Lib.hid (show cutR s.data.toList = some d from cutR_some (by
        rw [HC.out.2, hemp, cut_end rfl]
        simp) hd)
      clear hemp
      go_wp2
      go_ret2
      exact ⟨.inl ⟨_, _, HR.out, rfl, HO.out⟩, hb⟩
end Go.Proofs.YtchebhdndkaheaaGreatDoor

/- Rows of tokens: Same; the law's few; the chapter's examples (awake). -/
namespace Go.Proofs.YtchebhdndkaheaaGreatDoor
open Go.RowKit Go.Lib

theorem add_blk (a : Addr) (n : Nat) : (a.add n).block = a.block := by unfold Addr.add; split <;> rfl
/-- Token x lies at this address. -/
structure TkAt (W : World) (a : Addr) (x : Tk) : Prop where
  k : W.cell? a = some (.int .i64 x.k)
  s : W.cell? ⟨a.block, a.off + 1, none⟩ = some (.string ⟨x.s.toArray⟩)
theorem TkAt.keep {W W' : World} {a : Addr} {x : Tk} {B : Nat} (h : TkAt W a x) (hb : Below B W W') (hB : a.block < B) : TkAt W' a x :=
  ⟨(hb.cell hB).trans h.k, (hb.cell (p := ⟨a.block, _, none⟩) hB).trans h.s⟩
/-- The slice of n elements at A reads as these tokens; it lies below block B. -/
def Toks (W : World) (B : Nat) (A : Option Addr) (n : Nat) (l : List Tk) : Prop :=
  l.length = n ∧ ∀ j (h : j < l.length), ∃ a, A = some a ∧ TkAt W (a.add (j * 2)) l[j] ∧ a.block < B
theorem Toks.keep {W W' : World} {B : Nat} {A : Option Addr} {n : Nat} {l : List Tk} (h : Toks W B A n l) (hb : Below B W W') : Toks W' B A n l :=
  ⟨h.1, fun j hj => by
    obtain ⟨a, e, h1, h2⟩ := h.2 j hj
    exact ⟨a, e, h1.keep hb (by rw [add_blk]; exact h2), h2⟩⟩
theorem Toks.more {W : World} {B B' : Nat} {A : Option Addr} {n : Nat} {l : List Tk} (h : Toks W B A n l) (hB : B ≤ B') : Toks W B' A n l :=
  ⟨h.1, fun j hj => by
    obtain ⟨a, e, h1, h2⟩ := h.2 j hj
    exact ⟨a, e, h1, by omega⟩⟩
theorem Toks.later {W W' : World} {A : Option Addr} {n : Nat} {l : List Tk} (h : Toks W W.heap.size A n l) (hb : Below W.heap.size W W') : Toks W' W'.heap.size A n l := (h.keep hb).more hb.size
theorem Toks.at_ {W : World} {B : Nat} {A : Option Addr} {n : Nat} {l : List Tk} (h : Toks W B A n l) {k : Nat} (hk : k < n) : ∃ a x, A = some a ∧ l[k]? = some x ∧ TkAt W (a.add (k * 2)) x ∧ a.block < B := by
  obtain ⟨h1, h2⟩ := h
  obtain ⟨a, e, h3, h4⟩ := h2 k (by omega)
  exact ⟨a, l[k]'(by omega), e, List.getElem?_eq_getElem _, h3, h4⟩
theorem cut_ok (s : ByteArray) (w : World) (hs : s.size ≤ 100000) (hl : LibE w) (ts : List Tk) (h : cutR s.data.toList = some ts) :
    Calls Tryz.prog 83 #[.string s] w fun e w' => ∃ v, e = .returned (.tuple #[v, .int .i64 0]) ∧ Hid (OwnT w' w.heap.size v ts) ∧ Below w.heap.size w w' :=
  (cut_any s w hs hl).mono fun e w' ⟨hc, hb⟩ => by
    rcases hc with ⟨v, ts', h1, h2, h3⟩ | ⟨h1, _⟩
    · rw [h] at h1
      obtain rfl := Option.some.inj h1
      exact ⟨v, h2, h3, hb⟩
    · rw [h] at h1; cases h1
end Go.Proofs.YtchebhdndkaheaaGreatDoor

/- The chapter's examples (awake). -/
namespace Go.Proofs.YtchebhdndkaheaaGreatDoor
open Go.RowKit Go.Lib

theorem Toks.alloc {W : World} {A : Option Addr} {n : Nat} {l : List Tk} (h : Toks W W.heap.size A n l) (o : Obj) : Toks (W.alloc o) (W.alloc o).heap.size A n l := h.later ((Below.refl _ _).alloc (Nat.le_refl _) o)
end Go.Proofs.YtchebhdndkaheaaGreatDoor

/- May a token be. -/
namespace Go.Proofs.YtchebhdndkaheaaGreatDoor
open Go.RowKit Go.Lib

/-- May a token be? -/
def tmayB (k : Int) (s : ByteArray) : Bool :=
  if k = 3 then mayB 2 0 s else if k = 1 then kmay letB parB 16 s.data.toList else if k = 2 then kmay digB digB 19 s.data.toList else if k = 4 then kmay sigB nonB 1 s.data.toList else false
/-- The token's box, while the kinds are gone through. -/
structure TB (w : World) (k : Int) (s : ByteArray) (W : World) : Prop where
  below : Below w.heap.size w W
  c0 : W.cell? ⟨w.heap.size, 0, none⟩ = some (.int .i64 k)
  c1 : W.cell? ⟨w.heap.size, 1, none⟩ = some (.string s)
theorem TB.lt {w W : World} {k : Int} {s : ByteArray} (h : TB w k s W) : w.heap.size < W.heap.size := World.block_lt_of_cell? _ _ h.c0
theorem TB.later {w W W' : World} {k : Int} {s : ByteArray} (h : TB w k s W) (hb : Below W.heap.size W W') : TB w k s W' :=
  ⟨h.below.trans (hb.mono h.below.size), (hb.cell (p := ⟨_, _, none⟩) h.lt).trans h.c0, (hb.cell (p := ⟨_, _, none⟩) h.lt).trans h.c1⟩
theorem TB.alloc {w W : World} {k : Int} {s : ByteArray} (h : TB w k s W) (o : Obj) : TB w k s (W.alloc o) := h.later ((Below.refl _ _).alloc (Nat.le_refl _) o)
theorem TB.start (w : World) (k : Int) (s : ByteArray) (t : TypeId) : TB w k s (w.alloc (.cells #[.int .i64 k, .string s] t)) :=
  ⟨(Below.refl _ _).alloc (Nat.le_refl _) _, by simp [go_sem], by simp [go_sem]⟩

end Go.Proofs.YtchebhdndkaheaaGreatDoor

/- The parser: its state, the token at hand. -/
namespace Go.Proofs.YtchebhdndkaheaaGreatDoor
open Go.RowKit Go.Lib

structure Tn where
  k : Int
  s : ByteArray
structure TnAt (W : World) (a : Addr) (x : Tn) : Prop where
  c0 : W.cell? a = some (.int .i64 x.k)
  c1 : W.cell? ⟨a.block, a.off + 1, none⟩ = some (.string x.s)
theorem TnAt.lt {W : World} {a : Addr} {x : Tn} (h : TnAt W a x) : a.block < W.heap.size := World.block_lt_of_cell? W _ h.c0
theorem TnAt.keep {W W' : World} {a : Addr} {x : Tn} (h : TnAt W a x) (hb : W'.heap[a.block]? = W.heap[a.block]?) : TnAt W' a x :=
  ⟨(World.cell?_of_block (w := W) (a := a) hb).trans h.c0, (World.cell?_of_block (w := W) (a := ⟨a.block, _, none⟩) hb).trans h.c1⟩

section
variable {W W' : World} {g : Nat} {A : Option Addr} {c : Nat} {l : List Tn} {at' ask : Nat} {failed : Bool}
end

end Go.Proofs.YtchebhdndkaheaaGreatDoor

/- The parser: what it takes; where it fails; what is checked. -/
namespace Go.Proofs.YtchebhdndkaheaaGreatDoor
open Go.RowKit Go.Lib

theorem cSet6 {a b : World} {n k : Nat} (hn : n ≤ k) (h : Below n a b) (x y z u v r : Value) : Below n a ((((((b.setCell ⟨k, 0, none⟩ x).setCell ⟨k, 1, none⟩ y).setCell ⟨k, 2, none⟩ z).setCell ⟨k, 3, none⟩ u).setCell ⟨k, 4, none⟩ v).setCell ⟨k, 5, none⟩ r) :=
  (((((h.setCell hn x).setCell hn y).setCell hn z).setCell hn u).setCell hn v).setCell hn r
def set6 (W : World) (b : Nat) (x y z u v r : Value) : World := (((((W.setCell ⟨b, 0, none⟩ x).setCell ⟨b, 1, none⟩ y).setCell ⟨b, 2, none⟩ z).setCell ⟨b, 3, none⟩ u).setCell ⟨b, 4, none⟩ v).setCell ⟨b, 5, none⟩ r
theorem set6_block (W : World) (b : Nat) (x y z u v r : Value) {q : Nat} (h : q ≠ b) : (set6 W b x y z u v r).heap[q]? = W.heap[q]? := by
  unfold set6
  iterate 6 rw [Below.heap_setCell _ _ _ _ (by exact h)]
theorem set6_size (W : World) (b : Nat) (x y z u v r : Value) : (set6 W b x y z u v r).heap.size = W.heap.size := by simp [set6, World.setCell]
theorem Tr.set6 {W : World} {P Q : Nat → Prop} {n : Nat} {t : Ex} {y' : Value} (h : Tr W P n t y') {b : Nat} (hb : ¬ P b) (hq : ∀ b, P b → b < W.heap.size → Q b) (x y z u v r : Value) : Tr (set6 W b x y z u v r) Q n t y' :=
  h.keep (fun q hp _ => set6_block _ _ _ _ _ _ _ _ (fun e => hb (e ▸ hp))) hq

/-- No expression. -/
def zT : Ex := .mk ⟨#[]⟩ ⟨0, 0, ⟨#[]⟩⟩ ⟨#[]⟩ []
theorem zT_tr (W : World) (P : Nat → Prop) (n : Nat) : Tr W P n zT (.slice none 0 0) := by
  refine ⟨by decide, ?_⟩
  cases n with
  | zero => exact ⟨rfl, none, 0, rfl⟩
  | succ n => exact ⟨none, 0, rfl, by simp [zT, Ex.l, maxLen], fun j hj => absurd hj (by simp [zT, Ex.l])⟩
/-- A slice reads as these words. -/
def Wds (W : World) (b : Nat) (ws : List ByteArray) : Prop := ∀ j (h : j < ws.length), W.cell? ⟨b, j, none⟩ = some (.string ws[j])
theorem Wds.below {W W' : World} {b : Nat} {ws : List ByteArray} (h : Wds W b ws) (hb : Below W.heap.size W W') : Wds W' b ws := fun j hj => (hb.cell (p := ⟨b, j, none⟩) (World.block_lt_of_cell? W _ (h j hj))).trans (h j hj)

end Go.Proofs.YtchebhdndkaheaaGreatDoor

/- The parser: the part that must follow; parts in a chain. -/
namespace Go.Proofs.YtchebhdndkaheaaGreatDoor
open Go.RowKit Go.Lib

theorem alloc_at {W : World} {n : Nat} (h : W.heap.size = n) (o : Obj) : (W.alloc o).heap[n]? = some o := by
  subst h
  show (W.heap.push o)[W.heap.size]? = _
  simp
end Go.Proofs.YtchebhdndkaheaaGreatDoor

/- The parser: where nothing goes on. -/
namespace Go.Proofs.YtchebhdndkaheaaGreatDoor
open Go.RowKit Go.Lib

end Go.Proofs.YtchebhdndkaheaaGreatDoor

/- The parser: a comparison. -/
namespace Go.Proofs.YtchebhdndkaheaaGreatDoor
open Go.RowKit Go.Lib

end Go.Proofs.YtchebhdndkaheaaGreatDoor

/- The parser: a word, a number, an atom that does not stand in brackets. -/
namespace Go.Proofs.YtchebhdndkaheaaGreatDoor
open Go.RowKit Go.Lib

def litT (x : Vl) : Ex := .mk ⟨#[108, 105, 116]⟩ x ⟨#[]⟩ []
def colT (s : ByteArray) : Ex := .mk ⟨#[99, 111, 108]⟩ ⟨0, 0, ⟨#[]⟩⟩ s []
theorem leaf_tr (W : World) (P : Nat → Prop) (n : Nat) (op : ByteArray) (x : Vl) (s : ByteArray) (hs : s.size ≤ 100000) : Tr W P n (.mk op x s []) (.slice none 0 0) := by
  refine ⟨hs, ?_⟩
  cases n with
  | zero => exact ⟨rfl, none, 0, rfl⟩
  | succ n => exact ⟨none, 0, rfl, by simp [Ex.l, maxLen], fun j hj => absurd hj (by simp [Ex.l])⟩

end Go.Proofs.YtchebhdndkaheaaGreatDoor

/- The parser: an atom that does not stand in brackets. -/
namespace Go.Proofs.YtchebhdndkaheaaGreatDoor
open Go.RowKit Go.Lib

end Go.Proofs.YtchebhdndkaheaaGreatDoor

/- The parser: an atom. -/
namespace Go.Proofs.YtchebhdndkaheaaGreatDoor
open Go.RowKit Go.Lib

end Go.Proofs.YtchebhdndkaheaaGreatDoor

/- The parser: a sum, an and, an or, a not. -/
namespace Go.Proofs.YtchebhdndkaheaaGreatDoor
open Go.RowKit Go.Lib

end Go.Proofs.YtchebhdndkaheaaGreatDoor

/- What is written is cut as it was: plain facts, no walk. -/
namespace Go.Proofs.YtchebhdndkaheaaGreatDoor
open Go.RowKit Go.Lib

def Tk.may (t : Tk) : Bool := tmayB t.k ⟨t.s.toArray⟩
/-- What may stand behind a token: nothing, or a blank. -/
def After (r : List UInt8) : Prop := ∀ c, r.head? = some c → blankB c = true
theorem blank_is {c : UInt8} (h : blankB c = true) : c = 32 ∨ c = 10 := by
  have := List.contains_iff_mem.1 h
  simpa using this
theorem After.nil : After [] := fun c h => by cases h
theorem After.cons {c : UInt8} (h : blankB c = true) (r : List UInt8) : After (c :: r) := fun d hd => by simp at hd; rw [← hd]; exact h
theorem After.q {r : List UInt8} (h : After r) : r.head? ≠ some 39 := fun e => by rcases blank_is (h 39 e) with h | h <;> exact absurd h (by decide)
theorem After.no {r : List UInt8} (h : After r) (q : UInt8 → Bool) (h1 : q 32 = false) (h2 : q 10 = false) : r.takeWhile q = [] := by
  cases r with
  | nil => rfl
  | cons c r =>
    rw [List.takeWhile_cons]
    rcases blank_is (h c rfl) with e | e
    · rw [e, h1]; rfl
    · rw [e, h2]; rfl
end Go.Proofs.YtchebhdndkaheaaGreatDoor

/- Join: tokens as they are written. -/
namespace Go.Proofs.YtchebhdndkaheaaGreatDoor
open Go.RowKit Go.Lib

theorem Toks.none (W : World) (B : Nat) : Toks W B none 0 [] := ⟨rfl, fun j hj => absurd hj (by simp)⟩
end Go.Proofs.YtchebhdndkaheaaGreatDoor

/- Writing into a builder that the call has made: a string, an octet. -/
namespace Go.Proofs.YtchebhdndkaheaaGreatDoor
open Go.RowKit Go.Lib

theorem infoByte : (Tryz.prog.info? 5).map (fun i => (i.zero, i.size, i.bytes)) = some (some (.int .u8 0), 1, 1) := by kernel_rfl
theorem byteCells_app (l r : List UInt8) : byteCells (l ++ r) = byteCells l ++ byteCells r := by simp [byteCells]


/-- A builder that holds these octets. -/
def Bld (W : World) (B b : Nat) (l : List UInt8) : Prop := Lib.IsBuilder 164 5 B b (byteCells l) W
theorem Bld.keep {W W' : World} {B b C : Nat} {l : List UInt8} (h : Bld W B b l) (hb : Below C W W') (hC : W.heap.size ≤ C) : Bld W' B b l := by
  have key : ∀ p, Lib.BuilderAt 164 5 B b p (byteCells l) W → Lib.BuilderAt 164 5 B b p (byteCells l) W' := by
    rintro p ⟨h1, v, h2, h3, h4⟩
    have hlt : b < W.heap.size := (Array.getElem?_eq_some_iff.1 h2).1
    refine ⟨h1, v, (hb.block b (by omega)).trans h2, h3.kept (row := none) ⟨hb.os, hb.tape, hb.output, hb.size, fun q hq _ => hb.block q (by omega)⟩ ?_, h4⟩
    cases h : Value.ownBlock v with
    | none => exact .inl rfl
    | some _ => exact .inr (by simp)
  exact Or.imp (key _) (key _) h
theorem Bld.written {W' : World} {B b : Nat} {l r : List UInt8} {p : Value} (h : Lib.BuilderAt 164 5 B b p (byteCells l ++ Lib.strCells ⟨r.toArray⟩) W') (hp : p = .pointer (some ⟨b, 0, none⟩)) : Bld W' B b (l ++ r) := by
  subst hp
  unfold Bld
  rw [byteCells_app]
  exact .inr h
theorem Bld.fresh {W : World} {B b : Nat} (hb : b = W.heap.size) (hB : B ≤ b) : Bld (W.alloc (.cells #[.pointer none, .slice none 0 0] 164)) B b [] := by
  subst hb
  exact .inl ⟨hB, _, heap_alloc_new W _, World.ownsRow_nil _ _ _ _, by simp [Value.ownBlock]⟩
end Go.Proofs.YtchebhdndkaheaaGreatDoor

/- Contracts of the library that this program comes to, laid at its own numbers by the kit's own programs (lay-shelf.mjs, lay-plain.mjs). -/
namespace Go.Proofs
open Go.Shelf
end Go.Proofs

/- strings.ToLower at the two words that are wanted. -/
namespace Go.Proofs.YtchebhdndkaheaaGreatDoor
open Go.RowKit Go.Lib

end Go.Proofs.YtchebhdndkaheaaGreatDoor

/- The parser: two parts with a word between. -/
namespace Go.Proofs.YtchebhdndkaheaaGreatDoor
open Go.RowKit Go.Lib

def twoT (op : ByteArray) (x y : Ex) : Ex := .mk op ⟨0, 0, ⟨#[]⟩⟩ ⟨#[]⟩ [x, y]
section
variable {w W W' : World} {g : Nat} {A : Option Addr} {c : Nat} {l : List Tn} {N : Nat} {Q : Nat → Prop} {t t2 : Ex} {u u2 : Value} {at' ask : Nat} {failed : Bool}
end
end Go.Proofs.YtchebhdndkaheaaGreatDoor

/- The parser: a chain of two; a comparison that goes on. -/
namespace Go.Proofs.YtchebhdndkaheaaGreatDoor
open Go.RowKit Go.Lib

end Go.Proofs.YtchebhdndkaheaaGreatDoor

/- The parser: a comparison that goes on. -/
namespace Go.Proofs.YtchebhdndkaheaaGreatDoor
open Go.RowKit Go.Lib

end Go.Proofs.YtchebhdndkaheaaGreatDoor

/- The parser: NOT; Parse. -/
namespace Go.Proofs.YtchebhdndkaheaaGreatDoor
open Go.RowKit Go.Lib

end Go.Proofs.YtchebhdndkaheaaGreatDoor

/- Join. -/
namespace Go.Proofs.YtchebhdndkaheaaGreatDoor
open Go.RowKit Go.Lib

theorem Bld.lt {W : World} {B b : Nat} {l : List UInt8} (h : Bld W B b l) : b < W.heap.size := by
  rcases h with ⟨_, v, h2, _⟩ | ⟨_, v, h2, _⟩ <;> exact (Array.getElem?_eq_some_iff.1 h2).1
end Go.Proofs.YtchebhdndkaheaaGreatDoor

/- The law LexerAgain. -/
namespace Go.Proofs.YtchebhdndkaheaaGreatDoor
open Go.RowKit Go.Lib

end Go.Proofs.YtchebhdndkaheaaGreatDoor

/- The document's own: digit, letter, part, Name, May. -/
namespace Go.Proofs.YtchebhdndkaheaaGreatDoor
open Go.RowKit Go.Lib

end Go.Proofs.YtchebhdndkaheaaGreatDoor

/- Which expressions may be, plain; names are no values. -/
namespace Go.Proofs.YtchebhdndkaheaaGreatDoor
open Go.RowKit Go.Lib

theorem within_leaf {d : Nat} {t : Ex} {m : Int} (hf : fmT t = true) (hl : t.l = []) (hm : 1 ≤ m) : withinF (d + 1) t m = (true, m - 1) := by
  conv => lhs; unfold withinF
  rw [if_neg (by omega), if_pos hf, hl]
  rfl
theorem within_two {d : Nat} {op : ByteArray} {x y : Ex} {m m1 m2 : Int} (hf : fmT (twoT op x y) = true) (hm : 1 ≤ m) (h1 : withinF d x (m - 1) = (true, m1)) (h2 : withinF d y m1 = (true, m2)) : withinF (d + 1) (twoT op x y) m = (true, m2) := by
  conv => lhs; unfold withinF
  rw [if_neg (by omega), if_pos hf]
  show partsF (withinF d) [x, y] (m - 1) = _
  unfold partsF
  rw [h1, if_pos rfl]
  show partsF (withinF d) [y] m1 = _
  unfold partsF
  rw [h2]
  rfl
theorem nil_l : (⟨#[]⟩ : ByteArray).toList = [] := nilBytes
theorem zero_v : zeroB 0 0 ⟨#[]⟩ = true := by unfold zeroB nilB; rw [nil_l]; rfl
theorem fm_litT (x : Vl) (h : mayB x.k x.i x.s = true) : fmT (litT x) = true := by
  unfold fmT
  show fmB ⟨#[108, 105, 116]⟩ x.k x.i x.s ⟨#[]⟩ 0 = true
  rw [fm_lit (by rw [toList_data])]
  unfold fmLit nilB
  rw [h, nil_l]
  rfl
theorem fm_colT (s : ByteArray) : fmT (colT s) = (nameB s && !resB s) := by
  unfold fmT
  show fmB ⟨#[99, 111, 108]⟩ 0 0 ⟨#[]⟩ s 0 = _
  rw [fm_col (by rw [toList_data])]
  unfold fmCol
  rw [zero_v]
  simp
theorem fm_two {op : ByteArray} {k i : Int} {vs s : ByteArray} {n : Nat} (h : op.toList ∈ [[97, 110, 100], [111, 114], [61], [60], [43], [45]]) : fmB op k i vs s n = fmTwo k i vs s n := by
  simp only [List.mem_cons, List.not_mem_nil, or_false] at h
  rcases h with h | h | h | h | h | h <;> simp [fmB, h]
theorem fm_twoT (op : ByteArray) (x y : Ex) (h : op.toList ∈ [[97, 110, 100], [111, 114], [61], [60], [43], [45]]) : fmT (twoT op x y) = true := by
  unfold fmT
  show fmB op 0 0 ⟨#[]⟩ ⟨#[]⟩ 2 = true
  rw [fm_two h]
  unfold fmTwo nilB
  rw [zero_v, nil_l]
  rfl
end Go.Proofs.YtchebhdndkaheaaGreatDoor

/- The chapter's first example is parsed. -/
namespace Go.Proofs.YtchebhdndkaheaaGreatDoor
open Go.RowKit Go.Lib

theorem res_no {s : ByteArray} (h : (resW.contains s.data.toList) = false) : resB s = false := by unfold resB; rw [toList_data]; exact h
end Go.Proofs.YtchebhdndkaheaaGreatDoor

/- The chapter's examples: awake. -/
namespace Go.Proofs.YtchebhdndkaheaaGreatDoor
open Go.RowKit Go.Lib

end Go.Proofs.YtchebhdndkaheaaGreatDoor

/- What one, its NOT, and both come to: plain facts. -/
namespace Go.Proofs.YtchebhdndkaheaaGreatDoor
open Go.RowKit Go.Lib

end Go.Proofs.YtchebhdndkaheaaGreatDoor
