import Derived.Test.YtnahejljelbbgaaCk
import Derived.RegionTactic
import Derived.ChangeAlike
/- Reading the first value: First. -/
namespace Go.Proofs.Ytnahejljelbbgaa
open Go.RowKit Go.Lib

theorem Rd.new {W : World} {g : Nat} {s : ByteArray} (hg : g = W.heap.size) : Rd (W.alloc (.cells #[.string s, .int .i64 0] 53)) g s 0 := by
  subst hg
  exact heap_alloc_new W _
/-- What is done to a reader that the call has made itself is below nothing else. -/
theorem below_grow {w W W' : World} {g B : Nat} (hb : Below B w W) (hg : W.grownBy W' (some g)) (hB : B ≤ w.heap.size) (hgB : B ≤ g) : Below B w W' :=
  hb.grown hg (Nat.le_trans hB hb.size) (fun k hk => by injection hk with hk; omega)

set_option maxRecDepth 100000 in
set_option maxHeartbeats 4000000 in
theorem first_no (k i : Int) (t s : ByteArray) (n : Nat) (w : World) (hrv : ∀ g w, Rd w g s 0 → Calls Try.prog 21 #[NX g] w fun e w' => e = .returned (.tuple #[.agg #[.int .i64 0, .int .i64 0, .string ⟨#[]⟩], .int .i64 17]) ∧ w.grownBy w' (some g)) :
    Calls Try.prog 15 #[.string s] w fun e w' => e = .returned (.tuple #[.agg #[.int .i64 0, .int .i64 0, .string ⟨#[]⟩], .int .i64 0, .int .i64 17]) ∧ Below w.heap.size w w' := by
  have H := Lib.hid hrv
  clear hrv
  go_enter Try.func15, Try.ntmps15
  go_wp2_with (go_at_call 21; refine (H.out (w.heap.size + 1) _ (Rd.new (by simp))).mono ?_; rintro e w1 ⟨rfl, hg1⟩; have RS := (At3.alloc (At3.new (W := w) rfl) _).keepG hg1 (by omega); have dk := RS.k; have di := RS.i; have ds := RS.s; have f0 := frz_keepG (b := w.heap.size) (o := 0) (by simp [go_sem]) (by (try simp) <;> omega) hg1 (by omega); have f1 := frz_keepG (b := w.heap.size) (o := 1) (by simp [go_sem]) (by (try simp) <;> omega) hg1 (by omega); have f2 := frz_keepG (b := w.heap.size) (o := 2) (by simp [go_sem]) (by (try simp) <;> omega) hg1 (by omega); have hz1 := hg1.size; (try simp at hz1); have hn0 : w.heap.size < w1.heap.size := (by omega); have hn1 : w.heap.size + 1 < w1.heap.size := (by omega); have HG1 := Lib.hid (below_grow (((Below.refl w.heap.size w).alloc (Nat.le_refl _) _).alloc (by simp) _) hg1 (Nat.le_refl _) (by omega)); clear RS hg1)
  refine bodyPost_ret (v := .tuple #[.agg #[.int .i64 0, .int .i64 0, .string ⟨#[]⟩], .int .i64 0, .int .i64 17]) ?_ rfl ⟨rfl, ?_⟩
  · (simp [results, Try.results15, go_sem, *]; done)
  · have hb1 := HG1.out
    repeat (first | (with_reducible exact Below.refl _ _) | ((with_reducible refine cSet3 ?_ ?_ _ _ _); (· ((try simp) <;> omega))) | (with_reducible refine Below.drew ?_) | ((with_reducible refine cAlloc ?_ ?_ _); (· ((try simp) <;> omega))) | ((with_reducible refine cOn (by assumption) ?_ ?_); (· ((try simp) <;> omega))))

set_option maxRecDepth 100000 in
set_option maxHeartbeats 4000000 in
theorem first_yes (k i : Int) (t s : ByteArray) (n : Nat) (w : World) (hrv : ∀ g w, Rd w g s 0 → Calls Try.prog 21 #[NX g] w fun e w' => e = .returned (.tuple #[.agg #[.int .i64 k, .int .i64 i, .string t], .int .i64 0]) ∧ Rd w' g s n ∧ w.grownBy w' (some g)) :
    Calls Try.prog 15 #[.string s] w fun e w' => e = .returned (.tuple #[.agg #[.int .i64 k, .int .i64 i, .string t], .int .i64 n, .int .i64 0]) ∧ Below w.heap.size w w' := by
  have H := Lib.hid hrv
  clear hrv
  go_enter Try.func15, Try.ntmps15
  go_wp2_with (go_at_call 21; refine (H.out (w.heap.size + 1) _ (Rd.new (by simp))).mono ?_; rintro e w1 ⟨rfl, hr1, hg1⟩; have RS := (At3.alloc (At3.new (W := w) rfl) _).keepG hg1 (by omega); have dk := RS.k; have di := RS.i; have ds := RS.s; have f0 := frz_keepG (b := w.heap.size) (o := 0) (by simp [go_sem]) (by (try simp) <;> omega) hg1 (by omega); have f1 := frz_keepG (b := w.heap.size) (o := 1) (by simp [go_sem]) (by (try simp) <;> omega) hg1 (by omega); have f2 := frz_keepG (b := w.heap.size) (o := 2) (by simp [go_sem]) (by (try simp) <;> omega) hg1 (by omega); have hz1 := hg1.size; (try simp at hz1); have hn0 : w.heap.size < w1.heap.size := (by omega); have hn1 : w.heap.size + 1 < w1.heap.size := (by omega); have HG1 := Lib.hid (below_grow (((Below.refl w.heap.size w).alloc (Nat.le_refl _) _).alloc (by simp) _) hg1 (Nat.le_refl _) (by omega)); clear RS hg1)
  have r1 := hr1.c1
  have HR1 := Lib.hid hr1
  clear hr1
  go_region
  go_wp2
  all_goals
    refine bodyPost_ret (v := .tuple #[.agg #[.int .i64 k, .int .i64 i, .string t], .int .i64 n, .int .i64 0]) ?_ rfl ⟨rfl, ?_⟩
    · (simp [results, Try.results15, go_sem, *]; done)
    · have hb1 := HG1.out
      repeat (first | (with_reducible exact Below.refl _ _) | ((with_reducible refine cSet3 ?_ ?_ _ _ _); (· ((try simp) <;> omega))) | (with_reducible refine Below.drew ?_) | ((with_reducible refine cAlloc ?_ ?_ _); (· ((try simp) <;> omega))) | ((with_reducible refine cOn (by assumption) ?_ ?_); (· ((try simp) <;> omega))))
end Go.Proofs.Ytnahejljelbbgaa
