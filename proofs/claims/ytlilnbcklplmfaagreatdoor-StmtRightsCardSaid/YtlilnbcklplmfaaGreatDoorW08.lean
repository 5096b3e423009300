import Derived.Test.YtlilnbcklplmfaaGreatDoorW07
import Derived.Deep.DeepCutAuto
import Derived.Laws.Rows
import Derived.Laws.Tables
import Derived.Great.BuildSlice

/- The statement parser: its state, the token at hand. -/
namespace Go.Proofs.YtlilnbcklplmfaaGreatDoor
open Go.RowKit Go.Lib

/-- The statement parser in block g: its tokens, its place, whether it has failed. -/
structure Sz (W : World) (g : Nat) (A : Option Addr) (c : Nat) (l : List Tn) (at' : Nat) (failed : Bool) : Prop where
  st : W.heap[g]? = some (.cells #[.slice A l.length c, .int .i64 at', .bool failed] 60 (0, 0))
  tk : ∀ j (h : j < l.length), ∃ a, A = some a ∧ a.block < g ∧ TnAt W (a.add (j * 2)) l[j]
  lib : ∃ w0 : World, LibE w0 ∧ w0.heap.size ≤ g ∧ Below w0.heap.size w0 W
section
variable {W W' : World} {g : Nat} {A : Option Addr} {c : Nat} {l : List Tn} {at' : Nat} {failed : Bool}
theorem Sz.lt (h : Sz W g A c l at' failed) : g < W.heap.size := (Array.getElem?_eq_some_iff.1 h.st).1
theorem Sz.c0 (h : Sz W g A c l at' failed) : W.cell? ⟨g, 0, none⟩ = some (.slice A l.length c) := by rw [Lib.cell_of_heap h.st]; rfl
theorem Sz.c1 (h : Sz W g A c l at' failed) : W.cell? ⟨g, 1, none⟩ = some (.int .i64 at') := by rw [Lib.cell_of_heap h.st]; rfl
theorem Sz.c2 (h : Sz W g A c l at' failed) : W.cell? ⟨g, 2, none⟩ = some (.bool failed) := by rw [Lib.cell_of_heap h.st]; rfl
theorem Sz.fz (h : Sz W g A c l at' failed) (o : Nat) : W.frozen? ⟨g, o, none⟩ = false := Lib.frozen_of_heap h.st o
theorem Sz.keep (h : Sz W g A c l at' failed) (hb : ∀ b, b ≤ g → W'.heap[b]? = W.heap[b]?) (hB : ∀ w0 : World, w0.heap.size ≤ g → Below w0.heap.size w0 W → Below w0.heap.size w0 W') : Sz W' g A c l at' failed :=
  ⟨(hb g (Nat.le_refl _)).trans h.st, fun j hj => by
    obtain ⟨a, e, hne, hc⟩ := h.tk j hj
    exact ⟨a, e, hne, hc.keep (hb _ (by rw [add_block]; omega))⟩, by
    obtain ⟨w0, h1, h2, h3⟩ := h.lib
    exact ⟨w0, h1, h2, hB w0 h2 h3⟩⟩
theorem Sz.libE (h : Sz W g A c l at' failed) : LibE W := by
  obtain ⟨w0, h1, h2, h3⟩ := h.lib
  exact h1.keep h3 (Nat.le_refl _)
theorem Sz.below (h : Sz W g A c l at' failed) (hb : Below W.heap.size W W') : Sz W' g A c l at' failed := h.keep (fun b hl => hb.block b (by have := h.lt; omega)) fun w0 _ k => k.trans (hb.mono k.size)
theorem Sz.alloc (h : Sz W g A c l at' failed) (o : Obj) : Sz (W.alloc o) g A c l at' failed := h.below ((Below.refl _ _).alloc (Nat.le_refl _) o)
theorem Sz.other (h : Sz W g A c l at' failed) {b o : Nat} (v : Value) (hb : g < b) : Sz (W.setCell ⟨b, o, none⟩ v) g A c l at' failed :=
  h.keep (fun q hq => Below.heap_setCell _ _ _ _ (by show q ≠ b; omega)) fun w0 hw k => k.setCell (p := ⟨b, o, none⟩) (by show _ ≤ b; omega) _
theorem Sz.drew (h : Sz W g A c l at' failed) : Sz W.drew g A c l at' failed := h.keep (fun _ _ => rfl) fun _ _ k => k.drew
theorem Sz.libs (h : Sz W g A c l at' failed) (o : Nat) (v : Value) : ∃ w0 : World, LibE w0 ∧ w0.heap.size ≤ g ∧ Below w0.heap.size w0 (W.setCell ⟨g, o, none⟩ v) := by
  obtain ⟨w0, h1, h2, h3⟩ := h.lib
  exact ⟨w0, h1, h2, h3.setCell (p := ⟨g, o, none⟩) h2 _⟩
theorem Sz.goto (h : Sz W g A c l at' failed) (n : Nat) : Sz (W.setCell ⟨g, 1, none⟩ (.int .i64 n)) g A c l n failed := by
  refine ⟨?_, fun j hj => ?_, h.libs _ _⟩
  · have := h.st
    simp [World.setCell, Array.getElem?_modify, this]
  · obtain ⟨a, e, hne, hc⟩ := h.tk j hj
    exact ⟨a, e, hne, hc.keep (Below.heap_setCell _ _ _ _ (by rw [add_block]; show _ ≠ g; omega))⟩
theorem Sz.fails (h : Sz W g A c l at' failed) : Sz (W.setCell ⟨g, 2, none⟩ (.bool true)) g A c l at' true := by
  refine ⟨?_, fun j hj => ?_, h.libs _ _⟩
  · have := h.st
    simp [World.setCell, Array.getElem?_modify, this]
  · obtain ⟨a, e, hne, hc⟩ := h.tk j hj
    exact ⟨a, e, hne, hc.keep (Below.heap_setCell _ _ _ _ (by rw [add_block]; show _ ≠ g; omega))⟩
end

set_option maxRecDepth 100000 in
set_option maxHeartbeats 4000000 in
theorem snext_failed (g : Nat) (A : Option Addr) (c : Nat) (l : List Tn) (at' : Nat) (w : World) (hz : Sz w g A c l at' true) :
    Calls Tryz.prog 84 #[.pointer (some ⟨g, 0, none⟩)] w fun e w' => e = .returned (.agg #[.int .i64 0, .string ⟨#[]⟩]) ∧ Below w.heap.size w w' := by
  have HZ := Lib.hid hz
  have hgl := hz.lt
  have e0 := hz.c0
  have e1 := hz.c1
  have e2 := hz.c2
  clear hz
  obtain ⟨n, HN⟩ : ∃ n, Hid (l.length = n) := ⟨_, Lib.hid rfl⟩
  rw [HN.out] at e0
  go_enter Tryz.func84, Tryz.ntmps84
  go_wp2
  refine detL_begin [.val (.pointer (some ⟨g, 0, none⟩)), .val (.pointer (some ⟨g, 0, none⟩)), .val (.pointer (some ⟨g, 2, none⟩)), .val (.bool true), .val (.bool true), .val (undef), .val (undef), .val (undef), .val (undef), .val (undef), .val (undef), .val (undef), .val (undef), .val (undef), .val (undef), .val (.bool true)] 16 (by kernel_rfl) ?_
  refine detL_val (by kernel_rfl) (yields_of rfl fun w1 hb1 => ?_) ?_
  · have hc1 := bcellD hb1
    have HBx := Lib.hid hb1
    clear hb1
    go_simp
    exact Det1_same
  simp only [Act.put, List.setIfInBounds_toArray, List.set_cons_zero, List.set_cons_succ]
  refine detL_val (by kernel_rfl) (yields_of rfl fun w1 hb1 => ?_) ?_
  · have hc1 := bcellD hb1
    have HBx := Lib.hid hb1
    clear hb1
    go_simp
    exact Det1_same
  simp only [Act.put, List.setIfInBounds_toArray, List.set_cons_zero, List.set_cons_succ]
  refine detL_val (by kernel_rfl) (yields_of rfl fun w1 hb1 => ?_) ?_
  · have hc1 := bcellD hb1
    have HBx := Lib.hid hb1
    clear hb1
    go_simp
    exact Det1_same
  simp only [Act.put, List.setIfInBounds_toArray, List.set_cons_zero, List.set_cons_succ]
  refine detL_val (by kernel_rfl) (yields_of rfl fun w1 hb1 => ?_) ?_
  · have hc1 := bcellD hb1
    have HBx := Lib.hid hb1
    clear hb1
    go_simp
    exact Det1_same
  simp only [Act.put, List.setIfInBounds_toArray, List.set_cons_zero, List.set_cons_succ]
  refine detL_val (by kernel_rfl) (yields_of rfl fun w1 hb1 => ?_) ?_
  · have hc1 := bcellD hb1
    have HBx := Lib.hid hb1
    clear hb1
    go_simp
    exact Det1_same
  simp only [Act.put, List.setIfInBounds_toArray, List.set_cons_zero, List.set_cons_succ]
  refine detL_val (by kernel_rfl) (yields_not rfl) ?_
  simp only [Act.put, List.setIfInBounds_toArray, List.set_cons_zero, List.set_cons_succ]
  refine detL_val (by kernel_rfl) (yields_not rfl) ?_
  simp only [Act.put, List.setIfInBounds_toArray, List.set_cons_zero, List.set_cons_succ]
  refine detL_val (by kernel_rfl) (yields_not rfl) ?_
  simp only [Act.put, List.setIfInBounds_toArray, List.set_cons_zero, List.set_cons_succ]
  refine detL_val (by kernel_rfl) (yields_not rfl) ?_
  simp only [Act.put, List.setIfInBounds_toArray, List.set_cons_zero, List.set_cons_succ]
  refine detL_val (by kernel_rfl) (yields_not rfl) ?_
  simp only [Act.put, List.setIfInBounds_toArray, List.set_cons_zero, List.set_cons_succ]
  refine detL_val (by kernel_rfl) (yields_not rfl) ?_
  simp only [Act.put, List.setIfInBounds_toArray, List.set_cons_zero, List.set_cons_succ]
  refine detL_val (by kernel_rfl) (yields_not rfl) ?_
  simp only [Act.put, List.setIfInBounds_toArray, List.set_cons_zero, List.set_cons_succ]
  refine detL_val (by kernel_rfl) (yields_not rfl) ?_
  simp only [Act.put, List.setIfInBounds_toArray, List.set_cons_zero, List.set_cons_succ]
  refine detL_val (by kernel_rfl) (yields_not rfl) ?_
  simp only [Act.put, List.setIfInBounds_toArray, List.set_cons_zero, List.set_cons_succ]
  refine detL_val (by kernel_rfl) (yields_not rfl) ?_
  simp only [Act.put, List.setIfInBounds_toArray, List.set_cons_zero, List.set_cons_succ]
  refine detL_val (by kernel_rfl) (yields_of rfl fun w1 hb1 => ?_) ?_
  · have hc1 := bcellD hb1
    have HBx := Lib.hid hb1
    clear hb1
    go_simp
    exact Det1_same
  simp only [Act.put, List.setIfInBounds_toArray, List.set_cons_zero, List.set_cons_succ]
  refine detL_done (by kernel_rfl) fun w1 hw1 => ?_
  have hc1 := (bcell hw1.below).1
  have hf1 := (bcell hw1.below).2
  have hz1 : w.heap.size < w1.heap.size := by have := hw1.below.size; simp at this; omega
  have HB1 : Hid (Below w.heap.size w w1) := ((Below.refl _ _).alloc (Nat.le_refl _) _).drew.trans (hw1.below.mono (by simp))
  clear hw1
  go_wp2
  refine bodyPost_ret (v := .agg #[.int .i64 0, .string ⟨#[]⟩]) (by simp [results, Tryz.results84, go_sem, hc1, hf1, hz1]) rfl ⟨rfl, ?_⟩
  first
    | exact HB1.out
    | exact cSet2 (by omega) HB1.out _ _

set_option maxRecDepth 100000 in
set_option maxHeartbeats 4000000 in
theorem snext_end (g : Nat) (A : Option Addr) (c : Nat) (l : List Tn) (at' : Nat) (w : World) (hz : Sz w g A c l at' false) (he : at' = l.length) (hn : l.length ≤ 100000) :
    Calls Tryz.prog 84 #[.pointer (some ⟨g, 0, none⟩)] w fun e w' => e = .returned (.agg #[.int .i64 0, .string ⟨#[]⟩]) ∧ Below w.heap.size w w' := by
  have HZ := Lib.hid hz
  have hgl := hz.lt
  have e0 := hz.c0
  have e1 := hz.c1
  have e2 := hz.c2
  clear hz
  have hbq : ((at' : Nat) : Int) == ((l.length : Nat) : Int) := by simp [he]
  obtain ⟨n, HN⟩ : ∃ n, Hid (l.length = n) := ⟨_, Lib.hid rfl⟩
  rw [HN.out] at e0 hbq hn
  clear he
  go_enter Tryz.func84, Tryz.ntmps84
  go_wp2
  refine detL_begin [.val (.pointer (some ⟨g, 0, none⟩)), .val (.pointer (some ⟨g, 0, none⟩)), .val (.pointer (some ⟨g, 2, none⟩)), .val (.bool false), .val (.bool false), .val (.pointer (some ⟨g, 0, none⟩)), .val (.pointer (some ⟨g, 0, none⟩)), .val (.pointer (some ⟨g, 1, none⟩)), .val (.int .i64 at'), .val (.pointer (some ⟨g, 0, none⟩)), .val (.pointer (some ⟨g, 0, none⟩)), .val (.pointer (some ⟨g, 0, none⟩)), .val (.slice A n c), .val (.int .i64 n), .val (.bool true), .val (.bool true)] 16 (by kernel_rfl) ?_
  refine detL_val (by kernel_rfl) (yields_of rfl fun w1 hb1 => ?_) ?_
  · have hc1 := bcellD hb1
    have HBx := Lib.hid hb1
    clear hb1
    go_simp
    exact Det1_same
  simp only [Act.put, List.setIfInBounds_toArray, List.set_cons_zero, List.set_cons_succ]
  refine detL_val (by kernel_rfl) (yields_of rfl fun w1 hb1 => ?_) ?_
  · have hc1 := bcellD hb1
    have HBx := Lib.hid hb1
    clear hb1
    go_simp
    exact Det1_same
  simp only [Act.put, List.setIfInBounds_toArray, List.set_cons_zero, List.set_cons_succ]
  refine detL_val (by kernel_rfl) (yields_of rfl fun w1 hb1 => ?_) ?_
  · have hc1 := bcellD hb1
    have HBx := Lib.hid hb1
    clear hb1
    go_simp
    exact Det1_same
  simp only [Act.put, List.setIfInBounds_toArray, List.set_cons_zero, List.set_cons_succ]
  refine detL_val (by kernel_rfl) (yields_of rfl fun w1 hb1 => ?_) ?_
  · have hc1 := bcellD hb1
    have HBx := Lib.hid hb1
    clear hb1
    go_simp
    exact Det1_same
  simp only [Act.put, List.setIfInBounds_toArray, List.set_cons_zero, List.set_cons_succ]
  refine detL_val (by kernel_rfl) (yields_of rfl fun w1 hb1 => ?_) ?_
  · have hc1 := bcellD hb1
    have HBx := Lib.hid hb1
    clear hb1
    go_simp
    exact Det1_same
  simp only [Act.put, List.setIfInBounds_toArray, List.set_cons_zero, List.set_cons_succ]
  refine detL_val (by kernel_rfl) (yields_of rfl fun w1 hb1 => ?_) ?_
  · have hc1 := bcellD hb1
    have HBx := Lib.hid hb1
    clear hb1
    go_simp
    exact Det1_same
  simp only [Act.put, List.setIfInBounds_toArray, List.set_cons_zero, List.set_cons_succ]
  refine detL_val (by kernel_rfl) (yields_of rfl fun w1 hb1 => ?_) ?_
  · have hc1 := bcellD hb1
    have HBx := Lib.hid hb1
    clear hb1
    go_simp
    exact Det1_same
  simp only [Act.put, List.setIfInBounds_toArray, List.set_cons_zero, List.set_cons_succ]
  refine detL_val (by kernel_rfl) (yields_of rfl fun w1 hb1 => ?_) ?_
  · have hc1 := bcellD hb1
    have HBx := Lib.hid hb1
    clear hb1
    go_simp
    exact Det1_same
  simp only [Act.put, List.setIfInBounds_toArray, List.set_cons_zero, List.set_cons_succ]
  refine detL_val (by kernel_rfl) (yields_of rfl fun w1 hb1 => ?_) ?_
  · have hc1 := bcellD hb1
    have HBx := Lib.hid hb1
    clear hb1
    go_simp
    exact Det1_same
  simp only [Act.put, List.setIfInBounds_toArray, List.set_cons_zero, List.set_cons_succ]
  refine detL_val (by kernel_rfl) (yields_of rfl fun w1 hb1 => ?_) ?_
  · have hc1 := bcellD hb1
    have HBx := Lib.hid hb1
    clear hb1
    go_simp
    exact Det1_same
  simp only [Act.put, List.setIfInBounds_toArray, List.set_cons_zero, List.set_cons_succ]
  refine detL_val (by kernel_rfl) (yields_of rfl fun w1 hb1 => ?_) ?_
  · have hc1 := bcellD hb1
    have HBx := Lib.hid hb1
    clear hb1
    go_simp
    exact Det1_same
  simp only [Act.put, List.setIfInBounds_toArray, List.set_cons_zero, List.set_cons_succ]
  refine detL_val (by kernel_rfl) (yields_of rfl fun w1 hb1 => ?_) ?_
  · have hc1 := bcellD hb1
    have HBx := Lib.hid hb1
    clear hb1
    go_simp
    exact Det1_same
  simp only [Act.put, List.setIfInBounds_toArray, List.set_cons_zero, List.set_cons_succ]
  refine detL_val (by kernel_rfl) (yields_of rfl fun w1 hb1 => ?_) ?_
  · have hc1 := bcellD hb1
    have HBx := Lib.hid hb1
    clear hb1
    go_simp
    exact Det1_same
  simp only [Act.put, List.setIfInBounds_toArray, List.set_cons_zero, List.set_cons_succ]
  refine detL_val (by kernel_rfl) (yields_of rfl fun w1 hb1 => ?_) ?_
  · have hc1 := bcellD hb1
    have HBx := Lib.hid hb1
    clear hb1
    go_simp
    exact Det1_same
  simp only [Act.put, List.setIfInBounds_toArray, List.set_cons_zero, List.set_cons_succ]
  refine detL_val (by kernel_rfl) (yields_of rfl fun w1 hb1 => ?_) ?_
  · have hc1 := bcellD hb1
    have HBx := Lib.hid hb1
    clear hb1
    go_simp
    exact Det1_same
  simp only [Act.put, List.setIfInBounds_toArray, List.set_cons_zero, List.set_cons_succ]
  refine detL_val (by kernel_rfl) (yields_of rfl fun w1 hb1 => ?_) ?_
  · have hc1 := bcellD hb1
    have HBx := Lib.hid hb1
    clear hb1
    go_simp
    exact Det1_same
  simp only [Act.put, List.setIfInBounds_toArray, List.set_cons_zero, List.set_cons_succ]
  refine detL_done (by kernel_rfl) fun w1 hw1 => ?_
  have hc1 := (bcell hw1.below).1
  have hf1 := (bcell hw1.below).2
  have hz1 : w.heap.size < w1.heap.size := by have := hw1.below.size; simp at this; omega
  have HB1 : Hid (Below w.heap.size w w1) := ((Below.refl _ _).alloc (Nat.le_refl _) _).drew.trans (hw1.below.mono (by simp))
  clear hw1
  go_wp2
  refine bodyPost_ret (v := .agg #[.int .i64 0, .string ⟨#[]⟩]) (by simp [results, Tryz.results84, go_sem, hc1, hf1, hz1]) rfl ⟨rfl, ?_⟩
  first
    | exact HB1.out
    | exact cSet2 (by omega) HB1.out _ _

set_option maxRecDepth 100000 in
set_option maxHeartbeats 4000000 in
theorem snext_tok (g : Nat) (A : Option Addr) (c : Nat) (l : List Tn) (at' : Nat) (w : World) (hz : Sz w g A c l at' false) (x : Tn) (hx : l[at']? = some x) (hn : l.length ≤ 100000) :
    Calls Tryz.prog 84 #[.pointer (some ⟨g, 0, none⟩)] w fun e w' => e = .returned (.agg #[.int .i64 x.k, .string x.s]) ∧ Below w.heap.size w w' := by
  obtain ⟨hlt, hx⟩ := List.getElem?_eq_some_iff.1 hx
  obtain ⟨a, rfl, hag, hA⟩ := hz.tk at' hlt
  rw [hx] at hA
  have hab := hA.lt
  obtain ⟨tk, ts⟩ := x
  have HA := Lib.hid hA
  have hbq : (((at' : Nat) : Int) == ((l.length : Nat) : Int)) = false := beq_eq_false_iff_ne.2 (by omega)
  clear hx hA
  have HZ := Lib.hid hz
  have hgl := hz.lt
  have e0 := hz.c0
  have e1 := hz.c1
  have e2 := hz.c2
  clear hz
  obtain ⟨n, HN⟩ : ∃ n, Hid (l.length = n) := ⟨_, Lib.hid rfl⟩
  rw [HN.out] at e0 hbq hn hlt
  simp only at hab ⊢
  go_enter Tryz.func84, Tryz.ntmps84
  go_wp2
  refine detL_begin [.val (.pointer (some ⟨g, 0, none⟩)), .val (.pointer (some ⟨g, 0, none⟩)), .val (.pointer (some ⟨g, 2, none⟩)), .val (.bool false), .val (.bool false), .val (.pointer (some ⟨g, 0, none⟩)), .val (.pointer (some ⟨g, 0, none⟩)), .val (.pointer (some ⟨g, 1, none⟩)), .val (.int .i64 at'), .val (.pointer (some ⟨g, 0, none⟩)), .val (.pointer (some ⟨g, 0, none⟩)), .val (.pointer (some ⟨g, 0, none⟩)), .val (.slice (some a) n c), .val (.int .i64 n), .val (.bool false), .val (.bool false)] 16 (by kernel_rfl) ?_
  refine detL_val (by kernel_rfl) (yields_of rfl fun w1 hb1 => ?_) ?_
  · have hc1 := bcellD hb1
    have HBx := Lib.hid hb1
    clear hb1
    go_simp
    exact Det1_same
  simp only [Act.put, List.setIfInBounds_toArray, List.set_cons_zero, List.set_cons_succ]
  refine detL_val (by kernel_rfl) (yields_of rfl fun w1 hb1 => ?_) ?_
  · have hc1 := bcellD hb1
    have HBx := Lib.hid hb1
    clear hb1
    go_simp
    exact Det1_same
  simp only [Act.put, List.setIfInBounds_toArray, List.set_cons_zero, List.set_cons_succ]
  refine detL_val (by kernel_rfl) (yields_of rfl fun w1 hb1 => ?_) ?_
  · have hc1 := bcellD hb1
    have HBx := Lib.hid hb1
    clear hb1
    go_simp
    exact Det1_same
  simp only [Act.put, List.setIfInBounds_toArray, List.set_cons_zero, List.set_cons_succ]
  refine detL_val (by kernel_rfl) (yields_of rfl fun w1 hb1 => ?_) ?_
  · have hc1 := bcellD hb1
    have HBx := Lib.hid hb1
    clear hb1
    go_simp
    exact Det1_same
  simp only [Act.put, List.setIfInBounds_toArray, List.set_cons_zero, List.set_cons_succ]
  refine detL_val (by kernel_rfl) (yields_of rfl fun w1 hb1 => ?_) ?_
  · have hc1 := bcellD hb1
    have HBx := Lib.hid hb1
    clear hb1
    go_simp
    exact Det1_same
  simp only [Act.put, List.setIfInBounds_toArray, List.set_cons_zero, List.set_cons_succ]
  refine detL_val (by kernel_rfl) (yields_of rfl fun w1 hb1 => ?_) ?_
  · have hc1 := bcellD hb1
    have HBx := Lib.hid hb1
    clear hb1
    go_simp
    exact Det1_same
  simp only [Act.put, List.setIfInBounds_toArray, List.set_cons_zero, List.set_cons_succ]
  refine detL_val (by kernel_rfl) (yields_of rfl fun w1 hb1 => ?_) ?_
  · have hc1 := bcellD hb1
    have HBx := Lib.hid hb1
    clear hb1
    go_simp
    exact Det1_same
  simp only [Act.put, List.setIfInBounds_toArray, List.set_cons_zero, List.set_cons_succ]
  refine detL_val (by kernel_rfl) (yields_of rfl fun w1 hb1 => ?_) ?_
  · have hc1 := bcellD hb1
    have HBx := Lib.hid hb1
    clear hb1
    go_simp
    exact Det1_same
  simp only [Act.put, List.setIfInBounds_toArray, List.set_cons_zero, List.set_cons_succ]
  refine detL_val (by kernel_rfl) (yields_of rfl fun w1 hb1 => ?_) ?_
  · have hc1 := bcellD hb1
    have HBx := Lib.hid hb1
    clear hb1
    go_simp
    exact Det1_same
  simp only [Act.put, List.setIfInBounds_toArray, List.set_cons_zero, List.set_cons_succ]
  refine detL_val (by kernel_rfl) (yields_of rfl fun w1 hb1 => ?_) ?_
  · have hc1 := bcellD hb1
    have HBx := Lib.hid hb1
    clear hb1
    go_simp
    exact Det1_same
  simp only [Act.put, List.setIfInBounds_toArray, List.set_cons_zero, List.set_cons_succ]
  refine detL_val (by kernel_rfl) (yields_of rfl fun w1 hb1 => ?_) ?_
  · have hc1 := bcellD hb1
    have HBx := Lib.hid hb1
    clear hb1
    go_simp
    exact Det1_same
  simp only [Act.put, List.setIfInBounds_toArray, List.set_cons_zero, List.set_cons_succ]
  refine detL_val (by kernel_rfl) (yields_of rfl fun w1 hb1 => ?_) ?_
  · have hc1 := bcellD hb1
    have HBx := Lib.hid hb1
    clear hb1
    go_simp
    exact Det1_same
  simp only [Act.put, List.setIfInBounds_toArray, List.set_cons_zero, List.set_cons_succ]
  refine detL_val (by kernel_rfl) (yields_of rfl fun w1 hb1 => ?_) ?_
  · have hc1 := bcellD hb1
    have HBx := Lib.hid hb1
    clear hb1
    go_simp
    exact Det1_same
  simp only [Act.put, List.setIfInBounds_toArray, List.set_cons_zero, List.set_cons_succ]
  refine detL_val (by kernel_rfl) (yields_of rfl fun w1 hb1 => ?_) ?_
  · have hc1 := bcellD hb1
    have HBx := Lib.hid hb1
    clear hb1
    go_simp
    exact Det1_same
  simp only [Act.put, List.setIfInBounds_toArray, List.set_cons_zero, List.set_cons_succ]
  refine detL_val (by kernel_rfl) (yields_of rfl fun w1 hb1 => ?_) ?_
  · have hc1 := bcellD hb1
    have HBx := Lib.hid hb1
    clear hb1
    go_simp
    exact Det1_same
  simp only [Act.put, List.setIfInBounds_toArray, List.set_cons_zero, List.set_cons_succ]
  refine detL_val (by kernel_rfl) (yields_of rfl fun w1 hb1 => ?_) ?_
  · have hc1 := bcellD hb1
    have HBx := Lib.hid hb1
    clear hb1
    go_simp
    exact Det1_same
  simp only [Act.put, List.setIfInBounds_toArray, List.set_cons_zero, List.set_cons_succ]
  refine detL_done (by kernel_rfl) fun w1 hw1 => ?_
  have hc1 := (bcell hw1.below).1
  have hf1 := (bcell hw1.below).2
  have hz1 : w.heap.size < w1.heap.size := by have := hw1.below.size; simp at this; omega
  have HB1 : Hid (Below w.heap.size w w1) := ((Below.refl _ _).alloc (Nat.le_refl _) _).drew.trans (hw1.below.mono (by simp))
  clear hw1
  have HZ1 := Lib.hid (HZ.out.below HB1.out)
  have hgl1 := HZ1.out.lt
  have e0' := HZ1.out.c0
  have e1' := HZ1.out.c1
  rw [HN.out] at e0'
  have HA1 : Hid (TnAt w1 (a.add (at' * 2)) ⟨tk, ts⟩) := Lib.hid (HA.out.keep (HB1.out.block _ hab))
  have hab1 := HA1.out.lt
  have k0 := HA1.out.c0
  have k1 := HA1.out.c1
  simp only at k0 k1
  have r0 : w1.cell? ⟨w.heap.size, 0, none⟩ = some (.int .i64 0) := by rw [hc1 _ _ (by simp)]; simp [go_sem]
  have r1 : w1.cell? ⟨w.heap.size, 1, none⟩ = some (.string ⟨#[]⟩) := by rw [hc1 _ _ (by simp)]; simp [go_sem]
  have rf : ∀ o, w1.frozen? ⟨w.heap.size, o, none⟩ = false := fun o => by rw [hf1 _ _ (by simp)]; simp [go_sem]
  have HRF := Lib.hid rf
  clear hbq e0 e1 e2 hc1 hf1 rf
  go_upto_region 3 with (fail)
  refine detL_begin [.val (.pointer (some ⟨g, 0, none⟩)), .val (.pointer (some ⟨g, 0, none⟩)), .val (.pointer (some ⟨g, 0, none⟩)), .val (.slice (some a) n c), .val (.pointer (some ⟨g, 0, none⟩)), .val (.pointer (some ⟨g, 0, none⟩)), .val (.pointer (some ⟨g, 1, none⟩)), .val (.int .i64 at'), .val (.pointer (some (a.add (at' * 2)))), .val (.agg #[.int .i64 tk, .string ts])] 10 (by kernel_rfl) ?_
  refine detL_val (by kernel_rfl) (yields_of rfl fun w1 hb1 => ?_) ?_
  · have hc1 := bcellD hb1
    have HBx := Lib.hid hb1
    clear hb1
    go_simp
    exact Det1_same
  simp only [Act.put, List.setIfInBounds_toArray, List.set_cons_zero, List.set_cons_succ]
  refine detL_val (by kernel_rfl) (yields_of rfl fun w1 hb1 => ?_) ?_
  · have hc1 := bcellD hb1
    have HBx := Lib.hid hb1
    clear hb1
    go_simp
    exact Det1_same
  simp only [Act.put, List.setIfInBounds_toArray, List.set_cons_zero, List.set_cons_succ]
  refine detL_val (by kernel_rfl) (yields_of rfl fun w1 hb1 => ?_) ?_
  · have hc1 := bcellD hb1
    have HBx := Lib.hid hb1
    clear hb1
    go_simp
    exact Det1_same
  simp only [Act.put, List.setIfInBounds_toArray, List.set_cons_zero, List.set_cons_succ]
  refine detL_val (by kernel_rfl) (yields_of rfl fun w1 hb1 => ?_) ?_
  · have hc1 := bcellD hb1
    have HBx := Lib.hid hb1
    clear hb1
    go_simp
    exact Det1_same
  simp only [Act.put, List.setIfInBounds_toArray, List.set_cons_zero, List.set_cons_succ]
  refine detL_val (by kernel_rfl) (yields_of rfl fun w1 hb1 => ?_) ?_
  · have hc1 := bcellD hb1
    have HBx := Lib.hid hb1
    clear hb1
    go_simp
    exact Det1_same
  simp only [Act.put, List.setIfInBounds_toArray, List.set_cons_zero, List.set_cons_succ]
  refine detL_val (by kernel_rfl) (yields_of rfl fun w1 hb1 => ?_) ?_
  · have hc1 := bcellD hb1
    have HBx := Lib.hid hb1
    clear hb1
    go_simp
    exact Det1_same
  simp only [Act.put, List.setIfInBounds_toArray, List.set_cons_zero, List.set_cons_succ]
  refine detL_val (by kernel_rfl) (yields_of rfl fun w1 hb1 => ?_) ?_
  · have hc1 := bcellD hb1
    have HBx := Lib.hid hb1
    clear hb1
    go_simp
    exact Det1_same
  simp only [Act.put, List.setIfInBounds_toArray, List.set_cons_zero, List.set_cons_succ]
  refine detL_val (by kernel_rfl) (yields_of rfl fun w1 hb1 => ?_) ?_
  · have hc1 := bcellD hb1
    have HBx := Lib.hid hb1
    clear hb1
    go_simp
    exact Det1_same
  simp only [Act.put, List.setIfInBounds_toArray, List.set_cons_zero, List.set_cons_succ]
  refine detL_val (by kernel_rfl) (yields_of rfl fun w1 hb1 => ?_) ?_
  · have hc1 := bcellD hb1
    have HBx := Lib.hid hb1
    clear hb1
    go_simp
    exact Det1_same
  simp only [Act.put, List.setIfInBounds_toArray, List.set_cons_zero, List.set_cons_succ]
  refine detL_val (by kernel_rfl) (yields_of rfl fun w1 hb1 => ?_) ?_
  · have hc1 := bcellD hb1
    have HBx := Lib.hid hb1
    clear hb1
    have cA := HA1.out.keep (HBx.out.block _ hab1)
    have j0 := cA.c0
    have j1 := cA.c1
    simp only at j0 j1
    clear cA
    go_simp
    exact Det1_same
  simp only [Act.put, List.setIfInBounds_toArray, List.set_cons_zero, List.set_cons_succ]
  refine detL_tail rfl (by kernel_rfl) fun w2 hw2 => ?_
  have hc2 := (bcell hw2.below).1
  have hz2 : w.heap.size < w2.heap.size := by have := hw2.below.size; simp at this; omega
  have g0 : w2.cell? ⟨w.heap.size, 0, none⟩ = some (.int .i64 0) := (hc2 _ _ (by simpa using hz1)).trans r0
  have g1 : w2.cell? ⟨w.heap.size, 1, none⟩ = some (.string ⟨#[]⟩) := (hc2 _ _ (by simpa using hz1)).trans r1
  have gf0 : w2.frozen? ⟨w.heap.size, 0, none⟩ = false := ((bcell hw2.below).2 _ _ (by simpa using hz1)).trans (HRF.out 0)
  have gf1 : w2.frozen? ⟨w.heap.size, 1, none⟩ = false := ((bcell hw2.below).2 _ _ (by simpa using hz1)).trans (HRF.out 1)
  have HB2 : Hid (Below w.heap.size w w2) := HB1.out.trans (((Below.refl w1.heap.size w1).drew.trans hw2.below).mono HB1.out.size)
  clear hw2 hc2 r0 r1
  go_wp2
  refine bodyPost_ret (v := .agg #[.int .i64 tk, .string ts]) (by simp [results, Tryz.results84, go_sem, *]) rfl ⟨rfl, ?_⟩
  exact cSet2 (by omega) HB2.out _ _

/-- The token at hand. -/
def Ny (l : List Tn) (at' : Nat) (failed : Bool) (t : Tn) : Prop :=
  (failed = true ∧ t = ⟨0, ⟨#[]⟩⟩) ∨ (failed = false ∧ at' = l.length ∧ t = ⟨0, ⟨#[]⟩⟩) ∨ (failed = false ∧ l[at']? = some t)
theorem snext_any (g : Nat) (A : Option Addr) (c : Nat) (l : List Tn) (at' : Nat) (failed : Bool) (w : World) (hz : Sz w g A c l at' failed) (hn : l.length ≤ 100000) (t : Tn) (ht : Ny l at' failed t) :
    Calls Tryz.prog 84 #[.pointer (some ⟨g, 0, none⟩)] w fun e w' => e = .returned (.agg #[.int .i64 t.k, .string t.s]) ∧ Below w.heap.size w w' := by
  rcases ht with ⟨rfl, rfl⟩ | ⟨rfl, he, rfl⟩ | ⟨rfl, hx⟩
  · exact snext_failed g A c l at' w hz
  · exact snext_end g A c l at' w hz he hn
  · exact snext_tok g A c l at' w hz t hx hn
end Go.Proofs.YtlilnbcklplmfaaGreatDoor

/- The statement parser: words that are taken, names. -/
namespace Go.Proofs.YtlilnbcklplmfaaGreatDoor
open Go.RowKit Go.Lib

/-- May a name be this text? -/
def nmB (s : ByteArray) : Bool := nameB s && !resB s
set_option maxRecDepth 100000 in
set_option maxHeartbeats 4000000 in
theorem named_any (s : ByteArray) (w : World) (hs : s.size ≤ 100000) :
    Calls Tryz.prog 137 #[.string s] w fun e w' => e = .returned (.bool (nmB s)) ∧ Below w.heap.size w w' := by
  have H1 : Hid (∀ W, Calls Tryz.prog 162 #[.string s] W fun e w' => e = .returned (.bool (nameB s)) ∧ Below W.heap.size W w') := fun W => name_any s W hs
  have H2 : Hid (∀ W, Calls Tryz.prog 163 #[.string s] W fun e w' => e = .returned (.bool (resB s)) ∧ Below W.heap.size W w') := fun W => reserved_any s W
  unfold nmB
  generalize nameB s = x at H1 ⊢
  generalize resB s = y at H2 ⊢
  cases x with
  | false =>
    go_enter Tryz.func137, Tryz.ntmps137
    go_wp2_with (go_at_call 162; refine (H1.out _).mono ?_; rintro e w1 ⟨rfl, hb1⟩; have HB1 := Lib.hid hb1; clear hb1)
    go_ret
    exact ⟨rfl, HB1.out⟩
  | true =>
    cases y with
    | false =>
      go_enter Tryz.func137, Tryz.ntmps137
      go_wp2_with (first
        | (go_at_call 162; refine (H1.out _).mono ?_; rintro e w1 ⟨rfl, hb1⟩; have HB1 := Lib.hid hb1; clear hb1)
        | (go_at_call 163; refine (H2.out _).mono ?_; rintro e w2 ⟨rfl, hb2⟩; have HB2 : Hid (Below w.heap.size w w2) := HB1.out.trans (hb2.mono HB1.out.size); clear hb2))
      go_ret
      exact ⟨rfl, HB2.out⟩
    | true =>
      go_enter Tryz.func137, Tryz.ntmps137
      go_wp2_with (first
        | (go_at_call 162; refine (H1.out _).mono ?_; rintro e w1 ⟨rfl, hb1⟩; have HB1 := Lib.hid hb1; clear hb1)
        | (go_at_call 163; refine (H2.out _).mono ?_; rintro e w2 ⟨rfl, hb2⟩; have HB2 : Hid (Below w.heap.size w w2) := HB1.out.trans (hb2.mono HB1.out.size); clear hb2))
      go_ret
      exact ⟨rfl, HB2.out⟩

/-- Word number j stands at its place. -/
def Here (l : List Tn) (at' : Nat) (failed : Bool) (ws : List ByteArray) (j : Nat) (is : Bool) : Prop := ∀ h : j < ws.length, ∃ t, Ny l (at' + j) failed t ∧ isB t ws[j] = is
theorem Wds.grown {W W' : World} {b g : Nat} {ws : List ByteArray} (h : Wds W b ws) (hg : W.grownBy W' (some g)) (hb : b ≠ g) : Wds W' b ws := fun j hj =>
  (World.cell?_of_block (w := W) (a := ⟨b, j, none⟩) (hg.block b (World.block_lt_of_cell? W _ (h j hj)) (fun e => hb (by injection e)))).trans (h j hj)
set_option maxRecDepth 100000 in
set_option maxHeartbeats 4000000 in
theorem stake_all (g : Nat) (A : Option Addr) (c : Nat) (l : List Tn) (at' : Nat) (failed : Bool) (b cap : Nat) (ws : List ByteArray) (w : World) (hz : Sz w g A c l at' failed) (hl : l.length ≤ 100000) (ha : at' ≤ 100000) (hb : b ≠ g) (hw : Wds w b ws) (hn : ws.length ≤ 1000) (hm : ∀ j, Here l at' failed ws j true) :
    Calls Tryz.prog 136 #[.pointer (some ⟨g, 0, none⟩), .slice (some ⟨b, 0, none⟩) ws.length cap] w fun e w' => e = .returned (.bool true) ∧ Sz w' g A c l (at' + ws.length) failed ∧ w.grownBy w' (some g) := by
  have HZ := Lib.hid (And.intro hz hw)
  have hbg := hb
  have HN : Hid (∀ j, j < ws.length → Here l at' failed ws j true) := fun j _ => hm j
  have hgl := hz.lt
  have d1 := hz.c1
  have HL0 := Lib.hid (And.intro hz (grow_refl w (some g)))
  obtain ⟨n, HL⟩ : ∃ n, Hid (ws.length = n) := ⟨_, Lib.hid rfl⟩
  rw [HL.out] at hn ⊢
  clear hz hw hb hm
  go_enter Tryz.func136, Tryz.ntmps136
  go_wp2_with (fail)
  clear d1
  go_loopw [14] (fun iv wr => ∃ j : Nat, j ≤ n ∧ iv = .int .i64 j ∧ Sz wr g A c l (at' + j) failed ∧ w.grownBy wr (some g)) (fun iv _ => n - (intOf iv).toNat)
  case atStart => exact ⟨0, by omega, rfl, HL0.out.1, HL0.out.2⟩
  case round =>
    obtain ⟨j, hj, rfl, hz, hg⟩ := hrel
    have hsz := hg.size
    by_cases hlt : j < n
    · have hjn : j < n := by omega
      have hH := HN.out j
      obtain ⟨t, hx, hi⟩ := hH (by rw [HL.out]; omega) (by rw [HL.out]; omega)
      have cw := (HZ.out.2.grown hg hbg) j (by rw [HL.out]; omega)
      have HX := Lib.hid (And.intro hx hi)
      have HG := Lib.hid (And.intro hz hg)
      generalize ws[j]'(by rw [HL.out]; omega) = y at cw HX
      clear hH hx hi hz hg
      go_wp2_with (first
        | (go_at_call 84; refine (snext_any g A c l (at' + j) failed _ HG.out.1 hl t HX.out.1).mono ?_; rintro e w1 ⟨rfl, hb1⟩; have HB1 := Lib.hid hb1; clear hb1)
        | (go_at_call 140; refine (is_any t y _).mono ?_; rintro e w2 ⟨rfl, hb2⟩; rw [HX.out.2]; have HB2 := Lib.hid (HB1.out.trans (hb2.mono HB1.out.size)); have HS2 := Lib.hid (HG.out.1.below HB2.out); have d1 := HS2.out.c1; have df := HS2.out.fz 1; have dl := HS2.out.lt; clear hb2))
      go_roundw
      case rel => exact ⟨j + 1, by omega, by go_num, HS2.out.goto (at' + (j + 1)), grow_trans HG.out.2 (grow_trans (grow_below HB2.out _) (grow_set _ _ _ _))⟩
      case measure => simp [intOf]; omega
    · obtain rfl : n = j := by omega
      have HG := Lib.hid (And.intro hz hg)
      clear hz hg
      go_wp2_with (fail)
      go_ret
      exact ⟨rfl, HG.out.1, HG.out.2⟩

set_option maxRecDepth 100000 in
set_option maxHeartbeats 4000000 in
theorem stake_not (g : Nat) (A : Option Addr) (c : Nat) (l : List Tn) (at' : Nat) (failed : Bool) (b cap : Nat) (ws : List ByteArray) (w : World) (hz : Sz w g A c l at' failed) (hl : l.length ≤ 100000) (ha : at' ≤ 100000) (hb : b ≠ g) (hw : Wds w b ws) (hn : ws.length ≤ 1000) (i : Nat) (hin : i < ws.length) (hm : ∀ j, j < i → Here l at' failed ws j true) (hno : Here l at' failed ws i false) :
    Calls Tryz.prog 136 #[.pointer (some ⟨g, 0, none⟩), .slice (some ⟨b, 0, none⟩) ws.length cap] w fun e w' => e = .returned (.bool false) ∧ Sz w' g A c l at' failed ∧ w.grownBy w' (some g) := by
  have HZ := Lib.hid (And.intro hz hw)
  have hbg := hb
  have HN : Hid (∀ j, j < i → Here l at' failed ws j true) := hm
  have HNO := Lib.hid hno
  have hgl := hz.lt
  have d1 := hz.c1
  have HL0 := Lib.hid (And.intro hz (grow_refl w (some g)))
  obtain ⟨n, HL⟩ : ∃ n, Hid (ws.length = n) := ⟨_, Lib.hid rfl⟩
  rw [HL.out] at hn hin ⊢
  clear hz hw hb hm hno
  go_enter Tryz.func136, Tryz.ntmps136
  go_wp2_with (fail)
  clear d1
  go_loopw [14] (fun iv wr => ∃ j : Nat, j ≤ i ∧ iv = .int .i64 j ∧ Sz wr g A c l (at' + j) failed ∧ w.grownBy wr (some g)) (fun iv _ => n - (intOf iv).toNat)
  case atStart => exact ⟨0, by omega, rfl, HL0.out.1, HL0.out.2⟩
  case round =>
    obtain ⟨j, hj, rfl, hz, hg⟩ := hrel
    have hsz := hg.size
    by_cases hlt : j < i
    · have hjn : j < n := by omega
      have hH := HN.out j
      obtain ⟨t, hx, hi⟩ := hH (by omega) (by rw [HL.out]; omega)
      have cw := (HZ.out.2.grown hg hbg) j (by rw [HL.out]; omega)
      have HX := Lib.hid (And.intro hx hi)
      have HG := Lib.hid (And.intro hz hg)
      generalize ws[j]'(by rw [HL.out]; omega) = y at cw HX
      clear hH hx hi hz hg
      go_wp2_with (first
        | (go_at_call 84; refine (snext_any g A c l (at' + j) failed _ HG.out.1 hl t HX.out.1).mono ?_; rintro e w1 ⟨rfl, hb1⟩; have HB1 := Lib.hid hb1; clear hb1)
        | (go_at_call 140; refine (is_any t y _).mono ?_; rintro e w2 ⟨rfl, hb2⟩; rw [HX.out.2]; have HB2 := Lib.hid (HB1.out.trans (hb2.mono HB1.out.size)); have HS2 := Lib.hid (HG.out.1.below HB2.out); have d1 := HS2.out.c1; have df := HS2.out.fz 1; have dl := HS2.out.lt; clear hb2))
      go_roundw
      case rel => exact ⟨j + 1, by omega, by go_num, HS2.out.goto (at' + (j + 1)), grow_trans HG.out.2 (grow_trans (grow_below HB2.out _) (grow_set _ _ _ _))⟩
      case measure => simp [intOf]; omega
    · obtain rfl : i = j := by omega
      obtain ⟨t, hx, hi⟩ := HNO.out (by rw [HL.out]; omega)
      have cw := (HZ.out.2.grown hg hbg) i (by rw [HL.out]; omega)
      have HX := Lib.hid (And.intro hx hi)
      have HG := Lib.hid (And.intro hz hg)
      generalize ws[i]'(by rw [HL.out]; omega) = y at cw HX
      clear hx hi hz hg
      go_wp2_with (first
        | (go_at_call 84; refine (snext_any g A c l (at' + i) failed _ HG.out.1 hl t HX.out.1).mono ?_; rintro e w1 ⟨rfl, hb1⟩; have HB1 := Lib.hid hb1; clear hb1)
        | (go_at_call 140; refine (is_any t y _).mono ?_; rintro e w2 ⟨rfl, hb2⟩; rw [HX.out.2]; have HB2 := Lib.hid (HB1.out.trans (hb2.mono HB1.out.size)); have HS2 := Lib.hid (HG.out.1.below HB2.out); have d1 := HS2.out.c1; have df := HS2.out.fz 1; have dl := HS2.out.lt; clear hb2))
      go_ret
      exact ⟨rfl, HS2.out.goto at', grow_trans HG.out.2 (grow_trans (grow_below HB2.out _) (grow_set _ _ _ _))⟩

end Go.Proofs.YtlilnbcklplmfaaGreatDoor

/- The statement parser: what must stand; a name; whatever stands there. -/
namespace Go.Proofs.YtlilnbcklplmfaaGreatDoor
open Go.RowKit Go.Lib

/-- A word that is taken, if it stands there. -/
theorem take1_any (g : Nat) (A : Option Addr) (c : Nat) (l : List Tn) (at' : Nat) (failed : Bool) (b cap : Nat) (wd : ByteArray) (t : Tn) (w : World) (hz : Sz w g A c l at' failed) (hl : l.length ≤ 100000) (ha : at' ≤ 100000) (hb : b ≠ g) (hw : Wds w b [wd]) (ht : Ny l at' failed t) :
    Calls Tryz.prog 136 #[.pointer (some ⟨g, 0, none⟩), .slice (some ⟨b, 0, none⟩) 1 cap] w fun e w' => e = .returned (.bool (isB t wd)) ∧ Sz w' g A c l (if isB t wd = true then at' + 1 else at') failed ∧ w.grownBy w' (some g) := by
  cases h : isB t wd with
  | true =>
    rw [if_pos rfl]
    exact stake_all g A c l at' failed b cap [wd] w hz hl ha hb hw (by simp) (fun j hj => by
      obtain rfl : j = 0 := by simp at hj; omega
      exact ⟨t, ht, h⟩)
  | false =>
    rw [if_neg (by decide)]
    exact stake_not g A c l at' failed b cap [wd] w hz hl ha hb hw (by simp) 0 (by simp) (fun j hj => absurd hj (by omega)) (fun _ => ⟨t, ht, h⟩)

set_option maxRecDepth 100000 in
set_option maxHeartbeats 4000000 in
theorem must1_any (g : Nat) (A : Option Addr) (c : Nat) (l : List Tn) (at' : Nat) (failed : Bool) (b cap : Nat) (wd : ByteArray) (t : Tn) (w : World) (hz : Sz w g A c l at' failed) (hl : l.length ≤ 100000) (ha : at' ≤ 100000) (hb : b ≠ g) (hw : Wds w b [wd]) (ht : Ny l at' failed t) :
    Calls Tryz.prog 85 #[.pointer (some ⟨g, 0, none⟩), .slice (some ⟨b, 0, none⟩) 1 cap] w fun e w' => e = .returned (.tuple #[]) ∧ Sz w' g A c l (if isB t wd = true then at' + 1 else at') (failed || !isB t wd) ∧ w.grownBy w' (some g) := by
  have H := Lib.hid (take1_any g A c l at' failed b cap wd t w hz hl ha hb hw ht)
  have hgl := hz.lt
  clear hz hl ha hw ht
  generalize isB t wd = x at H ⊢
  cases x with
  | true =>
    simp only [if_true] at H ⊢
    go_enter Tryz.func85, Tryz.ntmps85
    go_wp2_with (go_at_call 136; refine H.out.mono ?_; rintro e w1 ⟨rfl, hz1, hg1⟩; have H1 := Lib.hid (And.intro hz1 hg1); clear hz1 hg1)
    go_end0
    exact ⟨rfl, by rw [Bool.not_true, Bool.or_false]; exact H1.out.1, H1.out.2⟩
  | false =>
    simp only [Bool.false_eq_true, if_false] at H ⊢
    go_enter Tryz.func85, Tryz.ntmps85
    go_wp2_with (go_at_call 136; refine H.out.mono ?_; rintro e w1 ⟨rfl, hz1, hg1⟩; have H1 := Lib.hid (And.intro hz1 hg1); have d2 := hz1.c2; have df := hz1.fz 2; have dl := hz1.lt; clear hz1 hg1)
    go_end0
    exact ⟨rfl, by rw [Bool.not_false, Bool.or_true]; exact H1.out.1.fails, grow_trans H1.out.2 (grow_set _ _ _ _)⟩

/-- Is a token a name? -/
def isNm (t : Tn) : Bool := decide (t.k = 1) && nmB t.s
def nmOf (t : Tn) : ByteArray := if isNm t = true then t.s else ⟨#[]⟩
set_option maxRecDepth 100000 in
set_option maxHeartbeats 4000000 in
theorem sname_any (g : Nat) (A : Option Addr) (c : Nat) (l : List Tn) (at' : Nat) (failed : Bool) (t : Tn) (w : World) (hz : Sz w g A c l at' failed) (hl : l.length ≤ 100000) (ha : at' ≤ 100000) (ht : Ny l at' failed t) (hs : t.s.size ≤ 100000) :
    Calls Tryz.prog 86 #[.pointer (some ⟨g, 0, none⟩)] w fun e w' => e = .returned (.string (nmOf t)) ∧ Sz w' g A c l (if isNm t = true then at' + 1 else at') (failed || !isNm t) ∧ w.grownBy w' (some g) := by
  have HZ := Lib.hid (And.intro hz ht)
  have HN : Hid (∀ W, Calls Tryz.prog 137 #[.string t.s] W fun e w' => e = .returned (.bool (nmB t.s)) ∧ Below W.heap.size W w') := fun W => named_any _ W hs
  have hgl := hz.lt
  clear hz ht
  unfold nmOf isNm
  by_cases hk : t.k = 1
  · rw [decide_eq_true hk, Bool.true_and]
    have hkb : (t.k != 1) = false := by simp [hk]
    have HK := Lib.hid hk
    clear hk
    generalize nmB t.s = x at HN ⊢
    cases x with
    | true =>
      simp only [if_true]
      go_enter Tryz.func86, Tryz.ntmps86
      go_wp2_with (first
        | (go_at_call 84; refine (snext_any g A c l at' failed _ HZ.out.1 hl t HZ.out.2).mono ?_; rintro e w1 ⟨rfl, hb1⟩; rw [HK.out]; have HB1 := Lib.hid hb1; clear hb1)
        | (go_at_call 137; refine (HN.out _).mono ?_; rintro e w2 ⟨rfl, hb2⟩; have HB2 : Hid (Below w.heap.size w w2) := (HB1.out.alloc HB1.out.size _).trans (hb2.mono (by have := HB1.out.size; simp; omega)); have HS2 := Lib.hid (HZ.out.1.below HB2.out); have d1 := HS2.out.c1; have df := HS2.out.fz 1; have dl := HS2.out.lt; have hc2 := (bcell hb2).1; have hz2 : w1.heap.size < w2.heap.size := (by have := hb2.size; simp at this; omega); have t1 : w2.cell? ⟨w1.heap.size, 1, none⟩ = some (.string t.s) := (by rw [hc2 _ _ (by simp)]; simp [go_sem]); have hne : ¬ w1.heap.size = g := (by have := HB1.out.size; omega); clear hb2 hc2))
      go_ret
      exact ⟨rfl, by rw [Bool.not_true, Bool.or_false]; exact HS2.out.goto (at' + 1), grow_trans (grow_below HB2.out _) (grow_set _ _ _ _)⟩
    | false =>
      simp only [Bool.false_eq_true, if_false]
      go_enter Tryz.func86, Tryz.ntmps86
      go_wp2_with (first
        | (go_at_call 84; refine (snext_any g A c l at' failed _ HZ.out.1 hl t HZ.out.2).mono ?_; rintro e w1 ⟨rfl, hb1⟩; rw [HK.out]; have HB1 := Lib.hid hb1; clear hb1)
        | (go_at_call 137; refine (HN.out _).mono ?_; rintro e w2 ⟨rfl, hb2⟩; have HB2 : Hid (Below w.heap.size w w2) := (HB1.out.alloc HB1.out.size _).trans (hb2.mono (by have := HB1.out.size; simp; omega)); have HS2 := Lib.hid (HZ.out.1.below HB2.out); have d1 := HS2.out.c2; have df := HS2.out.fz 2; have dl := HS2.out.lt; clear hb2))
      go_ret
      exact ⟨rfl, by rw [Bool.not_false, Bool.or_true]; exact HS2.out.fails, grow_trans (grow_below HB2.out _) (grow_set _ _ _ _)⟩
  · rw [decide_eq_false hk, Bool.false_and]
    have hkb : (t.k != 1) = true := by simp [hk]
    clear hk
    simp only [Bool.false_eq_true, if_false]
    go_enter Tryz.func86, Tryz.ntmps86
    go_wp2_with (go_at_call 84; refine (snext_any g A c l at' failed _ HZ.out.1 hl t HZ.out.2).mono ?_; rintro e w1 ⟨rfl, hb1⟩; have HB1 : Hid (Below w.heap.size w (w1.alloc (.cells #[.int .i64 t.k, .string t.s] 89))) := hb1.alloc hb1.size _; have HS2 := Lib.hid (HZ.out.1.below HB1.out); have d1 := HS2.out.c2; have df := HS2.out.fz 2; have dl := HS2.out.lt; clear hb1)
    go_ret
    exact ⟨rfl, by rw [Bool.not_false, Bool.or_true]; exact HS2.out.fails, grow_trans (grow_below HB1.out _) (grow_set _ _ _ _)⟩
end Go.Proofs.YtlilnbcklplmfaaGreatDoor

/- The statement parser: rights. -/
namespace Go.Proofs.YtlilnbcklplmfaaGreatDoor
open Go.RowKit Go.Lib

theorem any_set {W : World} {b : Nat} {cs : Array Value} {t : TypeId} (h : W.heap[b]? = some (.cells cs t (0, 0))) (i : Nat) (x : Value) : (W.setCell ⟨b, i, none⟩ x).heap[b]? = some (.cells (cs.setIfInBounds i x) t (0, 0)) := by
  have hlt := lt_of_block h
  have h' : W.heap[b] = .cells cs t (0, 0) := by simpa [Array.getElem?_eq_getElem hlt] using h
  show (W.heap.modify b _)[b]? = _
  rw [Array.getElem?_eq_getElem (by simpa using hlt), Array.getElem_modify_self, h']
  rfl
theorem stSize : (Tryz.prog.info? 34).map (·.size) = some 23 := by kernel_rfl
theorem Sz.row {W : World} {g : Nat} {A : Option Addr} {c : Nat} {l : List Tn} {at' : Nat} {failed : Bool} (h : Sz W g A c l at' failed) {b : Nat} (cs : Array Value) (hb : g < b) : Sz (W.setRow b cs) g A c l at' failed :=
  h.keep (fun q hq => setRow_other _ _ _ _ (by omega)) fun w0 hw k => ⟨k.os, k.tape, k.output, by rw [setRow_size]; exact k.size, fun q hq => (setRow_other _ _ _ _ (by omega)).trans (k.block q hq)⟩
theorem grow_row {w W : World} {g b : Nat} (cs : Array Value) (h : w.grownBy W (some g)) (hb : w.heap.size ≤ b) : w.grownBy (W.setRow b cs) (some g) :=
  ⟨h.os, h.tape, h.output, by rw [setRow_size]; exact h.size, fun k hk hn => (setRow_other _ _ _ _ (by omega)).trans (h.block k hk hn)⟩
/-- The statement of a right. -/
def rtC (op tb ro : ByteArray) : Array Value := #[.string op, .string tb, .string ⟨#[]⟩, .slice none 0 0, .slice none 0 0, .string ⟨#[]⟩, .slice none 0 0, .slice none 0 0, .string ⟨#[]⟩, .int .i64 0, .int .i64 0, .string ⟨#[]⟩, .string ⟨#[]⟩, .slice none 0 0, .slice none 0 0, .slice none 0 0, .string ⟨#[]⟩, .int .i64 0, .int .i64 0, .string ⟨#[]⟩, .string ⟨#[]⟩, .slice none 0 0, .string ro]
theorem rt_one (op tb ro : ByteArray) : (#[.string op, .string tb, .string ⟨#[]⟩, .slice none 0 0, .slice none 0 0, .string ⟨#[]⟩, .slice none 0 0, .slice none 0 0, .string ⟨#[]⟩, .int .i64 0, .int .i64 0, .string ⟨#[]⟩, .string ⟨#[]⟩, .slice none 0 0, .slice none 0 0, .slice none 0 0, .string ⟨#[]⟩, .int .i64 0, .int .i64 0, .string ⟨#[]⟩, .string ⟨#[]⟩, .slice none 0 0, .string ro] : Array Value).all (·.oneCell') = true := by simp [Value.oneCell']
structure Rt (w : World) (g : Nat) (A : Option Addr) (c : Nat) (l : List Tn) (op tb ro : ByteArray) (at' : Nat) (failed : Bool) (W : World) : Prop where
  sz : Sz W g A c l at' failed
  gr : w.grownBy W (some g)
  lg : g < w.heap.size
  box : W.heap[w.heap.size + 1]? = some (.cells #[.string op, .string tb, .string ⟨#[]⟩, .slice none 0 0, .slice none 0 0, .string ⟨#[]⟩, .slice none 0 0, .slice none 0 0, .string ⟨#[]⟩, .int .i64 0, .int .i64 0, .string ⟨#[]⟩, .string ⟨#[]⟩, .slice none 0 0, .slice none 0 0, .slice none 0 0, .string ⟨#[]⟩, .int .i64 0, .int .i64 0, .string ⟨#[]⟩, .string ⟨#[]⟩, .slice none 0 0, .string ro] 34 (0, 0))
  res : W.heap[w.heap.size]? = some (.cells #[.string ⟨#[]⟩, .string ⟨#[]⟩, .string ⟨#[]⟩, .slice none 0 0, .slice none 0 0, .string ⟨#[]⟩, .slice none 0 0, .slice none 0 0, .string ⟨#[]⟩, .int .i64 0, .int .i64 0, .string ⟨#[]⟩, .string ⟨#[]⟩, .slice none 0 0, .slice none 0 0, .slice none 0 0, .string ⟨#[]⟩, .int .i64 0, .int .i64 0, .string ⟨#[]⟩, .string ⟨#[]⟩, .slice none 0 0, .string ⟨#[]⟩] 34 (0, 0))
section
variable {w W W' : World} {g : Nat} {A : Option Addr} {c : Nat} {l : List Tn} {op tb ro : ByteArray} {at' at2 : Nat} {failed f2 : Bool}
theorem Rt.lt (h : Rt w g A c l op tb ro at' failed W) : w.heap.size + 1 < W.heap.size := lt_of_block h.box
theorem Rt.call (h : Rt w g A c l op tb ro at' failed W) (hs : Sz W' g A c l at2 f2) (hg : W.grownBy W' (some g)) : Rt w g A c l op tb ro at2 f2 W' := by
  have h1 := h.lt
  have h2 := h.lg
  exact ⟨hs, grow_trans h.gr hg, h.lg, (hg.block _ h1 (fun e => by injection e with e; omega)).trans h.box, (hg.block _ (by omega) (fun e => by injection e with e; omega)).trans h.res⟩
theorem Rt.alloc (h : Rt w g A c l op tb ro at' failed W) (o : Obj) : Rt w g A c l op tb ro at' failed (W.alloc o) := h.call (h.sz.alloc o) (grow_alloc _ _ _)
theorem Rt.setOp (h : Rt w g A c l op tb ro at' failed W) (s : ByteArray) : Rt w g A c l s tb ro at' failed (W.setCell ⟨w.heap.size + 1, 0, none⟩ (.string s)) := by
  have h2 := h.lg
  exact ⟨h.sz.other _ (by omega), grow_setn h.gr (by omega), h.lg, any_set h.box 0 _, (Below.heap_setCell _ _ _ _ (by show w.heap.size ≠ w.heap.size + 1; omega)).trans h.res⟩
theorem Rt.setTb (h : Rt w g A c l op tb ro at' failed W) (s : ByteArray) : Rt w g A c l op s ro at' failed (W.setCell ⟨w.heap.size + 1, 1, none⟩ (.string s)) := by
  have h2 := h.lg
  exact ⟨h.sz.other _ (by omega), grow_setn h.gr (by omega), h.lg, any_set h.box 1 _, (Below.heap_setCell _ _ _ _ (by show w.heap.size ≠ w.heap.size + 1; omega)).trans h.res⟩
theorem Rt.setRo (h : Rt w g A c l op tb ro at' failed W) (s : ByteArray) : Rt w g A c l op tb s at' failed (W.setCell ⟨w.heap.size + 1, 22, none⟩ (.string s)) := by
  have h2 := h.lg
  exact ⟨h.sz.other _ (by omega), grow_setn h.gr (by omega), h.lg, any_set h.box 22 _, (Below.heap_setCell _ _ _ _ (by show w.heap.size ≠ w.heap.size + 1; omega)).trans h.res⟩
end
theorem word_at {W : World} (wd : ByteArray) (t : TypeId) : Wds (W.alloc (.cells #[.string wd] t)) W.heap.size [wd] := fun j hj => by
  obtain rfl : j = 0 := by simp at hj; omega
  simp [go_sem]
theorem Rt.start {w : World} {g : Nat} {A : Option Addr} {c : Nat} {l : List Tn} {at' : Nat} {failed : Bool} (hz : Sz w g A c l at' failed) (op : ByteArray) :
    Rt w g A c l op ⟨#[]⟩ ⟨#[]⟩ at' failed (((w.alloc (.cells #[.string ⟨#[]⟩, .string ⟨#[]⟩, .string ⟨#[]⟩, .slice none 0 0, .slice none 0 0, .string ⟨#[]⟩, .slice none 0 0, .slice none 0 0, .string ⟨#[]⟩, .int .i64 0, .int .i64 0, .string ⟨#[]⟩, .string ⟨#[]⟩, .slice none 0 0, .slice none 0 0, .slice none 0 0, .string ⟨#[]⟩, .int .i64 0, .int .i64 0, .string ⟨#[]⟩, .string ⟨#[]⟩, .slice none 0 0, .string ⟨#[]⟩] 34)).alloc (.cells #[.string ⟨#[]⟩, .string ⟨#[]⟩, .string ⟨#[]⟩, .slice none 0 0, .slice none 0 0, .string ⟨#[]⟩, .slice none 0 0, .slice none 0 0, .string ⟨#[]⟩, .int .i64 0, .int .i64 0, .string ⟨#[]⟩, .string ⟨#[]⟩, .slice none 0 0, .slice none 0 0, .slice none 0 0, .string ⟨#[]⟩, .int .i64 0, .int .i64 0, .string ⟨#[]⟩, .string ⟨#[]⟩, .slice none 0 0, .string ⟨#[]⟩] 34)).setRow (w.heap.size + 1) #[.string op, .string ⟨#[]⟩, .string ⟨#[]⟩, .slice none 0 0, .slice none 0 0, .string ⟨#[]⟩, .slice none 0 0, .slice none 0 0, .string ⟨#[]⟩, .int .i64 0, .int .i64 0, .string ⟨#[]⟩, .string ⟨#[]⟩, .slice none 0 0, .slice none 0 0, .slice none 0 0, .string ⟨#[]⟩, .int .i64 0, .int .i64 0, .string ⟨#[]⟩, .string ⟨#[]⟩, .slice none 0 0, .string ⟨#[]⟩]) :=
  have hb : ((w.alloc (.cells #[.string ⟨#[]⟩, .string ⟨#[]⟩, .string ⟨#[]⟩, .slice none 0 0, .slice none 0 0, .string ⟨#[]⟩, .slice none 0 0, .slice none 0 0, .string ⟨#[]⟩, .int .i64 0, .int .i64 0, .string ⟨#[]⟩, .string ⟨#[]⟩, .slice none 0 0, .slice none 0 0, .slice none 0 0, .string ⟨#[]⟩, .int .i64 0, .int .i64 0, .string ⟨#[]⟩, .string ⟨#[]⟩, .slice none 0 0, .string ⟨#[]⟩] 34)).alloc (.cells #[.string ⟨#[]⟩, .string ⟨#[]⟩, .string ⟨#[]⟩, .slice none 0 0, .slice none 0 0, .string ⟨#[]⟩, .slice none 0 0, .slice none 0 0, .string ⟨#[]⟩, .int .i64 0, .int .i64 0, .string ⟨#[]⟩, .string ⟨#[]⟩, .slice none 0 0, .slice none 0 0, .slice none 0 0, .string ⟨#[]⟩, .int .i64 0, .int .i64 0, .string ⟨#[]⟩, .string ⟨#[]⟩, .slice none 0 0, .string ⟨#[]⟩] 34)).heap[w.heap.size + 1]? = some (.cells #[.string ⟨#[]⟩, .string ⟨#[]⟩, .string ⟨#[]⟩, .slice none 0 0, .slice none 0 0, .string ⟨#[]⟩, .slice none 0 0, .slice none 0 0, .string ⟨#[]⟩, .int .i64 0, .int .i64 0, .string ⟨#[]⟩, .string ⟨#[]⟩, .slice none 0 0, .slice none 0 0, .slice none 0 0, .string ⟨#[]⟩, .int .i64 0, .int .i64 0, .string ⟨#[]⟩, .string ⟨#[]⟩, .slice none 0 0, .string ⟨#[]⟩] 34 (0, 0)) := alloc_at (by simp) _
  have hl := hz.lt
  ⟨((hz.alloc _).alloc _).row _ (by omega), grow_row _ (grow_trans (grow_alloc _ _ _) (grow_alloc _ _ _)) (by omega), hl, setRow_heap _ _ _ _ _ _ hb, (setRow_other _ _ _ _ (by omega)).trans ((Below.heap_alloc _ _ _ (by simp)).trans (alloc_at rfl _))⟩
set_option maxRecDepth 100000 in
set_option maxHeartbeats 4000000 in
theorem right_read (g : Nat) (A : Option Addr) (c : Nat) (l : List Tn) (at' : Nat) (failed : Bool) (rd wr ah : ByteArray) (t1 t2 t3 t4 t5 : Tn) (at1 at2 at3 at4 at5 : Nat) (f1 f2 f3 f4 f5 : Bool) (w : World) (hz : Sz w g A c l at' failed) (hl : l.length ≤ 100000) (ha : at' ≤ 1000)
    (n1 : Ny l at' failed t1) (h1 : isB t1 ⟨#[82, 69, 65, 68]⟩ = true) (e1 : at1 = at' + 1 ∧ f1 = failed)
    (n2 : Ny l at1 f1 t2) (e2 : at2 = (if isB t2 ⟨#[79, 78]⟩ = true then at1 + 1 else at1) ∧ f2 = (f1 || !isB t2 ⟨#[79, 78]⟩))
    (n3 : Ny l at2 f2 t3) (s3 : t3.s.size ≤ 100000) (e3 : at3 = (if isNm t3 = true then at2 + 1 else at2) ∧ f3 = (f2 || !isNm t3))
    (n4 : Ny l at3 f3 t4) (e4 : at4 = (if isB t4 ah = true then at3 + 1 else at3) ∧ f4 = (f3 || !isB t4 ah))
    (n5 : Ny l at4 f4 t5) (s5 : t5.s.size ≤ 100000) (e5 : at5 = (if isNm t5 = true then at4 + 1 else at4) ∧ f5 = (f4 || !isNm t5)) :
    Calls Tryz.prog 97 #[.pointer (some ⟨g, 0, none⟩), .string rd, .string wr, .string ah] w fun e w' => e = .returned (.agg (rtC rd (nmOf t3) (nmOf t5))) ∧ Sz w' g A c l at5 f5 ∧ w.grownBy w' (some g) := by
  have hgl := hz.lt
  have HZ := Lib.hid hz
  have b1' : at1 ≤ 1001 := by rw [e1.1]; omega
  have b2' : at2 ≤ 1002 := by rw [e2.1]; split <;> omega
  have b3' : at3 ≤ 1003 := by rw [e3.1]; split <;> omega
  have b4' : at4 ≤ 1004 := by rw [e4.1]; split <;> omega
  have N1 := Lib.hid n1
  have N2 := Lib.hid n2
  have N3 := Lib.hid n3
  have N4 := Lib.hid n4
  have N5 := Lib.hid n5
  have E1 := Lib.hid e1
  have E2 := Lib.hid e2
  have E3 := Lib.hid e3
  have E4 := Lib.hid e4
  have E5 := Lib.hid e5
  have HB1 := Lib.hid h1
  clear hz n1 n2 n3 n4 n5 e1 e2 e3 e4 e5 h1
  go_enter Tryz.func97, Tryz.ntmps97
  have hbx : ((w.alloc (.cells #[.string ⟨#[]⟩, .string ⟨#[]⟩, .string ⟨#[]⟩, .slice none 0 0, .slice none 0 0, .string ⟨#[]⟩, .slice none 0 0, .slice none 0 0, .string ⟨#[]⟩, .int .i64 0, .int .i64 0, .string ⟨#[]⟩, .string ⟨#[]⟩, .slice none 0 0, .slice none 0 0, .slice none 0 0, .string ⟨#[]⟩, .int .i64 0, .int .i64 0, .string ⟨#[]⟩, .string ⟨#[]⟩, .slice none 0 0, .string ⟨#[]⟩] 34)).alloc (.cells #[.string ⟨#[]⟩, .string ⟨#[]⟩, .string ⟨#[]⟩, .slice none 0 0, .slice none 0 0, .string ⟨#[]⟩, .slice none 0 0, .slice none 0 0, .string ⟨#[]⟩, .int .i64 0, .int .i64 0, .string ⟨#[]⟩, .string ⟨#[]⟩, .slice none 0 0, .slice none 0 0, .slice none 0 0, .string ⟨#[]⟩, .int .i64 0, .int .i64 0, .string ⟨#[]⟩, .string ⟨#[]⟩, .slice none 0 0, .string ⟨#[]⟩] 34)).heap[w.heap.size + 1]? = some (.cells #[.string ⟨#[]⟩, .string ⟨#[]⟩, .string ⟨#[]⟩, .slice none 0 0, .slice none 0 0, .string ⟨#[]⟩, .slice none 0 0, .slice none 0 0, .string ⟨#[]⟩, .int .i64 0, .int .i64 0, .string ⟨#[]⟩, .string ⟨#[]⟩, .slice none 0 0, .slice none 0 0, .slice none 0 0, .string ⟨#[]⟩, .int .i64 0, .int .i64 0, .string ⟨#[]⟩, .string ⟨#[]⟩, .slice none 0 0, .string ⟨#[]⟩] 34 (0, 0)) := alloc_at (by simp) _
  go_upto_region 2 with (first
    | (refine wpList_buildTo rfl 34 _ rfl _ rfl #[.string rd, .string ⟨#[]⟩, .string ⟨#[]⟩, .slice none 0 0, .slice none 0 0, .string ⟨#[]⟩, .slice none 0 0, .slice none 0 0, .string ⟨#[]⟩, .int .i64 0, .int .i64 0, .string ⟨#[]⟩, .string ⟨#[]⟩, .slice none 0 0, .slice none 0 0, .slice none 0 0, .string ⟨#[]⟩, .int .i64 0, .int .i64 0, .string ⟨#[]⟩, .string ⟨#[]⟩, .slice none 0 0, .string ⟨#[]⟩] (by as_aux_lemma => kernel_rfl) ?_)
    | (refine wpList_store_row rfl 34 (.tmp 9) (.tmp 11) rfl (w.heap.size + 1) #[.string rd, .string ⟨#[]⟩, .string ⟨#[]⟩, .slice none 0 0, .slice none 0 0, .string ⟨#[]⟩, .slice none 0 0, .slice none 0 0, .string ⟨#[]⟩, .int .i64 0, .int .i64 0, .string ⟨#[]⟩, .string ⟨#[]⟩, .slice none 0 0, .slice none 0 0, .slice none 0 0, .string ⟨#[]⟩, .int .i64 0, .int .i64 0, .string ⟨#[]⟩, .string ⟨#[]⟩, .slice none 0 0, .string ⟨#[]⟩] rfl rfl 34 _ hbx stSize rfl (rt_one _ _ _) ?_))
  clear hbx
  refine wp_gen (Rt w g A c l rd ⟨#[]⟩ ⟨#[]⟩ at' failed) (Rt.start HZ.out rd) fun w0 h0 => ?_
  have H0 := Lib.hid h0
  clear h0
  generalize Value.agg #[.string rd, .string ⟨#[]⟩, .string ⟨#[]⟩, .slice none 0 0, .slice none 0 0, .string ⟨#[]⟩, .slice none 0 0, .slice none 0 0, .string ⟨#[]⟩, .int .i64 0, .int .i64 0, .string ⟨#[]⟩, .string ⟨#[]⟩, .slice none 0 0, .slice none 0 0, .slice none 0 0, .string ⟨#[]⟩, .int .i64 0, .int .i64 0, .string ⟨#[]⟩, .string ⟨#[]⟩, .slice none 0 0, .string ⟨#[]⟩] = v11
  go_upto_region 6 with (first
    | (go_at_call 136; (with_reducible refine (take1_any g A c l at' failed w0.heap.size 1 ⟨#[82, 69, 65, 68]⟩ t1 (w0.alloc (.cells #[.string ⟨#[82, 69, 65, 68]⟩] 9)) (H0.out.sz.alloc _) hl (by omega) (by have := H0.out.sz.lt; omega) (word_at _ _) N1.out).mono ?_); rintro e w1 ⟨rfl, hz1, hg1⟩; rw [HB1.out] at hz1 ⊢; rw [if_pos rfl, ← E1.out.1, ← E1.out.2] at hz1; have H1 := Lib.hid ((H0.out.alloc _).call hz1 hg1); clear hz1 hg1; have bf := Lib.frozen_of_heap H1.out.box; have b0 := Lib.cell_of_heap H1.out.box 0; have b1 := Lib.cell_of_heap H1.out.box 1; have b22 := Lib.cell_of_heap H1.out.box 22; have bl := H1.out.lt; simp only [List.getElem?_toArray, List.getElem?_cons_zero, List.getElem?_cons_succ] at b0 b1 b22)
    | (go_at_call 85; (with_reducible refine (must1_any g A c l at1 f1 w1.heap.size 1 ⟨#[79, 78]⟩ t2 (w1.alloc (.cells #[.string ⟨#[79, 78]⟩] 9)) (H1.out.sz.alloc _) hl (by omega) (by have := H1.out.sz.lt; omega) (word_at _ _) N2.out).mono ?_); rintro e w3 ⟨rfl, hz3, hg3⟩; rw [← E2.out.1, ← E2.out.2] at hz3; have H3 := Lib.hid ((H1.out.alloc _).call hz3 hg3); clear hz3 hg3; have bf := Lib.frozen_of_heap H3.out.box; have b0 := Lib.cell_of_heap H3.out.box 0; have b1 := Lib.cell_of_heap H3.out.box 1; have b22 := Lib.cell_of_heap H3.out.box 22; have bl := H3.out.lt; simp only [List.getElem?_toArray, List.getElem?_cons_zero, List.getElem?_cons_succ] at b0 b1 b22))
  go_upto_region 7 with (go_at_call 86; (with_reducible refine (sname_any g A c l at2 f2 t3 w3 H3.out.sz hl (by omega) N3.out s3).mono ?_); rintro e w4 ⟨rfl, hz4, hg4⟩; rw [← E3.out.1, ← E3.out.2] at hz4; have H4 := Lib.hid (H3.out.call hz4 hg4); clear hz4 hg4; have bf := Lib.frozen_of_heap H4.out.box; have b0 := Lib.cell_of_heap H4.out.box 0; have b1 := Lib.cell_of_heap H4.out.box 1; have b22 := Lib.cell_of_heap H4.out.box 22; have bl := H4.out.lt; simp only [List.getElem?_toArray, List.getElem?_cons_zero, List.getElem?_cons_succ] at b0 b1 b22)
  refine wp_gen (Rt w g A c l rd (nmOf t3) ⟨#[]⟩ at3 f3) (H4.out.setTb _) fun w5 h5 => ?_
  have H5 := Lib.hid h5
  clear h5 bf b0 b1 b22 bl
  go_upto_region 8 with (go_at_call 85; (with_reducible refine (must1_any g A c l at3 f3 w5.heap.size 1 ah t4 (w5.alloc (.cells #[.string ah] 9)) (H5.out.sz.alloc _) hl (by omega) (by have := H5.out.sz.lt; omega) (word_at _ _) N4.out).mono ?_); rintro e w6 ⟨rfl, hz6, hg6⟩; rw [← E4.out.1, ← E4.out.2] at hz6; have H6 := Lib.hid ((H5.out.alloc _).call hz6 hg6); clear hz6 hg6; have bf := Lib.frozen_of_heap H6.out.box; have b0 := Lib.cell_of_heap H6.out.box 0; have b1 := Lib.cell_of_heap H6.out.box 1; have b22 := Lib.cell_of_heap H6.out.box 22; have bl := H6.out.lt; simp only [List.getElem?_toArray, List.getElem?_cons_zero, List.getElem?_cons_succ] at b0 b1 b22)
  go_upto_region 9 with (go_at_call 86; (with_reducible refine (sname_any g A c l at4 f4 t5 w6 H6.out.sz hl (by omega) N5.out s5).mono ?_); rintro e w7 ⟨rfl, hz7, hg7⟩; rw [← E5.out.1, ← E5.out.2] at hz7; have H7 := Lib.hid (H6.out.call hz7 hg7); clear hz7 hg7; have bf := Lib.frozen_of_heap H7.out.box; have b0 := Lib.cell_of_heap H7.out.box 0; have b1 := Lib.cell_of_heap H7.out.box 1; have b22 := Lib.cell_of_heap H7.out.box 22; have bl := H7.out.lt; simp only [List.getElem?_toArray, List.getElem?_cons_zero, List.getElem?_cons_succ] at b0 b1 b22)
  refine wp_gen (Rt w g A c l rd (nmOf t3) (nmOf t5) at5 f5) (H7.out.setRo _) fun w8 h8 => ?_
  have H8 := Lib.hid h8
  clear h8 bf b0 b1 b22 bl
  have bl := H8.out.lt
  go_wp2_with (first
    | (refine wpList_load_row rfl 34 (.tmp 9) rfl (w.heap.size + 1) rfl 34 #[.string rd, .string (nmOf t3), .string ⟨#[]⟩, .slice none 0 0, .slice none 0 0, .string ⟨#[]⟩, .slice none 0 0, .slice none 0 0, .string ⟨#[]⟩, .int .i64 0, .int .i64 0, .string ⟨#[]⟩, .string ⟨#[]⟩, .slice none 0 0, .slice none 0 0, .slice none 0 0, .string ⟨#[]⟩, .int .i64 0, .int .i64 0, .string ⟨#[]⟩, .string ⟨#[]⟩, .slice none 0 0, .string (nmOf t5)] (0, 0) _ H8.out.box Tryz.underlying34 rfl stSize ?_)
    | (refine wpList_store_row rfl 34 (.tmp 8) (.tmp 34) rfl w.heap.size #[.string rd, .string (nmOf t3), .string ⟨#[]⟩, .slice none 0 0, .slice none 0 0, .string ⟨#[]⟩, .slice none 0 0, .slice none 0 0, .string ⟨#[]⟩, .int .i64 0, .int .i64 0, .string ⟨#[]⟩, .string ⟨#[]⟩, .slice none 0 0, .slice none 0 0, .slice none 0 0, .string ⟨#[]⟩, .int .i64 0, .int .i64 0, .string ⟨#[]⟩, .string ⟨#[]⟩, .slice none 0 0, .string (nmOf t5)] rfl rfl 34 _ H8.out.res stSize rfl (rt_one _ _ _) ?_))
  refine bodyPost_ret (results_cell_row rfl _ _ w.heap.size 34 #[.string rd, .string (nmOf t3), .string ⟨#[]⟩, .slice none 0 0, .slice none 0 0, .string ⟨#[]⟩, .slice none 0 0, .slice none 0 0, .string ⟨#[]⟩, .int .i64 0, .int .i64 0, .string ⟨#[]⟩, .string ⟨#[]⟩, .slice none 0 0, .slice none 0 0, .slice none 0 0, .string ⟨#[]⟩, .int .i64 0, .int .i64 0, .string ⟨#[]⟩, .string ⟨#[]⟩, .slice none 0 0, .string (nmOf t5)] (0, 0) _ rfl (setRow_heap _ _ _ _ _ _ H8.out.res) Tryz.underlying34 rfl stSize) rfl ⟨rfl, H8.out.sz.row _ H8.out.lg, grow_row _ H8.out.gr (Nat.le_refl _)⟩

set_option maxRecDepth 100000 in
set_option maxHeartbeats 4000000 in
theorem right_write (g : Nat) (A : Option Addr) (c : Nat) (l : List Tn) (at' : Nat) (failed : Bool) (rd wr ah : ByteArray) (t1 t2 t3 t4 t5 : Tn) (at1 at2 at3 at4 at5 : Nat) (f1 f2 f3 f4 f5 : Bool) (w : World) (hz : Sz w g A c l at' failed) (hl : l.length ≤ 100000) (ha : at' ≤ 1000)
    (n1 : Ny l at' failed t1) (h1 : isB t1 ⟨#[82, 69, 65, 68]⟩ = false) (e1 : at1 = (if isB t1 ⟨#[87, 82, 73, 84, 69]⟩ = true then at' + 1 else at') ∧ f1 = (failed || !isB t1 ⟨#[87, 82, 73, 84, 69]⟩))
    (n2 : Ny l at1 f1 t2) (e2 : at2 = (if isB t2 ⟨#[79, 78]⟩ = true then at1 + 1 else at1) ∧ f2 = (f1 || !isB t2 ⟨#[79, 78]⟩))
    (n3 : Ny l at2 f2 t3) (s3 : t3.s.size ≤ 100000) (e3 : at3 = (if isNm t3 = true then at2 + 1 else at2) ∧ f3 = (f2 || !isNm t3))
    (n4 : Ny l at3 f3 t4) (e4 : at4 = (if isB t4 ah = true then at3 + 1 else at3) ∧ f4 = (f3 || !isB t4 ah))
    (n5 : Ny l at4 f4 t5) (s5 : t5.s.size ≤ 100000) (e5 : at5 = (if isNm t5 = true then at4 + 1 else at4) ∧ f5 = (f4 || !isNm t5)) :
    Calls Tryz.prog 97 #[.pointer (some ⟨g, 0, none⟩), .string rd, .string wr, .string ah] w fun e w' => e = .returned (.agg (rtC wr (nmOf t3) (nmOf t5))) ∧ Sz w' g A c l at5 f5 ∧ w.grownBy w' (some g) := by
  have hgl := hz.lt
  have HZ := Lib.hid hz
  have b1' : at1 ≤ 1001 := by rw [e1.1]; split <;> omega
  have b2' : at2 ≤ 1002 := by rw [e2.1]; split <;> omega
  have b3' : at3 ≤ 1003 := by rw [e3.1]; split <;> omega
  have b4' : at4 ≤ 1004 := by rw [e4.1]; split <;> omega
  have N1 := Lib.hid n1
  have N2 := Lib.hid n2
  have N3 := Lib.hid n3
  have N4 := Lib.hid n4
  have N5 := Lib.hid n5
  have E1 := Lib.hid e1
  have E2 := Lib.hid e2
  have E3 := Lib.hid e3
  have E4 := Lib.hid e4
  have E5 := Lib.hid e5
  have HB1 := Lib.hid h1
  clear hz n1 n2 n3 n4 n5 e1 e2 e3 e4 e5 h1
  go_enter Tryz.func97, Tryz.ntmps97
  have hbx : ((w.alloc (.cells #[.string ⟨#[]⟩, .string ⟨#[]⟩, .string ⟨#[]⟩, .slice none 0 0, .slice none 0 0, .string ⟨#[]⟩, .slice none 0 0, .slice none 0 0, .string ⟨#[]⟩, .int .i64 0, .int .i64 0, .string ⟨#[]⟩, .string ⟨#[]⟩, .slice none 0 0, .slice none 0 0, .slice none 0 0, .string ⟨#[]⟩, .int .i64 0, .int .i64 0, .string ⟨#[]⟩, .string ⟨#[]⟩, .slice none 0 0, .string ⟨#[]⟩] 34)).alloc (.cells #[.string ⟨#[]⟩, .string ⟨#[]⟩, .string ⟨#[]⟩, .slice none 0 0, .slice none 0 0, .string ⟨#[]⟩, .slice none 0 0, .slice none 0 0, .string ⟨#[]⟩, .int .i64 0, .int .i64 0, .string ⟨#[]⟩, .string ⟨#[]⟩, .slice none 0 0, .slice none 0 0, .slice none 0 0, .string ⟨#[]⟩, .int .i64 0, .int .i64 0, .string ⟨#[]⟩, .string ⟨#[]⟩, .slice none 0 0, .string ⟨#[]⟩] 34)).heap[w.heap.size + 1]? = some (.cells #[.string ⟨#[]⟩, .string ⟨#[]⟩, .string ⟨#[]⟩, .slice none 0 0, .slice none 0 0, .string ⟨#[]⟩, .slice none 0 0, .slice none 0 0, .string ⟨#[]⟩, .int .i64 0, .int .i64 0, .string ⟨#[]⟩, .string ⟨#[]⟩, .slice none 0 0, .slice none 0 0, .slice none 0 0, .string ⟨#[]⟩, .int .i64 0, .int .i64 0, .string ⟨#[]⟩, .string ⟨#[]⟩, .slice none 0 0, .string ⟨#[]⟩] 34 (0, 0)) := alloc_at (by simp) _
  go_upto_region 2 with (first
    | (refine wpList_buildTo rfl 34 _ rfl _ rfl #[.string rd, .string ⟨#[]⟩, .string ⟨#[]⟩, .slice none 0 0, .slice none 0 0, .string ⟨#[]⟩, .slice none 0 0, .slice none 0 0, .string ⟨#[]⟩, .int .i64 0, .int .i64 0, .string ⟨#[]⟩, .string ⟨#[]⟩, .slice none 0 0, .slice none 0 0, .slice none 0 0, .string ⟨#[]⟩, .int .i64 0, .int .i64 0, .string ⟨#[]⟩, .string ⟨#[]⟩, .slice none 0 0, .string ⟨#[]⟩] (by as_aux_lemma => kernel_rfl) ?_)
    | (refine wpList_store_row rfl 34 (.tmp 9) (.tmp 11) rfl (w.heap.size + 1) #[.string rd, .string ⟨#[]⟩, .string ⟨#[]⟩, .slice none 0 0, .slice none 0 0, .string ⟨#[]⟩, .slice none 0 0, .slice none 0 0, .string ⟨#[]⟩, .int .i64 0, .int .i64 0, .string ⟨#[]⟩, .string ⟨#[]⟩, .slice none 0 0, .slice none 0 0, .slice none 0 0, .string ⟨#[]⟩, .int .i64 0, .int .i64 0, .string ⟨#[]⟩, .string ⟨#[]⟩, .slice none 0 0, .string ⟨#[]⟩] rfl rfl 34 _ hbx stSize rfl (rt_one _ _ _) ?_))
  clear hbx
  refine wp_gen (Rt w g A c l rd ⟨#[]⟩ ⟨#[]⟩ at' failed) (Rt.start HZ.out rd) fun w0 h0 => ?_
  have H0 := Lib.hid h0
  clear h0
  generalize Value.agg #[.string rd, .string ⟨#[]⟩, .string ⟨#[]⟩, .slice none 0 0, .slice none 0 0, .string ⟨#[]⟩, .slice none 0 0, .slice none 0 0, .string ⟨#[]⟩, .int .i64 0, .int .i64 0, .string ⟨#[]⟩, .string ⟨#[]⟩, .slice none 0 0, .slice none 0 0, .slice none 0 0, .string ⟨#[]⟩, .int .i64 0, .int .i64 0, .string ⟨#[]⟩, .string ⟨#[]⟩, .slice none 0 0, .string ⟨#[]⟩] = v11
  go_upto_region 5 with (first
    | (go_at_call 136; (with_reducible refine (take1_any g A c l at' failed w0.heap.size 1 ⟨#[82, 69, 65, 68]⟩ t1 (w0.alloc (.cells #[.string ⟨#[82, 69, 65, 68]⟩] 9)) (H0.out.sz.alloc _) hl (by omega) (by have := H0.out.sz.lt; omega) (word_at _ _) N1.out).mono ?_); rintro e w1 ⟨rfl, hz1, hg1⟩; rw [HB1.out] at hz1 ⊢; rw [if_neg (by decide)] at hz1; have H1 := Lib.hid ((H0.out.alloc _).call hz1 hg1); clear hz1 hg1; have bf := Lib.frozen_of_heap H1.out.box; have b0 := Lib.cell_of_heap H1.out.box 0; have b1 := Lib.cell_of_heap H1.out.box 1; have b22 := Lib.cell_of_heap H1.out.box 22; have bl := H1.out.lt; simp only [List.getElem?_toArray, List.getElem?_cons_zero, List.getElem?_cons_succ] at b0 b1 b22)
    | (go_at_call 85; (with_reducible refine (must1_any g A c l at' failed w1.heap.size 1 ⟨#[87, 82, 73, 84, 69]⟩ t1 (w1.alloc (.cells #[.string ⟨#[87, 82, 73, 84, 69]⟩] 9)) (H1.out.sz.alloc _) hl (by omega) (by have := H1.out.sz.lt; omega) (word_at _ _) N1.out).mono ?_); rintro e w2 ⟨rfl, hz2, hg2⟩; rw [← E1.out.1, ← E1.out.2] at hz2; have H2 := Lib.hid ((H1.out.alloc _).call hz2 hg2); clear hz2 hg2; have bf := Lib.frozen_of_heap H2.out.box; have b0 := Lib.cell_of_heap H2.out.box 0; have b1 := Lib.cell_of_heap H2.out.box 1; have b22 := Lib.cell_of_heap H2.out.box 22; have bl := H2.out.lt; simp only [List.getElem?_toArray, List.getElem?_cons_zero, List.getElem?_cons_succ] at b0 b1 b22))
  refine wp_gen (Rt w g A c l wr ⟨#[]⟩ ⟨#[]⟩ at1 f1) (H2.out.setOp _) fun wb hb => ?_
  have HQ := Lib.hid hb
  clear hb bf b0 b1 b22 bl
  go_upto_region 6 with (go_at_call 85; (with_reducible refine (must1_any g A c l at1 f1 wb.heap.size 1 ⟨#[79, 78]⟩ t2 (wb.alloc (.cells #[.string ⟨#[79, 78]⟩] 9)) (HQ.out.sz.alloc _) hl (by omega) (by have := HQ.out.sz.lt; omega) (word_at _ _) N2.out).mono ?_); rintro e w3 ⟨rfl, hz3, hg3⟩; rw [← E2.out.1, ← E2.out.2] at hz3; have H3 := Lib.hid ((HQ.out.alloc _).call hz3 hg3); clear hz3 hg3; have bf := Lib.frozen_of_heap H3.out.box; have b0 := Lib.cell_of_heap H3.out.box 0; have b1 := Lib.cell_of_heap H3.out.box 1; have b22 := Lib.cell_of_heap H3.out.box 22; have bl := H3.out.lt; simp only [List.getElem?_toArray, List.getElem?_cons_zero, List.getElem?_cons_succ] at b0 b1 b22)
  go_upto_region 7 with (go_at_call 86; (with_reducible refine (sname_any g A c l at2 f2 t3 w3 H3.out.sz hl (by omega) N3.out s3).mono ?_); rintro e w4 ⟨rfl, hz4, hg4⟩; rw [← E3.out.1, ← E3.out.2] at hz4; have H4 := Lib.hid (H3.out.call hz4 hg4); clear hz4 hg4; have bf := Lib.frozen_of_heap H4.out.box; have b0 := Lib.cell_of_heap H4.out.box 0; have b1 := Lib.cell_of_heap H4.out.box 1; have b22 := Lib.cell_of_heap H4.out.box 22; have bl := H4.out.lt; simp only [List.getElem?_toArray, List.getElem?_cons_zero, List.getElem?_cons_succ] at b0 b1 b22)
  refine wp_gen (Rt w g A c l wr (nmOf t3) ⟨#[]⟩ at3 f3) (H4.out.setTb _) fun w5 h5 => ?_
  have H5 := Lib.hid h5
  clear h5 bf b0 b1 b22 bl
  go_upto_region 8 with (go_at_call 85; (with_reducible refine (must1_any g A c l at3 f3 w5.heap.size 1 ah t4 (w5.alloc (.cells #[.string ah] 9)) (H5.out.sz.alloc _) hl (by omega) (by have := H5.out.sz.lt; omega) (word_at _ _) N4.out).mono ?_); rintro e w6 ⟨rfl, hz6, hg6⟩; rw [← E4.out.1, ← E4.out.2] at hz6; have H6 := Lib.hid ((H5.out.alloc _).call hz6 hg6); clear hz6 hg6; have bf := Lib.frozen_of_heap H6.out.box; have b0 := Lib.cell_of_heap H6.out.box 0; have b1 := Lib.cell_of_heap H6.out.box 1; have b22 := Lib.cell_of_heap H6.out.box 22; have bl := H6.out.lt; simp only [List.getElem?_toArray, List.getElem?_cons_zero, List.getElem?_cons_succ] at b0 b1 b22)
  go_upto_region 9 with (go_at_call 86; (with_reducible refine (sname_any g A c l at4 f4 t5 w6 H6.out.sz hl (by omega) N5.out s5).mono ?_); rintro e w7 ⟨rfl, hz7, hg7⟩; rw [← E5.out.1, ← E5.out.2] at hz7; have H7 := Lib.hid (H6.out.call hz7 hg7); clear hz7 hg7; have bf := Lib.frozen_of_heap H7.out.box; have b0 := Lib.cell_of_heap H7.out.box 0; have b1 := Lib.cell_of_heap H7.out.box 1; have b22 := Lib.cell_of_heap H7.out.box 22; have bl := H7.out.lt; simp only [List.getElem?_toArray, List.getElem?_cons_zero, List.getElem?_cons_succ] at b0 b1 b22)
  refine wp_gen (Rt w g A c l wr (nmOf t3) (nmOf t5) at5 f5) (H7.out.setRo _) fun w8 h8 => ?_
  have H8 := Lib.hid h8
  clear h8 bf b0 b1 b22 bl
  have bl := H8.out.lt
  go_wp2_with (first
    | (refine wpList_load_row rfl 34 (.tmp 9) rfl (w.heap.size + 1) rfl 34 #[.string wr, .string (nmOf t3), .string ⟨#[]⟩, .slice none 0 0, .slice none 0 0, .string ⟨#[]⟩, .slice none 0 0, .slice none 0 0, .string ⟨#[]⟩, .int .i64 0, .int .i64 0, .string ⟨#[]⟩, .string ⟨#[]⟩, .slice none 0 0, .slice none 0 0, .slice none 0 0, .string ⟨#[]⟩, .int .i64 0, .int .i64 0, .string ⟨#[]⟩, .string ⟨#[]⟩, .slice none 0 0, .string (nmOf t5)] (0, 0) _ H8.out.box Tryz.underlying34 rfl stSize ?_)
    | (refine wpList_store_row rfl 34 (.tmp 8) (.tmp 34) rfl w.heap.size #[.string wr, .string (nmOf t3), .string ⟨#[]⟩, .slice none 0 0, .slice none 0 0, .string ⟨#[]⟩, .slice none 0 0, .slice none 0 0, .string ⟨#[]⟩, .int .i64 0, .int .i64 0, .string ⟨#[]⟩, .string ⟨#[]⟩, .slice none 0 0, .slice none 0 0, .slice none 0 0, .string ⟨#[]⟩, .int .i64 0, .int .i64 0, .string ⟨#[]⟩, .string ⟨#[]⟩, .slice none 0 0, .string (nmOf t5)] rfl rfl 34 _ H8.out.res stSize rfl (rt_one _ _ _) ?_))
  refine bodyPost_ret (results_cell_row rfl _ _ w.heap.size 34 #[.string wr, .string (nmOf t3), .string ⟨#[]⟩, .slice none 0 0, .slice none 0 0, .string ⟨#[]⟩, .slice none 0 0, .slice none 0 0, .string ⟨#[]⟩, .int .i64 0, .int .i64 0, .string ⟨#[]⟩, .string ⟨#[]⟩, .slice none 0 0, .slice none 0 0, .slice none 0 0, .string ⟨#[]⟩, .int .i64 0, .int .i64 0, .string ⟨#[]⟩, .string ⟨#[]⟩, .slice none 0 0, .string (nmOf t5)] (0, 0) _ rfl (setRow_heap _ _ _ _ _ _ H8.out.res) Tryz.underlying34 rfl stSize) rfl ⟨rfl, H8.out.sz.row _ H8.out.lg, grow_row _ H8.out.gr (Nat.le_refl _)⟩

end Go.Proofs.YtlilnbcklplmfaaGreatDoor

/- The statement parser: GRANT and REVOKE. -/
namespace Go.Proofs.YtlilnbcklplmfaaGreatDoor
open Go.RowKit Go.Lib

set_option maxRecDepth 100000 in
set_option maxHeartbeats 4000000 in
theorem grant_any (g : Nat) (A : Option Addr) (c : Nat) (l : List Tn) (at' : Nat) (failed : Bool) (op tb ro : ByteArray) (at2 : Nat) (f2 : Bool) (w : World) (hz : Sz w g A c l at' failed)
    (hr : ∀ W : World, Sz W g A c l at' failed → w.heap.size ≤ W.heap.size → Calls Tryz.prog 97 #[.pointer (some ⟨g, 0, none⟩), .string ⟨#[114, 101, 97, 100]⟩, .string ⟨#[119, 114, 105, 116, 101]⟩, .string ⟨#[84, 79]⟩] W fun e w' => e = .returned (.agg (rtC op tb ro)) ∧ Sz w' g A c l at2 f2 ∧ W.grownBy w' (some g)) :
    Calls Tryz.prog 48 #[.pointer (some ⟨g, 0, none⟩)] w fun e w' => e = .returned (.agg (rtC op tb ro)) ∧ Sz w' g A c l at2 f2 ∧ w.grownBy w' (some g) := by
  have hgl := hz.lt
  have HZ := Lib.hid hz
  have HR := Lib.hid hr
  clear hz hr
  go_enter Tryz.func48, Tryz.ntmps48
  go_wp2_with (first
    | (go_at_call 97; (with_reducible refine (HR.out _ (HZ.out.alloc _) (by simp)).mono ?_); rintro e w1 ⟨rfl, hz1, hg1⟩; have hb1 : w1.heap[w.heap.size]? = some (.cells #[.string ⟨#[]⟩, .string ⟨#[]⟩, .string ⟨#[]⟩, .slice none 0 0, .slice none 0 0, .string ⟨#[]⟩, .slice none 0 0, .slice none 0 0, .string ⟨#[]⟩, .int .i64 0, .int .i64 0, .string ⟨#[]⟩, .string ⟨#[]⟩, .slice none 0 0, .slice none 0 0, .slice none 0 0, .string ⟨#[]⟩, .int .i64 0, .int .i64 0, .string ⟨#[]⟩, .string ⟨#[]⟩, .slice none 0 0, .string ⟨#[]⟩] 34 (0, 0)) := (hg1.block _ (by simp) (fun e => by injection e with e; omega)).trans (alloc_at rfl _); have HZ1 := Lib.hid hz1; have HG1 := Lib.hid (grow_trans (grow_alloc w _ _) hg1); clear hz1 hg1)
    | (refine wpList_store_row rfl 34 (.tmp 2) (.tmp 4) rfl w.heap.size #[.string op, .string tb, .string ⟨#[]⟩, .slice none 0 0, .slice none 0 0, .string ⟨#[]⟩, .slice none 0 0, .slice none 0 0, .string ⟨#[]⟩, .int .i64 0, .int .i64 0, .string ⟨#[]⟩, .string ⟨#[]⟩, .slice none 0 0, .slice none 0 0, .slice none 0 0, .string ⟨#[]⟩, .int .i64 0, .int .i64 0, .string ⟨#[]⟩, .string ⟨#[]⟩, .slice none 0 0, .string ro] rfl rfl 34 _ hb1 stSize rfl (rt_one _ _ _) ?_))
  refine bodyPost_ret (results_cell_row rfl _ _ w.heap.size 34 #[.string op, .string tb, .string ⟨#[]⟩, .slice none 0 0, .slice none 0 0, .string ⟨#[]⟩, .slice none 0 0, .slice none 0 0, .string ⟨#[]⟩, .int .i64 0, .int .i64 0, .string ⟨#[]⟩, .string ⟨#[]⟩, .slice none 0 0, .slice none 0 0, .slice none 0 0, .string ⟨#[]⟩, .int .i64 0, .int .i64 0, .string ⟨#[]⟩, .string ⟨#[]⟩, .slice none 0 0, .string ro] (0, 0) _ rfl (setRow_heap _ _ _ _ _ _ hb1) Tryz.underlying34 rfl stSize) rfl ⟨rfl, HZ1.out.row _ hgl, grow_row _ HG1.out (Nat.le_refl _)⟩

set_option maxRecDepth 100000 in
set_option maxHeartbeats 4000000 in
theorem revoke_any (g : Nat) (A : Option Addr) (c : Nat) (l : List Tn) (at' : Nat) (failed : Bool) (op tb ro : ByteArray) (at2 : Nat) (f2 : Bool) (w : World) (hz : Sz w g A c l at' failed)
    (hr : ∀ W : World, Sz W g A c l at' failed → w.heap.size ≤ W.heap.size → Calls Tryz.prog 97 #[.pointer (some ⟨g, 0, none⟩), .string ⟨#[117, 110, 114, 101, 97, 100]⟩, .string ⟨#[117, 110, 119, 114, 105, 116, 101]⟩, .string ⟨#[70, 82, 79, 77]⟩] W fun e w' => e = .returned (.agg (rtC op tb ro)) ∧ Sz w' g A c l at2 f2 ∧ W.grownBy w' (some g)) :
    Calls Tryz.prog 49 #[.pointer (some ⟨g, 0, none⟩)] w fun e w' => e = .returned (.agg (rtC op tb ro)) ∧ Sz w' g A c l at2 f2 ∧ w.grownBy w' (some g) := by
  have hgl := hz.lt
  have HZ := Lib.hid hz
  have HR := Lib.hid hr
  clear hz hr
  go_enter Tryz.func49, Tryz.ntmps49
  go_wp2_with (first
    | (go_at_call 97; (with_reducible refine (HR.out _ (HZ.out.alloc _) (by simp)).mono ?_); rintro e w1 ⟨rfl, hz1, hg1⟩; have hb1 : w1.heap[w.heap.size]? = some (.cells #[.string ⟨#[]⟩, .string ⟨#[]⟩, .string ⟨#[]⟩, .slice none 0 0, .slice none 0 0, .string ⟨#[]⟩, .slice none 0 0, .slice none 0 0, .string ⟨#[]⟩, .int .i64 0, .int .i64 0, .string ⟨#[]⟩, .string ⟨#[]⟩, .slice none 0 0, .slice none 0 0, .slice none 0 0, .string ⟨#[]⟩, .int .i64 0, .int .i64 0, .string ⟨#[]⟩, .string ⟨#[]⟩, .slice none 0 0, .string ⟨#[]⟩] 34 (0, 0)) := (hg1.block _ (by simp) (fun e => by injection e with e; omega)).trans (alloc_at rfl _); have HZ1 := Lib.hid hz1; have HG1 := Lib.hid (grow_trans (grow_alloc w _ _) hg1); clear hz1 hg1)
    | (refine wpList_store_row rfl 34 (.tmp 2) (.tmp 4) rfl w.heap.size #[.string op, .string tb, .string ⟨#[]⟩, .slice none 0 0, .slice none 0 0, .string ⟨#[]⟩, .slice none 0 0, .slice none 0 0, .string ⟨#[]⟩, .int .i64 0, .int .i64 0, .string ⟨#[]⟩, .string ⟨#[]⟩, .slice none 0 0, .slice none 0 0, .slice none 0 0, .string ⟨#[]⟩, .int .i64 0, .int .i64 0, .string ⟨#[]⟩, .string ⟨#[]⟩, .slice none 0 0, .string ro] rfl rfl 34 _ hb1 stSize rfl (rt_one _ _ _) ?_))
  refine bodyPost_ret (results_cell_row rfl _ _ w.heap.size 34 #[.string op, .string tb, .string ⟨#[]⟩, .slice none 0 0, .slice none 0 0, .string ⟨#[]⟩, .slice none 0 0, .slice none 0 0, .string ⟨#[]⟩, .int .i64 0, .int .i64 0, .string ⟨#[]⟩, .string ⟨#[]⟩, .slice none 0 0, .slice none 0 0, .slice none 0 0, .string ⟨#[]⟩, .int .i64 0, .int .i64 0, .string ⟨#[]⟩, .string ⟨#[]⟩, .slice none 0 0, .string ro] (0, 0) _ rfl (setRow_heap _ _ _ _ _ _ hb1) Tryz.underlying34 rfl stSize) rfl ⟨rfl, HZ1.out.row _ hgl, grow_row _ HG1.out (Nat.le_refl _)⟩

end Go.Proofs.YtlilnbcklplmfaaGreatDoor

/- The statement parser: the word that a statement begins with. -/
namespace Go.Proofs.YtlilnbcklplmfaaGreatDoor
open Go.RowKit Go.Lib

theorem MapAt.look_ok {P : Program} {w : World} {r : Nat} {es : List (ByteArray × Value)} (h : MapAt w r es) {t k e : TypeId} (ht : P.underlying t = some (.map k e)) (hk : P.underlying k = some .string) {s : ByteArray} {v : Value} (hf : es.find? (fun y => s == y.1) = some (s, v)) :
    (Instr.lookup t (.map (some r)) (.string s) true).run P w = .ok (.tuple #[v, .bool true]) w := by
  obtain ⟨m, c, hb, hm⟩ := h
  obtain ⟨j, hj⟩ := find_is (s := s) 0 hm hf
  have hc : (Instr.checkKey m.isEmpty 10000 k (.string s)).run P w = .ok () w := MapKept.run_checkKey (k := .string s) hk (by simp [MapKept.IsKey]) m.isEmpty 9999
  simp [Instr.lookup, run_underlying ht, MapKept.run_getObj_map hb, hc, MapKept.run_findKey hk hj, Result.andThen]
theorem wpList_look_ok {P : Program} (w : World) {ops : Array Oper} {rest : List Oper} {o : Oper} {a : Act} {Q : Exit → Act → World → Prop}
    (hg : o.guard = none) (m x : Operand) (t : TypeId) (hop : o.op = Op.lookup t m x true) (k e : TypeId) (ht : P.underlying t = some (.map k e)) (hk : P.underlying k = some .string) (r : Nat) (es : List (ByteArray × Value))
    (hm : a.eval m = .map (some r)) (hat : MapAt w r es) (s : ByteArray) (hx : a.eval x = .string s) (v : Value) (hf : es.find? (fun y => s == y.1) = some (s, v))
    (hK : wpList P ops Q rest (a.put o.dst (.tuple #[v, .bool true])) w) : wpList P ops Q (o :: rest) a w := by
  refine wpList_plain hg fun K' hK' => ?_
  have hrun := hat.look_ok ht hk hf
  unfold Oper.wp
  simp [execOp, hop, hm, hx, hrun, Result.andThen]
  exact hK' _ _ hK

set_option maxRecDepth 100000 in
set_option maxHeartbeats 4000000 in
theorem one_grant (g : Nat) (A : Option Addr) (c : Nat) (l : List Tn) (at' : Nat) (failed : Bool) (s : ByteArray) (r : Nat) (es : List (ByteArray × Value)) (cs : Array Value) (at2 : Nat) (f2 : Bool) (w : World) (hz : Sz w g A c l at' failed) (hl : l.length ≤ 100000) (ha : at' ≤ 100000) (ht : Ny l at' failed ⟨1, s⟩)
    (hm : MapAt w r es) (hf : es.find? (fun y => s == y.1) = some (s, .func (.func 48) #[.pointer (some ⟨g, 0, none⟩)] #[])) (h1 : cs.all (·.oneCell') = true) (h23 : cs.size = 23)
    (hr : ∀ W : World, Sz W g A c l (at' + 1) failed → w.heap.size ≤ W.heap.size → Calls Tryz.prog 48 #[.pointer (some ⟨g, 0, none⟩)] W fun e w' => e = .returned (.agg cs) ∧ Sz w' g A c l at2 f2 ∧ W.grownBy w' (some g)) :
    Calls Tryz.prog 41 #[.pointer (some ⟨g, 0, none⟩), .map (some r)] w fun e w' => e = .returned (.agg cs) ∧ Sz w' g A c l at2 f2 ∧ w.grownBy w' (some g) := by
  have hgl := hz.lt
  have HZ := Lib.hid (And.intro hz ht)
  have HR := Lib.hid hr
  have HM := Lib.hid hm
  have HF := Lib.hid hf
  clear hz ht hr hm hf
  go_enter Tryz.func41, Tryz.ntmps41
  go_wp2_with (first
    | (go_at_call 84; (with_reducible refine (snext_any g A c l at' failed _ (HZ.out.1.alloc _) hl ⟨1, s⟩ HZ.out.2).mono ?_); rintro e w1 ⟨rfl, hb1⟩; have HB1 : Hid (Below w.heap.size w (w1.alloc (.cells #[.int .i64 1, .string s] 89))) := (((Below.refl _ _).alloc (Nat.le_refl _) _).trans (hb1.mono (by simp))).alloc (by have := hb1.size; simp at this; omega) _; have HM1 := Lib.hid (HM.out.below HB1.out); have HS1 := Lib.hid (HZ.out.1.below HB1.out); have d1 := HS1.out.c1; have df := HS1.out.fz 1; have dl := HS1.out.lt; have HQ1 : Hid ((w1.alloc (.cells #[.int .i64 1, .string s] 89)).heap[w.heap.size]? = some (.cells #[.string ⟨#[]⟩, .string ⟨#[]⟩, .string ⟨#[]⟩, .slice none 0 0, .slice none 0 0, .string ⟨#[]⟩, .slice none 0 0, .slice none 0 0, .string ⟨#[]⟩, .int .i64 0, .int .i64 0, .string ⟨#[]⟩, .string ⟨#[]⟩, .slice none 0 0, .slice none 0 0, .slice none 0 0, .string ⟨#[]⟩, .int .i64 0, .int .i64 0, .string ⟨#[]⟩, .string ⟨#[]⟩, .slice none 0 0, .string ⟨#[]⟩] 34 (0, 0))) := (Below.heap_alloc _ _ _ (by have := hb1.size; simp at this; omega)).trans ((hb1.block _ (by simp)).trans (alloc_at rfl _)); have hq1 : w.heap.size < w1.heap.size := (by have := hb1.size; simp at this; omega); have hne : ¬ w1.heap.size = g := (by omega); clear hb1)
    | (refine wpList_look_ok _ rfl _ _ 93 rfl 9 61 Tryz.underlying93 Tryz.underlying9 r es rfl HM1.out s rfl _ HF.out ?_)
    | (go_at_call 48; have hgo : Sz ((w1.alloc (.cells #[.int .i64 1, .string s] 89)).setCell ⟨g, 1, none⟩ (.int .i64 ((at' : Int) + 1))) g A c l (at' + 1) failed := HS1.out.goto (at' + 1); (with_reducible refine (HR.out _ hgo (by simp; omega)).mono ?_); rintro e w2 ⟨rfl, hz2, hg2⟩; have hb2 : w2.heap[w.heap.size]? = some (.cells #[.string ⟨#[]⟩, .string ⟨#[]⟩, .string ⟨#[]⟩, .slice none 0 0, .slice none 0 0, .string ⟨#[]⟩, .slice none 0 0, .slice none 0 0, .string ⟨#[]⟩, .int .i64 0, .int .i64 0, .string ⟨#[]⟩, .string ⟨#[]⟩, .slice none 0 0, .slice none 0 0, .slice none 0 0, .string ⟨#[]⟩, .int .i64 0, .int .i64 0, .string ⟨#[]⟩, .string ⟨#[]⟩, .slice none 0 0, .string ⟨#[]⟩] 34 (0, 0)) := (hg2.block _ (by simp; omega) (fun e => by injection e with e; omega)).trans ((Below.heap_setCell _ _ _ _ (by show w.heap.size ≠ g; omega)).trans HQ1.out); have HZ2 := Lib.hid hz2; have HG2 : Hid (w.grownBy w2 (some g)) := grow_trans (grow_trans (grow_below HB1.out _) (grow_set _ _ _ _)) hg2; clear hz2 hg2)
    | (refine wpList_store_row rfl 34 (.tmp 4) (.tmp 36) rfl w.heap.size cs rfl rfl 34 _ hb2 (by rw [h23]; exact stSize) (by rw [h23]; rfl) h1 ?_))
  refine bodyPost_ret (results_cell_row rfl _ _ w.heap.size 34 cs (0, 0) _ rfl (setRow_heap _ _ _ _ _ _ hb2) Tryz.underlying34 rfl (by rw [h23]; exact stSize)) rfl ⟨rfl, HZ2.out.row _ hgl, grow_row _ HG2.out (Nat.le_refl _)⟩

set_option maxRecDepth 100000 in
set_option maxHeartbeats 4000000 in
theorem one_revoke (g : Nat) (A : Option Addr) (c : Nat) (l : List Tn) (at' : Nat) (failed : Bool) (s : ByteArray) (r : Nat) (es : List (ByteArray × Value)) (cs : Array Value) (at2 : Nat) (f2 : Bool) (w : World) (hz : Sz w g A c l at' failed) (hl : l.length ≤ 100000) (ha : at' ≤ 100000) (ht : Ny l at' failed ⟨1, s⟩)
    (hm : MapAt w r es) (hf : es.find? (fun y => s == y.1) = some (s, .func (.func 49) #[.pointer (some ⟨g, 0, none⟩)] #[])) (h1 : cs.all (·.oneCell') = true) (h23 : cs.size = 23)
    (hr : ∀ W : World, Sz W g A c l (at' + 1) failed → w.heap.size ≤ W.heap.size → Calls Tryz.prog 49 #[.pointer (some ⟨g, 0, none⟩)] W fun e w' => e = .returned (.agg cs) ∧ Sz w' g A c l at2 f2 ∧ W.grownBy w' (some g)) :
    Calls Tryz.prog 41 #[.pointer (some ⟨g, 0, none⟩), .map (some r)] w fun e w' => e = .returned (.agg cs) ∧ Sz w' g A c l at2 f2 ∧ w.grownBy w' (some g) := by
  have hgl := hz.lt
  have HZ := Lib.hid (And.intro hz ht)
  have HR := Lib.hid hr
  have HM := Lib.hid hm
  have HF := Lib.hid hf
  clear hz ht hr hm hf
  go_enter Tryz.func41, Tryz.ntmps41
  go_wp2_with (first
    | (go_at_call 84; (with_reducible refine (snext_any g A c l at' failed _ (HZ.out.1.alloc _) hl ⟨1, s⟩ HZ.out.2).mono ?_); rintro e w1 ⟨rfl, hb1⟩; have HB1 : Hid (Below w.heap.size w (w1.alloc (.cells #[.int .i64 1, .string s] 89))) := (((Below.refl _ _).alloc (Nat.le_refl _) _).trans (hb1.mono (by simp))).alloc (by have := hb1.size; simp at this; omega) _; have HM1 := Lib.hid (HM.out.below HB1.out); have HS1 := Lib.hid (HZ.out.1.below HB1.out); have d1 := HS1.out.c1; have df := HS1.out.fz 1; have dl := HS1.out.lt; have HQ1 : Hid ((w1.alloc (.cells #[.int .i64 1, .string s] 89)).heap[w.heap.size]? = some (.cells #[.string ⟨#[]⟩, .string ⟨#[]⟩, .string ⟨#[]⟩, .slice none 0 0, .slice none 0 0, .string ⟨#[]⟩, .slice none 0 0, .slice none 0 0, .string ⟨#[]⟩, .int .i64 0, .int .i64 0, .string ⟨#[]⟩, .string ⟨#[]⟩, .slice none 0 0, .slice none 0 0, .slice none 0 0, .string ⟨#[]⟩, .int .i64 0, .int .i64 0, .string ⟨#[]⟩, .string ⟨#[]⟩, .slice none 0 0, .string ⟨#[]⟩] 34 (0, 0))) := (Below.heap_alloc _ _ _ (by have := hb1.size; simp at this; omega)).trans ((hb1.block _ (by simp)).trans (alloc_at rfl _)); have hq1 : w.heap.size < w1.heap.size := (by have := hb1.size; simp at this; omega); have hne : ¬ w1.heap.size = g := (by omega); clear hb1)
    | (refine wpList_look_ok _ rfl _ _ 93 rfl 9 61 Tryz.underlying93 Tryz.underlying9 r es rfl HM1.out s rfl _ HF.out ?_)
    | (go_at_call 49; have hgo : Sz ((w1.alloc (.cells #[.int .i64 1, .string s] 89)).setCell ⟨g, 1, none⟩ (.int .i64 ((at' : Int) + 1))) g A c l (at' + 1) failed := HS1.out.goto (at' + 1); (with_reducible refine (HR.out _ hgo (by simp; omega)).mono ?_); rintro e w2 ⟨rfl, hz2, hg2⟩; have hb2 : w2.heap[w.heap.size]? = some (.cells #[.string ⟨#[]⟩, .string ⟨#[]⟩, .string ⟨#[]⟩, .slice none 0 0, .slice none 0 0, .string ⟨#[]⟩, .slice none 0 0, .slice none 0 0, .string ⟨#[]⟩, .int .i64 0, .int .i64 0, .string ⟨#[]⟩, .string ⟨#[]⟩, .slice none 0 0, .slice none 0 0, .slice none 0 0, .string ⟨#[]⟩, .int .i64 0, .int .i64 0, .string ⟨#[]⟩, .string ⟨#[]⟩, .slice none 0 0, .string ⟨#[]⟩] 34 (0, 0)) := (hg2.block _ (by simp; omega) (fun e => by injection e with e; omega)).trans ((Below.heap_setCell _ _ _ _ (by show w.heap.size ≠ g; omega)).trans HQ1.out); have HZ2 := Lib.hid hz2; have HG2 : Hid (w.grownBy w2 (some g)) := grow_trans (grow_trans (grow_below HB1.out _) (grow_set _ _ _ _)) hg2; clear hz2 hg2)
    | (refine wpList_store_row rfl 34 (.tmp 4) (.tmp 36) rfl w.heap.size cs rfl rfl 34 _ hb2 (by rw [h23]; exact stSize) (by rw [h23]; rfl) h1 ?_))
  refine bodyPost_ret (results_cell_row rfl _ _ w.heap.size 34 cs (0, 0) _ rfl (setRow_heap _ _ _ _ _ _ hb2) Tryz.underlying34 rfl (by rw [h23]; exact stSize)) rfl ⟨rfl, HZ2.out.row _ hgl, grow_row _ HG2.out (Nat.le_refl _)⟩

end Go.Proofs.YtlilnbcklplmfaaGreatDoor
