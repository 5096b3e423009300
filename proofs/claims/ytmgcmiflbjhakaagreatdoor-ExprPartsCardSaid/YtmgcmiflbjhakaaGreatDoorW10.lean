import Derived.Test.YtmgcmiflbjhakaaGreatDoorW07
import Derived.Test.YtmgcmiflbjhakaaGreatDoorW09
import Derived.Deep.DeepCutAuto

/- The parser: its state, the token at hand. -/
namespace Go.Proofs.YtmgcmiflbjhakaaGreatDoor
open Go.RowKit Go.Lib

theorem cSet2 {a b : World} {n k : Nat} (hn : n ≤ k) (h : Below n a b) (x y : Value) : Below n a ((b.setCell ⟨k, 0, none⟩ x).setCell ⟨k, 1, none⟩ y) := (h.setCell hn x).setCell hn y
structure Tn where
  k : Int
  s : ByteArray
structure TnAt (W : World) (a : Addr) (x : Tn) : Prop where
  c0 : W.cell? a = some (.int .i64 x.k)
  c1 : W.cell? ⟨a.block, a.off + 1, none⟩ = some (.string x.s)
theorem TnAt.lt {W : World} {a : Addr} {x : Tn} (h : TnAt W a x) : a.block < W.heap.size := World.block_lt_of_cell? W _ h.c0
theorem TnAt.keep {W W' : World} {a : Addr} {x : Tn} (h : TnAt W a x) (hb : W'.heap[a.block]? = W.heap[a.block]?) : TnAt W' a x :=
  ⟨(World.cell?_of_block (w := W) (a := a) hb).trans h.c0, (World.cell?_of_block (w := W) (a := ⟨a.block, _, none⟩) hb).trans h.c1⟩

/-- The parser in block g: its tokens, its place, how many words ask, whether it has failed. -/
structure Pz (W : World) (g : Nat) (A : Option Addr) (c : Nat) (l : List Tn) (at' ask : Nat) (failed : Bool) : Prop where
  st : W.heap[g]? = some (.cells #[.slice A l.length c, .int .i64 at', .int .i64 ask, .bool failed] 82 (0, 0))
  tk : ∀ j (h : j < l.length), ∃ a, A = some a ∧ a.block < g ∧ TnAt W (a.add (j * 2)) l[j]
  lib : ∃ w0 : World, LibE w0 ∧ w0.heap.size ≤ g ∧ Below w0.heap.size w0 W
section
variable {W W' : World} {g : Nat} {A : Option Addr} {c : Nat} {l : List Tn} {at' ask : Nat} {failed : Bool}
theorem Pz.lt (h : Pz W g A c l at' ask failed) : g < W.heap.size := (Array.getElem?_eq_some_iff.1 h.st).1
theorem Pz.c0 (h : Pz W g A c l at' ask failed) : W.cell? ⟨g, 0, none⟩ = some (.slice A l.length c) := by rw [Lib.cell_of_heap h.st]; rfl
theorem Pz.c1 (h : Pz W g A c l at' ask failed) : W.cell? ⟨g, 1, none⟩ = some (.int .i64 at') := by rw [Lib.cell_of_heap h.st]; rfl
theorem Pz.c2 (h : Pz W g A c l at' ask failed) : W.cell? ⟨g, 2, none⟩ = some (.int .i64 ask) := by rw [Lib.cell_of_heap h.st]; rfl
theorem Pz.c3 (h : Pz W g A c l at' ask failed) : W.cell? ⟨g, 3, none⟩ = some (.bool failed) := by rw [Lib.cell_of_heap h.st]; rfl
theorem Pz.fz (h : Pz W g A c l at' ask failed) (o : Nat) : W.frozen? ⟨g, o, none⟩ = false := Lib.frozen_of_heap h.st o
theorem Pz.keep (h : Pz W g A c l at' ask failed) (hb : ∀ b, b ≤ g → W'.heap[b]? = W.heap[b]?) (hB : ∀ w0 : World, w0.heap.size ≤ g → Below w0.heap.size w0 W → Below w0.heap.size w0 W') : Pz W' g A c l at' ask failed :=
  ⟨(hb g (Nat.le_refl _)).trans h.st, fun j hj => by
    obtain ⟨a, e, hne, hc⟩ := h.tk j hj
    exact ⟨a, e, hne, hc.keep (hb _ (by rw [add_block]; omega))⟩, by
    obtain ⟨w0, h1, h2, h3⟩ := h.lib
    exact ⟨w0, h1, h2, hB w0 h2 h3⟩⟩
theorem Pz.libE (h : Pz W g A c l at' ask failed) : LibE W := by
  obtain ⟨w0, h1, h2, h3⟩ := h.lib
  exact h1.keep h3 (Nat.le_refl _)
theorem Pz.below (h : Pz W g A c l at' ask failed) (hb : Below W.heap.size W W') : Pz W' g A c l at' ask failed := h.keep (fun b hl => hb.block b (by have := h.lt; omega)) fun w0 _ k => k.trans (hb.mono k.size)
theorem Pz.alloc (h : Pz W g A c l at' ask failed) (o : Obj) : Pz (W.alloc o) g A c l at' ask failed := h.below ((Below.refl _ _).alloc (Nat.le_refl _) o)
theorem Pz.other (h : Pz W g A c l at' ask failed) {b o : Nat} (v : Value) (hb : g < b) : Pz (W.setCell ⟨b, o, none⟩ v) g A c l at' ask failed :=
  h.keep (fun q hq => Below.heap_setCell _ _ _ _ (by show q ≠ b; omega)) fun w0 hw k => k.setCell (p := ⟨b, o, none⟩) (by show _ ≤ b; omega) _
theorem Pz.drew (h : Pz W g A c l at' ask failed) : Pz W.drew g A c l at' ask failed := h.keep (fun _ _ => rfl) fun _ _ k => k.drew
theorem Pz.libs (h : Pz W g A c l at' ask failed) (o : Nat) (v : Value) : ∃ w0 : World, LibE w0 ∧ w0.heap.size ≤ g ∧ Below w0.heap.size w0 (W.setCell ⟨g, o, none⟩ v) := by
  obtain ⟨w0, h1, h2, h3⟩ := h.lib
  exact ⟨w0, h1, h2, h3.setCell (p := ⟨g, o, none⟩) h2 _⟩
theorem Pz.goto (h : Pz W g A c l at' ask failed) (n : Nat) : Pz (W.setCell ⟨g, 1, none⟩ (.int .i64 n)) g A c l n ask failed := by
  refine ⟨?_, fun j hj => ?_, h.libs _ _⟩
  · have := h.st
    simp [World.setCell, Array.getElem?_modify, this]
  · obtain ⟨a, e, hne, hc⟩ := h.tk j hj
    exact ⟨a, e, hne, hc.keep (Below.heap_setCell _ _ _ _ (by rw [add_block]; show _ ≠ g; omega))⟩
theorem Pz.asks (h : Pz W g A c l at' ask failed) (n : Nat) : Pz (W.setCell ⟨g, 2, none⟩ (.int .i64 n)) g A c l at' n failed := by
  refine ⟨?_, fun j hj => ?_, h.libs _ _⟩
  · have := h.st
    simp [World.setCell, Array.getElem?_modify, this]
  · obtain ⟨a, e, hne, hc⟩ := h.tk j hj
    exact ⟨a, e, hne, hc.keep (Below.heap_setCell _ _ _ _ (by rw [add_block]; show _ ≠ g; omega))⟩
theorem Pz.fails (h : Pz W g A c l at' ask failed) : Pz (W.setCell ⟨g, 3, none⟩ (.bool true)) g A c l at' ask true := by
  refine ⟨?_, fun j hj => ?_, h.libs _ _⟩
  · have := h.st
    simp [World.setCell, Array.getElem?_modify, this]
  · obtain ⟨a, e, hne, hc⟩ := h.tk j hj
    exact ⟨a, e, hne, hc.keep (Below.heap_setCell _ _ _ _ (by rw [add_block]; show _ ≠ g; omega))⟩
end

set_option maxRecDepth 100000 in
set_option maxHeartbeats 4000000 in
theorem next_failed (g : Nat) (A : Option Addr) (c : Nat) (l : List Tn) (at' ask : Nat) (w : World) (hz : Pz w g A c l at' ask true) :
    Calls Tryz.prog 176 #[.pointer (some ⟨g, 0, none⟩)] w fun e w' => e = .returned (.agg #[.int .i64 0, .string ⟨#[]⟩]) ∧ Below w.heap.size w w' := by
  have HZ := Lib.hid hz
  have hgl := hz.lt
  have e0 := hz.c0
  have e1 := hz.c1
  have e3 := hz.c3
  clear hz
  obtain ⟨n, HN⟩ : ∃ n, Hid (l.length = n) := ⟨_, Lib.hid rfl⟩
  rw [HN.out] at e0
  go_enter Tryz.func176, Tryz.ntmps176
  go_wp2
  refine detL_begin [.val (.pointer (some ⟨g, 0, none⟩)), .val (.pointer (some ⟨g, 0, none⟩)), .val (.pointer (some ⟨g, 3, none⟩)), .val (.bool true), .val (.bool true), .val (undef), .val (undef), .val (undef), .val (undef), .val (undef), .val (undef), .val (undef), .val (undef), .val (undef), .val (undef), .val (.bool true), .val (.bool true), .val (undef), .val (undef), .val (undef), .val (undef), .val (undef), .val (undef), .val (undef), .val (undef), .val (undef), .val (undef), .val (undef), .val (undef), .val (.bool true)] 30 (by kernel_rfl) ?_
  refine detL_val (by kernel_rfl) (yields_of rfl fun w1 hb1 => ?_) ?_
  · have hc1 := bcellD hb1
    clear hb1
    go_simp
    exact Det1_same
  simp only [Act.put, List.setIfInBounds_toArray, List.set_cons_zero, List.set_cons_succ]
  refine detL_val (by kernel_rfl) (yields_of rfl fun w1 hb1 => ?_) ?_
  · have hc1 := bcellD hb1
    clear hb1
    go_simp
    exact Det1_same
  simp only [Act.put, List.setIfInBounds_toArray, List.set_cons_zero, List.set_cons_succ]
  refine detL_val (by kernel_rfl) (yields_of rfl fun w1 hb1 => ?_) ?_
  · have hc1 := bcellD hb1
    clear hb1
    go_simp
    exact Det1_same
  simp only [Act.put, List.setIfInBounds_toArray, List.set_cons_zero, List.set_cons_succ]
  refine detL_val (by kernel_rfl) (yields_of rfl fun w1 hb1 => ?_) ?_
  · have hc1 := bcellD hb1
    clear hb1
    go_simp
    exact Det1_same
  simp only [Act.put, List.setIfInBounds_toArray, List.set_cons_zero, List.set_cons_succ]
  refine detL_val (by kernel_rfl) (yields_of rfl fun w1 hb1 => ?_) ?_
  · have hc1 := bcellD hb1
    clear hb1
    go_simp
    exact Det1_same
  simp only [Act.put, List.setIfInBounds_toArray, List.set_cons_zero, List.set_cons_succ]
  refine detL_val (by kernel_rfl) (yields_not rfl) ?_
  simp only [Act.put, List.setIfInBounds_toArray, List.set_cons_zero, List.set_cons_succ]
  refine detL_val (by kernel_rfl) (yields_not rfl) ?_
  simp only [Act.put, List.setIfInBounds_toArray, List.set_cons_zero, List.set_cons_succ]
  refine detL_val (by kernel_rfl) (yields_not rfl) ?_
  simp only [Act.put, List.setIfInBounds_toArray, List.set_cons_zero, List.set_cons_succ]
  refine detL_val (by kernel_rfl) (yields_not rfl) ?_
  simp only [Act.put, List.setIfInBounds_toArray, List.set_cons_zero, List.set_cons_succ]
  refine detL_val (by kernel_rfl) (yields_not rfl) ?_
  simp only [Act.put, List.setIfInBounds_toArray, List.set_cons_zero, List.set_cons_succ]
  refine detL_val (by kernel_rfl) (yields_not rfl) ?_
  simp only [Act.put, List.setIfInBounds_toArray, List.set_cons_zero, List.set_cons_succ]
  refine detL_val (by kernel_rfl) (yields_not rfl) ?_
  simp only [Act.put, List.setIfInBounds_toArray, List.set_cons_zero, List.set_cons_succ]
  refine detL_val (by kernel_rfl) (yields_not rfl) ?_
  simp only [Act.put, List.setIfInBounds_toArray, List.set_cons_zero, List.set_cons_succ]
  refine detL_val (by kernel_rfl) (yields_not rfl) ?_
  simp only [Act.put, List.setIfInBounds_toArray, List.set_cons_zero, List.set_cons_succ]
  refine detL_val (by kernel_rfl) (yields_not rfl) ?_
  simp only [Act.put, List.setIfInBounds_toArray, List.set_cons_zero, List.set_cons_succ]
  refine detL_val (by kernel_rfl) (yields_of rfl fun w1 hb1 => ?_) ?_
  · have hc1 := bcellD hb1
    clear hb1
    go_simp
    exact Det1_same
  simp only [Act.put, List.setIfInBounds_toArray, List.set_cons_zero, List.set_cons_succ]
  refine detL_val (by kernel_rfl) (yields_of rfl fun w1 hb1 => ?_) ?_
  · have hc1 := bcellD hb1
    clear hb1
    go_simp
    exact Det1_same
  simp only [Act.put, List.setIfInBounds_toArray, List.set_cons_zero, List.set_cons_succ]
  refine detL_val (by kernel_rfl) (yields_not rfl) ?_
  simp only [Act.put, List.setIfInBounds_toArray, List.set_cons_zero, List.set_cons_succ]
  refine detL_val (by kernel_rfl) (yields_not rfl) ?_
  simp only [Act.put, List.setIfInBounds_toArray, List.set_cons_zero, List.set_cons_succ]
  refine detL_val (by kernel_rfl) (yields_not rfl) ?_
  simp only [Act.put, List.setIfInBounds_toArray, List.set_cons_zero, List.set_cons_succ]
  refine detL_val (by kernel_rfl) (yields_not rfl) ?_
  simp only [Act.put, List.setIfInBounds_toArray, List.set_cons_zero, List.set_cons_succ]
  refine detL_val (by kernel_rfl) (yields_not rfl) ?_
  simp only [Act.put, List.setIfInBounds_toArray, List.set_cons_zero, List.set_cons_succ]
  refine detL_val (by kernel_rfl) (yields_not rfl) ?_
  simp only [Act.put, List.setIfInBounds_toArray, List.set_cons_zero, List.set_cons_succ]
  refine detL_val (by kernel_rfl) (yields_not rfl) ?_
  simp only [Act.put, List.setIfInBounds_toArray, List.set_cons_zero, List.set_cons_succ]
  refine detL_val (by kernel_rfl) (yields_not rfl) ?_
  simp only [Act.put, List.setIfInBounds_toArray, List.set_cons_zero, List.set_cons_succ]
  refine detL_val (by kernel_rfl) (yields_not rfl) ?_
  simp only [Act.put, List.setIfInBounds_toArray, List.set_cons_zero, List.set_cons_succ]
  refine detL_val (by kernel_rfl) (yields_not rfl) ?_
  simp only [Act.put, List.setIfInBounds_toArray, List.set_cons_zero, List.set_cons_succ]
  refine detL_val (by kernel_rfl) (yields_not rfl) ?_
  simp only [Act.put, List.setIfInBounds_toArray, List.set_cons_zero, List.set_cons_succ]
  refine detL_val (by kernel_rfl) (yields_not rfl) ?_
  simp only [Act.put, List.setIfInBounds_toArray, List.set_cons_zero, List.set_cons_succ]
  refine detL_val (by kernel_rfl) (yields_of rfl fun w1 hb1 => ?_) ?_
  · have hc1 := bcellD hb1
    clear hb1
    go_simp
    exact Det1_same
  simp only [Act.put, List.setIfInBounds_toArray, List.set_cons_zero, List.set_cons_succ]
  refine detL_done (by kernel_rfl) fun w1 hw1 => ?_
  have hc1 := (bcell hw1.below).1
  have hf1 := (bcell hw1.below).2
  have hz1 : w.heap.size < w1.heap.size := by have := hw1.below.size; simp at this; omega
  have HB1 := Lib.hid hw1.below
  clear hw1
  go_wp2
  refine bodyPost_ret (v := .agg #[.int .i64 0, .string ⟨#[]⟩]) (by simp [results, Tryz.results176, go_sem, hc1, hf1, hz1]) rfl ⟨rfl, ?_⟩
  first
    | exact ((Below.refl _ _).alloc (Nat.le_refl _) _).drew.trans (HB1.out.mono (by simp))
    | exact cSet2 (by omega) (((Below.refl _ _).alloc (Nat.le_refl _) _).drew.trans (HB1.out.mono (by simp))) _ _

set_option maxRecDepth 100000 in
set_option maxHeartbeats 4000000 in
theorem next_end (g : Nat) (A : Option Addr) (c : Nat) (l : List Tn) (at' ask : Nat) (w : World) (hz : Pz w g A c l at' ask false) (he : at' = l.length) (hn : l.length ≤ 100000) :
    Calls Tryz.prog 176 #[.pointer (some ⟨g, 0, none⟩)] w fun e w' => e = .returned (.agg #[.int .i64 0, .string ⟨#[]⟩]) ∧ Below w.heap.size w w' := by
  have HZ := Lib.hid hz
  have hgl := hz.lt
  have e0 := hz.c0
  have e1 := hz.c1
  have e3 := hz.c3
  clear hz
  have hbq : ((at' : Nat) : Int) == ((l.length : Nat) : Int) := by simp [he]
  obtain ⟨n, HN⟩ : ∃ n, Hid (l.length = n) := ⟨_, Lib.hid rfl⟩
  rw [HN.out] at e0 hbq hn
  clear he
  go_enter Tryz.func176, Tryz.ntmps176
  go_wp2
  refine detL_begin [.val (.pointer (some ⟨g, 0, none⟩)), .val (.pointer (some ⟨g, 0, none⟩)), .val (.pointer (some ⟨g, 3, none⟩)), .val (.bool false), .val (.bool false), .val (.pointer (some ⟨g, 0, none⟩)), .val (.pointer (some ⟨g, 0, none⟩)), .val (.pointer (some ⟨g, 1, none⟩)), .val (.int .i64 at'), .val (.pointer (some ⟨g, 0, none⟩)), .val (.pointer (some ⟨g, 0, none⟩)), .val (.pointer (some ⟨g, 0, none⟩)), .val (.slice A n c), .val (.int .i64 n), .val (.bool true), .val (.bool true), .val (.bool true), .val (undef), .val (undef), .val (undef), .val (undef), .val (undef), .val (undef), .val (undef), .val (undef), .val (undef), .val (undef), .val (undef), .val (undef), .val (.bool true)] 30 (by kernel_rfl) ?_
  refine detL_val (by kernel_rfl) (yields_of rfl fun w1 hb1 => ?_) ?_
  · have hc1 := bcellD hb1
    clear hb1
    go_simp
    exact Det1_same
  simp only [Act.put, List.setIfInBounds_toArray, List.set_cons_zero, List.set_cons_succ]
  refine detL_val (by kernel_rfl) (yields_of rfl fun w1 hb1 => ?_) ?_
  · have hc1 := bcellD hb1
    clear hb1
    go_simp
    exact Det1_same
  simp only [Act.put, List.setIfInBounds_toArray, List.set_cons_zero, List.set_cons_succ]
  refine detL_val (by kernel_rfl) (yields_of rfl fun w1 hb1 => ?_) ?_
  · have hc1 := bcellD hb1
    clear hb1
    go_simp
    exact Det1_same
  simp only [Act.put, List.setIfInBounds_toArray, List.set_cons_zero, List.set_cons_succ]
  refine detL_val (by kernel_rfl) (yields_of rfl fun w1 hb1 => ?_) ?_
  · have hc1 := bcellD hb1
    clear hb1
    go_simp
    exact Det1_same
  simp only [Act.put, List.setIfInBounds_toArray, List.set_cons_zero, List.set_cons_succ]
  refine detL_val (by kernel_rfl) (yields_of rfl fun w1 hb1 => ?_) ?_
  · have hc1 := bcellD hb1
    clear hb1
    go_simp
    exact Det1_same
  simp only [Act.put, List.setIfInBounds_toArray, List.set_cons_zero, List.set_cons_succ]
  refine detL_val (by kernel_rfl) (yields_of rfl fun w1 hb1 => ?_) ?_
  · have hc1 := bcellD hb1
    clear hb1
    go_simp
    exact Det1_same
  simp only [Act.put, List.setIfInBounds_toArray, List.set_cons_zero, List.set_cons_succ]
  refine detL_val (by kernel_rfl) (yields_of rfl fun w1 hb1 => ?_) ?_
  · have hc1 := bcellD hb1
    clear hb1
    go_simp
    exact Det1_same
  simp only [Act.put, List.setIfInBounds_toArray, List.set_cons_zero, List.set_cons_succ]
  refine detL_val (by kernel_rfl) (yields_of rfl fun w1 hb1 => ?_) ?_
  · have hc1 := bcellD hb1
    clear hb1
    go_simp
    exact Det1_same
  simp only [Act.put, List.setIfInBounds_toArray, List.set_cons_zero, List.set_cons_succ]
  refine detL_val (by kernel_rfl) (yields_of rfl fun w1 hb1 => ?_) ?_
  · have hc1 := bcellD hb1
    clear hb1
    go_simp
    exact Det1_same
  simp only [Act.put, List.setIfInBounds_toArray, List.set_cons_zero, List.set_cons_succ]
  refine detL_val (by kernel_rfl) (yields_of rfl fun w1 hb1 => ?_) ?_
  · have hc1 := bcellD hb1
    clear hb1
    go_simp
    exact Det1_same
  simp only [Act.put, List.setIfInBounds_toArray, List.set_cons_zero, List.set_cons_succ]
  refine detL_val (by kernel_rfl) (yields_of rfl fun w1 hb1 => ?_) ?_
  · have hc1 := bcellD hb1
    clear hb1
    go_simp
    exact Det1_same
  simp only [Act.put, List.setIfInBounds_toArray, List.set_cons_zero, List.set_cons_succ]
  refine detL_val (by kernel_rfl) (yields_of rfl fun w1 hb1 => ?_) ?_
  · have hc1 := bcellD hb1
    clear hb1
    go_simp
    exact Det1_same
  simp only [Act.put, List.setIfInBounds_toArray, List.set_cons_zero, List.set_cons_succ]
  refine detL_val (by kernel_rfl) (yields_of rfl fun w1 hb1 => ?_) ?_
  · have hc1 := bcellD hb1
    clear hb1
    go_simp
    exact Det1_same
  simp only [Act.put, List.setIfInBounds_toArray, List.set_cons_zero, List.set_cons_succ]
  refine detL_val (by kernel_rfl) (yields_of rfl fun w1 hb1 => ?_) ?_
  · have hc1 := bcellD hb1
    clear hb1
    go_simp
    exact Det1_same
  simp only [Act.put, List.setIfInBounds_toArray, List.set_cons_zero, List.set_cons_succ]
  refine detL_val (by kernel_rfl) (yields_of rfl fun w1 hb1 => ?_) ?_
  · have hc1 := bcellD hb1
    clear hb1
    go_simp
    exact Det1_same
  simp only [Act.put, List.setIfInBounds_toArray, List.set_cons_zero, List.set_cons_succ]
  refine detL_val (by kernel_rfl) (yields_of rfl fun w1 hb1 => ?_) ?_
  · have hc1 := bcellD hb1
    clear hb1
    go_simp
    exact Det1_same
  simp only [Act.put, List.setIfInBounds_toArray, List.set_cons_zero, List.set_cons_succ]
  refine detL_val (by kernel_rfl) (yields_of rfl fun w1 hb1 => ?_) ?_
  · have hc1 := bcellD hb1
    clear hb1
    go_simp
    exact Det1_same
  simp only [Act.put, List.setIfInBounds_toArray, List.set_cons_zero, List.set_cons_succ]
  refine detL_val (by kernel_rfl) (yields_not rfl) ?_
  simp only [Act.put, List.setIfInBounds_toArray, List.set_cons_zero, List.set_cons_succ]
  refine detL_val (by kernel_rfl) (yields_not rfl) ?_
  simp only [Act.put, List.setIfInBounds_toArray, List.set_cons_zero, List.set_cons_succ]
  refine detL_val (by kernel_rfl) (yields_not rfl) ?_
  simp only [Act.put, List.setIfInBounds_toArray, List.set_cons_zero, List.set_cons_succ]
  refine detL_val (by kernel_rfl) (yields_not rfl) ?_
  simp only [Act.put, List.setIfInBounds_toArray, List.set_cons_zero, List.set_cons_succ]
  refine detL_val (by kernel_rfl) (yields_not rfl) ?_
  simp only [Act.put, List.setIfInBounds_toArray, List.set_cons_zero, List.set_cons_succ]
  refine detL_val (by kernel_rfl) (yields_not rfl) ?_
  simp only [Act.put, List.setIfInBounds_toArray, List.set_cons_zero, List.set_cons_succ]
  refine detL_val (by kernel_rfl) (yields_not rfl) ?_
  simp only [Act.put, List.setIfInBounds_toArray, List.set_cons_zero, List.set_cons_succ]
  refine detL_val (by kernel_rfl) (yields_not rfl) ?_
  simp only [Act.put, List.setIfInBounds_toArray, List.set_cons_zero, List.set_cons_succ]
  refine detL_val (by kernel_rfl) (yields_not rfl) ?_
  simp only [Act.put, List.setIfInBounds_toArray, List.set_cons_zero, List.set_cons_succ]
  refine detL_val (by kernel_rfl) (yields_not rfl) ?_
  simp only [Act.put, List.setIfInBounds_toArray, List.set_cons_zero, List.set_cons_succ]
  refine detL_val (by kernel_rfl) (yields_not rfl) ?_
  simp only [Act.put, List.setIfInBounds_toArray, List.set_cons_zero, List.set_cons_succ]
  refine detL_val (by kernel_rfl) (yields_not rfl) ?_
  simp only [Act.put, List.setIfInBounds_toArray, List.set_cons_zero, List.set_cons_succ]
  refine detL_val (by kernel_rfl) (yields_of rfl fun w1 hb1 => ?_) ?_
  · have hc1 := bcellD hb1
    clear hb1
    go_simp
    exact Det1_same
  simp only [Act.put, List.setIfInBounds_toArray, List.set_cons_zero, List.set_cons_succ]
  refine detL_done (by kernel_rfl) fun w1 hw1 => ?_
  have hc1 := (bcell hw1.below).1
  have hf1 := (bcell hw1.below).2
  have hz1 : w.heap.size < w1.heap.size := by have := hw1.below.size; simp at this; omega
  have HB1 := Lib.hid hw1.below
  clear hw1
  go_wp2
  refine bodyPost_ret (v := .agg #[.int .i64 0, .string ⟨#[]⟩]) (by simp [results, Tryz.results176, go_sem, hc1, hf1, hz1]) rfl ⟨rfl, ?_⟩
  first
    | exact ((Below.refl _ _).alloc (Nat.le_refl _) _).drew.trans (HB1.out.mono (by simp))
    | exact cSet2 (by omega) (((Below.refl _ _).alloc (Nat.le_refl _) _).drew.trans (HB1.out.mono (by simp))) _ _

set_option maxRecDepth 100000 in
set_option maxHeartbeats 4000000 in
theorem next_tok (g : Nat) (A : Option Addr) (c : Nat) (l : List Tn) (at' ask : Nat) (w : World) (hz : Pz w g A c l at' ask false) (x : Tn) (hx : l[at']? = some x) (hm : tmayB x.k x.s = true) (hts : x.s.size ≤ 100000) (hn : l.length ≤ 100000) :
    Calls Tryz.prog 176 #[.pointer (some ⟨g, 0, none⟩)] w fun e w' => e = .returned (.agg #[.int .i64 x.k, .string x.s]) ∧ Below w.heap.size w w' := by
  obtain ⟨hlt, hx⟩ := List.getElem?_eq_some_iff.1 hx
  obtain ⟨a, rfl, hag, hA⟩ := hz.tk at' hlt
  rw [hx] at hA
  have hab := hA.lt
  obtain ⟨tk, ts⟩ := x
  have HT := Lib.hid hm
  have HA := Lib.hid hA
  have hbq : (((at' : Nat) : Int) == ((l.length : Nat) : Int)) = false := beq_eq_false_iff_ne.2 (by omega)
  have c0 := hA.c0
  have c1 := hA.c1
  clear hx hm hA
  have HZ := Lib.hid hz
  have hgl := hz.lt
  have e0 := hz.c0
  have e1 := hz.c1
  have e3 := hz.c3
  clear hz
  obtain ⟨n, HN⟩ : ∃ n, Hid (l.length = n) := ⟨_, Lib.hid rfl⟩
  rw [HN.out] at e0 hbq hn hlt
  simp only at hts c0 c1 hab ⊢
  go_enter Tryz.func176, Tryz.ntmps176
  go_wp2
  refine detL_begin [.val (.pointer (some ⟨g, 0, none⟩)), .val (.pointer (some ⟨g, 0, none⟩)), .val (.pointer (some ⟨g, 3, none⟩)), .val (.bool false), .val (.bool false), .val (.pointer (some ⟨g, 0, none⟩)), .val (.pointer (some ⟨g, 0, none⟩)), .val (.pointer (some ⟨g, 1, none⟩)), .val (.int .i64 at'), .val (.pointer (some ⟨g, 0, none⟩)), .val (.pointer (some ⟨g, 0, none⟩)), .val (.pointer (some ⟨g, 0, none⟩)), .val (.slice (some a) n c), .val (.int .i64 n), .val (.bool false), .val (.bool false), .val (.bool false), .val (.pointer (some ⟨g, 0, none⟩)), .val (.pointer (some ⟨g, 0, none⟩)), .val (.pointer (some ⟨g, 0, none⟩)), .val (.slice (some a) n c), .val (.pointer (some ⟨g, 0, none⟩)), .val (.pointer (some ⟨g, 0, none⟩)), .val (.pointer (some ⟨g, 1, none⟩)), .val (.int .i64 at'), .val (.pointer (some (a.add (at' * 2)))), .val (.agg #[.int .i64 tk, .string ts]), .val (.bool true), .val (.bool false), .val (.bool false)] 30 (by kernel_rfl) ?_
  refine detL_val (by kernel_rfl) (yields_of rfl fun w1 hb1 => ?_) ?_
  · have hc1 := bcellD hb1
    clear hb1
    go_simp
    exact Det1_same
  simp only [Act.put, List.setIfInBounds_toArray, List.set_cons_zero, List.set_cons_succ]
  refine detL_val (by kernel_rfl) (yields_of rfl fun w1 hb1 => ?_) ?_
  · have hc1 := bcellD hb1
    clear hb1
    go_simp
    exact Det1_same
  simp only [Act.put, List.setIfInBounds_toArray, List.set_cons_zero, List.set_cons_succ]
  refine detL_val (by kernel_rfl) (yields_of rfl fun w1 hb1 => ?_) ?_
  · have hc1 := bcellD hb1
    clear hb1
    go_simp
    exact Det1_same
  simp only [Act.put, List.setIfInBounds_toArray, List.set_cons_zero, List.set_cons_succ]
  refine detL_val (by kernel_rfl) (yields_of rfl fun w1 hb1 => ?_) ?_
  · have hc1 := bcellD hb1
    clear hb1
    go_simp
    exact Det1_same
  simp only [Act.put, List.setIfInBounds_toArray, List.set_cons_zero, List.set_cons_succ]
  refine detL_val (by kernel_rfl) (yields_of rfl fun w1 hb1 => ?_) ?_
  · have hc1 := bcellD hb1
    clear hb1
    go_simp
    exact Det1_same
  simp only [Act.put, List.setIfInBounds_toArray, List.set_cons_zero, List.set_cons_succ]
  refine detL_val (by kernel_rfl) (yields_of rfl fun w1 hb1 => ?_) ?_
  · have hc1 := bcellD hb1
    clear hb1
    go_simp
    exact Det1_same
  simp only [Act.put, List.setIfInBounds_toArray, List.set_cons_zero, List.set_cons_succ]
  refine detL_val (by kernel_rfl) (yields_of rfl fun w1 hb1 => ?_) ?_
  · have hc1 := bcellD hb1
    clear hb1
    go_simp
    exact Det1_same
  simp only [Act.put, List.setIfInBounds_toArray, List.set_cons_zero, List.set_cons_succ]
  refine detL_val (by kernel_rfl) (yields_of rfl fun w1 hb1 => ?_) ?_
  · have hc1 := bcellD hb1
    clear hb1
    go_simp
    exact Det1_same
  simp only [Act.put, List.setIfInBounds_toArray, List.set_cons_zero, List.set_cons_succ]
  refine detL_val (by kernel_rfl) (yields_of rfl fun w1 hb1 => ?_) ?_
  · have hc1 := bcellD hb1
    clear hb1
    go_simp
    exact Det1_same
  simp only [Act.put, List.setIfInBounds_toArray, List.set_cons_zero, List.set_cons_succ]
  refine detL_val (by kernel_rfl) (yields_of rfl fun w1 hb1 => ?_) ?_
  · have hc1 := bcellD hb1
    clear hb1
    go_simp
    exact Det1_same
  simp only [Act.put, List.setIfInBounds_toArray, List.set_cons_zero, List.set_cons_succ]
  refine detL_val (by kernel_rfl) (yields_of rfl fun w1 hb1 => ?_) ?_
  · have hc1 := bcellD hb1
    clear hb1
    go_simp
    exact Det1_same
  simp only [Act.put, List.setIfInBounds_toArray, List.set_cons_zero, List.set_cons_succ]
  refine detL_val (by kernel_rfl) (yields_of rfl fun w1 hb1 => ?_) ?_
  · have hc1 := bcellD hb1
    clear hb1
    go_simp
    exact Det1_same
  simp only [Act.put, List.setIfInBounds_toArray, List.set_cons_zero, List.set_cons_succ]
  refine detL_val (by kernel_rfl) (yields_of rfl fun w1 hb1 => ?_) ?_
  · have hc1 := bcellD hb1
    clear hb1
    go_simp
    exact Det1_same
  simp only [Act.put, List.setIfInBounds_toArray, List.set_cons_zero, List.set_cons_succ]
  refine detL_val (by kernel_rfl) (yields_of rfl fun w1 hb1 => ?_) ?_
  · have hc1 := bcellD hb1
    clear hb1
    go_simp
    exact Det1_same
  simp only [Act.put, List.setIfInBounds_toArray, List.set_cons_zero, List.set_cons_succ]
  refine detL_val (by kernel_rfl) (yields_of rfl fun w1 hb1 => ?_) ?_
  · have hc1 := bcellD hb1
    clear hb1
    go_simp
    exact Det1_same
  simp only [Act.put, List.setIfInBounds_toArray, List.set_cons_zero, List.set_cons_succ]
  refine detL_val (by kernel_rfl) (yields_of rfl fun w1 hb1 => ?_) ?_
  · have hc1 := bcellD hb1
    clear hb1
    go_simp
    exact Det1_same
  simp only [Act.put, List.setIfInBounds_toArray, List.set_cons_zero, List.set_cons_succ]
  refine detL_val (by kernel_rfl) (yields_of rfl fun w1 hb1 => ?_) ?_
  · have hc1 := bcellD hb1
    clear hb1
    go_simp
    exact Det1_same
  simp only [Act.put, List.setIfInBounds_toArray, List.set_cons_zero, List.set_cons_succ]
  refine detL_val (by kernel_rfl) (yields_of rfl fun w1 hb1 => ?_) ?_
  · have hc1 := bcellD hb1
    clear hb1
    go_simp
    exact Det1_same
  simp only [Act.put, List.setIfInBounds_toArray, List.set_cons_zero, List.set_cons_succ]
  refine detL_val (by kernel_rfl) (yields_of rfl fun w1 hb1 => ?_) ?_
  · have hc1 := bcellD hb1
    clear hb1
    go_simp
    exact Det1_same
  simp only [Act.put, List.setIfInBounds_toArray, List.set_cons_zero, List.set_cons_succ]
  refine detL_val (by kernel_rfl) (yields_of rfl fun w1 hb1 => ?_) ?_
  · have hc1 := bcellD hb1
    clear hb1
    go_simp
    exact Det1_same
  simp only [Act.put, List.setIfInBounds_toArray, List.set_cons_zero, List.set_cons_succ]
  refine detL_val (by kernel_rfl) (yields_of rfl fun w1 hb1 => ?_) ?_
  · have hc1 := bcellD hb1
    clear hb1
    go_simp
    exact Det1_same
  simp only [Act.put, List.setIfInBounds_toArray, List.set_cons_zero, List.set_cons_succ]
  refine detL_val (by kernel_rfl) (yields_of rfl fun w1 hb1 => ?_) ?_
  · have hc1 := bcellD hb1
    clear hb1
    go_simp
    exact Det1_same
  simp only [Act.put, List.setIfInBounds_toArray, List.set_cons_zero, List.set_cons_succ]
  refine detL_val (by kernel_rfl) (yields_of rfl fun w1 hb1 => ?_) ?_
  · have hc1 := bcellD hb1
    clear hb1
    go_simp
    exact Det1_same
  simp only [Act.put, List.setIfInBounds_toArray, List.set_cons_zero, List.set_cons_succ]
  refine detL_val (by kernel_rfl) (yields_of rfl fun w1 hb1 => ?_) ?_
  · have hc1 := bcellD hb1
    clear hb1
    go_simp
    exact Det1_same
  simp only [Act.put, List.setIfInBounds_toArray, List.set_cons_zero, List.set_cons_succ]
  refine detL_val (by kernel_rfl) (yields_of rfl fun w1 hb1 => ?_) ?_
  · have hc1 := bcellD hb1
    clear hb1
    go_simp
    exact Det1_same
  simp only [Act.put, List.setIfInBounds_toArray, List.set_cons_zero, List.set_cons_succ]
  refine detL_val (by kernel_rfl) (yields_of rfl fun w1 hb1 => ?_) ?_
  · have hc1 := bcellD hb1
    clear hb1
    go_simp
    exact Det1_same
  simp only [Act.put, List.setIfInBounds_toArray, List.set_cons_zero, List.set_cons_succ]
  refine detL_val (by kernel_rfl) (yields_of rfl fun w1 hb1 => ?_) ?_
  · have hc1 := bcellD hb1
    have hbw : Below w.heap.size w w1 := ((Below.refl _ _).alloc (Nat.le_refl _) _).drew.trans (hb1.mono (by simp)); have cA := (TnAt.keep HA.out (hbw.block _ hab)); have k0 := cA.c0; have k1 := cA.c1; clear cA
    clear hb1
    go_simp
    exact Det1_same
  simp only [Act.put, List.setIfInBounds_toArray, List.set_cons_zero, List.set_cons_succ]
  refine detL_val (by kernel_rfl) (yields_of rfl fun w1 hb1 => ?_) ?_
  · have hc1 := bcellD hb1
    clear hb1
    go_simp
    exact Det1_enter (by rw [← HT.out]; exact tmay_any _ _ _ hts)
  simp only [Act.put, List.setIfInBounds_toArray, List.set_cons_zero, List.set_cons_succ]
  refine detL_val (by kernel_rfl) (yields_of rfl fun w1 hb1 => ?_) ?_
  · have hc1 := bcellD hb1
    clear hb1
    go_simp
    exact Det1_same
  simp only [Act.put, List.setIfInBounds_toArray, List.set_cons_zero, List.set_cons_succ]
  refine detL_val (by kernel_rfl) (yields_of rfl fun w1 hb1 => ?_) ?_
  · have hc1 := bcellD hb1
    clear hb1
    go_simp
    exact Det1_same
  simp only [Act.put, List.setIfInBounds_toArray, List.set_cons_zero, List.set_cons_succ]
  refine detL_done (by kernel_rfl) fun w1 hw1 => ?_
  have hc1 := (bcell hw1.below).1
  have hf1 := (bcell hw1.below).2
  have hz1 : w.heap.size < w1.heap.size := by have := hw1.below.size; simp at this; omega
  have HB1 := Lib.hid hw1.below
  clear hw1
  have hbw : Below w.heap.size w w1 := ((Below.refl _ _).alloc (Nat.le_refl _) _).drew.trans (HB1.out.mono (by simp))
  have HA1 : Hid (TnAt w1 (a.add (at' * 2)) ⟨tk, ts⟩) := HA.out.keep (hbw.block _ hab)
  have k0 := HA1.out.c0
  have k1 := HA1.out.c1
  have f0 : w1.cell? ⟨g, 0, none⟩ = some (.slice (some a) n c) := (hbw.cell (p := ⟨g, 0, none⟩) hgl).trans e0
  have f1 : w1.cell? ⟨g, 1, none⟩ = some (.int .i64 at') := (hbw.cell (p := ⟨g, 1, none⟩) hgl).trans e1
  have hwl := hbw.size
  have hab1 : (a.add (at' * 2)).block < w1.heap.size := by omega
  have hgl1 : g < w1.heap.size := by omega
  have r0 : w1.cell? ⟨w.heap.size, 0, none⟩ = some (.int .i64 0) := by rw [hc1 _ _ (by simp)]; simp [go_sem]
  have r1 : w1.cell? ⟨w.heap.size, 1, none⟩ = some (.string ⟨#[]⟩) := by rw [hc1 _ _ (by simp)]; simp [go_sem]
  have rf : ∀ o, w1.frozen? ⟨w.heap.size, o, none⟩ = false := fun o => by rw [hf1 _ _ (by simp)]; simp [go_sem]
  have HBW := Lib.hid hbw
  have HRF := Lib.hid rf
  clear hc1 hf1 e0 e1 e3 c0 c1 hbw rf HB1
  go_wp2
  refine detL_begin [.val (.pointer (some ⟨g, 0, none⟩)), .val (.pointer (some ⟨g, 0, none⟩)), .val (.pointer (some ⟨g, 0, none⟩)), .val (.slice (some a) n c), .val (.pointer (some ⟨g, 0, none⟩)), .val (.pointer (some ⟨g, 0, none⟩)), .val (.pointer (some ⟨g, 1, none⟩)), .val (.int .i64 at'), .val (.pointer (some (a.add (at' * 2)))), .val (.agg #[.int .i64 tk, .string ts])] 10 (by kernel_rfl) ?_
  refine detL_val (by kernel_rfl) (yields_of rfl fun w1 hb1 => ?_) ?_
  · have hc1 := bcellD hb1
    clear hb1
    go_simp
    exact Det1_same
  simp only [Act.put, List.setIfInBounds_toArray, List.set_cons_zero, List.set_cons_succ]
  refine detL_val (by kernel_rfl) (yields_of rfl fun w1 hb1 => ?_) ?_
  · have hc1 := bcellD hb1
    clear hb1
    go_simp
    exact Det1_same
  simp only [Act.put, List.setIfInBounds_toArray, List.set_cons_zero, List.set_cons_succ]
  refine detL_val (by kernel_rfl) (yields_of rfl fun w1 hb1 => ?_) ?_
  · have hc1 := bcellD hb1
    clear hb1
    go_simp
    exact Det1_same
  simp only [Act.put, List.setIfInBounds_toArray, List.set_cons_zero, List.set_cons_succ]
  refine detL_val (by kernel_rfl) (yields_of rfl fun w1 hb1 => ?_) ?_
  · have hc1 := bcellD hb1
    clear hb1
    go_simp
    exact Det1_same
  simp only [Act.put, List.setIfInBounds_toArray, List.set_cons_zero, List.set_cons_succ]
  refine detL_val (by kernel_rfl) (yields_of rfl fun w1 hb1 => ?_) ?_
  · have hc1 := bcellD hb1
    clear hb1
    go_simp
    exact Det1_same
  simp only [Act.put, List.setIfInBounds_toArray, List.set_cons_zero, List.set_cons_succ]
  refine detL_val (by kernel_rfl) (yields_of rfl fun w1 hb1 => ?_) ?_
  · have hc1 := bcellD hb1
    clear hb1
    go_simp
    exact Det1_same
  simp only [Act.put, List.setIfInBounds_toArray, List.set_cons_zero, List.set_cons_succ]
  refine detL_val (by kernel_rfl) (yields_of rfl fun w1 hb1 => ?_) ?_
  · have hc1 := bcellD hb1
    clear hb1
    go_simp
    exact Det1_same
  simp only [Act.put, List.setIfInBounds_toArray, List.set_cons_zero, List.set_cons_succ]
  refine detL_val (by kernel_rfl) (yields_of rfl fun w1 hb1 => ?_) ?_
  · have hc1 := bcellD hb1
    clear hb1
    go_simp
    exact Det1_same
  simp only [Act.put, List.setIfInBounds_toArray, List.set_cons_zero, List.set_cons_succ]
  refine detL_val (by kernel_rfl) (yields_of rfl fun w1 hb1 => ?_) ?_
  · have hc1 := bcellD hb1
    clear hb1
    go_simp
    exact Det1_same
  simp only [Act.put, List.setIfInBounds_toArray, List.set_cons_zero, List.set_cons_succ]
  refine detL_val (by kernel_rfl) (yields_of rfl fun w1 hb1 => ?_) ?_
  · have hc1 := bcellD hb1
    have cA := HA1.out.keep (hb1.block _ hab1); have j0 := cA.c0; have j1 := cA.c1; clear cA
    clear hb1
    go_simp
    exact Det1_same
  simp only [Act.put, List.setIfInBounds_toArray, List.set_cons_zero, List.set_cons_succ]
  refine detL_tail rfl (by kernel_rfl) fun w2 hw2 => ?_
  have hc2 := (bcell hw2.below).1
  have hz2 : w.heap.size < w2.heap.size := by have := hw2.below.size; simp at this; omega
  have g0 : w2.cell? ⟨w.heap.size, 0, none⟩ = some (.int .i64 0) := (hc2 _ _ (by simpa using hz1)).trans r0
  have g1 : w2.cell? ⟨w.heap.size, 1, none⟩ = some (.string ⟨#[]⟩) := (hc2 _ _ (by simpa using hz1)).trans r1
  have gf0 : w2.frozen? ⟨w.heap.size, 0, none⟩ = false := ((bcell hw2.below).2 _ _ (by simpa using hz1)).trans (HRF.out 0)
  have gf1 : w2.frozen? ⟨w.heap.size, 1, none⟩ = false := ((bcell hw2.below).2 _ _ (by simpa using hz1)).trans (HRF.out 1)
  have HB2 := Lib.hid hw2.below
  clear hw2 hc2 r0 r1
  go_wp2
  refine bodyPost_ret (v := .agg #[.int .i64 tk, .string ts]) (by simp [results, Tryz.results176, go_sem, *]) rfl ⟨rfl, ?_⟩
  exact cSet2 (by omega) (HBW.out.trans ((Below.refl w1.heap.size w1).drew.trans HB2.out |>.mono hwl)) _ _

/-- The token at hand. -/
def Nx (l : List Tn) (at' : Nat) (failed : Bool) (t : Tn) : Prop :=
  (failed = true ∧ t = ⟨0, ⟨#[]⟩⟩) ∨ (failed = false ∧ at' = l.length ∧ t = ⟨0, ⟨#[]⟩⟩) ∨ (failed = false ∧ l[at']? = some t ∧ tmayB t.k t.s = true ∧ t.s.size ≤ 100000)
theorem next_any (g : Nat) (A : Option Addr) (c : Nat) (l : List Tn) (at' ask : Nat) (failed : Bool) (w : World) (hz : Pz w g A c l at' ask failed) (hn : l.length ≤ 100000) (t : Tn) (ht : Nx l at' failed t) :
    Calls Tryz.prog 176 #[.pointer (some ⟨g, 0, none⟩)] w fun e w' => e = .returned (.agg #[.int .i64 t.k, .string t.s]) ∧ Below w.heap.size w w' := by
  rcases ht with ⟨rfl, rfl⟩ | ⟨rfl, he, rfl⟩ | ⟨rfl, hx, hm, hs⟩
  · exact next_failed g A c l at' ask w hz
  · exact next_end g A c l at' ask w hz he hn
  · exact next_tok g A c l at' ask w hz t hx hm hs hn
end Go.Proofs.YtmgcmiflbjhakaaGreatDoor

/- The parser: what it takes; where it fails; what is checked. -/
namespace Go.Proofs.YtmgcmiflbjhakaaGreatDoor
open Go.RowKit Go.Lib

theorem cSet6 {a b : World} {n k : Nat} (hn : n ≤ k) (h : Below n a b) (x y z u v r : Value) : Below n a ((((((b.setCell ⟨k, 0, none⟩ x).setCell ⟨k, 1, none⟩ y).setCell ⟨k, 2, none⟩ z).setCell ⟨k, 3, none⟩ u).setCell ⟨k, 4, none⟩ v).setCell ⟨k, 5, none⟩ r) :=
  (((((h.setCell hn x).setCell hn y).setCell hn z).setCell hn u).setCell hn v).setCell hn r
def isB (t : Tn) (wd : ByteArray) : Bool := (decide (t.k = 1) || decide (t.k = 4)) && (t.s.toList == wd.toList)
theorem gcell {W w1 : World} {g : Nat} (h : W.grownBy w1 (some g)) : (∀ b o, b < W.heap.size → ¬ b = g → w1.cell? ⟨b, o, none⟩ = W.cell? ⟨b, o, none⟩) ∧ (∀ b o, b < W.heap.size → ¬ b = g → w1.frozen? ⟨b, o, none⟩ = W.frozen? ⟨b, o, none⟩) :=
  ⟨fun b o hl hn => World.cell?_of_block (w := W) (a := ⟨b, o, none⟩) (h.block b hl (fun e => hn (by injection e))), fun b o hl hn => World.frozen?_of_block (w := W) (a := ⟨b, o, none⟩) (h.block b hl (fun e => hn (by injection e)))⟩
def set6 (W : World) (b : Nat) (x y z u v r : Value) : World := (((((W.setCell ⟨b, 0, none⟩ x).setCell ⟨b, 1, none⟩ y).setCell ⟨b, 2, none⟩ z).setCell ⟨b, 3, none⟩ u).setCell ⟨b, 4, none⟩ v).setCell ⟨b, 5, none⟩ r
theorem set6_block (W : World) (b : Nat) (x y z u v r : Value) {q : Nat} (h : q ≠ b) : (set6 W b x y z u v r).heap[q]? = W.heap[q]? := by
  unfold set6
  iterate 6 rw [Below.heap_setCell _ _ _ _ (by exact h)]
theorem set6_size (W : World) (b : Nat) (x y z u v r : Value) : (set6 W b x y z u v r).heap.size = W.heap.size := by simp [set6, World.setCell]
theorem Pz.set6 {W : World} {g : Nat} {A : Option Addr} {c : Nat} {l : List Tn} {at' ask : Nat} {failed : Bool} (h : Pz W g A c l at' ask failed) {b : Nat} (hb : g < b) (x y z u v r : Value) : Pz (set6 W b x y z u v r) g A c l at' ask failed :=
  h.keep (fun q hq => set6_block _ _ _ _ _ _ _ _ (by omega)) fun w0 hw k => by
    have hb' : w0.heap.size ≤ b := by omega
    unfold _root_.Go.Proofs.YtmgcmiflbjhakaaGreatDoor.set6
    exact (((((k.setCell hb' _).setCell hb' _).setCell hb' _).setCell hb' _).setCell hb' _).setCell hb' _
theorem grow_setn {w W : World} {g b o : Nat} {v : Value} (h : w.grownBy W (some g)) (hb : w.heap.size ≤ b) : w.grownBy (W.setCell ⟨b, o, none⟩ v) (some g) :=
  ⟨h.os, h.tape, h.output, by simpa [World.setCell] using h.size, fun k hk hn => (Below.heap_setCell _ _ _ _ (by show k ≠ b; omega)).trans (h.block k hk hn)⟩
theorem grow_set6 {w W : World} {g b : Nat} (h : w.grownBy W (some g)) (hb : w.heap.size ≤ b) (x y z u v r : Value) : w.grownBy (set6 W b x y z u v r) (some g) := by
  unfold set6
  exact grow_setn (grow_setn (grow_setn (grow_setn (grow_setn (grow_setn h hb) hb) hb) hb) hb) hb
theorem Tr.set6 {W : World} {P Q : Nat → Prop} {n : Nat} {t : Ex} {y' : Value} (h : Tr W P n t y') {b : Nat} (hb : ¬ P b) (hq : ∀ b, P b → b < W.heap.size → Q b) (x y z u v r : Value) : Tr (set6 W b x y z u v r) Q n t y' :=
  h.keep (fun q hp _ => set6_block _ _ _ _ _ _ _ _ (fun e => hb (e ▸ hp))) hq

theorem Tr.bound {w : World} {P : Nat → Prop} {n : Nat} {t : Ex} {u : Value} (h : Tr w P n t u) : Tr w (fun b => P b ∧ b < w.heap.size) n t u := h.keep (fun _ _ _ => rfl) (fun _ hp hl => ⟨hp, hl⟩)

/-- No expression. -/
def zT : Ex := .mk ⟨#[]⟩ ⟨0, 0, ⟨#[]⟩⟩ ⟨#[]⟩ []
theorem zT_tr (W : World) (P : Nat → Prop) (n : Nat) : Tr W P n zT (.slice none 0 0) := by
  refine ⟨by decide, ?_⟩
  cases n with
  | zero => exact ⟨rfl, none, 0, rfl⟩
  | succ n => exact ⟨none, 0, rfl, by simp [zT, Ex.l, maxLen], fun j hj => absurd hj (by simp [zT, Ex.l])⟩
/-- What parsing a part comes to: the expression, of blocks of Q or new ones; the parser's state. -/
def Res (w : World) (g : Nat) (A : Option Addr) (c : Nat) (l : List Tn) (N : Nat) (Q : Nat → Prop) (t : Ex) (at' ask : Nat) (failed : Bool) (e : Ending) (w' : World) : Prop :=
  ∃ u, e = .returned (EVt t u) ∧ Tr w' (fun b => Q b ∨ w.heap.size ≤ b) N t u ∧ Pz w' g A c l at' ask failed ∧ w.grownBy w' (some g)
theorem Res.store {N : Nat} {w W : World} {g : Nat} {A : Option Addr} {c : Nat} {l : List Tn} {Q R : Nat → Prop} {t : Ex} {at' ask : Nat} {failed : Bool} {b : Nat} {u : Value} (hT : Tr W R N t u) (hP : Pz W g A c l at' ask failed) (hG : w.grownBy W (some g)) (hb : w.heap.size ≤ b) (hg : g < w.heap.size) (hR : ¬ R b) (hQ : ∀ x, R x → x < W.heap.size → Q x ∨ w.heap.size ≤ x) (x y z v r q : Value) :
    Res w g A c l N Q t at' ask failed (.returned (EVt t u)) (set6 W b x y z v r q) :=
  ⟨u, rfl, hT.set6 hR hQ _ _ _ _ _ _, hP.set6 (by omega) _ _ _ _ _ _, grow_set6 hG hb _ _ _ _ _ _⟩

set_option maxRecDepth 100000 in
set_option maxHeartbeats 1600000 in
theorem is_any (t : Tn) (wd : ByteArray) (w : World) :
    Calls Tryz.prog 177 #[.agg #[.int .i64 t.k, .string t.s], .string wd] w fun e w' => e = .returned (.bool (isB t wd)) ∧ Below w.heap.size w w' := by
  obtain ⟨k, s⟩ := t
  by_cases h1 : k = 1
  · subst h1
    go_enter Tryz.func177, Tryz.ntmps177
    go_wp2_with (fail)
    all_goals go_ret
    all_goals refine ⟨ret_bool ?_, (Below.refl _ _).alloc (Nat.le_refl _) _⟩
    all_goals simp [isB, *]
  · by_cases h4 : k = 4
    · subst h4
      go_enter Tryz.func177, Tryz.ntmps177
      go_wp2_with (fail)
      all_goals go_ret
      all_goals refine ⟨ret_bool ?_, (Below.refl _ _).alloc (Nat.le_refl _) _⟩
      all_goals simp [isB, *]
    · have b1 : (k == 1) = false := beq_eq_false_iff_ne.2 h1
      have b4 : (k == 4) = false := beq_eq_false_iff_ne.2 h4
      go_enter Tryz.func177, Tryz.ntmps177
      go_wp2_with (fail)
      all_goals go_ret
      all_goals refine ⟨ret_bool ?_, (Below.refl _ _).alloc (Nat.le_refl _) _⟩
      all_goals simp [isB, h1, h4]

/-- A slice reads as these words. -/
def Wds (W : World) (b : Nat) (ws : List ByteArray) : Prop := ∀ j (h : j < ws.length), W.cell? ⟨b, j, none⟩ = some (.string ws[j])
theorem Wds.below {W W' : World} {b : Nat} {ws : List ByteArray} (h : Wds W b ws) (hb : Below W.heap.size W W') : Wds W' b ws := fun j hj => (hb.cell (p := ⟨b, j, none⟩) (World.block_lt_of_cell? W _ (h j hj))).trans (h j hj)

set_option maxRecDepth 100000 in
set_option maxHeartbeats 4000000 in
theorem take_no (g : Nat) (A : Option Addr) (c : Nat) (l : List Tn) (at' ask : Nat) (failed : Bool) (b cap : Nat) (ws : List ByteArray) (t : Tn) (w : World) (hz : Pz w g A c l at' ask failed) (hl : l.length ≤ 100000) (ht : Nx l at' failed t) (hw : Wds w b ws) (hn : ws.length ≤ 1000) (hno : ∀ x ∈ ws, isB t x = false) :
    Calls Tryz.prog 110 #[.pointer (some ⟨g, 0, none⟩), .slice (some ⟨b, 0, none⟩) ws.length cap] w fun e w' => e = .returned (.string ⟨#[]⟩) ∧ Below w.heap.size w w' := by
  have HZ := Lib.hid (And.intro hz (And.intro ht hw))
  have HN := Lib.hid hno
  obtain ⟨n, HL⟩ : ∃ n, Hid (ws.length = n) := ⟨_, Lib.hid rfl⟩
  rw [HL.out] at hn ⊢
  clear hz ht hw hno
  go_enter Tryz.func110, Tryz.ntmps110
  go_wp2_with (go_at_call 176; refine (next_any g A c l at' ask failed _ HZ.out.1 hl t HZ.out.2.1).mono ?_; rintro e w1 ⟨rfl, hb1⟩; have HB1 := Lib.hid hb1; clear hb1)
  have HX : Hid (Below w.heap.size w (w1.alloc (.cells #[.int .i64 t.k, .string t.s] 48)) ∧ TnAt (w1.alloc (.cells #[.int .i64 t.k, .string t.s] 48)) ⟨w1.heap.size, 0, none⟩ t) := ⟨HB1.out.alloc HB1.out.size _, ⟨by simp [go_sem], by simp [go_sem]⟩⟩
  obtain ⟨w2, hw2⟩ : ∃ w2, w2 = w1.alloc (.cells #[.int .i64 t.k, .string t.s] 48) := ⟨_, rfl⟩
  rw [← hw2] at HX ⊢
  clear hw2
  go_loopw [12] (fun iv wr => ∃ j : Nat, j ≤ n ∧ iv = .int .i64 j ∧ Below w2.heap.size w2 wr) (fun iv _ => n - (intOf iv).toNat)
  case atStart => exact ⟨0, by omega, rfl, Below.refl _ _⟩
  case round =>
    obtain ⟨j, hj, rfl, hb⟩ := hrel
    have hbs := hb.size
    have hA := HX.out.2.keep (hb.block _ HX.out.2.lt)
    have k0 := hA.c0
    have k1 := hA.c1
    have hlt2 : w1.heap.size < wr.heap.size := hA.lt
    clear hA
    by_cases hlt : j < n
    · have hjl : j < ws.length := by rw [HL.out]; exact hlt
      have cw : wr.cell? ⟨b, j, none⟩ = some (.string ws[j]) := (((HZ.out.2.2).below HX.out.1).below hb) j hjl
      have HF := Lib.hid (HN.out _ (List.getElem_mem hjl))
      generalize ws[j] = y at cw HF
      go_wp2_with (go_at_call 177; refine (is_any t y _).mono ?_; rintro e w3 ⟨rfl, hb3⟩; rw [HF.out]; have HB3 := Lib.hid hb3; clear hb3)
      go_roundw
      case rel => exact ⟨j + 1, by omega, by go_num, hb.trans (HB3.out.mono hbs)⟩
      case measure => simp [intOf]; omega
    · obtain rfl : n = j := by omega
      go_wp2_with (fail)
      go_ret
      exact ⟨rfl, HX.out.1.trans (hb.mono HX.out.1.size)⟩

set_option maxRecDepth 100000 in
set_option maxHeartbeats 4000000 in
theorem take_yes (g : Nat) (A : Option Addr) (c : Nat) (l : List Tn) (at' ask : Nat) (failed : Bool) (b cap : Nat) (ws : List ByteArray) (t : Tn) (i : Nat) (wd : ByteArray) (w : World) (hz : Pz w g A c l at' ask failed) (hl : l.length ≤ 100000) (ha : at' ≤ 100000) (ht : Nx l at' failed t) (hw : Wds w b ws) (hn : ws.length ≤ 1000) (hi : ws[i]? = some wd) (hyes : isB t wd = true) (hno : ∀ j x, j < i → ws[j]? = some x → isB t x = false) :
    Calls Tryz.prog 110 #[.pointer (some ⟨g, 0, none⟩), .slice (some ⟨b, 0, none⟩) ws.length cap] w fun e w' => e = .returned (.string wd) ∧ Pz w' g A c l (at' + 1) ask failed ∧ w.grownBy w' (some g) := by
  have HZ := Lib.hid (And.intro hz (And.intro ht hw))
  have HN := Lib.hid hno
  have HI := Lib.hid (And.intro hi hyes)
  have hgl := hz.lt
  obtain ⟨n, HL⟩ : ∃ n, Hid (ws.length = n) := ⟨_, Lib.hid rfl⟩
  have hin : i < n := by rw [← HL.out]; exact (List.getElem?_eq_some_iff.1 hi).1
  rw [HL.out] at hn ⊢
  clear hz ht hw hno hi hyes
  go_enter Tryz.func110, Tryz.ntmps110
  go_wp2_with (go_at_call 176; refine (next_any g A c l at' ask failed _ HZ.out.1 hl t HZ.out.2.1).mono ?_; rintro e w1 ⟨rfl, hb1⟩; have HB1 := Lib.hid hb1; clear hb1)
  have HX : Hid (Below w.heap.size w (w1.alloc (.cells #[.int .i64 t.k, .string t.s] 48)) ∧ TnAt (w1.alloc (.cells #[.int .i64 t.k, .string t.s] 48)) ⟨w1.heap.size, 0, none⟩ t) := ⟨HB1.out.alloc HB1.out.size _, ⟨by simp [go_sem], by simp [go_sem]⟩⟩
  obtain ⟨w2, hw2⟩ : ∃ w2, w2 = w1.alloc (.cells #[.int .i64 t.k, .string t.s] 48) := ⟨_, rfl⟩
  rw [← hw2] at HX ⊢
  clear hw2
  go_loopw [12] (fun iv wr => ∃ j : Nat, j ≤ i ∧ iv = .int .i64 j ∧ Below w2.heap.size w2 wr) (fun iv _ => n - (intOf iv).toNat)
  case atStart => exact ⟨0, by omega, rfl, Below.refl _ _⟩
  case round =>
    obtain ⟨j, hj, rfl, hb⟩ := hrel
    have hbs := hb.size
    have hA := HX.out.2.keep (hb.block _ HX.out.2.lt)
    have k0 := hA.c0
    have k1 := hA.c1
    have hlt2 : w1.heap.size < wr.heap.size := hA.lt
    clear hA
    have hlt : j < n := by omega
    have hjl : j < ws.length := by rw [HL.out]; exact hlt
    have cw : wr.cell? ⟨b, j, none⟩ = some (.string ws[j]) := (((HZ.out.2.2).below HX.out.1).below hb) j hjl
    by_cases hji : j < i
    · have HF := Lib.hid (HN.out j _ hji (List.getElem?_eq_getElem hjl))
      generalize ws[j] = y at cw HF
      go_wp2_with (go_at_call 177; refine (is_any t y _).mono ?_; rintro e w3 ⟨rfl, hb3⟩; rw [HF.out]; have HB3 := Lib.hid hb3; clear hb3)
      go_roundw
      case rel => exact ⟨j + 1, by omega, by go_num, hb.trans (HB3.out.mono hbs)⟩
      case measure => simp [intOf]; omega
    · obtain rfl : i = j := by omega
      have HW : Hid (ws[i] = wd) := Option.some.inj ((List.getElem?_eq_getElem hjl).symm.trans HI.out.1)
      rw [HW.out] at cw
      have HF := Lib.hid HI.out.2
      go_wp2_with (go_at_call 177; refine (is_any t wd _).mono ?_; rintro e w3 ⟨rfl, hb3⟩; rw [HF.out]; have HPz := Lib.hid (((HZ.out.1.below HX.out.1).below hb).below hb3); have d0 := HPz.out.c0; have d1 := HPz.out.c1; have df := HPz.out.fz 1; have HB3 : Hid (Below w.heap.size w w3) := (HX.out.1.trans (hb.mono HX.out.1.size)).trans (hb3.mono (by have := HX.out.1.size; omega)); clear hb3)
      go_ret
      exact ⟨rfl, HPz.out.goto (at' + 1), grow_trans (grow_below HB3.out _) (grow_set _ _ _ _)⟩

set_option maxRecDepth 100000 in
set_option maxHeartbeats 1600000 in
theorem fail_any {N : Nat} (g : Nat) (A : Option Addr) (c : Nat) (l : List Tn) (at' ask : Nat) (failed : Bool) (w : World) (hz : Pz w g A c l at' ask failed) (Q : Nat → Prop) :
    Calls Tryz.prog 179 #[.pointer (some ⟨g, 0, none⟩)] w (Res w g A c l N Q zT at' ask true) := by
  have HZ := Lib.hid hz
  have hgl := hz.lt
  have d0 := hz.c3
  have df := hz.fz 3
  have hne : ¬ w.heap.size = g := by omega
  clear hz
  go_enter Tryz.func179, Tryz.ntmps179
  go_wp2_with (fail)
  refine bodyPost_ret (v := .agg #[.string ⟨#[]⟩, .int .i64 0, .int .i64 0, .string ⟨#[]⟩, .string ⟨#[]⟩, .slice none 0 0]) (by simp [results, Tryz.results179, go_sem, *]) rfl ⟨.slice none 0 0, rfl, zT_tr _ _ _, ?_, ?_⟩
  · first | exact (HZ.out.alloc _).fails | exact HZ.out.fails.alloc _
  · first | exact grow_trans (grow_alloc _ _ _) (grow_set _ _ _ _) | exact grow_trans (grow_set _ _ _ _) (grow_alloc _ _ _)

set_option maxRecDepth 100000 in
set_option maxHeartbeats 4000000 in
theorem checked_yes {N : Nat} (g : Nat) (A : Option Addr) (c : Nat) (l : List Tn) (at' ask : Nat) (failed : Bool) (w : World) (hz : Pz w g A c l at' ask failed) (Q : Nat → Prop) (t : Ex) (u : Value) (ht : Tr w Q N t u) (hm : mayT t = true) :
    Calls Tryz.prog 113 #[.pointer (some ⟨g, 0, none⟩), EVt t u] w (Res w g A c l N Q t at' ask failed) := by
  have HT := Lib.hid ht
  have HF := Lib.hid hm
  have HZ := Lib.hid hz
  have hgl := hz.lt
  have HM := Lib.hid (fun W h => emay_any Q N t u W h)
  obtain ⟨B, q, rfl, hn⟩ := ht.form
  obtain ⟨p, HN⟩ : ∃ p, Hid (t.l.length = p) := ⟨_, Lib.hid rfl⟩
  clear ht hm hz
  unfold EVt at HM ⊢
  rw [HN.out] at hn HM HT ⊢
  go_enter Tryz.func113, Tryz.ntmps113
  go_wp2_with (go_at_call 12; refine (HM.out _ ((HT.out.below ((Below.refl _ _).alloc (Nat.le_refl _) _)).below ((Below.refl _ _).alloc (Nat.le_refl _) _))).mono ?_; rintro e w1 ⟨rfl, hb1⟩; rw [HF.out]; have HB1 : Hid (Below w.heap.size w w1) := (((Below.refl w.heap.size w).alloc (Nat.le_refl _) _).alloc (by simp) _).trans (hb1.mono (by simp; omega)); have hc1 := (bcell hb1).1; have hf1 := (bcell hb1).2; have hy1 := hb1.size; (try simp at hy1); have hz1_0 : w.heap.size < w1.heap.size := (by omega); have hz1_1 : w.heap.size + 1 < w1.heap.size := (by omega))
  refine bodyPost_ret (v := .agg #[.string t.op, .int .i64 t.x.k, .int .i64 t.x.i, .string t.x.s, .string t.s, .slice B p q]) (by simp [results, Tryz.results113, go_sem, *]) rfl ?_
  exact Res.store (R := fun b => Q b ∧ b < w.heap.size) (HT.out.bound.below HB1.out) (HZ.out.below HB1.out) (grow_below HB1.out _) (by omega) hgl (fun h => absurd h.2 (by omega)) (fun x h _ => .inl h.1) _ _ _ _ _ _

set_option maxRecDepth 100000 in
set_option maxHeartbeats 4000000 in
theorem checked_no {N : Nat} (g : Nat) (A : Option Addr) (c : Nat) (l : List Tn) (at' ask : Nat) (failed : Bool) (w : World) (hz : Pz w g A c l at' ask failed) (Q : Nat → Prop) (t : Ex) (u : Value) (ht : Tr w Q N t u) (hm : mayT t = false) :
    Calls Tryz.prog 113 #[.pointer (some ⟨g, 0, none⟩), EVt t u] w (Res w g A c l N Q zT at' ask true) := by
  have HT := Lib.hid ht
  have HF := Lib.hid hm
  have HZ := Lib.hid hz
  have hgl := hz.lt
  have hne : ¬ w.heap.size = g := by omega
  have hne1 : ¬ w.heap.size + 1 = g := by omega
  have HM := Lib.hid (fun W h => emay_any Q N t u W h)
  obtain ⟨B, q, rfl, hn⟩ := ht.form
  obtain ⟨p, HN⟩ : ∃ p, Hid (t.l.length = p) := ⟨_, Lib.hid rfl⟩
  clear ht hm hz
  unfold EVt at HM ⊢
  rw [HN.out] at hn HM HT ⊢
  go_enter Tryz.func113, Tryz.ntmps113
  go_wp2_with (first
    | (go_at_call 12; refine (HM.out _ ((HT.out.below ((Below.refl _ _).alloc (Nat.le_refl _) _)).below ((Below.refl _ _).alloc (Nat.le_refl _) _))).mono ?_; rintro e w1 ⟨rfl, hb1⟩; rw [HF.out]; have HB1 : Hid (Below w.heap.size w w1) := (((Below.refl w.heap.size w).alloc (Nat.le_refl _) _).alloc (by simp) _).trans (hb1.mono (by simp; omega)); have hc1 := (bcell hb1).1; have hf1 := (bcell hb1).2; have hy1 := hb1.size; (try simp at hy1); have hz1_0 : w.heap.size < w1.heap.size := (by omega); have hz1_1 : w.heap.size + 1 < w1.heap.size := (by omega))
    | (go_at_call 179; refine (fail_any (N := N) g A c l at' ask failed _ (HZ.out.below HB1.out) (fun _ => False)).mono ?_; rintro e w2 ⟨u2, rfl, ht2, hp2, hg2⟩; obtain ⟨B2, q2, rfl, _⟩ := ht2.form; unfold EVt; have hc2 := (gcell hg2).1; have hf2 := (gcell hg2).2; have hy2 := hg2.size; (try simp at hy2); have hz2_0 : w.heap.size < w2.heap.size := (by omega); have hz2_1 : w.heap.size + 1 < w2.heap.size := (by omega); have HP2 := Lib.hid (And.intro ht2 (And.intro hp2 hg2)); clear ht2 hp2 hg2))
  refine bodyPost_ret (v := .agg #[.string zT.op, .int .i64 zT.x.k, .int .i64 zT.x.i, .string zT.x.s, .string zT.s, .slice B2 zT.l.length q2]) (by simp [results, Tryz.results113, go_sem, *]) rfl ?_
  exact Res.store (R := fun b => w1.heap.size ≤ b) (HP2.out.1.keep (fun _ _ _ => rfl) (fun b h _ => h.elim False.elim id)) HP2.out.2.1 (grow_trans (grow_below HB1.out _) HP2.out.2.2) (by omega) hgl (by omega) (fun x h _ => .inr (by omega)) _ _ _ _ _ _
end Go.Proofs.YtmgcmiflbjhakaaGreatDoor
