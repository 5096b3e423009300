import Derived.Test.YtlilnbcklplmfaaGreatDoorW08

/- The statement parser: a statement by its first word. -/
namespace Go.Proofs.YtlilnbcklplmfaaGreatDoor
open Go.RowKit Go.Lib

theorem Sz.grown {W W' : World} {g : Nat} {A : Option Addr} {c : Nat} {l : List Tn} {at' : Nat} {failed : Bool} {b : Nat} (h : Sz W g A c l at' failed) (hg : W.grownBy W' (some b)) (hb : g < b) : Sz W' g A c l at' failed :=
  h.keep (fun q hq => hg.block q (by have := h.lt; omega) (fun e => by injection e with e; omega)) fun w0 hw k => ⟨hg.os.trans k.os, hg.tape.trans k.tape, hg.output.trans k.output, by have := k.size; have := hg.size; omega, fun q hq => (hg.block q (by have := k.size; omega) (fun e => by injection e with e; omega)).trans (k.block q hq)⟩
theorem grow_new {w W W' : World} {g b : Nat} (h : w.grownBy W (some g)) (k : W.grownBy W' (some b)) (hb : w.heap.size ≤ b) : w.grownBy W' (some g) :=
  ⟨k.os.trans h.os, k.tape.trans h.tape, k.output.trans h.output, by have := h.size; have := k.size; omega, fun q hq hn => (k.block q (by have := h.size; omega) (fun e => by injection e with e; omega)).trans (h.block q hq hn)⟩
/-- The map of what each first word does, as far as it is filled. -/
structure Ms (w : World) (g : Nat) (A : Option Addr) (c : Nat) (l : List Tn) (at' : Nat) (failed : Bool) (es : List (ByteArray × Value)) (W : World) : Prop where
  sz : Sz W g A c l at' failed
  gr : w.grownBy W (some g)
  lg : g < w.heap.size
  map : MapAt W (w.heap.size + 1) es
  res : W.heap[w.heap.size]? = some (.cells #[.string ⟨#[]⟩, .string ⟨#[]⟩, .string ⟨#[]⟩, .slice none 0 0, .slice none 0 0, .string ⟨#[]⟩, .slice none 0 0, .slice none 0 0, .string ⟨#[]⟩, .int .i64 0, .int .i64 0, .string ⟨#[]⟩, .string ⟨#[]⟩, .slice none 0 0, .slice none 0 0, .slice none 0 0, .string ⟨#[]⟩, .int .i64 0, .int .i64 0, .string ⟨#[]⟩, .string ⟨#[]⟩, .slice none 0 0, .string ⟨#[]⟩] 34 (0, 0))
theorem Ms.start {w : World} {g : Nat} {A : Option Addr} {c : Nat} {l : List Tn} {at' : Nat} {failed : Bool} (hz : Sz w g A c l at' failed) : Ms w g A c l at' failed [] ((w.alloc (.cells #[.string ⟨#[]⟩, .string ⟨#[]⟩, .string ⟨#[]⟩, .slice none 0 0, .slice none 0 0, .string ⟨#[]⟩, .slice none 0 0, .slice none 0 0, .string ⟨#[]⟩, .int .i64 0, .int .i64 0, .string ⟨#[]⟩, .string ⟨#[]⟩, .slice none 0 0, .slice none 0 0, .slice none 0 0, .string ⟨#[]⟩, .int .i64 0, .int .i64 0, .string ⟨#[]⟩, .string ⟨#[]⟩, .slice none 0 0, .string ⟨#[]⟩] 34)).alloc (.map #[] 0)) :=
  have hm := MapAt.made (w.alloc (.cells #[.string ⟨#[]⟩, .string ⟨#[]⟩, .string ⟨#[]⟩, .slice none 0 0, .slice none 0 0, .string ⟨#[]⟩, .slice none 0 0, .slice none 0 0, .string ⟨#[]⟩, .int .i64 0, .int .i64 0, .string ⟨#[]⟩, .string ⟨#[]⟩, .slice none 0 0, .slice none 0 0, .slice none 0 0, .string ⟨#[]⟩, .int .i64 0, .int .i64 0, .string ⟨#[]⟩, .string ⟨#[]⟩, .slice none 0 0, .string ⟨#[]⟩] 34))
  ⟨(hz.alloc _).alloc _, grow_trans (grow_alloc _ _ _) (grow_alloc _ _ _), hz.lt, by rw [World.size_alloc] at hm; exact hm, (Below.heap_alloc _ _ _ (by simp)).trans (alloc_at rfl _)⟩
theorem Ms.ins {w : World} {g : Nat} {A : Option Addr} {c : Nat} {l : List Tn} {at' : Nat} {failed : Bool} {es es' : List (ByteArray × Value)} {W W' : World} (h : Ms w g A c l at' failed es W) (hm : MapAt W' (w.heap.size + 1) es') (hg : W.grownBy W' (some (w.heap.size + 1))) : Ms w g A c l at' failed es' W' :=
  have hl := h.lg
  ⟨h.sz.grown hg (by omega), grow_new h.gr hg (by omega), h.lg, hm, (hg.block _ (lt_of_block h.res) (fun e => by injection e with e; omega)).trans h.res⟩

theorem find_grant (g : Nat) : (([(⟨#[67, 82, 69, 65, 84, 69]⟩, .func (.func 42) #[.pointer (some ⟨g, 0, none⟩)] #[]), (⟨#[68, 82, 79, 80]⟩, .func (.func 43) #[.pointer (some ⟨g, 0, none⟩)] #[]), (⟨#[73, 78, 83, 69, 82, 84]⟩, .func (.func 44) #[.pointer (some ⟨g, 0, none⟩)] #[]), (⟨#[85, 80, 68, 65, 84, 69]⟩, .func (.func 45) #[.pointer (some ⟨g, 0, none⟩)] #[]), (⟨#[68, 69, 76, 69, 84, 69]⟩, .func (.func 46) #[.pointer (some ⟨g, 0, none⟩)] #[]), (⟨#[83, 69, 76, 69, 67, 84]⟩, .func (.func 47) #[.pointer (some ⟨g, 0, none⟩)] #[]), (⟨#[71, 82, 65, 78, 84]⟩, .func (.func 48) #[.pointer (some ⟨g, 0, none⟩)] #[]), (⟨#[82, 69, 86, 79, 75, 69]⟩, .func (.func 49) #[.pointer (some ⟨g, 0, none⟩)] #[]), (⟨#[77, 73, 71, 82, 65, 84, 69]⟩, .func (.func 50) #[.pointer (some ⟨g, 0, none⟩)] #[])] : List (ByteArray × Value)).find? fun y => (⟨#[71, 82, 65, 78, 84]⟩ : ByteArray) == y.1) = some (⟨#[71, 82, 65, 78, 84]⟩, .func (.func 48) #[.pointer (some ⟨g, 0, none⟩)] #[]) := by kernel_rfl
set_option maxRecDepth 100000 in
set_option maxHeartbeats 4000000 in
theorem statement_grant (g : Nat) (A : Option Addr) (c : Nat) (l : List Tn) (at' : Nat) (failed : Bool) (cs : Array Value) (at2 : Nat) (f2 : Bool) (w : World) (hz : Sz w g A c l at' failed) (hl : l.length ≤ 100000) (ha : at' ≤ 100000) (ht : Ny l at' failed ⟨1, ⟨#[71, 82, 65, 78, 84]⟩⟩)
    (h1 : cs.all (·.oneCell') = true) (h23 : cs.size = 23)
    (hr : ∀ W : World, Sz W g A c l (at' + 1) failed → w.heap.size ≤ W.heap.size → Calls Tryz.prog 48 #[.pointer (some ⟨g, 0, none⟩)] W fun e w' => e = .returned (.agg cs) ∧ Sz w' g A c l at2 f2 ∧ W.grownBy w' (some g)) :
    Calls Tryz.prog 18 #[.pointer (some ⟨g, 0, none⟩)] w fun e w' => e = .returned (.agg cs) ∧ Sz w' g A c l at2 f2 ∧ w.grownBy w' (some g) := by
  have hmm := @run_makeMap Tryz.prog
  have H0 := Lib.hid (Ms.start hz)
  have HT := Lib.hid ht
  have HR := Lib.hid hr
  have hlg := hz.lt
  clear hz ht hr
  go_enter Tryz.func18, Tryz.ntmps18
  go_wp2_with (with_reducible refine wpList_insert_new _ rfl _ _ _ 93 rfl 9 61 Tryz.underlying93 Tryz.underlying9 (w.heap.size + 1) [] rfl H0.out.map ⟨#[67, 82, 69, 65, 84, 69]⟩ _ rfl rfl ?n0 ?k0)
  case n0 => intro y hy; cases hy
  intro y0 hm0 hg0
  have H1 : Hid (Ms w g A c l at' failed [(⟨#[67, 82, 69, 65, 84, 69]⟩, .func (.func 42) #[.pointer (some ⟨g, 0, none⟩)] #[])] y0) := Lib.hid (H0.out.ins hm0 hg0)
  clear hm0 hg0 H0
  go_wp2_with (with_reducible refine wpList_insert_new _ rfl _ _ _ 93 rfl 9 61 Tryz.underlying93 Tryz.underlying9 (w.heap.size + 1) [(⟨#[67, 82, 69, 65, 84, 69]⟩, .func (.func 42) #[.pointer (some ⟨g, 0, none⟩)] #[])] rfl H1.out.map ⟨#[68, 82, 79, 80]⟩ _ rfl rfl ?n1 ?k1)
  case n1 => intro y hy; simp at hy; rcases hy with rfl <;> rfl
  intro y1 hm1 hg1
  have H2 : Hid (Ms w g A c l at' failed [(⟨#[67, 82, 69, 65, 84, 69]⟩, .func (.func 42) #[.pointer (some ⟨g, 0, none⟩)] #[]), (⟨#[68, 82, 79, 80]⟩, .func (.func 43) #[.pointer (some ⟨g, 0, none⟩)] #[])] y1) := Lib.hid (H1.out.ins hm1 hg1)
  clear hm1 hg1 H1
  go_wp2_with (with_reducible refine wpList_insert_new _ rfl _ _ _ 93 rfl 9 61 Tryz.underlying93 Tryz.underlying9 (w.heap.size + 1) [(⟨#[67, 82, 69, 65, 84, 69]⟩, .func (.func 42) #[.pointer (some ⟨g, 0, none⟩)] #[]), (⟨#[68, 82, 79, 80]⟩, .func (.func 43) #[.pointer (some ⟨g, 0, none⟩)] #[])] rfl H2.out.map ⟨#[73, 78, 83, 69, 82, 84]⟩ _ rfl rfl ?n2 ?k2)
  case n2 => intro y hy; simp at hy; rcases hy with rfl | rfl <;> rfl
  intro y2 hm2 hg2
  have H3 : Hid (Ms w g A c l at' failed [(⟨#[67, 82, 69, 65, 84, 69]⟩, .func (.func 42) #[.pointer (some ⟨g, 0, none⟩)] #[]), (⟨#[68, 82, 79, 80]⟩, .func (.func 43) #[.pointer (some ⟨g, 0, none⟩)] #[]), (⟨#[73, 78, 83, 69, 82, 84]⟩, .func (.func 44) #[.pointer (some ⟨g, 0, none⟩)] #[])] y2) := Lib.hid (H2.out.ins hm2 hg2)
  clear hm2 hg2 H2
  go_wp2_with (with_reducible refine wpList_insert_new _ rfl _ _ _ 93 rfl 9 61 Tryz.underlying93 Tryz.underlying9 (w.heap.size + 1) [(⟨#[67, 82, 69, 65, 84, 69]⟩, .func (.func 42) #[.pointer (some ⟨g, 0, none⟩)] #[]), (⟨#[68, 82, 79, 80]⟩, .func (.func 43) #[.pointer (some ⟨g, 0, none⟩)] #[]), (⟨#[73, 78, 83, 69, 82, 84]⟩, .func (.func 44) #[.pointer (some ⟨g, 0, none⟩)] #[])] rfl H3.out.map ⟨#[85, 80, 68, 65, 84, 69]⟩ _ rfl rfl ?n3 ?k3)
  case n3 => intro y hy; simp at hy; rcases hy with rfl | rfl | rfl <;> rfl
  intro y3 hm3 hg3
  have H4 : Hid (Ms w g A c l at' failed [(⟨#[67, 82, 69, 65, 84, 69]⟩, .func (.func 42) #[.pointer (some ⟨g, 0, none⟩)] #[]), (⟨#[68, 82, 79, 80]⟩, .func (.func 43) #[.pointer (some ⟨g, 0, none⟩)] #[]), (⟨#[73, 78, 83, 69, 82, 84]⟩, .func (.func 44) #[.pointer (some ⟨g, 0, none⟩)] #[]), (⟨#[85, 80, 68, 65, 84, 69]⟩, .func (.func 45) #[.pointer (some ⟨g, 0, none⟩)] #[])] y3) := Lib.hid (H3.out.ins hm3 hg3)
  clear hm3 hg3 H3
  go_wp2_with (with_reducible refine wpList_insert_new _ rfl _ _ _ 93 rfl 9 61 Tryz.underlying93 Tryz.underlying9 (w.heap.size + 1) [(⟨#[67, 82, 69, 65, 84, 69]⟩, .func (.func 42) #[.pointer (some ⟨g, 0, none⟩)] #[]), (⟨#[68, 82, 79, 80]⟩, .func (.func 43) #[.pointer (some ⟨g, 0, none⟩)] #[]), (⟨#[73, 78, 83, 69, 82, 84]⟩, .func (.func 44) #[.pointer (some ⟨g, 0, none⟩)] #[]), (⟨#[85, 80, 68, 65, 84, 69]⟩, .func (.func 45) #[.pointer (some ⟨g, 0, none⟩)] #[])] rfl H4.out.map ⟨#[68, 69, 76, 69, 84, 69]⟩ _ rfl rfl ?n4 ?k4)
  case n4 => intro y hy; simp at hy; rcases hy with rfl | rfl | rfl | rfl <;> rfl
  intro y4 hm4 hg4
  have H5 : Hid (Ms w g A c l at' failed [(⟨#[67, 82, 69, 65, 84, 69]⟩, .func (.func 42) #[.pointer (some ⟨g, 0, none⟩)] #[]), (⟨#[68, 82, 79, 80]⟩, .func (.func 43) #[.pointer (some ⟨g, 0, none⟩)] #[]), (⟨#[73, 78, 83, 69, 82, 84]⟩, .func (.func 44) #[.pointer (some ⟨g, 0, none⟩)] #[]), (⟨#[85, 80, 68, 65, 84, 69]⟩, .func (.func 45) #[.pointer (some ⟨g, 0, none⟩)] #[]), (⟨#[68, 69, 76, 69, 84, 69]⟩, .func (.func 46) #[.pointer (some ⟨g, 0, none⟩)] #[])] y4) := Lib.hid (H4.out.ins hm4 hg4)
  clear hm4 hg4 H4
  go_wp2_with (with_reducible refine wpList_insert_new _ rfl _ _ _ 93 rfl 9 61 Tryz.underlying93 Tryz.underlying9 (w.heap.size + 1) [(⟨#[67, 82, 69, 65, 84, 69]⟩, .func (.func 42) #[.pointer (some ⟨g, 0, none⟩)] #[]), (⟨#[68, 82, 79, 80]⟩, .func (.func 43) #[.pointer (some ⟨g, 0, none⟩)] #[]), (⟨#[73, 78, 83, 69, 82, 84]⟩, .func (.func 44) #[.pointer (some ⟨g, 0, none⟩)] #[]), (⟨#[85, 80, 68, 65, 84, 69]⟩, .func (.func 45) #[.pointer (some ⟨g, 0, none⟩)] #[]), (⟨#[68, 69, 76, 69, 84, 69]⟩, .func (.func 46) #[.pointer (some ⟨g, 0, none⟩)] #[])] rfl H5.out.map ⟨#[83, 69, 76, 69, 67, 84]⟩ _ rfl rfl ?n5 ?k5)
  case n5 => intro y hy; simp at hy; rcases hy with rfl | rfl | rfl | rfl | rfl <;> rfl
  intro y5 hm5 hg5
  have H6 : Hid (Ms w g A c l at' failed [(⟨#[67, 82, 69, 65, 84, 69]⟩, .func (.func 42) #[.pointer (some ⟨g, 0, none⟩)] #[]), (⟨#[68, 82, 79, 80]⟩, .func (.func 43) #[.pointer (some ⟨g, 0, none⟩)] #[]), (⟨#[73, 78, 83, 69, 82, 84]⟩, .func (.func 44) #[.pointer (some ⟨g, 0, none⟩)] #[]), (⟨#[85, 80, 68, 65, 84, 69]⟩, .func (.func 45) #[.pointer (some ⟨g, 0, none⟩)] #[]), (⟨#[68, 69, 76, 69, 84, 69]⟩, .func (.func 46) #[.pointer (some ⟨g, 0, none⟩)] #[]), (⟨#[83, 69, 76, 69, 67, 84]⟩, .func (.func 47) #[.pointer (some ⟨g, 0, none⟩)] #[])] y5) := Lib.hid (H5.out.ins hm5 hg5)
  clear hm5 hg5 H5
  go_wp2_with (with_reducible refine wpList_insert_new _ rfl _ _ _ 93 rfl 9 61 Tryz.underlying93 Tryz.underlying9 (w.heap.size + 1) [(⟨#[67, 82, 69, 65, 84, 69]⟩, .func (.func 42) #[.pointer (some ⟨g, 0, none⟩)] #[]), (⟨#[68, 82, 79, 80]⟩, .func (.func 43) #[.pointer (some ⟨g, 0, none⟩)] #[]), (⟨#[73, 78, 83, 69, 82, 84]⟩, .func (.func 44) #[.pointer (some ⟨g, 0, none⟩)] #[]), (⟨#[85, 80, 68, 65, 84, 69]⟩, .func (.func 45) #[.pointer (some ⟨g, 0, none⟩)] #[]), (⟨#[68, 69, 76, 69, 84, 69]⟩, .func (.func 46) #[.pointer (some ⟨g, 0, none⟩)] #[]), (⟨#[83, 69, 76, 69, 67, 84]⟩, .func (.func 47) #[.pointer (some ⟨g, 0, none⟩)] #[])] rfl H6.out.map ⟨#[71, 82, 65, 78, 84]⟩ _ rfl rfl ?n6 ?k6)
  case n6 => intro y hy; simp at hy; rcases hy with rfl | rfl | rfl | rfl | rfl | rfl <;> rfl
  intro y6 hm6 hg6
  have H7 : Hid (Ms w g A c l at' failed [(⟨#[67, 82, 69, 65, 84, 69]⟩, .func (.func 42) #[.pointer (some ⟨g, 0, none⟩)] #[]), (⟨#[68, 82, 79, 80]⟩, .func (.func 43) #[.pointer (some ⟨g, 0, none⟩)] #[]), (⟨#[73, 78, 83, 69, 82, 84]⟩, .func (.func 44) #[.pointer (some ⟨g, 0, none⟩)] #[]), (⟨#[85, 80, 68, 65, 84, 69]⟩, .func (.func 45) #[.pointer (some ⟨g, 0, none⟩)] #[]), (⟨#[68, 69, 76, 69, 84, 69]⟩, .func (.func 46) #[.pointer (some ⟨g, 0, none⟩)] #[]), (⟨#[83, 69, 76, 69, 67, 84]⟩, .func (.func 47) #[.pointer (some ⟨g, 0, none⟩)] #[]), (⟨#[71, 82, 65, 78, 84]⟩, .func (.func 48) #[.pointer (some ⟨g, 0, none⟩)] #[])] y6) := Lib.hid (H6.out.ins hm6 hg6)
  clear hm6 hg6 H6
  go_wp2_with (with_reducible refine wpList_insert_new _ rfl _ _ _ 93 rfl 9 61 Tryz.underlying93 Tryz.underlying9 (w.heap.size + 1) [(⟨#[67, 82, 69, 65, 84, 69]⟩, .func (.func 42) #[.pointer (some ⟨g, 0, none⟩)] #[]), (⟨#[68, 82, 79, 80]⟩, .func (.func 43) #[.pointer (some ⟨g, 0, none⟩)] #[]), (⟨#[73, 78, 83, 69, 82, 84]⟩, .func (.func 44) #[.pointer (some ⟨g, 0, none⟩)] #[]), (⟨#[85, 80, 68, 65, 84, 69]⟩, .func (.func 45) #[.pointer (some ⟨g, 0, none⟩)] #[]), (⟨#[68, 69, 76, 69, 84, 69]⟩, .func (.func 46) #[.pointer (some ⟨g, 0, none⟩)] #[]), (⟨#[83, 69, 76, 69, 67, 84]⟩, .func (.func 47) #[.pointer (some ⟨g, 0, none⟩)] #[]), (⟨#[71, 82, 65, 78, 84]⟩, .func (.func 48) #[.pointer (some ⟨g, 0, none⟩)] #[])] rfl H7.out.map ⟨#[82, 69, 86, 79, 75, 69]⟩ _ rfl rfl ?n7 ?k7)
  case n7 => intro y hy; simp at hy; rcases hy with rfl | rfl | rfl | rfl | rfl | rfl | rfl <;> rfl
  intro y7 hm7 hg7
  have H8 : Hid (Ms w g A c l at' failed [(⟨#[67, 82, 69, 65, 84, 69]⟩, .func (.func 42) #[.pointer (some ⟨g, 0, none⟩)] #[]), (⟨#[68, 82, 79, 80]⟩, .func (.func 43) #[.pointer (some ⟨g, 0, none⟩)] #[]), (⟨#[73, 78, 83, 69, 82, 84]⟩, .func (.func 44) #[.pointer (some ⟨g, 0, none⟩)] #[]), (⟨#[85, 80, 68, 65, 84, 69]⟩, .func (.func 45) #[.pointer (some ⟨g, 0, none⟩)] #[]), (⟨#[68, 69, 76, 69, 84, 69]⟩, .func (.func 46) #[.pointer (some ⟨g, 0, none⟩)] #[]), (⟨#[83, 69, 76, 69, 67, 84]⟩, .func (.func 47) #[.pointer (some ⟨g, 0, none⟩)] #[]), (⟨#[71, 82, 65, 78, 84]⟩, .func (.func 48) #[.pointer (some ⟨g, 0, none⟩)] #[]), (⟨#[82, 69, 86, 79, 75, 69]⟩, .func (.func 49) #[.pointer (some ⟨g, 0, none⟩)] #[])] y7) := Lib.hid (H7.out.ins hm7 hg7)
  clear hm7 hg7 H7
  go_wp2_with (with_reducible refine wpList_insert_new _ rfl _ _ _ 93 rfl 9 61 Tryz.underlying93 Tryz.underlying9 (w.heap.size + 1) [(⟨#[67, 82, 69, 65, 84, 69]⟩, .func (.func 42) #[.pointer (some ⟨g, 0, none⟩)] #[]), (⟨#[68, 82, 79, 80]⟩, .func (.func 43) #[.pointer (some ⟨g, 0, none⟩)] #[]), (⟨#[73, 78, 83, 69, 82, 84]⟩, .func (.func 44) #[.pointer (some ⟨g, 0, none⟩)] #[]), (⟨#[85, 80, 68, 65, 84, 69]⟩, .func (.func 45) #[.pointer (some ⟨g, 0, none⟩)] #[]), (⟨#[68, 69, 76, 69, 84, 69]⟩, .func (.func 46) #[.pointer (some ⟨g, 0, none⟩)] #[]), (⟨#[83, 69, 76, 69, 67, 84]⟩, .func (.func 47) #[.pointer (some ⟨g, 0, none⟩)] #[]), (⟨#[71, 82, 65, 78, 84]⟩, .func (.func 48) #[.pointer (some ⟨g, 0, none⟩)] #[]), (⟨#[82, 69, 86, 79, 75, 69]⟩, .func (.func 49) #[.pointer (some ⟨g, 0, none⟩)] #[])] rfl H8.out.map ⟨#[77, 73, 71, 82, 65, 84, 69]⟩ _ rfl rfl ?n8 ?k8)
  case n8 => intro y hy; simp at hy; rcases hy with rfl | rfl | rfl | rfl | rfl | rfl | rfl | rfl <;> rfl
  intro y8 hm8 hg8
  have H9 : Hid (Ms w g A c l at' failed [(⟨#[67, 82, 69, 65, 84, 69]⟩, .func (.func 42) #[.pointer (some ⟨g, 0, none⟩)] #[]), (⟨#[68, 82, 79, 80]⟩, .func (.func 43) #[.pointer (some ⟨g, 0, none⟩)] #[]), (⟨#[73, 78, 83, 69, 82, 84]⟩, .func (.func 44) #[.pointer (some ⟨g, 0, none⟩)] #[]), (⟨#[85, 80, 68, 65, 84, 69]⟩, .func (.func 45) #[.pointer (some ⟨g, 0, none⟩)] #[]), (⟨#[68, 69, 76, 69, 84, 69]⟩, .func (.func 46) #[.pointer (some ⟨g, 0, none⟩)] #[]), (⟨#[83, 69, 76, 69, 67, 84]⟩, .func (.func 47) #[.pointer (some ⟨g, 0, none⟩)] #[]), (⟨#[71, 82, 65, 78, 84]⟩, .func (.func 48) #[.pointer (some ⟨g, 0, none⟩)] #[]), (⟨#[82, 69, 86, 79, 75, 69]⟩, .func (.func 49) #[.pointer (some ⟨g, 0, none⟩)] #[]), (⟨#[77, 73, 71, 82, 65, 84, 69]⟩, .func (.func 50) #[.pointer (some ⟨g, 0, none⟩)] #[])] y8) := Lib.hid (H8.out.ins hm8 hg8)
  clear hm8 hg8 H8
  go_wp2_with (first
    | (go_at_call 41; (with_reducible refine (one_grant g A c l at' failed ⟨#[71, 82, 65, 78, 84]⟩ (w.heap.size + 1) [(⟨#[67, 82, 69, 65, 84, 69]⟩, .func (.func 42) #[.pointer (some ⟨g, 0, none⟩)] #[]), (⟨#[68, 82, 79, 80]⟩, .func (.func 43) #[.pointer (some ⟨g, 0, none⟩)] #[]), (⟨#[73, 78, 83, 69, 82, 84]⟩, .func (.func 44) #[.pointer (some ⟨g, 0, none⟩)] #[]), (⟨#[85, 80, 68, 65, 84, 69]⟩, .func (.func 45) #[.pointer (some ⟨g, 0, none⟩)] #[]), (⟨#[68, 69, 76, 69, 84, 69]⟩, .func (.func 46) #[.pointer (some ⟨g, 0, none⟩)] #[]), (⟨#[83, 69, 76, 69, 67, 84]⟩, .func (.func 47) #[.pointer (some ⟨g, 0, none⟩)] #[]), (⟨#[71, 82, 65, 78, 84]⟩, .func (.func 48) #[.pointer (some ⟨g, 0, none⟩)] #[]), (⟨#[82, 69, 86, 79, 75, 69]⟩, .func (.func 49) #[.pointer (some ⟨g, 0, none⟩)] #[]), (⟨#[77, 73, 71, 82, 65, 84, 69]⟩, .func (.func 50) #[.pointer (some ⟨g, 0, none⟩)] #[])] cs at2 f2 _ H9.out.sz hl ha HT.out H9.out.map (find_grant g) h1 h23 (fun W hW hs => HR.out W hW (Nat.le_trans H9.out.gr.size hs))).mono ?_); rintro e w2 ⟨rfl, hz2, hg2⟩; have hb2 : w2.heap[w.heap.size]? = some (.cells #[.string ⟨#[]⟩, .string ⟨#[]⟩, .string ⟨#[]⟩, .slice none 0 0, .slice none 0 0, .string ⟨#[]⟩, .slice none 0 0, .slice none 0 0, .string ⟨#[]⟩, .int .i64 0, .int .i64 0, .string ⟨#[]⟩, .string ⟨#[]⟩, .slice none 0 0, .slice none 0 0, .slice none 0 0, .string ⟨#[]⟩, .int .i64 0, .int .i64 0, .string ⟨#[]⟩, .string ⟨#[]⟩, .slice none 0 0, .string ⟨#[]⟩] 34 (0, 0)) := (hg2.block _ (lt_of_block H9.out.res) (fun e => by injection e with e; omega)).trans H9.out.res; have HZ2 := Lib.hid hz2; have HG2 := Lib.hid (grow_trans H9.out.gr hg2); clear hz2 hg2)
    | (refine wpList_store_row rfl 34 (.tmp 2) (.tmp 24) rfl w.heap.size cs rfl rfl 34 _ hb2 (by rw [h23]; exact stSize) (by rw [h23]; rfl) h1 ?_))
  refine bodyPost_ret (results_cell_row rfl _ _ w.heap.size 34 cs (0, 0) _ rfl (setRow_heap _ _ _ _ _ _ hb2) Tryz.underlying34 rfl (by rw [h23]; exact stSize)) rfl ⟨rfl, HZ2.out.row _ hlg, grow_row _ HG2.out (Nat.le_refl _)⟩

theorem find_revoke (g : Nat) : (([(⟨#[67, 82, 69, 65, 84, 69]⟩, .func (.func 42) #[.pointer (some ⟨g, 0, none⟩)] #[]), (⟨#[68, 82, 79, 80]⟩, .func (.func 43) #[.pointer (some ⟨g, 0, none⟩)] #[]), (⟨#[73, 78, 83, 69, 82, 84]⟩, .func (.func 44) #[.pointer (some ⟨g, 0, none⟩)] #[]), (⟨#[85, 80, 68, 65, 84, 69]⟩, .func (.func 45) #[.pointer (some ⟨g, 0, none⟩)] #[]), (⟨#[68, 69, 76, 69, 84, 69]⟩, .func (.func 46) #[.pointer (some ⟨g, 0, none⟩)] #[]), (⟨#[83, 69, 76, 69, 67, 84]⟩, .func (.func 47) #[.pointer (some ⟨g, 0, none⟩)] #[]), (⟨#[71, 82, 65, 78, 84]⟩, .func (.func 48) #[.pointer (some ⟨g, 0, none⟩)] #[]), (⟨#[82, 69, 86, 79, 75, 69]⟩, .func (.func 49) #[.pointer (some ⟨g, 0, none⟩)] #[]), (⟨#[77, 73, 71, 82, 65, 84, 69]⟩, .func (.func 50) #[.pointer (some ⟨g, 0, none⟩)] #[])] : List (ByteArray × Value)).find? fun y => (⟨#[82, 69, 86, 79, 75, 69]⟩ : ByteArray) == y.1) = some (⟨#[82, 69, 86, 79, 75, 69]⟩, .func (.func 49) #[.pointer (some ⟨g, 0, none⟩)] #[]) := by kernel_rfl
set_option maxRecDepth 100000 in
set_option maxHeartbeats 4000000 in
theorem statement_revoke (g : Nat) (A : Option Addr) (c : Nat) (l : List Tn) (at' : Nat) (failed : Bool) (cs : Array Value) (at2 : Nat) (f2 : Bool) (w : World) (hz : Sz w g A c l at' failed) (hl : l.length ≤ 100000) (ha : at' ≤ 100000) (ht : Ny l at' failed ⟨1, ⟨#[82, 69, 86, 79, 75, 69]⟩⟩)
    (h1 : cs.all (·.oneCell') = true) (h23 : cs.size = 23)
    (hr : ∀ W : World, Sz W g A c l (at' + 1) failed → w.heap.size ≤ W.heap.size → Calls Tryz.prog 49 #[.pointer (some ⟨g, 0, none⟩)] W fun e w' => e = .returned (.agg cs) ∧ Sz w' g A c l at2 f2 ∧ W.grownBy w' (some g)) :
    Calls Tryz.prog 18 #[.pointer (some ⟨g, 0, none⟩)] w fun e w' => e = .returned (.agg cs) ∧ Sz w' g A c l at2 f2 ∧ w.grownBy w' (some g) := by
  have hmm := @run_makeMap Tryz.prog
  have H0 := Lib.hid (Ms.start hz)
  have HT := Lib.hid ht
  have HR := Lib.hid hr
  have hlg := hz.lt
  clear hz ht hr
  go_enter Tryz.func18, Tryz.ntmps18
  go_wp2_with (with_reducible refine wpList_insert_new _ rfl _ _ _ 93 rfl 9 61 Tryz.underlying93 Tryz.underlying9 (w.heap.size + 1) [] rfl H0.out.map ⟨#[67, 82, 69, 65, 84, 69]⟩ _ rfl rfl ?n0 ?k0)
  case n0 => intro y hy; cases hy
  intro y0 hm0 hg0
  have H1 : Hid (Ms w g A c l at' failed [(⟨#[67, 82, 69, 65, 84, 69]⟩, .func (.func 42) #[.pointer (some ⟨g, 0, none⟩)] #[])] y0) := Lib.hid (H0.out.ins hm0 hg0)
  clear hm0 hg0 H0
  go_wp2_with (with_reducible refine wpList_insert_new _ rfl _ _ _ 93 rfl 9 61 Tryz.underlying93 Tryz.underlying9 (w.heap.size + 1) [(⟨#[67, 82, 69, 65, 84, 69]⟩, .func (.func 42) #[.pointer (some ⟨g, 0, none⟩)] #[])] rfl H1.out.map ⟨#[68, 82, 79, 80]⟩ _ rfl rfl ?n1 ?k1)
  case n1 => intro y hy; simp at hy; rcases hy with rfl <;> rfl
  intro y1 hm1 hg1
  have H2 : Hid (Ms w g A c l at' failed [(⟨#[67, 82, 69, 65, 84, 69]⟩, .func (.func 42) #[.pointer (some ⟨g, 0, none⟩)] #[]), (⟨#[68, 82, 79, 80]⟩, .func (.func 43) #[.pointer (some ⟨g, 0, none⟩)] #[])] y1) := Lib.hid (H1.out.ins hm1 hg1)
  clear hm1 hg1 H1
  go_wp2_with (with_reducible refine wpList_insert_new _ rfl _ _ _ 93 rfl 9 61 Tryz.underlying93 Tryz.underlying9 (w.heap.size + 1) [(⟨#[67, 82, 69, 65, 84, 69]⟩, .func (.func 42) #[.pointer (some ⟨g, 0, none⟩)] #[]), (⟨#[68, 82, 79, 80]⟩, .func (.func 43) #[.pointer (some ⟨g, 0, none⟩)] #[])] rfl H2.out.map ⟨#[73, 78, 83, 69, 82, 84]⟩ _ rfl rfl ?n2 ?k2)
  case n2 => intro y hy; simp at hy; rcases hy with rfl | rfl <;> rfl
  intro y2 hm2 hg2
  have H3 : Hid (Ms w g A c l at' failed [(⟨#[67, 82, 69, 65, 84, 69]⟩, .func (.func 42) #[.pointer (some ⟨g, 0, none⟩)] #[]), (⟨#[68, 82, 79, 80]⟩, .func (.func 43) #[.pointer (some ⟨g, 0, none⟩)] #[]), (⟨#[73, 78, 83, 69, 82, 84]⟩, .func (.func 44) #[.pointer (some ⟨g, 0, none⟩)] #[])] y2) := Lib.hid (H2.out.ins hm2 hg2)
  clear hm2 hg2 H2
  go_wp2_with (with_reducible refine wpList_insert_new _ rfl _ _ _ 93 rfl 9 61 Tryz.underlying93 Tryz.underlying9 (w.heap.size + 1) [(⟨#[67, 82, 69, 65, 84, 69]⟩, .func (.func 42) #[.pointer (some ⟨g, 0, none⟩)] #[]), (⟨#[68, 82, 79, 80]⟩, .func (.func 43) #[.pointer (some ⟨g, 0, none⟩)] #[]), (⟨#[73, 78, 83, 69, 82, 84]⟩, .func (.func 44) #[.pointer (some ⟨g, 0, none⟩)] #[])] rfl H3.out.map ⟨#[85, 80, 68, 65, 84, 69]⟩ _ rfl rfl ?n3 ?k3)
  case n3 => intro y hy; simp at hy; rcases hy with rfl | rfl | rfl <;> rfl
  intro y3 hm3 hg3
  have H4 : Hid (Ms w g A c l at' failed [(⟨#[67, 82, 69, 65, 84, 69]⟩, .func (.func 42) #[.pointer (some ⟨g, 0, none⟩)] #[]), (⟨#[68, 82, 79, 80]⟩, .func (.func 43) #[.pointer (some ⟨g, 0, none⟩)] #[]), (⟨#[73, 78, 83, 69, 82, 84]⟩, .func (.func 44) #[.pointer (some ⟨g, 0, none⟩)] #[]), (⟨#[85, 80, 68, 65, 84, 69]⟩, .func (.func 45) #[.pointer (some ⟨g, 0, none⟩)] #[])] y3) := Lib.hid (H3.out.ins hm3 hg3)
  clear hm3 hg3 H3
  go_wp2_with (with_reducible refine wpList_insert_new _ rfl _ _ _ 93 rfl 9 61 Tryz.underlying93 Tryz.underlying9 (w.heap.size + 1) [(⟨#[67, 82, 69, 65, 84, 69]⟩, .func (.func 42) #[.pointer (some ⟨g, 0, none⟩)] #[]), (⟨#[68, 82, 79, 80]⟩, .func (.func 43) #[.pointer (some ⟨g, 0, none⟩)] #[]), (⟨#[73, 78, 83, 69, 82, 84]⟩, .func (.func 44) #[.pointer (some ⟨g, 0, none⟩)] #[]), (⟨#[85, 80, 68, 65, 84, 69]⟩, .func (.func 45) #[.pointer (some ⟨g, 0, none⟩)] #[])] rfl H4.out.map ⟨#[68, 69, 76, 69, 84, 69]⟩ _ rfl rfl ?n4 ?k4)
  case n4 => intro y hy; simp at hy; rcases hy with rfl | rfl | rfl | rfl <;> rfl
  intro y4 hm4 hg4
  have H5 : Hid (Ms w g A c l at' failed [(⟨#[67, 82, 69, 65, 84, 69]⟩, .func (.func 42) #[.pointer (some ⟨g, 0, none⟩)] #[]), (⟨#[68, 82, 79, 80]⟩, .func (.func 43) #[.pointer (some ⟨g, 0, none⟩)] #[]), (⟨#[73, 78, 83, 69, 82, 84]⟩, .func (.func 44) #[.pointer (some ⟨g, 0, none⟩)] #[]), (⟨#[85, 80, 68, 65, 84, 69]⟩, .func (.func 45) #[.pointer (some ⟨g, 0, none⟩)] #[]), (⟨#[68, 69, 76, 69, 84, 69]⟩, .func (.func 46) #[.pointer (some ⟨g, 0, none⟩)] #[])] y4) := Lib.hid (H4.out.ins hm4 hg4)
  clear hm4 hg4 H4
  go_wp2_with (with_reducible refine wpList_insert_new _ rfl _ _ _ 93 rfl 9 61 Tryz.underlying93 Tryz.underlying9 (w.heap.size + 1) [(⟨#[67, 82, 69, 65, 84, 69]⟩, .func (.func 42) #[.pointer (some ⟨g, 0, none⟩)] #[]), (⟨#[68, 82, 79, 80]⟩, .func (.func 43) #[.pointer (some ⟨g, 0, none⟩)] #[]), (⟨#[73, 78, 83, 69, 82, 84]⟩, .func (.func 44) #[.pointer (some ⟨g, 0, none⟩)] #[]), (⟨#[85, 80, 68, 65, 84, 69]⟩, .func (.func 45) #[.pointer (some ⟨g, 0, none⟩)] #[]), (⟨#[68, 69, 76, 69, 84, 69]⟩, .func (.func 46) #[.pointer (some ⟨g, 0, none⟩)] #[])] rfl H5.out.map ⟨#[83, 69, 76, 69, 67, 84]⟩ _ rfl rfl ?n5 ?k5)
  case n5 => intro y hy; simp at hy; rcases hy with rfl | rfl | rfl | rfl | rfl <;> rfl
  intro y5 hm5 hg5
  have H6 : Hid (Ms w g A c l at' failed [(⟨#[67, 82, 69, 65, 84, 69]⟩, .func (.func 42) #[.pointer (some ⟨g, 0, none⟩)] #[]), (⟨#[68, 82, 79, 80]⟩, .func (.func 43) #[.pointer (some ⟨g, 0, none⟩)] #[]), (⟨#[73, 78, 83, 69, 82, 84]⟩, .func (.func 44) #[.pointer (some ⟨g, 0, none⟩)] #[]), (⟨#[85, 80, 68, 65, 84, 69]⟩, .func (.func 45) #[.pointer (some ⟨g, 0, none⟩)] #[]), (⟨#[68, 69, 76, 69, 84, 69]⟩, .func (.func 46) #[.pointer (some ⟨g, 0, none⟩)] #[]), (⟨#[83, 69, 76, 69, 67, 84]⟩, .func (.func 47) #[.pointer (some ⟨g, 0, none⟩)] #[])] y5) := Lib.hid (H5.out.ins hm5 hg5)
  clear hm5 hg5 H5
  go_wp2_with (with_reducible refine wpList_insert_new _ rfl _ _ _ 93 rfl 9 61 Tryz.underlying93 Tryz.underlying9 (w.heap.size + 1) [(⟨#[67, 82, 69, 65, 84, 69]⟩, .func (.func 42) #[.pointer (some ⟨g, 0, none⟩)] #[]), (⟨#[68, 82, 79, 80]⟩, .func (.func 43) #[.pointer (some ⟨g, 0, none⟩)] #[]), (⟨#[73, 78, 83, 69, 82, 84]⟩, .func (.func 44) #[.pointer (some ⟨g, 0, none⟩)] #[]), (⟨#[85, 80, 68, 65, 84, 69]⟩, .func (.func 45) #[.pointer (some ⟨g, 0, none⟩)] #[]), (⟨#[68, 69, 76, 69, 84, 69]⟩, .func (.func 46) #[.pointer (some ⟨g, 0, none⟩)] #[]), (⟨#[83, 69, 76, 69, 67, 84]⟩, .func (.func 47) #[.pointer (some ⟨g, 0, none⟩)] #[])] rfl H6.out.map ⟨#[71, 82, 65, 78, 84]⟩ _ rfl rfl ?n6 ?k6)
  case n6 => intro y hy; simp at hy; rcases hy with rfl | rfl | rfl | rfl | rfl | rfl <;> rfl
  intro y6 hm6 hg6
  have H7 : Hid (Ms w g A c l at' failed [(⟨#[67, 82, 69, 65, 84, 69]⟩, .func (.func 42) #[.pointer (some ⟨g, 0, none⟩)] #[]), (⟨#[68, 82, 79, 80]⟩, .func (.func 43) #[.pointer (some ⟨g, 0, none⟩)] #[]), (⟨#[73, 78, 83, 69, 82, 84]⟩, .func (.func 44) #[.pointer (some ⟨g, 0, none⟩)] #[]), (⟨#[85, 80, 68, 65, 84, 69]⟩, .func (.func 45) #[.pointer (some ⟨g, 0, none⟩)] #[]), (⟨#[68, 69, 76, 69, 84, 69]⟩, .func (.func 46) #[.pointer (some ⟨g, 0, none⟩)] #[]), (⟨#[83, 69, 76, 69, 67, 84]⟩, .func (.func 47) #[.pointer (some ⟨g, 0, none⟩)] #[]), (⟨#[71, 82, 65, 78, 84]⟩, .func (.func 48) #[.pointer (some ⟨g, 0, none⟩)] #[])] y6) := Lib.hid (H6.out.ins hm6 hg6)
  clear hm6 hg6 H6
  go_wp2_with (with_reducible refine wpList_insert_new _ rfl _ _ _ 93 rfl 9 61 Tryz.underlying93 Tryz.underlying9 (w.heap.size + 1) [(⟨#[67, 82, 69, 65, 84, 69]⟩, .func (.func 42) #[.pointer (some ⟨g, 0, none⟩)] #[]), (⟨#[68, 82, 79, 80]⟩, .func (.func 43) #[.pointer (some ⟨g, 0, none⟩)] #[]), (⟨#[73, 78, 83, 69, 82, 84]⟩, .func (.func 44) #[.pointer (some ⟨g, 0, none⟩)] #[]), (⟨#[85, 80, 68, 65, 84, 69]⟩, .func (.func 45) #[.pointer (some ⟨g, 0, none⟩)] #[]), (⟨#[68, 69, 76, 69, 84, 69]⟩, .func (.func 46) #[.pointer (some ⟨g, 0, none⟩)] #[]), (⟨#[83, 69, 76, 69, 67, 84]⟩, .func (.func 47) #[.pointer (some ⟨g, 0, none⟩)] #[]), (⟨#[71, 82, 65, 78, 84]⟩, .func (.func 48) #[.pointer (some ⟨g, 0, none⟩)] #[])] rfl H7.out.map ⟨#[82, 69, 86, 79, 75, 69]⟩ _ rfl rfl ?n7 ?k7)
  case n7 => intro y hy; simp at hy; rcases hy with rfl | rfl | rfl | rfl | rfl | rfl | rfl <;> rfl
  intro y7 hm7 hg7
  have H8 : Hid (Ms w g A c l at' failed [(⟨#[67, 82, 69, 65, 84, 69]⟩, .func (.func 42) #[.pointer (some ⟨g, 0, none⟩)] #[]), (⟨#[68, 82, 79, 80]⟩, .func (.func 43) #[.pointer (some ⟨g, 0, none⟩)] #[]), (⟨#[73, 78, 83, 69, 82, 84]⟩, .func (.func 44) #[.pointer (some ⟨g, 0, none⟩)] #[]), (⟨#[85, 80, 68, 65, 84, 69]⟩, .func (.func 45) #[.pointer (some ⟨g, 0, none⟩)] #[]), (⟨#[68, 69, 76, 69, 84, 69]⟩, .func (.func 46) #[.pointer (some ⟨g, 0, none⟩)] #[]), (⟨#[83, 69, 76, 69, 67, 84]⟩, .func (.func 47) #[.pointer (some ⟨g, 0, none⟩)] #[]), (⟨#[71, 82, 65, 78, 84]⟩, .func (.func 48) #[.pointer (some ⟨g, 0, none⟩)] #[]), (⟨#[82, 69, 86, 79, 75, 69]⟩, .func (.func 49) #[.pointer (some ⟨g, 0, none⟩)] #[])] y7) := Lib.hid (H7.out.ins hm7 hg7)
  clear hm7 hg7 H7
  go_wp2_with (with_reducible refine wpList_insert_new _ rfl _ _ _ 93 rfl 9 61 Tryz.underlying93 Tryz.underlying9 (w.heap.size + 1) [(⟨#[67, 82, 69, 65, 84, 69]⟩, .func (.func 42) #[.pointer (some ⟨g, 0, none⟩)] #[]), (⟨#[68, 82, 79, 80]⟩, .func (.func 43) #[.pointer (some ⟨g, 0, none⟩)] #[]), (⟨#[73, 78, 83, 69, 82, 84]⟩, .func (.func 44) #[.pointer (some ⟨g, 0, none⟩)] #[]), (⟨#[85, 80, 68, 65, 84, 69]⟩, .func (.func 45) #[.pointer (some ⟨g, 0, none⟩)] #[]), (⟨#[68, 69, 76, 69, 84, 69]⟩, .func (.func 46) #[.pointer (some ⟨g, 0, none⟩)] #[]), (⟨#[83, 69, 76, 69, 67, 84]⟩, .func (.func 47) #[.pointer (some ⟨g, 0, none⟩)] #[]), (⟨#[71, 82, 65, 78, 84]⟩, .func (.func 48) #[.pointer (some ⟨g, 0, none⟩)] #[]), (⟨#[82, 69, 86, 79, 75, 69]⟩, .func (.func 49) #[.pointer (some ⟨g, 0, none⟩)] #[])] rfl H8.out.map ⟨#[77, 73, 71, 82, 65, 84, 69]⟩ _ rfl rfl ?n8 ?k8)
  case n8 => intro y hy; simp at hy; rcases hy with rfl | rfl | rfl | rfl | rfl | rfl | rfl | rfl <;> rfl
  intro y8 hm8 hg8
  have H9 : Hid (Ms w g A c l at' failed [(⟨#[67, 82, 69, 65, 84, 69]⟩, .func (.func 42) #[.pointer (some ⟨g, 0, none⟩)] #[]), (⟨#[68, 82, 79, 80]⟩, .func (.func 43) #[.pointer (some ⟨g, 0, none⟩)] #[]), (⟨#[73, 78, 83, 69, 82, 84]⟩, .func (.func 44) #[.pointer (some ⟨g, 0, none⟩)] #[]), (⟨#[85, 80, 68, 65, 84, 69]⟩, .func (.func 45) #[.pointer (some ⟨g, 0, none⟩)] #[]), (⟨#[68, 69, 76, 69, 84, 69]⟩, .func (.func 46) #[.pointer (some ⟨g, 0, none⟩)] #[]), (⟨#[83, 69, 76, 69, 67, 84]⟩, .func (.func 47) #[.pointer (some ⟨g, 0, none⟩)] #[]), (⟨#[71, 82, 65, 78, 84]⟩, .func (.func 48) #[.pointer (some ⟨g, 0, none⟩)] #[]), (⟨#[82, 69, 86, 79, 75, 69]⟩, .func (.func 49) #[.pointer (some ⟨g, 0, none⟩)] #[]), (⟨#[77, 73, 71, 82, 65, 84, 69]⟩, .func (.func 50) #[.pointer (some ⟨g, 0, none⟩)] #[])] y8) := Lib.hid (H8.out.ins hm8 hg8)
  clear hm8 hg8 H8
  go_wp2_with (first
    | (go_at_call 41; (with_reducible refine (one_revoke g A c l at' failed ⟨#[82, 69, 86, 79, 75, 69]⟩ (w.heap.size + 1) [(⟨#[67, 82, 69, 65, 84, 69]⟩, .func (.func 42) #[.pointer (some ⟨g, 0, none⟩)] #[]), (⟨#[68, 82, 79, 80]⟩, .func (.func 43) #[.pointer (some ⟨g, 0, none⟩)] #[]), (⟨#[73, 78, 83, 69, 82, 84]⟩, .func (.func 44) #[.pointer (some ⟨g, 0, none⟩)] #[]), (⟨#[85, 80, 68, 65, 84, 69]⟩, .func (.func 45) #[.pointer (some ⟨g, 0, none⟩)] #[]), (⟨#[68, 69, 76, 69, 84, 69]⟩, .func (.func 46) #[.pointer (some ⟨g, 0, none⟩)] #[]), (⟨#[83, 69, 76, 69, 67, 84]⟩, .func (.func 47) #[.pointer (some ⟨g, 0, none⟩)] #[]), (⟨#[71, 82, 65, 78, 84]⟩, .func (.func 48) #[.pointer (some ⟨g, 0, none⟩)] #[]), (⟨#[82, 69, 86, 79, 75, 69]⟩, .func (.func 49) #[.pointer (some ⟨g, 0, none⟩)] #[]), (⟨#[77, 73, 71, 82, 65, 84, 69]⟩, .func (.func 50) #[.pointer (some ⟨g, 0, none⟩)] #[])] cs at2 f2 _ H9.out.sz hl ha HT.out H9.out.map (find_revoke g) h1 h23 (fun W hW hs => HR.out W hW (Nat.le_trans H9.out.gr.size hs))).mono ?_); rintro e w2 ⟨rfl, hz2, hg2⟩; have hb2 : w2.heap[w.heap.size]? = some (.cells #[.string ⟨#[]⟩, .string ⟨#[]⟩, .string ⟨#[]⟩, .slice none 0 0, .slice none 0 0, .string ⟨#[]⟩, .slice none 0 0, .slice none 0 0, .string ⟨#[]⟩, .int .i64 0, .int .i64 0, .string ⟨#[]⟩, .string ⟨#[]⟩, .slice none 0 0, .slice none 0 0, .slice none 0 0, .string ⟨#[]⟩, .int .i64 0, .int .i64 0, .string ⟨#[]⟩, .string ⟨#[]⟩, .slice none 0 0, .string ⟨#[]⟩] 34 (0, 0)) := (hg2.block _ (lt_of_block H9.out.res) (fun e => by injection e with e; omega)).trans H9.out.res; have HZ2 := Lib.hid hz2; have HG2 := Lib.hid (grow_trans H9.out.gr hg2); clear hz2 hg2)
    | (refine wpList_store_row rfl 34 (.tmp 2) (.tmp 24) rfl w.heap.size cs rfl rfl 34 _ hb2 (by rw [h23]; exact stSize) (by rw [h23]; rfl) h1 ?_))
  refine bodyPost_ret (results_cell_row rfl _ _ w.heap.size 34 cs (0, 0) _ rfl (setRow_heap _ _ _ _ _ _ hb2) Tryz.underlying34 rfl (by rw [h23]; exact stSize)) rfl ⟨rfl, HZ2.out.row _ hlg, grow_row _ HG2.out (Nat.le_refl _)⟩

theorem find_selectFrom (g : Nat) : (([(⟨#[67, 82, 69, 65, 84, 69]⟩, .func (.func 42) #[.pointer (some ⟨g, 0, none⟩)] #[]), (⟨#[68, 82, 79, 80]⟩, .func (.func 43) #[.pointer (some ⟨g, 0, none⟩)] #[]), (⟨#[73, 78, 83, 69, 82, 84]⟩, .func (.func 44) #[.pointer (some ⟨g, 0, none⟩)] #[]), (⟨#[85, 80, 68, 65, 84, 69]⟩, .func (.func 45) #[.pointer (some ⟨g, 0, none⟩)] #[]), (⟨#[68, 69, 76, 69, 84, 69]⟩, .func (.func 46) #[.pointer (some ⟨g, 0, none⟩)] #[]), (⟨#[83, 69, 76, 69, 67, 84]⟩, .func (.func 47) #[.pointer (some ⟨g, 0, none⟩)] #[]), (⟨#[71, 82, 65, 78, 84]⟩, .func (.func 48) #[.pointer (some ⟨g, 0, none⟩)] #[]), (⟨#[82, 69, 86, 79, 75, 69]⟩, .func (.func 49) #[.pointer (some ⟨g, 0, none⟩)] #[]), (⟨#[77, 73, 71, 82, 65, 84, 69]⟩, .func (.func 50) #[.pointer (some ⟨g, 0, none⟩)] #[])] : List (ByteArray × Value)).find? fun y => (⟨#[83, 69, 76, 69, 67, 84]⟩ : ByteArray) == y.1) = some (⟨#[83, 69, 76, 69, 67, 84]⟩, .func (.func 47) #[.pointer (some ⟨g, 0, none⟩)] #[]) := by kernel_rfl
theorem find_insertInto (g : Nat) : (([(⟨#[67, 82, 69, 65, 84, 69]⟩, .func (.func 42) #[.pointer (some ⟨g, 0, none⟩)] #[]), (⟨#[68, 82, 79, 80]⟩, .func (.func 43) #[.pointer (some ⟨g, 0, none⟩)] #[]), (⟨#[73, 78, 83, 69, 82, 84]⟩, .func (.func 44) #[.pointer (some ⟨g, 0, none⟩)] #[]), (⟨#[85, 80, 68, 65, 84, 69]⟩, .func (.func 45) #[.pointer (some ⟨g, 0, none⟩)] #[]), (⟨#[68, 69, 76, 69, 84, 69]⟩, .func (.func 46) #[.pointer (some ⟨g, 0, none⟩)] #[]), (⟨#[83, 69, 76, 69, 67, 84]⟩, .func (.func 47) #[.pointer (some ⟨g, 0, none⟩)] #[]), (⟨#[71, 82, 65, 78, 84]⟩, .func (.func 48) #[.pointer (some ⟨g, 0, none⟩)] #[]), (⟨#[82, 69, 86, 79, 75, 69]⟩, .func (.func 49) #[.pointer (some ⟨g, 0, none⟩)] #[]), (⟨#[77, 73, 71, 82, 65, 84, 69]⟩, .func (.func 50) #[.pointer (some ⟨g, 0, none⟩)] #[])] : List (ByteArray × Value)).find? fun y => (⟨#[73, 78, 83, 69, 82, 84]⟩ : ByteArray) == y.1) = some (⟨#[73, 78, 83, 69, 82, 84]⟩, .func (.func 44) #[.pointer (some ⟨g, 0, none⟩)] #[]) := by kernel_rfl
end Go.Proofs.YtlilnbcklplmfaaGreatDoor

/- The statement parser: Parse. -/
namespace Go.Proofs.YtlilnbcklplmfaaGreatDoor
open Go.RowKit Go.Lib

theorem results_row_tmp {P : Program} {fn : Func} {p u : Tmp} {ty : TypeId} (h : fn.results = #[.cell p ty, .tmp u]) (tmps : Array Value) (w : World) (g : Nat) (t : TypeId) (cs : Array Value) (fr : Nat × Nat) (d : TypeDesc)
    (hp : tmps.getD p undef = .pointer (some ⟨g, 0, none⟩)) (hg : w.heap[g]? = some (.cells cs t fr))
    (hu : P.underlying ty = some d) (hd : (match d with | .struct _ | .array _ _ => true | _ => false) = true) (hi : (P.info? ty).map (·.size) = some cs.size) (v : Value) (hv : tmps.getD u undef = v) :
    (results fn tmps).run P w = .ok (.tuple #[.agg cs, v]) w := by
  rw [results_cell_tmp h, hp, hv]
  simp [asAddr, run_loadVar_row w g t ty cs fr d hg hu hd hi, Result.andThen]
theorem below_row {B b : Nat} {w W : World} (h : Below B w W) (cs : Array Value) (hb : B ≤ b) : Below B w (W.setRow b cs) := h.trans ⟨rfl, rfl, rfl, by rw [setRow_size]; exact Nat.le_refl _, fun q hq => setRow_other _ _ _ _ (by omega)⟩
theorem wpList_load_row_on {P : Program} {ops : Array Oper} {rest : List Oper} {o : Oper} {a : Act} {w : World} {Q : Exit → Act → World → Prop} (hw : Region.wanted o (yielded ops a.tmps) = true) (ty : TypeId) (x : Operand) (ho : o.op = .load ty x)
    (g : Nat) (hx : a.eval x = .pointer (some ⟨g, 0, none⟩)) (t : TypeId) (cs : Array Value) (fr : Nat × Nat) (d : TypeDesc) (hg : w.heap[g]? = some (.cells cs t fr))
    (hu : P.underlying ty = some d) (hd : (match d with | .struct _ | .array _ _ => true | _ => false) = true) (hi : (P.info? ty).map (·.size) = some cs.size)
    (h : wpList P ops Q rest (a.put o.dst (.agg cs)) w) : wpList P ops Q (o :: rest) a w :=
  wpList_step fun K hK => by rw [if_pos hw]; exact wp_load_row ty x ho g hx t cs fr d hg hu hd hi (hK _ _ h)
def tnOf (x : Tk) : Tn := ⟨x.k, ⟨x.s.toArray⟩⟩
theorem Sz.start {W : World} {A : Option Addr} {cap : Nat} {ts : List Tk} (ht : Toks W W.heap.size A ts.length ts) (hl : LibE W) : Sz (W.alloc (.cells #[.slice A ts.length cap, .int .i64 0, .bool false] 60)) W.heap.size A cap (ts.map tnOf) 0 false := by
  refine ⟨?_, fun j hj => ?_, ⟨W, hl, Nat.le_refl _, (Below.refl _ _).alloc (Nat.le_refl _) _⟩⟩
  · rw [List.length_map]
    exact alloc_at rfl _
  · obtain ⟨a, e, h1, h2⟩ := ht.2 j (by simpa using hj)
    have h3 := h1.keep ((Below.refl W.heap.size W).alloc (Nat.le_refl _) (.cells #[.slice A ts.length cap, .int .i64 0, .bool false] 60)) (by rw [add_block]; exact h2)
    exact ⟨a, e, h2, by simpa [tnOf] using h3.k, by simpa [tnOf] using h3.s⟩

set_option maxRecDepth 100000 in
set_option maxHeartbeats 4000000 in
theorem sparse_no (s : ByteArray) (w : World) (hs : s.size ≤ 100000) (hl : LibE w) (hc : cutR s.data.toList = none) :
    Calls Tryz.prog 7 #[.string s] w fun e w' => e = .returned (.tuple #[.agg #[.string ⟨#[]⟩, .string ⟨#[]⟩, .string ⟨#[]⟩, .slice none 0 0, .slice none 0 0, .string ⟨#[]⟩, .slice none 0 0, .slice none 0 0, .string ⟨#[]⟩, .int .i64 0, .int .i64 0, .string ⟨#[]⟩, .string ⟨#[]⟩, .slice none 0 0, .slice none 0 0, .slice none 0 0, .string ⟨#[]⟩, .int .i64 0, .int .i64 0, .string ⟨#[]⟩, .string ⟨#[]⟩, .slice none 0 0, .string ⟨#[]⟩], .int .i64 2]) ∧ Below w.heap.size w w' := by
  have HL := Lib.hid hl
  have HC := Lib.hid hc
  clear hl hc
  go_enter Tryz.func7, Tryz.ntmps7
  go_wp2_with (first
    | (go_at_call 17; (with_reducible refine (cut_no s _ hs (HL.out.keep ((Below.refl w.heap.size w).alloc (Nat.le_refl _) _) (Nat.le_refl _)) HC.out).mono ?_); rintro e w1 ⟨rfl, hb1⟩; have HB1 : Hid (Below w.heap.size w w1) := ((Below.refl _ _).alloc (Nat.le_refl _) _).trans (hb1.mono (by simp)); have hb2 : w1.heap[w.heap.size]? = some (.cells #[.string ⟨#[]⟩, .string ⟨#[]⟩, .string ⟨#[]⟩, .slice none 0 0, .slice none 0 0, .string ⟨#[]⟩, .slice none 0 0, .slice none 0 0, .string ⟨#[]⟩, .int .i64 0, .int .i64 0, .string ⟨#[]⟩, .string ⟨#[]⟩, .slice none 0 0, .slice none 0 0, .slice none 0 0, .string ⟨#[]⟩, .int .i64 0, .int .i64 0, .string ⟨#[]⟩, .string ⟨#[]⟩, .slice none 0 0, .string ⟨#[]⟩] 34 (0, 0)) := (hb1.block _ (by simp)).trans (alloc_at rfl _); clear hb1)
    | (refine wpList_buildTo rfl 34 _ rfl _ rfl #[.string ⟨#[]⟩, .string ⟨#[]⟩, .string ⟨#[]⟩, .slice none 0 0, .slice none 0 0, .string ⟨#[]⟩, .slice none 0 0, .slice none 0 0, .string ⟨#[]⟩, .int .i64 0, .int .i64 0, .string ⟨#[]⟩, .string ⟨#[]⟩, .slice none 0 0, .slice none 0 0, .slice none 0 0, .string ⟨#[]⟩, .int .i64 0, .int .i64 0, .string ⟨#[]⟩, .string ⟨#[]⟩, .slice none 0 0, .string ⟨#[]⟩] (by as_aux_lemma => kernel_rfl) ?_)
    | (refine wpList_store_row rfl 34 (.tmp 2) (.tmp 15) rfl w.heap.size #[.string ⟨#[]⟩, .string ⟨#[]⟩, .string ⟨#[]⟩, .slice none 0 0, .slice none 0 0, .string ⟨#[]⟩, .slice none 0 0, .slice none 0 0, .string ⟨#[]⟩, .int .i64 0, .int .i64 0, .string ⟨#[]⟩, .string ⟨#[]⟩, .slice none 0 0, .slice none 0 0, .slice none 0 0, .string ⟨#[]⟩, .int .i64 0, .int .i64 0, .string ⟨#[]⟩, .string ⟨#[]⟩, .slice none 0 0, .string ⟨#[]⟩] rfl rfl 34 _ hb2 stSize rfl (rt_one _ _ _) ?_))
  refine bodyPost_ret (results_row_tmp rfl _ _ w.heap.size 34 #[.string ⟨#[]⟩, .string ⟨#[]⟩, .string ⟨#[]⟩, .slice none 0 0, .slice none 0 0, .string ⟨#[]⟩, .slice none 0 0, .slice none 0 0, .string ⟨#[]⟩, .int .i64 0, .int .i64 0, .string ⟨#[]⟩, .string ⟨#[]⟩, .slice none 0 0, .slice none 0 0, .slice none 0 0, .string ⟨#[]⟩, .int .i64 0, .int .i64 0, .string ⟨#[]⟩, .string ⟨#[]⟩, .slice none 0 0, .string ⟨#[]⟩] (0, 0) _ rfl (setRow_heap _ _ _ _ _ _ hb2) Tryz.underlying34 rfl stSize _ rfl) rfl ⟨rfl, below_row HB1.out _ (Nat.le_refl _)⟩

set_option maxRecDepth 100000 in
set_option maxHeartbeats 4000000 in
theorem sparse_failed (s : ByteArray) (w : World) (hs : s.size ≤ 100000) (hl : LibE w) (ts : List Tk) (hc : cutR s.data.toList = some ts) (cs : Array Value) (at2 : Nat) (h1 : cs.all (·.oneCell') = true) (h23 : cs.size = 23)
    (hst : ∀ (g : Nat) (A : Option Addr) (cap : Nat) (W : World), Sz W g A cap (ts.map tnOf) 0 false → Calls Tryz.prog 18 #[.pointer (some ⟨g, 0, none⟩)] W fun e w' => e = .returned (.agg cs) ∧ Sz w' g A cap (ts.map tnOf) at2 true ∧ W.grownBy w' (some g)) :
    Calls Tryz.prog 7 #[.string s] w fun e w' => e = .returned (.tuple #[.agg #[.string ⟨#[]⟩, .string ⟨#[]⟩, .string ⟨#[]⟩, .slice none 0 0, .slice none 0 0, .string ⟨#[]⟩, .slice none 0 0, .slice none 0 0, .string ⟨#[]⟩, .int .i64 0, .int .i64 0, .string ⟨#[]⟩, .string ⟨#[]⟩, .slice none 0 0, .slice none 0 0, .slice none 0 0, .string ⟨#[]⟩, .int .i64 0, .int .i64 0, .string ⟨#[]⟩, .string ⟨#[]⟩, .slice none 0 0, .string ⟨#[]⟩], .int .i64 2]) ∧ Below w.heap.size w w' := by
  have HL := Lib.hid hl
  have HC := Lib.hid hc
  have HST := Lib.hid hst
  clear hl hc hst
  go_enter Tryz.func7, Tryz.ntmps7
  go_wp2_with (first
    | (go_at_call 17; (with_reducible refine (cut_ok' s _ hs (HL.out.keep ((Below.refl w.heap.size w).alloc (Nat.le_refl _) _) (Nat.le_refl _)) ts HC.out ts.length rfl).mono ?_); rintro e w1 ⟨A, cap, rfl, ht, hb1⟩; have HT := Lib.hid (Sz.start (cap := cap) ht.out (HL.out.keep (((Below.refl w.heap.size w).alloc (Nat.le_refl _) _).trans (hb1.mono (by simp))) (Nat.le_refl _))); have HB1 : Hid (Below w.heap.size w (w1.alloc (.cells #[.slice A ts.length cap, .int .i64 0, .bool false] 60))) := ((((Below.refl _ _).alloc (Nat.le_refl _) _).trans (hb1.mono (by simp))).alloc (by have := hb1.size; simp at this; omega) _); have HQ1 : Hid ((w1.alloc (.cells #[.slice A ts.length cap, .int .i64 0, .bool false] 60)).heap[w.heap.size]? = some (.cells #[.string ⟨#[]⟩, .string ⟨#[]⟩, .string ⟨#[]⟩, .slice none 0 0, .slice none 0 0, .string ⟨#[]⟩, .slice none 0 0, .slice none 0 0, .string ⟨#[]⟩, .int .i64 0, .int .i64 0, .string ⟨#[]⟩, .string ⟨#[]⟩, .slice none 0 0, .slice none 0 0, .slice none 0 0, .string ⟨#[]⟩, .int .i64 0, .int .i64 0, .string ⟨#[]⟩, .string ⟨#[]⟩, .slice none 0 0, .string ⟨#[]⟩] 34 (0, 0))) := (Below.heap_alloc _ _ _ (by have := hb1.size; simp at this; omega)).trans ((hb1.block _ (by simp)).trans (alloc_at rfl _)); have hq1 : w.heap.size < w1.heap.size := (by have := hb1.size; simp at this; omega); clear ht hb1)
    | (go_at_call 18; (with_reducible refine (HST.out w1.heap.size A cap _ HT.out).mono ?_); rintro e w2 ⟨rfl, hz2, hg2⟩; have HS3 : Hid (Sz ((w2.alloc (.cells #[.string ⟨#[]⟩, .string ⟨#[]⟩, .string ⟨#[]⟩, .slice none 0 0, .slice none 0 0, .string ⟨#[]⟩, .slice none 0 0, .slice none 0 0, .string ⟨#[]⟩, .int .i64 0, .int .i64 0, .string ⟨#[]⟩, .string ⟨#[]⟩, .slice none 0 0, .slice none 0 0, .slice none 0 0, .string ⟨#[]⟩, .int .i64 0, .int .i64 0, .string ⟨#[]⟩, .string ⟨#[]⟩, .slice none 0 0, .string ⟨#[]⟩] 34)).setRow w2.heap.size cs) w1.heap.size A cap (ts.map tnOf) at2 true) := (hz2.alloc _).row _ hz2.lt; have d1 := HS3.out.c1; have d2 := HS3.out.c2; have df1 := HS3.out.fz 1; have df2 := HS3.out.fz 2; have HB2 : Hid (Below w.heap.size w w2) := HB1.out.trans ⟨hg2.os, hg2.tape, hg2.output, hg2.size, fun q hq => hg2.block q (by simp; omega) (fun e => by injection e with e; omega)⟩; have hb7 : (w2.alloc (.cells #[.string ⟨#[]⟩, .string ⟨#[]⟩, .string ⟨#[]⟩, .slice none 0 0, .slice none 0 0, .string ⟨#[]⟩, .slice none 0 0, .slice none 0 0, .string ⟨#[]⟩, .int .i64 0, .int .i64 0, .string ⟨#[]⟩, .string ⟨#[]⟩, .slice none 0 0, .slice none 0 0, .slice none 0 0, .string ⟨#[]⟩, .int .i64 0, .int .i64 0, .string ⟨#[]⟩, .string ⟨#[]⟩, .slice none 0 0, .string ⟨#[]⟩] 34)).heap[w2.heap.size]? = some (.cells #[.string ⟨#[]⟩, .string ⟨#[]⟩, .string ⟨#[]⟩, .slice none 0 0, .slice none 0 0, .string ⟨#[]⟩, .slice none 0 0, .slice none 0 0, .string ⟨#[]⟩, .int .i64 0, .int .i64 0, .string ⟨#[]⟩, .string ⟨#[]⟩, .slice none 0 0, .slice none 0 0, .slice none 0 0, .string ⟨#[]⟩, .int .i64 0, .int .i64 0, .string ⟨#[]⟩, .string ⟨#[]⟩, .slice none 0 0, .string ⟨#[]⟩] 34 (0, 0)) := alloc_at rfl _; have hy2 : w1.heap.size < w2.heap.size := hz2.lt; have hbw : ((w2.alloc (.cells #[.string ⟨#[]⟩, .string ⟨#[]⟩, .string ⟨#[]⟩, .slice none 0 0, .slice none 0 0, .string ⟨#[]⟩, .slice none 0 0, .slice none 0 0, .string ⟨#[]⟩, .int .i64 0, .int .i64 0, .string ⟨#[]⟩, .string ⟨#[]⟩, .slice none 0 0, .slice none 0 0, .slice none 0 0, .string ⟨#[]⟩, .int .i64 0, .int .i64 0, .string ⟨#[]⟩, .string ⟨#[]⟩, .slice none 0 0, .string ⟨#[]⟩] 34)).setRow w2.heap.size cs).heap[w.heap.size]? = some (.cells #[.string ⟨#[]⟩, .string ⟨#[]⟩, .string ⟨#[]⟩, .slice none 0 0, .slice none 0 0, .string ⟨#[]⟩, .slice none 0 0, .slice none 0 0, .string ⟨#[]⟩, .int .i64 0, .int .i64 0, .string ⟨#[]⟩, .string ⟨#[]⟩, .slice none 0 0, .slice none 0 0, .slice none 0 0, .string ⟨#[]⟩, .int .i64 0, .int .i64 0, .string ⟨#[]⟩, .string ⟨#[]⟩, .slice none 0 0, .string ⟨#[]⟩] 34 (0, 0)) := (setRow_other _ _ _ _ (by omega)).trans ((Below.heap_alloc _ _ _ (by omega)).trans ((hg2.block _ (by simp; omega) (fun e => by injection e with e; omega)).trans HQ1.out)); have hb8 : ((w2.alloc (.cells #[.string ⟨#[]⟩, .string ⟨#[]⟩, .string ⟨#[]⟩, .slice none 0 0, .slice none 0 0, .string ⟨#[]⟩, .slice none 0 0, .slice none 0 0, .string ⟨#[]⟩, .int .i64 0, .int .i64 0, .string ⟨#[]⟩, .string ⟨#[]⟩, .slice none 0 0, .slice none 0 0, .slice none 0 0, .string ⟨#[]⟩, .int .i64 0, .int .i64 0, .string ⟨#[]⟩, .string ⟨#[]⟩, .slice none 0 0, .string ⟨#[]⟩] 34)).setRow w2.heap.size cs).heap[w2.heap.size]? = some (.cells cs 34 (0, 0)) := setRow_heap _ _ _ _ _ _ hb7; clear hz2 hg2)
    | (refine wpList_buildTo rfl 34 _ rfl _ rfl #[.string ⟨#[]⟩, .string ⟨#[]⟩, .string ⟨#[]⟩, .slice none 0 0, .slice none 0 0, .string ⟨#[]⟩, .slice none 0 0, .slice none 0 0, .string ⟨#[]⟩, .int .i64 0, .int .i64 0, .string ⟨#[]⟩, .string ⟨#[]⟩, .slice none 0 0, .slice none 0 0, .slice none 0 0, .string ⟨#[]⟩, .int .i64 0, .int .i64 0, .string ⟨#[]⟩, .string ⟨#[]⟩, .slice none 0 0, .string ⟨#[]⟩] (by as_aux_lemma => kernel_rfl) ?_)
    | (refine wpList_store_row rfl 34 (.tmp 7) (.tmp 20) rfl w2.heap.size cs rfl rfl 34 _ hb7 (by rw [h23]; exact stSize) (by rw [h23]; rfl) h1 ?_)
    | (refine wpList_store_row rfl 34 (.tmp 2) (.tmp 39) rfl w.heap.size #[.string ⟨#[]⟩, .string ⟨#[]⟩, .string ⟨#[]⟩, .slice none 0 0, .slice none 0 0, .string ⟨#[]⟩, .slice none 0 0, .slice none 0 0, .string ⟨#[]⟩, .int .i64 0, .int .i64 0, .string ⟨#[]⟩, .string ⟨#[]⟩, .slice none 0 0, .slice none 0 0, .slice none 0 0, .string ⟨#[]⟩, .int .i64 0, .int .i64 0, .string ⟨#[]⟩, .string ⟨#[]⟩, .slice none 0 0, .string ⟨#[]⟩] rfl rfl 34 _ hbw stSize rfl (rt_one _ _ _) ?_))
  refine bodyPost_ret (results_row_tmp rfl _ _ w.heap.size 34 #[.string ⟨#[]⟩, .string ⟨#[]⟩, .string ⟨#[]⟩, .slice none 0 0, .slice none 0 0, .string ⟨#[]⟩, .slice none 0 0, .slice none 0 0, .string ⟨#[]⟩, .int .i64 0, .int .i64 0, .string ⟨#[]⟩, .string ⟨#[]⟩, .slice none 0 0, .slice none 0 0, .slice none 0 0, .string ⟨#[]⟩, .int .i64 0, .int .i64 0, .string ⟨#[]⟩, .string ⟨#[]⟩, .slice none 0 0, .string ⟨#[]⟩] (0, 0) _ rfl (setRow_heap _ _ _ _ _ _ hbw) Tryz.underlying34 rfl stSize _ rfl) rfl ⟨rfl, below_row (below_row (HB2.out.alloc HB2.out.size _) _ HB2.out.size) _ (Nat.le_refl _)⟩

set_option maxRecDepth 100000 in
set_option maxHeartbeats 4000000 in
theorem sparse_left (s : ByteArray) (w : World) (hs : s.size ≤ 100000) (hl : LibE w) (ts : List Tk) (hc : cutR s.data.toList = some ts) (cs : Array Value) (at2 : Nat) (h1 : cs.all (·.oneCell') = true) (h23 : cs.size = 23)
    (hst : ∀ (g : Nat) (A : Option Addr) (cap : Nat) (W : World), Sz W g A cap (ts.map tnOf) 0 false → Calls Tryz.prog 18 #[.pointer (some ⟨g, 0, none⟩)] W fun e w' => e = .returned (.agg cs) ∧ Sz w' g A cap (ts.map tnOf) at2 false ∧ W.grownBy w' (some g)) (hlt : at2 < ts.length) :
    Calls Tryz.prog 7 #[.string s] w fun e w' => e = .returned (.tuple #[.agg #[.string ⟨#[]⟩, .string ⟨#[]⟩, .string ⟨#[]⟩, .slice none 0 0, .slice none 0 0, .string ⟨#[]⟩, .slice none 0 0, .slice none 0 0, .string ⟨#[]⟩, .int .i64 0, .int .i64 0, .string ⟨#[]⟩, .string ⟨#[]⟩, .slice none 0 0, .slice none 0 0, .slice none 0 0, .string ⟨#[]⟩, .int .i64 0, .int .i64 0, .string ⟨#[]⟩, .string ⟨#[]⟩, .slice none 0 0, .string ⟨#[]⟩], .int .i64 2]) ∧ Below w.heap.size w w' := by
  have HL := Lib.hid hl
  have HC := Lib.hid hc
  have HST := Lib.hid hst
  clear hl hc hst
  go_enter Tryz.func7, Tryz.ntmps7
  go_wp2_with (first
    | (go_at_call 17; (with_reducible refine (cut_ok' s _ hs (HL.out.keep ((Below.refl w.heap.size w).alloc (Nat.le_refl _) _) (Nat.le_refl _)) ts HC.out ts.length rfl).mono ?_); rintro e w1 ⟨A, cap, rfl, ht, hb1⟩; have HT := Lib.hid (Sz.start (cap := cap) ht.out (HL.out.keep (((Below.refl w.heap.size w).alloc (Nat.le_refl _) _).trans (hb1.mono (by simp))) (Nat.le_refl _))); have HB1 : Hid (Below w.heap.size w (w1.alloc (.cells #[.slice A ts.length cap, .int .i64 0, .bool false] 60))) := ((((Below.refl _ _).alloc (Nat.le_refl _) _).trans (hb1.mono (by simp))).alloc (by have := hb1.size; simp at this; omega) _); have HQ1 : Hid ((w1.alloc (.cells #[.slice A ts.length cap, .int .i64 0, .bool false] 60)).heap[w.heap.size]? = some (.cells #[.string ⟨#[]⟩, .string ⟨#[]⟩, .string ⟨#[]⟩, .slice none 0 0, .slice none 0 0, .string ⟨#[]⟩, .slice none 0 0, .slice none 0 0, .string ⟨#[]⟩, .int .i64 0, .int .i64 0, .string ⟨#[]⟩, .string ⟨#[]⟩, .slice none 0 0, .slice none 0 0, .slice none 0 0, .string ⟨#[]⟩, .int .i64 0, .int .i64 0, .string ⟨#[]⟩, .string ⟨#[]⟩, .slice none 0 0, .string ⟨#[]⟩] 34 (0, 0))) := (Below.heap_alloc _ _ _ (by have := hb1.size; simp at this; omega)).trans ((hb1.block _ (by simp)).trans (alloc_at rfl _)); have hq1 : w.heap.size < w1.heap.size := (by have := hb1.size; simp at this; omega); clear ht hb1)
    | (go_at_call 18; (with_reducible refine (HST.out w1.heap.size A cap _ HT.out).mono ?_); rintro e w2 ⟨rfl, hz2, hg2⟩; have HS3 : Hid (Sz ((w2.alloc (.cells #[.string ⟨#[]⟩, .string ⟨#[]⟩, .string ⟨#[]⟩, .slice none 0 0, .slice none 0 0, .string ⟨#[]⟩, .slice none 0 0, .slice none 0 0, .string ⟨#[]⟩, .int .i64 0, .int .i64 0, .string ⟨#[]⟩, .string ⟨#[]⟩, .slice none 0 0, .slice none 0 0, .slice none 0 0, .string ⟨#[]⟩, .int .i64 0, .int .i64 0, .string ⟨#[]⟩, .string ⟨#[]⟩, .slice none 0 0, .string ⟨#[]⟩] 34)).setRow w2.heap.size cs) w1.heap.size A cap (ts.map tnOf) at2 false) := (hz2.alloc _).row _ hz2.lt; have d1 := HS3.out.c1; have d2 := HS3.out.c2; have df1 := HS3.out.fz 1; have df2 := HS3.out.fz 2; have HB2 : Hid (Below w.heap.size w w2) := HB1.out.trans ⟨hg2.os, hg2.tape, hg2.output, hg2.size, fun q hq => hg2.block q (by simp; omega) (fun e => by injection e with e; omega)⟩; have hb7 : (w2.alloc (.cells #[.string ⟨#[]⟩, .string ⟨#[]⟩, .string ⟨#[]⟩, .slice none 0 0, .slice none 0 0, .string ⟨#[]⟩, .slice none 0 0, .slice none 0 0, .string ⟨#[]⟩, .int .i64 0, .int .i64 0, .string ⟨#[]⟩, .string ⟨#[]⟩, .slice none 0 0, .slice none 0 0, .slice none 0 0, .string ⟨#[]⟩, .int .i64 0, .int .i64 0, .string ⟨#[]⟩, .string ⟨#[]⟩, .slice none 0 0, .string ⟨#[]⟩] 34)).heap[w2.heap.size]? = some (.cells #[.string ⟨#[]⟩, .string ⟨#[]⟩, .string ⟨#[]⟩, .slice none 0 0, .slice none 0 0, .string ⟨#[]⟩, .slice none 0 0, .slice none 0 0, .string ⟨#[]⟩, .int .i64 0, .int .i64 0, .string ⟨#[]⟩, .string ⟨#[]⟩, .slice none 0 0, .slice none 0 0, .slice none 0 0, .string ⟨#[]⟩, .int .i64 0, .int .i64 0, .string ⟨#[]⟩, .string ⟨#[]⟩, .slice none 0 0, .string ⟨#[]⟩] 34 (0, 0)) := alloc_at rfl _; have hy2 : w1.heap.size < w2.heap.size := hz2.lt; have hbw : ((w2.alloc (.cells #[.string ⟨#[]⟩, .string ⟨#[]⟩, .string ⟨#[]⟩, .slice none 0 0, .slice none 0 0, .string ⟨#[]⟩, .slice none 0 0, .slice none 0 0, .string ⟨#[]⟩, .int .i64 0, .int .i64 0, .string ⟨#[]⟩, .string ⟨#[]⟩, .slice none 0 0, .slice none 0 0, .slice none 0 0, .string ⟨#[]⟩, .int .i64 0, .int .i64 0, .string ⟨#[]⟩, .string ⟨#[]⟩, .slice none 0 0, .string ⟨#[]⟩] 34)).setRow w2.heap.size cs).heap[w.heap.size]? = some (.cells #[.string ⟨#[]⟩, .string ⟨#[]⟩, .string ⟨#[]⟩, .slice none 0 0, .slice none 0 0, .string ⟨#[]⟩, .slice none 0 0, .slice none 0 0, .string ⟨#[]⟩, .int .i64 0, .int .i64 0, .string ⟨#[]⟩, .string ⟨#[]⟩, .slice none 0 0, .slice none 0 0, .slice none 0 0, .string ⟨#[]⟩, .int .i64 0, .int .i64 0, .string ⟨#[]⟩, .string ⟨#[]⟩, .slice none 0 0, .string ⟨#[]⟩] 34 (0, 0)) := (setRow_other _ _ _ _ (by omega)).trans ((Below.heap_alloc _ _ _ (by omega)).trans ((hg2.block _ (by simp; omega) (fun e => by injection e with e; omega)).trans HQ1.out)); have hb8 : ((w2.alloc (.cells #[.string ⟨#[]⟩, .string ⟨#[]⟩, .string ⟨#[]⟩, .slice none 0 0, .slice none 0 0, .string ⟨#[]⟩, .slice none 0 0, .slice none 0 0, .string ⟨#[]⟩, .int .i64 0, .int .i64 0, .string ⟨#[]⟩, .string ⟨#[]⟩, .slice none 0 0, .slice none 0 0, .slice none 0 0, .string ⟨#[]⟩, .int .i64 0, .int .i64 0, .string ⟨#[]⟩, .string ⟨#[]⟩, .slice none 0 0, .string ⟨#[]⟩] 34)).setRow w2.heap.size cs).heap[w2.heap.size]? = some (.cells cs 34 (0, 0)) := setRow_heap _ _ _ _ _ _ hb7; clear hz2 hg2)
    | (refine wpList_buildTo rfl 34 _ rfl _ rfl #[.string ⟨#[]⟩, .string ⟨#[]⟩, .string ⟨#[]⟩, .slice none 0 0, .slice none 0 0, .string ⟨#[]⟩, .slice none 0 0, .slice none 0 0, .string ⟨#[]⟩, .int .i64 0, .int .i64 0, .string ⟨#[]⟩, .string ⟨#[]⟩, .slice none 0 0, .slice none 0 0, .slice none 0 0, .string ⟨#[]⟩, .int .i64 0, .int .i64 0, .string ⟨#[]⟩, .string ⟨#[]⟩, .slice none 0 0, .string ⟨#[]⟩] (by as_aux_lemma => kernel_rfl) ?_)
    | (refine wpList_store_row rfl 34 (.tmp 7) (.tmp 20) rfl w2.heap.size cs rfl rfl 34 _ hb7 (by rw [h23]; exact stSize) (by rw [h23]; rfl) h1 ?_)
    | (refine wpList_store_row rfl 34 (.tmp 2) (.tmp 39) rfl w.heap.size #[.string ⟨#[]⟩, .string ⟨#[]⟩, .string ⟨#[]⟩, .slice none 0 0, .slice none 0 0, .string ⟨#[]⟩, .slice none 0 0, .slice none 0 0, .string ⟨#[]⟩, .int .i64 0, .int .i64 0, .string ⟨#[]⟩, .string ⟨#[]⟩, .slice none 0 0, .slice none 0 0, .slice none 0 0, .string ⟨#[]⟩, .int .i64 0, .int .i64 0, .string ⟨#[]⟩, .string ⟨#[]⟩, .slice none 0 0, .string ⟨#[]⟩] rfl rfl 34 _ hbw stSize rfl (rt_one _ _ _) ?_))
  refine bodyPost_ret (results_row_tmp rfl _ _ w.heap.size 34 #[.string ⟨#[]⟩, .string ⟨#[]⟩, .string ⟨#[]⟩, .slice none 0 0, .slice none 0 0, .string ⟨#[]⟩, .slice none 0 0, .slice none 0 0, .string ⟨#[]⟩, .int .i64 0, .int .i64 0, .string ⟨#[]⟩, .string ⟨#[]⟩, .slice none 0 0, .slice none 0 0, .slice none 0 0, .string ⟨#[]⟩, .int .i64 0, .int .i64 0, .string ⟨#[]⟩, .string ⟨#[]⟩, .slice none 0 0, .string ⟨#[]⟩] (0, 0) _ rfl (setRow_heap _ _ _ _ _ _ hbw) Tryz.underlying34 rfl stSize _ rfl) rfl ⟨rfl, below_row (below_row (HB2.out.alloc HB2.out.size _) _ HB2.out.size) _ (Nat.le_refl _)⟩

set_option maxRecDepth 100000 in
set_option maxHeartbeats 4000000 in
theorem sparse_done (s : ByteArray) (w : World) (hs : s.size ≤ 100000) (hl : LibE w) (ts : List Tk) (hc : cutR s.data.toList = some ts) (cs : Array Value) (at2 : Nat) (h1 : cs.all (·.oneCell') = true) (h23 : cs.size = 23)
    (hst : ∀ (g : Nat) (A : Option Addr) (cap : Nat) (W : World), Sz W g A cap (ts.map tnOf) 0 false → Calls Tryz.prog 18 #[.pointer (some ⟨g, 0, none⟩)] W fun e w' => e = .returned (.agg cs) ∧ Sz w' g A cap (ts.map tnOf) at2 false ∧ W.grownBy w' (some g)) (hat : at2 = ts.length) (hm : ∀ W : World, LibE W → Calls Tryz.prog 19 #[.agg cs] W fun e w' => e = .returned (.bool true) ∧ Below W.heap.size W w') :
    Calls Tryz.prog 7 #[.string s] w fun e w' => e = .returned (.tuple #[.agg cs, .int .i64 0]) ∧ Below w.heap.size w w' := by
  have HL := Lib.hid hl
  have HC := Lib.hid hc
  have HST := Lib.hid hst
  have HM := Lib.hid hm
  have hnl : ¬ at2 < ts.length := by omega
  clear hl hc hst hm hat
  go_enter Tryz.func7, Tryz.ntmps7
  go_wp2_with (first
    | (go_at_call 17; (with_reducible refine (cut_ok' s _ hs (HL.out.keep ((Below.refl w.heap.size w).alloc (Nat.le_refl _) _) (Nat.le_refl _)) ts HC.out ts.length rfl).mono ?_); rintro e w1 ⟨A, cap, rfl, ht, hb1⟩; have HT := Lib.hid (Sz.start (cap := cap) ht.out (HL.out.keep (((Below.refl w.heap.size w).alloc (Nat.le_refl _) _).trans (hb1.mono (by simp))) (Nat.le_refl _))); have HB1 : Hid (Below w.heap.size w (w1.alloc (.cells #[.slice A ts.length cap, .int .i64 0, .bool false] 60))) := ((((Below.refl _ _).alloc (Nat.le_refl _) _).trans (hb1.mono (by simp))).alloc (by have := hb1.size; simp at this; omega) _); have HQ1 : Hid ((w1.alloc (.cells #[.slice A ts.length cap, .int .i64 0, .bool false] 60)).heap[w.heap.size]? = some (.cells #[.string ⟨#[]⟩, .string ⟨#[]⟩, .string ⟨#[]⟩, .slice none 0 0, .slice none 0 0, .string ⟨#[]⟩, .slice none 0 0, .slice none 0 0, .string ⟨#[]⟩, .int .i64 0, .int .i64 0, .string ⟨#[]⟩, .string ⟨#[]⟩, .slice none 0 0, .slice none 0 0, .slice none 0 0, .string ⟨#[]⟩, .int .i64 0, .int .i64 0, .string ⟨#[]⟩, .string ⟨#[]⟩, .slice none 0 0, .string ⟨#[]⟩] 34 (0, 0))) := (Below.heap_alloc _ _ _ (by have := hb1.size; simp at this; omega)).trans ((hb1.block _ (by simp)).trans (alloc_at rfl _)); have hq1 : w.heap.size < w1.heap.size := (by have := hb1.size; simp at this; omega); clear ht hb1)
    | (go_at_call 18; (with_reducible refine (HST.out w1.heap.size A cap _ HT.out).mono ?_); rintro e w2 ⟨rfl, hz2, hg2⟩; have HS3 : Hid (Sz ((w2.alloc (.cells #[.string ⟨#[]⟩, .string ⟨#[]⟩, .string ⟨#[]⟩, .slice none 0 0, .slice none 0 0, .string ⟨#[]⟩, .slice none 0 0, .slice none 0 0, .string ⟨#[]⟩, .int .i64 0, .int .i64 0, .string ⟨#[]⟩, .string ⟨#[]⟩, .slice none 0 0, .slice none 0 0, .slice none 0 0, .string ⟨#[]⟩, .int .i64 0, .int .i64 0, .string ⟨#[]⟩, .string ⟨#[]⟩, .slice none 0 0, .string ⟨#[]⟩] 34)).setRow w2.heap.size cs) w1.heap.size A cap (ts.map tnOf) at2 false) := (hz2.alloc _).row _ hz2.lt; have d1 := HS3.out.c1; have d2 := HS3.out.c2; have df1 := HS3.out.fz 1; have df2 := HS3.out.fz 2; have HB2 : Hid (Below w.heap.size w w2) := HB1.out.trans ⟨hg2.os, hg2.tape, hg2.output, hg2.size, fun q hq => hg2.block q (by simp; omega) (fun e => by injection e with e; omega)⟩; have hb7 : (w2.alloc (.cells #[.string ⟨#[]⟩, .string ⟨#[]⟩, .string ⟨#[]⟩, .slice none 0 0, .slice none 0 0, .string ⟨#[]⟩, .slice none 0 0, .slice none 0 0, .string ⟨#[]⟩, .int .i64 0, .int .i64 0, .string ⟨#[]⟩, .string ⟨#[]⟩, .slice none 0 0, .slice none 0 0, .slice none 0 0, .string ⟨#[]⟩, .int .i64 0, .int .i64 0, .string ⟨#[]⟩, .string ⟨#[]⟩, .slice none 0 0, .string ⟨#[]⟩] 34)).heap[w2.heap.size]? = some (.cells #[.string ⟨#[]⟩, .string ⟨#[]⟩, .string ⟨#[]⟩, .slice none 0 0, .slice none 0 0, .string ⟨#[]⟩, .slice none 0 0, .slice none 0 0, .string ⟨#[]⟩, .int .i64 0, .int .i64 0, .string ⟨#[]⟩, .string ⟨#[]⟩, .slice none 0 0, .slice none 0 0, .slice none 0 0, .string ⟨#[]⟩, .int .i64 0, .int .i64 0, .string ⟨#[]⟩, .string ⟨#[]⟩, .slice none 0 0, .string ⟨#[]⟩] 34 (0, 0)) := alloc_at rfl _; have hy2 : w1.heap.size < w2.heap.size := hz2.lt; have hbw : ((w2.alloc (.cells #[.string ⟨#[]⟩, .string ⟨#[]⟩, .string ⟨#[]⟩, .slice none 0 0, .slice none 0 0, .string ⟨#[]⟩, .slice none 0 0, .slice none 0 0, .string ⟨#[]⟩, .int .i64 0, .int .i64 0, .string ⟨#[]⟩, .string ⟨#[]⟩, .slice none 0 0, .slice none 0 0, .slice none 0 0, .string ⟨#[]⟩, .int .i64 0, .int .i64 0, .string ⟨#[]⟩, .string ⟨#[]⟩, .slice none 0 0, .string ⟨#[]⟩] 34)).setRow w2.heap.size cs).heap[w.heap.size]? = some (.cells #[.string ⟨#[]⟩, .string ⟨#[]⟩, .string ⟨#[]⟩, .slice none 0 0, .slice none 0 0, .string ⟨#[]⟩, .slice none 0 0, .slice none 0 0, .string ⟨#[]⟩, .int .i64 0, .int .i64 0, .string ⟨#[]⟩, .string ⟨#[]⟩, .slice none 0 0, .slice none 0 0, .slice none 0 0, .string ⟨#[]⟩, .int .i64 0, .int .i64 0, .string ⟨#[]⟩, .string ⟨#[]⟩, .slice none 0 0, .string ⟨#[]⟩] 34 (0, 0)) := (setRow_other _ _ _ _ (by omega)).trans ((Below.heap_alloc _ _ _ (by omega)).trans ((hg2.block _ (by simp; omega) (fun e => by injection e with e; omega)).trans HQ1.out)); have hb8 : ((w2.alloc (.cells #[.string ⟨#[]⟩, .string ⟨#[]⟩, .string ⟨#[]⟩, .slice none 0 0, .slice none 0 0, .string ⟨#[]⟩, .slice none 0 0, .slice none 0 0, .string ⟨#[]⟩, .int .i64 0, .int .i64 0, .string ⟨#[]⟩, .string ⟨#[]⟩, .slice none 0 0, .slice none 0 0, .slice none 0 0, .string ⟨#[]⟩, .int .i64 0, .int .i64 0, .string ⟨#[]⟩, .string ⟨#[]⟩, .slice none 0 0, .string ⟨#[]⟩] 34)).setRow w2.heap.size cs).heap[w2.heap.size]? = some (.cells cs 34 (0, 0)) := setRow_heap _ _ _ _ _ _ hb7; clear hz2 hg2)
    | (refine wpList_buildTo rfl 34 _ rfl _ rfl #[.string ⟨#[]⟩, .string ⟨#[]⟩, .string ⟨#[]⟩, .slice none 0 0, .slice none 0 0, .string ⟨#[]⟩, .slice none 0 0, .slice none 0 0, .string ⟨#[]⟩, .int .i64 0, .int .i64 0, .string ⟨#[]⟩, .string ⟨#[]⟩, .slice none 0 0, .slice none 0 0, .slice none 0 0, .string ⟨#[]⟩, .int .i64 0, .int .i64 0, .string ⟨#[]⟩, .string ⟨#[]⟩, .slice none 0 0, .string ⟨#[]⟩] (by as_aux_lemma => kernel_rfl) ?_)
    | (refine wpList_store_row rfl 34 (.tmp 7) (.tmp 20) rfl w2.heap.size cs rfl rfl 34 _ hb7 (by rw [h23]; exact stSize) (by rw [h23]; rfl) h1 ?_)
    | (refine wpList_load_row_on rfl 34 (.tmp 7) rfl w2.heap.size rfl 34 cs (0, 0) _ hb8 Tryz.underlying34 rfl (by rw [h23]; exact stSize) ?_)
    | (go_at_call 19; (with_reducible refine (HM.out ((w2.alloc (.cells #[.string ⟨#[]⟩, .string ⟨#[]⟩, .string ⟨#[]⟩, .slice none 0 0, .slice none 0 0, .string ⟨#[]⟩, .slice none 0 0, .slice none 0 0, .string ⟨#[]⟩, .int .i64 0, .int .i64 0, .string ⟨#[]⟩, .string ⟨#[]⟩, .slice none 0 0, .slice none 0 0, .slice none 0 0, .string ⟨#[]⟩, .int .i64 0, .int .i64 0, .string ⟨#[]⟩, .string ⟨#[]⟩, .slice none 0 0, .string ⟨#[]⟩] 34)).setRow w2.heap.size cs) HS3.out.libE).mono ?_); rintro e w3 ⟨rfl, hb3⟩; have HB3 : Hid (Below w.heap.size w w3) := (below_row (HB2.out.alloc HB2.out.size _) _ HB2.out.size).trans (hb3.mono (by have := HB2.out.size; simp; omega)); have hbx : w3.heap[w.heap.size]? = some (.cells #[.string ⟨#[]⟩, .string ⟨#[]⟩, .string ⟨#[]⟩, .slice none 0 0, .slice none 0 0, .string ⟨#[]⟩, .slice none 0 0, .slice none 0 0, .string ⟨#[]⟩, .int .i64 0, .int .i64 0, .string ⟨#[]⟩, .string ⟨#[]⟩, .slice none 0 0, .slice none 0 0, .slice none 0 0, .string ⟨#[]⟩, .int .i64 0, .int .i64 0, .string ⟨#[]⟩, .string ⟨#[]⟩, .slice none 0 0, .string ⟨#[]⟩] 34 (0, 0)) := (hb3.block _ (by simp; omega)).trans hbw; have hb9 : w3.heap[w2.heap.size]? = some (.cells cs 34 (0, 0)) := (hb3.block _ (by simp)).trans hb8; clear hb3)
    | (refine wpList_load_row rfl 34 (.tmp 7) rfl w2.heap.size rfl 34 cs (0, 0) _ hb9 Tryz.underlying34 rfl (by rw [h23]; exact stSize) ?_)
    | (refine wpList_store_row rfl 34 (.tmp 2) (.tmp 40) rfl w.heap.size cs rfl rfl 34 _ hbx (by rw [h23]; exact stSize) (by rw [h23]; rfl) h1 ?_))
  refine bodyPost_ret (results_row_tmp rfl _ _ w.heap.size 34 cs (0, 0) _ rfl (setRow_heap _ _ _ _ _ _ hbx) Tryz.underlying34 rfl (by rw [h23]; exact stSize) _ rfl) rfl ⟨rfl, below_row HB3.out _ (Nat.le_refl _)⟩

end Go.Proofs.YtlilnbcklplmfaaGreatDoor

/- The statement's parts: none at all are the same. -/
namespace Go.Proofs.YtlilnbcklplmfaaGreatDoor
open Go.RowKit Go.Lib

set_option maxRecDepth 100000 in
set_option maxHeartbeats 4000000 in
theorem eq_nil_s (w : World) : Calls Tryz.prog 191 #[.slice none 0 0, .slice none 0 0] w fun e w' => e = .returned (.bool true) ∧ Below w.heap.size w w' := by
  go_enter Tryz.func191, Tryz.ntmps191
  go_wp2_with (fail)
  refine wp_loop_once ?_
  go_wp2_with (fail)
  go_ret
  exact ⟨rfl, Below.refl _ _⟩
set_option maxRecDepth 100000 in
set_option maxHeartbeats 4000000 in
theorem eq_nil_c (w : World) : Calls Tryz.prog 192 #[.slice none 0 0, .slice none 0 0] w fun e w' => e = .returned (.bool true) ∧ Below w.heap.size w w' := by
  go_enter Tryz.func192, Tryz.ntmps192
  go_wp2_with (fail)
  refine wp_loop_once ?_
  go_wp2_with (fail)
  go_ret
  exact ⟨rfl, Below.refl _ _⟩
set_option maxRecDepth 100000 in
set_option maxHeartbeats 4000000 in
theorem eq_nil_r (w : World) : Calls Tryz.prog 193 #[.slice none 0 0, .slice none 0 0] w fun e w' => e = .returned (.bool true) ∧ Below w.heap.size w w' := by
  go_enter Tryz.func193, Tryz.ntmps193
  go_wp2_with (fail)
  refine wp_loop_once ?_
  go_wp2_with (fail)
  go_ret
  exact ⟨rfl, Below.refl _ _⟩
set_option maxRecDepth 100000 in
set_option maxHeartbeats 4000000 in
theorem eq_nil_v (w : World) : Calls Tryz.prog 194 #[.slice none 0 0, .slice none 0 0] w fun e w' => e = .returned (.bool true) ∧ Below w.heap.size w w' := by
  go_enter Tryz.func194, Tryz.ntmps194
  go_wp2_with (fail)
  refine wp_loop_once ?_
  go_wp2_with (fail)
  go_ret
  exact ⟨rfl, Below.refl _ _⟩
set_option maxRecDepth 100000 in
set_option maxHeartbeats 4000000 in
theorem eq_nil_t (w : World) : Calls Tryz.prog 195 #[.slice none 0 0, .slice none 0 0, .func (.func 196) #[] #[]] w fun e w' => e = .returned (.bool true) ∧ Below w.heap.size w w' := by
  go_enter Tryz.func195, Tryz.ntmps195
  go_wp2_with (fail)
  refine wp_loop_once ?_
  go_wp2_with (fail)
  go_ret
  exact ⟨rfl, Below.refl _ _⟩
set_option maxRecDepth 100000 in
set_option maxHeartbeats 4000000 in
theorem eq_nil_e (w : World) : Calls Tryz.prog 108 #[.slice none 0 0, .slice none 0 0, .func (.func 60) #[] #[]] w fun e w' => e = .returned (.bool true) ∧ Below w.heap.size w w' := by
  go_enter Tryz.func108, Tryz.ntmps108
  go_wp2_with (fail)
  refine wp_loop_once ?_
  go_wp2_with (fail)
  go_ret
  exact ⟨rfl, Below.refl _ _⟩
set_option maxRecDepth 100000 in
set_option maxHeartbeats 4000000 in
theorem same_nil (w : World) : Calls Tryz.prog 60 #[.agg #[.string ⟨#[]⟩, .int .i64 0, .int .i64 0, .string ⟨#[]⟩, .string ⟨#[]⟩, .slice none 0 0], .agg #[.string ⟨#[]⟩, .int .i64 0, .int .i64 0, .string ⟨#[]⟩, .string ⟨#[]⟩, .slice none 0 0]] w fun e w' => e = .returned (.bool true) ∧ Below w.heap.size w w' := by
  go_enter Tryz.func60, Tryz.ntmps60
  go_wp2_with (go_at_call 108; (with_reducible refine (eq_nil_e _).mono ?_); rintro e w1 ⟨rfl, hb1⟩; have HB1 := Lib.hid hb1; clear hb1)
  go_ret
  exact ⟨rfl, ((Below.refl _ _).alloc (Nat.le_refl _) _).trans (((Below.refl _ _).alloc (by simp) _).trans (HB1.out.mono (by simp; omega)))⟩
end Go.Proofs.YtlilnbcklplmfaaGreatDoor

/- The empty statement is the same as itself. -/
namespace Go.Proofs.YtlilnbcklplmfaaGreatDoor
open Go.RowKit Go.Lib

/-- Two empty statements in the two blocks behind w's. -/
structure Bx2 (w W : World) : Prop where
  lo : Below w.heap.size w W
  a : W.heap[w.heap.size]? = some (.cells #[.string ⟨#[]⟩, .string ⟨#[]⟩, .string ⟨#[]⟩, .slice none 0 0, .slice none 0 0, .string ⟨#[]⟩, .slice none 0 0, .slice none 0 0, .string ⟨#[]⟩, .int .i64 0, .int .i64 0, .string ⟨#[]⟩, .string ⟨#[]⟩, .slice none 0 0, .slice none 0 0, .slice none 0 0, .string ⟨#[]⟩, .int .i64 0, .int .i64 0, .string ⟨#[]⟩, .string ⟨#[]⟩, .slice none 0 0, .string ⟨#[]⟩] 34 (0, 0))
  b : W.heap[w.heap.size + 1]? = some (.cells #[.string ⟨#[]⟩, .string ⟨#[]⟩, .string ⟨#[]⟩, .slice none 0 0, .slice none 0 0, .string ⟨#[]⟩, .slice none 0 0, .slice none 0 0, .string ⟨#[]⟩, .int .i64 0, .int .i64 0, .string ⟨#[]⟩, .string ⟨#[]⟩, .slice none 0 0, .slice none 0 0, .slice none 0 0, .string ⟨#[]⟩, .int .i64 0, .int .i64 0, .string ⟨#[]⟩, .string ⟨#[]⟩, .slice none 0 0, .string ⟨#[]⟩] 34 (0, 0))
theorem Bx2.step {w W W' : World} (h : Bx2 w W) (hb : Below W.heap.size W W') : Bx2 w W' :=
  ⟨h.lo.trans (hb.mono h.lo.size), (hb.block _ (lt_of_block h.a)).trans h.a, (hb.block _ (lt_of_block h.b)).trans h.b⟩
theorem Bx2.ca {w W : World} (h : Bx2 w W) (j : Nat) : W.cell? ⟨w.heap.size, j, none⟩ = (#[.string ⟨#[]⟩, .string ⟨#[]⟩, .string ⟨#[]⟩, .slice none 0 0, .slice none 0 0, .string ⟨#[]⟩, .slice none 0 0, .slice none 0 0, .string ⟨#[]⟩, .int .i64 0, .int .i64 0, .string ⟨#[]⟩, .string ⟨#[]⟩, .slice none 0 0, .slice none 0 0, .slice none 0 0, .string ⟨#[]⟩, .int .i64 0, .int .i64 0, .string ⟨#[]⟩, .string ⟨#[]⟩, .slice none 0 0, .string ⟨#[]⟩] : Array Value)[j]? := Lib.cell_of_heap h.a j
theorem Bx2.cb {w W : World} (h : Bx2 w W) (j : Nat) : W.cell? ⟨w.heap.size + 1, j, none⟩ = (#[.string ⟨#[]⟩, .string ⟨#[]⟩, .string ⟨#[]⟩, .slice none 0 0, .slice none 0 0, .string ⟨#[]⟩, .slice none 0 0, .slice none 0 0, .string ⟨#[]⟩, .int .i64 0, .int .i64 0, .string ⟨#[]⟩, .string ⟨#[]⟩, .slice none 0 0, .slice none 0 0, .slice none 0 0, .string ⟨#[]⟩, .int .i64 0, .int .i64 0, .string ⟨#[]⟩, .string ⟨#[]⟩, .slice none 0 0, .string ⟨#[]⟩] : Array Value)[j]? := Lib.cell_of_heap h.b j
theorem Bx2.start (w : World) : Bx2 w ((w.alloc (.cells #[.string ⟨#[]⟩, .string ⟨#[]⟩, .string ⟨#[]⟩, .slice none 0 0, .slice none 0 0, .string ⟨#[]⟩, .slice none 0 0, .slice none 0 0, .string ⟨#[]⟩, .int .i64 0, .int .i64 0, .string ⟨#[]⟩, .string ⟨#[]⟩, .slice none 0 0, .slice none 0 0, .slice none 0 0, .string ⟨#[]⟩, .int .i64 0, .int .i64 0, .string ⟨#[]⟩, .string ⟨#[]⟩, .slice none 0 0, .string ⟨#[]⟩] 34)).alloc (.cells #[.string ⟨#[]⟩, .string ⟨#[]⟩, .string ⟨#[]⟩, .slice none 0 0, .slice none 0 0, .string ⟨#[]⟩, .slice none 0 0, .slice none 0 0, .string ⟨#[]⟩, .int .i64 0, .int .i64 0, .string ⟨#[]⟩, .string ⟨#[]⟩, .slice none 0 0, .slice none 0 0, .slice none 0 0, .string ⟨#[]⟩, .int .i64 0, .int .i64 0, .string ⟨#[]⟩, .string ⟨#[]⟩, .slice none 0 0, .string ⟨#[]⟩] 34)) :=
  ⟨((Below.refl _ _).alloc (Nat.le_refl _) _).alloc (by simp) _, (Below.heap_alloc _ _ _ (by simp)).trans (alloc_at rfl _), alloc_at (by simp) _⟩

set_option maxRecDepth 100000 in
set_option maxHeartbeats 4000000 in
theorem ssame_nil (w : World) : Calls Tryz.prog 147 #[.agg #[.string ⟨#[]⟩, .string ⟨#[]⟩, .string ⟨#[]⟩, .slice none 0 0, .slice none 0 0, .string ⟨#[]⟩, .slice none 0 0, .slice none 0 0, .string ⟨#[]⟩, .int .i64 0, .int .i64 0, .string ⟨#[]⟩, .string ⟨#[]⟩, .slice none 0 0, .slice none 0 0, .slice none 0 0, .string ⟨#[]⟩, .int .i64 0, .int .i64 0, .string ⟨#[]⟩, .string ⟨#[]⟩, .slice none 0 0, .string ⟨#[]⟩], .agg #[.string ⟨#[]⟩, .string ⟨#[]⟩, .string ⟨#[]⟩, .slice none 0 0, .slice none 0 0, .string ⟨#[]⟩, .slice none 0 0, .slice none 0 0, .string ⟨#[]⟩, .int .i64 0, .int .i64 0, .string ⟨#[]⟩, .string ⟨#[]⟩, .slice none 0 0, .slice none 0 0, .slice none 0 0, .string ⟨#[]⟩, .int .i64 0, .int .i64 0, .string ⟨#[]⟩, .string ⟨#[]⟩, .slice none 0 0, .string ⟨#[]⟩]] w fun e w' => e = .returned (.bool true) ∧ Below w.heap.size w w' := by
  have H0 := Lib.hid (Bx2.start w)
  go_enter Tryz.func147, Tryz.ntmps147
  go_wp2_with (first
    | (go_at_call 191; (with_reducible refine (eq_nil_s _).mono ?_); rintro e w1 ⟨rfl, hb1⟩; have H0 := Lib.hid (H0.out.step hb1); have a4 : w1.cell? ⟨w.heap.size, 4, none⟩ = some (.slice none 0 0) := H0.out.ca 4; have b4 : w1.cell? ⟨w.heap.size + 1, 4, none⟩ = some (.slice none 0 0) := H0.out.cb 4; have a7 : w1.cell? ⟨w.heap.size, 7, none⟩ = some (.slice none 0 0) := H0.out.ca 7; have b7 : w1.cell? ⟨w.heap.size + 1, 7, none⟩ = some (.slice none 0 0) := H0.out.cb 7; clear hb1)
    | (go_at_call 192; (with_reducible refine (eq_nil_c _).mono ?_); rintro e w1 ⟨rfl, hb1⟩; have H0 := Lib.hid (H0.out.step hb1); have a6 : w1.cell? ⟨w.heap.size, 6, none⟩ = some (.slice none 0 0) := H0.out.ca 6; have b6 : w1.cell? ⟨w.heap.size + 1, 6, none⟩ = some (.slice none 0 0) := H0.out.cb 6; clear hb1)
    | (go_at_call 193; (with_reducible refine (eq_nil_r _).mono ?_); rintro e w1 ⟨rfl, hb1⟩; have H0 := Lib.hid (H0.out.step hb1); have a14 : w1.cell? ⟨w.heap.size, 14, none⟩ = some (.slice none 0 0) := H0.out.ca 14; have b14 : w1.cell? ⟨w.heap.size + 1, 14, none⟩ = some (.slice none 0 0) := H0.out.cb 14; clear hb1)
    | (go_at_call 194; (with_reducible refine (eq_nil_v _).mono ?_); rintro e w1 ⟨rfl, hb1⟩; have H0 := Lib.hid (H0.out.step hb1); have a15 : w1.cell? ⟨w.heap.size, 15, none⟩ = some (.slice none 0 0) := H0.out.ca 15; have b15 : w1.cell? ⟨w.heap.size + 1, 15, none⟩ = some (.slice none 0 0) := H0.out.cb 15; clear hb1)
    | (go_at_call 195; (with_reducible refine (eq_nil_t _).mono ?_); rintro e w1 ⟨rfl, hb1⟩; have H0 := Lib.hid (H0.out.step hb1); have a8 : w1.cell? ⟨w.heap.size, 8, none⟩ = some (.string ⟨#[]⟩) := H0.out.ca 8; have b8 : w1.cell? ⟨w.heap.size + 1, 8, none⟩ = some (.string ⟨#[]⟩) := H0.out.cb 8; have a9 : w1.cell? ⟨w.heap.size, 9, none⟩ = some (.int .i64 0) := H0.out.ca 9; have b9 : w1.cell? ⟨w.heap.size + 1, 9, none⟩ = some (.int .i64 0) := H0.out.cb 9; have a10 : w1.cell? ⟨w.heap.size, 10, none⟩ = some (.int .i64 0) := H0.out.ca 10; have b10 : w1.cell? ⟨w.heap.size + 1, 10, none⟩ = some (.int .i64 0) := H0.out.cb 10; have a11 : w1.cell? ⟨w.heap.size, 11, none⟩ = some (.string ⟨#[]⟩) := H0.out.ca 11; have b11 : w1.cell? ⟨w.heap.size + 1, 11, none⟩ = some (.string ⟨#[]⟩) := H0.out.cb 11; have a12 : w1.cell? ⟨w.heap.size, 12, none⟩ = some (.string ⟨#[]⟩) := H0.out.ca 12; have b12 : w1.cell? ⟨w.heap.size + 1, 12, none⟩ = some (.string ⟨#[]⟩) := H0.out.cb 12; have a13 : w1.cell? ⟨w.heap.size, 13, none⟩ = some (.slice none 0 0) := H0.out.ca 13; have b13 : w1.cell? ⟨w.heap.size + 1, 13, none⟩ = some (.slice none 0 0) := H0.out.cb 13; clear hb1)
    | (go_at_call 60; (with_reducible refine (same_nil _).mono ?_); rintro e w1 ⟨rfl, hb1⟩; have H0 := Lib.hid (H0.out.step hb1); have a16 : w1.cell? ⟨w.heap.size, 16, none⟩ = some (.string ⟨#[]⟩) := H0.out.ca 16; have b16 : w1.cell? ⟨w.heap.size + 1, 16, none⟩ = some (.string ⟨#[]⟩) := H0.out.cb 16; have a17 : w1.cell? ⟨w.heap.size, 17, none⟩ = some (.int .i64 0) := H0.out.ca 17; have b17 : w1.cell? ⟨w.heap.size + 1, 17, none⟩ = some (.int .i64 0) := H0.out.cb 17; have a18 : w1.cell? ⟨w.heap.size, 18, none⟩ = some (.int .i64 0) := H0.out.ca 18; have b18 : w1.cell? ⟨w.heap.size + 1, 18, none⟩ = some (.int .i64 0) := H0.out.cb 18; have a19 : w1.cell? ⟨w.heap.size, 19, none⟩ = some (.string ⟨#[]⟩) := H0.out.ca 19; have b19 : w1.cell? ⟨w.heap.size + 1, 19, none⟩ = some (.string ⟨#[]⟩) := H0.out.cb 19; have a20 : w1.cell? ⟨w.heap.size, 20, none⟩ = some (.string ⟨#[]⟩) := H0.out.ca 20; have b20 : w1.cell? ⟨w.heap.size + 1, 20, none⟩ = some (.string ⟨#[]⟩) := H0.out.cb 20; have a21 : w1.cell? ⟨w.heap.size, 21, none⟩ = some (.slice none 0 0) := H0.out.ca 21; have b21 : w1.cell? ⟨w.heap.size + 1, 21, none⟩ = some (.slice none 0 0) := H0.out.cb 21; clear hb1))
  go_ret
  exact ⟨rfl, H0.out.lo⟩
end Go.Proofs.YtlilnbcklplmfaaGreatDoor

/- A right's parts and its text. -/
namespace Go.Proofs.YtlilnbcklplmfaaGreatDoor
open Go.RowKit Go.Lib

set_option maxRecDepth 100000 in
set_option maxHeartbeats 4000000 in
theorem written_read (tb ro : ByteArray) (w : World) (h1 : tb.size ≤ 1000) (h2 : ro.size ≤ 1000) : Calls Tryz.prog 103 #[.agg #[.string ⟨#[114, 101, 97, 100]⟩, .string tb, .string ⟨#[]⟩, .slice none 0 0, .slice none 0 0, .string ⟨#[]⟩, .slice none 0 0, .slice none 0 0, .string ⟨#[]⟩, .int .i64 0, .int .i64 0, .string ⟨#[]⟩, .string ⟨#[]⟩, .slice none 0 0, .slice none 0 0, .slice none 0 0, .string ⟨#[]⟩, .int .i64 0, .int .i64 0, .string ⟨#[]⟩, .string ⟨#[]⟩, .slice none 0 0, .string ro]] w fun e w' => e = .returned (.string (⟨#[71, 82, 65, 78, 84, 32, 82, 69, 65, 68, 32, 79, 78, 32]⟩ ++ tb ++ ⟨#[32, 84, 79, 32]⟩ ++ ro)) ∧ Below w.heap.size w w' := by
  go_enter Tryz.func103, Tryz.ntmps103
  go_wp2_with (fail)
  go_ret
  exact ⟨rfl, (Below.refl _ _).alloc (Nat.le_refl _) _⟩
set_option maxRecDepth 100000 in
set_option maxHeartbeats 4000000 in
theorem filled_read (tb ro : ByteArray) (w : World) (h2 : ro.size ≤ 1000) : Calls Tryz.prog 146 #[.agg #[.string ⟨#[114, 101, 97, 100]⟩, .string tb, .string ⟨#[]⟩, .slice none 0 0, .slice none 0 0, .string ⟨#[]⟩, .slice none 0 0, .slice none 0 0, .string ⟨#[]⟩, .int .i64 0, .int .i64 0, .string ⟨#[]⟩, .string ⟨#[]⟩, .slice none 0 0, .slice none 0 0, .slice none 0 0, .string ⟨#[]⟩, .int .i64 0, .int .i64 0, .string ⟨#[]⟩, .string ⟨#[]⟩, .slice none 0 0, .string ro]] w fun e w' => e = .returned (.bool (nmB ro)) ∧ Below w.heap.size w w' := by
  go_enter Tryz.func146, Tryz.ntmps146
  go_wp2_with (go_at_call 137; (with_reducible refine (named_any ro _ (by omega)).mono ?_); rintro e w1 ⟨rfl, hb1⟩; have HB1 := Lib.hid hb1; clear hb1)
  go_ret
  exact ⟨rfl, ((Below.refl _ _).alloc (Nat.le_refl _) _).trans (HB1.out.mono (by simp))⟩
set_option maxRecDepth 100000 in
set_option maxHeartbeats 4000000 in
theorem written_write (tb ro : ByteArray) (w : World) (h1 : tb.size ≤ 1000) (h2 : ro.size ≤ 1000) : Calls Tryz.prog 103 #[.agg #[.string ⟨#[119, 114, 105, 116, 101]⟩, .string tb, .string ⟨#[]⟩, .slice none 0 0, .slice none 0 0, .string ⟨#[]⟩, .slice none 0 0, .slice none 0 0, .string ⟨#[]⟩, .int .i64 0, .int .i64 0, .string ⟨#[]⟩, .string ⟨#[]⟩, .slice none 0 0, .slice none 0 0, .slice none 0 0, .string ⟨#[]⟩, .int .i64 0, .int .i64 0, .string ⟨#[]⟩, .string ⟨#[]⟩, .slice none 0 0, .string ro]] w fun e w' => e = .returned (.string (⟨#[71, 82, 65, 78, 84, 32, 87, 82, 73, 84, 69, 32, 79, 78, 32]⟩ ++ tb ++ ⟨#[32, 84, 79, 32]⟩ ++ ro)) ∧ Below w.heap.size w w' := by
  go_enter Tryz.func103, Tryz.ntmps103
  go_wp2_with (fail)
  go_ret
  exact ⟨rfl, (Below.refl _ _).alloc (Nat.le_refl _) _⟩
set_option maxRecDepth 100000 in
set_option maxHeartbeats 4000000 in
theorem filled_write (tb ro : ByteArray) (w : World) (h2 : ro.size ≤ 1000) : Calls Tryz.prog 146 #[.agg #[.string ⟨#[119, 114, 105, 116, 101]⟩, .string tb, .string ⟨#[]⟩, .slice none 0 0, .slice none 0 0, .string ⟨#[]⟩, .slice none 0 0, .slice none 0 0, .string ⟨#[]⟩, .int .i64 0, .int .i64 0, .string ⟨#[]⟩, .string ⟨#[]⟩, .slice none 0 0, .slice none 0 0, .slice none 0 0, .string ⟨#[]⟩, .int .i64 0, .int .i64 0, .string ⟨#[]⟩, .string ⟨#[]⟩, .slice none 0 0, .string ro]] w fun e w' => e = .returned (.bool (nmB ro)) ∧ Below w.heap.size w w' := by
  go_enter Tryz.func146, Tryz.ntmps146
  go_wp2_with (go_at_call 137; (with_reducible refine (named_any ro _ (by omega)).mono ?_); rintro e w1 ⟨rfl, hb1⟩; have HB1 := Lib.hid hb1; clear hb1)
  go_ret
  exact ⟨rfl, ((Below.refl _ _).alloc (Nat.le_refl _) _).trans (HB1.out.mono (by simp))⟩
set_option maxRecDepth 100000 in
set_option maxHeartbeats 4000000 in
theorem written_unread (tb ro : ByteArray) (w : World) (h1 : tb.size ≤ 1000) (h2 : ro.size ≤ 1000) : Calls Tryz.prog 103 #[.agg #[.string ⟨#[117, 110, 114, 101, 97, 100]⟩, .string tb, .string ⟨#[]⟩, .slice none 0 0, .slice none 0 0, .string ⟨#[]⟩, .slice none 0 0, .slice none 0 0, .string ⟨#[]⟩, .int .i64 0, .int .i64 0, .string ⟨#[]⟩, .string ⟨#[]⟩, .slice none 0 0, .slice none 0 0, .slice none 0 0, .string ⟨#[]⟩, .int .i64 0, .int .i64 0, .string ⟨#[]⟩, .string ⟨#[]⟩, .slice none 0 0, .string ro]] w fun e w' => e = .returned (.string (⟨#[82, 69, 86, 79, 75, 69, 32, 82, 69, 65, 68, 32, 79, 78, 32]⟩ ++ tb ++ ⟨#[32, 70, 82, 79, 77, 32]⟩ ++ ro)) ∧ Below w.heap.size w w' := by
  go_enter Tryz.func103, Tryz.ntmps103
  go_wp2_with (fail)
  go_ret
  exact ⟨rfl, (Below.refl _ _).alloc (Nat.le_refl _) _⟩
set_option maxRecDepth 100000 in
set_option maxHeartbeats 4000000 in
theorem filled_unread (tb ro : ByteArray) (w : World) (h2 : ro.size ≤ 1000) : Calls Tryz.prog 146 #[.agg #[.string ⟨#[117, 110, 114, 101, 97, 100]⟩, .string tb, .string ⟨#[]⟩, .slice none 0 0, .slice none 0 0, .string ⟨#[]⟩, .slice none 0 0, .slice none 0 0, .string ⟨#[]⟩, .int .i64 0, .int .i64 0, .string ⟨#[]⟩, .string ⟨#[]⟩, .slice none 0 0, .slice none 0 0, .slice none 0 0, .string ⟨#[]⟩, .int .i64 0, .int .i64 0, .string ⟨#[]⟩, .string ⟨#[]⟩, .slice none 0 0, .string ro]] w fun e w' => e = .returned (.bool (nmB ro)) ∧ Below w.heap.size w w' := by
  go_enter Tryz.func146, Tryz.ntmps146
  go_wp2_with (go_at_call 137; (with_reducible refine (named_any ro _ (by omega)).mono ?_); rintro e w1 ⟨rfl, hb1⟩; have HB1 := Lib.hid hb1; clear hb1)
  go_ret
  exact ⟨rfl, ((Below.refl _ _).alloc (Nat.le_refl _) _).trans (HB1.out.mono (by simp))⟩
set_option maxRecDepth 100000 in
set_option maxHeartbeats 4000000 in
theorem written_unwrite (tb ro : ByteArray) (w : World) (h1 : tb.size ≤ 1000) (h2 : ro.size ≤ 1000) : Calls Tryz.prog 103 #[.agg #[.string ⟨#[117, 110, 119, 114, 105, 116, 101]⟩, .string tb, .string ⟨#[]⟩, .slice none 0 0, .slice none 0 0, .string ⟨#[]⟩, .slice none 0 0, .slice none 0 0, .string ⟨#[]⟩, .int .i64 0, .int .i64 0, .string ⟨#[]⟩, .string ⟨#[]⟩, .slice none 0 0, .slice none 0 0, .slice none 0 0, .string ⟨#[]⟩, .int .i64 0, .int .i64 0, .string ⟨#[]⟩, .string ⟨#[]⟩, .slice none 0 0, .string ro]] w fun e w' => e = .returned (.string (⟨#[82, 69, 86, 79, 75, 69, 32, 87, 82, 73, 84, 69, 32, 79, 78, 32]⟩ ++ tb ++ ⟨#[32, 70, 82, 79, 77, 32]⟩ ++ ro)) ∧ Below w.heap.size w w' := by
  go_enter Tryz.func103, Tryz.ntmps103
  go_wp2_with (fail)
  go_ret
  exact ⟨rfl, (Below.refl _ _).alloc (Nat.le_refl _) _⟩
set_option maxRecDepth 100000 in
set_option maxHeartbeats 4000000 in
theorem filled_unwrite (tb ro : ByteArray) (w : World) (h2 : ro.size ≤ 1000) : Calls Tryz.prog 146 #[.agg #[.string ⟨#[117, 110, 119, 114, 105, 116, 101]⟩, .string tb, .string ⟨#[]⟩, .slice none 0 0, .slice none 0 0, .string ⟨#[]⟩, .slice none 0 0, .slice none 0 0, .string ⟨#[]⟩, .int .i64 0, .int .i64 0, .string ⟨#[]⟩, .string ⟨#[]⟩, .slice none 0 0, .slice none 0 0, .slice none 0 0, .string ⟨#[]⟩, .int .i64 0, .int .i64 0, .string ⟨#[]⟩, .string ⟨#[]⟩, .slice none 0 0, .string ro]] w fun e w' => e = .returned (.bool (nmB ro)) ∧ Below w.heap.size w w' := by
  go_enter Tryz.func146, Tryz.ntmps146
  go_wp2_with (go_at_call 137; (with_reducible refine (named_any ro _ (by omega)).mono ?_); rintro e w1 ⟨rfl, hb1⟩; have HB1 := Lib.hid hb1; clear hb1)
  go_ret
  exact ⟨rfl, ((Below.refl _ _).alloc (Nat.le_refl _) _).trans (HB1.out.mono (by simp))⟩
end Go.Proofs.YtlilnbcklplmfaaGreatDoor
