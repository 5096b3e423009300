import Derived.Test.YtlilnbcklplmfaaGreatDoorW11
import Derived.Test.YtlilnbcklplmfaaGreatDoorW01
import Derived.Test.YtlilnbcklplmfaaGreatDoorW07

/- The statement parser: statements that hold memory of their own. -/
namespace Go.Proofs.YtlilnbcklplmfaaGreatDoor
open Go.RowKit Go.Lib

/-- What is said of a statement's cells, whose blocks lie from n on. -/
structure Kp (C : Nat → World → Array Value → Prop) : Prop where
  mono : ∀ {n m : Nat} {W : World} {cs : Array Value}, C n W cs → m ≤ n → C m W cs
  keep : ∀ {n : Nat} {W W' : World} {cs : Array Value}, C n W cs → (∀ b, n ≤ b → b < W.heap.size → W'.heap[b]? = W.heap[b]?) → C n W' cs
  one : ∀ {n : Nat} {W : World} {cs : Array Value}, C n W cs → cs.all (·.oneCell') = true
  size : ∀ {n : Nat} {W : World} {cs : Array Value}, C n W cs → cs.size = 23
section
variable {C : Nat → World → Array Value → Prop} {n : Nat} {W W' : World} {cs : Array Value}
theorem Kp.below (k : Kp C) (h : C n W cs) (hb : Below W.heap.size W W') : C n W' cs := k.keep h fun b _ hl => hb.block b hl
theorem Kp.alloc (k : Kp C) (h : C n W cs) (o : Obj) : C n (W.alloc o) cs := k.below h ((Below.refl _ _).alloc (Nat.le_refl _) o)
theorem Kp.row (k : Kp C) (h : C n W cs) {b : Nat} (hb : b < n) (x : Array Value) : C n (W.setRow b x) cs := k.keep h fun q hq _ => setRow_other _ _ _ _ (by omega)
end

set_option maxRecDepth 100000 in
set_option maxHeartbeats 4000000 in
theorem must_all (g : Nat) (A : Option Addr) (c : Nat) (l : List Tn) (at' : Nat) (failed : Bool) (b cap : Nat) (ws : List ByteArray) (w : World) (hz : Sz w g A c l at' failed) (hl : l.length ≤ 100000) (ha : at' ≤ 100000) (hb : b ≠ g) (hw : Wds w b ws) (hn : ws.length ≤ 1000) (hm : ∀ j, Here l at' failed ws j true) :
    Calls Tryz.prog 85 #[.pointer (some ⟨g, 0, none⟩), .slice (some ⟨b, 0, none⟩) ws.length cap] w fun e w' => e = .returned (.tuple #[]) ∧ Sz w' g A c l (at' + ws.length) failed ∧ w.grownBy w' (some g) := by
  have H := Lib.hid (stake_all g A c l at' failed b cap ws w hz hl ha hb hw hn hm)
  have hgl := hz.lt
  clear hz hl ha hw hm hn
  generalize ws.length = n at H ⊢
  go_enter Tryz.func85, Tryz.ntmps85
  go_wp2_with (go_at_call 136; refine H.out.mono ?_; rintro e w1 ⟨rfl, hz1, hg1⟩; have H1 := Lib.hid (And.intro hz1 hg1); clear hz1 hg1)
  go_end0
  exact ⟨rfl, H1.out.1, H1.out.2⟩

set_option maxRecDepth 100000 in
set_option maxHeartbeats 4000000 in
theorem onec_selectFrom (g : Nat) (A : Option Addr) (c : Nat) (l : List Tn) (at' : Nat) (failed : Bool) (C : Nat → World → Array Value → Prop) (hC : Kp C) (s : ByteArray) (r : Nat) (es : List (ByteArray × Value)) (at2 : Nat) (f2 : Bool) (w : World) (hz : Sz w g A c l at' failed) (hl : l.length ≤ 100000) (ha : at' ≤ 100000) (ht : Ny l at' failed ⟨1, s⟩)
    (hm : MapAt w r es) (hf : es.find? (fun y => s == y.1) = some (s, .func (.func 47) #[.pointer (some ⟨g, 0, none⟩)] #[]))
    (hr : ∀ W : World, Sz W g A c l (at' + 1) failed → w.heap.size < W.heap.size → Calls Tryz.prog 47 #[.pointer (some ⟨g, 0, none⟩)] W fun e w' => ∃ cs, e = .returned (.agg cs) ∧ C W.heap.size w' cs ∧ Sz w' g A c l at2 f2 ∧ W.grownBy w' (some g)) :
    Calls Tryz.prog 41 #[.pointer (some ⟨g, 0, none⟩), .map (some r)] w fun e w' => ∃ cs, e = .returned (.agg cs) ∧ C w.heap.size w' cs ∧ Sz w' g A c l at2 f2 ∧ w.grownBy w' (some g) := by
  have hgl := hz.lt
  have HZ := Lib.hid (And.intro hz ht)
  have HR := Lib.hid hr
  have HM := Lib.hid hm
  have HF := Lib.hid hf
  clear hz ht hr hm hf
  go_enter Tryz.func41, Tryz.ntmps41
  go_wp2_with (first
    | (go_at_call 84; (with_reducible refine (snext_any g A c l at' failed _ (HZ.out.1.alloc _) hl ⟨1, s⟩ HZ.out.2).mono ?_); rintro e w1 ⟨rfl, hb1⟩; have HB1 : Hid (Below w.heap.size w (w1.alloc (.cells #[.int .i64 1, .string s] 89))) := (((Below.refl _ _).alloc (Nat.le_refl _) _).trans (hb1.mono (by simp))).alloc (by have := hb1.size; simp at this; omega) _; have HM1 := Lib.hid (HM.out.below HB1.out); have HS1 := Lib.hid (HZ.out.1.below HB1.out); have d1 := HS1.out.c1; have df := HS1.out.fz 1; have dl := HS1.out.lt; have HQ1 : Hid ((w1.alloc (.cells #[.int .i64 1, .string s] 89)).heap[w.heap.size]? = some (.cells #[.string ⟨#[]⟩, .string ⟨#[]⟩, .string ⟨#[]⟩, .slice none 0 0, .slice none 0 0, .string ⟨#[]⟩, .slice none 0 0, .slice none 0 0, .string ⟨#[]⟩, .int .i64 0, .int .i64 0, .string ⟨#[]⟩, .string ⟨#[]⟩, .slice none 0 0, .slice none 0 0, .slice none 0 0, .string ⟨#[]⟩, .int .i64 0, .int .i64 0, .string ⟨#[]⟩, .string ⟨#[]⟩, .slice none 0 0, .string ⟨#[]⟩] 34 (0, 0))) := (Below.heap_alloc _ _ _ (by have := hb1.size; simp at this; omega)).trans ((hb1.block _ (by simp)).trans (alloc_at rfl _)); have hq1 : w.heap.size < w1.heap.size := (by have := hb1.size; simp at this; omega); have hne : ¬ w1.heap.size = g := (by omega); clear hb1)
    | (refine wpList_look_ok _ rfl _ _ 93 rfl 9 61 Tryz.underlying93 Tryz.underlying9 r es rfl HM1.out s rfl _ HF.out ?_)
    | (go_at_call 47; have hgo : Sz ((w1.alloc (.cells #[.int .i64 1, .string s] 89)).setCell ⟨g, 1, none⟩ (.int .i64 ((at' : Int) + 1))) g A c l (at' + 1) failed := HS1.out.goto (at' + 1); (with_reducible refine (HR.out _ hgo (by simp; omega)).mono ?_); rintro e w2 ⟨cs, rfl, hC2, hz2, hg2⟩; have h1 := hC.one hC2; have h23 := hC.size hC2; have HC2 : Hid (C (w.heap.size + 1) w2 cs) := hC.mono hC2 (by simp; omega); have hb2 : w2.heap[w.heap.size]? = some (.cells #[.string ⟨#[]⟩, .string ⟨#[]⟩, .string ⟨#[]⟩, .slice none 0 0, .slice none 0 0, .string ⟨#[]⟩, .slice none 0 0, .slice none 0 0, .string ⟨#[]⟩, .int .i64 0, .int .i64 0, .string ⟨#[]⟩, .string ⟨#[]⟩, .slice none 0 0, .slice none 0 0, .slice none 0 0, .string ⟨#[]⟩, .int .i64 0, .int .i64 0, .string ⟨#[]⟩, .string ⟨#[]⟩, .slice none 0 0, .string ⟨#[]⟩] 34 (0, 0)) := (hg2.block _ (by simp; omega) (fun e => by injection e with e; omega)).trans ((Below.heap_setCell _ _ _ _ (by show w.heap.size ≠ g; omega)).trans HQ1.out); have HZ2 := Lib.hid hz2; have HG2 : Hid (w.grownBy w2 (some g)) := grow_trans (grow_trans (grow_below HB1.out _) (grow_set _ _ _ _)) hg2; clear hz2 hg2 hC2)
    | (refine wpList_store_row rfl 34 (.tmp 4) (.tmp 36) rfl w.heap.size cs rfl rfl 34 _ hb2 (by rw [h23]; exact stSize) (by rw [h23]; rfl) h1 ?_))
  refine bodyPost_ret (results_cell_row rfl _ _ w.heap.size 34 cs (0, 0) _ rfl (setRow_heap _ _ _ _ _ _ hb2) Tryz.underlying34 rfl (by rw [h23]; exact stSize)) rfl ⟨cs, rfl, hC.mono (hC.row HC2.out (by omega) _) (by omega), HZ2.out.row _ hgl, grow_row _ HG2.out (Nat.le_refl _)⟩

set_option maxRecDepth 100000 in
set_option maxHeartbeats 4000000 in
theorem statementc_selectFrom (g : Nat) (A : Option Addr) (c : Nat) (l : List Tn) (at' : Nat) (failed : Bool) (C : Nat → World → Array Value → Prop) (hC : Kp C) (at2 : Nat) (f2 : Bool) (w : World) (hz : Sz w g A c l at' failed) (hl : l.length ≤ 100000) (ha : at' ≤ 100000) (ht : Ny l at' failed ⟨1, ⟨#[83, 69, 76, 69, 67, 84]⟩⟩)
    (hr : ∀ W : World, Sz W g A c l (at' + 1) failed → Calls Tryz.prog 47 #[.pointer (some ⟨g, 0, none⟩)] W fun e w' => ∃ cs, e = .returned (.agg cs) ∧ C W.heap.size w' cs ∧ Sz w' g A c l at2 f2 ∧ W.grownBy w' (some g)) :
    Calls Tryz.prog 18 #[.pointer (some ⟨g, 0, none⟩)] w fun e w' => ∃ cs, e = .returned (.agg cs) ∧ C w.heap.size w' cs ∧ Sz w' g A c l at2 f2 ∧ w.grownBy w' (some g) := by
  have hmm := @run_makeMap Tryz.prog
  have H0 := Lib.hid (Ms.start hz)
  have HT := Lib.hid ht
  have HR := Lib.hid hr
  have hlg := hz.lt
  clear hz ht hr
  go_enter Tryz.func18, Tryz.ntmps18
  go_wp2_with (with_reducible refine wpList_insert_new _ rfl _ _ _ 93 rfl 9 61 Tryz.underlying93 Tryz.underlying9 (w.heap.size + 1) [] rfl H0.out.map ⟨#[67, 82, 69, 65, 84, 69]⟩ _ rfl rfl ?n0 ?k0)
  case n0 => intro y hy; cases hy
  intro y0 hm0 hg0
  have H1 : Hid (Ms w g A c l at' failed [(⟨#[67, 82, 69, 65, 84, 69]⟩, .func (.func 42) #[.pointer (some ⟨g, 0, none⟩)] #[])] y0) := Lib.hid (H0.out.ins hm0 hg0)
  clear hm0 hg0 H0
  go_wp2_with (with_reducible refine wpList_insert_new _ rfl _ _ _ 93 rfl 9 61 Tryz.underlying93 Tryz.underlying9 (w.heap.size + 1) [(⟨#[67, 82, 69, 65, 84, 69]⟩, .func (.func 42) #[.pointer (some ⟨g, 0, none⟩)] #[])] rfl H1.out.map ⟨#[68, 82, 79, 80]⟩ _ rfl rfl ?n1 ?k1)
  case n1 => intro y hy; simp at hy; rcases hy with rfl <;> rfl
  intro y1 hm1 hg1
  have H2 : Hid (Ms w g A c l at' failed [(⟨#[67, 82, 69, 65, 84, 69]⟩, .func (.func 42) #[.pointer (some ⟨g, 0, none⟩)] #[]), (⟨#[68, 82, 79, 80]⟩, .func (.func 43) #[.pointer (some ⟨g, 0, none⟩)] #[])] y1) := Lib.hid (H1.out.ins hm1 hg1)
  clear hm1 hg1 H1
  go_wp2_with (with_reducible refine wpList_insert_new _ rfl _ _ _ 93 rfl 9 61 Tryz.underlying93 Tryz.underlying9 (w.heap.size + 1) [(⟨#[67, 82, 69, 65, 84, 69]⟩, .func (.func 42) #[.pointer (some ⟨g, 0, none⟩)] #[]), (⟨#[68, 82, 79, 80]⟩, .func (.func 43) #[.pointer (some ⟨g, 0, none⟩)] #[])] rfl H2.out.map ⟨#[73, 78, 83, 69, 82, 84]⟩ _ rfl rfl ?n2 ?k2)
  case n2 => intro y hy; simp at hy; rcases hy with rfl | rfl <;> rfl
  intro y2 hm2 hg2
  have H3 : Hid (Ms w g A c l at' failed [(⟨#[67, 82, 69, 65, 84, 69]⟩, .func (.func 42) #[.pointer (some ⟨g, 0, none⟩)] #[]), (⟨#[68, 82, 79, 80]⟩, .func (.func 43) #[.pointer (some ⟨g, 0, none⟩)] #[]), (⟨#[73, 78, 83, 69, 82, 84]⟩, .func (.func 44) #[.pointer (some ⟨g, 0, none⟩)] #[])] y2) := Lib.hid (H2.out.ins hm2 hg2)
  clear hm2 hg2 H2
  go_wp2_with (with_reducible refine wpList_insert_new _ rfl _ _ _ 93 rfl 9 61 Tryz.underlying93 Tryz.underlying9 (w.heap.size + 1) [(⟨#[67, 82, 69, 65, 84, 69]⟩, .func (.func 42) #[.pointer (some ⟨g, 0, none⟩)] #[]), (⟨#[68, 82, 79, 80]⟩, .func (.func 43) #[.pointer (some ⟨g, 0, none⟩)] #[]), (⟨#[73, 78, 83, 69, 82, 84]⟩, .func (.func 44) #[.pointer (some ⟨g, 0, none⟩)] #[])] rfl H3.out.map ⟨#[85, 80, 68, 65, 84, 69]⟩ _ rfl rfl ?n3 ?k3)
  case n3 => intro y hy; simp at hy; rcases hy with rfl | rfl | rfl <;> rfl
  intro y3 hm3 hg3
  have H4 : Hid (Ms w g A c l at' failed [(⟨#[67, 82, 69, 65, 84, 69]⟩, .func (.func 42) #[.pointer (some ⟨g, 0, none⟩)] #[]), (⟨#[68, 82, 79, 80]⟩, .func (.func 43) #[.pointer (some ⟨g, 0, none⟩)] #[]), (⟨#[73, 78, 83, 69, 82, 84]⟩, .func (.func 44) #[.pointer (some ⟨g, 0, none⟩)] #[]), (⟨#[85, 80, 68, 65, 84, 69]⟩, .func (.func 45) #[.pointer (some ⟨g, 0, none⟩)] #[])] y3) := Lib.hid (H3.out.ins hm3 hg3)
  clear hm3 hg3 H3
  go_wp2_with (with_reducible refine wpList_insert_new _ rfl _ _ _ 93 rfl 9 61 Tryz.underlying93 Tryz.underlying9 (w.heap.size + 1) [(⟨#[67, 82, 69, 65, 84, 69]⟩, .func (.func 42) #[.pointer (some ⟨g, 0, none⟩)] #[]), (⟨#[68, 82, 79, 80]⟩, .func (.func 43) #[.pointer (some ⟨g, 0, none⟩)] #[]), (⟨#[73, 78, 83, 69, 82, 84]⟩, .func (.func 44) #[.pointer (some ⟨g, 0, none⟩)] #[]), (⟨#[85, 80, 68, 65, 84, 69]⟩, .func (.func 45) #[.pointer (some ⟨g, 0, none⟩)] #[])] rfl H4.out.map ⟨#[68, 69, 76, 69, 84, 69]⟩ _ rfl rfl ?n4 ?k4)
  case n4 => intro y hy; simp at hy; rcases hy with rfl | rfl | rfl | rfl <;> rfl
  intro y4 hm4 hg4
  have H5 : Hid (Ms w g A c l at' failed [(⟨#[67, 82, 69, 65, 84, 69]⟩, .func (.func 42) #[.pointer (some ⟨g, 0, none⟩)] #[]), (⟨#[68, 82, 79, 80]⟩, .func (.func 43) #[.pointer (some ⟨g, 0, none⟩)] #[]), (⟨#[73, 78, 83, 69, 82, 84]⟩, .func (.func 44) #[.pointer (some ⟨g, 0, none⟩)] #[]), (⟨#[85, 80, 68, 65, 84, 69]⟩, .func (.func 45) #[.pointer (some ⟨g, 0, none⟩)] #[]), (⟨#[68, 69, 76, 69, 84, 69]⟩, .func (.func 46) #[.pointer (some ⟨g, 0, none⟩)] #[])] y4) := Lib.hid (H4.out.ins hm4 hg4)
  clear hm4 hg4 H4
  go_wp2_with (with_reducible refine wpList_insert_new _ rfl _ _ _ 93 rfl 9 61 Tryz.underlying93 Tryz.underlying9 (w.heap.size + 1) [(⟨#[67, 82, 69, 65, 84, 69]⟩, .func (.func 42) #[.pointer (some ⟨g, 0, none⟩)] #[]), (⟨#[68, 82, 79, 80]⟩, .func (.func 43) #[.pointer (some ⟨g, 0, none⟩)] #[]), (⟨#[73, 78, 83, 69, 82, 84]⟩, .func (.func 44) #[.pointer (some ⟨g, 0, none⟩)] #[]), (⟨#[85, 80, 68, 65, 84, 69]⟩, .func (.func 45) #[.pointer (some ⟨g, 0, none⟩)] #[]), (⟨#[68, 69, 76, 69, 84, 69]⟩, .func (.func 46) #[.pointer (some ⟨g, 0, none⟩)] #[])] rfl H5.out.map ⟨#[83, 69, 76, 69, 67, 84]⟩ _ rfl rfl ?n5 ?k5)
  case n5 => intro y hy; simp at hy; rcases hy with rfl | rfl | rfl | rfl | rfl <;> rfl
  intro y5 hm5 hg5
  have H6 : Hid (Ms w g A c l at' failed [(⟨#[67, 82, 69, 65, 84, 69]⟩, .func (.func 42) #[.pointer (some ⟨g, 0, none⟩)] #[]), (⟨#[68, 82, 79, 80]⟩, .func (.func 43) #[.pointer (some ⟨g, 0, none⟩)] #[]), (⟨#[73, 78, 83, 69, 82, 84]⟩, .func (.func 44) #[.pointer (some ⟨g, 0, none⟩)] #[]), (⟨#[85, 80, 68, 65, 84, 69]⟩, .func (.func 45) #[.pointer (some ⟨g, 0, none⟩)] #[]), (⟨#[68, 69, 76, 69, 84, 69]⟩, .func (.func 46) #[.pointer (some ⟨g, 0, none⟩)] #[]), (⟨#[83, 69, 76, 69, 67, 84]⟩, .func (.func 47) #[.pointer (some ⟨g, 0, none⟩)] #[])] y5) := Lib.hid (H5.out.ins hm5 hg5)
  clear hm5 hg5 H5
  go_wp2_with (with_reducible refine wpList_insert_new _ rfl _ _ _ 93 rfl 9 61 Tryz.underlying93 Tryz.underlying9 (w.heap.size + 1) [(⟨#[67, 82, 69, 65, 84, 69]⟩, .func (.func 42) #[.pointer (some ⟨g, 0, none⟩)] #[]), (⟨#[68, 82, 79, 80]⟩, .func (.func 43) #[.pointer (some ⟨g, 0, none⟩)] #[]), (⟨#[73, 78, 83, 69, 82, 84]⟩, .func (.func 44) #[.pointer (some ⟨g, 0, none⟩)] #[]), (⟨#[85, 80, 68, 65, 84, 69]⟩, .func (.func 45) #[.pointer (some ⟨g, 0, none⟩)] #[]), (⟨#[68, 69, 76, 69, 84, 69]⟩, .func (.func 46) #[.pointer (some ⟨g, 0, none⟩)] #[]), (⟨#[83, 69, 76, 69, 67, 84]⟩, .func (.func 47) #[.pointer (some ⟨g, 0, none⟩)] #[])] rfl H6.out.map ⟨#[71, 82, 65, 78, 84]⟩ _ rfl rfl ?n6 ?k6)
  case n6 => intro y hy; simp at hy; rcases hy with rfl | rfl | rfl | rfl | rfl | rfl <;> rfl
  intro y6 hm6 hg6
  have H7 : Hid (Ms w g A c l at' failed [(⟨#[67, 82, 69, 65, 84, 69]⟩, .func (.func 42) #[.pointer (some ⟨g, 0, none⟩)] #[]), (⟨#[68, 82, 79, 80]⟩, .func (.func 43) #[.pointer (some ⟨g, 0, none⟩)] #[]), (⟨#[73, 78, 83, 69, 82, 84]⟩, .func (.func 44) #[.pointer (some ⟨g, 0, none⟩)] #[]), (⟨#[85, 80, 68, 65, 84, 69]⟩, .func (.func 45) #[.pointer (some ⟨g, 0, none⟩)] #[]), (⟨#[68, 69, 76, 69, 84, 69]⟩, .func (.func 46) #[.pointer (some ⟨g, 0, none⟩)] #[]), (⟨#[83, 69, 76, 69, 67, 84]⟩, .func (.func 47) #[.pointer (some ⟨g, 0, none⟩)] #[]), (⟨#[71, 82, 65, 78, 84]⟩, .func (.func 48) #[.pointer (some ⟨g, 0, none⟩)] #[])] y6) := Lib.hid (H6.out.ins hm6 hg6)
  clear hm6 hg6 H6
  go_wp2_with (with_reducible refine wpList_insert_new _ rfl _ _ _ 93 rfl 9 61 Tryz.underlying93 Tryz.underlying9 (w.heap.size + 1) [(⟨#[67, 82, 69, 65, 84, 69]⟩, .func (.func 42) #[.pointer (some ⟨g, 0, none⟩)] #[]), (⟨#[68, 82, 79, 80]⟩, .func (.func 43) #[.pointer (some ⟨g, 0, none⟩)] #[]), (⟨#[73, 78, 83, 69, 82, 84]⟩, .func (.func 44) #[.pointer (some ⟨g, 0, none⟩)] #[]), (⟨#[85, 80, 68, 65, 84, 69]⟩, .func (.func 45) #[.pointer (some ⟨g, 0, none⟩)] #[]), (⟨#[68, 69, 76, 69, 84, 69]⟩, .func (.func 46) #[.pointer (some ⟨g, 0, none⟩)] #[]), (⟨#[83, 69, 76, 69, 67, 84]⟩, .func (.func 47) #[.pointer (some ⟨g, 0, none⟩)] #[]), (⟨#[71, 82, 65, 78, 84]⟩, .func (.func 48) #[.pointer (some ⟨g, 0, none⟩)] #[])] rfl H7.out.map ⟨#[82, 69, 86, 79, 75, 69]⟩ _ rfl rfl ?n7 ?k7)
  case n7 => intro y hy; simp at hy; rcases hy with rfl | rfl | rfl | rfl | rfl | rfl | rfl <;> rfl
  intro y7 hm7 hg7
  have H8 : Hid (Ms w g A c l at' failed [(⟨#[67, 82, 69, 65, 84, 69]⟩, .func (.func 42) #[.pointer (some ⟨g, 0, none⟩)] #[]), (⟨#[68, 82, 79, 80]⟩, .func (.func 43) #[.pointer (some ⟨g, 0, none⟩)] #[]), (⟨#[73, 78, 83, 69, 82, 84]⟩, .func (.func 44) #[.pointer (some ⟨g, 0, none⟩)] #[]), (⟨#[85, 80, 68, 65, 84, 69]⟩, .func (.func 45) #[.pointer (some ⟨g, 0, none⟩)] #[]), (⟨#[68, 69, 76, 69, 84, 69]⟩, .func (.func 46) #[.pointer (some ⟨g, 0, none⟩)] #[]), (⟨#[83, 69, 76, 69, 67, 84]⟩, .func (.func 47) #[.pointer (some ⟨g, 0, none⟩)] #[]), (⟨#[71, 82, 65, 78, 84]⟩, .func (.func 48) #[.pointer (some ⟨g, 0, none⟩)] #[]), (⟨#[82, 69, 86, 79, 75, 69]⟩, .func (.func 49) #[.pointer (some ⟨g, 0, none⟩)] #[])] y7) := Lib.hid (H7.out.ins hm7 hg7)
  clear hm7 hg7 H7
  go_wp2_with (with_reducible refine wpList_insert_new _ rfl _ _ _ 93 rfl 9 61 Tryz.underlying93 Tryz.underlying9 (w.heap.size + 1) [(⟨#[67, 82, 69, 65, 84, 69]⟩, .func (.func 42) #[.pointer (some ⟨g, 0, none⟩)] #[]), (⟨#[68, 82, 79, 80]⟩, .func (.func 43) #[.pointer (some ⟨g, 0, none⟩)] #[]), (⟨#[73, 78, 83, 69, 82, 84]⟩, .func (.func 44) #[.pointer (some ⟨g, 0, none⟩)] #[]), (⟨#[85, 80, 68, 65, 84, 69]⟩, .func (.func 45) #[.pointer (some ⟨g, 0, none⟩)] #[]), (⟨#[68, 69, 76, 69, 84, 69]⟩, .func (.func 46) #[.pointer (some ⟨g, 0, none⟩)] #[]), (⟨#[83, 69, 76, 69, 67, 84]⟩, .func (.func 47) #[.pointer (some ⟨g, 0, none⟩)] #[]), (⟨#[71, 82, 65, 78, 84]⟩, .func (.func 48) #[.pointer (some ⟨g, 0, none⟩)] #[]), (⟨#[82, 69, 86, 79, 75, 69]⟩, .func (.func 49) #[.pointer (some ⟨g, 0, none⟩)] #[])] rfl H8.out.map ⟨#[77, 73, 71, 82, 65, 84, 69]⟩ _ rfl rfl ?n8 ?k8)
  case n8 => intro y hy; simp at hy; rcases hy with rfl | rfl | rfl | rfl | rfl | rfl | rfl | rfl <;> rfl
  intro y8 hm8 hg8
  have H9 : Hid (Ms w g A c l at' failed [(⟨#[67, 82, 69, 65, 84, 69]⟩, .func (.func 42) #[.pointer (some ⟨g, 0, none⟩)] #[]), (⟨#[68, 82, 79, 80]⟩, .func (.func 43) #[.pointer (some ⟨g, 0, none⟩)] #[]), (⟨#[73, 78, 83, 69, 82, 84]⟩, .func (.func 44) #[.pointer (some ⟨g, 0, none⟩)] #[]), (⟨#[85, 80, 68, 65, 84, 69]⟩, .func (.func 45) #[.pointer (some ⟨g, 0, none⟩)] #[]), (⟨#[68, 69, 76, 69, 84, 69]⟩, .func (.func 46) #[.pointer (some ⟨g, 0, none⟩)] #[]), (⟨#[83, 69, 76, 69, 67, 84]⟩, .func (.func 47) #[.pointer (some ⟨g, 0, none⟩)] #[]), (⟨#[71, 82, 65, 78, 84]⟩, .func (.func 48) #[.pointer (some ⟨g, 0, none⟩)] #[]), (⟨#[82, 69, 86, 79, 75, 69]⟩, .func (.func 49) #[.pointer (some ⟨g, 0, none⟩)] #[]), (⟨#[77, 73, 71, 82, 65, 84, 69]⟩, .func (.func 50) #[.pointer (some ⟨g, 0, none⟩)] #[])] y8) := Lib.hid (H8.out.ins hm8 hg8)
  clear hm8 hg8 H8
  have hy9 : w.heap.size + 1 < y8.heap.size := by
    obtain ⟨m, c, hb, _⟩ := H9.out.map
    exact lt_of_block hb
  go_wp2_with (first
    | (go_at_call 41; (with_reducible refine (onec_selectFrom g A c l at' failed C hC ⟨#[83, 69, 76, 69, 67, 84]⟩ (w.heap.size + 1) [(⟨#[67, 82, 69, 65, 84, 69]⟩, .func (.func 42) #[.pointer (some ⟨g, 0, none⟩)] #[]), (⟨#[68, 82, 79, 80]⟩, .func (.func 43) #[.pointer (some ⟨g, 0, none⟩)] #[]), (⟨#[73, 78, 83, 69, 82, 84]⟩, .func (.func 44) #[.pointer (some ⟨g, 0, none⟩)] #[]), (⟨#[85, 80, 68, 65, 84, 69]⟩, .func (.func 45) #[.pointer (some ⟨g, 0, none⟩)] #[]), (⟨#[68, 69, 76, 69, 84, 69]⟩, .func (.func 46) #[.pointer (some ⟨g, 0, none⟩)] #[]), (⟨#[83, 69, 76, 69, 67, 84]⟩, .func (.func 47) #[.pointer (some ⟨g, 0, none⟩)] #[]), (⟨#[71, 82, 65, 78, 84]⟩, .func (.func 48) #[.pointer (some ⟨g, 0, none⟩)] #[]), (⟨#[82, 69, 86, 79, 75, 69]⟩, .func (.func 49) #[.pointer (some ⟨g, 0, none⟩)] #[]), (⟨#[77, 73, 71, 82, 65, 84, 69]⟩, .func (.func 50) #[.pointer (some ⟨g, 0, none⟩)] #[])] at2 f2 _ H9.out.sz hl ha HT.out H9.out.map (find_selectFrom g) (fun W hW hs => HR.out W hW)).mono ?_); rintro e w2 ⟨cs, rfl, hC2, hz2, hg2⟩; have h1 := hC.one hC2; have h23 := hC.size hC2; have HC2 : Hid (C (w.heap.size + 1) w2 cs) := hC.mono hC2 (by omega); have hb2 : w2.heap[w.heap.size]? = some (.cells #[.string ⟨#[]⟩, .string ⟨#[]⟩, .string ⟨#[]⟩, .slice none 0 0, .slice none 0 0, .string ⟨#[]⟩, .slice none 0 0, .slice none 0 0, .string ⟨#[]⟩, .int .i64 0, .int .i64 0, .string ⟨#[]⟩, .string ⟨#[]⟩, .slice none 0 0, .slice none 0 0, .slice none 0 0, .string ⟨#[]⟩, .int .i64 0, .int .i64 0, .string ⟨#[]⟩, .string ⟨#[]⟩, .slice none 0 0, .string ⟨#[]⟩] 34 (0, 0)) := (hg2.block _ (lt_of_block H9.out.res) (fun e => by injection e with e; omega)).trans H9.out.res; have HZ2 := Lib.hid hz2; have HG2 := Lib.hid (grow_trans H9.out.gr hg2); clear hz2 hg2 hC2)
    | (refine wpList_store_row rfl 34 (.tmp 2) (.tmp 24) rfl w.heap.size cs rfl rfl 34 _ hb2 (by rw [h23]; exact stSize) (by rw [h23]; rfl) h1 ?_))
  refine bodyPost_ret (results_cell_row rfl _ _ w.heap.size 34 cs (0, 0) _ rfl (setRow_heap _ _ _ _ _ _ hb2) Tryz.underlying34 rfl (by rw [h23]; exact stSize)) rfl ⟨cs, rfl, hC.mono (hC.row HC2.out (by omega) _) (by omega), HZ2.out.row _ hlg, grow_row _ HG2.out (Nat.le_refl _)⟩

set_option maxRecDepth 100000 in
set_option maxHeartbeats 4000000 in
theorem onec_insertInto (g : Nat) (A : Option Addr) (c : Nat) (l : List Tn) (at' : Nat) (failed : Bool) (C : Nat → World → Array Value → Prop) (hC : Kp C) (s : ByteArray) (r : Nat) (es : List (ByteArray × Value)) (at2 : Nat) (f2 : Bool) (w : World) (hz : Sz w g A c l at' failed) (hl : l.length ≤ 100000) (ha : at' ≤ 100000) (ht : Ny l at' failed ⟨1, s⟩)
    (hm : MapAt w r es) (hf : es.find? (fun y => s == y.1) = some (s, .func (.func 44) #[.pointer (some ⟨g, 0, none⟩)] #[]))
    (hr : ∀ W : World, Sz W g A c l (at' + 1) failed → w.heap.size < W.heap.size → Calls Tryz.prog 44 #[.pointer (some ⟨g, 0, none⟩)] W fun e w' => ∃ cs, e = .returned (.agg cs) ∧ C W.heap.size w' cs ∧ Sz w' g A c l at2 f2 ∧ W.grownBy w' (some g)) :
    Calls Tryz.prog 41 #[.pointer (some ⟨g, 0, none⟩), .map (some r)] w fun e w' => ∃ cs, e = .returned (.agg cs) ∧ C w.heap.size w' cs ∧ Sz w' g A c l at2 f2 ∧ w.grownBy w' (some g) := by
  have hgl := hz.lt
  have HZ := Lib.hid (And.intro hz ht)
  have HR := Lib.hid hr
  have HM := Lib.hid hm
  have HF := Lib.hid hf
  clear hz ht hr hm hf
  go_enter Tryz.func41, Tryz.ntmps41
  go_wp2_with (first
    | (go_at_call 84; (with_reducible refine (snext_any g A c l at' failed _ (HZ.out.1.alloc _) hl ⟨1, s⟩ HZ.out.2).mono ?_); rintro e w1 ⟨rfl, hb1⟩; have HB1 : Hid (Below w.heap.size w (w1.alloc (.cells #[.int .i64 1, .string s] 89))) := (((Below.refl _ _).alloc (Nat.le_refl _) _).trans (hb1.mono (by simp))).alloc (by have := hb1.size; simp at this; omega) _; have HM1 := Lib.hid (HM.out.below HB1.out); have HS1 := Lib.hid (HZ.out.1.below HB1.out); have d1 := HS1.out.c1; have df := HS1.out.fz 1; have dl := HS1.out.lt; have HQ1 : Hid ((w1.alloc (.cells #[.int .i64 1, .string s] 89)).heap[w.heap.size]? = some (.cells #[.string ⟨#[]⟩, .string ⟨#[]⟩, .string ⟨#[]⟩, .slice none 0 0, .slice none 0 0, .string ⟨#[]⟩, .slice none 0 0, .slice none 0 0, .string ⟨#[]⟩, .int .i64 0, .int .i64 0, .string ⟨#[]⟩, .string ⟨#[]⟩, .slice none 0 0, .slice none 0 0, .slice none 0 0, .string ⟨#[]⟩, .int .i64 0, .int .i64 0, .string ⟨#[]⟩, .string ⟨#[]⟩, .slice none 0 0, .string ⟨#[]⟩] 34 (0, 0))) := (Below.heap_alloc _ _ _ (by have := hb1.size; simp at this; omega)).trans ((hb1.block _ (by simp)).trans (alloc_at rfl _)); have hq1 : w.heap.size < w1.heap.size := (by have := hb1.size; simp at this; omega); have hne : ¬ w1.heap.size = g := (by omega); clear hb1)
    | (refine wpList_look_ok _ rfl _ _ 93 rfl 9 61 Tryz.underlying93 Tryz.underlying9 r es rfl HM1.out s rfl _ HF.out ?_)
    | (go_at_call 44; have hgo : Sz ((w1.alloc (.cells #[.int .i64 1, .string s] 89)).setCell ⟨g, 1, none⟩ (.int .i64 ((at' : Int) + 1))) g A c l (at' + 1) failed := HS1.out.goto (at' + 1); (with_reducible refine (HR.out _ hgo (by simp; omega)).mono ?_); rintro e w2 ⟨cs, rfl, hC2, hz2, hg2⟩; have h1 := hC.one hC2; have h23 := hC.size hC2; have HC2 : Hid (C (w.heap.size + 1) w2 cs) := hC.mono hC2 (by simp; omega); have hb2 : w2.heap[w.heap.size]? = some (.cells #[.string ⟨#[]⟩, .string ⟨#[]⟩, .string ⟨#[]⟩, .slice none 0 0, .slice none 0 0, .string ⟨#[]⟩, .slice none 0 0, .slice none 0 0, .string ⟨#[]⟩, .int .i64 0, .int .i64 0, .string ⟨#[]⟩, .string ⟨#[]⟩, .slice none 0 0, .slice none 0 0, .slice none 0 0, .string ⟨#[]⟩, .int .i64 0, .int .i64 0, .string ⟨#[]⟩, .string ⟨#[]⟩, .slice none 0 0, .string ⟨#[]⟩] 34 (0, 0)) := (hg2.block _ (by simp; omega) (fun e => by injection e with e; omega)).trans ((Below.heap_setCell _ _ _ _ (by show w.heap.size ≠ g; omega)).trans HQ1.out); have HZ2 := Lib.hid hz2; have HG2 : Hid (w.grownBy w2 (some g)) := grow_trans (grow_trans (grow_below HB1.out _) (grow_set _ _ _ _)) hg2; clear hz2 hg2 hC2)
    | (refine wpList_store_row rfl 34 (.tmp 4) (.tmp 36) rfl w.heap.size cs rfl rfl 34 _ hb2 (by rw [h23]; exact stSize) (by rw [h23]; rfl) h1 ?_))
  refine bodyPost_ret (results_cell_row rfl _ _ w.heap.size 34 cs (0, 0) _ rfl (setRow_heap _ _ _ _ _ _ hb2) Tryz.underlying34 rfl (by rw [h23]; exact stSize)) rfl ⟨cs, rfl, hC.mono (hC.row HC2.out (by omega) _) (by omega), HZ2.out.row _ hgl, grow_row _ HG2.out (Nat.le_refl _)⟩

set_option maxRecDepth 100000 in
set_option maxHeartbeats 4000000 in
theorem statementc_insertInto (g : Nat) (A : Option Addr) (c : Nat) (l : List Tn) (at' : Nat) (failed : Bool) (C : Nat → World → Array Value → Prop) (hC : Kp C) (at2 : Nat) (f2 : Bool) (w : World) (hz : Sz w g A c l at' failed) (hl : l.length ≤ 100000) (ha : at' ≤ 100000) (ht : Ny l at' failed ⟨1, ⟨#[73, 78, 83, 69, 82, 84]⟩⟩)
    (hr : ∀ W : World, Sz W g A c l (at' + 1) failed → Calls Tryz.prog 44 #[.pointer (some ⟨g, 0, none⟩)] W fun e w' => ∃ cs, e = .returned (.agg cs) ∧ C W.heap.size w' cs ∧ Sz w' g A c l at2 f2 ∧ W.grownBy w' (some g)) :
    Calls Tryz.prog 18 #[.pointer (some ⟨g, 0, none⟩)] w fun e w' => ∃ cs, e = .returned (.agg cs) ∧ C w.heap.size w' cs ∧ Sz w' g A c l at2 f2 ∧ w.grownBy w' (some g) := by
  have hmm := @run_makeMap Tryz.prog
  have H0 := Lib.hid (Ms.start hz)
  have HT := Lib.hid ht
  have HR := Lib.hid hr
  have hlg := hz.lt
  clear hz ht hr
  go_enter Tryz.func18, Tryz.ntmps18
  go_wp2_with (with_reducible refine wpList_insert_new _ rfl _ _ _ 93 rfl 9 61 Tryz.underlying93 Tryz.underlying9 (w.heap.size + 1) [] rfl H0.out.map ⟨#[67, 82, 69, 65, 84, 69]⟩ _ rfl rfl ?n0 ?k0)
  case n0 => intro y hy; cases hy
  intro y0 hm0 hg0
  have H1 : Hid (Ms w g A c l at' failed [(⟨#[67, 82, 69, 65, 84, 69]⟩, .func (.func 42) #[.pointer (some ⟨g, 0, none⟩)] #[])] y0) := Lib.hid (H0.out.ins hm0 hg0)
  clear hm0 hg0 H0
  go_wp2_with (with_reducible refine wpList_insert_new _ rfl _ _ _ 93 rfl 9 61 Tryz.underlying93 Tryz.underlying9 (w.heap.size + 1) [(⟨#[67, 82, 69, 65, 84, 69]⟩, .func (.func 42) #[.pointer (some ⟨g, 0, none⟩)] #[])] rfl H1.out.map ⟨#[68, 82, 79, 80]⟩ _ rfl rfl ?n1 ?k1)
  case n1 => intro y hy; simp at hy; rcases hy with rfl <;> rfl
  intro y1 hm1 hg1
  have H2 : Hid (Ms w g A c l at' failed [(⟨#[67, 82, 69, 65, 84, 69]⟩, .func (.func 42) #[.pointer (some ⟨g, 0, none⟩)] #[]), (⟨#[68, 82, 79, 80]⟩, .func (.func 43) #[.pointer (some ⟨g, 0, none⟩)] #[])] y1) := Lib.hid (H1.out.ins hm1 hg1)
  clear hm1 hg1 H1
  go_wp2_with (with_reducible refine wpList_insert_new _ rfl _ _ _ 93 rfl 9 61 Tryz.underlying93 Tryz.underlying9 (w.heap.size + 1) [(⟨#[67, 82, 69, 65, 84, 69]⟩, .func (.func 42) #[.pointer (some ⟨g, 0, none⟩)] #[]), (⟨#[68, 82, 79, 80]⟩, .func (.func 43) #[.pointer (some ⟨g, 0, none⟩)] #[])] rfl H2.out.map ⟨#[73, 78, 83, 69, 82, 84]⟩ _ rfl rfl ?n2 ?k2)
  case n2 => intro y hy; simp at hy; rcases hy with rfl | rfl <;> rfl
  intro y2 hm2 hg2
  have H3 : Hid (Ms w g A c l at' failed [(⟨#[67, 82, 69, 65, 84, 69]⟩, .func (.func 42) #[.pointer (some ⟨g, 0, none⟩)] #[]), (⟨#[68, 82, 79, 80]⟩, .func (.func 43) #[.pointer (some ⟨g, 0, none⟩)] #[]), (⟨#[73, 78, 83, 69, 82, 84]⟩, .func (.func 44) #[.pointer (some ⟨g, 0, none⟩)] #[])] y2) := Lib.hid (H2.out.ins hm2 hg2)
  clear hm2 hg2 H2
  go_wp2_with (with_reducible refine wpList_insert_new _ rfl _ _ _ 93 rfl 9 61 Tryz.underlying93 Tryz.underlying9 (w.heap.size + 1) [(⟨#[67, 82, 69, 65, 84, 69]⟩, .func (.func 42) #[.pointer (some ⟨g, 0, none⟩)] #[]), (⟨#[68, 82, 79, 80]⟩, .func (.func 43) #[.pointer (some ⟨g, 0, none⟩)] #[]), (⟨#[73, 78, 83, 69, 82, 84]⟩, .func (.func 44) #[.pointer (some ⟨g, 0, none⟩)] #[])] rfl H3.out.map ⟨#[85, 80, 68, 65, 84, 69]⟩ _ rfl rfl ?n3 ?k3)
  case n3 => intro y hy; simp at hy; rcases hy with rfl | rfl | rfl <;> rfl
  intro y3 hm3 hg3
  have H4 : Hid (Ms w g A c l at' failed [(⟨#[67, 82, 69, 65, 84, 69]⟩, .func (.func 42) #[.pointer (some ⟨g, 0, none⟩)] #[]), (⟨#[68, 82, 79, 80]⟩, .func (.func 43) #[.pointer (some ⟨g, 0, none⟩)] #[]), (⟨#[73, 78, 83, 69, 82, 84]⟩, .func (.func 44) #[.pointer (some ⟨g, 0, none⟩)] #[]), (⟨#[85, 80, 68, 65, 84, 69]⟩, .func (.func 45) #[.pointer (some ⟨g, 0, none⟩)] #[])] y3) := Lib.hid (H3.out.ins hm3 hg3)
  clear hm3 hg3 H3
  go_wp2_with (with_reducible refine wpList_insert_new _ rfl _ _ _ 93 rfl 9 61 Tryz.underlying93 Tryz.underlying9 (w.heap.size + 1) [(⟨#[67, 82, 69, 65, 84, 69]⟩, .func (.func 42) #[.pointer (some ⟨g, 0, none⟩)] #[]), (⟨#[68, 82, 79, 80]⟩, .func (.func 43) #[.pointer (some ⟨g, 0, none⟩)] #[]), (⟨#[73, 78, 83, 69, 82, 84]⟩, .func (.func 44) #[.pointer (some ⟨g, 0, none⟩)] #[]), (⟨#[85, 80, 68, 65, 84, 69]⟩, .func (.func 45) #[.pointer (some ⟨g, 0, none⟩)] #[])] rfl H4.out.map ⟨#[68, 69, 76, 69, 84, 69]⟩ _ rfl rfl ?n4 ?k4)
  case n4 => intro y hy; simp at hy; rcases hy with rfl | rfl | rfl | rfl <;> rfl
  intro y4 hm4 hg4
  have H5 : Hid (Ms w g A c l at' failed [(⟨#[67, 82, 69, 65, 84, 69]⟩, .func (.func 42) #[.pointer (some ⟨g, 0, none⟩)] #[]), (⟨#[68, 82, 79, 80]⟩, .func (.func 43) #[.pointer (some ⟨g, 0, none⟩)] #[]), (⟨#[73, 78, 83, 69, 82, 84]⟩, .func (.func 44) #[.pointer (some ⟨g, 0, none⟩)] #[]), (⟨#[85, 80, 68, 65, 84, 69]⟩, .func (.func 45) #[.pointer (some ⟨g, 0, none⟩)] #[]), (⟨#[68, 69, 76, 69, 84, 69]⟩, .func (.func 46) #[.pointer (some ⟨g, 0, none⟩)] #[])] y4) := Lib.hid (H4.out.ins hm4 hg4)
  clear hm4 hg4 H4
  go_wp2_with (with_reducible refine wpList_insert_new _ rfl _ _ _ 93 rfl 9 61 Tryz.underlying93 Tryz.underlying9 (w.heap.size + 1) [(⟨#[67, 82, 69, 65, 84, 69]⟩, .func (.func 42) #[.pointer (some ⟨g, 0, none⟩)] #[]), (⟨#[68, 82, 79, 80]⟩, .func (.func 43) #[.pointer (some ⟨g, 0, none⟩)] #[]), (⟨#[73, 78, 83, 69, 82, 84]⟩, .func (.func 44) #[.pointer (some ⟨g, 0, none⟩)] #[]), (⟨#[85, 80, 68, 65, 84, 69]⟩, .func (.func 45) #[.pointer (some ⟨g, 0, none⟩)] #[]), (⟨#[68, 69, 76, 69, 84, 69]⟩, .func (.func 46) #[.pointer (some ⟨g, 0, none⟩)] #[])] rfl H5.out.map ⟨#[83, 69, 76, 69, 67, 84]⟩ _ rfl rfl ?n5 ?k5)
  case n5 => intro y hy; simp at hy; rcases hy with rfl | rfl | rfl | rfl | rfl <;> rfl
  intro y5 hm5 hg5
  have H6 : Hid (Ms w g A c l at' failed [(⟨#[67, 82, 69, 65, 84, 69]⟩, .func (.func 42) #[.pointer (some ⟨g, 0, none⟩)] #[]), (⟨#[68, 82, 79, 80]⟩, .func (.func 43) #[.pointer (some ⟨g, 0, none⟩)] #[]), (⟨#[73, 78, 83, 69, 82, 84]⟩, .func (.func 44) #[.pointer (some ⟨g, 0, none⟩)] #[]), (⟨#[85, 80, 68, 65, 84, 69]⟩, .func (.func 45) #[.pointer (some ⟨g, 0, none⟩)] #[]), (⟨#[68, 69, 76, 69, 84, 69]⟩, .func (.func 46) #[.pointer (some ⟨g, 0, none⟩)] #[]), (⟨#[83, 69, 76, 69, 67, 84]⟩, .func (.func 47) #[.pointer (some ⟨g, 0, none⟩)] #[])] y5) := Lib.hid (H5.out.ins hm5 hg5)
  clear hm5 hg5 H5
  go_wp2_with (with_reducible refine wpList_insert_new _ rfl _ _ _ 93 rfl 9 61 Tryz.underlying93 Tryz.underlying9 (w.heap.size + 1) [(⟨#[67, 82, 69, 65, 84, 69]⟩, .func (.func 42) #[.pointer (some ⟨g, 0, none⟩)] #[]), (⟨#[68, 82, 79, 80]⟩, .func (.func 43) #[.pointer (some ⟨g, 0, none⟩)] #[]), (⟨#[73, 78, 83, 69, 82, 84]⟩, .func (.func 44) #[.pointer (some ⟨g, 0, none⟩)] #[]), (⟨#[85, 80, 68, 65, 84, 69]⟩, .func (.func 45) #[.pointer (some ⟨g, 0, none⟩)] #[]), (⟨#[68, 69, 76, 69, 84, 69]⟩, .func (.func 46) #[.pointer (some ⟨g, 0, none⟩)] #[]), (⟨#[83, 69, 76, 69, 67, 84]⟩, .func (.func 47) #[.pointer (some ⟨g, 0, none⟩)] #[])] rfl H6.out.map ⟨#[71, 82, 65, 78, 84]⟩ _ rfl rfl ?n6 ?k6)
  case n6 => intro y hy; simp at hy; rcases hy with rfl | rfl | rfl | rfl | rfl | rfl <;> rfl
  intro y6 hm6 hg6
  have H7 : Hid (Ms w g A c l at' failed [(⟨#[67, 82, 69, 65, 84, 69]⟩, .func (.func 42) #[.pointer (some ⟨g, 0, none⟩)] #[]), (⟨#[68, 82, 79, 80]⟩, .func (.func 43) #[.pointer (some ⟨g, 0, none⟩)] #[]), (⟨#[73, 78, 83, 69, 82, 84]⟩, .func (.func 44) #[.pointer (some ⟨g, 0, none⟩)] #[]), (⟨#[85, 80, 68, 65, 84, 69]⟩, .func (.func 45) #[.pointer (some ⟨g, 0, none⟩)] #[]), (⟨#[68, 69, 76, 69, 84, 69]⟩, .func (.func 46) #[.pointer (some ⟨g, 0, none⟩)] #[]), (⟨#[83, 69, 76, 69, 67, 84]⟩, .func (.func 47) #[.pointer (some ⟨g, 0, none⟩)] #[]), (⟨#[71, 82, 65, 78, 84]⟩, .func (.func 48) #[.pointer (some ⟨g, 0, none⟩)] #[])] y6) := Lib.hid (H6.out.ins hm6 hg6)
  clear hm6 hg6 H6
  go_wp2_with (with_reducible refine wpList_insert_new _ rfl _ _ _ 93 rfl 9 61 Tryz.underlying93 Tryz.underlying9 (w.heap.size + 1) [(⟨#[67, 82, 69, 65, 84, 69]⟩, .func (.func 42) #[.pointer (some ⟨g, 0, none⟩)] #[]), (⟨#[68, 82, 79, 80]⟩, .func (.func 43) #[.pointer (some ⟨g, 0, none⟩)] #[]), (⟨#[73, 78, 83, 69, 82, 84]⟩, .func (.func 44) #[.pointer (some ⟨g, 0, none⟩)] #[]), (⟨#[85, 80, 68, 65, 84, 69]⟩, .func (.func 45) #[.pointer (some ⟨g, 0, none⟩)] #[]), (⟨#[68, 69, 76, 69, 84, 69]⟩, .func (.func 46) #[.pointer (some ⟨g, 0, none⟩)] #[]), (⟨#[83, 69, 76, 69, 67, 84]⟩, .func (.func 47) #[.pointer (some ⟨g, 0, none⟩)] #[]), (⟨#[71, 82, 65, 78, 84]⟩, .func (.func 48) #[.pointer (some ⟨g, 0, none⟩)] #[])] rfl H7.out.map ⟨#[82, 69, 86, 79, 75, 69]⟩ _ rfl rfl ?n7 ?k7)
  case n7 => intro y hy; simp at hy; rcases hy with rfl | rfl | rfl | rfl | rfl | rfl | rfl <;> rfl
  intro y7 hm7 hg7
  have H8 : Hid (Ms w g A c l at' failed [(⟨#[67, 82, 69, 65, 84, 69]⟩, .func (.func 42) #[.pointer (some ⟨g, 0, none⟩)] #[]), (⟨#[68, 82, 79, 80]⟩, .func (.func 43) #[.pointer (some ⟨g, 0, none⟩)] #[]), (⟨#[73, 78, 83, 69, 82, 84]⟩, .func (.func 44) #[.pointer (some ⟨g, 0, none⟩)] #[]), (⟨#[85, 80, 68, 65, 84, 69]⟩, .func (.func 45) #[.pointer (some ⟨g, 0, none⟩)] #[]), (⟨#[68, 69, 76, 69, 84, 69]⟩, .func (.func 46) #[.pointer (some ⟨g, 0, none⟩)] #[]), (⟨#[83, 69, 76, 69, 67, 84]⟩, .func (.func 47) #[.pointer (some ⟨g, 0, none⟩)] #[]), (⟨#[71, 82, 65, 78, 84]⟩, .func (.func 48) #[.pointer (some ⟨g, 0, none⟩)] #[]), (⟨#[82, 69, 86, 79, 75, 69]⟩, .func (.func 49) #[.pointer (some ⟨g, 0, none⟩)] #[])] y7) := Lib.hid (H7.out.ins hm7 hg7)
  clear hm7 hg7 H7
  go_wp2_with (with_reducible refine wpList_insert_new _ rfl _ _ _ 93 rfl 9 61 Tryz.underlying93 Tryz.underlying9 (w.heap.size + 1) [(⟨#[67, 82, 69, 65, 84, 69]⟩, .func (.func 42) #[.pointer (some ⟨g, 0, none⟩)] #[]), (⟨#[68, 82, 79, 80]⟩, .func (.func 43) #[.pointer (some ⟨g, 0, none⟩)] #[]), (⟨#[73, 78, 83, 69, 82, 84]⟩, .func (.func 44) #[.pointer (some ⟨g, 0, none⟩)] #[]), (⟨#[85, 80, 68, 65, 84, 69]⟩, .func (.func 45) #[.pointer (some ⟨g, 0, none⟩)] #[]), (⟨#[68, 69, 76, 69, 84, 69]⟩, .func (.func 46) #[.pointer (some ⟨g, 0, none⟩)] #[]), (⟨#[83, 69, 76, 69, 67, 84]⟩, .func (.func 47) #[.pointer (some ⟨g, 0, none⟩)] #[]), (⟨#[71, 82, 65, 78, 84]⟩, .func (.func 48) #[.pointer (some ⟨g, 0, none⟩)] #[]), (⟨#[82, 69, 86, 79, 75, 69]⟩, .func (.func 49) #[.pointer (some ⟨g, 0, none⟩)] #[])] rfl H8.out.map ⟨#[77, 73, 71, 82, 65, 84, 69]⟩ _ rfl rfl ?n8 ?k8)
  case n8 => intro y hy; simp at hy; rcases hy with rfl | rfl | rfl | rfl | rfl | rfl | rfl | rfl <;> rfl
  intro y8 hm8 hg8
  have H9 : Hid (Ms w g A c l at' failed [(⟨#[67, 82, 69, 65, 84, 69]⟩, .func (.func 42) #[.pointer (some ⟨g, 0, none⟩)] #[]), (⟨#[68, 82, 79, 80]⟩, .func (.func 43) #[.pointer (some ⟨g, 0, none⟩)] #[]), (⟨#[73, 78, 83, 69, 82, 84]⟩, .func (.func 44) #[.pointer (some ⟨g, 0, none⟩)] #[]), (⟨#[85, 80, 68, 65, 84, 69]⟩, .func (.func 45) #[.pointer (some ⟨g, 0, none⟩)] #[]), (⟨#[68, 69, 76, 69, 84, 69]⟩, .func (.func 46) #[.pointer (some ⟨g, 0, none⟩)] #[]), (⟨#[83, 69, 76, 69, 67, 84]⟩, .func (.func 47) #[.pointer (some ⟨g, 0, none⟩)] #[]), (⟨#[71, 82, 65, 78, 84]⟩, .func (.func 48) #[.pointer (some ⟨g, 0, none⟩)] #[]), (⟨#[82, 69, 86, 79, 75, 69]⟩, .func (.func 49) #[.pointer (some ⟨g, 0, none⟩)] #[]), (⟨#[77, 73, 71, 82, 65, 84, 69]⟩, .func (.func 50) #[.pointer (some ⟨g, 0, none⟩)] #[])] y8) := Lib.hid (H8.out.ins hm8 hg8)
  clear hm8 hg8 H8
  have hy9 : w.heap.size + 1 < y8.heap.size := by
    obtain ⟨m, c, hb, _⟩ := H9.out.map
    exact lt_of_block hb
  go_wp2_with (first
    | (go_at_call 41; (with_reducible refine (onec_insertInto g A c l at' failed C hC ⟨#[73, 78, 83, 69, 82, 84]⟩ (w.heap.size + 1) [(⟨#[67, 82, 69, 65, 84, 69]⟩, .func (.func 42) #[.pointer (some ⟨g, 0, none⟩)] #[]), (⟨#[68, 82, 79, 80]⟩, .func (.func 43) #[.pointer (some ⟨g, 0, none⟩)] #[]), (⟨#[73, 78, 83, 69, 82, 84]⟩, .func (.func 44) #[.pointer (some ⟨g, 0, none⟩)] #[]), (⟨#[85, 80, 68, 65, 84, 69]⟩, .func (.func 45) #[.pointer (some ⟨g, 0, none⟩)] #[]), (⟨#[68, 69, 76, 69, 84, 69]⟩, .func (.func 46) #[.pointer (some ⟨g, 0, none⟩)] #[]), (⟨#[83, 69, 76, 69, 67, 84]⟩, .func (.func 47) #[.pointer (some ⟨g, 0, none⟩)] #[]), (⟨#[71, 82, 65, 78, 84]⟩, .func (.func 48) #[.pointer (some ⟨g, 0, none⟩)] #[]), (⟨#[82, 69, 86, 79, 75, 69]⟩, .func (.func 49) #[.pointer (some ⟨g, 0, none⟩)] #[]), (⟨#[77, 73, 71, 82, 65, 84, 69]⟩, .func (.func 50) #[.pointer (some ⟨g, 0, none⟩)] #[])] at2 f2 _ H9.out.sz hl ha HT.out H9.out.map (find_insertInto g) (fun W hW hs => HR.out W hW)).mono ?_); rintro e w2 ⟨cs, rfl, hC2, hz2, hg2⟩; have h1 := hC.one hC2; have h23 := hC.size hC2; have HC2 : Hid (C (w.heap.size + 1) w2 cs) := hC.mono hC2 (by omega); have hb2 : w2.heap[w.heap.size]? = some (.cells #[.string ⟨#[]⟩, .string ⟨#[]⟩, .string ⟨#[]⟩, .slice none 0 0, .slice none 0 0, .string ⟨#[]⟩, .slice none 0 0, .slice none 0 0, .string ⟨#[]⟩, .int .i64 0, .int .i64 0, .string ⟨#[]⟩, .string ⟨#[]⟩, .slice none 0 0, .slice none 0 0, .slice none 0 0, .string ⟨#[]⟩, .int .i64 0, .int .i64 0, .string ⟨#[]⟩, .string ⟨#[]⟩, .slice none 0 0, .string ⟨#[]⟩] 34 (0, 0)) := (hg2.block _ (lt_of_block H9.out.res) (fun e => by injection e with e; omega)).trans H9.out.res; have HZ2 := Lib.hid hz2; have HG2 := Lib.hid (grow_trans H9.out.gr hg2); clear hz2 hg2 hC2)
    | (refine wpList_store_row rfl 34 (.tmp 2) (.tmp 24) rfl w.heap.size cs rfl rfl 34 _ hb2 (by rw [h23]; exact stSize) (by rw [h23]; rfl) h1 ?_))
  refine bodyPost_ret (results_cell_row rfl _ _ w.heap.size 34 cs (0, 0) _ rfl (setRow_heap _ _ _ _ _ _ hb2) Tryz.underlying34 rfl (by rw [h23]; exact stSize)) rfl ⟨cs, rfl, hC.mono (hC.row HC2.out (by omega) _) (by omega), HZ2.out.row _ hlg, grow_row _ HG2.out (Nat.le_refl _)⟩

theorem cut_okc (s : ByteArray) (w : World) (hs : s.size ≤ 100000) (hl : LibE w) (ts : List Tk) (h : cutR s.data.toList = some ts) (n : Nat) (hn : ts.length = n) :
    Calls Tryz.prog 17 #[.string s] w fun e w' => ∃ A cap, e = .returned (.tuple #[.slice A n cap, .int .i64 0]) ∧ Hid (Toks w' w'.heap.size A n ts) ∧ n ≤ cap ∧ Below w.heap.size w w' :=
  (cut_ok s w hs hl ts h).mono fun e w' ⟨v, h1, h2, hb⟩ => by
    obtain ⟨A, cap, rfl, ht⟩ := h2.out.toks
    have hc : ts.length ≤ cap := by
      rcases h2.out.2 with ⟨_, h0⟩ | ⟨g, cap', cur, e', _, _, hc, _⟩
      · omega
      · injection e' with _ _ e3
        omega
    subst hn
    exact ⟨A, cap, h1, ht, hc, hb⟩
set_option maxRecDepth 100000 in
set_option maxHeartbeats 4000000 in
theorem sparsec_done (C : Nat → World → Array Value → Prop) (hC : Kp C) (s : ByteArray) (w : World) (hs : s.size ≤ 100000) (hl : LibE w) (ts : List Tk) (hc : cutR s.data.toList = some ts) (at2 : Nat)
    (hst : ∀ (g : Nat) (A : Option Addr) (cap : Nat) (W : World), Sz W g A cap (ts.map tnOf) 0 false → ts.length ≤ cap → Calls Tryz.prog 18 #[.pointer (some ⟨g, 0, none⟩)] W fun e w' => ∃ cs, e = .returned (.agg cs) ∧ C W.heap.size w' cs ∧ Sz w' g A cap (ts.map tnOf) at2 false ∧ W.grownBy w' (some g))
    (hat : at2 = ts.length) (hm : ∀ (n : Nat) (W : World) (cs : Array Value), C n W cs → LibE W → Calls Tryz.prog 19 #[.agg cs] W fun e w' => e = .returned (.bool true) ∧ Below W.heap.size W w') :
    Calls Tryz.prog 7 #[.string s] w fun e w' => ∃ cs, e = .returned (.tuple #[.agg cs, .int .i64 0]) ∧ C w.heap.size w' cs ∧ Below w.heap.size w w' := by
  have HL := Lib.hid hl
  have HC := Lib.hid hc
  have HST := Lib.hid hst
  have HM := Lib.hid hm
  have hnl : ¬ at2 < ts.length := by omega
  clear hl hc hst hm hat
  go_enter Tryz.func7, Tryz.ntmps7
  go_wp2_with (first
    | (go_at_call 17; (with_reducible refine (cut_okc s _ hs (HL.out.keep ((Below.refl w.heap.size w).alloc (Nat.le_refl _) _) (Nat.le_refl _)) ts HC.out ts.length rfl).mono ?_); rintro e w1 ⟨A, cap, rfl, ht, hcap, hb1⟩; have HT := Lib.hid (Sz.start (cap := cap) ht.out (HL.out.keep (((Below.refl w.heap.size w).alloc (Nat.le_refl _) _).trans (hb1.mono (by simp))) (Nat.le_refl _))); have HB1 : Hid (Below w.heap.size w (w1.alloc (.cells #[.slice A ts.length cap, .int .i64 0, .bool false] 60))) := ((((Below.refl _ _).alloc (Nat.le_refl _) _).trans (hb1.mono (by simp))).alloc (by have := hb1.size; simp at this; omega) _); have HQ1 : Hid ((w1.alloc (.cells #[.slice A ts.length cap, .int .i64 0, .bool false] 60)).heap[w.heap.size]? = some (.cells #[.string ⟨#[]⟩, .string ⟨#[]⟩, .string ⟨#[]⟩, .slice none 0 0, .slice none 0 0, .string ⟨#[]⟩, .slice none 0 0, .slice none 0 0, .string ⟨#[]⟩, .int .i64 0, .int .i64 0, .string ⟨#[]⟩, .string ⟨#[]⟩, .slice none 0 0, .slice none 0 0, .slice none 0 0, .string ⟨#[]⟩, .int .i64 0, .int .i64 0, .string ⟨#[]⟩, .string ⟨#[]⟩, .slice none 0 0, .string ⟨#[]⟩] 34 (0, 0))) := (Below.heap_alloc _ _ _ (by have := hb1.size; simp at this; omega)).trans ((hb1.block _ (by simp)).trans (alloc_at rfl _)); have hq1 : w.heap.size < w1.heap.size := (by have := hb1.size; simp at this; omega); clear ht hb1)
    | (go_at_call 18; (with_reducible refine (HST.out w1.heap.size A cap _ HT.out hcap).mono ?_); rintro e w2 ⟨cs, rfl, hC2, hz2, hg2⟩; have h1 := hC.one hC2; have h23 := hC.size hC2; have HC2 : Hid (C (w.heap.size + 1) w2 cs) := hC.mono hC2 (by simp; omega); have HS3 : Hid (Sz ((w2.alloc (.cells #[.string ⟨#[]⟩, .string ⟨#[]⟩, .string ⟨#[]⟩, .slice none 0 0, .slice none 0 0, .string ⟨#[]⟩, .slice none 0 0, .slice none 0 0, .string ⟨#[]⟩, .int .i64 0, .int .i64 0, .string ⟨#[]⟩, .string ⟨#[]⟩, .slice none 0 0, .slice none 0 0, .slice none 0 0, .string ⟨#[]⟩, .int .i64 0, .int .i64 0, .string ⟨#[]⟩, .string ⟨#[]⟩, .slice none 0 0, .string ⟨#[]⟩] 34)).setRow w2.heap.size cs) w1.heap.size A cap (ts.map tnOf) at2 false) := (hz2.alloc _).row _ hz2.lt; have d1 := HS3.out.c1; have d2 := HS3.out.c2; have df1 := HS3.out.fz 1; have df2 := HS3.out.fz 2; have HB2 : Hid (Below w.heap.size w w2) := HB1.out.trans ⟨hg2.os, hg2.tape, hg2.output, hg2.size, fun q hq => hg2.block q (by simp; omega) (fun e => by injection e with e; omega)⟩; have hb7 : (w2.alloc (.cells #[.string ⟨#[]⟩, .string ⟨#[]⟩, .string ⟨#[]⟩, .slice none 0 0, .slice none 0 0, .string ⟨#[]⟩, .slice none 0 0, .slice none 0 0, .string ⟨#[]⟩, .int .i64 0, .int .i64 0, .string ⟨#[]⟩, .string ⟨#[]⟩, .slice none 0 0, .slice none 0 0, .slice none 0 0, .string ⟨#[]⟩, .int .i64 0, .int .i64 0, .string ⟨#[]⟩, .string ⟨#[]⟩, .slice none 0 0, .string ⟨#[]⟩] 34)).heap[w2.heap.size]? = some (.cells #[.string ⟨#[]⟩, .string ⟨#[]⟩, .string ⟨#[]⟩, .slice none 0 0, .slice none 0 0, .string ⟨#[]⟩, .slice none 0 0, .slice none 0 0, .string ⟨#[]⟩, .int .i64 0, .int .i64 0, .string ⟨#[]⟩, .string ⟨#[]⟩, .slice none 0 0, .slice none 0 0, .slice none 0 0, .string ⟨#[]⟩, .int .i64 0, .int .i64 0, .string ⟨#[]⟩, .string ⟨#[]⟩, .slice none 0 0, .string ⟨#[]⟩] 34 (0, 0)) := alloc_at rfl _; have hy2 : w1.heap.size < w2.heap.size := hz2.lt; have hbw : ((w2.alloc (.cells #[.string ⟨#[]⟩, .string ⟨#[]⟩, .string ⟨#[]⟩, .slice none 0 0, .slice none 0 0, .string ⟨#[]⟩, .slice none 0 0, .slice none 0 0, .string ⟨#[]⟩, .int .i64 0, .int .i64 0, .string ⟨#[]⟩, .string ⟨#[]⟩, .slice none 0 0, .slice none 0 0, .slice none 0 0, .string ⟨#[]⟩, .int .i64 0, .int .i64 0, .string ⟨#[]⟩, .string ⟨#[]⟩, .slice none 0 0, .string ⟨#[]⟩] 34)).setRow w2.heap.size cs).heap[w.heap.size]? = some (.cells #[.string ⟨#[]⟩, .string ⟨#[]⟩, .string ⟨#[]⟩, .slice none 0 0, .slice none 0 0, .string ⟨#[]⟩, .slice none 0 0, .slice none 0 0, .string ⟨#[]⟩, .int .i64 0, .int .i64 0, .string ⟨#[]⟩, .string ⟨#[]⟩, .slice none 0 0, .slice none 0 0, .slice none 0 0, .string ⟨#[]⟩, .int .i64 0, .int .i64 0, .string ⟨#[]⟩, .string ⟨#[]⟩, .slice none 0 0, .string ⟨#[]⟩] 34 (0, 0)) := (setRow_other _ _ _ _ (by omega)).trans ((Below.heap_alloc _ _ _ (by omega)).trans ((hg2.block _ (by simp; omega) (fun e => by injection e with e; omega)).trans HQ1.out)); have hb8 : ((w2.alloc (.cells #[.string ⟨#[]⟩, .string ⟨#[]⟩, .string ⟨#[]⟩, .slice none 0 0, .slice none 0 0, .string ⟨#[]⟩, .slice none 0 0, .slice none 0 0, .string ⟨#[]⟩, .int .i64 0, .int .i64 0, .string ⟨#[]⟩, .string ⟨#[]⟩, .slice none 0 0, .slice none 0 0, .slice none 0 0, .string ⟨#[]⟩, .int .i64 0, .int .i64 0, .string ⟨#[]⟩, .string ⟨#[]⟩, .slice none 0 0, .string ⟨#[]⟩] 34)).setRow w2.heap.size cs).heap[w2.heap.size]? = some (.cells cs 34 (0, 0)) := setRow_heap _ _ _ _ _ _ hb7; have HC3 : Hid (C (w.heap.size + 1) ((w2.alloc (.cells #[.string ⟨#[]⟩, .string ⟨#[]⟩, .string ⟨#[]⟩, .slice none 0 0, .slice none 0 0, .string ⟨#[]⟩, .slice none 0 0, .slice none 0 0, .string ⟨#[]⟩, .int .i64 0, .int .i64 0, .string ⟨#[]⟩, .string ⟨#[]⟩, .slice none 0 0, .slice none 0 0, .slice none 0 0, .string ⟨#[]⟩, .int .i64 0, .int .i64 0, .string ⟨#[]⟩, .string ⟨#[]⟩, .slice none 0 0, .string ⟨#[]⟩] 34)).setRow w2.heap.size cs) cs) := hC.keep HC2.out (fun b _ hb => (setRow_other _ _ _ _ (by omega)).trans (Below.heap_alloc _ _ _ hb)); clear hz2 hg2 hC2)
    | (refine wpList_buildTo rfl 34 _ rfl _ rfl #[.string ⟨#[]⟩, .string ⟨#[]⟩, .string ⟨#[]⟩, .slice none 0 0, .slice none 0 0, .string ⟨#[]⟩, .slice none 0 0, .slice none 0 0, .string ⟨#[]⟩, .int .i64 0, .int .i64 0, .string ⟨#[]⟩, .string ⟨#[]⟩, .slice none 0 0, .slice none 0 0, .slice none 0 0, .string ⟨#[]⟩, .int .i64 0, .int .i64 0, .string ⟨#[]⟩, .string ⟨#[]⟩, .slice none 0 0, .string ⟨#[]⟩] (by as_aux_lemma => kernel_rfl) ?_)
    | (refine wpList_store_row rfl 34 (.tmp 7) (.tmp 20) rfl w2.heap.size cs rfl rfl 34 _ hb7 (by rw [h23]; exact stSize) (by rw [h23]; rfl) h1 ?_)
    | (refine wpList_load_row_on rfl 34 (.tmp 7) rfl w2.heap.size rfl 34 cs (0, 0) _ hb8 Tryz.underlying34 rfl (by rw [h23]; exact stSize) ?_)
    | (go_at_call 19; (with_reducible refine (HM.out _ ((w2.alloc (.cells #[.string ⟨#[]⟩, .string ⟨#[]⟩, .string ⟨#[]⟩, .slice none 0 0, .slice none 0 0, .string ⟨#[]⟩, .slice none 0 0, .slice none 0 0, .string ⟨#[]⟩, .int .i64 0, .int .i64 0, .string ⟨#[]⟩, .string ⟨#[]⟩, .slice none 0 0, .slice none 0 0, .slice none 0 0, .string ⟨#[]⟩, .int .i64 0, .int .i64 0, .string ⟨#[]⟩, .string ⟨#[]⟩, .slice none 0 0, .string ⟨#[]⟩] 34)).setRow w2.heap.size cs) cs HC3.out HS3.out.libE).mono ?_); rintro e w3 ⟨rfl, hb3⟩; have HB3 : Hid (Below w.heap.size w w3) := (below_row (HB2.out.alloc HB2.out.size _) _ HB2.out.size).trans (hb3.mono (by have := HB2.out.size; simp; omega)); have HC4 : Hid (C (w.heap.size + 1) w3 cs) := hC.below HC3.out hb3; have hbx : w3.heap[w.heap.size]? = some (.cells #[.string ⟨#[]⟩, .string ⟨#[]⟩, .string ⟨#[]⟩, .slice none 0 0, .slice none 0 0, .string ⟨#[]⟩, .slice none 0 0, .slice none 0 0, .string ⟨#[]⟩, .int .i64 0, .int .i64 0, .string ⟨#[]⟩, .string ⟨#[]⟩, .slice none 0 0, .slice none 0 0, .slice none 0 0, .string ⟨#[]⟩, .int .i64 0, .int .i64 0, .string ⟨#[]⟩, .string ⟨#[]⟩, .slice none 0 0, .string ⟨#[]⟩] 34 (0, 0)) := (hb3.block _ (by simp; omega)).trans hbw; have hb9 : w3.heap[w2.heap.size]? = some (.cells cs 34 (0, 0)) := (hb3.block _ (by simp)).trans hb8; clear hb3)
    | (refine wpList_load_row rfl 34 (.tmp 7) rfl w2.heap.size rfl 34 cs (0, 0) _ hb9 Tryz.underlying34 rfl (by rw [h23]; exact stSize) ?_)
    | (refine wpList_store_row rfl 34 (.tmp 2) (.tmp 40) rfl w.heap.size cs rfl rfl 34 _ hbx (by rw [h23]; exact stSize) (by rw [h23]; rfl) h1 ?_))
  refine bodyPost_ret (results_row_tmp rfl _ _ w.heap.size 34 cs (0, 0) _ rfl (setRow_heap _ _ _ _ _ _ hbx) Tryz.underlying34 rfl (by rw [h23]; exact stSize) _ rfl) rfl ⟨cs, rfl, hC.mono (hC.row HC4.out (by omega) _) (by omega), below_row HB3.out _ (Nat.le_refl _)⟩

end Go.Proofs.YtlilnbcklplmfaaGreatDoor

/- A region whose order Go leaves open, with two loads that may come behind its first store: DetB, as DetA, but the last few may come up beside them; and operations that hand on what another one has made. No program stands in it. -/
namespace Go.Proofs.YtlilnbcklplmfaaGreatDoor
open Go.RowKit

inductive TellM where
  | val (v : Value)
  | rel (R : Value → List Nat → World → Prop)
  | pure

/-- Number i comes to this value, said ahead or read off the slots. -/
def Told (P : Program) (vals : List TellM) (i : Nat) (oi : Oper) (a : Act) (v : Value) : Prop :=
  vals[i]? = some (.val v) ∨ (vals[i]? = some .pure ∧ ∀ w, (execOp a.eval oi).run P w = .ok (.value v) w)

theorem Told.one {P : Program} {vals : List TellM} {i : Nat} {oi : Oper} {a : Act} {v v' : Value} (h : Told P vals i oi a v) (w : World) (h' : Told P vals i oi a v') : v = v' := by
  rcases h with h | ⟨h, r⟩ <;> rcases h' with h' | ⟨h', r'⟩
  · rw [h] at h'; injection h' with e; injection e
  · rw [h] at h'; injection h' with e; cases e
  · rw [h] at h'; injection h' with e; cases e
  · have := (r w).symm.trans (r' w)
    injection this with e _
    injection e
theorem Told.not {P : Program} {vals : List TellM} {i : Nat} {oi : Oper} {a : Act} {v : Value} {R : Value → List Nat → World → Prop} (h : Told P vals i oi a v) (h' : vals[i]? = some (.rel R)) : False := by
  rcases h with h | ⟨h, _⟩ <;> (rw [h] at h'; injection h' with e; cases e)
theorem Told.of_same {P : Program} {vals : List TellM} {i : Nat} {oi : Oper} {a a' : Act} {v : Value} (h : Told P vals i oi a v) (he : execOp a'.eval oi = execOp a.eval oi) : Told P vals i oi a' v :=
  h.imp id fun ⟨h1, h2⟩ => ⟨h1, fun w => by rw [he]; exact h2 w⟩

def DetB (P : Program) (md : Region.Mode) (ops : Array Oper) (Q : Exit → Act → World → Prop) (w0 : World) (K : Nat) (vals : List TellM) : Nat → Array Bool → Act → List Ent → Prop
  | 0, listed, a, env => (∀ j ∈ Region.ready md ops listed, K ≤ j) ∧ ∀ w, Env w0 env w → wpAny P md ops Q 0 listed a w
  | n + 1, listed, a, env =>
    ((∀ j ∈ Region.ready md ops listed, j < K → ∃ oj v, ops[j]? = some oj ∧ Told P vals j oj a v ∧ YieldsD P md ops w0 env oj v a ∧ DetB P md ops Q w0 K vals n (listed.setIfInBounds j true) (a.put oj.dst v) env) ∧ ∀ w, Env w0 env w → wpAny P md ops Q (n + 1) listed a w) ∨
    (Region.ready md ops listed ≠ [] ∧ ∀ i ∈ Region.ready md ops listed, i < K ∧ ∃ oi, ops[i]? = some oi ∧
      ((∃ v, Told P vals i oi a v ∧ YieldsD P md ops w0 env oi v a ∧ DetB P md ops Q w0 K vals n (listed.setIfInBounds i true) (a.put oi.dst v) env) ∨
       (∃ R, vals[i]? = some (.rel R) ∧ YieldsR P md ops w0 env oi R a ∧ ∀ v F, (∃ w, Env w0 (⟨i, F, R v F⟩ :: env) w) → DetB P md ops Q w0 K vals n (listed.setIfInBounds i true) (a.put oi.dst v) (⟨i, F, R v F⟩ :: env))))

section
variable {P : Program} {md : Region.Mode} {ops : Array Oper} {Q : Exit → Act → World → Prop} {w0 : World} {K : Nat} {vals : List TellM}

theorem DetB.perm : ∀ (n : Nat) (listed : Array Bool) (a : Act) (env env' : List Ent), env.Perm env' → DetB P md ops Q w0 K vals n listed a env → DetB P md ops Q w0 K vals n listed a env'
  | 0, _, _, _, _, he, h => ⟨h.1, fun w hw => h.2 w (hw.perm he.symm)⟩
  | n + 1, listed, a, env, env', he, h => by
    rcases h with h | ⟨hne, h⟩
    · exact .inl ⟨fun j hj hjK => by
        obtain ⟨oj, v, h1, h2, h3, h4⟩ := h.1 j hj hjK
        exact ⟨oj, v, h1, h2, h3.perm he, DetB.perm n _ _ _ _ he h4⟩, fun w hw => h.2 w (hw.perm he.symm)⟩
    · refine .inr ⟨hne, fun i hi => ?_⟩
      obtain ⟨hK, oi, hoi, ⟨v, hv, hy, h⟩ | ⟨R, hv, hy, h⟩⟩ := h i hi
      · exact ⟨hK, oi, hoi, .inl ⟨v, hv, hy.perm he, DetB.perm n _ _ _ _ he h⟩⟩
      · exact ⟨hK, oi, hoi, .inr ⟨R, hv, hy.perm he, fun v F ⟨w, hw⟩ => DetB.perm n _ _ _ _ (he.cons _) (h v F ⟨w, hw.perm (he.cons _).symm⟩)⟩⟩

theorem DetB.sound : ∀ (n : Nat) (listed : Array Bool) (a : Act) (env : List Ent), DetB P md ops Q w0 K vals n listed a env → ∀ w, Env w0 env w → wpAny P md ops Q n listed a w
  | 0, _, _, _, h, w, hw => h.2 w hw
  | n + 1, listed, a, env, h, w, hw => by
    rcases h with h | ⟨hne, h⟩
    · exact h.2 w hw
    · refine ⟨fun h0 => absurd h0 hne, fun i hi => ?_⟩
      obtain ⟨_, oi, hoi, ⟨v, hv, hy, h⟩ | ⟨R, hv, hy, h⟩⟩ := h i hi
      · exact wpOp_det hoi hy hw fun w' hb => DetB.sound n _ _ _ h w' (hw.step hb)
      · exact wpOp_rel hoi hy hw fun v F w' hw' => DetB.sound n _ _ _ (h v F ⟨w', hw'⟩) w' hw'

/-- 'i' may come up and is free: it may be taken first. -/
theorem DetB.first {i : Nat} {oi : Oper} (hi : ops[i]? = some oi) (hs : Region.noSelect ops = true) (hK : i < K) :
    ∀ (n : Nat) (listed : Array Bool) (a : Act) (env : List Ent), (∃ w, Env w0 env w) → Closed md ops listed → freeK md ops K listed i = true → i ∈ Region.ready md ops listed →
      ((∃ v, Told P vals i oi a v ∧ YieldsD P md ops w0 env oi v a ∧ DetB P md ops Q w0 K vals n (listed.setIfInBounds i true) (a.put oi.dst v) env) ∨
       (∃ R, vals[i]? = some (.rel R) ∧ YieldsR P md ops w0 env oi R a ∧ ∀ v F, (∃ w, Env w0 (⟨i, F, R v F⟩ :: env) w) → DetB P md ops Q w0 K vals n (listed.setIfInBounds i true) (a.put oi.dst v) (⟨i, F, R v F⟩ :: env))) →
      DetB P md ops Q w0 K vals (n + 1) listed a env := by
  intro n
  induction n with
  | zero =>
    intro listed a env hw hcl hf hr H
    refine .inr ⟨List.ne_nil_of_mem hr, fun j hj => ?_⟩
    by_cases hji : j = i
    · subst hji; exact ⟨hK, oi, hi, H⟩
    · exfalso
      obtain ⟨hjun, oj, hoj, hall⟩ := mem_ready.1 hj
      have hno : waitsB md ops 6 j i = false := by
        cases hwt : waitsB md ops 6 j i with
        | false => rfl
        | true =>
          obtain ⟨hiun, _⟩ := mem_ready.1 hr
          have := waitsB_spec hcl 6 j i oj hoj hall hwt
          rw [getD_false_true hiun] at this
          cases this
      have hfree := freeK_spec hi hf hoj hji hjun hno
      have hj' := ready_mono hj hji
      have hleaf : ∀ t ∈ Region.ready md ops (listed.setIfInBounds i true), K ≤ t := by
        rcases H with ⟨v, _, _, h⟩ | ⟨R, _, hy, h⟩
        · exact h.1
        · obtain ⟨w, hw⟩ := hw
          obtain ⟨v, F, w', hw'⟩ := hy.some i hw
          exact (h v F ⟨w', hw'⟩).1
      have := hleaf j hj'
      omega
  | succ n ih =>
    intro listed a env hwx hcl hf hr H
    refine .inr ⟨List.ne_nil_of_mem hr, fun j hj => ?_⟩
    by_cases hji : j = i
    · subst hji; exact ⟨hK, oi, hi, H⟩
    · obtain ⟨hjun, oj, hoj, hall⟩ := mem_ready.1 hj
      obtain ⟨hiun, _⟩ := mem_ready.1 hr
      have hno : waitsB md ops 6 j i = false := by
        cases hwt : waitsB md ops 6 j i with
        | false => rfl
        | true =>
          have := waitsB_spec hcl 6 j i oj hoj hall hwt
          rw [getD_false_true hiun] at this
          cases this
      obtain ⟨hap, hjK⟩ := freeK_spec hi hf hoj hji hjun hno
      have hj' := ready_mono hj hji
      have hi' : i ∈ Region.ready md ops (listed.setIfInBounds j true) := ready_mono hr (Ne.symm hji)
      have hf' := freeK_mono (j := j) hf
      have hcl' := hcl.set hj
      obtain ⟨h1, h2, h3⟩ := Oper.apart_spec hap
      have hsi := noSel hs hi
      have hsj := noSel hs hoj
      refine ⟨hjK, oj, hoj, ?_⟩
      -- what the state behind 'i' says of 'j', whatever 'i' has left
      have look : ∀ (x : Value) (env' : List Ent), env'.filter (depB md oj) = env.filter (depB md oj) → DetB P md ops Q w0 K vals (n + 1) (listed.setIfInBounds i true) (a.put oi.dst x) env' →
          ((∃ u, Told P vals j oj a u ∧ YieldsD P md ops w0 env oj u a ∧ DetB P md ops Q w0 K vals n ((listed.setIfInBounds j true).setIfInBounds i true) ((a.put oj.dst u).put oi.dst x) env') ∨
           (∃ R, vals[j]? = some (.rel R) ∧ YieldsR P md ops w0 env oj R a ∧ ∀ u G, (∃ w, Env w0 (⟨j, G, R u G⟩ :: env') w) → DetB P md ops Q w0 K vals n ((listed.setIfInBounds j true).setIfInBounds i true) ((a.put oj.dst u).put oi.dst x) (⟨j, G, R u G⟩ :: env'))) := by
        intro x env' henv h
        have he := execOp_put oj hsj a oi.dst x h1
        have hw := wanted_put oj a oi.dst x h1
        rcases h with h | ⟨_, h⟩
        · obtain ⟨oj', u, hoj', hu, hy, h⟩ := h.1 j hj' hjK
          obtain rfl : oj' = oj := Option.some.inj (hoj'.symm.trans hoj)
          refine .inl ⟨u, hu.of_same he.symm, hy.of_same he.symm hw.symm henv.symm, ?_⟩
          rw [← listed_comm listed i j hji, ← Act.put_comm a x u h2]; exact h
        · obtain ⟨_, oj', hoj', h⟩ := h j hj'
          obtain rfl : oj' = oj := Option.some.inj (hoj'.symm.trans hoj)
          rcases h with ⟨u, hu, hy, h⟩ | ⟨R, ho, hy, h⟩
          · refine .inl ⟨u, hu.of_same he.symm, hy.of_same he.symm hw.symm henv.symm, ?_⟩
            rw [← listed_comm listed i j hji, ← Act.put_comm a x u h2]; exact h
          · refine .inr ⟨R, ho, hy.of_same he.symm hw.symm henv.symm, fun u G hG => ?_⟩
            rw [← listed_comm listed i j hji, ← Act.put_comm a x _ h2]; exact h u G hG
      have keepE : ∀ u, execOp (a.put oj.dst u).eval oi = execOp a.eval oi := fun u => execOp_put oi hsi a oj.dst u h3
      have keepW : ∀ u, Region.wanted oi (yielded ops (a.put oj.dst u).tmps) = Region.wanted oi (yielded ops a.tmps) := fun u => wanted_put oi a oj.dst u h3
      have keepF : ∀ (G : List Nat) (p : World → Prop), (⟨j, G, p⟩ :: env : List Ent).filter (depB md oi) = env.filter (depB md oi) := fun G p => dep_not hi hr hjun G p env
      have keepG : ∀ (F : List Nat) (p : World → Prop), (⟨i, F, p⟩ :: env : List Ent).filter (depB md oj) = env.filter (depB md oj) := fun F p => dep_not hoj hj hiun F p env
      rcases H with ⟨v, hv, hy, H⟩ | ⟨R, hv, hy, H⟩
      · rcases look v env rfl H with ⟨u, hu, hyj, h⟩ | ⟨Rj, hu, hyj, h⟩
        · exact .inl ⟨u, hu, hyj, ih _ _ _ hwx hcl' hf' hi' (.inl ⟨v, hv.of_same (keepE u), hy.of_same (keepE u) (keepW u) rfl, h⟩)⟩
        · exact .inr ⟨Rj, hu, hyj, fun u G hG => ih _ _ _ hG hcl' hf' hi' (.inl ⟨v, hv.of_same (keepE _), hy.of_same (keepE _) (keepW _) (keepF _ _), h u G hG⟩)⟩
      · obtain ⟨wx, hwx'⟩ := hwx
        obtain ⟨v0, F0, w', hw0⟩ := hy.some i hwx'
        rcases look _ _ (keepG _ _) (H v0 F0 ⟨w', hw0⟩) with ⟨u, hu, hyj, _⟩ | ⟨Rj, hu, hyj, _⟩
        · refine .inl ⟨u, hu, hyj, ih _ _ _ ⟨wx, hwx'⟩ hcl' hf' hi' (.inr ⟨R, hv, hy.of_same (keepE u) (keepW u) rfl, fun v F hF => ?_⟩)⟩
          rcases look _ _ (keepG _ _) (H v F hF) with ⟨u', hu', _, h⟩ | ⟨Rj, hu', _, _⟩
          · obtain rfl : u' = u := hu'.one wx hu
            exact h
          · exact (hu.not hu').elim
        · refine .inr ⟨Rj, hu, hyj, fun u G hG => ih _ _ _ hG hcl' hf' hi' (.inr ⟨R, hv, hy.of_same (keepE _) (keepW _) (keepF _ _), fun v F hF => ?_⟩)⟩
          obtain ⟨w2, hw2⟩ := hF
          rcases look _ _ (keepG _ _) (H v F ⟨w2, hw2.swap.tail⟩) with ⟨u', hu', _, _⟩ | ⟨Rj', hu', _, h⟩
          · exact (hu'.not hu).elim
          · obtain rfl : Rj' = Rj := by rw [hu] at hu'; injection hu' with e; injection e with e; exact e.symm
            exact DetB.perm n _ _ _ _ (List.Perm.swap _ _ _) (h u G ⟨w2, hw2.swap⟩)

/-- Which have come up. -/
def mark (n : Nat) (l : List Nat) : Array Bool := l.foldr (fun i L => L.setIfInBounds i true) (Array.replicate n false)

def okM (ops : Array Oper) (K : Nat) (l : List Nat) (i : Nat) : Bool :=
  closedB .any ops (mark ops.size l) && Region.noSelect ops && decide (i < K) && freeK .any ops K (mark ops.size l) i && (Region.ready .any ops (mark ops.size l)).contains i

/-- The walk in an order of one's own: l have come up, the last one first. -/
def DetM (P : Program) (ops : Array Oper) (Q : Exit → Act → World → Prop) (w0 : World) (K : Nat) (vals : List TellM) (n : Nat) (l : List Nat) (a : Act) (env : List Ent) : Prop :=
  (∃ w, Env w0 env w) → DetB P .any ops Q w0 K vals n (mark ops.size l) a env

theorem detM_begin {id : Nat} {a : Act} {w : World} (vals : List TellM) (K n : Nat) (hn : (n == ops.size) = true) (hm : P.follows .mixedOrders = true)
    (h : DetM P ops Q w.drew K vals n [] a []) : (Code.region id ops true).wp P Q a w := by
  obtain rfl : n = ops.size := by simpa using hn
  have h0 : Env w.drew [] w.drew := ⟨Below.refl _ _, (fun p hp => by cases hp), List.Pairwise.nil⟩
  exact wp_region_any hm (DetB.sound _ _ _ _ (h ⟨_, h0⟩) _ h0)

theorem detM_val (i : Nat) {oi : Oper} {v : Value} {n : Nat} {l : List Nat} {a : Act} {env : List Ent} (hok : okM ops K l i = true) (hi : ops[i]? = some oi) (hv : vals[i]? = some (.val v)) (hy : YieldsD P .any ops w0 env oi v a)
    (h : DetM P ops Q w0 K vals n (i :: l) (a.put oi.dst v) env) : DetM P ops Q w0 K vals (n + 1) l a env := by
  intro hw
  simp only [okM, Bool.and_eq_true] at hok
  obtain ⟨⟨⟨⟨q0, q1⟩, q2⟩, q3⟩, q4⟩ := hok
  exact DetB.first hi q1 (of_decide_eq_true q2) n _ a env hw (closedB_spec q0) q3 (by simpa using q4) (.inl ⟨v, .inl hv, hy, h hw⟩)
theorem detM_pure (i : Nat) {oi : Oper} (v : Value) {n : Nat} {l : List Nat} {a : Act} {env : List Ent} (hok : okM ops K l i = true) (hi : ops[i]? = some oi) (hv : vals[i]? = some .pure) (hg : Region.wanted oi (yielded ops a.tmps) = true) (hy : ∀ w, (execOp a.eval oi).run P w = .ok (.value v) w)
    (h : DetM P ops Q w0 K vals n (i :: l) (a.put oi.dst v) env) : DetM P ops Q w0 K vals (n + 1) l a env := by
  intro hw
  simp only [okM, Bool.and_eq_true] at hok
  obtain ⟨⟨⟨⟨q0, q1⟩, q2⟩, q3⟩, q4⟩ := hok
  exact DetB.first hi q1 (of_decide_eq_true q2) n _ a env hw (closedB_spec q0) q3 (by simpa using q4) (.inl ⟨v, .inr ⟨hv, hy⟩, yields_of hg (fun w _ => by rw [hy]; exact Det1_same), h hw⟩)
theorem detM_rel (i : Nat) {oi : Oper} {R : Value → List Nat → World → Prop} {n : Nat} {l : List Nat} {a : Act} {env : List Ent} (hok : okM ops K l i = true) (hi : ops[i]? = some oi) (hv : vals[i]? = some (.rel R)) (hy : YieldsR P .any ops w0 env oi R a)
    (h : ∀ v F w, Env w0 (⟨i, F, R v F⟩ :: env) w → DetM P ops Q w0 K vals n (i :: l) (a.put oi.dst v) (⟨i, F, R v F⟩ :: env)) : DetM P ops Q w0 K vals (n + 1) l a env := by
  intro hw
  simp only [okM, Bool.and_eq_true] at hok
  obtain ⟨⟨⟨⟨q0, q1⟩, q2⟩, q3⟩, q4⟩ := hok
  exact DetB.first hi q1 (of_decide_eq_true q2) n _ a env hw (closedB_spec q0) q3 (by simpa using q4) (.inr ⟨R, hv, hy, fun v F hF => h v F _ hF.choose_spec hF⟩)

theorem wpOps_picked : ∀ (r : List Nat) (os : List Oper), r.map (ops[·]?) = os.map some → wpOps P ops Q r = wpList P ops Q os
  | [], [], _ => by funext a w; simp [wpOps, wpList]
  | [], _ :: _, h => by simp at h
  | _ :: _, [], h => by simp at h
  | i :: r, o :: os, h => by
    simp only [List.map_cons, List.cons.injEq] at h
    funext a w
    simp only [wpOps, h.1, wpList, wpOps_picked r os h.2]
theorem wpOp_value {i : Nat} {oi : Oper} {v : Value} {a : Act} {w : World} {Kt : Act → World → Prop} (hi : ops[i]? = some oi) (hg : Region.wanted oi (yielded ops a.tmps) = true) (hr : (execOp a.eval oi).run P w = .ok (.value v) w)
    (hK : Kt (a.put oi.dst v) w) : wpOp P ops Q i Kt a w := by
  unfold wpOp
  simp only [hi, hg, if_true]
  refine .inl ?_
  unfold Oper.wp
  rw [hr]
  exact hK
def okPair (ops : Array Oper) (K : Nat) (L : Array Bool) (i j : Nat) : Bool :=
  Region.noSelect ops && (i != j) &&
  (Region.ready .any ops L).all (fun x => x == i || x == j || decide (K ≤ x)) && (Region.ready .any ops L).contains i &&
  (Region.ready .any ops (L.setIfInBounds i true)).all (fun x => x == j || decide (K ≤ x)) && (Region.ready .any ops (L.setIfInBounds i true)).contains j &&
  (Region.ready .any ops (L.setIfInBounds j true)).all (fun x => x == i || decide (K ≤ x)) && (Region.ready .any ops (L.setIfInBounds j true)).contains i &&
  (Region.ready .any ops ((L.setIfInBounds i true).setIfInBounds j true)).all (fun x => decide (K ≤ x)) &&
  Region.free .any ops L i && Region.free .any ops (L.setIfInBounds i true) j && Region.free .any ops (L.setIfInBounds j true) i
/-- Two operations that only hand on a slot, beside what has to come behind them. -/
theorem detM_pair (i j : Nat) {oi oj : Oper} (v u : Value) {n : Nat} {l : List Nat} {a : Act} {env : List Ent} (hB : okPair ops K (mark ops.size l) i j = true)
    (hi : ops[i]? = some oi) (hj : ops[j]? = some oj) (hvi : vals[i]? = some .pure) (hvj : vals[j]? = some .pure)
    (hQ1 : ∀ c a w, Q (.panic c) (a.put oi.dst v) w → Q (.panic c) a w) (hQ2 : ∀ c a w, Q (.panic c) (a.put oj.dst u) w → Q (.panic c) a w)
    (gi : Region.wanted oi (yielded ops a.tmps) = true) (gi' : Region.wanted oi (yielded ops (a.put oj.dst u).tmps) = true) (gj : Region.wanted oj (yielded ops a.tmps) = true) (gj' : Region.wanted oj (yielded ops (a.put oi.dst v).tmps) = true)
    (ri : ∀ w, (execOp a.eval oi).run P w = .ok (.value v) w) (ri' : ∀ w, (execOp (a.put oj.dst u).eval oi).run P w = .ok (.value v) w)
    (rj : ∀ w, (execOp a.eval oj).run P w = .ok (.value u) w) (rj' : ∀ w, (execOp (a.put oi.dst v).eval oj).run P w = .ok (.value u) w)
    (hc : (a.put oi.dst v).put oj.dst u = (a.put oj.dst u).put oi.dst v)
    (h : ∀ w, Env w0 env w → wpAny P .any ops Q n (((mark ops.size l).setIfInBounds i true).setIfInBounds j true) ((a.put oi.dst v).put oj.dst u) w) : DetM P ops Q w0 K vals (n + 1 + 1) l a env := by
  intro _
  simp only [okPair, Bool.and_eq_true, bne_iff_ne, ne_eq] at hB
  obtain ⟨⟨⟨⟨⟨⟨⟨⟨⟨⟨⟨q0, q1⟩, q2⟩, q3⟩, q4⟩, q5⟩, q6⟩, q7⟩, q8⟩, q9⟩, q10⟩, q11⟩ := hB
  generalize hL : mark ops.size l = L at *
  have hcomm : (L.setIfInBounds i true).setIfInBounds j true = (L.setIfInBounds j true).setIfInBounds i true := listed_comm L i j (fun e => q1 e.symm)
  have yi : YieldsD P .any ops w0 env oi v a := yields_of gi fun w _ => by rw [ri]; exact Det1_same
  have yi' : YieldsD P .any ops w0 env oi v (a.put oj.dst u) := yields_of gi' fun w _ => by rw [ri']; exact Det1_same
  have yj : YieldsD P .any ops w0 env oj u a := yields_of gj fun w _ => by rw [rj]; exact Det1_same
  have yj' : YieldsD P .any ops w0 env oj u (a.put oi.dst v) := yields_of gj' fun w _ => by rw [rj']; exact Det1_same
  have hLate : ∀ x ∈ Region.ready .any ops ((L.setIfInBounds i true).setIfInBounds j true), K ≤ x := fun x hx => by simpa using List.all_eq_true.1 q8 x hx
  have D2 : DetB P .any ops Q w0 K vals n ((L.setIfInBounds i true).setIfInBounds j true) ((a.put oi.dst v).put oj.dst u) env := by
    cases n with
    | zero => exact ⟨hLate, h⟩
    | succ n => exact .inl ⟨fun x hx hK => absurd (hLate x hx) (by omega), h⟩
  have Hi : ∀ w, Env w0 env w → wpAny P .any ops Q (n + 1) (L.setIfInBounds i true) (a.put oi.dst v) w := fun w hw => wpAny_take hj q0 q10 q5 hQ2 (.inl ⟨gj', rj'⟩) (h w hw)
  have Hj : ∀ w, Env w0 env w → wpAny P .any ops Q (n + 1) (L.setIfInBounds j true) (a.put oj.dst u) w := fun w hw => wpAny_take hi q0 q11 q7 hQ1 (.inl ⟨gi', ri'⟩) (by rw [← hcomm, ← hc]; exact h w hw)
  have H : ∀ w, Env w0 env w → wpAny P .any ops Q (n + 1 + 1) L a w := fun w hw => wpAny_take hi q0 q9 q3 hQ1 (.inl ⟨gi, ri⟩) (Hi w hw)
  refine .inl ⟨fun x hx hK => ?_, H⟩
  have hx' : (x = i ∨ x = j) ∨ K ≤ x := by simpa using List.all_eq_true.1 q2 x hx
  rcases hx' with (rfl | rfl) | hx'
  · refine ⟨oi, v, hi, .inr ⟨hvi, ri⟩, yi, .inl ⟨fun y hy hK' => ?_, Hi⟩⟩
    have hy' : y = j ∨ K ≤ y := by simpa using List.all_eq_true.1 q4 y hy
    rcases hy' with rfl | hy'
    · exact ⟨oj, u, hj, .inr ⟨hvj, rj'⟩, yj', D2⟩
    · omega
  · refine ⟨oj, u, hj, .inr ⟨hvj, rj⟩, yj, .inl ⟨fun y hy hK' => ?_, Hj⟩⟩
    have hy' : y = i ∨ K ≤ y := by simpa using List.all_eq_true.1 q6 y hy
    rcases hy' with rfl | hy'
    · exact ⟨oi, v, hi, .inr ⟨hvi, ri'⟩, yi', by rw [← hcomm, ← hc]; exact D2⟩
    · omega
  · omega
end
end Go.Proofs.YtlilnbcklplmfaaGreatDoor

/- Expressions within statements: 'k = 1', and values that stand alone. -/
namespace Go.Proofs.YtlilnbcklplmfaaGreatDoor
open Go.RowKit Go.Lib

set_option maxRecDepth 100000 in
set_option maxHeartbeats 4000000 in
theorem plain_str {N : Nat} (g : Nat) (A : Option Addr) (c : Nat) (l : List Tn) (at' ask : Nat) (failed : Bool) (s : ByteArray) (w : World) (hz : Pz w g A c l at' ask failed) (hl : l.length ≤ 100000) (ha : at' ≤ 100000) (hx : Nx l at' failed ⟨3, s⟩) (hs : s.size ≤ 100000) :
    Calls Tryz.prog 283 #[.pointer (some ⟨g, 0, none⟩)] w (Res w g A c l N (fun _ => False) (litT ⟨2, 0, s⟩) (at' + 1) ask failed) := by
  have HZ := Lib.hid hz
  have hgl := hz.lt
  have HX := Lib.hid (And.intro hx (show isB ⟨3, s⟩ ⟨#[45]⟩ = false by simp [isB]))
  clear hz hx
  have hne0 : ¬ w.heap.size = g := by omega
  go_enter Tryz.func283, Tryz.ntmps283
  go_wp2_with (first
    | (go_at_call 259; refine (take_no g A c l at' ask failed _ 1 [⟨#[45]⟩] (⟨3, s⟩ : Tn) _ ((HZ.out.alloc _).alloc _) hl HX.out.1 (wds1 _ (by simp) ⟨#[45]⟩) (by simp) (all1 HX.out.2)).mono ?_; rintro e w1 ⟨rfl, hb1⟩; have hc1 := (bcell hb1).1; have hf1 := (bcell hb1).2; have hy1 := hb1.size; (try simp at hy1); have hz1_0 : w.heap.size < w1.heap.size := (by omega); have HB1 : Hid (Below w.heap.size w w1) := (((Below.refl _ _).alloc (Nat.le_refl _) _).alloc (by simp) _).trans (hb1.mono (by simp; omega)); have HZ1 := Lib.hid (HZ.out.below HB1.out); have HD1 : Hid (Below (w.heap.size + 1) (w.alloc (.cells #[.string ⟨#[]⟩, .int .i64 0, .int .i64 0, .string ⟨#[]⟩, .string ⟨#[]⟩, .slice none 0 0] 30)) w1) := ((Below.refl _ _).alloc (by simp) _).trans (hb1.mono (by simp)))
    | (go_at_call 278; refine (next_any g A c l at' ask failed _ HZ1.out hl (⟨3, s⟩ : Tn) HX.out.1).mono ?_; rintro e w2 ⟨rfl, hb2⟩; have hc2 := (bcell hb2).1; have hf2 := (bcell hb2).2; have hy2 := hb2.size; (try simp at hy2); have hz2_0 : w.heap.size < w2.heap.size := (by omega); have HB2 : Hid (Below w.heap.size w w2) := HB1.out.trans (hb2.mono (by omega)); have HD2 : Hid (Below (w.heap.size + 1) (w.alloc (.cells #[.string ⟨#[]⟩, .int .i64 0, .int .i64 0, .string ⟨#[]⟩, .string ⟨#[]⟩, .slice none 0 0] 30)) w2) := HD1.out.trans (hb2.mono (by omega)); have HZ2 := Lib.hid (HZ1.out.below hb2); have d1 := HZ2.out.c1; have df := HZ2.out.fz 1; have hg2 : g < w2.heap.size := (by omega); have hnz : ¬ w2.heap.size = g := (by omega); have hzx : w.heap.size < w2.heap.size + 1 := (by omega); have hbx : w2.heap[w.heap.size]? = some (.cells #[.string ⟨#[]⟩, .int .i64 0, .int .i64 0, .string ⟨#[]⟩, .string ⟨#[]⟩, .slice none 0 0] 30 (0, 0)) := ((HD2.out.block _ (by omega)).trans (alloc_at rfl _)); have EZ := box_cells (t := zT) hbx; have y0 := EZ.c0; have y1 := EZ.c1; have y2 := EZ.c2; have y3 := EZ.c3; have y4 := EZ.c4; have y5 := EZ.c5; have yf := Lib.frozen_of_heap hbx; simp only [Nat.zero_add] at y0 y1 y2 y3 y4 y5; clear EZ))
  clear hc1 hc2 hf1 hf2
  refine bodyPost_ret (v := .agg #[.string ⟨#[108, 105, 116]⟩, .int .i64 2, .int .i64 0, .string s, .string ⟨#[]⟩, .slice none 0 0]) (by simp [results, Tryz.results283, go_sem, *]) rfl ?_
  exact (Res.leaf ⟨#[108, 105, 116]⟩ ⟨2, 0, s⟩ ⟨#[]⟩ (by decide) (HZ2.out.goto (at' + 1)) (grow_trans (grow_below HB2.out _) (grow_set _ _ _ _)) (Nat.le_refl _) hgl).alloc _
/-- One token that is an expression, and one behind that goes on with none. -/
theorem run_leaf (A : Option Addr) (c : Nat) (l : List Tn) (tn tn1 : Tn) (t : Ex) (hl : l.length ≤ 100000) (hx : Nx l 0 false tn) (hx1 : Nx l 1 false tn1) (h1 : isB tn ⟨#[78, 79, 84]⟩ = false) (h2 : isB tn ⟨#[40]⟩ = false)
    (n1 : isB tn1 ⟨#[43]⟩ = false) (n2 : isB tn1 ⟨#[45]⟩ = false) (n3 : isB tn1 ⟨#[61]⟩ = false) (n4 : isB tn1 ⟨#[60]⟩ = false) (n5 : isB tn1 ⟨#[73, 83]⟩ = false) (n6 : isB tn1 ⟨#[65, 78, 68]⟩ = false) (n7 : isB tn1 ⟨#[79, 82]⟩ = false)
    (hp : ∀ g W, Pz W g A c l 0 0 false → Calls Tryz.prog 283 #[.pointer (some ⟨g, 0, none⟩)] W (Res W g A c l 0 (fun _ => False) t 1 0 false)) (g : Nat) (W : World) (hz : Pz W g A c l 0 0 false) :
    Calls Tryz.prog 215 #[.pointer (some ⟨g, 0, none⟩)] W (Res W g A c l 0 (fun _ => False) t 1 0 false) := by
  refine por_any (N := 0) g A c l 0 0 false t t 1 1 false false W hz (fun W hz => ?_) (fun Q W u _ hz ht => orFrom_n g A c l 1 0 false tn1 Q t u W hz hl hx1 ht n6 n7)
  refine pnot_any (N := 0) g A c l 0 0 false tn t t 1 1 false false W hz hl hx h1 (fun W hz => ?_) (fun Q W u _ hz ht => cmpFrom_n g A c l 1 0 false tn1 Q t u W hz hl hx1 ht n1 n2 n3 n4 n5)
  refine atom_plain g A c l 0 0 false tn t 1 false W hz hl hx h2 (fun W hz => hp g W hz)
def Lk : List Tn := [⟨1, ⟨#[107]⟩⟩, ⟨4, ⟨#[61]⟩⟩, ⟨2, ⟨#[49]⟩⟩]
theorem lk : Lk.length ≤ 100000 := by decide
theorem nk0 : Nx Lk 0 false (⟨1, ⟨#[107]⟩⟩ : Tn) := nx_at rfl (by decide) (by decide)
theorem nk1 : Nx Lk 1 false (⟨4, ⟨#[61]⟩⟩ : Tn) := nx_at rfl (by decide) (by decide)
theorem nk2 : Nx Lk 2 false (⟨2, ⟨#[49]⟩⟩ : Tn) := nx_at rfl (by decide) (by decide)
theorem nk3 : Nx Lk 3 false ⟨0, ⟨#[]⟩⟩ := nx_last rfl false
def keT : Ex := twoT ⟨#[61]⟩ (colT ⟨#[107]⟩) (litT ⟨1, 1, ⟨#[]⟩⟩)
theorem fm_k : fmT (colT ⟨#[107]⟩) = true := by rw [fm_colT, show nameB ⟨#[107]⟩ = true by decide, res_no (by decide)]; rfl
theorem w_k (d : Nat) (m : Int) (h : 1 ≤ m) : withinF (d + 1) (colT ⟨#[107]⟩) m = (true, m - 1) := within_leaf fm_k rfl h
theorem may_k : mayT (colT ⟨#[107]⟩) = true := by unfold mayT; rw [w_k 11 60 (by omega)]
theorem may_ke : mayT keT = true := by unfold mayT; rw [show withinF 12 keT 60 = (true, 60 - 1 - 1 - 1) from within_two (fm_twoT _ _ _ (by rw [toList_data]; decide)) (by omega) (w_k 10 (60 - 1) (by omega)) (w_1 10 (60 - 1 - 1) (by omega))]
theorem run_ke (A : Option Addr) (c : Nat) (g : Nat) (W : World) (hz : Pz W g A c Lk 0 0 false) :
    Calls Tryz.prog 215 #[.pointer (some ⟨g, 0, none⟩)] W (Res W g A c Lk 1 (fun _ => False) keT 3 0 false) := by
  refine por_any (N := 1) g A c Lk 0 0 false keT keT 3 3 false false W hz (fun W hz => ?_) (fun Q W u _ hz ht => orFrom_n g A c Lk 3 0 false ⟨0, ⟨#[]⟩⟩ Q keT u W hz lk nk3 ht (isz _) (isz _))
  refine pnot_any (N := 0) g A c Lk 0 0 false (⟨1, ⟨#[107]⟩⟩ : Tn) (colT ⟨#[107]⟩) keT 1 3 false false W hz lk nk0 (by unfold isB; simp only [toList_data]; decide) (fun W hz => ?_) (fun Q W u hQ hz ht => ?_)
  · refine atom_plain g A c Lk 0 0 false (⟨1, ⟨#[107]⟩⟩ : Tn) _ 1 false W hz lk nk0 (by unfold isB; simp only [toList_data]; decide) (fun W hz => ?_)
    exact plain_word g A c Lk 0 0 false ⟨#[107]⟩ _ 1 false W hz lk (by omega) nk0 (by unfold isB; simp only [toList_data]; decide) (by decide) (fun W hz => word_col g A c Lk 1 0 false ⟨#[107]⟩ W hz (name_no (by decide) (by decide) (by decide) (by decide)) (by decide) may_k)
  · refine cmpFrom_eq g A c Lk 1 0 false (⟨4, ⟨#[61]⟩⟩ : Tn) Q (colT ⟨#[107]⟩) (litT ⟨1, 1, ⟨#[]⟩⟩) u 3 false W hz lk (by omega) (by omega) nk1 ht hQ (by unfold isB; simp only [toList_data]; decide) (by unfold isB; simp only [toList_data]; decide) (by unfold isB; simp only [toList_data]; decide) may_ke (fun W hz => ?_)
    refine psum_any (N := 0) g A c Lk 2 1 false _ _ 3 3 false false W hz (fun W hz => ?_) (fun Q W u hQ hz ht => sumFrom_n g A c Lk 3 1 false ⟨0, ⟨#[]⟩⟩ Q _ u W hz lk nk3 ht (isz _) (isz _))
    refine atom_plain g A c Lk 2 1 false (⟨2, ⟨#[49]⟩⟩ : Tn) _ 3 false W hz lk nk2 (by unfold isB; simp only [toList_data]; decide) (fun W hz => ?_)
    exact plain_num g A c Lk 2 1 false ⟨#[49]⟩ _ 3 false W hz lk (by omega) nk2 (by unfold isB; simp only [toList_data]; decide) (by decide) (fun W hz => number_ok g A c Lk 3 1 false ⟨#[49]⟩ 1 W hz (by decide) (by decide))
def VLa : List Tn := [⟨2, ⟨#[49]⟩⟩, ⟨4, ⟨#[44]⟩⟩, ⟨3, ⟨#[97]⟩⟩, ⟨4, ⟨#[44]⟩⟩, ⟨1, ⟨#[78, 85, 76, 76]⟩⟩, ⟨4, ⟨#[41]⟩⟩]
theorem run_La (A : Option Addr) (c : Nat) (g : Nat) (W : World) (hz : Pz W g A c VLa 0 0 false) : Calls Tryz.prog 215 #[.pointer (some ⟨g, 0, none⟩)] W (Res W g A c VLa 0 (fun _ => False) (litT ⟨1, 1, ⟨#[]⟩⟩) 1 0 false) :=
  run_leaf A c VLa (⟨2, ⟨#[49]⟩⟩ : Tn) (⟨4, ⟨#[44]⟩⟩ : Tn) (litT ⟨1, 1, ⟨#[]⟩⟩) (by decide) (nx_at rfl (by decide) (by decide)) (nx_at rfl (by decide) (by decide)) (by unfold isB; simp only [toList_data]; decide) (by unfold isB; simp only [toList_data]; decide) (by unfold isB; simp only [toList_data]; decide) (by unfold isB; simp only [toList_data]; decide) (by unfold isB; simp only [toList_data]; decide) (by unfold isB; simp only [toList_data]; decide) (by unfold isB; simp only [toList_data]; decide) (by unfold isB; simp only [toList_data]; decide) (by unfold isB; simp only [toList_data]; decide)
    (fun g W hz => plain_num g A c VLa 0 0 false ⟨#[49]⟩ _ 1 false W hz (by decide) (by omega) (nx_at rfl (by decide) (by decide)) (by unfold isB; simp only [toList_data]; decide) (by decide) (fun W hz => number_ok g A c VLa 1 0 false ⟨#[49]⟩ 1 W hz (by decide) (by decide))) g W hz
def VLb : List Tn := [⟨3, ⟨#[97]⟩⟩, ⟨4, ⟨#[44]⟩⟩, ⟨1, ⟨#[78, 85, 76, 76]⟩⟩, ⟨4, ⟨#[41]⟩⟩]
theorem run_Lb (A : Option Addr) (c : Nat) (g : Nat) (W : World) (hz : Pz W g A c VLb 0 0 false) : Calls Tryz.prog 215 #[.pointer (some ⟨g, 0, none⟩)] W (Res W g A c VLb 0 (fun _ => False) (litT ⟨2, 0, ⟨#[97]⟩⟩) 1 0 false) :=
  run_leaf A c VLb (⟨3, ⟨#[97]⟩⟩ : Tn) (⟨4, ⟨#[44]⟩⟩ : Tn) (litT ⟨2, 0, ⟨#[97]⟩⟩) (by decide) (nx_at rfl (by decide) (by decide)) (nx_at rfl (by decide) (by decide)) (by unfold isB; simp only [toList_data]; decide) (by unfold isB; simp only [toList_data]; decide) (by unfold isB; simp only [toList_data]; decide) (by unfold isB; simp only [toList_data]; decide) (by unfold isB; simp only [toList_data]; decide) (by unfold isB; simp only [toList_data]; decide) (by unfold isB; simp only [toList_data]; decide) (by unfold isB; simp only [toList_data]; decide) (by unfold isB; simp only [toList_data]; decide)
    (fun g W hz => plain_str g A c VLb 0 0 false ⟨#[97]⟩ W hz (by decide) (by omega) (nx_at rfl (by decide) (by decide)) (by decide)) g W hz
def VLc : List Tn := [⟨1, ⟨#[78, 85, 76, 76]⟩⟩, ⟨4, ⟨#[41]⟩⟩]
theorem run_Lc (A : Option Addr) (c : Nat) (g : Nat) (W : World) (hz : Pz W g A c VLc 0 0 false) : Calls Tryz.prog 215 #[.pointer (some ⟨g, 0, none⟩)] W (Res W g A c VLc 0 (fun _ => False) (litT ⟨0, 0, ⟨#[]⟩⟩) 1 0 false) :=
  run_leaf A c VLc (⟨1, ⟨#[78, 85, 76, 76]⟩⟩ : Tn) (⟨4, ⟨#[41]⟩⟩ : Tn) (litT ⟨0, 0, ⟨#[]⟩⟩) (by decide) (nx_at rfl (by decide) (by decide)) (nx_at rfl (by decide) (by decide)) (by unfold isB; simp only [toList_data]; decide) (by unfold isB; simp only [toList_data]; decide) (by unfold isB; simp only [toList_data]; decide) (by unfold isB; simp only [toList_data]; decide) (by unfold isB; simp only [toList_data]; decide) (by unfold isB; simp only [toList_data]; decide) (by unfold isB; simp only [toList_data]; decide) (by unfold isB; simp only [toList_data]; decide) (by unfold isB; simp only [toList_data]; decide)
    (fun g W hz => plain_word g A c VLc 0 0 false ⟨#[78, 85, 76, 76]⟩ _ 1 false W hz (by decide) (by omega) (nx_at rfl (by decide) (by decide)) (by unfold isB; simp only [toList_data]; decide) (by decide) (fun W hz => word_lit g A c VLc 1 0 false ⟨#[78, 85, 76, 76]⟩ 0 0 ⟨#[]⟩ W hz (by kernel_rfl) (by kernel_rfl) (by unfold In64; omega) (by decide))) g W hz
end Go.Proofs.YtlilnbcklplmfaaGreatDoor
