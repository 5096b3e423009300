import Derived.Test.YtmgcmiflbjhakaaGreatDoorW12
import Derived.Deep.RegionWith

/- The parser: two parts with a word between. -/
namespace Go.Proofs.YtmgcmiflbjhakaaGreatDoor
open Go.RowKit Go.Lib

theorem gcellD {W w1 : World} {g : Nat} (h : W.drew.grownBy w1 (some g)) : ∀ b o, b < W.heap.size → ¬ b = g → w1.cell? ⟨b, o, none⟩ = W.cell? ⟨b, o, none⟩ := (gcell h).1
def twoT (op : ByteArray) (x y : Ex) : Ex := .mk op ⟨0, 0, ⟨#[]⟩⟩ ⟨#[]⟩ [x, y]
/-- The world in which both parts are there. -/
structure Jn (w : World) (g : Nat) (A : Option Addr) (c : Nat) (l : List Tn) (N : Nat) (Q : Nat → Prop) (t t2 : Ex) (u u2 : Value) (at' ask : Nat) (failed : Bool) (W : World) : Prop where
  t1 : Tr W (fun b => (Q b ∧ b < w.heap.size) ∨ w.heap.size + 1 < b) N t u
  t2 : Tr W (fun b => (Q b ∧ b < w.heap.size) ∨ w.heap.size + 1 < b) N t2 u2
  res : ExC W ⟨w.heap.size + 1, 0, none⟩ zT (.slice none 0 0)
  rfz : ∀ o, W.frozen? ⟨w.heap.size + 1, o, none⟩ = false
  pz : Pz W g A c l at' ask failed
  gr : w.grownBy W (some g)
  lt : w.heap.size + 1 < W.heap.size
section
variable {w W W' : World} {g : Nat} {A : Option Addr} {c : Nat} {l : List Tn} {N : Nat} {Q : Nat → Prop} {t t2 : Ex} {u u2 : Value} {at' ask : Nat} {failed : Bool}
theorem Jn.below (h : Jn w g A c l N Q t t2 u u2 at' ask failed W) (hb : Below W.heap.size W W') : Jn w g A c l N Q t t2 u u2 at' ask failed W' :=
  ⟨h.t1.below hb, h.t2.below hb, h.res.keep (hb.block _ h.res.lt), fun o => (hb.frozen (p := ⟨_, o, none⟩) h.res.lt).trans (h.rfz o), h.pz.below hb, grow_trans h.gr (grow_below hb _), Nat.lt_of_lt_of_le h.lt hb.size⟩
theorem Jn.mk' {B2 : Option Addr} {q2 : Nat} {b : Nat} {ws : List ByteArray} {at2 : Nat} {failed2 : Bool} {W1 : World} (h : Chn w g A c l N Q t u at' ask failed b ws W) (hgw : g < w.heap.size) (hQ : ∀ x, Q x → g < x) (hT : Tr W1 (fun x => False ∨ W.heap.size ≤ x) N t2 (.slice B2 t2.l.length q2)) (hP : Pz W1 g A c l at2 ask failed2) (hG : W.grownBy W1 (some g)) : Jn w g A c l N Q t t2 u (.slice B2 t2.l.length q2) at2 ask failed2 W1 := by
  have n1 : some (w.heap.size + 1) ≠ some g := fun e => by injection e with e; omega
  have hl := h.lt
  have hs := hG.size
  exact ⟨h.tr.grown hG (fun hx => by rcases hx with ⟨hx, _⟩ | hx; exact absurd (hQ _ hx) (by omega); omega), hT.keep (fun _ _ _ => rfl) (fun b h _ => h.elim False.elim (fun h => .inr (by omega))), h.res.keep (hG.block _ h.res.lt n1), fun o => (World.frozen?_of_block (w := W) (a := ⟨w.heap.size + 1, o, none⟩) (hG.block _ h.res.lt n1)).trans (h.rfz o), hP, grow_trans h.gr hG, by omega⟩
theorem Jn.two {B B2 : Option Addr} {p p2 q q2 : Nat} (op : ByteArray) (h : Jn w g A c l N Q t t2 (.slice B p q) (.slice B2 p2 q2) at' ask failed W) :
    Tr (W.alloc (.cells #[.string t.op, .int .i64 t.x.k, .int .i64 t.x.i, .string t.x.s, .string t.s, .slice B p q, .string t2.op, .int .i64 t2.x.k, .int .i64 t2.x.i, .string t2.x.s, .string t2.s, .slice B2 p2 q2] 26)) (fun b => (Q b ∧ b < w.heap.size) ∨ w.heap.size + 1 < b) (N + 1) (twoT op t t2) (.slice (some ⟨W.heap.size, 0, none⟩) 2 2) := by
  have hb : Below W.heap.size W (W.alloc (.cells #[.string t.op, .int .i64 t.x.k, .int .i64 t.x.i, .string t.x.s, .string t.s, .slice B p q, .string t2.op, .int .i64 t2.x.k, .int .i64 t2.x.i, .string t2.x.s, .string t2.s, .slice B2 p2 q2] 26)) := (Below.refl _ _).alloc (Nat.le_refl _) _
  have hl := h.lt
  refine ⟨by show (⟨#[]⟩ : ByteArray).size ≤ 100000; decide, some ⟨W.heap.size, 0, none⟩, 2, rfl, by simp [twoT, Ex.l, maxLen], fun j hj => ?_⟩
  have hj : j < 2 := hj
  rcases (show j = 0 ∨ j = 1 by omega) with rfl | rfl
  · refine ⟨_, .slice B p q, rfl, .inr hl, ?_, h.t1.1, (h.t1.below hb).2⟩
    have e : (⟨W.heap.size, 0, none⟩ : Addr).add (0 * 6) = ⟨W.heap.size, 0, none⟩ := by unfold Addr.add; simp
    rw [e]
    refine ⟨?_, ?_, ?_, ?_, ?_, ?_⟩ <;> (rw [Lib.cell_of_heap (alloc_at rfl _)]; rfl)
  · refine ⟨_, .slice B2 p2 q2, rfl, .inr hl, ?_, h.t2.1, (h.t2.below hb).2⟩
    have e : (⟨W.heap.size, 0, none⟩ : Addr).add (1 * 6) = ⟨W.heap.size, 6, none⟩ := by unfold Addr.add; simp
    rw [e]
    refine ⟨?_, ?_, ?_, ?_, ?_, ?_⟩ <;> (rw [Lib.cell_of_heap (alloc_at rfl _)]; rfl)
/-- Behind the check: the result's box is as it was. -/
structure Jd (w : World) (g : Nat) (A : Option Addr) (c : Nat) (l : List Tn) (N : Nat) (Q : Nat → Prop) (t : Ex) (u : Value) (at' ask : Nat) (failed : Bool) (W : World) : Prop where
  tr : Tr W (fun b => (Q b ∧ b < w.heap.size) ∨ w.heap.size + 1 < b) N t u
  res : ExC W ⟨w.heap.size + 1, 0, none⟩ zT (.slice none 0 0)
  rfz : ∀ o, W.frozen? ⟨w.heap.size + 1, o, none⟩ = false
  pz : Pz W g A c l at' ask failed
  gr : w.grownBy W (some g)
  lt : w.heap.size + 1 < W.heap.size
theorem Jn.done {t' : Ex} {u' : Value} {W2 W3 : World} {N2 : Nat} {at2 : Nat} {failed2 : Bool} (h : Jn w g A c l N Q t t2 u u2 at' ask failed W) (hgw : g < w.heap.size) (hb : Below W.heap.size W W2) (hT : Tr W3 (fun b => (fun b => (Q b ∧ b < w.heap.size) ∨ w.heap.size + 1 < b) b ∨ W2.heap.size ≤ b) N2 t' u') (hP : Pz W3 g A c l at2 ask failed2) (hG : W2.grownBy W3 (some g)) : Jd w g A c l N2 Q t' u' at2 ask failed2 W3 := by
  have n1 : some (w.heap.size + 1) ≠ some g := fun e => by injection e with e; omega
  have hl := h.lt
  have hs := hG.size
  have hs2 := hb.size
  have hr := h.res.keep (hb.block _ h.res.lt)
  exact ⟨hT.keep (fun _ _ _ => rfl) (fun b h _ => h.elim id (fun h => .inr (by omega))), hr.keep (hG.block _ hr.lt n1), fun o => (World.frozen?_of_block (w := W2) (a := ⟨w.heap.size + 1, o, none⟩) (hG.block _ hr.lt n1)).trans ((hb.frozen (p := ⟨_, o, none⟩) h.res.lt).trans (h.rfz o)), hP, grow_trans (grow_trans h.gr (grow_below hb _)) hG, by omega⟩
end
set_option maxRecDepth 100000 in
set_option maxHeartbeats 4000000 in
theorem joined_sum {N : Nat} (g : Nat) (A : Option Addr) (c : Nat) (l : List Tn) (at' ask : Nat) (failed : Bool) (Q : Nat → Prop) (t t2 : Ex) (u : Value) (at2 : Nat) (failed2 : Bool) (w : World) (hz : Pz w g A c l at' ask failed) (hk : ask < 11) (ht : Tr w Q N t u) (hQ : ∀ x, Q x → g < x) (hm : mayT (twoT ⟨#[61]⟩ t t2) = true)
    (hpart : ∀ W, Pz W g A c l at' (ask + 1) failed → Calls Tryz.prog 180 #[.pointer (some ⟨g, 0, none⟩)] W (Res W g A c l N (fun _ => False) t2 at2 (ask + 1) failed2)) :
    Calls Tryz.prog 175 #[.pointer (some ⟨g, 0, none⟩), EVt t u, .string ⟨#[61]⟩, .func (.func 180) #[.pointer (some ⟨g, 0, none⟩)] #[]] w (Res w g A c l (N + 1) Q (twoT ⟨#[61]⟩ t t2) at2 ask failed2) := by
  obtain ⟨B, q, rfl, hn2⟩ := ht.form
  have hgl := hz.lt
  have H0 : Hid (Chn w g A c l N Q t (.slice B t.l.length q) at' ask failed (w.heap.size + 1) [] ((w.alloc (.cells #[.string t.op, .int .i64 t.x.k, .int .i64 t.x.i, .string t.x.s, .string t.s, .slice B t.l.length q] 26)).alloc (.cells #[.string ⟨#[]⟩, .int .i64 0, .int .i64 0, .string ⟨#[]⟩, .string ⟨#[]⟩, .slice none 0 0] 26))) := Chn.start hz ht (fun j hj => absurd hj (by simp))
  have HX := Lib.hid (And.intro hpart hm)
  have HQ := Lib.hid hQ
  unfold EVt
  clear hz ht hpart hm hQ
  have hne0 : ¬ w.heap.size = g := by omega
  have hne1 : ¬ w.heap.size + 1 = g := by omega
  go_enter Tryz.func175, Tryz.ntmps175
  go_upto_region 1 with (fail)
  refine wp_gen (Chn w g A c l N Q t (.slice B t.l.length q) at' ask failed (w.heap.size + 1) []) H0.out fun w0 h0 => ?_
  clear H0
  have H0 := Lib.hid h0
  clear h0
  have k0 := H0.out.box.c0
  have k1 := H0.out.box.c1
  have k2 := H0.out.box.c2
  have k3 := H0.out.box.c3
  have k4 := H0.out.box.c4
  have k5 := H0.out.box.c5
  have r0 := H0.out.res.c0
  have r1 := H0.out.res.c1
  have r2 := H0.out.res.c2
  have r3 := H0.out.res.c3
  have r4 := H0.out.res.c4
  have r5 := H0.out.res.c5
  have rf := H0.out.rfz
  have bf := H0.out.bfz
  have hz := H0.out.lt
  have hgz := H0.out.pz.lt
  have hzy := Nat.lt_of_succ_lt hz
  simp only [Nat.zero_add] at k0 r0 k1 r1 k2 r2 k3 r3 k4 r4 k5 r5
  go_region_with (first
    | (go_at_call 225; refine (lower_eq _).mono ?_; rintro e wL ⟨rfl, hbL⟩; (first | (have hcL := bcellD hbL) | (have hcL := (bcell hbL).1)); have hyL := hbL.size; (try simp at hyL); have hzL : w.heap.size < wL.heap.size := (by omega); (try have K2 := Lib.hid (K2.out.below hbL)))
    | (go_at_call 114; go_loud (refine (asked_sum (N := N) g A c l at' ask at2 failed failed2 t2 _ (by first | exact H0.out.pz.drew | exact (H0.out.pz.drew.below hbL)) hk HX.out.1).mono ?_); rintro e w2 ⟨u2, rfl, ht2, hp2, hg2⟩; obtain ⟨B2, q2, rfl, _⟩ := ht2.form; unfold EVt; (first | (have hc2 := gcellD hg2) | (have hc2 := (gcell hg2).1)); have hf2 := (gcell hg2).2; have hy2 := hg2.size; (try simp at hy2); have HP2 := Lib.hid (And.intro ht2 (And.intro hp2 hg2)); clear ht2 hp2 hg2; (try have hz2 : w.heap.size < w2.heap.size := by omega); have K2 : Hid (Jn w g A c l N Q t t2 (.slice B t.l.length q) (.slice B2 t2.l.length q2) at2 ask failed2 w2) := (by first | exact Jn.mk' (H0.out.later (Below.refl w0.heap.size w0).drew) hgl HQ.out HP2.out.1 HP2.out.2.1 HP2.out.2.2 | exact Jn.mk' ((H0.out.later (Below.refl w0.heap.size w0).drew).later hbL) hgl HQ.out HP2.out.1 HP2.out.2.1 HP2.out.2.2))
    | (go_at_call 113; have hc9 := 0; go_loud (refine (checked_yes (N := N + 1) g A c l at2 ask failed2 _ (by first | exact K2.out.pz.alloc _ | exact (K2.out.pz.alloc _).below hbL) (fun b => (Q b ∧ b < w.heap.size) ∨ w.heap.size + 1 < b) (twoT ⟨#[61]⟩ t t2) _ (by first | exact Jn.two ⟨#[61]⟩ K2.out | exact (Jn.two ⟨#[61]⟩ K2.out).below hbL) HX.out.2).mono ?_; rintro e w5 ⟨u5, rfl, ht5, hp5, hg5⟩; obtain ⟨B5, q5, rfl, _⟩ := ht5.form; unfold EVt; have HF : Hid (Jd w g A c l (N + 1) Q (twoT ⟨#[61]⟩ t t2) (.slice B5 (twoT ⟨#[61]⟩ t t2).l.length q5) at2 ask failed2 w5) := (by first | exact Jn.done K2.out hgl ((Below.refl _ _).alloc (Nat.le_refl _) _) ht5 hp5 hg5 | exact Jn.done K2.out hgl (((Below.refl _ _).alloc (Nat.le_refl _) _).trans (hbL.mono (by simp))) ht5 hp5 hg5); have z0 := HF.out.res.c0; have z1 := HF.out.res.c1; have z2 := HF.out.res.c2; have z3 := HF.out.res.c3; have z4 := HF.out.res.c4; have z5 := HF.out.res.c5; have zf := HF.out.rfz; have zl := HF.out.lt; simp only [Nat.zero_add] at z0 z1 z2 z3 z4 z5)))
  all_goals
    go_wp2_with (fail)
    refine bodyPost_ret (v := .agg #[.string (twoT ⟨#[61]⟩ t t2).op, .int .i64 (twoT ⟨#[61]⟩ t t2).x.k, .int .i64 (twoT ⟨#[61]⟩ t t2).x.i, .string (twoT ⟨#[61]⟩ t t2).x.s, .string (twoT ⟨#[61]⟩ t t2).s, .slice B5 (twoT ⟨#[61]⟩ t t2).l.length q5]) (by simp [results, Tryz.results175, go_sem, *]) rfl ?_
    exact Res.store (Q := Q) HF.out.tr HF.out.pz HF.out.gr (b := w.heap.size + 1) (by omega) hgl (fun h => by rcases h with ⟨_, h⟩ | h <;> omega) (fun x h _ => by rcases h with ⟨h, _⟩ | h; exact .inl h; exact .inr (by omega)) _ _ _ _ _ _

set_option maxRecDepth 100000 in
set_option maxHeartbeats 4000000 in
theorem joined_and {N : Nat} (g : Nat) (A : Option Addr) (c : Nat) (l : List Tn) (at' ask : Nat) (failed : Bool) (Q : Nat → Prop) (t t2 : Ex) (u : Value) (at2 : Nat) (failed2 : Bool) (w : World) (hz : Pz w g A c l at' ask failed) (hk : ask < 11) (ht : Tr w Q N t u) (hQ : ∀ x, Q x → g < x) (hm : mayT (twoT ⟨#[111, 114]⟩ t t2) = true)
    (hpart : ∀ W, Pz W g A c l at' (ask + 1) failed → Calls Tryz.prog 109 #[.pointer (some ⟨g, 0, none⟩)] W (Res W g A c l N (fun _ => False) t2 at2 (ask + 1) failed2)) :
    Calls Tryz.prog 175 #[.pointer (some ⟨g, 0, none⟩), EVt t u, .string ⟨#[79, 82]⟩, .func (.func 109) #[.pointer (some ⟨g, 0, none⟩)] #[]] w (Res w g A c l (N + 1) Q (twoT ⟨#[111, 114]⟩ t t2) at2 ask failed2) := by
  obtain ⟨B, q, rfl, hn2⟩ := ht.form
  have hgl := hz.lt
  have H0 : Hid (Chn w g A c l N Q t (.slice B t.l.length q) at' ask failed (w.heap.size + 1) [] ((w.alloc (.cells #[.string t.op, .int .i64 t.x.k, .int .i64 t.x.i, .string t.x.s, .string t.s, .slice B t.l.length q] 26)).alloc (.cells #[.string ⟨#[]⟩, .int .i64 0, .int .i64 0, .string ⟨#[]⟩, .string ⟨#[]⟩, .slice none 0 0] 26))) := Chn.start hz ht (fun j hj => absurd hj (by simp))
  have HX := Lib.hid (And.intro hpart hm)
  have HQ := Lib.hid hQ
  unfold EVt
  clear hz ht hpart hm hQ
  have hne0 : ¬ w.heap.size = g := by omega
  have hne1 : ¬ w.heap.size + 1 = g := by omega
  go_enter Tryz.func175, Tryz.ntmps175
  go_upto_region 1 with (fail)
  refine wp_gen (Chn w g A c l N Q t (.slice B t.l.length q) at' ask failed (w.heap.size + 1) []) H0.out fun w0 h0 => ?_
  clear H0
  have H0 := Lib.hid h0
  clear h0
  have k0 := H0.out.box.c0
  have k1 := H0.out.box.c1
  have k2 := H0.out.box.c2
  have k3 := H0.out.box.c3
  have k4 := H0.out.box.c4
  have k5 := H0.out.box.c5
  have r0 := H0.out.res.c0
  have r1 := H0.out.res.c1
  have r2 := H0.out.res.c2
  have r3 := H0.out.res.c3
  have r4 := H0.out.res.c4
  have r5 := H0.out.res.c5
  have rf := H0.out.rfz
  have bf := H0.out.bfz
  have hz := H0.out.lt
  have hgz := H0.out.pz.lt
  have hzy := Nat.lt_of_succ_lt hz
  simp only [Nat.zero_add] at k0 r0 k1 r1 k2 r2 k3 r3 k4 r4 k5 r5
  go_region_with (first
    | (go_at_call 225; refine (lower_or _).mono ?_; rintro e wL ⟨rfl, hbL⟩; (first | (have hcL := bcellD hbL) | (have hcL := (bcell hbL).1)); have hyL := hbL.size; (try simp at hyL); have hzL : w.heap.size < wL.heap.size := (by omega); (try have K2 := Lib.hid (K2.out.below hbL)))
    | (go_at_call 114; go_loud (refine (asked_and (N := N) g A c l at' ask at2 failed failed2 t2 _ (by first | exact H0.out.pz.drew | exact (H0.out.pz.drew.below hbL)) hk HX.out.1).mono ?_); rintro e w2 ⟨u2, rfl, ht2, hp2, hg2⟩; obtain ⟨B2, q2, rfl, _⟩ := ht2.form; unfold EVt; (first | (have hc2 := gcellD hg2) | (have hc2 := (gcell hg2).1)); have hf2 := (gcell hg2).2; have hy2 := hg2.size; (try simp at hy2); have HP2 := Lib.hid (And.intro ht2 (And.intro hp2 hg2)); clear ht2 hp2 hg2; (try have hz2 : w.heap.size < w2.heap.size := by omega); have K2 : Hid (Jn w g A c l N Q t t2 (.slice B t.l.length q) (.slice B2 t2.l.length q2) at2 ask failed2 w2) := (by first | exact Jn.mk' (H0.out.later (Below.refl w0.heap.size w0).drew) hgl HQ.out HP2.out.1 HP2.out.2.1 HP2.out.2.2 | exact Jn.mk' ((H0.out.later (Below.refl w0.heap.size w0).drew).later hbL) hgl HQ.out HP2.out.1 HP2.out.2.1 HP2.out.2.2))
    | (go_at_call 113; have hc9 := 0; go_loud (refine (checked_yes (N := N + 1) g A c l at2 ask failed2 _ (by first | exact K2.out.pz.alloc _ | exact (K2.out.pz.alloc _).below hbL) (fun b => (Q b ∧ b < w.heap.size) ∨ w.heap.size + 1 < b) (twoT ⟨#[111, 114]⟩ t t2) _ (by first | exact Jn.two ⟨#[111, 114]⟩ K2.out | exact (Jn.two ⟨#[111, 114]⟩ K2.out).below hbL) HX.out.2).mono ?_; rintro e w5 ⟨u5, rfl, ht5, hp5, hg5⟩; obtain ⟨B5, q5, rfl, _⟩ := ht5.form; unfold EVt; have HF : Hid (Jd w g A c l (N + 1) Q (twoT ⟨#[111, 114]⟩ t t2) (.slice B5 (twoT ⟨#[111, 114]⟩ t t2).l.length q5) at2 ask failed2 w5) := (by first | exact Jn.done K2.out hgl ((Below.refl _ _).alloc (Nat.le_refl _) _) ht5 hp5 hg5 | exact Jn.done K2.out hgl (((Below.refl _ _).alloc (Nat.le_refl _) _).trans (hbL.mono (by simp))) ht5 hp5 hg5); have z0 := HF.out.res.c0; have z1 := HF.out.res.c1; have z2 := HF.out.res.c2; have z3 := HF.out.res.c3; have z4 := HF.out.res.c4; have z5 := HF.out.res.c5; have zf := HF.out.rfz; have zl := HF.out.lt; simp only [Nat.zero_add] at z0 z1 z2 z3 z4 z5)))
  all_goals
    go_wp2_with (fail)
    refine bodyPost_ret (v := .agg #[.string (twoT ⟨#[111, 114]⟩ t t2).op, .int .i64 (twoT ⟨#[111, 114]⟩ t t2).x.k, .int .i64 (twoT ⟨#[111, 114]⟩ t t2).x.i, .string (twoT ⟨#[111, 114]⟩ t t2).x.s, .string (twoT ⟨#[111, 114]⟩ t t2).s, .slice B5 (twoT ⟨#[111, 114]⟩ t t2).l.length q5]) (by simp [results, Tryz.results175, go_sem, *]) rfl ?_
    exact Res.store (Q := Q) HF.out.tr HF.out.pz HF.out.gr (b := w.heap.size + 1) (by omega) hgl (fun h => by rcases h with ⟨_, h⟩ | h <;> omega) (fun x h _ => by rcases h with ⟨h, _⟩ | h; exact .inl h; exact .inr (by omega)) _ _ _ _ _ _

end Go.Proofs.YtmgcmiflbjhakaaGreatDoor

/- The parser: a chain of two; a comparison that goes on. -/
namespace Go.Proofs.YtmgcmiflbjhakaaGreatDoor
open Go.RowKit Go.Lib

def sizeOfS : Value → Nat | .string s => s.size | _ => 0
set_option maxRecDepth 100000 in
set_option maxHeartbeats 4000000 in
theorem chain_one {N : Nat} (g : Nat) (A : Option Addr) (c : Nat) (l : List Tn) (at' ask : Nat) (failed : Bool) (b cap : Nat) (tn tn2 : Tn) (Q : Nat → Prop) (t t3 : Ex) (u : Value) (at2 : Nat) (failed2 : Bool) (w : World) (hz : Pz w g A c l at' ask failed) (hl : l.length ≤ 100000) (ha : at' ≤ 100000) (hx : Nx l at' failed tn) (hw : Wds w b [⟨#[79, 82]⟩]) (hbw : b < w.heap.size) (hbg : b ≠ g) (hyes : isB tn ⟨#[79, 82]⟩ = true) (hx2 : Nx l at2 failed2 tn2) (hno : isB tn2 ⟨#[79, 82]⟩ = false) (ht : Tr w Q N t u) (hQ : ∀ x, Q x → g < x)
    (hj : ∀ (Q : Nat → Prop) (W : World) (u : Value), (∀ x, Q x → g < x) → Pz W g A c l (at' + 1) ask failed → Tr W Q N t u → Calls Tryz.prog 175 #[.pointer (some ⟨g, 0, none⟩), EVt t u, .string ⟨#[79, 82]⟩, .func (.func 109) #[.pointer (some ⟨g, 0, none⟩)] #[]] W (Res W g A c l (N + 1) Q t3 at2 ask failed2)) :
    Calls Tryz.prog 107 #[.pointer (some ⟨g, 0, none⟩), EVt t u, .func (.func 109) #[.pointer (some ⟨g, 0, none⟩)] #[], .slice (some ⟨b, 0, none⟩) 1 cap] w (Res w g A c l (N + 1) Q t3 at2 ask failed2) := by
  obtain ⟨B, q, rfl, hn2⟩ := ht.form
  have hgl := hz.lt
  have H0 : Hid (Chn w g A c l N Q t (.slice B t.l.length q) at' ask failed b [⟨#[79, 82]⟩] ((w.alloc (.cells #[.string t.op, .int .i64 t.x.k, .int .i64 t.x.i, .string t.x.s, .string t.s, .slice B t.l.length q] 26)).alloc (.cells #[.string ⟨#[]⟩, .int .i64 0, .int .i64 0, .string ⟨#[]⟩, .string ⟨#[]⟩, .slice none 0 0] 26))) := Chn.start hz ht hw
  have HX := Lib.hid (And.intro hx (And.intro hyes (And.intro hx2 hno)))
  have HJ := Lib.hid hj
  have HQ := Lib.hid hQ
  have HRQ : Hid (∀ x, (fun b => (Q b ∧ b < w.heap.size) ∨ w.heap.size + 1 < b) x → g < x) := fun x h => by rcases h with ⟨h, _⟩ | h; exact HQ.out x h; omega
  unfold EVt
  clear hz hx hw hyes hx2 hno ht hj hQ
  have hne0 : ¬ w.heap.size = g := by omega
  have hne1 : ¬ w.heap.size + 1 = g := by omega
  go_enter Tryz.func107, Tryz.ntmps107
  go_wp2_with (go_at_call 110; refine (take_yes g A c l at' ask failed b cap [⟨#[79, 82]⟩] tn 0 ⟨#[79, 82]⟩ _ H0.out.pz hl ha HX.out.1 H0.out.wd (by simp) rfl HX.out.2.1 (fun j x hj _ => absurd hj (by omega))).mono ?_; rintro e w1 ⟨rfl, hp1, hg1⟩; have HA := Lib.hid (H0.out.grown hg1 hp1 hgl HQ.out hbg); clear hp1 hg1)
  go_loopw [9] (fun v wr => (v = .string ⟨#[79, 82]⟩ ∧ w1 = wr) ∨ (v = .string ⟨#[]⟩ ∧ ∃ B3 q3, Chn w g A c l (N + 1) Q t3 (.slice B3 t3.l.length q3) at2 ask failed2 b [⟨#[79, 82]⟩] wr)) (fun v _ => sizeOfS v)
  case atStart => exact .inl ⟨rfl, rfl⟩
  case round =>
    rcases hrel with ⟨rfl, rfl⟩ | ⟨rfl, B3, q3, hB⟩
    · have k0 := HA.out.box.c0; have k1 := HA.out.box.c1; have k2 := HA.out.box.c2; have k3 := HA.out.box.c3; have k4 := HA.out.box.c4; have k5 := HA.out.box.c5; have r0 := HA.out.res.c0; have r1 := HA.out.res.c1; have r2 := HA.out.res.c2; have r3 := HA.out.res.c3; have r4 := HA.out.res.c4; have r5 := HA.out.res.c5; have rf := HA.out.rfz; have bf := HA.out.bfz; have hz := HA.out.lt; have hgz := HA.out.pz.lt; have hzy := Nat.lt_of_succ_lt hz; simp only [Nat.zero_add] at k0 r0 k1 r1 k2 r2 k3 r3 k4 r4 k5 r5
      go_wp2_with (first
        | (go_at_call 175; refine (HJ.out (fun b => (Q b ∧ b < w.heap.size) ∨ w.heap.size + 1 < b) _ _ HRQ.out HA.out.pz HA.out.tr).mono ?_; rintro e w3 ⟨u3, rfl, ht3, hp3, hg3⟩; obtain ⟨B3, q3, rfl, _⟩ := ht3.form; unfold EVt; have hc3 := (gcell hg3).1; have hf3 := (gcell hg3).2; have hy3 := hg3.size; (try simp at hy3); have HP3 := Lib.hid (And.intro ht3 (And.intro hp3 hg3)); clear ht3 hp3 hg3; have H3 := Lib.hid (Chn.put HA.out HP3.out.1 HP3.out.2.1 HP3.out.2.2 hgl hbg (.inl hbw)))
        | (go_at_call 110; refine (take_no g A c l at2 ask failed2 b cap [⟨#[79, 82]⟩] tn2 _ H3.out.pz hl HX.out.2.2.1 H3.out.wd (by simp) (all1 HX.out.2.2.2)).mono ?_; rintro e w4 ⟨rfl, hb4⟩; have H4 : Hid (Chn w g A c l (N + 1) Q t3 (.slice B3 t3.l.length q3) at2 ask failed2 b [⟨#[79, 82]⟩] w4) := H3.out.later hb4; clear hb4))
      go_roundw
      case rel => exact .inr ⟨rfl, _, _, H4.out⟩
      case measure => decide
    · have HB := Lib.hid hB
      clear hB
      have k0 := HB.out.box.c0; have k1 := HB.out.box.c1; have k2 := HB.out.box.c2; have k3 := HB.out.box.c3; have k4 := HB.out.box.c4; have k5 := HB.out.box.c5; have r0 := HB.out.res.c0; have r1 := HB.out.res.c1; have r2 := HB.out.res.c2; have r3 := HB.out.res.c3; have r4 := HB.out.res.c4; have r5 := HB.out.res.c5; have rf := HB.out.rfz; have bf := HB.out.bfz; have hz := HB.out.lt; have hgz := HB.out.pz.lt; have hzy := Nat.lt_of_succ_lt hz; simp only [Nat.zero_add] at k0 r0 k1 r1 k2 r2 k3 r3 k4 r4 k5 r5
      go_wp2_with (fail)
      refine bodyPost_ret (v := .agg #[.string t3.op, .int .i64 t3.x.k, .int .i64 t3.x.i, .string t3.x.s, .string t3.s, .slice B3 t3.l.length q3]) (by simp [results, Tryz.results107, go_sem, *]) rfl ?_
      exact HB.out.form hgl t3 _ HB.out.tr

set_option maxRecDepth 100000 in
set_option maxHeartbeats 4000000 in
theorem orFrom_one {N : Nat} (g : Nat) (A : Option Addr) (c : Nat) (l : List Tn) (at' ask : Nat) (failed : Bool) (tn tn2 : Tn) (Q : Nat → Prop) (t t3 : Ex) (u : Value) (at2 : Nat) (failed2 : Bool) (w : World) (hz : Pz w g A c l at' ask failed) (hl : l.length ≤ 100000) (ha : at' ≤ 100000) (hx : Nx l at' failed tn) (n0 : isB tn ⟨#[65, 78, 68]⟩ = false) (hyes : isB tn ⟨#[79, 82]⟩ = true) (hx2 : Nx l at2 failed2 tn2) (hno : isB tn2 ⟨#[79, 82]⟩ = false) (ht : Tr w Q N t u) (hQ : ∀ x, Q x → g < x)
    (hj : ∀ (Q : Nat → Prop) (W : World) (u : Value), (∀ x, Q x → g < x) → Pz W g A c l (at' + 1) ask failed → Tr W Q N t u → Calls Tryz.prog 175 #[.pointer (some ⟨g, 0, none⟩), EVt t u, .string ⟨#[79, 82]⟩, .func (.func 109) #[.pointer (some ⟨g, 0, none⟩)] #[]] W (Res W g A c l (N + 1) Q t3 at2 ask failed2)) :
    Calls Tryz.prog 65 #[.pointer (some ⟨g, 0, none⟩), EVt t u] w (Res w g A c l (N + 1) Q t3 at2 ask failed2) := by
  obtain ⟨B, q, rfl, hn2⟩ := ht.form
  have hgl := hz.lt
  have H0 : Hid (Chn w g A c l N Q t (.slice B t.l.length q) at' ask failed (w.heap.size + 1) [] ((w.alloc (.cells #[.string t.op, .int .i64 t.x.k, .int .i64 t.x.i, .string t.x.s, .string t.s, .slice B t.l.length q] 26)).alloc (.cells #[.string ⟨#[]⟩, .int .i64 0, .int .i64 0, .string ⟨#[]⟩, .string ⟨#[]⟩, .slice none 0 0] 26))) := Chn.start hz ht (fun j hj => absurd hj (by simp))
  have HX := Lib.hid (And.intro hx (And.intro n0 (And.intro hyes (And.intro hx2 hno))))
  have HJ := Lib.hid hj
  have HQ := Lib.hid hQ
  have HRQ : Hid (∀ x, (fun b => (Q b ∧ b < w.heap.size) ∨ w.heap.size + 1 < b) x → g < x) := fun x h => by rcases h with ⟨h, _⟩ | h; exact HQ.out x h; omega
  unfold EVt
  clear hz hx n0 hyes hx2 hno ht hj hQ
  have hne0 : ¬ w.heap.size = g := by omega
  have hne1 : ¬ w.heap.size + 1 = g := by omega
  have hmf : ∀ (fn : Fn) (first cap : Array Value) (w : World), (Instr.makeFunc fn first cap).run Tryz.prog w = .ok (.func fn first cap) w := fun _ _ _ _ => rfl
  go_enter Tryz.func65, Tryz.ntmps65
  go_upto_region 1 with (fail)
  refine wp_gen (Chn w g A c l N Q t (.slice B t.l.length q) at' ask failed (w.heap.size + 1) []) H0.out fun w0 h0 => ?_
  clear H0
  have H0 := Lib.hid h0
  clear h0
  have k0 := H0.out.box.c0
  have k1 := H0.out.box.c1
  have k2 := H0.out.box.c2
  have k3 := H0.out.box.c3
  have k4 := H0.out.box.c4
  have k5 := H0.out.box.c5
  have r0 := H0.out.res.c0
  have r1 := H0.out.res.c1
  have r2 := H0.out.res.c2
  have r3 := H0.out.res.c3
  have r4 := H0.out.res.c4
  have r5 := H0.out.res.c5
  have rf := H0.out.rfz
  have bf := H0.out.bfz
  have hz := H0.out.lt
  have hgz := H0.out.pz.lt
  have hzy := Nat.lt_of_succ_lt hz
  simp only [Nat.zero_add] at k0 r0 k1 r1 k2 r2 k3 r3 k4 r4 k5 r5
  go_wp2_with (first
    | (go_at_call 108; refine (andFrom_n g A c l at' ask failed tn (fun b => (Q b ∧ b < w.heap.size) ∨ w.heap.size + 1 < b) t (.slice B t.l.length q) _ H0.out.pz hl HX.out.1 H0.out.tr HX.out.2.1).mono ?_; rintro e w1 ⟨u1, rfl, ht1, hp1, hg1⟩; obtain ⟨B1, q1, rfl, _⟩ := ht1.form; unfold EVt; have hc1 := (gcell hg1).1; have hf1 := (gcell hg1).2; have hy1 := hg1.size; (try simp at hy1); have HP1 := Lib.hid (And.intro ht1 (And.intro hp1 hg1)); clear ht1 hp1 hg1; have HT1 : Hid (Tr w1 (fun b => (Q b ∧ b < w.heap.size) ∨ w.heap.size + 1 < b) N t (.slice B1 t.l.length q1)) := HP1.out.1.keep (fun _ _ _ => rfl) (fun b h _ => h.elim id (fun h => .inr (by omega))); have H1 := Lib.hid (H0.out.grown HP1.out.2.2 HP1.out.2.1 hgl HQ.out (by omega)); have hz1 : w.heap.size + 1 < w1.heap.size := H1.out.lt)
    | (go_at_call 107; refine (chain_one g A c l at' ask failed _ _ tn tn2 (fun b => (Q b ∧ b < w.heap.size) ∨ w.heap.size + 1 < b) t t3 (.slice B1 t.l.length q1) at2 failed2 _ (HP1.out.2.1.alloc _) hl ha HX.out.1 (wds1 _ (by simp) ⟨#[79, 82]⟩) (by simp) (by omega) HX.out.2.2.1 HX.out.2.2.2.1 HX.out.2.2.2.2 (HT1.out.below ((Below.refl _ _).alloc (Nat.le_refl _) _)) HRQ.out HJ.out).mono ?_; rintro e w2 ⟨u2, rfl, ht2, hp2, hg2⟩; obtain ⟨B2, q2, rfl, _⟩ := ht2.form; unfold EVt; have hc2 := (gcell hg2).1; have hf2 := (gcell hg2).2; have hy2 := hg2.size; (try simp at hy2); have HP2 := Lib.hid (And.intro ht2 (And.intro hp2 hg2)); clear ht2 hp2 hg2; have H2 := Lib.hid ((H1.out.later ((Below.refl _ _).alloc (Nat.le_refl _) _)).grown HP2.out.2.2 HP2.out.2.1 hgl HQ.out (by omega)); clear hc1 hf1 hc2 hf2; clear k0 r0 k1 r1 k2 r2 k3 r3 k4 r4 k5 r5 rf bf hz hgz hzy; have k0 := H2.out.box.c0; have k1 := H2.out.box.c1; have k2 := H2.out.box.c2; have k3 := H2.out.box.c3; have k4 := H2.out.box.c4; have k5 := H2.out.box.c5; have r0 := H2.out.res.c0; have r1 := H2.out.res.c1; have r2 := H2.out.res.c2; have r3 := H2.out.res.c3; have r4 := H2.out.res.c4; have r5 := H2.out.res.c5; have rf := H2.out.rfz; have bf := H2.out.bfz; have hz := H2.out.lt; have hgz := H2.out.pz.lt; have hzy := Nat.lt_of_succ_lt hz; simp only [Nat.zero_add] at k0 r0 k1 r1 k2 r2 k3 r3 k4 r4 k5 r5))
  refine bodyPost_ret (v := .agg #[.string t3.op, .int .i64 t3.x.k, .int .i64 t3.x.i, .string t3.x.s, .string t3.s, .slice B2 t3.l.length q2]) (by simp [results, Tryz.results65, go_sem, *]) rfl ?_
  exact Res.store (Q := Q) (R := (fun b => (Q b ∧ b < w.heap.size) ∨ w.heap.size + 1 < b)) (HP2.out.1.keep (fun _ _ _ => rfl) (fun b h _ => h.elim id (fun h => .inr (by simp at h; omega)))) H2.out.pz H2.out.gr (b := w.heap.size + 1) (by omega) hgl (fun h => by rcases h with ⟨_, h⟩ | h <;> omega) (fun x h _ => by rcases h with ⟨h, _⟩ | h; exact .inl h; exact .inr (by omega)) _ _ _ _ _ _
end Go.Proofs.YtmgcmiflbjhakaaGreatDoor

/- The parser: a comparison that goes on. -/
namespace Go.Proofs.YtmgcmiflbjhakaaGreatDoor
open Go.RowKit Go.Lib

set_option maxRecDepth 100000 in
set_option maxHeartbeats 4000000 in
theorem cmpFrom_eq {N : Nat} (g : Nat) (A : Option Addr) (c : Nat) (l : List Tn) (at' ask : Nat) (failed : Bool) (tn : Tn) (Q : Nat → Prop) (t t2 : Ex) (u : Value) (at2 : Nat) (failed2 : Bool) (w : World) (hz : Pz w g A c l at' ask failed) (hl : l.length ≤ 100000) (ha : at' ≤ 100000) (hk : ask < 11) (hx : Nx l at' failed tn) (ht : Tr w Q N t u) (hQ : ∀ x, Q x → g < x) (n0 : isB tn ⟨#[43]⟩ = false) (n1 : isB tn ⟨#[45]⟩ = false) (hyes : isB tn ⟨#[61]⟩ = true) (hm : mayT (twoT ⟨#[61]⟩ t t2) = true)
    (hpart : ∀ W, Pz W g A c l (at' + 1) (ask + 1) failed → Calls Tryz.prog 180 #[.pointer (some ⟨g, 0, none⟩)] W (Res W g A c l N (fun _ => False) t2 at2 (ask + 1) failed2)) :
    Calls Tryz.prog 111 #[.pointer (some ⟨g, 0, none⟩), EVt t u] w (Res w g A c l (N + 1) Q (twoT ⟨#[61]⟩ t t2) at2 ask failed2) := by
  obtain ⟨B, q, rfl, hn2⟩ := ht.form
  have hgl := hz.lt
  have H0 : Hid (Chn w g A c l N Q t (.slice B t.l.length q) at' ask failed (w.heap.size + 1) [] ((w.alloc (.cells #[.string t.op, .int .i64 t.x.k, .int .i64 t.x.i, .string t.x.s, .string t.s, .slice B t.l.length q] 26)).alloc (.cells #[.string ⟨#[]⟩, .int .i64 0, .int .i64 0, .string ⟨#[]⟩, .string ⟨#[]⟩, .slice none 0 0] 26))) := Chn.start hz ht (fun j hj => absurd hj (by simp))
  have HX := Lib.hid (And.intro hx (And.intro n0 (And.intro n1 (And.intro hyes (And.intro hm hpart)))))
  have HQ := Lib.hid hQ
  have HRQ : Hid (∀ x, (fun b => (Q b ∧ b < w.heap.size) ∨ w.heap.size + 1 < b) x → g < x) := fun x h => by rcases h with ⟨h, _⟩ | h; exact HQ.out x h; omega
  unfold EVt
  clear hz hx ht hQ
  clear n0 n1 hyes hm hpart
  have hne0 : ¬ w.heap.size = g := by omega
  have hne1 : ¬ w.heap.size + 1 = g := by omega
  have hmf : ∀ (fn : Fn) (first cap : Array Value) (w : World), (Instr.makeFunc fn first cap).run Tryz.prog w = .ok (.func fn first cap) w := fun _ _ _ _ => rfl
  go_enter Tryz.func111, Tryz.ntmps111
  go_upto_region 1 with (fail)
  refine wp_gen (Chn w g A c l N Q t (.slice B t.l.length q) at' ask failed (w.heap.size + 1) []) H0.out fun w0 h0 => ?_
  clear H0
  have H0 := Lib.hid h0
  clear h0
  have k0 := H0.out.box.c0
  have k1 := H0.out.box.c1
  have k2 := H0.out.box.c2
  have k3 := H0.out.box.c3
  have k4 := H0.out.box.c4
  have k5 := H0.out.box.c5
  have r0 := H0.out.res.c0
  have r1 := H0.out.res.c1
  have r2 := H0.out.res.c2
  have r3 := H0.out.res.c3
  have r4 := H0.out.res.c4
  have r5 := H0.out.res.c5
  have rf := H0.out.rfz
  have bf := H0.out.bfz
  have hz := H0.out.lt
  have hgz := H0.out.pz.lt
  have hzy := Nat.lt_of_succ_lt hz
  simp only [Nat.zero_add] at k0 r0 k1 r1 k2 r2 k3 r3 k4 r4 k5 r5
  go_upto_region 2 with (go_at_call 178; refine (sumFrom_n g A c l at' ask failed tn (fun b => (Q b ∧ b < w.heap.size) ∨ w.heap.size + 1 < b) t (.slice B t.l.length q) _ H0.out.pz hl HX.out.1 H0.out.tr HX.out.2.1 HX.out.2.2.1).mono ?_; rintro e w1 ⟨u1, rfl, ht1, hp1, hg1⟩; obtain ⟨B1, q1, rfl, _⟩ := ht1.form; unfold EVt; have hc1 := (gcell hg1).1; have hf1 := (gcell hg1).2; have hy1 := hg1.size; (try simp at hy1); have HP1 := Lib.hid (And.intro ht1 (And.intro hp1 hg1)); clear ht1 hp1 hg1)
  refine wp_gen (Chn w g A c l N Q t (.slice B1 t.l.length q1) at' ask failed (w.heap.size + 1) []) (Chn.put H0.out HP1.out.1 HP1.out.2.1 HP1.out.2.2 hgl (by omega) (.inr rfl)) fun w2 h2 => ?_
  have H2 := Lib.hid h2
  clear k0 r0 k1 r1 k2 r2 k3 r3 k4 r4 k5 r5 rf bf hz hgz hzy
  clear h2 H0 HP1 hc1 hf1 hy1
  have k0 := H2.out.box.c0
  have k1 := H2.out.box.c1
  have k2 := H2.out.box.c2
  have k3 := H2.out.box.c3
  have k4 := H2.out.box.c4
  have k5 := H2.out.box.c5
  have r0 := H2.out.res.c0
  have r1 := H2.out.res.c1
  have r2 := H2.out.res.c2
  have r3 := H2.out.res.c3
  have r4 := H2.out.res.c4
  have r5 := H2.out.res.c5
  have rf := H2.out.rfz
  have bf := H2.out.bfz
  have hz := H2.out.lt
  have hgz := H2.out.pz.lt
  have hzy := Nat.lt_of_succ_lt hz
  simp only [Nat.zero_add] at k0 r0 k1 r1 k2 r2 k3 r3 k4 r4 k5 r5
  go_wp2_with (first
    | (go_at_call 110; refine (take_yes g A c l at' ask failed _ 3 [⟨#[61]⟩, ⟨#[60]⟩, ⟨#[73, 83]⟩] tn 0 ⟨#[61]⟩ _ (H2.out.pz.alloc _) hl ha HX.out.1 (wds3 _ (by simp) ⟨#[61]⟩ ⟨#[60]⟩ ⟨#[73, 83]⟩) (by simp) rfl HX.out.2.2.2.1 (fun j x hj _ => absurd hj (by omega))).mono ?_; rintro e w3 ⟨rfl, hp3, hg3⟩; have H3 := Lib.hid ((H2.out.later ((Below.refl _ _).alloc (Nat.le_refl _) _)).grown hg3 hp3 hgl HQ.out (by omega)); clear hp3 hg3 H2; clear k0 r0 k1 r1 k2 r2 k3 r3 k4 r4 k5 r5 rf bf hz hgz hzy; have k0 := H3.out.box.c0; have k1 := H3.out.box.c1; have k2 := H3.out.box.c2; have k3 := H3.out.box.c3; have k4 := H3.out.box.c4; have k5 := H3.out.box.c5; have r0 := H3.out.res.c0; have r1 := H3.out.res.c1; have r2 := H3.out.res.c2; have r3 := H3.out.res.c3; have r4 := H3.out.res.c4; have r5 := H3.out.res.c5; have rf := H3.out.rfz; have bf := H3.out.bfz; have hz := H3.out.lt; have hgz := H3.out.pz.lt; have hzy := Nat.lt_of_succ_lt hz; simp only [Nat.zero_add] at k0 r0 k1 r1 k2 r2 k3 r3 k4 r4 k5 r5)
    | (go_at_call 175; refine (joined_sum g A c l (at' + 1) ask failed (fun b => (Q b ∧ b < w.heap.size) ∨ w.heap.size + 1 < b) t t2 _ at2 failed2 _ H3.out.pz hk H3.out.tr HRQ.out HX.out.2.2.2.2.1 HX.out.2.2.2.2.2).mono ?_; rintro e w4 ⟨u4, rfl, ht4, hp4, hg4⟩; obtain ⟨B4, q4, rfl, _⟩ := ht4.form; unfold EVt; have hc4 := (gcell hg4).1; have hf4 := (gcell hg4).2; have hy4 := hg4.size; (try simp at hy4); have HP4 := Lib.hid (And.intro ht4 (And.intro hp4 hg4)); clear ht4 hp4 hg4; have H4 := Lib.hid (H3.out.grown HP4.out.2.2 HP4.out.2.1 hgl HQ.out (by omega)); have hs4 := H3.out.lt; clear hc4 hf4; clear k0 r0 k1 r1 k2 r2 k3 r3 k4 r4 k5 r5 rf bf hz hgz hzy; have k0 := H4.out.box.c0; have k1 := H4.out.box.c1; have k2 := H4.out.box.c2; have k3 := H4.out.box.c3; have k4 := H4.out.box.c4; have k5 := H4.out.box.c5; have r0 := H4.out.res.c0; have r1 := H4.out.res.c1; have r2 := H4.out.res.c2; have r3 := H4.out.res.c3; have r4 := H4.out.res.c4; have r5 := H4.out.res.c5; have rf := H4.out.rfz; have bf := H4.out.bfz; have hz := H4.out.lt; have hgz := H4.out.pz.lt; have hzy := Nat.lt_of_succ_lt hz; simp only [Nat.zero_add] at k0 r0 k1 r1 k2 r2 k3 r3 k4 r4 k5 r5))
  refine bodyPost_ret (v := .agg #[.string (twoT ⟨#[61]⟩ t t2).op, .int .i64 (twoT ⟨#[61]⟩ t t2).x.k, .int .i64 (twoT ⟨#[61]⟩ t t2).x.i, .string (twoT ⟨#[61]⟩ t t2).x.s, .string (twoT ⟨#[61]⟩ t t2).s, .slice B4 (twoT ⟨#[61]⟩ t t2).l.length q4]) (by simp [results, Tryz.results111, go_sem, *]) rfl ?_
  exact Res.store (Q := Q) (R := (fun b => (Q b ∧ b < w.heap.size) ∨ w.heap.size + 1 < b)) (HP4.out.1.keep (fun _ _ _ => rfl) (fun b h _ => h.elim id (fun h => .inr (by omega)))) H4.out.pz H4.out.gr (b := w.heap.size + 1) (by omega) hgl (fun h => by rcases h with ⟨_, h⟩ | h <;> omega) (fun x h _ => by rcases h with ⟨h, _⟩ | h; exact .inl h; exact .inr (by omega)) _ _ _ _ _ _

def oneT (op : ByteArray) (x : Ex) : Ex := .mk op ⟨0, 0, ⟨#[]⟩⟩ ⟨#[]⟩ [x]
theorem one_tr {W : World} {R : Nat → Prop} {N : Nat} {t : Ex} {B : Option Addr} {p q : Nat} (op : ByteArray) (h : Tr W R N t (.slice B p q)) (hr : R W.heap.size) :
    Tr (W.alloc (.cells #[.string t.op, .int .i64 t.x.k, .int .i64 t.x.i, .string t.x.s, .string t.s, .slice B p q] 26)) R (N + 1) (oneT op t) (.slice (some ⟨W.heap.size, 0, none⟩) 1 1) := by
  have hb : Below W.heap.size W (W.alloc (.cells #[.string t.op, .int .i64 t.x.k, .int .i64 t.x.i, .string t.x.s, .string t.s, .slice B p q] 26)) := (Below.refl _ _).alloc (Nat.le_refl _) _
  refine ⟨by show (⟨#[]⟩ : ByteArray).size ≤ 100000; decide, some ⟨W.heap.size, 0, none⟩, 1, rfl, by simp [oneT, Ex.l, maxLen], fun j hj => ?_⟩
  have hj : j < 1 := hj
  obtain rfl : j = 0 := by omega
  refine ⟨_, .slice B p q, rfl, hr, ?_, h.1, (h.below hb).2⟩
  have e : (⟨W.heap.size, 0, none⟩ : Addr).add (0 * 6) = ⟨W.heap.size, 0, none⟩ := by unfold Addr.add; simp
  rw [e]
  exact box_cells (alloc_at rfl _)

set_option maxRecDepth 100000 in
set_option maxHeartbeats 4000000 in
theorem cmpFrom_is {N : Nat} (g : Nat) (A : Option Addr) (c : Nat) (l : List Tn) (at' ask : Nat) (failed : Bool) (tn tn2 : Tn) (Q : Nat → Prop) (t : Ex) (u : Value) (w : World) (hz : Pz w g A c l at' ask failed) (hl : l.length ≤ 100000) (ha : at' ≤ 90000) (hx : Nx l at' failed tn) (ht : Tr w Q N t u) (hQ : ∀ x, Q x → g < x) (n0 : isB tn ⟨#[43]⟩ = false) (n1 : isB tn ⟨#[45]⟩ = false) (hyes : isB tn ⟨#[73, 83]⟩ = true) (n2 : isB tn ⟨#[61]⟩ = false) (n3 : isB tn ⟨#[60]⟩ = false) (hx2 : Nx l (at' + 1) failed tn2) (hyes2 : isB tn2 ⟨#[78, 85, 76, 76]⟩ = true) (hm : mayT (oneT ⟨#[110, 117, 108, 108]⟩ t) = true) :
    Calls Tryz.prog 111 #[.pointer (some ⟨g, 0, none⟩), EVt t u] w (Res w g A c l (N + 1) Q (oneT ⟨#[110, 117, 108, 108]⟩ t) (at' + 1 + 1) ask failed) := by
  obtain ⟨B, q, rfl, hn2⟩ := ht.form
  have hgl := hz.lt
  have H0 : Hid (Chn w g A c l N Q t (.slice B t.l.length q) at' ask failed (w.heap.size + 1) [] ((w.alloc (.cells #[.string t.op, .int .i64 t.x.k, .int .i64 t.x.i, .string t.x.s, .string t.s, .slice B t.l.length q] 26)).alloc (.cells #[.string ⟨#[]⟩, .int .i64 0, .int .i64 0, .string ⟨#[]⟩, .string ⟨#[]⟩, .slice none 0 0] 26))) := Chn.start hz ht (fun j hj => absurd hj (by simp))
  have HX := Lib.hid (And.intro hx (And.intro n0 (And.intro n1 (And.intro hyes (And.intro n2 (And.intro n3 (And.intro hx2 (And.intro hyes2 hm))))))))
  have HQ := Lib.hid hQ
  have HRQ : Hid (∀ x, (fun b => (Q b ∧ b < w.heap.size) ∨ w.heap.size + 1 < b) x → g < x) := fun x h => by rcases h with ⟨h, _⟩ | h; exact HQ.out x h; omega
  unfold EVt
  clear hz hx ht hQ
  clear n0 n1 hyes n2 n3 hx2 hyes2 hm
  have ha2 : at' ≤ 100000 := by omega
  have hne0 : ¬ w.heap.size = g := by omega
  have hne1 : ¬ w.heap.size + 1 = g := by omega
  have hmf : ∀ (fn : Fn) (first cap : Array Value) (w : World), (Instr.makeFunc fn first cap).run Tryz.prog w = .ok (.func fn first cap) w := fun _ _ _ _ => rfl
  go_enter Tryz.func111, Tryz.ntmps111
  go_upto_region 1 with (fail)
  refine wp_gen (Chn w g A c l N Q t (.slice B t.l.length q) at' ask failed (w.heap.size + 1) []) H0.out fun w0 h0 => ?_
  clear H0
  have H0 := Lib.hid h0
  clear h0
  have k0 := H0.out.box.c0
  have k1 := H0.out.box.c1
  have k2 := H0.out.box.c2
  have k3 := H0.out.box.c3
  have k4 := H0.out.box.c4
  have k5 := H0.out.box.c5
  have r0 := H0.out.res.c0
  have r1 := H0.out.res.c1
  have r2 := H0.out.res.c2
  have r3 := H0.out.res.c3
  have r4 := H0.out.res.c4
  have r5 := H0.out.res.c5
  have rf := H0.out.rfz
  have bf := H0.out.bfz
  have hz := H0.out.lt
  have hgz := H0.out.pz.lt
  have hzy := Nat.lt_of_succ_lt hz
  simp only [Nat.zero_add] at k0 r0 k1 r1 k2 r2 k3 r3 k4 r4 k5 r5
  go_upto_region 2 with (go_at_call 178; refine (sumFrom_n g A c l at' ask failed tn (fun b => (Q b ∧ b < w.heap.size) ∨ w.heap.size + 1 < b) t (.slice B t.l.length q) _ H0.out.pz hl HX.out.1 H0.out.tr HX.out.2.1 HX.out.2.2.1).mono ?_; rintro e w1 ⟨u1, rfl, ht1, hp1, hg1⟩; obtain ⟨B1, q1, rfl, _⟩ := ht1.form; unfold EVt; have hc1 := (gcell hg1).1; have hf1 := (gcell hg1).2; have hy1 := hg1.size; (try simp at hy1); have HP1 := Lib.hid (And.intro ht1 (And.intro hp1 hg1)); clear ht1 hp1 hg1)
  refine wp_gen (Chn w g A c l N Q t (.slice B1 t.l.length q1) at' ask failed (w.heap.size + 1) []) (Chn.put H0.out HP1.out.1 HP1.out.2.1 HP1.out.2.2 hgl (by omega) (.inr rfl)) fun w2 h2 => ?_
  have H2 := Lib.hid h2
  clear k0 r0 k1 r1 k2 r2 k3 r3 k4 r4 k5 r5 rf bf hz hgz hzy
  clear h2 H0 HP1 hc1 hf1 hy1
  have k0 := H2.out.box.c0
  have k1 := H2.out.box.c1
  have k2 := H2.out.box.c2
  have k3 := H2.out.box.c3
  have k4 := H2.out.box.c4
  have k5 := H2.out.box.c5
  have r0 := H2.out.res.c0
  have r1 := H2.out.res.c1
  have r2 := H2.out.res.c2
  have r3 := H2.out.res.c3
  have r4 := H2.out.res.c4
  have r5 := H2.out.res.c5
  have rf := H2.out.rfz
  have bf := H2.out.bfz
  have hz := H2.out.lt
  have hgz := H2.out.pz.lt
  have hzy := Nat.lt_of_succ_lt hz
  simp only [Nat.zero_add] at k0 r0 k1 r1 k2 r2 k3 r3 k4 r4 k5 r5
  go_wp2_with (first
    | (go_at_call 110; refine (take_yes g A c l at' ask failed _ 3 [⟨#[61]⟩, ⟨#[60]⟩, ⟨#[73, 83]⟩] tn 2 ⟨#[73, 83]⟩ _ (H2.out.pz.alloc _) hl ha2 HX.out.1 (wds3 _ (by simp) ⟨#[61]⟩ ⟨#[60]⟩ ⟨#[73, 83]⟩) (by simp) rfl HX.out.2.2.2.1 (fun j x hj hjx => by rcases (show j = 0 ∨ j = 1 by omega) with rfl | rfl; (simp at hjx; subst hjx; exact HX.out.2.2.2.2.1); (simp at hjx; subst hjx; exact HX.out.2.2.2.2.2.1))).mono ?_; rintro e w3 ⟨rfl, hp3, hg3⟩; have H3 := Lib.hid ((H2.out.later ((Below.refl _ _).alloc (Nat.le_refl _) _)).grown hg3 hp3 hgl HQ.out (by omega)); clear hp3 hg3 H2; clear k0 r0 k1 r1 k2 r2 k3 r3 k4 r4 k5 r5 rf bf hz hgz hzy; have k0 := H3.out.box.c0; have k1 := H3.out.box.c1; have k2 := H3.out.box.c2; have k3 := H3.out.box.c3; have k4 := H3.out.box.c4; have k5 := H3.out.box.c5; have r0 := H3.out.res.c0; have r1 := H3.out.res.c1; have r2 := H3.out.res.c2; have r3 := H3.out.res.c3; have r4 := H3.out.res.c4; have r5 := H3.out.res.c5; have rf := H3.out.rfz; have bf := H3.out.bfz; have hz := H3.out.lt; have hgz := H3.out.pz.lt; have hzy := Nat.lt_of_succ_lt hz; simp only [Nat.zero_add] at k0 r0 k1 r1 k2 r2 k3 r3 k4 r4 k5 r5)
    | (go_at_call 110; refine (take_yes g A c l (at' + 1) ask failed _ 1 [⟨#[78, 85, 76, 76]⟩] tn2 0 ⟨#[78, 85, 76, 76]⟩ _ (H3.out.pz.alloc _) hl (by omega) HX.out.2.2.2.2.2.2.1 (wds1 _ (by simp) ⟨#[78, 85, 76, 76]⟩) (by simp) rfl HX.out.2.2.2.2.2.2.2.1 (fun j x hj _ => absurd hj (by omega))).mono ?_; rintro e w4 ⟨rfl, hp4, hg4⟩; have H4 := Lib.hid ((H3.out.later ((Below.refl _ _).alloc (Nat.le_refl _) _)).grown hg4 hp4 hgl HQ.out (by omega)); clear hp4 hg4; clear k0 r0 k1 r1 k2 r2 k3 r3 k4 r4 k5 r5 rf bf hz hgz hzy; have k0 := H4.out.box.c0; have k1 := H4.out.box.c1; have k2 := H4.out.box.c2; have k3 := H4.out.box.c3; have k4 := H4.out.box.c4; have k5 := H4.out.box.c5; have r0 := H4.out.res.c0; have r1 := H4.out.res.c1; have r2 := H4.out.res.c2; have r3 := H4.out.res.c3; have r4 := H4.out.res.c4; have r5 := H4.out.res.c5; have rf := H4.out.rfz; have bf := H4.out.bfz; have hz := H4.out.lt; have hgz := H4.out.pz.lt; have hzy := Nat.lt_of_succ_lt hz; simp only [Nat.zero_add] at k0 r0 k1 r1 k2 r2 k3 r3 k4 r4 k5 r5)
    | (go_at_call 113; refine (checked_yes (N := N + 1) g A c l (at' + 1 + 1) ask failed _ (H4.out.pz.alloc _) (fun b => (Q b ∧ b < w.heap.size) ∨ w.heap.size + 1 < b) (oneT ⟨#[110, 117, 108, 108]⟩ t) _ (one_tr ⟨#[110, 117, 108, 108]⟩ H4.out.tr (.inr H4.out.lt)) HX.out.2.2.2.2.2.2.2.2).mono ?_; rintro e w5 ⟨u5, rfl, ht5, hp5, hg5⟩; obtain ⟨B5, q5, rfl, _⟩ := ht5.form; unfold EVt; have hc5 := (gcell hg5).1; have hf5 := (gcell hg5).2; have hy5 := hg5.size; (try simp at hy5); have HP5 := Lib.hid (And.intro ht5 (And.intro hp5 hg5)); clear ht5 hp5 hg5; have H5 := Lib.hid ((H4.out.later ((Below.refl _ _).alloc (Nat.le_refl _) _)).grown HP5.out.2.2 HP5.out.2.1 hgl HQ.out (by omega)); have hs4 := H4.out.lt; clear hc5 hf5; clear k0 r0 k1 r1 k2 r2 k3 r3 k4 r4 k5 r5 rf bf hz hgz hzy; have k0 := H5.out.box.c0; have k1 := H5.out.box.c1; have k2 := H5.out.box.c2; have k3 := H5.out.box.c3; have k4 := H5.out.box.c4; have k5 := H5.out.box.c5; have r0 := H5.out.res.c0; have r1 := H5.out.res.c1; have r2 := H5.out.res.c2; have r3 := H5.out.res.c3; have r4 := H5.out.res.c4; have r5 := H5.out.res.c5; have rf := H5.out.rfz; have bf := H5.out.bfz; have hz := H5.out.lt; have hgz := H5.out.pz.lt; have hzy := Nat.lt_of_succ_lt hz; simp only [Nat.zero_add] at k0 r0 k1 r1 k2 r2 k3 r3 k4 r4 k5 r5))
  refine bodyPost_ret (v := .agg #[.string (oneT ⟨#[110, 117, 108, 108]⟩ t).op, .int .i64 (oneT ⟨#[110, 117, 108, 108]⟩ t).x.k, .int .i64 (oneT ⟨#[110, 117, 108, 108]⟩ t).x.i, .string (oneT ⟨#[110, 117, 108, 108]⟩ t).x.s, .string (oneT ⟨#[110, 117, 108, 108]⟩ t).s, .slice B5 (oneT ⟨#[110, 117, 108, 108]⟩ t).l.length q5]) (by simp [results, Tryz.results111, go_sem, *]) rfl ?_
  exact Res.store (Q := Q) (R := (fun b => (Q b ∧ b < w.heap.size) ∨ w.heap.size + 1 < b)) (HP5.out.1.keep (fun _ _ _ => rfl) (fun b h _ => h.elim id (fun h => .inr (by simp at h; omega)))) H5.out.pz H5.out.gr (b := w.heap.size + 1) (by omega) hgl (fun h => by rcases h with ⟨_, h⟩ | h <;> omega) (fun x h _ => by rcases h with ⟨h, _⟩ | h; exact .inl h; exact .inr (by omega)) _ _ _ _ _ _
end Go.Proofs.YtmgcmiflbjhakaaGreatDoor

/- The parser: NOT; Parse. -/
namespace Go.Proofs.YtmgcmiflbjhakaaGreatDoor
open Go.RowKit Go.Lib

theorem zT_of {W : World} {P Q : Nat → Prop} {N : Nat} {u : Value} (h : Tr W P N zT u) : Tr W Q N zT u := by
  refine ⟨h.1, ?_⟩
  have h2 := h.2
  cases N with
  | zero => exact h2
  | succ n =>
    obtain ⟨A, cap, e, hl, _⟩ := h2
    exact ⟨A, cap, e, hl, fun j hj => absurd hj (by simp [zT, Ex.l])⟩
set_option maxRecDepth 100000 in
set_option maxHeartbeats 4000000 in
theorem pnot_bad {N : Nat} (g : Nat) (A : Option Addr) (c : Nat) (l : List Tn) (at' ask : Nat) (failed : Bool) (tn : Tn) (t2 : Ex) (at2 : Nat) (failed2 : Bool) (w : World) (hz : Pz w g A c l at' ask failed) (hl : l.length ≤ 100000) (ha : at' ≤ 100000) (hk : ask < 11) (hx : Nx l at' failed tn) (hyes : isB tn ⟨#[78, 79, 84]⟩ = true) (hm : mayT (oneT ⟨#[110, 111, 116]⟩ t2) = false)
    (hpart : ∀ W, Pz W g A c l (at' + 1) (ask + 1) failed → Calls Tryz.prog 66 #[.pointer (some ⟨g, 0, none⟩)] W (Res W g A c l N (fun _ => False) t2 at2 (ask + 1) failed2)) :
    Calls Tryz.prog 66 #[.pointer (some ⟨g, 0, none⟩)] w (Res w g A c l (N + 1) (fun _ => False) zT at2 ask true) := by
  have HZ := Lib.hid hz
  have hgl := hz.lt
  have HX := Lib.hid (And.intro hx (And.intro hyes (And.intro hm hpart)))
  clear hz hx hyes hm hpart
  have hne0 : ¬ w.heap.size = g := by omega
  have hmf : ∀ (fn : Fn) (first cap : Array Value) (w : World), (Instr.makeFunc fn first cap).run Tryz.prog w = .ok (.func fn first cap) w := fun _ _ _ _ => rfl
  go_enter Tryz.func66, Tryz.ntmps66
  go_wp2_with (first
    | (go_at_call 110; refine (take_yes g A c l at' ask failed _ 1 [⟨#[78, 79, 84]⟩] tn 0 ⟨#[78, 79, 84]⟩ _ ((HZ.out.alloc _).alloc _) hl ha HX.out.1 (wds1 _ (by simp) ⟨#[78, 79, 84]⟩) (by simp) rfl HX.out.2.1 (fun j x hj _ => absurd hj (by omega))).mono ?_; rintro e w1 ⟨rfl, hp1, hg1⟩; have HP1 := Lib.hid hp1; have HG1 : Hid (w.grownBy w1 (some g) ∧ (w.alloc (.cells #[.string ⟨#[]⟩, .int .i64 0, .int .i64 0, .string ⟨#[]⟩, .string ⟨#[]⟩, .slice none 0 0] 26)).grownBy w1 (some g)) := ⟨grow_trans (grow_trans (grow_alloc _ _ _) (grow_alloc _ _ _)) hg1, grow_trans (grow_alloc _ _ _) hg1⟩; have hs1 : w.heap.size + 1 ≤ w1.heap.size := (by have := HG1.out.2.size; simpa using this); clear hp1 hg1)
    | (go_at_call 114; refine (asked_not (N := N) g A c l (at' + 1) ask at2 failed failed2 t2 _ HP1.out hk HX.out.2.2.2).mono ?_; rintro e w2 ⟨u2, rfl, ht2, hp2, hg2⟩; obtain ⟨B2, q2, rfl, _⟩ := ht2.form; unfold EVt; have hc2 := (gcell hg2).1; have hf2 := (gcell hg2).2; have hy2 := hg2.size; (try simp at hy2); have HP2 := Lib.hid (And.intro ht2 (And.intro hp2 hg2)); clear ht2 hp2 hg2; have hs2 := HP2.out.2.2.size; clear hc2 hf2)
    | (go_at_call 113; refine (checked_no (N := N + 1) g A c l at2 ask failed2 _ (HP2.out.2.1.alloc _) (fun _ => True) (oneT ⟨#[110, 111, 116]⟩ t2) _ ((one_tr (R := fun _ => True) ⟨#[110, 111, 116]⟩ (HP2.out.1.keep (fun _ _ _ => rfl) (fun _ _ _ => trivial)) trivial)) HX.out.2.2.1).mono ?_; rintro e w3 ⟨u3, rfl, ht3, hp3, hg3⟩; obtain ⟨B3, q3, rfl, _⟩ := ht3.form; unfold EVt; have hc3 := (gcell hg3).1; have hf3 := (gcell hg3).2; have hy3 := hg3.size; (try simp at hy3); have HP3 := Lib.hid (And.intro ht3 (And.intro hp3 hg3)); clear ht3 hp3 hg3; clear hc3 hf3; have hbx : w3.heap[w.heap.size]? = some (.cells #[.string ⟨#[]⟩, .int .i64 0, .int .i64 0, .string ⟨#[]⟩, .string ⟨#[]⟩, .slice none 0 0] 26 (0, 0)) := (HP3.out.2.2.block _ (by simp; omega) (fun e => by injection e with e; omega)).trans ((Below.heap_alloc _ _ _ (by omega)).trans ((HP2.out.2.2.block _ (by omega) (fun e => by injection e with e; omega)).trans ((HG1.out.2.block _ (by simp) (fun e => by injection e with e; omega)).trans (alloc_at rfl _)))); have EZ := box_cells (t := zT) hbx; have y0 := EZ.c0; have y1 := EZ.c1; have y2 := EZ.c2; have y3 := EZ.c3; have y4 := EZ.c4; have y5 := EZ.c5; have yf := Lib.frozen_of_heap hbx; simp only [Nat.zero_add] at y0 y1 y2 y3 y4 y5; clear EZ))
  refine bodyPost_ret (v := .agg #[.string zT.op, .int .i64 zT.x.k, .int .i64 zT.x.i, .string zT.x.s, .string zT.s, .slice B3 zT.l.length q3]) (by simp [results, Tryz.results66, go_sem, *]) rfl ?_
  exact Res.store (Q := (fun _ => False)) (R := fun b => w.heap.size < b) (zT_of HP3.out.1) HP3.out.2.1 (grow_trans (grow_trans (grow_trans HG1.out.1 HP2.out.2.2) (grow_alloc _ _ _)) HP3.out.2.2) (b := w.heap.size) (Nat.le_refl _) hgl (by omega) (fun x h _ => .inr (Nat.le_of_lt h)) _ _ _ _ _ _

set_option maxRecDepth 100000 in
set_option maxHeartbeats 4000000 in
theorem parse_no {N : Nat} (A : Option Addr) (c : Nat) (l : List Tn) (t : Ex) (at2 : Nat) (w : World) (ht : ∀ j (h : j < l.length), ∃ a, A = some a ∧ TnAt w (a.add (j * 2)) l[j]) (hL : LibE w)
    (hor : ∀ g W, Pz W g A c l 0 0 false → Calls Tryz.prog 42 #[.pointer (some ⟨g, 0, none⟩)] W (Res W g A c l N (fun _ => False) t at2 0 true)) :
    Calls Tryz.prog 24 #[.slice A l.length c] w fun e w' => e = .returned (.tuple #[.agg #[.string ⟨#[]⟩, .int .i64 0, .int .i64 0, .string ⟨#[]⟩, .string ⟨#[]⟩, .slice none 0 0], .int .i64 0, .int .i64 2]) ∧ Below w.heap.size w w' := by
  have HT := Lib.hid (And.intro ht hL)
  have HO := Lib.hid hor
  have HP0 : Hid (∀ o, Pz ((w.alloc o).alloc (.cells #[.slice A l.length c, .int .i64 0, .int .i64 0, .bool false] 82)) (w.heap.size + 1) A c l 0 0 false) := fun o =>
    ⟨alloc_at (by simp) _, fun j hj => by
      obtain ⟨a, e, hA⟩ := HT.out.1 j hj
      have hlt := hA.lt
      rw [add_block] at hlt
      exact ⟨a, e, by omega, hA.keep (by rw [add_block, Below.heap_alloc _ _ _ (by simp; omega), Below.heap_alloc _ _ _ hlt])⟩,
     ⟨w, HT.out.2, by omega, ((Below.refl _ _).alloc (Nat.le_refl _) _).alloc (by simp) _⟩⟩
  clear ht hL hor
  obtain ⟨n, HN⟩ : ∃ n, Hid (l.length = n) := ⟨_, Lib.hid rfl⟩
  rw [HN.out] at HP0 ⊢
  obtain ⟨g, HG⟩ : ∃ g, Hid (w.heap.size + 1 = g) := ⟨_, Lib.hid rfl⟩
  go_enter Tryz.func24, Tryz.ntmps24
  go_wp2_with (go_at_call 42; refine (HO.out _ _ (HP0.out _)).mono ?_; rintro e w1 ⟨u1, rfl, ht1, hp1, hg1⟩; obtain ⟨B1, q1, rfl, _⟩ := ht1.form; unfold EVt; have hc1 := (gcell hg1).1; have hf1 := (gcell hg1).2; have hy1 := hg1.size; (try simp at hy1); have hz0 : w.heap.size < w1.heap.size := (by omega); have hz1 : w.heap.size + 1 < w1.heap.size := (by omega); have d1 := hp1.c1; have d3 := hp1.c3; have hzx : w.heap.size < w1.heap.size + 1 := (by omega); have hzy : w.heap.size + 1 < w1.heap.size + 1 := (by omega); have HP1 := Lib.hid (And.intro ht1 (And.intro hp1 hg1)); clear ht1 hp1 hg1)
  have HB1 : Hid (Below w.heap.size w w1) := below_grow (((Below.refl w.heap.size w).alloc (Nat.le_refl _) _).alloc (by simp) _) HP1.out.2.2 (by omega) (by simp; omega)
  have hbx : w1.heap[w.heap.size]? = some (.cells #[.string ⟨#[]⟩, .int .i64 0, .int .i64 0, .string ⟨#[]⟩, .string ⟨#[]⟩, .slice none 0 0] 26 (0, 0)) := (HP1.out.2.2.block _ (by simp; omega) (fun e => by injection e with e; omega)).trans ((Below.heap_alloc _ _ _ (by simp)).trans (alloc_at rfl _))
  have EZ := box_cells (t := zT) hbx; have y0 := EZ.c0; have y1 := EZ.c1; have y2 := EZ.c2; have y3 := EZ.c3; have y4 := EZ.c4; have y5 := EZ.c5; have yf := Lib.frozen_of_heap hbx; simp only [Nat.zero_add] at y0 y1 y2 y3 y4 y5; clear EZ
  clear hc1 hf1
  refine bodyPost_ret (v := .tuple #[.agg #[.string ⟨#[]⟩, .int .i64 0, .int .i64 0, .string ⟨#[]⟩, .string ⟨#[]⟩, .slice none 0 0], .int .i64 0, .int .i64 2]) (by simp [results, Tryz.results24, go_sem, *]) rfl ⟨rfl, ?_⟩
  first
    | exact (cSet6 (Nat.le_refl _) HB1.out _ _ _ _ _ _).alloc (by simp [World.setCell]; omega) _
    | exact cSet6 (Nat.le_refl _) (HB1.out.alloc (by omega) _) _ _ _ _ _ _

set_option maxRecDepth 100000 in
set_option maxHeartbeats 4000000 in
theorem parse_ok {N : Nat} (A : Option Addr) (c : Nat) (l : List Tn) (t : Ex) (at2 : Nat) (w : World) (ht : ∀ j (h : j < l.length), ∃ a, A = some a ∧ TnAt w (a.add (j * 2)) l[j]) (hL : LibE w)
    (hor : ∀ g W, Pz W g A c l 0 0 false → Calls Tryz.prog 42 #[.pointer (some ⟨g, 0, none⟩)] W (Res W g A c l N (fun _ => False) t at2 0 false)) :
    Calls Tryz.prog 24 #[.slice A l.length c] w fun e w' => ∃ u, e = .returned (.tuple #[EVt t u, .int .i64 at2, .int .i64 0]) ∧ Tr w' (fun b => w.heap.size ≤ b) N t u ∧ Below w.heap.size w w' := by
  have HT := Lib.hid (And.intro ht hL)
  have HO := Lib.hid hor
  have HP0 : Hid (∀ o, Pz ((w.alloc o).alloc (.cells #[.slice A l.length c, .int .i64 0, .int .i64 0, .bool false] 82)) (w.heap.size + 1) A c l 0 0 false) := fun o =>
    ⟨alloc_at (by simp) _, fun j hj => by
      obtain ⟨a, e, hA⟩ := HT.out.1 j hj
      have hlt := hA.lt
      rw [add_block] at hlt
      exact ⟨a, e, by omega, hA.keep (by rw [add_block, Below.heap_alloc _ _ _ (by simp; omega), Below.heap_alloc _ _ _ hlt])⟩,
     ⟨w, HT.out.2, by omega, ((Below.refl _ _).alloc (Nat.le_refl _) _).alloc (by simp) _⟩⟩
  clear ht hL hor
  obtain ⟨n, HN⟩ : ∃ n, Hid (l.length = n) := ⟨_, Lib.hid rfl⟩
  rw [HN.out] at HP0 ⊢
  obtain ⟨g, HG⟩ : ∃ g, Hid (w.heap.size + 1 = g) := ⟨_, Lib.hid rfl⟩
  go_enter Tryz.func24, Tryz.ntmps24
  go_wp2_with (go_at_call 42; refine (HO.out _ _ (HP0.out _)).mono ?_; rintro e w1 ⟨u1, rfl, ht1, hp1, hg1⟩; obtain ⟨B1, q1, rfl, _⟩ := ht1.form; unfold EVt; have hc1 := (gcell hg1).1; have hf1 := (gcell hg1).2; have hy1 := hg1.size; (try simp at hy1); have hz0 : w.heap.size < w1.heap.size := (by omega); have hz1 : w.heap.size + 1 < w1.heap.size := (by omega); have d1 := hp1.c1; have d3 := hp1.c3; have hzx : w.heap.size < w1.heap.size + 1 := (by omega); have hzy : w.heap.size + 1 < w1.heap.size + 1 := (by omega); have HP1 := Lib.hid (And.intro ht1 (And.intro hp1 hg1)); clear ht1 hp1 hg1)
  have HB1 : Hid (Below w.heap.size w w1) := below_grow (((Below.refl w.heap.size w).alloc (Nat.le_refl _) _).alloc (by simp) _) HP1.out.2.2 (by omega) (by simp; omega)
  have HT1 : Hid (Tr w1 (fun b => w.heap.size + 1 < b) N t (.slice B1 t.l.length q1)) := HP1.out.1.keep (fun _ _ _ => rfl) (fun b h _ => h.elim False.elim (fun h => by simp at h; omega))
  go_region
  all_goals go_wp2_with (fail)
  all_goals
    have hbx : w1.heap[w.heap.size]? = some (.cells #[.string ⟨#[]⟩, .int .i64 0, .int .i64 0, .string ⟨#[]⟩, .string ⟨#[]⟩, .slice none 0 0] 26 (0, 0)) := (HP1.out.2.2.block _ (by simp; omega) (fun e => by injection e with e; omega)).trans ((Below.heap_alloc _ _ _ (by simp)).trans (alloc_at rfl _))
    have EZ := box_cells (t := zT) hbx; have y0 := EZ.c0; have y1 := EZ.c1; have y2 := EZ.c2; have y3 := EZ.c3; have y4 := EZ.c4; have y5 := EZ.c5; have yf := Lib.frozen_of_heap hbx; simp only [Nat.zero_add] at y0 y1 y2 y3 y4 y5; clear EZ
    clear hc1 hf1
    refine bodyPost_ret (v := .tuple #[.agg #[.string t.op, .int .i64 t.x.k, .int .i64 t.x.i, .string t.x.s, .string t.s, .slice B1 t.l.length q1], .int .i64 at2, .int .i64 0]) (by simp [results, Tryz.results24, go_sem, *]) rfl ⟨_, rfl, ?_, ?_⟩
    · first
        | exact ((HT1.out.set6 (b := w.heap.size) (by omega) (fun b h _ => Nat.le_of_lt (Nat.lt_of_succ_lt h)) _ _ _ _ _ _).below ((Below.refl _ _).alloc (Nat.le_refl _) _)).below (Below.refl _ _).drew
        | exact ((HT1.out.below ((Below.refl _ _).alloc (Nat.le_refl _) _)).set6 (b := w.heap.size) (by omega) (fun b h _ => Nat.le_of_lt (Nat.lt_of_succ_lt h)) _ _ _ _ _ _).below (Below.refl _ _).drew
    · first
        | exact ((cSet6 (Nat.le_refl _) HB1.out _ _ _ _ _ _).alloc (by simp [World.setCell]; omega) _).drew
        | exact (cSet6 (Nat.le_refl _) (HB1.out.alloc (by omega) _) _ _ _ _ _ _).drew
end Go.Proofs.YtmgcmiflbjhakaaGreatDoor

/- Join. -/
namespace Go.Proofs.YtmgcmiflbjhakaaGreatDoor
open Go.RowKit Go.Lib

theorem joinO_snoc : ∀ (l : List Tk) (x : Tk), joinO (l ++ [x]) = if l = [] then tkO x else joinO l ++ 32 :: tkO x
  | [], x => by simp [joinO]
  | [t], x => by simp [joinO]
  | t :: u :: l, x => by
    have ih := joinO_snoc (u :: l) x
    rw [if_neg (by simp)] at ih ⊢
    rw [List.cons_append, List.cons_append, joinO, ← List.cons_append, ih, joinO]
    simp
theorem joinO_len : ∀ l : List Tk, (∀ t ∈ l, t.may = true) → (joinO l).length ≤ 101 * l.length
  | [], _ => by simp [joinO]
  | [t], h => by have := tkO_len (h t List.mem_cons_self); simp [joinO]; omega
  | t :: u :: l, h => by
    have ih := joinO_len (u :: l) fun x hx => h x (List.mem_cons_of_mem _ hx)
    have := tkO_len (h t List.mem_cons_self)
    rw [joinO]
    simp at ih ⊢
    omega
theorem Bld.row_ne {W : World} {B b : Nat} {l : List UInt8} (h : Bld W B b l) (hb : b < W.heap.size) (o : Obj) : ∀ p v, (W.alloc o).heap[b]? = some (.cells #[p, v] 145 (0, 0)) → v.ownBlock ≠ some W.heap.size := by
  intro p v hp hv
  rw [((Below.refl W.heap.size W).alloc (Nat.le_refl _) o).block b hb] at hp
  have key : ∀ p0, Lib.BuilderAt 145 5 B b p0 (byteCells l) W → False := by
    rintro p0 ⟨_, v0, h2, h3, _⟩
    rw [h2] at hp
    simp at hp
    rw [← hp.2] at hv
    have := (h3.lt _ hv).2
    omega
  rcases h with h | h
  · exact key _ h
  · exact key _ h
theorem Bld.lt {W : World} {B b : Nat} {l : List UInt8} (h : Bld W B b l) : b < W.heap.size := by
  rcases h with ⟨_, v, h2, _⟩ | ⟨_, v, h2, _⟩ <;> exact (Array.getElem?_eq_some_iff.1 h2).1
theorem sz_mk' (l : List UInt8) : (⟨l.toArray⟩ : ByteArray).size = l.length := by simp [ByteArray.size]

def joinOk (l : List Tk) : Bool := decide (l.length ≤ 400) && l.all Tk.may
def joinE (l : List Tk) : Int := if joinOk l then 0 else 1
def joinS (l : List Tk) : ByteArray := if joinOk l then ⟨(joinO l).toArray⟩ else ⟨#[]⟩
end Go.Proofs.YtmgcmiflbjhakaaGreatDoor

/- The law LexerAgain. -/
namespace Go.Proofs.YtmgcmiflbjhakaaGreatDoor
open Go.RowKit Go.Lib

theorem cut_two (s : ByteArray) (w : World) (hs : s.size ≤ 100000) (hl : LibE w) (ts : List Tk) (h : cutR s.data.toList = some ts) (n : Nat) (hn : ts.length = n) :
    Calls Tryz.prog 46 #[.string s] w fun e w' => ∃ A cap, e = .returned (.tuple #[.slice A n cap, .int .i64 0]) ∧ Hid (Toks w' w'.heap.size A n ts) ∧ Below w.heap.size w w' := cut_ok' s w hs hl ts h n hn
theorem cutR_get {l : List UInt8} {ts : List Tk} (h : cutR l = some ts) : cut l = some ts ∧ ts.length ≤ 400 := by
  unfold cutR at h
  cases hc : cut l with
  | none => rw [hc] at h; cases h
  | some x =>
    rw [hc] at h
    simp only at h
    split at h
    · rename_i hl; obtain rfl := Option.some.inj h; exact ⟨rfl, hl⟩
    · cases h
theorem may_short {l : List Tk} (h : ∀ t ∈ l, t.may = true) : ShortT l := fun t ht => by
  have h1 := h t ht
  have h2 := tkO_len h1
  rw [sz_mk']
  have h3 : t.s.length ≤ (tkO t).length := by
    unfold tkO
    split
    · have := dbl_ge t.s; simp; omega
    · exact Nat.le_refl _
  omega
theorem joinOk_of {l : List Tk} (h : ∀ t ∈ l, t.may = true) (hl : l.length ≤ 400) : joinOk l = true := by
  unfold joinOk
  rw [decide_eq_true hl, List.all_eq_true.2 h]
  rfl
/-- What may be joined is cut as it was. -/
theorem join_cut {l : List Tk} (h : ∀ t ∈ l, t.may = true) (hl : l.length ≤ 400) : cutR (⟨(joinO l).toArray⟩ : ByteArray).data.toList = some l := cutR_some (by simpa using cut_join l h) hl
end Go.Proofs.YtmgcmiflbjhakaaGreatDoor

/- The document's own: digit, letter, part, Name, May. -/
namespace Go.Proofs.YtmgcmiflbjhakaaGreatDoor
open Go.RowKit Go.Lib

set_option maxRecDepth 100000 in
set_option maxHeartbeats 800000 in
theorem rletter_any (b : UInt8) (w : World) :
    Calls Tryz.prog 41 #[.int .u8 (b.toNat : Int)] w fun e w' => e = .returned (.bool (letB b)) ∧ Below w.heap.size w w' := by
  go_enter Tryz.func41, Tryz.ntmps41
  go_wp2
  all_goals
    go_ret
    refine ⟨ret_bool ?_, ?_⟩
    · (first | (simp [letB, *]; done) | (simp [letB, *]; rw [Bool.eq_iff_iff]; simp; omega) | (simp [letB, *]; omega) | (unfold letB; rw [Bool.eq_iff_iff]; simp; omega) | (unfold letB; simp_all <;> omega))
    · (first | exact hb1.trans (hb2.mono hb1.size) | exact hb1 | (repeat (first | (with_reducible exact Below.refl _ _) | ((with_reducible refine cSet3 ?_ ?_ _ _ _); (· ((try simp) <;> omega))) | (with_reducible refine Below.drew ?_) | ((with_reducible refine cAlloc ?_ ?_ _); (· ((try simp) <;> omega))) | ((with_reducible refine cOn (by assumption) ?_ ?_); (· ((try simp) <;> omega))))))

set_option maxRecDepth 100000 in
set_option maxHeartbeats 800000 in
theorem rdigit3_any (b : UInt8) (w : World) :
    Calls Tryz.prog 64 #[.int .u8 (b.toNat : Int)] w fun e w' => e = .returned (.bool (digB b)) ∧ Below w.heap.size w w' := by
  go_enter Tryz.func64, Tryz.ntmps64
  go_wp2
  all_goals
    go_ret
    refine ⟨ret_bool ?_, ?_⟩
    · (first | (simp [digB, *]; done) | (simp [digB, *]; rw [Bool.eq_iff_iff]; simp; omega) | (simp [digB, *]; omega) | (unfold digB; rw [Bool.eq_iff_iff]; simp; omega) | (unfold digB; simp_all <;> omega))
    · (first | exact hb1.trans (hb2.mono hb1.size) | exact hb1 | (repeat (first | (with_reducible exact Below.refl _ _) | ((with_reducible refine cSet3 ?_ ?_ _ _ _); (· ((try simp) <;> omega))) | (with_reducible refine Below.drew ?_) | ((with_reducible refine cAlloc ?_ ?_ _); (· ((try simp) <;> omega))) | ((with_reducible refine cOn (by assumption) ?_ ?_); (· ((try simp) <;> omega))))))

set_option maxRecDepth 100000 in
set_option maxHeartbeats 800000 in
theorem rpart_any (b : UInt8) (w : World) :
    Calls Tryz.prog 40 #[.int .u8 (b.toNat : Int)] w fun e w' => e = .returned (.bool (parB b)) ∧ Below w.heap.size w w' := by
  go_enter Tryz.func40, Tryz.ntmps40
  go_wp2_with (first
    | (go_at_call 64; refine (rdigit3_any b _).mono ?_; rintro e w1 ⟨rfl, hb1⟩)
    | (go_at_call 41; refine (rletter_any b _).mono ?_; rintro e w2 ⟨rfl, hb2⟩))
  all_goals
    go_ret
    refine ⟨ret_bool ?_, ?_⟩
    · (first | (simp [parB, *]; done) | (simp [parB, *]; rw [Bool.eq_iff_iff]; simp; omega) | (simp [parB, *]; omega) | (unfold parB; rw [Bool.eq_iff_iff]; simp; omega) | (unfold parB; simp_all <;> omega))
    · (first | exact hb1.trans (hb2.mono hb1.size) | exact hb1 | (repeat (first | (with_reducible exact Below.refl _ _) | ((with_reducible refine cSet3 ?_ ?_ _ _ _); (· ((try simp) <;> omega))) | (with_reducible refine Below.drew ?_) | ((with_reducible refine cAlloc ?_ ?_ _); (· ((try simp) <;> omega))) | ((with_reducible refine cOn (by assumption) ?_ ?_); (· ((try simp) <;> omega))))))

theorem mem_tw {q : UInt8 → Bool} : ∀ {r : List UInt8} {x : UInt8}, x ∈ r.takeWhile q → q x = true
  | [], _, h => by cases h
  | c :: r, x, h => by
    rw [List.takeWhile_cons] at h
    by_cases hc : q c = true
    · rw [if_pos hc] at h
      rcases List.mem_cons.1 h with rfl | h
      · exact hc
      · exact mem_tw h
    · rw [if_neg hc] at h; cases h
theorem kmay_is {p q : UInt8 → Bool} (hpq : ∀ c, p c = true → q c = true) (m : Nat) (l : List UInt8) : kmay p q m l = (l.all q && (decide (1 ≤ l.length) && (decide (l.length ≤ m) && (match l.head? with | none => false | some c => p c)))) := by
  cases l with
  | nil => rfl
  | cons c r =>
    cases hp : p c with
    | false =>
      have e : kmay p q m (c :: r) = false := by
        unfold kmay
        rw [tog_zero hp]
        simp
      rw [e]
      simp [hp]
    | true =>
      have hq := hpq c hp
      unfold kmay
      rw [tog_on hp]
      simp only [List.all_cons, hq, Bool.true_and, List.isEmpty_cons, Bool.not_false, List.head?_cons, hp, List.length_cons]
      cases ha : r.all q with
      | true =>
        have : r.takeWhile q = r := by
          apply (List.takeWhile_prefix q).eq_of_length
          clear hp hq
          induction r with
          | nil => rfl
          | cons d r ih =>
            rw [List.all_cons, Bool.and_eq_true] at ha
            rw [List.takeWhile_cons, if_pos ha.1]
            simp [ih ha.2]
        rw [this]
        simp
        omega
      | false =>
        have : (r.takeWhile q).length ≠ r.length := by
          intro e
          have e2 := (List.takeWhile_prefix q).eq_of_length e
          have : r.all q = true := by
            rw [← e2, List.all_eq_true]
            intro x hx
            exact mem_tw hx
          rw [this] at ha; cases ha
        simp
        omega
theorem let_par {c : UInt8} (h : letB c = true) : parB c = true := by unfold parB; rw [h]; rfl
theorem all_take {s : ByteArray} {q : UInt8 → Bool} (h : (s.data.toList.take s.size).all q = true) : s.data.toList.all q = true := by
  rwa [List.take_of_length_le (by rw [← Lib.size_eq]; omega)] at h
theorem all_bad {s : ByteArray} {q : UInt8 → Bool} {n : Nat} (h : n < s.size) (hq : q s[n] = false) : s.data.toList.all q = false := by
  cases ha : s.data.toList.all q with
  | false => rfl
  | true =>
    have := List.all_eq_true.1 ha s[n] (List.mem_of_getElem? (get_at' h))
    rw [hq] at this; cases this
theorem all_step {s : ByteArray} {q : UInt8 → Bool} {n : Nat} (h : n < s.size) (hq : q s[n] = true) (ha : (s.data.toList.take n).all q = true) : (s.data.toList.take (n + 1)).all q = true := by
  rw [take_one s n h, List.all_append, ha]
  simp [hq]
theorem head_of {s : ByteArray} (h : 0 < s.size) : s.data.toList.head? = some s[0] := by rw [List.head?_eq_getElem?, get_at' h]

set_option maxRecDepth 100000 in
set_option maxHeartbeats 1600000 in
theorem rname_any (s : ByteArray) (w : World) (hs : s.size ≤ 100000) :
    Calls Tryz.prog 23 #[.string s] w fun e w' => e = .returned (.bool (kmay letB parB 16 s.data.toList)) ∧ Below w.heap.size w w' := by
  have HK := Lib.hid (kmay_is (p := letB) (q := parB) (fun _ h => let_par h) 16 s.data.toList)
  go_enter Tryz.func23, Tryz.ntmps23
  go_wp2
  go_loopw [3] (fun i wr => ∃ k : Nat, k ≤ s.size ∧ i = .int .i64 k ∧ Below w.heap.size w wr ∧ Hid ((s.data.toList.take k).all parB = true)) (fun i _ => s.size - (intOf i).toNat)
  case atStart => exact ⟨0, by omega, rfl, Below.refl _ _, by show _ = _; simp⟩
  case round =>
    obtain ⟨k, hk, rfl, hb, HA⟩ := hrel
    have hbs := hb.size
    by_cases hlt : k < s.size
    · cases hq : parB s[k] with
      | true =>
        have HC := Lib.hid (fun (W : World) => hq ▸ rpart_any s[k] W)
        have HN := Lib.hid (all_step hlt hq HA.out)
        clear hq
        go_wp2_with (go_at_call 40; refine (HC.out _).mono ?_; rintro e w1 ⟨rfl, hb1⟩)
        go_roundw
        case rel => exact ⟨k + 1, by omega, by go_num, hb.trans (hb1.mono hbs), HN.out⟩
        case measure => simp [intOf]; omega
      | false =>
        have HC := Lib.hid (fun (W : World) => hq ▸ rpart_any s[k] W)
        have HR := Lib.hid (show kmay letB parB 16 s.data.toList = false by rw [HK.out, all_bad hlt hq]; rfl)
        clear hq
        go_wp2_with (go_at_call 40; refine (HC.out _).mono ?_; rintro e w1 ⟨rfl, hb1⟩)
        go_ret
        exact ⟨ret_bool HR.out.symm, hb.trans (hb1.mono hbs)⟩
    · obtain rfl : k = s.size := by omega
      have HALL := Lib.hid (all_take HA.out)
      by_cases h1 : 1 ≤ s.size
      · have h1' : (1 : Int) ≤ (s.size : Int) := by omega
        have h0 : 0 < s.size := by omega
        by_cases h16 : s.size ≤ 16
        · have h16' : (s.size : Int) ≤ 16 := by omega
          have HR := Lib.hid (show kmay letB parB 16 s.data.toList = letB s[0] by rw [HK.out, HALL.out, ← Lib.size_eq, decide_eq_true h1, decide_eq_true h16, head_of h0]; simp)
          go_wp2_with (go_at_call 41; refine (rletter_any s[0] _).mono ?_; rintro e w1 ⟨rfl, hb1⟩)
          go_ret
          exact ⟨ret_bool HR.out.symm, hb.trans (hb1.mono hbs)⟩
        · have h16' : ¬ (s.size : Int) ≤ 16 := by omega
          have HR := Lib.hid (show kmay letB parB 16 s.data.toList = false by rw [HK.out, ← Lib.size_eq, decide_eq_false h16]; simp)
          go_wp2
          go_ret
          exact ⟨ret_bool HR.out.symm, hb⟩
      · have h1' : ¬ (1 : Int) ≤ (s.size : Int) := by omega
        have HR := Lib.hid (show kmay letB parB 16 s.data.toList = false by rw [HK.out, ← Lib.size_eq, decide_eq_false h1]; simp)
        go_wp2
        go_ret
        exact ⟨ret_bool HR.out.symm, hb⟩

theorem sign_all (l : List UInt8) : kmay sigB nonB 1 l = decide (l ∈ [[40], [41], [44], [61], [60], [43], [45], [42]]) := by
  rw [Bool.eq_iff_iff, decide_eq_true_eq]
  constructor
  · intro h
    obtain ⟨c, r, e, hp, _, hm⟩ := kmay_form h
    have hr : r = [] := List.length_eq_zero_iff.1 (by omega)
    subst hr
    subst e
    have := List.contains_iff_mem.1 hp
    simp only [sigL, List.mem_cons, List.mem_nil_iff, or_false] at this
    rcases this with rfl | rfl | rfl | rfl | rfl | rfl | rfl | rfl <;> simp
  · intro h
    simp only [List.mem_cons, List.mem_nil_iff, or_false] at h
    rcases h with rfl | rfl | rfl | rfl | rfl | rfl | rfl | rfl <;> decide
end Go.Proofs.YtmgcmiflbjhakaaGreatDoor
