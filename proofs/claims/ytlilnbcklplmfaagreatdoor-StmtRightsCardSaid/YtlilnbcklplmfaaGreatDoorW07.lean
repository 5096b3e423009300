import Derived.Test.YtlilnbcklplmfaaGreatDoorW06
import Derived.Deep.RegionWith
import Derived.Test.YtlilnbcklplmfaaGreatDoorW04
import Derived.WideMake
import Derived.Test.YtlilnbcklplmfaaGreatDoorW01
import Derived.LoopTactic
import Derived.Test.YtlilnbcklplmfaaGreatDoorRows
import Derived.Test.YtlilnbcklplmfaaGreatDoorTie
import Derived.Test.YtlilnbcklplmfaaGreatDoorCards
import Derived.ProofKit
import Derived.OpenShut
import Derived.LaidMore
import Derived.Lay
import Derived.SevenTiedAt
import Derived.SizedLaws
import Derived.Stop.Joined
import Derived.Shelf.Vars
import Derived.Lib.SmallJoins
import Derived.Handed
import Derived.Carry
import Derived.Deep.Slices
import Derived.Deep.Fields
import Derived.ChangeSame

/- The parser: two parts with a word between. -/
namespace Go.Proofs.YtlilnbcklplmfaaGreatDoor
open Go.RowKit Go.Lib

theorem gcellD {W w1 : World} {g : Nat} (h : W.drew.grownBy w1 (some g)) : ∀ b o, b < W.heap.size → ¬ b = g → w1.cell? ⟨b, o, none⟩ = W.cell? ⟨b, o, none⟩ := (gcell h).1
def twoT (op : ByteArray) (x y : Ex) : Ex := .mk op ⟨0, 0, ⟨#[]⟩⟩ ⟨#[]⟩ [x, y]
/-- The world in which both parts are there. -/
structure Jn (w : World) (g : Nat) (A : Option Addr) (c : Nat) (l : List Tn) (N : Nat) (Q : Nat → Prop) (t t2 : Ex) (u u2 : Value) (at' ask : Nat) (failed : Bool) (W : World) : Prop where
  t1 : Tr W (fun b => (Q b ∧ b < w.heap.size) ∨ w.heap.size + 1 < b) N t u
  t2 : Tr W (fun b => (Q b ∧ b < w.heap.size) ∨ w.heap.size + 1 < b) N t2 u2
  res : ExC W ⟨w.heap.size + 1, 0, none⟩ zT (.slice none 0 0)
  rfz : ∀ o, W.frozen? ⟨w.heap.size + 1, o, none⟩ = false
  pz : Pz W g A c l at' ask failed
  gr : w.grownBy W (some g)
  lt : w.heap.size + 1 < W.heap.size
section
variable {w W W' : World} {g : Nat} {A : Option Addr} {c : Nat} {l : List Tn} {N : Nat} {Q : Nat → Prop} {t t2 : Ex} {u u2 : Value} {at' ask : Nat} {failed : Bool}
theorem Jn.below (h : Jn w g A c l N Q t t2 u u2 at' ask failed W) (hb : Below W.heap.size W W') : Jn w g A c l N Q t t2 u u2 at' ask failed W' :=
  ⟨h.t1.below hb, h.t2.below hb, h.res.keep (hb.block _ h.res.lt), fun o => (hb.frozen (p := ⟨_, o, none⟩) h.res.lt).trans (h.rfz o), h.pz.below hb, grow_trans h.gr (grow_below hb _), Nat.lt_of_lt_of_le h.lt hb.size⟩
theorem Jn.mk' {B2 : Option Addr} {q2 : Nat} {b : Nat} {ws : List ByteArray} {at2 : Nat} {failed2 : Bool} {W1 : World} (h : Chn w g A c l N Q t u at' ask failed b ws W) (hgw : g < w.heap.size) (hQ : ∀ x, Q x → g < x) (hT : Tr W1 (fun x => False ∨ W.heap.size ≤ x) N t2 (.slice B2 t2.l.length q2)) (hP : Pz W1 g A c l at2 ask failed2) (hG : W.grownBy W1 (some g)) : Jn w g A c l N Q t t2 u (.slice B2 t2.l.length q2) at2 ask failed2 W1 := by
  have n1 : some (w.heap.size + 1) ≠ some g := fun e => by injection e with e; omega
  have hl := h.lt
  have hs := hG.size
  exact ⟨h.tr.grown hG (fun hx => by rcases hx with ⟨hx, _⟩ | hx; exact absurd (hQ _ hx) (by omega); omega), hT.keep (fun _ _ _ => rfl) (fun b h _ => h.elim False.elim (fun h => .inr (by omega))), h.res.keep (hG.block _ h.res.lt n1), fun o => (World.frozen?_of_block (w := W) (a := ⟨w.heap.size + 1, o, none⟩) (hG.block _ h.res.lt n1)).trans (h.rfz o), hP, grow_trans h.gr hG, by omega⟩
theorem Jn.two {B B2 : Option Addr} {p p2 q q2 : Nat} (op : ByteArray) (h : Jn w g A c l N Q t t2 (.slice B p q) (.slice B2 p2 q2) at' ask failed W) :
    Tr (W.alloc (.cells #[.string t.op, .int .i64 t.x.k, .int .i64 t.x.i, .string t.x.s, .string t.s, .slice B p q, .string t2.op, .int .i64 t2.x.k, .int .i64 t2.x.i, .string t2.x.s, .string t2.s, .slice B2 p2 q2] 30)) (fun b => (Q b ∧ b < w.heap.size) ∨ w.heap.size + 1 < b) (N + 1) (twoT op t t2) (.slice (some ⟨W.heap.size, 0, none⟩) 2 2) := by
  have hb : Below W.heap.size W (W.alloc (.cells #[.string t.op, .int .i64 t.x.k, .int .i64 t.x.i, .string t.x.s, .string t.s, .slice B p q, .string t2.op, .int .i64 t2.x.k, .int .i64 t2.x.i, .string t2.x.s, .string t2.s, .slice B2 p2 q2] 30)) := (Below.refl _ _).alloc (Nat.le_refl _) _
  have hl := h.lt
  refine ⟨by show (⟨#[]⟩ : ByteArray).size ≤ 100000; decide, some ⟨W.heap.size, 0, none⟩, 2, rfl, by simp [twoT, Ex.l, maxLen], fun j hj => ?_⟩
  have hj : j < 2 := hj
  rcases (show j = 0 ∨ j = 1 by omega) with rfl | rfl
  · refine ⟨_, .slice B p q, rfl, .inr hl, ?_, h.t1.1, (h.t1.below hb).2⟩
    have e : (⟨W.heap.size, 0, none⟩ : Addr).add (0 * 6) = ⟨W.heap.size, 0, none⟩ := by unfold Addr.add; simp
    rw [e]
    refine ⟨?_, ?_, ?_, ?_, ?_, ?_⟩ <;> (rw [Lib.cell_of_heap (alloc_at rfl _)]; rfl)
  · refine ⟨_, .slice B2 p2 q2, rfl, .inr hl, ?_, h.t2.1, (h.t2.below hb).2⟩
    have e : (⟨W.heap.size, 0, none⟩ : Addr).add (1 * 6) = ⟨W.heap.size, 6, none⟩ := by unfold Addr.add; simp
    rw [e]
    refine ⟨?_, ?_, ?_, ?_, ?_, ?_⟩ <;> (rw [Lib.cell_of_heap (alloc_at rfl _)]; rfl)
/-- Behind the check: the result's box is as it was. -/
structure Jd (w : World) (g : Nat) (A : Option Addr) (c : Nat) (l : List Tn) (N : Nat) (Q : Nat → Prop) (t : Ex) (u : Value) (at' ask : Nat) (failed : Bool) (W : World) : Prop where
  tr : Tr W (fun b => (Q b ∧ b < w.heap.size) ∨ w.heap.size + 1 < b) N t u
  res : ExC W ⟨w.heap.size + 1, 0, none⟩ zT (.slice none 0 0)
  rfz : ∀ o, W.frozen? ⟨w.heap.size + 1, o, none⟩ = false
  pz : Pz W g A c l at' ask failed
  gr : w.grownBy W (some g)
  lt : w.heap.size + 1 < W.heap.size
theorem Jn.done {t' : Ex} {u' : Value} {W2 W3 : World} {N2 : Nat} {at2 : Nat} {failed2 : Bool} (h : Jn w g A c l N Q t t2 u u2 at' ask failed W) (hgw : g < w.heap.size) (hb : Below W.heap.size W W2) (hT : Tr W3 (fun b => (fun b => (Q b ∧ b < w.heap.size) ∨ w.heap.size + 1 < b) b ∨ W2.heap.size ≤ b) N2 t' u') (hP : Pz W3 g A c l at2 ask failed2) (hG : W2.grownBy W3 (some g)) : Jd w g A c l N2 Q t' u' at2 ask failed2 W3 := by
  have n1 : some (w.heap.size + 1) ≠ some g := fun e => by injection e with e; omega
  have hl := h.lt
  have hs := hG.size
  have hs2 := hb.size
  have hr := h.res.keep (hb.block _ h.res.lt)
  exact ⟨hT.keep (fun _ _ _ => rfl) (fun b h _ => h.elim id (fun h => .inr (by omega))), hr.keep (hG.block _ hr.lt n1), fun o => (World.frozen?_of_block (w := W2) (a := ⟨w.heap.size + 1, o, none⟩) (hG.block _ hr.lt n1)).trans ((hb.frozen (p := ⟨_, o, none⟩) h.res.lt).trans (h.rfz o)), hP, grow_trans (grow_trans h.gr (grow_below hb _)) hG, by omega⟩
end
set_option maxRecDepth 100000 in
set_option maxHeartbeats 4000000 in
theorem joined_sum {N : Nat} (g : Nat) (A : Option Addr) (c : Nat) (l : List Tn) (at' ask : Nat) (failed : Bool) (Q : Nat → Prop) (t t2 : Ex) (u : Value) (at2 : Nat) (failed2 : Bool) (w : World) (hz : Pz w g A c l at' ask failed) (hk : ask < 11) (ht : Tr w Q N t u) (hQ : ∀ x, Q x → g < x) (hm : mayT (twoT ⟨#[61]⟩ t t2) = true)
    (hpart : ∀ W, Pz W g A c l at' (ask + 1) failed → Calls Tryz.prog 281 #[.pointer (some ⟨g, 0, none⟩)] W (Res W g A c l N (fun _ => False) t2 at2 (ask + 1) failed2)) :
    Calls Tryz.prog 277 #[.pointer (some ⟨g, 0, none⟩), EVt t u, .string ⟨#[61]⟩, .func (.func 281) #[.pointer (some ⟨g, 0, none⟩)] #[]] w (Res w g A c l (N + 1) Q (twoT ⟨#[61]⟩ t t2) at2 ask failed2) := by
  obtain ⟨B, q, rfl, hn2⟩ := ht.form
  have hgl := hz.lt
  have H0 : Hid (Chn w g A c l N Q t (.slice B t.l.length q) at' ask failed (w.heap.size + 1) [] ((w.alloc (.cells #[.string t.op, .int .i64 t.x.k, .int .i64 t.x.i, .string t.x.s, .string t.s, .slice B t.l.length q] 30)).alloc (.cells #[.string ⟨#[]⟩, .int .i64 0, .int .i64 0, .string ⟨#[]⟩, .string ⟨#[]⟩, .slice none 0 0] 30))) := Chn.start hz ht (fun j hj => absurd hj (by simp))
  have HX := Lib.hid (And.intro hpart hm)
  have HQ := Lib.hid hQ
  unfold EVt
  clear hz ht hpart hm hQ
  have hne0 : ¬ w.heap.size = g := by omega
  have hne1 : ¬ w.heap.size + 1 = g := by omega
  go_enter Tryz.func277, Tryz.ntmps277
  go_upto_region 1 with (fail)
  refine wp_gen (Chn w g A c l N Q t (.slice B t.l.length q) at' ask failed (w.heap.size + 1) []) H0.out fun w0 h0 => ?_
  clear H0
  have H0 := Lib.hid h0
  clear h0
  have k0 := H0.out.box.c0
  have k1 := H0.out.box.c1
  have k2 := H0.out.box.c2
  have k3 := H0.out.box.c3
  have k4 := H0.out.box.c4
  have k5 := H0.out.box.c5
  have r0 := H0.out.res.c0
  have r1 := H0.out.res.c1
  have r2 := H0.out.res.c2
  have r3 := H0.out.res.c3
  have r4 := H0.out.res.c4
  have r5 := H0.out.res.c5
  have rf := H0.out.rfz
  have bf := H0.out.bfz
  have hz := H0.out.lt
  have hgz := H0.out.pz.lt
  have hzy := Nat.lt_of_succ_lt hz
  simp only [Nat.zero_add] at k0 r0 k1 r1 k2 r2 k3 r3 k4 r4 k5 r5
  go_region_with (first
    | (go_at_call 292; refine (lower_eq _).mono ?_; rintro e wL ⟨rfl, hbL⟩; (first | (have hcL := bcellD hbL) | (have hcL := (bcell hbL).1)); have hyL := hbL.size; (try simp at hyL); have hzL : w.heap.size < wL.heap.size := (by omega); (try have K2 := Lib.hid (K2.out.below hbL)))
    | (go_at_call 263; go_loud (refine (asked_sum (N := N) g A c l at' ask at2 failed failed2 t2 _ (by first | exact H0.out.pz.drew | exact (H0.out.pz.drew.below hbL)) hk HX.out.1).mono ?_); rintro e w2 ⟨u2, rfl, ht2, hp2, hg2⟩; obtain ⟨B2, q2, rfl, _⟩ := ht2.form; unfold EVt; (first | (have hc2 := gcellD hg2) | (have hc2 := (gcell hg2).1)); have hf2 := (gcell hg2).2; have hy2 := hg2.size; (try simp at hy2); have HP2 := Lib.hid (And.intro ht2 (And.intro hp2 hg2)); clear ht2 hp2 hg2; (try have hz2 : w.heap.size < w2.heap.size := by omega); have K2 : Hid (Jn w g A c l N Q t t2 (.slice B t.l.length q) (.slice B2 t2.l.length q2) at2 ask failed2 w2) := (by first | exact Jn.mk' (H0.out.later (Below.refl w0.heap.size w0).drew) hgl HQ.out HP2.out.1 HP2.out.2.1 HP2.out.2.2 | exact Jn.mk' ((H0.out.later (Below.refl w0.heap.size w0).drew).later hbL) hgl HQ.out HP2.out.1 HP2.out.2.1 HP2.out.2.2))
    | (go_at_call 262; have hc9 := 0; go_loud (refine (checked_yes (N := N + 1) g A c l at2 ask failed2 _ (by first | exact K2.out.pz.alloc _ | exact (K2.out.pz.alloc _).below hbL) (fun b => (Q b ∧ b < w.heap.size) ∨ w.heap.size + 1 < b) (twoT ⟨#[61]⟩ t t2) _ (by first | exact Jn.two ⟨#[61]⟩ K2.out | exact (Jn.two ⟨#[61]⟩ K2.out).below hbL) HX.out.2).mono ?_; rintro e w5 ⟨u5, rfl, ht5, hp5, hg5⟩; obtain ⟨B5, q5, rfl, _⟩ := ht5.form; unfold EVt; have HF : Hid (Jd w g A c l (N + 1) Q (twoT ⟨#[61]⟩ t t2) (.slice B5 (twoT ⟨#[61]⟩ t t2).l.length q5) at2 ask failed2 w5) := (by first | exact Jn.done K2.out hgl ((Below.refl _ _).alloc (Nat.le_refl _) _) ht5 hp5 hg5 | exact Jn.done K2.out hgl (((Below.refl _ _).alloc (Nat.le_refl _) _).trans (hbL.mono (by simp))) ht5 hp5 hg5); have z0 := HF.out.res.c0; have z1 := HF.out.res.c1; have z2 := HF.out.res.c2; have z3 := HF.out.res.c3; have z4 := HF.out.res.c4; have z5 := HF.out.res.c5; have zf := HF.out.rfz; have zl := HF.out.lt; simp only [Nat.zero_add] at z0 z1 z2 z3 z4 z5)))
  all_goals
    go_wp2_with (fail)
    refine bodyPost_ret (v := .agg #[.string (twoT ⟨#[61]⟩ t t2).op, .int .i64 (twoT ⟨#[61]⟩ t t2).x.k, .int .i64 (twoT ⟨#[61]⟩ t t2).x.i, .string (twoT ⟨#[61]⟩ t t2).x.s, .string (twoT ⟨#[61]⟩ t t2).s, .slice B5 (twoT ⟨#[61]⟩ t t2).l.length q5]) (by simp [results, Tryz.results277, go_sem, *]) rfl ?_
    exact Res.store (Q := Q) HF.out.tr HF.out.pz HF.out.gr (b := w.heap.size + 1) (by omega) hgl (fun h => by rcases h with ⟨_, h⟩ | h <;> omega) (fun x h _ => by rcases h with ⟨h, _⟩ | h; exact .inl h; exact .inr (by omega)) _ _ _ _ _ _

end Go.Proofs.YtlilnbcklplmfaaGreatDoor

/- The parser: a chain of two; a comparison that goes on. -/
namespace Go.Proofs.YtlilnbcklplmfaaGreatDoor
open Go.RowKit Go.Lib

end Go.Proofs.YtlilnbcklplmfaaGreatDoor

/- The parser: a comparison that goes on. -/
namespace Go.Proofs.YtlilnbcklplmfaaGreatDoor
open Go.RowKit Go.Lib

set_option maxRecDepth 100000 in
set_option maxHeartbeats 4000000 in
theorem cmpFrom_eq {N : Nat} (g : Nat) (A : Option Addr) (c : Nat) (l : List Tn) (at' ask : Nat) (failed : Bool) (tn : Tn) (Q : Nat → Prop) (t t2 : Ex) (u : Value) (at2 : Nat) (failed2 : Bool) (w : World) (hz : Pz w g A c l at' ask failed) (hl : l.length ≤ 100000) (ha : at' ≤ 100000) (hk : ask < 11) (hx : Nx l at' failed tn) (ht : Tr w Q N t u) (hQ : ∀ x, Q x → g < x) (n0 : isB tn ⟨#[43]⟩ = false) (n1 : isB tn ⟨#[45]⟩ = false) (hyes : isB tn ⟨#[61]⟩ = true) (hm : mayT (twoT ⟨#[61]⟩ t t2) = true)
    (hpart : ∀ W, Pz W g A c l (at' + 1) (ask + 1) failed → Calls Tryz.prog 281 #[.pointer (some ⟨g, 0, none⟩)] W (Res W g A c l N (fun _ => False) t2 at2 (ask + 1) failed2)) :
    Calls Tryz.prog 260 #[.pointer (some ⟨g, 0, none⟩), EVt t u] w (Res w g A c l (N + 1) Q (twoT ⟨#[61]⟩ t t2) at2 ask failed2) := by
  obtain ⟨B, q, rfl, hn2⟩ := ht.form
  have hgl := hz.lt
  have H0 : Hid (Chn w g A c l N Q t (.slice B t.l.length q) at' ask failed (w.heap.size + 1) [] ((w.alloc (.cells #[.string t.op, .int .i64 t.x.k, .int .i64 t.x.i, .string t.x.s, .string t.s, .slice B t.l.length q] 30)).alloc (.cells #[.string ⟨#[]⟩, .int .i64 0, .int .i64 0, .string ⟨#[]⟩, .string ⟨#[]⟩, .slice none 0 0] 30))) := Chn.start hz ht (fun j hj => absurd hj (by simp))
  have HX := Lib.hid (And.intro hx (And.intro n0 (And.intro n1 (And.intro hyes (And.intro hm hpart)))))
  have HQ := Lib.hid hQ
  have HRQ : Hid (∀ x, (fun b => (Q b ∧ b < w.heap.size) ∨ w.heap.size + 1 < b) x → g < x) := fun x h => by rcases h with ⟨h, _⟩ | h; exact HQ.out x h; omega
  unfold EVt
  clear hz hx ht hQ
  clear n0 n1 hyes hm hpart
  have hne0 : ¬ w.heap.size = g := by omega
  have hne1 : ¬ w.heap.size + 1 = g := by omega
  have hmf : ∀ (fn : Fn) (first cap : Array Value) (w : World), (Instr.makeFunc fn first cap).run Tryz.prog w = .ok (.func fn first cap) w := fun _ _ _ _ => rfl
  go_enter Tryz.func260, Tryz.ntmps260
  go_upto_region 1 with (fail)
  refine wp_gen (Chn w g A c l N Q t (.slice B t.l.length q) at' ask failed (w.heap.size + 1) []) H0.out fun w0 h0 => ?_
  clear H0
  have H0 := Lib.hid h0
  clear h0
  have k0 := H0.out.box.c0
  have k1 := H0.out.box.c1
  have k2 := H0.out.box.c2
  have k3 := H0.out.box.c3
  have k4 := H0.out.box.c4
  have k5 := H0.out.box.c5
  have r0 := H0.out.res.c0
  have r1 := H0.out.res.c1
  have r2 := H0.out.res.c2
  have r3 := H0.out.res.c3
  have r4 := H0.out.res.c4
  have r5 := H0.out.res.c5
  have rf := H0.out.rfz
  have bf := H0.out.bfz
  have hz := H0.out.lt
  have hgz := H0.out.pz.lt
  have hzy := Nat.lt_of_succ_lt hz
  simp only [Nat.zero_add] at k0 r0 k1 r1 k2 r2 k3 r3 k4 r4 k5 r5
  go_upto_region 2 with (go_at_call 279; refine (sumFrom_n g A c l at' ask failed tn (fun b => (Q b ∧ b < w.heap.size) ∨ w.heap.size + 1 < b) t (.slice B t.l.length q) _ H0.out.pz hl HX.out.1 H0.out.tr HX.out.2.1 HX.out.2.2.1).mono ?_; rintro e w1 ⟨u1, rfl, ht1, hp1, hg1⟩; obtain ⟨B1, q1, rfl, _⟩ := ht1.form; unfold EVt; have hc1 := (gcell hg1).1; have hf1 := (gcell hg1).2; have hy1 := hg1.size; (try simp at hy1); have HP1 := Lib.hid (And.intro ht1 (And.intro hp1 hg1)); clear ht1 hp1 hg1)
  refine wp_gen (Chn w g A c l N Q t (.slice B1 t.l.length q1) at' ask failed (w.heap.size + 1) []) (Chn.put H0.out HP1.out.1 HP1.out.2.1 HP1.out.2.2 hgl (by omega) (.inr rfl)) fun w2 h2 => ?_
  have H2 := Lib.hid h2
  clear k0 r0 k1 r1 k2 r2 k3 r3 k4 r4 k5 r5 rf bf hz hgz hzy
  clear h2 H0 HP1 hc1 hf1 hy1
  have k0 := H2.out.box.c0
  have k1 := H2.out.box.c1
  have k2 := H2.out.box.c2
  have k3 := H2.out.box.c3
  have k4 := H2.out.box.c4
  have k5 := H2.out.box.c5
  have r0 := H2.out.res.c0
  have r1 := H2.out.res.c1
  have r2 := H2.out.res.c2
  have r3 := H2.out.res.c3
  have r4 := H2.out.res.c4
  have r5 := H2.out.res.c5
  have rf := H2.out.rfz
  have bf := H2.out.bfz
  have hz := H2.out.lt
  have hgz := H2.out.pz.lt
  have hzy := Nat.lt_of_succ_lt hz
  simp only [Nat.zero_add] at k0 r0 k1 r1 k2 r2 k3 r3 k4 r4 k5 r5
  go_wp2_with (first
    | (go_at_call 259; refine (take_yes g A c l at' ask failed _ 3 [⟨#[61]⟩, ⟨#[60]⟩, ⟨#[73, 83]⟩] tn 0 ⟨#[61]⟩ _ (H2.out.pz.alloc _) hl ha HX.out.1 (wds3 _ (by simp) ⟨#[61]⟩ ⟨#[60]⟩ ⟨#[73, 83]⟩) (by simp) rfl HX.out.2.2.2.1 (fun j x hj _ => absurd hj (by omega))).mono ?_; rintro e w3 ⟨rfl, hp3, hg3⟩; have H3 := Lib.hid ((H2.out.later ((Below.refl _ _).alloc (Nat.le_refl _) _)).grown hg3 hp3 hgl HQ.out (by omega)); clear hp3 hg3 H2; clear k0 r0 k1 r1 k2 r2 k3 r3 k4 r4 k5 r5 rf bf hz hgz hzy; have k0 := H3.out.box.c0; have k1 := H3.out.box.c1; have k2 := H3.out.box.c2; have k3 := H3.out.box.c3; have k4 := H3.out.box.c4; have k5 := H3.out.box.c5; have r0 := H3.out.res.c0; have r1 := H3.out.res.c1; have r2 := H3.out.res.c2; have r3 := H3.out.res.c3; have r4 := H3.out.res.c4; have r5 := H3.out.res.c5; have rf := H3.out.rfz; have bf := H3.out.bfz; have hz := H3.out.lt; have hgz := H3.out.pz.lt; have hzy := Nat.lt_of_succ_lt hz; simp only [Nat.zero_add] at k0 r0 k1 r1 k2 r2 k3 r3 k4 r4 k5 r5)
    | (go_at_call 277; refine (joined_sum g A c l (at' + 1) ask failed (fun b => (Q b ∧ b < w.heap.size) ∨ w.heap.size + 1 < b) t t2 _ at2 failed2 _ H3.out.pz hk H3.out.tr HRQ.out HX.out.2.2.2.2.1 HX.out.2.2.2.2.2).mono ?_; rintro e w4 ⟨u4, rfl, ht4, hp4, hg4⟩; obtain ⟨B4, q4, rfl, _⟩ := ht4.form; unfold EVt; have hc4 := (gcell hg4).1; have hf4 := (gcell hg4).2; have hy4 := hg4.size; (try simp at hy4); have HP4 := Lib.hid (And.intro ht4 (And.intro hp4 hg4)); clear ht4 hp4 hg4; have H4 := Lib.hid (H3.out.grown HP4.out.2.2 HP4.out.2.1 hgl HQ.out (by omega)); have hs4 := H3.out.lt; clear hc4 hf4; clear k0 r0 k1 r1 k2 r2 k3 r3 k4 r4 k5 r5 rf bf hz hgz hzy; have k0 := H4.out.box.c0; have k1 := H4.out.box.c1; have k2 := H4.out.box.c2; have k3 := H4.out.box.c3; have k4 := H4.out.box.c4; have k5 := H4.out.box.c5; have r0 := H4.out.res.c0; have r1 := H4.out.res.c1; have r2 := H4.out.res.c2; have r3 := H4.out.res.c3; have r4 := H4.out.res.c4; have r5 := H4.out.res.c5; have rf := H4.out.rfz; have bf := H4.out.bfz; have hz := H4.out.lt; have hgz := H4.out.pz.lt; have hzy := Nat.lt_of_succ_lt hz; simp only [Nat.zero_add] at k0 r0 k1 r1 k2 r2 k3 r3 k4 r4 k5 r5))
  refine bodyPost_ret (v := .agg #[.string (twoT ⟨#[61]⟩ t t2).op, .int .i64 (twoT ⟨#[61]⟩ t t2).x.k, .int .i64 (twoT ⟨#[61]⟩ t t2).x.i, .string (twoT ⟨#[61]⟩ t t2).x.s, .string (twoT ⟨#[61]⟩ t t2).s, .slice B4 (twoT ⟨#[61]⟩ t t2).l.length q4]) (by simp [results, Tryz.results260, go_sem, *]) rfl ?_
  exact Res.store (Q := Q) (R := (fun b => (Q b ∧ b < w.heap.size) ∨ w.heap.size + 1 < b)) (HP4.out.1.keep (fun _ _ _ => rfl) (fun b h _ => h.elim id (fun h => .inr (by omega)))) H4.out.pz H4.out.gr (b := w.heap.size + 1) (by omega) hgl (fun h => by rcases h with ⟨_, h⟩ | h <;> omega) (fun x h _ => by rcases h with ⟨h, _⟩ | h; exact .inl h; exact .inr (by omega)) _ _ _ _ _ _

end Go.Proofs.YtlilnbcklplmfaaGreatDoor

/- The parser: NOT; Parse. -/
namespace Go.Proofs.YtlilnbcklplmfaaGreatDoor
open Go.RowKit Go.Lib

set_option maxRecDepth 100000 in
set_option maxHeartbeats 4000000 in
theorem parse_ok {N : Nat} (A : Option Addr) (c : Nat) (l : List Tn) (t : Ex) (at2 : Nat) (w : World) (ht : ∀ j (h : j < l.length), ∃ a, A = some a ∧ TnAt w (a.add (j * 2)) l[j]) (hL : LibE w)
    (hor : ∀ g W, Pz W g A c l 0 0 false → Calls Tryz.prog 215 #[.pointer (some ⟨g, 0, none⟩)] W (Res W g A c l N (fun _ => False) t at2 0 false)) :
    Calls Tryz.prog 181 #[.slice A l.length c] w fun e w' => ∃ u, e = .returned (.tuple #[EVt t u, .int .i64 at2, .int .i64 0]) ∧ Tr w' (fun b => w.heap.size ≤ b) N t u ∧ Below w.heap.size w w' := by
  have HT := Lib.hid (And.intro ht hL)
  have HO := Lib.hid hor
  have HP0 : Hid (∀ o, Pz ((w.alloc o).alloc (.cells #[.slice A l.length c, .int .i64 0, .int .i64 0, .bool false] 221)) (w.heap.size + 1) A c l 0 0 false) := fun o =>
    ⟨alloc_at (by simp) _, fun j hj => by
      obtain ⟨a, e, hA⟩ := HT.out.1 j hj
      have hlt := hA.lt
      rw [add_block] at hlt
      exact ⟨a, e, by omega, hA.keep (by rw [add_block, Below.heap_alloc _ _ _ (by simp; omega), Below.heap_alloc _ _ _ hlt])⟩,
     ⟨w, HT.out.2, by omega, ((Below.refl _ _).alloc (Nat.le_refl _) _).alloc (by simp) _⟩⟩
  clear ht hL hor
  obtain ⟨n, HN⟩ : ∃ n, Hid (l.length = n) := ⟨_, Lib.hid rfl⟩
  rw [HN.out] at HP0 ⊢
  obtain ⟨g, HG⟩ : ∃ g, Hid (w.heap.size + 1 = g) := ⟨_, Lib.hid rfl⟩
  go_enter Tryz.func181, Tryz.ntmps181
  go_wp2_with (go_at_call 215; refine (HO.out _ _ (HP0.out _)).mono ?_; rintro e w1 ⟨u1, rfl, ht1, hp1, hg1⟩; obtain ⟨B1, q1, rfl, _⟩ := ht1.form; unfold EVt; have hc1 := (gcell hg1).1; have hf1 := (gcell hg1).2; have hy1 := hg1.size; (try simp at hy1); have hz0 : w.heap.size < w1.heap.size := (by omega); have hz1 : w.heap.size + 1 < w1.heap.size := (by omega); have d1 := hp1.c1; have d3 := hp1.c3; have hzx : w.heap.size < w1.heap.size + 1 := (by omega); have hzy : w.heap.size + 1 < w1.heap.size + 1 := (by omega); have HP1 := Lib.hid (And.intro ht1 (And.intro hp1 hg1)); clear ht1 hp1 hg1)
  have HB1 : Hid (Below w.heap.size w w1) := below_grow (((Below.refl w.heap.size w).alloc (Nat.le_refl _) _).alloc (by simp) _) HP1.out.2.2 (by omega) (by simp; omega)
  have HT1 : Hid (Tr w1 (fun b => w.heap.size + 1 < b) N t (.slice B1 t.l.length q1)) := HP1.out.1.keep (fun _ _ _ => rfl) (fun b h _ => h.elim False.elim (fun h => by simp at h; omega))
  go_region
  all_goals go_wp2_with (fail)
  all_goals
    have hbx : w1.heap[w.heap.size]? = some (.cells #[.string ⟨#[]⟩, .int .i64 0, .int .i64 0, .string ⟨#[]⟩, .string ⟨#[]⟩, .slice none 0 0] 30 (0, 0)) := (HP1.out.2.2.block _ (by simp; omega) (fun e => by injection e with e; omega)).trans ((Below.heap_alloc _ _ _ (by simp)).trans (alloc_at rfl _))
    have EZ := box_cells (t := zT) hbx; have y0 := EZ.c0; have y1 := EZ.c1; have y2 := EZ.c2; have y3 := EZ.c3; have y4 := EZ.c4; have y5 := EZ.c5; have yf := Lib.frozen_of_heap hbx; simp only [Nat.zero_add] at y0 y1 y2 y3 y4 y5; clear EZ
    clear hc1 hf1
    refine bodyPost_ret (v := .tuple #[.agg #[.string t.op, .int .i64 t.x.k, .int .i64 t.x.i, .string t.x.s, .string t.s, .slice B1 t.l.length q1], .int .i64 at2, .int .i64 0]) (by simp [results, Tryz.results181, go_sem, *]) rfl ⟨_, rfl, ?_, ?_⟩
    · first
        | exact ((HT1.out.set6 (b := w.heap.size) (by omega) (fun b h _ => Nat.le_of_lt (Nat.lt_of_succ_lt h)) _ _ _ _ _ _).below ((Below.refl _ _).alloc (Nat.le_refl _) _)).below (Below.refl _ _).drew
        | exact ((HT1.out.below ((Below.refl _ _).alloc (Nat.le_refl _) _)).set6 (b := w.heap.size) (by omega) (fun b h _ => Nat.le_of_lt (Nat.lt_of_succ_lt h)) _ _ _ _ _ _).below (Below.refl _ _).drew
    · first
        | exact ((cSet6 (Nat.le_refl _) HB1.out _ _ _ _ _ _).alloc (by simp [World.setCell]; omega) _).drew
        | exact (cSet6 (Nat.le_refl _) (HB1.out.alloc (by omega) _) _ _ _ _ _ _).drew
end Go.Proofs.YtlilnbcklplmfaaGreatDoor

/- Join. -/
namespace Go.Proofs.YtlilnbcklplmfaaGreatDoor
open Go.RowKit Go.Lib

theorem Bld.lt {W : World} {B b : Nat} {l : List UInt8} (h : Bld W B b l) : b < W.heap.size := by
  rcases h with ⟨_, v, h2, _⟩ | ⟨_, v, h2, _⟩ <;> exact (Array.getElem?_eq_some_iff.1 h2).1
end Go.Proofs.YtlilnbcklplmfaaGreatDoor

/- The law LexerAgain. -/
namespace Go.Proofs.YtlilnbcklplmfaaGreatDoor
open Go.RowKit Go.Lib

theorem cutR_get {l : List UInt8} {ts : List Tk} (h : cutR l = some ts) : cut l = some ts ∧ ts.length ≤ 400 := by
  unfold cutR at h
  cases hc : cut l with
  | none => rw [hc] at h; cases h
  | some x =>
    rw [hc] at h
    simp only at h
    split at h
    · rename_i hl; obtain rfl := Option.some.inj h; exact ⟨rfl, hl⟩
    · cases h
end Go.Proofs.YtlilnbcklplmfaaGreatDoor

/- The document's own: digit, letter, part, Name, May. -/
namespace Go.Proofs.YtlilnbcklplmfaaGreatDoor
open Go.RowKit Go.Lib

theorem mem_tw {q : UInt8 → Bool} : ∀ {r : List UInt8} {x : UInt8}, x ∈ r.takeWhile q → q x = true
  | [], _, h => by cases h
  | c :: r, x, h => by
    rw [List.takeWhile_cons] at h
    by_cases hc : q c = true
    · rw [if_pos hc] at h
      rcases List.mem_cons.1 h with rfl | h
      · exact hc
      · exact mem_tw h
    · rw [if_neg hc] at h; cases h
theorem kmay_is {p q : UInt8 → Bool} (hpq : ∀ c, p c = true → q c = true) (m : Nat) (l : List UInt8) : kmay p q m l = (l.all q && (decide (1 ≤ l.length) && (decide (l.length ≤ m) && (match l.head? with | none => false | some c => p c)))) := by
  cases l with
  | nil => rfl
  | cons c r =>
    cases hp : p c with
    | false =>
      have e : kmay p q m (c :: r) = false := by
        unfold kmay
        rw [tog_zero hp]
        simp
      rw [e]
      simp [hp]
    | true =>
      have hq := hpq c hp
      unfold kmay
      rw [tog_on hp]
      simp only [List.all_cons, hq, Bool.true_and, List.isEmpty_cons, Bool.not_false, List.head?_cons, hp, List.length_cons]
      cases ha : r.all q with
      | true =>
        have : r.takeWhile q = r := by
          apply (List.takeWhile_prefix q).eq_of_length
          clear hp hq
          induction r with
          | nil => rfl
          | cons d r ih =>
            rw [List.all_cons, Bool.and_eq_true] at ha
            rw [List.takeWhile_cons, if_pos ha.1]
            simp [ih ha.2]
        rw [this]
        simp
        omega
      | false =>
        have : (r.takeWhile q).length ≠ r.length := by
          intro e
          have e2 := (List.takeWhile_prefix q).eq_of_length e
          have : r.all q = true := by
            rw [← e2, List.all_eq_true]
            intro x hx
            exact mem_tw hx
          rw [this] at ha; cases ha
        simp
        omega
theorem let_par {c : UInt8} (h : letB c = true) : parB c = true := by unfold parB; rw [h]; rfl
end Go.Proofs.YtlilnbcklplmfaaGreatDoor

/- The map of functions that an expression's Ops are done by. -/
namespace Go.Proofs.YtlilnbcklplmfaaGreatDoor
open Go.RowKit Go.Lib

def pairOf (e : MapEntry) : Value × Value := (e.key, e.val)
/-- Block r is a map of these texts. -/
def MapAt (W : World) (r : Nat) (es : List (ByteArray × Value)) : Prop := ∃ (m : Array MapEntry) (c : Nat), W.heap[r]? = some (.map m c) ∧ m.toList.map pairOf = es.map fun y => (.string y.1, y.2)
theorem MapAt.lt {W : World} {r : Nat} {es : List (ByteArray × Value)} (h : MapAt W r es) : r < W.heap.size := by obtain ⟨m, c, h, _⟩ := h; exact (Array.getElem?_eq_some_iff.1 h).1
theorem MapAt.keep {W W' : World} {r : Nat} {es : List (ByteArray × Value)} (h : MapAt W r es) (hb : W'.heap[r]? = W.heap[r]?) : MapAt W' r es := by obtain ⟨m, c, h, k⟩ := h; exact ⟨m, c, hb.trans h, k⟩
theorem MapAt.below {W W' : World} {r : Nat} {es : List (ByteArray × Value)} (h : MapAt W r es) (hb : Below W.heap.size W W') : MapAt W' r es := h.keep (hb.block r h.lt)
theorem MapAt.made (w : World) : MapAt (w.alloc (.map #[] 0)) w.heap.size [] := ⟨#[], 0, by show (w.heap.push _)[w.heap.size]? = _; simp, rfl⟩

theorem find_new {s : ByteArray} : ∀ {l : List MapEntry} {es : List (ByteArray × Value)} (i : Nat), l.map pairOf = es.map (fun y => (.string y.1, y.2)) → (∀ y ∈ es, (s == y.1) = false) → Instr.findNow .string (.string s) l i = some none
  | [], _, _, _, _ => rfl
  | e :: l, [], _, h, _ => by simp at h
  | e :: l, y :: es, i, h, hn => by
    simp only [List.map_cons, List.cons.injEq] at h
    obtain ⟨h1, h2⟩ := h
    have hk : e.key = .string y.1 := congrArg Prod.fst h1
    have hs : (s == y.1) = false := hn y List.mem_cons_self
    show (match Instr.sameNow .string (.string s) e.key with | some true => _ | some false => _ | none => _) = _
    rw [hk]
    simp only [Instr.sameNow, hs]
    exact find_new (i + 1) h2 fun z hz => hn z (List.mem_cons_of_mem _ hz)
theorem find_is {s : ByteArray} {v : Value} : ∀ {l : List MapEntry} {es : List (ByteArray × Value)} (i : Nat), l.map pairOf = es.map (fun y => (.string y.1, y.2)) → es.find? (fun y => s == y.1) = some (s, v) → ∃ j, Instr.findNow .string (.string s) l i = some (some (j, v))
  | [], [], _, _, hf => by simp at hf
  | [], y :: es, _, h, _ => by simp at h
  | e :: l, [], _, h, _ => by simp at h
  | e :: l, y :: es, i, h, hf => by
    simp only [List.map_cons, List.cons.injEq] at h
    obtain ⟨h1, h2⟩ := h
    have hk : e.key = .string y.1 := congrArg Prod.fst h1
    have hv : e.val = y.2 := congrArg Prod.snd h1
    cases hs : s == y.1 with
    | true =>
      rw [List.find?_cons_of_pos (by exact hs)] at hf
      injection hf with hf
      refine ⟨i, ?_⟩
      show (match Instr.sameNow .string (.string s) e.key with | some true => _ | some false => _ | none => _) = _
      rw [hk]
      simp only [Instr.sameNow]
      rw [hs, hv, hf]
    | false =>
      rw [List.find?_cons_of_neg (by rw [hs]; decide)] at hf
      obtain ⟨j, hj⟩ := find_is (i + 1) h2 hf
      refine ⟨j, ?_⟩
      show (match Instr.sameNow .string (.string s) e.key with | some true => _ | some false => _ | none => _) = _
      rw [hk]
      simp only [Instr.sameNow, hs]
      exact hj

theorem MapAt.insert {P : Program} {w : World} {r : Nat} {es : List (ByteArray × Value)} (h : MapAt w r es) {t k e : TypeId} (ht : P.underlying t = some (.map k e)) (hk : P.underlying k = some .string) {s : ByteArray} (v : Value) (hn : ∀ y ∈ es, (s == y.1) = false) :
    ∃ w', (Instr.mapUpdate t (.map (some r)) (.string s) v).run P w = .ok () w' ∧ MapAt w' r (es ++ [(s, v)]) ∧ w.grownBy w' (some r) := by
  obtain ⟨m, c, hb, hm⟩ := h
  have hf := find_new (s := s) 0 hm hn
  have hc : (Instr.checkKey false 10000 k (.string s)).run P w = .ok () w := MapKept.run_checkKey (k := .string s) hk (by simp [MapKept.IsKey]) false 9999
  refine ⟨{ w with heap := w.heap.setIfInBounds r (.map (m.push { key := .string s, val := v, born := c }) (c + 1)) }, ?_, ⟨_, _, (MapKept.heap_set hb).1, ?_⟩, ⟨rfl, rfl, rfl, by simp, fun q hq hne => (MapKept.heap_set hb).2 q (fun e => hne (by rw [e]))⟩⟩
  · simp [Instr.mapUpdate, run_underlying ht, MapKept.run_getObj_map hb, hc, MapKept.run_findKey hk hf, MapKept.run_setObj_map _ hb, Result.andThen]
  · simp [hm, pairOf]

theorem MapAt.look {P : Program} {w : World} {r : Nat} {es : List (ByteArray × Value)} (h : MapAt w r es) {t k e : TypeId} (ht : P.underlying t = some (.map k e)) (hk : P.underlying k = some .string) {s : ByteArray} {v : Value} (hf : es.find? (fun y => s == y.1) = some (s, v)) :
    (Instr.lookup t (.map (some r)) (.string s) false).run P w = .ok v w := by
  obtain ⟨m, c, hb, hm⟩ := h
  obtain ⟨j, hj⟩ := find_is (s := s) 0 hm hf
  have hc : (Instr.checkKey m.isEmpty 10000 k (.string s)).run P w = .ok () w := MapKept.run_checkKey (k := .string s) hk (by simp [MapKept.IsKey]) m.isEmpty 9999
  simp [Instr.lookup, run_underlying ht, MapKept.run_getObj_map hb, hc, MapKept.run_findKey hk hj, Result.andThen]

/-- A map's new entry, at the operation. -/
theorem wpList_insert_new {P : Program} (w : World) {ops : Array Oper} {rest : List Oper} {o : Oper} {a : Act} {Q : Exit → Act → World → Prop}
    (hg : o.guard = none) (m x v : Operand) (t : TypeId) (hop : o.op = Op.insert t m x v) (k e : TypeId) (ht : P.underlying t = some (.map k e)) (hk : P.underlying k = some .string) (r : Nat) (es : List (ByteArray × Value))
    (hm : a.eval m = .map (some r)) (hat : MapAt w r es) (s : ByteArray) (val : Value) (hx : a.eval x = .string s) (hv : a.eval v = val) (hn : ∀ y ∈ es, (s == y.1) = false)
    (hK : ∀ w', MapAt w' r (es ++ [(s, val)]) → w.grownBy w' (some r) → wpList P ops Q rest (a.put o.dst undef) w') :
    wpList P ops Q (o :: rest) a w := by
  refine wpList_plain hg fun K' hK' => ?_
  obtain ⟨w', hrun, r1, r2⟩ := hat.insert ht hk val hn
  unfold Oper.wp
  simp [execOp, hop, hm, hx, hv, hrun, Result.andThen]
  exact hK' _ _ (hK w' r1 r2)

/-- A closure that does f with the values of a slice. -/
def Clo (W : World) (v : Value) (K f : Nat) : Prop := ∃ b, v = .func (.func K) #[] #[.pointer (some ⟨b, 0, none⟩)] ∧ W.cell? ⟨b, 0, none⟩ = some (.func (.func f) #[] #[])
theorem Clo.keep {W W' : World} {v : Value} {K f : Nat} (h : Clo W v K f) (hb : ∀ b, b < W.heap.size → (∃ u, W.cell? ⟨b, 0, none⟩ = some u ∧ u.oneCell' = true) → W'.heap[b]? = W.heap[b]?) : Clo W' v K f := by
  obtain ⟨b, e, hc⟩ := h
  exact ⟨b, e, (World.cell?_of_block (w := W) (a := ⟨b, 0, none⟩) (hb b (World.block_lt_of_cell? W _ hc) ⟨_, hc, rfl⟩)).trans hc⟩
theorem Clo.below {W W' : World} {v : Value} {K f : Nat} (h : Clo W v K f) (hb : Below W.heap.size W W') : Clo W' v K f := h.keep fun b hl _ => hb.block b hl
theorem Clo.map {W W' : World} {v : Value} {K f r : Nat} {es : List (ByteArray × Value)} (h : Clo W v K f) (hg : W.grownBy W' (some r)) (hr : MapAt W r es) : Clo W' v K f := h.keep fun b hl hu => hg.block b hl fun e => by
  injection e with e
  subst e
  obtain ⟨m, c, hb, _⟩ := hr
  obtain ⟨u, hc, _⟩ := hu
  simp [World.cell?, hb] at hc

/-- Block r is the map of what each Op does. -/
structure Does (W : World) (r : Nat) (v0 v1 v2 v3 v4 v5 v6 v7 : Value) : Prop where
  map : MapAt W r [(⟨#[110, 111, 116]⟩, v0), (⟨#[110, 117, 108, 108]⟩, v1), (⟨#[97, 110, 100]⟩, v2), (⟨#[111, 114]⟩, v3), (⟨#[61]⟩, v4), (⟨#[60]⟩, v5), (⟨#[43]⟩, v6), (⟨#[45]⟩, v7)]
  c0 : Clo W v0 117 68
  c1 : Clo W v1 117 69
  c2 : Clo W v2 122 71
  c3 : Clo W v3 122 72
  c4 : Clo W v4 122 73
  c5 : Clo W v5 122 74
  c6 : Clo W v6 122 75
  c7 : Clo W v7 122 76
theorem Does.below {W W' : World} {r : Nat} {v0 v1 v2 v3 v4 v5 v6 v7 : Value} (h : Does W r v0 v1 v2 v3 v4 v5 v6 v7) (hb : Below W.heap.size W W') : Does W' r v0 v1 v2 v3 v4 v5 v6 v7 :=
  ⟨h.map.below hb, h.c0.below hb, h.c1.below hb, h.c2.below hb, h.c3.below hb, h.c4.below hb, h.c5.below hb, h.c6.below hb, h.c7.below hb⟩

end Go.Proofs.YtlilnbcklplmfaaGreatDoor

/- The document's own Plus and Minus; what Equal, Less, Plus, Minus come to, whatever the two are. -/
namespace Go.Proofs.YtlilnbcklplmfaaGreatDoor
open Go.RowKit Go.Lib

end Go.Proofs.YtlilnbcklplmfaaGreatDoor

/- What each Op does with the values of its parts. -/
namespace Go.Proofs.YtlilnbcklplmfaaGreatDoor
open Go.RowKit Go.Lib

end Go.Proofs.YtlilnbcklplmfaaGreatDoor

/- Columns: where a name's first one is; its value in a row. -/
namespace Go.Proofs.YtlilnbcklplmfaaGreatDoor
open Go.RowKit Go.Lib

structure Cl where
  n : ByteArray
  t : Int
  b : Bool
structure ClAt (W : World) (a : Addr) (c : Cl) : Prop where
  c0 : W.cell? a = some (.string c.n)
  c1 : W.cell? ⟨a.block, a.off + 1, none⟩ = some (.int .i64 c.t)
  c2 : W.cell? ⟨a.block, a.off + 2, none⟩ = some (.bool c.b)
theorem ClAt.lt {W : World} {a : Addr} {c : Cl} (h : ClAt W a c) : a.block < W.heap.size := World.block_lt_of_cell? W _ h.c0
theorem ClAt.keep {W W' : World} {a : Addr} {c : Cl} (h : ClAt W a c) (hb : W'.heap[a.block]? = W.heap[a.block]?) : ClAt W' a c :=
  ⟨(World.cell?_of_block (w := W) (a := a) hb).trans h.c0, (World.cell?_of_block (w := W) (a := ⟨a.block, _, none⟩) hb).trans h.c1, (World.cell?_of_block (w := W) (a := ⟨a.block, _, none⟩) hb).trans h.c2⟩
/-- A slice reads as these columns. -/
def ColS (W : World) (A : Option Addr) (n : Nat) (l : List Cl) : Prop := l.length = n ∧ n ≤ maxLen ∧ ∀ j (h : j < l.length), ∃ a, A = some a ∧ ClAt W (a.add (j * 3)) l[j]
theorem ColS.below {W W' : World} {A : Option Addr} {n : Nat} {l : List Cl} (h : ColS W A n l) (hb : Below W.heap.size W W') : ColS W' A n l :=
  ⟨h.1, h.2.1, fun j hj => by obtain ⟨a, e, hc⟩ := h.2.2 j hj; exact ⟨a, e, hc.keep (hb.block _ hc.lt)⟩⟩

end Go.Proofs.YtlilnbcklplmfaaGreatDoor

/- What an expression comes to over a row: value, Eval. -/
namespace Go.Proofs.YtlilnbcklplmfaaGreatDoor
open Go.RowKit Go.Lib

/-- A struct of one's own: columns, row, map. -/
structure Boxo (w : World) (oc or' : Value) (r : Nat) (op : ByteArray) (W : World) : Prop where
  below : Below w.heap.size w W
  o0 : W.cell? ⟨w.heap.size, 0, none⟩ = some oc
  o1 : W.cell? ⟨w.heap.size, 1, none⟩ = some or'
  o2 : W.cell? ⟨w.heap.size, 2, none⟩ = some (.map (some r))
  e0 : W.cell? ⟨w.heap.size + 1, 0, none⟩ = some (.string op)
  r0 : W.cell? ⟨w.heap.size + 2, 0, none⟩ = some (.int .i64 0)
  r1 : W.cell? ⟨w.heap.size + 2, 1, none⟩ = some (.int .i64 0)
  r2 : W.cell? ⟨w.heap.size + 2, 2, none⟩ = some (.string ⟨#[]⟩)
  fz : ∀ o, W.frozen? ⟨w.heap.size + 2, o, none⟩ = false
theorem Boxo.lt {w W : World} {oc or' : Value} {r : Nat} {op : ByteArray} (h : Boxo w oc or' r op W) : w.heap.size + 2 < W.heap.size := World.block_lt_of_cell? _ _ h.r0
theorem Boxo.later {w W W' : World} {oc or' : Value} {r : Nat} {op : ByteArray} (h : Boxo w oc or' r op W) (hb : Below W.heap.size W W') : Boxo w oc or' r op W' := by
  have hl := h.lt
  exact ⟨h.below.trans (hb.mono h.below.size), (hb.cell (p := ⟨_, _, none⟩) (by show w.heap.size < _; omega)).trans h.o0, (hb.cell (p := ⟨_, _, none⟩) (by show w.heap.size < _; omega)).trans h.o1, (hb.cell (p := ⟨_, _, none⟩) (by show w.heap.size < _; omega)).trans h.o2,
    (hb.cell (p := ⟨_, _, none⟩) (by show w.heap.size + 1 < _; omega)).trans h.e0, (hb.cell (p := ⟨_, _, none⟩) hl).trans h.r0, (hb.cell (p := ⟨_, _, none⟩) hl).trans h.r1, (hb.cell (p := ⟨_, _, none⟩) hl).trans h.r2, fun o => (hb.frozen (p := ⟨_, o, none⟩) hl).trans (h.fz o)⟩
theorem Boxo.start (w : World) (oc or' : Value) (r : Nat) (op : ByteArray) (k i : Int) (vs s : ByteArray) (u : Value) :
    Boxo w oc or' r op (((w.alloc (.cells #[oc, or', .map (some r)] 86)).alloc (.cells #[.string op, .int .i64 k, .int .i64 i, .string vs, .string s, u] 30)).alloc (.cells #[.int .i64 0, .int .i64 0, .string ⟨#[]⟩] 27)) :=
  ⟨(((Below.refl _ _).alloc (Nat.le_refl _) _).alloc (by simp) _).alloc (by simp; omega) _, by simp [go_sem], by simp [go_sem], by simp [go_sem], by simp [go_sem], by simp [go_sem], by simp [go_sem], by simp [go_sem], fun o => by simp [go_sem]⟩

end Go.Proofs.YtlilnbcklplmfaaGreatDoor

/- What an expression comes to over a row: value, Eval, all Ops. -/
namespace Go.Proofs.YtlilnbcklplmfaaGreatDoor
open Go.RowKit Go.Lib

theorem fm_lit {op : ByteArray} {k i : Int} {vs s : ByteArray} {n : Nat} (h : op.toList = [108, 105, 116]) : fmB op k i vs s n = fmLit k i vs s n := by simp [fmB, h]
theorem fm_col {op : ByteArray} {k i : Int} {vs s : ByteArray} {n : Nat} (h : op.toList = [99, 111, 108]) : fmB op k i vs s n = fmCol k i vs s n := by simp [fmB, h]
end Go.Proofs.YtlilnbcklplmfaaGreatDoor

/- The type of the chapter's example: a + TRUE is none. -/
namespace Go.Proofs.YtlilnbcklplmfaaGreatDoor
open Go.RowKit Go.Lib

structure Boxt (w : World) (op : ByteArray) (W : World) : Prop where
  below : Below w.heap.size w W
  e0 : W.cell? ⟨w.heap.size, 0, none⟩ = some (.string op)
theorem Boxt.lt {w W : World} {op : ByteArray} (h : Boxt w op W) : w.heap.size < W.heap.size := World.block_lt_of_cell? _ _ h.e0
theorem Boxt.later {w W W' : World} {op : ByteArray} (h : Boxt w op W) (hb : Below W.heap.size W W') : Boxt w op W' :=
  ⟨h.below.trans (hb.mono h.below.size), (hb.cell (p := ⟨_, _, none⟩) h.lt).trans h.e0⟩

end Go.Proofs.YtlilnbcklplmfaaGreatDoor

/- Which expressions may be, plain; names are no values. -/
namespace Go.Proofs.YtlilnbcklplmfaaGreatDoor
open Go.RowKit Go.Lib

theorem within_leaf {d : Nat} {t : Ex} {m : Int} (hf : fmT t = true) (hl : t.l = []) (hm : 1 ≤ m) : withinF (d + 1) t m = (true, m - 1) := by
  conv => lhs; unfold withinF
  rw [if_neg (by omega), if_pos hf, hl]
  rfl
theorem within_two {d : Nat} {op : ByteArray} {x y : Ex} {m m1 m2 : Int} (hf : fmT (twoT op x y) = true) (hm : 1 ≤ m) (h1 : withinF d x (m - 1) = (true, m1)) (h2 : withinF d y m1 = (true, m2)) : withinF (d + 1) (twoT op x y) m = (true, m2) := by
  conv => lhs; unfold withinF
  rw [if_neg (by omega), if_pos hf]
  show partsF (withinF d) [x, y] (m - 1) = _
  unfold partsF
  rw [h1, if_pos rfl]
  show partsF (withinF d) [y] m1 = _
  unfold partsF
  rw [h2]
  rfl
theorem nil_l : (⟨#[]⟩ : ByteArray).toList = [] := nilBytes
theorem zero_v : zeroB 0 0 ⟨#[]⟩ = true := by unfold zeroB nilB; rw [nil_l]; rfl
theorem fm_litT (x : Vl) (h : mayB x.k x.i x.s = true) : fmT (litT x) = true := by
  unfold fmT
  show fmB ⟨#[108, 105, 116]⟩ x.k x.i x.s ⟨#[]⟩ 0 = true
  rw [fm_lit (by rw [toList_data])]
  unfold fmLit nilB
  rw [h, nil_l]
  rfl
theorem fm_colT (s : ByteArray) : fmT (colT s) = (nameB s && !resB s) := by
  unfold fmT
  show fmB ⟨#[99, 111, 108]⟩ 0 0 ⟨#[]⟩ s 0 = _
  rw [fm_col (by rw [toList_data])]
  unfold fmCol
  rw [zero_v]
  simp
theorem fm_two {op : ByteArray} {k i : Int} {vs s : ByteArray} {n : Nat} (h : op.toList ∈ [[97, 110, 100], [111, 114], [61], [60], [43], [45]]) : fmB op k i vs s n = fmTwo k i vs s n := by
  simp only [List.mem_cons, List.not_mem_nil, or_false] at h
  rcases h with h | h | h | h | h | h <;> simp [fmB, h]
theorem fm_twoT (op : ByteArray) (x y : Ex) (h : op.toList ∈ [[97, 110, 100], [111, 114], [61], [60], [43], [45]]) : fmT (twoT op x y) = true := by
  unfold fmT
  show fmB op 0 0 ⟨#[]⟩ ⟨#[]⟩ 2 = true
  rw [fm_two h]
  unfold fmTwo nilB
  rw [zero_v, nil_l]
  rfl
/-- No name is a value's text, but three. -/
theorem name_no {s : ByteArray} (h : nameB s = true) (h1 : s.data.toList ≠ [84, 82, 85, 69]) (h2 : s.data.toList ≠ [70, 65, 76, 83, 69]) (h3 : s.data.toList ≠ [78, 85, 76, 76]) (k i : Int) (S : ByteArray) (_ : In64 i) (hm : mayB k i S = true) : txtO k i S ≠ s.data.toList := by
  unfold nameB at h
  rw [kmay_is (p := letB) (q := parB) (fun _ h => let_par h)] at h
  generalize s.data.toList = l at h h1 h2 h3
  cases l with
  | nil => simp at h
  | cons c r =>
    have hc : letB c = true := by
      simp at h
      exact h.2.2
    have hr : (97 ≤ c.toNat ∧ c.toNat ≤ 122) ∨ (65 ≤ c.toNat ∧ c.toNat ≤ 90) := by simpa [letB] using hc
    intro e
    cases four k i S hm with
    | null _ _ _ ht => exact h3 (e.symm.trans ht)
    | num _ _ ht => exact itoa_no (by rintro rfl; simp at hr) (by omega) (ht.symm.trans e)
    | text _ _ _ _ ht =>
      have := ht.symm.trans e
      injection this with h0 _
      subst h0
      simp at hr
    | no _ _ _ ht => exact h2 (e.symm.trans ht)
    | yes _ _ _ ht => exact h1 (e.symm.trans ht)

theorem isz (x : ByteArray) : isB ⟨0, ⟨#[]⟩⟩ x = false := by simp [isB]
theorem nx_last {x : List Tn} {n : Nat} (h : n = x.length) (f : Bool) : Nx x n f ⟨0, ⟨#[]⟩⟩ := by
  cases f with
  | true => exact .inl ⟨rfl, rfl⟩
  | false => exact .inr (.inl ⟨rfl, h, rfl⟩)
theorem nx_at {x : List Tn} {n : Nat} {t : Tn} (h : x[n]? = some t) (hm : tmayB t.k t.s = true) (hs : t.s.size ≤ 100000) : Nx x n false t := .inr (.inr ⟨rfl, h, hm, hs⟩)

end Go.Proofs.YtlilnbcklplmfaaGreatDoor

/- The chapter's first example is parsed. -/
namespace Go.Proofs.YtlilnbcklplmfaaGreatDoor
open Go.RowKit Go.Lib

theorem res_no {s : ByteArray} (h : (resW.contains s.data.toList) = false) : resB s = false := by unfold resB; rw [toList_data]; exact h
theorem fm_1 : fmT (litT ⟨1, 1, ⟨#[]⟩⟩) = true := fm_litT _ (may_int 1)
theorem w_1 (d : Nat) (m : Int) (h : 1 ≤ m) : withinF (d + 1) (litT ⟨1, 1, ⟨#[]⟩⟩) m = (true, m - 1) := within_leaf fm_1 rfl h
end Go.Proofs.YtlilnbcklplmfaaGreatDoor

/- The chapter's examples: awake. -/
namespace Go.Proofs.YtlilnbcklplmfaaGreatDoor
open Go.RowKit Go.Lib

def cA : Cl := ⟨⟨#[97]⟩, 1, false⟩
end Go.Proofs.YtlilnbcklplmfaaGreatDoor

/- What one, its NOT, and both come to: plain facts. -/
namespace Go.Proofs.YtlilnbcklplmfaaGreatDoor
open Go.RowKit Go.Lib

end Go.Proofs.YtlilnbcklplmfaaGreatDoor

/- The law's Cols: columns come out. -/
namespace Go.Proofs.YtlilnbcklplmfaaGreatDoor
open Go.RowKit Go.Lib

def Cl.cells (x : Cl) : List Value := [.string x.n, .int .i64 x.t, .bool x.b]
def ccellsOf (l : List Cl) : List Value := l.flatMap Cl.cells
theorem ccells_len (l : List Cl) : (ccellsOf l).length = l.length * 3 := by
  induction l with
  | nil => rfl
  | cons x l ih => simp only [ccellsOf, List.flatMap_cons, List.length_append] at ih ⊢; rw [ih]; simp [Cl.cells]; omega
theorem ccells_at (l : List Cl) : ∀ j (h : j < l.length), (ccellsOf l)[j * 3]? = some (.string l[j].n) ∧ (ccellsOf l)[j * 3 + 1]? = some (.int .i64 l[j].t) ∧ (ccellsOf l)[j * 3 + 2]? = some (.bool l[j].b) := by
  induction l with
  | nil => intro j h; simp at h
  | cons x l ih =>
    intro j h
    cases j with
    | zero => simp [ccellsOf, Cl.cells]
    | succ j =>
      have := ih j (by simpa using h)
      have e : ccellsOf (x :: l) = x.cells ++ ccellsOf l := by simp [ccellsOf]
      have hl : x.cells.length = 3 := rfl
      rw [e]
      refine ⟨?_, ?_, ?_⟩
      · rw [List.getElem?_append_right (by rw [hl]; omega), hl, show (j + 1) * 3 - 3 = j * 3 by omega]; exact this.1
      · rw [List.getElem?_append_right (by rw [hl]; omega), hl, show (j + 1) * 3 + 1 - 3 = j * 3 + 1 by omega]; exact this.2.1
      · rw [List.getElem?_append_right (by rw [hl]; omega), hl, show (j + 1) * 3 + 2 - 3 = j * 3 + 2 by omega]; exact this.2.2
theorem ColS.of_own {W : World} {B : Nat} {v : Value} {l : List Cl} {n : Nat} (h : W.ownsRow B 53 3 v n (ccellsOf l)) : ∃ A cap, v = .slice A n cap ∧ ColS W A n l ∧ ∀ a, A = some a → B ≤ a.block := by
  have hl : l.length = n := by have := h.1; rw [ccells_len] at this; omega
  rcases h.2 with ⟨rfl, h0⟩ | ⟨g, cap, cur, rfl, hB, hg, hc, hm, hs, ht⟩
  · subst h0
    exact ⟨none, 0, rfl, ⟨hl, by unfold maxLen; omega, fun j hj => absurd hj (by omega)⟩, fun a e => by cases e⟩
  · refine ⟨_, cap, rfl, ⟨hl, Nat.le_trans hc hm, fun j hj => ⟨_, rfl, ?_⟩⟩, fun a e => by injection e with e; subst e; exact hB⟩
    have hadd : (⟨g, 0, none⟩ : Addr).add (j * 3) = ⟨g, j * 3, none⟩ := by unfold Addr.add; split <;> simp_all
    obtain ⟨c0, c1, c2⟩ := ccells_at l j hj
    rw [hadd]
    exact ⟨(h.cellAt (j * 3) (by omega)).trans c0, (h.cellAt (j * 3 + 1) (by omega)).trans c1, (h.cellAt (j * 3 + 2) (by omega)).trans c2⟩
theorem ColS.keep {W W' : World} {A : Option Addr} {n : Nat} {l : List Cl} (h : ColS W A n l) (hk : ∀ a, A = some a → W'.heap[a.block]? = W.heap[a.block]?) : ColS W' A n l :=
  ⟨h.1, h.2.1, fun j hj => by obtain ⟨a, e, hc⟩ := h.2.2 j hj; exact ⟨a, e, hc.keep (by rw [add_block]; exact hk a e)⟩⟩
theorem Vals.own {W : World} {B : Nat} {v : Value} {l : List Vl} {n : Nat} (h : W.ownsRow B 27 3 v n (cellsOf l)) : ∃ A cap, v = .slice A n cap ∧ Vals W W.heap.size A n l ∧ n ≤ cap ∧ cap ≤ maxLen ∧ ∀ a, A = some a → B ≤ a.block := by
  obtain ⟨A, cap, rfl, h1, h2, h3⟩ := Vals.of_own h
  refine ⟨A, cap, rfl, h1, h2, h3, fun a e => ?_⟩
  subst e
  rcases h.2 with ⟨h0, _⟩ | ⟨g, cap', cur, hv, hB, _⟩
  · cases h0
  · injection hv with hv _ _
    injection hv with hv
    subst hv
    exact hB
end Go.Proofs.YtlilnbcklplmfaaGreatDoor

/- From a law's contract to its row: what is drawn of the condition on the listed variables, and of the world's shape. -/
namespace Go.Proofs.YtlilnbcklplmfaaGreatDoor
open Go.ChangeShapes Go.WideShapes Go.ChangeAt Go.RowKit

theorem own : ownKnob Tryz.prog.godebug = none := by kernel_rfl

/-- The wrap that hands the contract the condition on the listed variables, the reach and the world's shape. -/
theorem returns_laid_shaped {H : Type} {enc : TypeId × Value → H} {a : Assume} {C : Checked} {os : Os} {f : FuncId} {fn : Func} {s : ChangeSpec} {conds : List PathCond} {apart fresh handsOn again : Bool} {X : World → Array Value → Prop}
    (hX : ∀ (w w' : World) (args : Array Value), w.heap = w'.heap → X w args → X w' args)
    (hown : ownKnob C.prog.godebug = none) (started : os.Started) (noInit : C.prog.inits.idxOf? f = none) (hfn : C.prog.funcs[f]? = some fn)
    (witness : ∃ (w : World) (tape : Tape) (i : Input), w.os = os ∧ (w.forCall tape i).Shaped C.prog ∧ i.vars = [] ∧ Input.okWide C.prog (w.forCall tape i) .any w.heap.size f i ∧
      ((s.pre enc C.prog fn conds apart (w.forCall tape i).memory i.args ∧ X (w.forCall tape i).memory i.args) ∧ sizedMet enc C.prog fn (OpenSpec.ofChange s) apart (w.forCall tape i).memory i.args) ∧ a.holds C.prog (lone (Frame.enter C.prog f i.args .normal) [] (w.forCall tape i)))
    (contract : ∀ (W : World) (base : Nat) (args : Array Value) (ds gs : List (DataW H)) (before : List MemPlace),
      (∀ (j : Nat) t v, fn.params[j]? = some t → args[j]? = some v → Value.okWide C.prog W .any base t v) →
      DataW.Whole enc C.prog fn.params.toList s.vars apart W args.toList ds gs before →
      X W args → W.ShapedOpen C.prog →
      Calls C.prog f args W fun e W' => ∃ v, e = .returned v ∧ s.post enc C.prog fn apart fresh handsOn again W args v W') :
    ReturnsInHanded a C os f .any (fun w args => (s.pre enc C.prog fn conds apart w args ∧ X w args) ∧ sizedMet enc C.prog fn (OpenSpec.ofChange s) apart w args) (s.post enc C.prog fn apart fresh handsOn again) := by
  refine returnsInHanded_of_calls hown started noInit witness ?_
  intro w tape i _ hsh _ hok hpre hholds
  obtain ⟨_, _, _, fn', hfn', _, _, _, _, hval⟩ := hok
  have e : fn' = fn := Option.some.inj (hfn'.symm.trans hfn)
  subst e
  obtain ⟨⟨⟨ds, gs, before, hw, hc⟩, hx⟩, hz⟩ := hpre
  have hw' := DataW.Whole.of_heap (w' := w.forCall tape i) (by rfl) hw
  refine (contract (w.forCall tape i) w.heap.size i.args ds gs before hval hw' (hX _ _ _ (by rfl) hx) hsh).mono fun e W' ⟨v, he, hp⟩ => ?_
  subst he
  exact ChangeSpec.post_blind hp

/-- internal/bytealg.MaxLen holds some int. -/
theorem maxLen_cell {W : World} (h : W.ShapedOpen Tryz.prog) : ∃ m, W.cell? ⟨1, 0, none⟩ = some (.int .i64 m) :=
  cell_of_shapedOpen_int h (of_decide_eq_true (by kernel_rfl)) (show ((begin Tryz.prog (fun _ _ => 0) default).world.heap[1]?).bind Obj.row? = some (#[.int .i64 0], 3) by kernel_rfl) rfl (by kernel_rfl) (by kernel_rfl) Tryz.underlying3

end Go.Proofs.YtlilnbcklplmfaaGreatDoor

/- Expressions, columns and rows of values that come in. -/
namespace Go.Proofs.YtlilnbcklplmfaaGreatDoor
open Go.ChangeShapes Go.WideShapes Go.ChangeAt Go.RowKit Go.Deep

theorem addE (a : Addr) (j : Nat) (hj : j ≠ 0) : a.add j = ⟨a.block, a.off + j, none⟩ := by unfold Addr.add; rw [if_neg hj]

/-- A slice of expressions that comes in, so deep: each part's cells, below block B. -/
def InL (W : World) (B : Nat) : Nat → Value → Prop
  | 0, v => ∃ A n cap, v = .slice A n cap ∧ n ≤ maxLen
  | d + 1, v => ∃ A n cap, v = .slice A n cap ∧ n ≤ maxLen ∧ ∀ j, j < n → ∃ a t u, A = some a ∧ a.block < B ∧ ExC W (a.add (j * 6)) t u ∧ t.op.size ≤ maxLen ∧ t.x.s.size ≤ maxLen ∧ t.s.size ≤ maxLen ∧ In64 t.x.i ∧ InL W B d u
theorem InL.form {W : World} {B : Nat} : ∀ {d : Nat} {v : Value}, InL W B d v → ∃ A n cap, v = .slice A n cap ∧ n ≤ maxLen
  | 0, _, h => h
  | _ + 1, _, ⟨A, n, cap, h, hn, _⟩ => ⟨A, n, cap, h, hn⟩
theorem InL.keep {W W' : World} {B : Nat} (hb : Below B W W') : ∀ {d : Nat} {v : Value}, InL W B d v → InL W' B d v
  | 0, _, h => h
  | _ + 1, _, ⟨A, n, cap, h, hn, hj⟩ => ⟨A, n, cap, h, hn, fun j hjn => by
    obtain ⟨a, t, u, e, hB, hc, h1, h2, h3, h4, hr⟩ := hj j hjn
    exact ⟨a, t, u, e, hB, hc.keep (by rw [add_block]; exact hb.block _ hB), h1, h2, h3, h4, InL.keep hb hr⟩⟩
theorem InL.more {W : World} {B B' : Nat} (hB' : B ≤ B') : ∀ {d : Nat} {v : Value}, InL W B d v → InL W B' d v
  | 0, _, h => h
  | _ + 1, _, ⟨A, n, cap, h, hn, hj⟩ => ⟨A, n, cap, h, hn, fun j hjn => by
    obtain ⟨a, t, u, e, hB, hc, h1, h2, h3, h4, hr⟩ := hj j hjn
    exact ⟨a, t, u, e, Nat.lt_of_lt_of_le hB hB', hc, h1, h2, h3, h4, InL.more hB' hr⟩⟩

theorem six {α : Type} {l : List α} (h : l.length = 6) : ∃ a b c d e f, l = [a, b, c, d, e, f] := by
  match l, h with
  | [a, b, c, d, e, f], _ => exact ⟨a, b, c, d, e, f, rfl⟩

section
variable {H : Type} {enc : TypeId × Value → H} {w : World} {base : Nat} {spare : Nat → Bool} {held : Bool}
end
end Go.Proofs.YtlilnbcklplmfaaGreatDoor

/- What Few keeps while it goes through an expression: plain facts; where a row that has grown lies. -/
namespace Go.Proofs.YtlilnbcklplmfaaGreatDoor
open Go.RowKit Go.Lib

/-- Each number in a tree is one of 64 bits, each text of a value no longer than may be. -/
def okF : Nat → Ex → Prop
  | 0, _ => True
  | m + 1, t => In64 t.x.i ∧ t.x.s.size ≤ 100000 ∧ ∀ y ∈ t.l, okF m y
def okT (t : Ex) : Prop := ∀ m, okF m t
theorem okT.mk {t : Ex} (h1 : In64 t.x.i) (h2 : t.x.s.size ≤ 100000) {l : List Ex} (h : ∀ y ∈ l, okT y) : okT (.mk t.op t.x t.s l) := fun m => by
  cases m with
  | zero => trivial
  | succ m => exact ⟨h1, h2, fun y hy => h y hy m⟩

/-- The six cells of an expression. -/
def ecell (p : Ex × Value) : List Value := [.string p.1.op, .int .i64 p.1.x.k, .int .i64 p.1.x.i, .string p.1.x.s, .string p.1.s, p.2]
def eCells (l : List (Ex × Value)) : List Value := l.flatMap ecell
theorem eCells_len (l : List (Ex × Value)) : (eCells l).length = l.length * 6 := by
  induction l with
  | nil => rfl
  | cons x l ih => simp only [eCells, List.flatMap_cons, List.length_append] at ih ⊢; rw [ih]; simp [ecell]; omega
theorem eCells_at (l : List (Ex × Value)) : ∀ j (h : j < l.length) (k : Nat), k < 6 → (eCells l)[j * 6 + k]? = (ecell l[j])[k]? := by
  induction l with
  | nil => intro j h; simp at h
  | cons x l ih =>
    intro j h k hk
    have e : eCells (x :: l) = ecell x ++ eCells l := by simp [eCells]
    have hl : (ecell x).length = 6 := rfl
    rw [e]
    cases j with
    | zero => rw [Nat.zero_mul, Nat.zero_add, List.getElem?_append_left (by rw [hl]; exact hk)]; rfl
    | succ j =>
      rw [List.getElem?_append_right (by rw [hl]; omega), hl, show (j + 1) * 6 + k - 6 = j * 6 + k by omega]
      exact ih j (by simpa using h) k hk
def eObj (t : Ex) (u : Value) : Obj := .cells #[.string t.op, .int .i64 t.x.k, .int .i64 t.x.i, .string t.x.s, .string t.s, u] 30
def zObj : Obj := .cells #[.string ⟨#[]⟩, .int .i64 0, .int .i64 0, .string ⟨#[]⟩, .string ⟨#[]⟩, .slice none 0 0] 30

/-- Few's boxes: what came in, the result's cells, what comes out so far. -/
structure Fst (w : World) (ti t : Ex) (u v : Value) (W : World) : Prop where
  pl : Below w.heap.size w W
  inn : W.heap[w.heap.size]? = some (.cells #[.string ti.op, .int .i64 ti.x.k, .int .i64 ti.x.i, .string ti.x.s, .string ti.s, u] 30 (0, 0))
  res : W.heap[w.heap.size + 1]? = some (.cells #[.string ⟨#[]⟩, .int .i64 0, .int .i64 0, .string ⟨#[]⟩, .string ⟨#[]⟩, .slice none 0 0] 30 (0, 0))
  out : W.heap[w.heap.size + 1 + 1]? = some (.cells #[.string t.op, .int .i64 t.x.k, .int .i64 t.x.i, .string t.x.s, .string t.s, v] 30 (0, 0))
theorem Fst.lt {w : World} {ti t : Ex} {u v : Value} {W : World} (h : Fst w ti t u v W) : w.heap.size + 1 + 1 < W.heap.size := lt_of_block h.out
theorem Fst.start (w : World) (t : Ex) (u : Value) : Fst w t t u (.slice none 0 0) (((w.alloc (eObj t u)).alloc zObj).alloc (eObj t (.slice none 0 0))) := by
  refine ⟨((((Below.refl _ _).alloc (Nat.le_refl _) _).alloc (by simp) _).alloc (by simp; omega) _), ?_, ?_, ?_⟩
  · rw [Below.heap_alloc _ _ _ (by simp; omega), Below.heap_alloc _ _ _ (by simp)]
    exact alloc_at rfl _
  · rw [Below.heap_alloc _ _ _ (by simp)]
    exact alloc_at (by simp) _
  · exact alloc_at (by simp) _
theorem six_set {W : World} {b : Nat} {c0 c1 c2 c3 c4 c5 : Value} {t : TypeId} (h : W.heap[b]? = some (.cells #[c0, c1, c2, c3, c4, c5] t (0, 0))) (i : Nat) (x : Value) :
    (W.setCell ⟨b, i, none⟩ x).heap[b]? = some (.cells (#[c0, c1, c2, c3, c4, c5].setIfInBounds i x) t (0, 0)) := by
  have hlt := lt_of_block h
  have h' : W.heap[b] = .cells #[c0, c1, c2, c3, c4, c5] t (0, 0) := by simpa [Array.getElem?_eq_getElem hlt] using h
  show (W.heap.modify b _)[b]? = _
  rw [Array.getElem?_eq_getElem (by simpa using hlt), Array.getElem_modify_self, h']
  rfl
theorem Fst.set {w : World} {ti t t' : Ex} {u v v' : Value} {W : World} (h : Fst w ti t u v W) (i : Nat) (x : Value)
    (e : (#[Value.string t.op, .int .i64 t.x.k, .int .i64 t.x.i, .string t.x.s, .string t.s, v] : Array Value).setIfInBounds i x = #[.string t'.op, .int .i64 t'.x.k, .int .i64 t'.x.i, .string t'.x.s, .string t'.s, v']) :
    Fst w ti t' u v' (W.setCell ⟨w.heap.size + 1 + 1, i, none⟩ x) :=
  ⟨h.pl.setCell (by simp; omega) _, (Below.heap_setCell _ _ _ _ (by show w.heap.size ≠ w.heap.size + 1 + 1; omega)).trans h.inn, (Below.heap_setCell _ _ _ _ (by show w.heap.size + 1 ≠ w.heap.size + 1 + 1; omega)).trans h.res, (six_set h.out i x).trans (by rw [e])⟩
theorem Fst.later {w : World} {ti t : Ex} {u v : Value} {W W' : World} (h : Fst w ti t u v W) (hb : Below W.heap.size W W') : Fst w ti t u v W' := by
  have := h.lt
  exact ⟨h.pl.trans (hb.mono (by omega)), (hb.block _ (by omega)).trans h.inn, (hb.block _ (by omega)).trans h.res, (hb.block _ h.lt).trans h.out⟩
theorem Fst.grown {w : World} {ti t : Ex} {u v : Value} {W W' : World} {row : Option Nat} (h : Fst w ti t u v W) (hg : W.grownBy W' row) (hr : ∀ g, row = some g → w.heap.size + 1 + 1 < g) : Fst w ti t u v W' := by
  have := h.lt
  have nr : ∀ k, k ≤ w.heap.size + 1 + 1 → some k ≠ row := fun k hk e => by have := hr k e.symm; omega
  exact ⟨h.pl.grown hg (by omega) (fun k e => by have := hr k e; omega), (hg.block _ (by omega) (nr _ (by omega))).trans h.inn, (hg.block _ (by omega) (nr _ (by omega))).trans h.res, (hg.block _ h.lt (nr _ (Nat.le_refl _))).trans h.out⟩

/-- The parts that have come out: a row of the call's own; their blocks are other ones than the row's. -/
def Kids (W : World) (B d : Nat) (v : Value) (k : Nat) (ps : List (Ex × Value)) : Prop :=
  W.ownsRow B 30 6 v k (eCells ps) ∧ ∃ Q : Nat → Prop, (∀ b, Q b → B ≤ b ∧ b < W.heap.size ∧ v.ownBlock ≠ some b) ∧ ∀ p ∈ ps, p.1.s.size ≤ 100000 ∧ Sl W Q d p.1.l p.2
theorem Kids.start (W : World) (B d : Nat) : Kids W B d (.slice none 0 0) 0 [] := ⟨World.ownsRow_nil _ _ _ _, fun _ => False, fun _ h => h.elim, fun _ h => by cases h⟩
theorem Kids.none_ {W : World} {B d : Nat} {v : Value} {k : Nat} {ps : List (Ex × Value)} (h : Kids W B d v k ps) : ps.length = k := by
  have := h.1.1
  rw [eCells_len] at this
  omega
theorem Kids.form {W : World} {B d : Nat} {v : Value} {k : Nat} {ps : List (Ex × Value)} (h : Kids W B d v k ps) : ∃ A cap, v = .slice A k cap := by
  rcases h.1.2 with ⟨rfl, rfl⟩ | ⟨g, cap, cur, rfl, _⟩
  · exact ⟨_, _, rfl⟩
  · exact ⟨_, _, rfl⟩
theorem Kids.set {W : World} {B d b : Nat} {v : Value} {k : Nat} {ps : List (Ex × Value)} (h : Kids W B d v k ps) (hb : b < B) (i : Nat) (x : Value) : Kids (W.setCell ⟨b, i, none⟩ x) B d v k ps := by
  obtain ⟨h1, Q, hQ, hp⟩ := h
  have far : ∀ q, B ≤ q → (W.setCell ⟨b, i, none⟩ x).heap[q]? = W.heap[q]? := fun q hq => Below.heap_setCell _ _ _ _ (by show q ≠ b; omega)
  refine ⟨ownsRow_setCell_other h1 (fun e => by have hx : B ≤ b := (h1.lt _ e).1; omega) _, Q, fun q hq => ⟨(hQ q hq).1, by have := (hQ q hq).2.1; simpa [World.setCell] using this, (hQ q hq).2.2⟩, fun p hm => ?_⟩
  obtain ⟨s1, s2⟩ := hp p hm
  exact ⟨s1, Sl.keep (fun q hq _ => far q (hQ q hq).1) (fun q hq _ => hq) s2⟩
/-- What has come out reads as a tree. -/
theorem Kids.tree {W : World} {B d : Nat} {v : Value} {k : Nat} {ps : List (Ex × Value)} (h : Kids W B d v k ps) (hk : k ≤ 100) {t : Ex} (hs : t.s.size ≤ 100000) : Tr W (fun b => B ≤ b) (d + 1) (.mk t.op t.x t.s (ps.map (·.1))) v := by
  have hlen := h.none_
  obtain ⟨h1, Q, hQ, hp⟩ := h
  refine ⟨hs, ?_⟩
  have hl : (ps.map (·.1)).length = k := by simpa using hlen
  rcases h1.2 with ⟨rfl, h0⟩ | ⟨g, cap, cur, rfl, hB, hg, hc, hm, _, _⟩
  · subst h0
    refine ⟨none, 0, ?_, ?_, fun j hj => absurd hj (by show ¬ j < (ps.map (·.1)).length; omega)⟩
    · show Value.slice none 0 0 = .slice none (ps.map (·.1)).length 0
      rw [hl]
    · show (ps.map (·.1)).length ≤ maxLen
      unfold maxLen; omega
  · refine ⟨some ⟨g, 0, none⟩, cap, ?_, ?_, fun j hj => ?_⟩
    · show _ = Value.slice _ (ps.map (·.1)).length cap
      rw [hl]
    · show (ps.map (·.1)).length ≤ maxLen
      unfold maxLen; omega
    · have hj' : j < ps.length := by have : j < (ps.map (·.1)).length := hj; simpa using this
      have hadd : (⟨g, 0, none⟩ : Addr).add (j * 6) = ⟨g, j * 6, none⟩ := by unfold Addr.add; split <;> simp_all
      obtain ⟨s1, s2⟩ := hp ps[j] (List.getElem_mem _)
      have ce : ∀ i, i < 6 → W.cell? ⟨g, j * 6 + i, none⟩ = (ecell ps[j])[i]? := fun i hi => (h1.cellAt (j * 6 + i) (by omega)).trans (eCells_at ps j hj' i hi)
      have hj2 : j < (ps.map (fun p : Ex × Value => p.1)).length := hj
      have eg : (ps.map (fun p : Ex × Value => p.1))[j]'hj2 = ps[j].1 := List.getElem_map _
      refine ⟨⟨g, 0, none⟩, ps[j].2, rfl, hB, ?_, ?_, ?_⟩
      · show ExC W _ ((ps.map (fun p : Ex × Value => p.1))[j]'hj2) _
        rw [hadd, eg]
        exact ⟨ce 0 (by omega), ce 1 (by omega), ce 2 (by omega), ce 3 (by omega), ce 4 (by omega), ce 5 (by omega)⟩
      · show ((ps.map (fun p : Ex × Value => p.1))[j]'hj2).s.size ≤ 100000
        rw [eg]; exact s1
      · show Sl W _ d ((ps.map (fun p : Ex × Value => p.1))[j]'hj2).l _
        rw [eg]
        exact Sl.keep (fun _ _ _ => rfl) (fun b hb _ => (hQ b hb).1) s2
end Go.Proofs.YtlilnbcklplmfaaGreatDoor

/- The law's Few: an expression of so many levels comes out, in blocks of its own. -/
namespace Go.Proofs.YtlilnbcklplmfaaGreatDoor
open Go.RowKit Go.Lib

theorem Kids.at0 {W : World} {B d : Nat} {v : Value} {ps : List (Ex × Value)} (h : Kids W B d v 0 ps) {t : Ex} (hs : t.s.size ≤ 100000) : Tr W (fun b => B ≤ b) 0 (.mk t.op t.x t.s (ps.map (·.1))) v := by
  have hl := h.none_
  have : ps = [] := List.length_eq_zero_iff.1 hl
  subst this
  refine ⟨hs, rfl, ?_⟩
  rcases h.1.2 with ⟨rfl, _⟩ | ⟨g, cap, cur, rfl, _⟩
  · exact ⟨none, 0, rfl⟩
  · exact ⟨_, _, rfl⟩
theorem Kids.all {W : World} {B d : Nat} {v : Value} {k : Nat} {ps : List (Ex × Value)} (h : Kids W B (d - 1) v k ps) (hk : k ≤ 3) (h0 : d = 0 → k = 0) {t : Ex} (hs : t.s.size ≤ 100000) : Tr W (fun b => B ≤ b) d (.mk t.op t.x t.s (ps.map (·.1))) v := by
  cases d with
  | zero =>
    have := h0 rfl
    subst this
    exact h.at0 hs
  | succ d => exact h.tree (by omega) hs

end Go.Proofs.YtlilnbcklplmfaaGreatDoor

/- The law's Few. -/
namespace Go.Proofs.YtlilnbcklplmfaaGreatDoor
open Go.RowKit Go.Lib

end Go.Proofs.YtlilnbcklplmfaaGreatDoor
