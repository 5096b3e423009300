import Derived.Test.YtlilnbcklplmfaaGreatDoorW05
import Derived.Defers
import Derived.Test.YtlilnbcklplmfaaGreatDoorW03
import Derived.Lib.SmallJoins
import Derived.Laws.OwnMore
import Derived.Lib.AppendStr
import Derived.Lib.UnsafeStr
import Derived.Lib.Builder
import Derived.Lib.Strings
import Derived.Lib.Slices
import Derived.Lib.Walk
import Derived.Laws.Externs
import Derived.Shelf.Strings.Builder2
import Derived.Ground.GgwProg
import Derived.Test.YtlilnbcklplmfaaGreatDoorProg
import Derived.Shelf.Lays
import Derived.Test.YtlilnbcklplmfaaGreatDoorW02

/- The parser: the part that must follow; parts in a chain. -/
namespace Go.Proofs.YtlilnbcklplmfaaGreatDoor
open Go.RowKit Go.Lib

theorem alloc_at {W : World} {n : Nat} (h : W.heap.size = n) (o : Obj) : (W.alloc o).heap[n]? = some o := by
  subst h
  show (W.heap.push o)[W.heap.size]? = _
  simp
set_option maxRecDepth 100000 in
set_option maxHeartbeats 1600000 in
theorem asked_d (g : Nat) (b : Nat) (ask : Nat) (hk : ask ≤ 100) (u : FrameMode) (w : World) (hb : w.cell? ⟨b, 0, none⟩ = some (.pointer (some ⟨g, 0, none⟩))) (h2 : w.cell? ⟨g, 2, none⟩ = some (.int .i64 ((ask : Int) + 1))) (hf : w.frozen? ⟨g, 2, none⟩ = false) :
    CallsD Tryz.prog 284 #[.pointer (some ⟨b, 0, none⟩)] u w fun e u' w' => u' = u ∧ (e = .returned (.tuple #[]) ∧ w' = w.setCell ⟨g, 2, none⟩ (.int .i64 ask)) := by
  go_enter_d Tryz.func284, Tryz.ntmps284
  go_wp2_with (fail)
  go_end0
  exact ⟨rfl, rfl⟩

set_option maxRecDepth 100000 in
set_option maxHeartbeats 4000000 in
theorem asked_sum {N : Nat} (g : Nat) (A : Option Addr) (c : Nat) (l : List Tn) (at' ask at2 : Nat) (failed failed' : Bool) (t : Ex) (w : World) (hz : Pz w g A c l at' ask failed) (hk : ask < 11)
    (hpart : ∀ W, Pz W g A c l at' (ask + 1) failed → Calls Tryz.prog 281 #[.pointer (some ⟨g, 0, none⟩)] W (Res W g A c l N (fun _ => False) t at2 (ask + 1) failed')) :
    Calls Tryz.prog 263 #[.pointer (some ⟨g, 0, none⟩), .func (.func 281) #[.pointer (some ⟨g, 0, none⟩)] #[]] w (Res w g A c l N (fun _ => False) t at2 ask failed') := by
  have HZ := Lib.hid hz
  have HK := Lib.hid hpart
  have hgl := hz.lt
  have d2 := hz.c2
  have df := hz.fz 2
  have hne : ¬ w.heap.size = g := by omega
  have hne1 : ¬ w.heap.size + 1 = g := by omega
  have hbq : ((ask : Int) + 1 == 12) = false := beq_eq_false_iff_ne.2 (by omega)
  have hmf : ∀ (fn : Fn) (first cap : Array Value) (w : World), (Instr.makeFunc fn first cap).run Tryz.prog w = .ok (.func fn first cap) w := fun _ _ _ _ => rfl
  clear hz hpart
  go_enter_defers Tryz.func263, Tryz.ntmps263
  go_wp2_with (go_at_call 281; refine (HK.out _ (((HZ.out.asks (ask + 1)).alloc _).alloc _)).mono ?_; rintro e w1 ⟨u1, rfl, ht1, hp1, hg1⟩; obtain ⟨B1, q1, rfl, _⟩ := ht1.form; unfold EVt; have hc1 := (gcell hg1).1; have hf1 := (gcell hg1).2; have hy1 := hg1.size; (try simp [World.setCell] at hy1); have hz1_0 : w.heap.size < w1.heap.size := (by omega); have hz1_1 : w.heap.size + 1 < w1.heap.size := (by omega); have HP1 := Lib.hid (And.intro ht1 (And.intro hp1 hg1)); clear ht1 hp1 hg1)
  have HG0 : Hid (w.grownBy w1 (some g)) := grow_trans (grow_trans (grow_trans (grow_set _ _ _ _) (grow_alloc _ _ _)) (grow_alloc _ _ _)) HP1.out.2.2
  have HT0 : Hid (Tr w1 (fun b => w.heap.size + 1 < b) N t (.slice B1 t.l.length q1)) := HP1.out.1.keep (fun _ _ _ => rfl) (fun b h _ => h.elim False.elim (fun h => by simp [World.setCell] at h; omega))
  have hpx : w1.cell? ⟨w.heap.size, 0, none⟩ = some (.pointer (some ⟨g, 0, none⟩)) := by
    rw [hc1 _ _ (by simp [World.setCell]; omega) hne]
    simp [go_sem]
  show bodyPostD _ _ _ _ _ (set6 w1 (w.heap.size + 1) _ _ _ _ _ _)
  refine leaves_cons (f := 284) (args := #[.pointer (some ⟨w.heap.size, 0, none⟩)]) (by simp) (by simp [go_sem]) ?_
  have HP2 := Lib.hid (HP1.out.2.1.set6 (b := w.heap.size + 1) (by omega) (.string t.op) (.int .i64 t.x.k) (.int .i64 t.x.i) (.string t.x.s) (.string t.s) (.slice B1 t.l.length q1))
  refine (asked_d g w.heap.size ask (by omega) .returning _ ?_ (HP2.out.c2) (HP2.out.fz 2)).mono ?_
  · exact (World.cell?_of_block (w := w1) (a := ⟨w.heap.size, 0, none⟩) (set6_block _ _ _ _ _ _ _ _ (by show w.heap.size ≠ _; omega))).trans hpx
  rintro e u' w'' ⟨rfl, rfl, rfl⟩
  refine ⟨.agg #[.string t.op, .int .i64 t.x.k, .int .i64 t.x.i, .string t.x.s, .string t.s, .slice B1 t.l.length q1], ?_, ?_⟩
  · unfold set6
    simp [results, Tryz.results263, go_sem, *]
  · exact ⟨_, rfl, (HT0.out.set6 (by omega) (fun b h _ => h) _ _ _ _ _ _).keep (fun b h _ => Below.heap_setCell _ _ _ _ (by show b ≠ g; omega)) (fun b h _ => .inr (by omega)), HP2.out.asks ask, grow_trans (grow_set6 HG0.out (by omega) _ _ _ _ _ _) (grow_set _ _ _ _)⟩

/-- The world of a chain at the head of its loop: its two boxes, the parser, what has been made. -/
structure Chn (w : World) (g : Nat) (A : Option Addr) (c : Nat) (l : List Tn) (N : Nat) (Q : Nat → Prop) (t : Ex) (u : Value) (at' ask : Nat) (failed : Bool) (b : Nat) (ws : List ByteArray) (W : World) : Prop where
  box : ExC W ⟨w.heap.size, 0, none⟩ t u
  bfz : ∀ o, W.frozen? ⟨w.heap.size, o, none⟩ = false
  res : ExC W ⟨w.heap.size + 1, 0, none⟩ zT (.slice none 0 0)
  rfz : ∀ o, W.frozen? ⟨w.heap.size + 1, o, none⟩ = false
  tr : Tr W (fun x => (Q x ∧ x < w.heap.size) ∨ w.heap.size + 1 < x) N t u
  pz : Pz W g A c l at' ask failed
  gr : w.grownBy W (some g)
  wd : Wds W b ws
  lt : w.heap.size + 1 < W.heap.size
theorem Chn.later {N : Nat} {w W W' : World} {g : Nat} {A : Option Addr} {c : Nat} {l : List Tn} {Q : Nat → Prop} {t : Ex} {u : Value} {at' ask : Nat} {failed : Bool} {b : Nat} {ws : List ByteArray} (h : Chn w g A c l N Q t u at' ask failed b ws W) (hb : Below W.heap.size W W') : Chn w g A c l N Q t u at' ask failed b ws W' :=
  ⟨h.box.keep (hb.block _ h.box.lt), fun o => (hb.frozen (p := ⟨_, o, none⟩) h.box.lt).trans (h.bfz o), h.res.keep (hb.block _ h.res.lt), fun o => (hb.frozen (p := ⟨_, o, none⟩) h.res.lt).trans (h.rfz o), h.tr.below hb, h.pz.below hb, grow_trans h.gr (grow_below hb _), h.wd.below hb, Nat.lt_of_lt_of_le h.lt hb.size⟩
/-- Behind what may have written the parser alone. -/
theorem Chn.grown {N : Nat} {w W W' : World} {g : Nat} {A : Option Addr} {c : Nat} {l : List Tn} {Q : Nat → Prop} {t : Ex} {u : Value} {at' ask at2 : Nat} {failed failed2 : Bool} {b : Nat} {ws : List ByteArray} (h : Chn w g A c l N Q t u at' ask failed b ws W) (hg : W.grownBy W' (some g)) (hp : Pz W' g A c l at2 ask failed2) (hgw : g < w.heap.size) (hQ : ∀ x, Q x → g < x) (hbg : b ≠ g) : Chn w g A c l N Q t u at2 ask failed2 b ws W' := by
  have n0 : some w.heap.size ≠ some g := fun e => by injection e with e; omega
  have n1 : some (w.heap.size + 1) ≠ some g := fun e => by injection e with e; omega
  exact ⟨h.box.keep (hg.block _ h.box.lt n0), fun o => (World.frozen?_of_block (w := W) (a := ⟨w.heap.size, o, none⟩) (hg.block _ h.box.lt n0)).trans (h.bfz o), h.res.keep (hg.block _ h.res.lt n1), fun o => (World.frozen?_of_block (w := W) (a := ⟨w.heap.size + 1, o, none⟩) (hg.block _ h.res.lt n1)).trans (h.rfz o),
    h.tr.grown hg (fun hx => by rcases hx with ⟨hx, _⟩ | hx; exact absurd (hQ _ hx) (by omega); omega), hp, grow_trans h.gr hg, fun j hj => (World.cell?_of_block (w := W) (a := ⟨b, j, none⟩) (hg.block _ (World.block_lt_of_cell? W _ (h.wd j hj)) (fun e => hbg (by injection e)))).trans (h.wd j hj), Nat.lt_of_lt_of_le h.lt hg.size⟩
theorem Chn.start {N : Nat} {w : World} {g : Nat} {A : Option Addr} {c : Nat} {l : List Tn} {Q : Nat → Prop} {t : Ex} {B : Option Addr} {p q : Nat} {at' ask : Nat} {failed : Bool} {b : Nat} {ws : List ByteArray} (hz : Pz w g A c l at' ask failed) (ht : Tr w Q N t (.slice B p q)) (hw : Wds w b ws) :
    Chn w g A c l N Q t (.slice B p q) at' ask failed b ws ((w.alloc (.cells #[.string t.op, .int .i64 t.x.k, .int .i64 t.x.i, .string t.x.s, .string t.s, .slice B p q] 30)).alloc (.cells #[.string ⟨#[]⟩, .int .i64 0, .int .i64 0, .string ⟨#[]⟩, .string ⟨#[]⟩, .slice none 0 0] 30)) := by
  have hb : Below w.heap.size w ((w.alloc (.cells #[.string t.op, .int .i64 t.x.k, .int .i64 t.x.i, .string t.x.s, .string t.s, .slice B p q] 30)).alloc (.cells #[.string ⟨#[]⟩, .int .i64 0, .int .i64 0, .string ⟨#[]⟩, .string ⟨#[]⟩, .slice none 0 0] 30)) := ((Below.refl _ _).alloc (Nat.le_refl _) _).alloc (by simp) _
  refine ⟨?_, fun o => ?_, ?_, fun o => ?_, ?_, hz.below hb, grow_below hb _, hw.below hb, by simp⟩
  · exact box_cells ((Below.heap_alloc _ _ _ (by simp)).trans (alloc_at rfl _))
  · exact Lib.frozen_of_heap ((Below.heap_alloc _ _ _ (by simp)).trans (alloc_at rfl _)) o
  · exact box_cells (t := zT) (alloc_at (by simp) _)
  · exact Lib.frozen_of_heap (alloc_at (by simp) _) o
  · exact (ht.bound.below hb).keep (fun _ _ _ => rfl) fun _ h _ => .inl h

set_option maxRecDepth 100000 in
set_option maxHeartbeats 4000000 in
theorem chain_none {N : Nat} (g : Nat) (A : Option Addr) (c : Nat) (l : List Tn) (at' ask : Nat) (failed : Bool) (K b cap : Nat) (ws : List ByteArray) (tn : Tn) (Q : Nat → Prop) (t : Ex) (u : Value) (w : World) (hz : Pz w g A c l at' ask failed) (hl : l.length ≤ 100000) (hx : Nx l at' failed tn) (hw : Wds w b ws) (hn : ws.length ≤ 1000) (hno : ∀ x ∈ ws, isB tn x = false) (ht : Tr w Q N t u) :
    Calls Tryz.prog 256 #[.pointer (some ⟨g, 0, none⟩), EVt t u, .func (.func K) #[.pointer (some ⟨g, 0, none⟩)] #[], .slice (some ⟨b, 0, none⟩) ws.length cap] w (Res w g A c l N Q t at' ask failed) := by
  obtain ⟨B, q, rfl, hn2⟩ := ht.form
  obtain ⟨p, HN⟩ : ∃ p, Hid (t.l.length = p) := ⟨_, Lib.hid rfl⟩
  have hgl := hz.lt
  have HC := Lib.hid (Chn.start (p := t.l.length) (B := B) (q := q) hz ht hw)
  have HX := Lib.hid (And.intro hx hno)
  unfold EVt
  rw [HN.out] at hn2 HC ⊢
  clear hz hx hw hno ht
  go_enter Tryz.func256, Tryz.ntmps256
  go_wp2_with (go_at_call 259; refine (take_no g A c l at' ask failed b cap ws tn _ HC.out.pz hl HX.out.1 HC.out.wd hn HX.out.2).mono ?_; rintro e w1 ⟨rfl, hb1⟩; have HD := Lib.hid (HC.out.later hb1); clear hb1)
  go_loopw [9] (fun v wr => v = .string ⟨#[]⟩ ∧ w1 = wr) (fun _ _ => 0)
  case atStart => exact ⟨rfl, rfl⟩
  case round =>
    obtain ⟨rfl, rfl⟩ := hrel
    have k0 := HD.out.box.c0
    have k1 := HD.out.box.c1
    have k2 := HD.out.box.c2
    have k3 := HD.out.box.c3
    have k4 := HD.out.box.c4
    have k5 := HD.out.box.c5
    have r0 := HD.out.res.c0
    have r1 := HD.out.res.c1
    have r2 := HD.out.res.c2
    have r3 := HD.out.res.c3
    have r4 := HD.out.res.c4
    have r5 := HD.out.res.c5
    have rf := HD.out.rfz
    have hz1 := HD.out.lt
    simp only [Nat.zero_add] at k0 k1 k2 k3 k4 k5 r0 r1 r2 r3 r4 r5
    go_wp2_with (fail)
    refine bodyPost_ret (v := .agg #[.string t.op, .int .i64 t.x.k, .int .i64 t.x.i, .string t.x.s, .string t.s, .slice B p q]) (by simp [results, Tryz.results256, go_sem, *]) rfl ?_
    have hR := Res.store (Q := Q) HD.out.tr HD.out.pz HD.out.gr (b := w.heap.size + 1) (by omega) hgl (fun h => by rcases h with ⟨_, h⟩ | h <;> omega) (fun x h _ => by rcases h with ⟨h, _⟩ | h; exact .inl h; exact .inr (by omega)) (.string t.op) (.int .i64 t.x.k) (.int .i64 t.x.i) (.string t.x.s) (.string t.s) (.slice B p q)
    unfold EVt at hR
    exact hR
end Go.Proofs.YtlilnbcklplmfaaGreatDoor

/- The parser: where nothing goes on. -/
namespace Go.Proofs.YtlilnbcklplmfaaGreatDoor
open Go.RowKit Go.Lib

theorem wds1 (W : World) {n : Nat} (h : W.heap.size = n) (x : ByteArray) : Wds (W.alloc (.cells #[.string x] 9)) n [x] := fun j hj => by
  have hj : j < 1 := hj
  obtain rfl : j = 0 := by omega
  rw [Lib.cell_of_heap (alloc_at h _)]; rfl
theorem wds2 (W : World) {n : Nat} (h : W.heap.size = n) (x y : ByteArray) : Wds (W.alloc (.cells #[.string x, .string y] 9)) n [x, y] := fun j hj => by
  have hj : j < 2 := hj
  rcases (show j = 0 ∨ j = 1 by omega) with rfl | rfl <;> (rw [Lib.cell_of_heap (alloc_at h _)]; rfl)
theorem wds3 (W : World) {n : Nat} (h : W.heap.size = n) (x y z : ByteArray) : Wds (W.alloc (.cells #[.string x, .string y, .string z] 9)) n [x, y, z] := fun j hj => by
  have hj : j < 3 := hj
  rcases (show j = 0 ∨ j = 1 ∨ j = 2 by omega) with rfl | rfl | rfl <;> (rw [Lib.cell_of_heap (alloc_at h _)]; rfl)
theorem all1 {p : ByteArray → Prop} {x : ByteArray} (h : p x) : ∀ y ∈ [x], p y := fun y hy => by simp at hy; subst hy; exact h
theorem all2 {p : ByteArray → Prop} {x y : ByteArray} (h : p x) (k : p y) : ∀ z ∈ [x, y], p z := fun z hz => by simp at hz; rcases hz with rfl | rfl; exact h; exact k
theorem all3 {p : ByteArray → Prop} {x y z : ByteArray} (h : p x) (k : p y) (m : p z) : ∀ v ∈ [x, y, z], p v := fun v hv => by simp at hv; rcases hv with rfl | rfl | rfl; exact h; exact k; exact m

set_option maxRecDepth 100000 in
set_option maxHeartbeats 4000000 in
theorem sumFrom_n {N : Nat} (g : Nat) (A : Option Addr) (c : Nat) (l : List Tn) (at' ask : Nat) (failed : Bool) (tn : Tn) (Q : Nat → Prop) (t : Ex) (u : Value) (w : World) (hz : Pz w g A c l at' ask failed) (hl : l.length ≤ 100000) (hx : Nx l at' failed tn) (ht : Tr w Q N t u) (n0 : isB tn ⟨#[43]⟩ = false) (n1 : isB tn ⟨#[45]⟩ = false) :
    Calls Tryz.prog 279 #[.pointer (some ⟨g, 0, none⟩), EVt t u] w (Res w g A c l N Q t at' ask failed) := by
  obtain ⟨B, q, rfl, hn2⟩ := ht.form
  have hgl := hz.lt
  have hb0 : Below w.heap.size w ((w.alloc (.cells #[.string t.op, .int .i64 t.x.k, .int .i64 t.x.i, .string t.x.s, .string t.s, .slice B t.l.length q] 30)).alloc (.cells #[.string ⟨#[]⟩, .int .i64 0, .int .i64 0, .string ⟨#[]⟩, .string ⟨#[]⟩, .slice none 0 0] 30)) := ((Below.refl _ _).alloc (Nat.le_refl _) _).alloc (by simp) _
  have H0 := Lib.hid (And.intro (hz.below hb0) ((ht.bound.below hb0).keep (Q := (fun b => (Q b ∧ b < w.heap.size) ∨ w.heap.size + 1 < b)) (fun _ _ _ => rfl) (fun b h _ => .inl h)))
  have HX := Lib.hid (And.intro hx (And.intro (And.intro n0 (And.intro n1 trivial)) trivial))
  have HG0 := Lib.hid (grow_below hb0 (some g))
  obtain ⟨p, HN⟩ : ∃ p, Hid (t.l.length = p) := ⟨_, Lib.hid rfl⟩
  unfold EVt
  rw [HN.out] at hn2 H0 HG0 ⊢
  clear hz hx ht hb0 n0 n1
  have hne0 : ¬ w.heap.size = g := by omega
  have hne1 : ¬ w.heap.size + 1 = g := by omega
  have hmf : ∀ (fn : Fn) (first cap : Array Value) (w : World), (Instr.makeFunc fn first cap).run Tryz.prog w = .ok (.func fn first cap) w := fun _ _ _ _ => rfl
  go_enter Tryz.func279, Tryz.ntmps279
  go_wp2_with (go_at_call 256; refine (chain_none g A c l at' ask failed 261 _ 2 [⟨#[43]⟩, ⟨#[45]⟩] tn (fun b => (Q b ∧ b < w.heap.size) ∨ w.heap.size + 1 < b) t (.slice B p q) _ (H0.out.1.alloc _) hl HX.out.1 (wds2 _ (by simp) ⟨#[43]⟩ ⟨#[45]⟩) (by simp) (all2 HX.out.2.1.1 HX.out.2.1.2.1) (H0.out.2.below ((Below.refl _ _).alloc (Nat.le_refl _) _))).mono ?_; rintro e w1 ⟨u1, rfl, ht1, hp1, hg1⟩; obtain ⟨B1, q1, rfl, _⟩ := ht1.form; unfold EVt; have hc1 := (gcell hg1).1; have hf1 := (gcell hg1).2; have hy1 := hg1.size; (try simp at hy1); have hz1_0 : w.heap.size < w1.heap.size := (by omega); have hz1_1 : w.heap.size + 1 < w1.heap.size := (by omega); have HP1 := Lib.hid (And.intro ht1 (And.intro hp1 hg1)); clear ht1 hp1 hg1)
  refine bodyPost_ret (v := .agg #[.string t.op, .int .i64 t.x.k, .int .i64 t.x.i, .string t.x.s, .string t.s, .slice B1 t.l.length q1]) (by simp [results, Tryz.results279, go_sem, *]) rfl ?_
  exact Res.store (Q := Q) (R := (fun b => (Q b ∧ b < w.heap.size) ∨ w.heap.size + 1 < b)) (HP1.out.1.keep (fun _ _ _ => rfl) (fun b h _ => h.elim id (fun h => .inr (by simp at h; omega)))) HP1.out.2.1 (grow_trans (grow_trans HG0.out (grow_alloc _ _ _)) HP1.out.2.2) (b := w.heap.size + 1) (by omega) hgl (fun h => by rcases h with ⟨_, h⟩ | h <;> omega) (fun x h _ => by rcases h with ⟨h, _⟩ | h; exact .inl h; exact .inr (by omega)) _ _ _ _ _ _

set_option maxRecDepth 100000 in
set_option maxHeartbeats 4000000 in
theorem andFrom_n {N : Nat} (g : Nat) (A : Option Addr) (c : Nat) (l : List Tn) (at' ask : Nat) (failed : Bool) (tn : Tn) (Q : Nat → Prop) (t : Ex) (u : Value) (w : World) (hz : Pz w g A c l at' ask failed) (hl : l.length ≤ 100000) (hx : Nx l at' failed tn) (ht : Tr w Q N t u) (n0 : isB tn ⟨#[65, 78, 68]⟩ = false) :
    Calls Tryz.prog 257 #[.pointer (some ⟨g, 0, none⟩), EVt t u] w (Res w g A c l N Q t at' ask failed) := by
  obtain ⟨B, q, rfl, hn2⟩ := ht.form
  have hgl := hz.lt
  have hb0 : Below w.heap.size w ((w.alloc (.cells #[.string t.op, .int .i64 t.x.k, .int .i64 t.x.i, .string t.x.s, .string t.s, .slice B t.l.length q] 30)).alloc (.cells #[.string ⟨#[]⟩, .int .i64 0, .int .i64 0, .string ⟨#[]⟩, .string ⟨#[]⟩, .slice none 0 0] 30)) := ((Below.refl _ _).alloc (Nat.le_refl _) _).alloc (by simp) _
  have H0 := Lib.hid (And.intro (hz.below hb0) ((ht.bound.below hb0).keep (Q := (fun b => (Q b ∧ b < w.heap.size) ∨ w.heap.size + 1 < b)) (fun _ _ _ => rfl) (fun b h _ => .inl h)))
  have HX := Lib.hid (And.intro hx (And.intro (And.intro n0 trivial) trivial))
  have HG0 := Lib.hid (grow_below hb0 (some g))
  obtain ⟨p, HN⟩ : ∃ p, Hid (t.l.length = p) := ⟨_, Lib.hid rfl⟩
  unfold EVt
  rw [HN.out] at hn2 H0 HG0 ⊢
  clear hz hx ht hb0 n0
  have hne0 : ¬ w.heap.size = g := by omega
  have hne1 : ¬ w.heap.size + 1 = g := by omega
  have hmf : ∀ (fn : Fn) (first cap : Array Value) (w : World), (Instr.makeFunc fn first cap).run Tryz.prog w = .ok (.func fn first cap) w := fun _ _ _ _ => rfl
  go_enter Tryz.func257, Tryz.ntmps257
  go_wp2_with (go_at_call 256; refine (chain_none g A c l at' ask failed 238 _ 1 [⟨#[65, 78, 68]⟩] tn (fun b => (Q b ∧ b < w.heap.size) ∨ w.heap.size + 1 < b) t (.slice B p q) _ (H0.out.1.alloc _) hl HX.out.1 (wds1 _ (by simp) ⟨#[65, 78, 68]⟩) (by simp) (all1 HX.out.2.1.1) (H0.out.2.below ((Below.refl _ _).alloc (Nat.le_refl _) _))).mono ?_; rintro e w1 ⟨u1, rfl, ht1, hp1, hg1⟩; obtain ⟨B1, q1, rfl, _⟩ := ht1.form; unfold EVt; have hc1 := (gcell hg1).1; have hf1 := (gcell hg1).2; have hy1 := hg1.size; (try simp at hy1); have hz1_0 : w.heap.size < w1.heap.size := (by omega); have hz1_1 : w.heap.size + 1 < w1.heap.size := (by omega); have HP1 := Lib.hid (And.intro ht1 (And.intro hp1 hg1)); clear ht1 hp1 hg1)
  refine bodyPost_ret (v := .agg #[.string t.op, .int .i64 t.x.k, .int .i64 t.x.i, .string t.x.s, .string t.s, .slice B1 t.l.length q1]) (by simp [results, Tryz.results257, go_sem, *]) rfl ?_
  exact Res.store (Q := Q) (R := (fun b => (Q b ∧ b < w.heap.size) ∨ w.heap.size + 1 < b)) (HP1.out.1.keep (fun _ _ _ => rfl) (fun b h _ => h.elim id (fun h => .inr (by simp at h; omega)))) HP1.out.2.1 (grow_trans (grow_trans HG0.out (grow_alloc _ _ _)) HP1.out.2.2) (b := w.heap.size + 1) (by omega) hgl (fun h => by rcases h with ⟨_, h⟩ | h <;> omega) (fun x h _ => by rcases h with ⟨h, _⟩ | h; exact .inl h; exact .inr (by omega)) _ _ _ _ _ _

set_option maxRecDepth 100000 in
set_option maxHeartbeats 4000000 in
theorem orFrom_n {N : Nat} (g : Nat) (A : Option Addr) (c : Nat) (l : List Tn) (at' ask : Nat) (failed : Bool) (tn : Tn) (Q : Nat → Prop) (t : Ex) (u : Value) (w : World) (hz : Pz w g A c l at' ask failed) (hl : l.length ≤ 100000) (hx : Nx l at' failed tn) (ht : Tr w Q N t u) (n0 : isB tn ⟨#[65, 78, 68]⟩ = false) (n1 : isB tn ⟨#[79, 82]⟩ = false) :
    Calls Tryz.prog 237 #[.pointer (some ⟨g, 0, none⟩), EVt t u] w (Res w g A c l N Q t at' ask failed) := by
  obtain ⟨B, q, rfl, hn2⟩ := ht.form
  have hgl := hz.lt
  have hb0 : Below w.heap.size w ((w.alloc (.cells #[.string t.op, .int .i64 t.x.k, .int .i64 t.x.i, .string t.x.s, .string t.s, .slice B t.l.length q] 30)).alloc (.cells #[.string ⟨#[]⟩, .int .i64 0, .int .i64 0, .string ⟨#[]⟩, .string ⟨#[]⟩, .slice none 0 0] 30)) := ((Below.refl _ _).alloc (Nat.le_refl _) _).alloc (by simp) _
  have H0 := Lib.hid (And.intro (hz.below hb0) ((ht.bound.below hb0).keep (Q := (fun b => (Q b ∧ b < w.heap.size) ∨ w.heap.size + 1 < b)) (fun _ _ _ => rfl) (fun b h _ => .inl h)))
  have HX := Lib.hid (And.intro hx (And.intro (And.intro n0 (And.intro n1 trivial)) trivial))
  have HG0 := Lib.hid (grow_below hb0 (some g))
  obtain ⟨p, HN⟩ : ∃ p, Hid (t.l.length = p) := ⟨_, Lib.hid rfl⟩
  unfold EVt
  rw [HN.out] at hn2 H0 HG0 ⊢
  clear hz hx ht hb0 n0 n1
  have hne0 : ¬ w.heap.size = g := by omega
  have hne1 : ¬ w.heap.size + 1 = g := by omega
  have hmf : ∀ (fn : Fn) (first cap : Array Value) (w : World), (Instr.makeFunc fn first cap).run Tryz.prog w = .ok (.func fn first cap) w := fun _ _ _ _ => rfl
  go_enter Tryz.func237, Tryz.ntmps237
  go_wp2_with (first
    | (go_at_call 257; go_loud (refine (andFrom_n g A c l at' ask failed tn (fun b => (Q b ∧ b < w.heap.size) ∨ w.heap.size + 1 < b) t (.slice B p q) _ H0.out.1 hl HX.out.1 H0.out.2 HX.out.2.1.1).mono ?_; rintro e w1 ⟨u1, rfl, ht1, hp1, hg1⟩; obtain ⟨B1, q1, rfl, _⟩ := ht1.form; unfold EVt; have hc1 := (gcell hg1).1; have hf1 := (gcell hg1).2; have hy1 := hg1.size; (try simp at hy1); have hz1_0 : w.heap.size < w1.heap.size := (by omega); have hz1_1 : w.heap.size + 1 < w1.heap.size := (by omega); have HP1 := Lib.hid (And.intro ht1 (And.intro hp1 hg1)); clear ht1 hp1 hg1; have HT1 : Hid (Tr w1 (fun b => (Q b ∧ b < w.heap.size) ∨ w.heap.size + 1 < b) N t (.slice B1 t.l.length q1)) := HP1.out.1.keep (fun _ _ _ => rfl) (fun b h _ => h.elim id (fun h => .inr (by simp at h; omega)))))
    | (go_at_call 256; go_loud (refine (chain_none g A c l at' ask failed 258 _ 1 [⟨#[79, 82]⟩] tn (fun b => (Q b ∧ b < w.heap.size) ∨ w.heap.size + 1 < b) t (.slice B1 t.l.length q1) _ (HP1.out.2.1.alloc _) hl HX.out.1 (wds1 _ (by simp) ⟨#[79, 82]⟩) (by simp) (all1 HX.out.2.1.2.1) (HT1.out.below ((Below.refl _ _).alloc (Nat.le_refl _) _))).mono ?_; rintro e w2 ⟨u2, rfl, ht2, hp2, hg2⟩; obtain ⟨B2, q2, rfl, _⟩ := ht2.form; unfold EVt; have hc2 := (gcell hg2).1; have hf2 := (gcell hg2).2; have hy2 := hg2.size; (try simp at hy2); have hz2_0 : w.heap.size < w2.heap.size := (by omega); have hz2_1 : w.heap.size + 1 < w2.heap.size := (by omega); have HP2 := Lib.hid (And.intro ht2 (And.intro hp2 hg2)); clear ht2 hp2 hg2)))
  refine bodyPost_ret (v := .agg #[.string t.op, .int .i64 t.x.k, .int .i64 t.x.i, .string t.x.s, .string t.s, .slice B2 t.l.length q2]) (by simp [results, Tryz.results237, go_sem, *]) rfl ?_
  exact Res.store (Q := Q) (R := (fun b => (Q b ∧ b < w.heap.size) ∨ w.heap.size + 1 < b)) (HP2.out.1.keep (fun _ _ _ => rfl) (fun b h _ => h.elim id (fun h => .inr (by simp at h; omega)))) HP2.out.2.1 (grow_trans (grow_trans (grow_trans HG0.out HP1.out.2.2) (grow_alloc _ _ _)) HP2.out.2.2) (b := w.heap.size + 1) (by omega) hgl (fun h => by rcases h with ⟨_, h⟩ | h <;> omega) (fun x h _ => by rcases h with ⟨h, _⟩ | h; exact .inl h; exact .inr (by omega)) _ _ _ _ _ _

theorem set6_box {W : World} {b : Nat} {t t2 : Ex} {u : Value} (h : ExC W ⟨b, 0, none⟩ t u) (u2 : Value) : ExC (set6 W b (.string t2.op) (.int .i64 t2.x.k) (.int .i64 t2.x.i) (.string t2.x.s) (.string t2.s) u2) ⟨b, 0, none⟩ t2 u2 := by
  have k0 := h.c0
  have k1 := h.c1
  have k2 := h.c2
  have k3 := h.c3
  have k4 := h.c4
  have k5 := h.c5
  have hl := h.lt
  simp only [Nat.zero_add] at k0 k1 k2 k3 k4 k5
  unfold set6
  refine ⟨?_, ?_, ?_, ?_, ?_, ?_⟩ <;> simp [go_sem, *]
theorem set6_frozen (W : World) (b : Nat) (x y z u v r : Value) (q o : Nat) : (set6 W b x y z u v r).frozen? ⟨q, o, none⟩ = W.frozen? ⟨q, o, none⟩ := by
  unfold set6
  simp [go_sem]
theorem Chn.put {N N2 : Nat} {w W W1 : World} {g : Nat} {A : Option Addr} {c : Nat} {l : List Tn} {Q : Nat → Prop} {t t2 : Ex} {u u2 : Value} {at' ask at2 : Nat} {failed failed2 : Bool} {b : Nat} {ws : List ByteArray} (h : Chn w g A c l N Q t u at' ask failed b ws W) (hT : Tr W1 (fun x => (fun b => (Q b ∧ b < w.heap.size) ∨ w.heap.size + 1 < b) x ∨ W.heap.size ≤ x) N2 t2 u2) (hP : Pz W1 g A c l at2 ask failed2) (hG : W.grownBy W1 (some g)) (hgw : g < w.heap.size) (hbg : b ≠ g) (hbw : b < w.heap.size ∨ ws = []) :
    Chn w g A c l N2 Q t2 u2 at2 ask failed2 b ws (set6 W1 w.heap.size (.string t2.op) (.int .i64 t2.x.k) (.int .i64 t2.x.i) (.string t2.x.s) (.string t2.s) u2) := by
  have n0 : some w.heap.size ≠ some g := fun e => by injection e with e; omega
  have n1 : some (w.heap.size + 1) ≠ some g := fun e => by injection e with e; omega
  have hl := h.lt
  have hs := hG.size
  have hr := h.res.keep (hG.block _ h.res.lt n1)
  refine ⟨set6_box (h.box.keep (hG.block _ h.box.lt n0)) u2, fun o => ?_, hr.keep (set6_block _ _ _ _ _ _ _ _ (by show w.heap.size + 1 ≠ _; omega)), fun o => ?_, (hT.keep (fun _ _ _ => rfl) (fun b h _ => h.elim id (fun h => .inr (by omega)))).set6 (fun h => by rcases h with ⟨_, h⟩ | h <;> omega) (fun _ h _ => h) _ _ _ _ _ _, hP.set6 hgw _ _ _ _ _ _, grow_set6 (grow_trans h.gr hG) (Nat.le_refl _) _ _ _ _ _ _, fun j hj => ?_, by rw [set6_size]; omega⟩
  · rw [set6_frozen]
    exact (World.frozen?_of_block (w := W) (a := ⟨w.heap.size, o, none⟩) (hG.block _ h.box.lt n0)).trans (h.bfz o)
  · rw [set6_frozen]
    exact (World.frozen?_of_block (w := W) (a := ⟨w.heap.size + 1, o, none⟩) (hG.block _ h.res.lt n1)).trans (h.rfz o)
  · rcases hbw with hbw | rfl
    · refine (World.cell?_of_block (w := W1) (a := ⟨b, j, none⟩) (set6_block _ _ _ _ _ _ _ _ (by show b ≠ _; omega))).trans ?_
      exact (World.cell?_of_block (w := W) (a := ⟨b, j, none⟩) (hG.block _ (World.block_lt_of_cell? W _ (h.wd j hj)) (fun e => hbg (by injection e)))).trans (h.wd j hj)
    · exact absurd hj (by simp)
theorem Chn.form {N : Nat} {w W : World} {g : Nat} {A : Option Addr} {c : Nat} {l : List Tn} {Q : Nat → Prop} {t : Ex} {u : Value} {at' ask : Nat} {failed : Bool} {b : Nat} {ws : List ByteArray} (h : Chn w g A c l N Q t u at' ask failed b ws W) (hgw : g < w.heap.size) (t' : Ex) (u' : Value) (hT : Tr W (fun b => (Q b ∧ b < w.heap.size) ∨ w.heap.size + 1 < b) N t' u') :
    Res w g A c l N Q t' at' ask failed (.returned (EVt t' u')) (set6 W (w.heap.size + 1) (.string t'.op) (.int .i64 t'.x.k) (.int .i64 t'.x.i) (.string t'.x.s) (.string t'.s) u') :=
  Res.store (Q := Q) hT h.pz h.gr (by omega) hgw (fun h => by rcases h with ⟨_, h⟩ | h <;> omega) (fun x h _ => by rcases h with ⟨h, _⟩ | h; exact .inl h; exact .inr (by omega)) _ _ _ _ _ _
end Go.Proofs.YtlilnbcklplmfaaGreatDoor

/- The parser: a comparison. -/
namespace Go.Proofs.YtlilnbcklplmfaaGreatDoor
open Go.RowKit Go.Lib

set_option maxRecDepth 100000 in
set_option maxHeartbeats 4000000 in
theorem cmpFrom_n {N : Nat} (g : Nat) (A : Option Addr) (c : Nat) (l : List Tn) (at' ask : Nat) (failed : Bool) (tn : Tn) (Q : Nat → Prop) (t : Ex) (u : Value) (w : World) (hz : Pz w g A c l at' ask failed) (hl : l.length ≤ 100000) (hx : Nx l at' failed tn) (ht : Tr w Q N t u) (n0 : isB tn ⟨#[43]⟩ = false) (n1 : isB tn ⟨#[45]⟩ = false) (n2 : isB tn ⟨#[61]⟩ = false) (n3 : isB tn ⟨#[60]⟩ = false) (n4 : isB tn ⟨#[73, 83]⟩ = false) :
    Calls Tryz.prog 260 #[.pointer (some ⟨g, 0, none⟩), EVt t u] w (Res w g A c l N Q t at' ask failed) := by
  obtain ⟨B, q, rfl, hn2⟩ := ht.form
  have hgl := hz.lt
  have H0 : Hid (Chn w g A c l N Q t (.slice B t.l.length q) at' ask failed (w.heap.size + 1) [] ((w.alloc (.cells #[.string t.op, .int .i64 t.x.k, .int .i64 t.x.i, .string t.x.s, .string t.s, .slice B t.l.length q] 30)).alloc (.cells #[.string ⟨#[]⟩, .int .i64 0, .int .i64 0, .string ⟨#[]⟩, .string ⟨#[]⟩, .slice none 0 0] 30))) := Chn.start hz ht (fun j hj => absurd hj (by simp))
  have HX := Lib.hid (And.intro hx (And.intro n0 (And.intro n1 (And.intro n2 (And.intro n3 n4)))))
  unfold EVt
  clear hz hx ht
  clear n0 n1 n2 n3 n4
  have hne0 : ¬ w.heap.size = g := by omega
  have hne1 : ¬ w.heap.size + 1 = g := by omega
  have hmf : ∀ (fn : Fn) (first cap : Array Value) (w : World), (Instr.makeFunc fn first cap).run Tryz.prog w = .ok (.func fn first cap) w := fun _ _ _ _ => rfl
  go_enter Tryz.func260, Tryz.ntmps260
  go_upto_region 1 with (fail)
  refine wp_gen (Chn w g A c l N Q t (.slice B t.l.length q) at' ask failed (w.heap.size + 1) []) H0.out fun w0 h0 => ?_
  clear H0
  have H0 := Lib.hid h0
  clear h0
  have k0 := H0.out.box.c0
  have k1 := H0.out.box.c1
  have k2 := H0.out.box.c2
  have k3 := H0.out.box.c3
  have k4 := H0.out.box.c4
  have k5 := H0.out.box.c5
  have r0 := H0.out.res.c0
  have r1 := H0.out.res.c1
  have r2 := H0.out.res.c2
  have r3 := H0.out.res.c3
  have r4 := H0.out.res.c4
  have r5 := H0.out.res.c5
  have rf := H0.out.rfz
  have bf := H0.out.bfz
  have hz := H0.out.lt
  have hgz := H0.out.pz.lt
  have hzy := Nat.lt_of_succ_lt hz
  simp only [Nat.zero_add] at k0 r0 k1 r1 k2 r2 k3 r3 k4 r4 k5 r5
  go_upto_region 2 with (go_at_call 279; refine (sumFrom_n g A c l at' ask failed tn (fun b => (Q b ∧ b < w.heap.size) ∨ w.heap.size + 1 < b) t (.slice B t.l.length q) _ H0.out.pz hl HX.out.1 H0.out.tr HX.out.2.1 HX.out.2.2.1).mono ?_; rintro e w1 ⟨u1, rfl, ht1, hp1, hg1⟩; obtain ⟨B1, q1, rfl, _⟩ := ht1.form; unfold EVt; have hc1 := (gcell hg1).1; have hf1 := (gcell hg1).2; have hy1 := hg1.size; (try simp at hy1); have HP1 := Lib.hid (And.intro ht1 (And.intro hp1 hg1)); clear ht1 hp1 hg1)
  refine wp_gen (Chn w g A c l N Q t (.slice B1 t.l.length q1) at' ask failed (w.heap.size + 1) []) (Chn.put H0.out HP1.out.1 HP1.out.2.1 HP1.out.2.2 hgl (by omega) (.inr rfl)) fun w2 h2 => ?_
  have H2 := Lib.hid h2
  clear k0 r0 k1 r1 k2 r2 k3 r3 k4 r4 k5 r5 rf bf hz hgz hzy
  clear h2 H0 HP1 hc1 hf1 hy1
  have k0 := H2.out.box.c0
  have k1 := H2.out.box.c1
  have k2 := H2.out.box.c2
  have k3 := H2.out.box.c3
  have k4 := H2.out.box.c4
  have k5 := H2.out.box.c5
  have r0 := H2.out.res.c0
  have r1 := H2.out.res.c1
  have r2 := H2.out.res.c2
  have r3 := H2.out.res.c3
  have r4 := H2.out.res.c4
  have r5 := H2.out.res.c5
  have rf := H2.out.rfz
  have bf := H2.out.bfz
  have hz := H2.out.lt
  have hgz := H2.out.pz.lt
  have hzy := Nat.lt_of_succ_lt hz
  simp only [Nat.zero_add] at k0 r0 k1 r1 k2 r2 k3 r3 k4 r4 k5 r5
  go_wp2_with (go_at_call 259; refine (take_no g A c l at' ask failed _ 3 [⟨#[61]⟩, ⟨#[60]⟩, ⟨#[73, 83]⟩] tn _ (H2.out.pz.alloc _) hl HX.out.1 (wds3 _ (by simp) ⟨#[61]⟩ ⟨#[60]⟩ ⟨#[73, 83]⟩) (by simp) (all3 HX.out.2.2.2.1 HX.out.2.2.2.2.1 HX.out.2.2.2.2.2)).mono ?_; rintro e w3 ⟨rfl, hb3⟩; have H3 := Lib.hid ((H2.out.later ((Below.refl _ _).alloc (Nat.le_refl _) _)).later hb3); clear hb3 H2; clear k0 r0 k1 r1 k2 r2 k3 r3 k4 r4 k5 r5 rf bf hz hgz hzy; have k0 := H3.out.box.c0; have k1 := H3.out.box.c1; have k2 := H3.out.box.c2; have k3 := H3.out.box.c3; have k4 := H3.out.box.c4; have k5 := H3.out.box.c5; have r0 := H3.out.res.c0; have r1 := H3.out.res.c1; have r2 := H3.out.res.c2; have r3 := H3.out.res.c3; have r4 := H3.out.res.c4; have r5 := H3.out.res.c5; have rf := H3.out.rfz; have bf := H3.out.bfz; have hz := H3.out.lt; have hgz := H3.out.pz.lt; have hzy := Nat.lt_of_succ_lt hz; simp only [Nat.zero_add] at k0 r0 k1 r1 k2 r2 k3 r3 k4 r4 k5 r5)
  refine bodyPost_ret (v := .agg #[.string t.op, .int .i64 t.x.k, .int .i64 t.x.i, .string t.x.s, .string t.s, .slice B1 t.l.length q1]) (by simp [results, Tryz.results260, go_sem, *]) rfl ?_
  exact H3.out.form hgl t _ H3.out.tr

end Go.Proofs.YtlilnbcklplmfaaGreatDoor

/- The parser: a word, a number, an atom that does not stand in brackets. -/
namespace Go.Proofs.YtlilnbcklplmfaaGreatDoor
open Go.RowKit Go.Lib

def litT (x : Vl) : Ex := .mk ⟨#[108, 105, 116]⟩ x ⟨#[]⟩ []
def colT (s : ByteArray) : Ex := .mk ⟨#[99, 111, 108]⟩ ⟨0, 0, ⟨#[]⟩⟩ s []
theorem leaf_tr (W : World) (P : Nat → Prop) (n : Nat) (op : ByteArray) (x : Vl) (s : ByteArray) (hs : s.size ≤ 100000) : Tr W P n (.mk op x s []) (.slice none 0 0) := by
  refine ⟨hs, ?_⟩
  cases n with
  | zero => exact ⟨rfl, none, 0, rfl⟩
  | succ n => exact ⟨none, 0, rfl, by simp [Ex.l, maxLen], fun j hj => absurd hj (by simp [Ex.l])⟩

theorem Res.alloc {N : Nat} {w W : World} {g : Nat} {A : Option Addr} {c : Nat} {l : List Tn} {Q : Nat → Prop} {t : Ex} {at' ask : Nat} {failed : Bool} {e : Ending} (h : Res w g A c l N Q t at' ask failed e W) (o : Obj) : Res w g A c l N Q t at' ask failed e (W.alloc o) := by
  obtain ⟨u, h1, h2, h3, h4⟩ := h
  exact ⟨u, h1, h2.below ((Below.refl _ _).alloc (Nat.le_refl _) o), h3.alloc o, grow_trans h4 (grow_alloc _ _ _)⟩
theorem Res.leaf {N : Nat} {w W : World} {g : Nat} {A : Option Addr} {c : Nat} {l : List Tn} {Q : Nat → Prop} {at' ask : Nat} {failed : Bool} {b : Nat} (op : ByteArray) (x : Vl) (s : ByteArray) (hs : s.size ≤ 100000) (hP : Pz W g A c l at' ask failed) (hG : w.grownBy W (some g)) (hb : w.heap.size ≤ b) (hg : g < w.heap.size) :
    Res w g A c l N Q (.mk op x s []) at' ask failed (.returned (.agg #[.string op, .int .i64 x.k, .int .i64 x.i, .string x.s, .string s, .slice none 0 0])) (set6 W b (.string op) (.int .i64 x.k) (.int .i64 x.i) (.string x.s) (.string s) (.slice none 0 0)) :=
  Res.store (t := .mk op x s []) (R := fun _ => False) (leaf_tr _ _ N _ _ _ hs) hP hG hb hg (fun h => h) (fun x h _ => h.elim) _ _ _ _ _ _

set_option maxRecDepth 100000 in
set_option maxHeartbeats 4000000 in
theorem word_lit {N : Nat} (g : Nat) (A : Option Addr) (c : Nat) (l : List Tn) (at' ask : Nat) (failed : Bool) (s : ByteArray) (k i : Int) (S : ByteArray) (w : World) (hz : Pz w g A c l at' ask failed) (hm : mayB k i S = true) (ht : txtO k i S = s.data.toList) (hi : In64 i) (hs : s.size ≤ 100000) :
    Calls Tryz.prog 295 #[.pointer (some ⟨g, 0, none⟩), .string s] w (Res w g A c l N (fun _ => False) (litT ⟨k, i, S⟩) at' ask failed) := by
  have HZ := Lib.hid hz
  have hgl := hz.lt
  have HV : Hid (∀ W, LibE W → Calls Tryz.prog 132 #[.string s] W fun e w' => e = .returned (.tuple #[.agg #[.int .i64 k, .int .i64 i, .string S], .int .i64 0]) ∧ Below W.heap.size W w') := fun W hl => vparse_ok k i S s W hm ht hi hs hl
  clear hz hm ht hi
  have hne0 : ¬ w.heap.size = g := by omega
  go_enter Tryz.func295, Tryz.ntmps295
  go_wp2_with (go_at_call 132; refine (HV.out _ (HZ.out.alloc _).libE).mono ?_; rintro e w1 ⟨rfl, hb1⟩; have hc1 := (bcell hb1).1; have hf1 := (bcell hb1).2; have hy1 := hb1.size; (try simp at hy1); have hz1_0 : w.heap.size < w1.heap.size := (by omega); have HB1 : Hid (Below w.heap.size w w1) := ((Below.refl _ _).alloc (Nat.le_refl _) _).trans (hb1.mono (by simp)))
  refine bodyPost_ret (v := .agg #[.string ⟨#[108, 105, 116]⟩, .int .i64 k, .int .i64 i, .string S, .string ⟨#[]⟩, .slice none 0 0]) (by simp [results, Tryz.results295, go_sem, *]) rfl ?_
  exact (Res.leaf ⟨#[108, 105, 116]⟩ ⟨k, i, S⟩ ⟨#[]⟩ (by decide) (HZ.out.below HB1.out) (grow_below HB1.out _) (Nat.le_refl _) hgl).alloc _

set_option maxRecDepth 100000 in
set_option maxHeartbeats 4000000 in
theorem word_col {N : Nat} (g : Nat) (A : Option Addr) (c : Nat) (l : List Tn) (at' ask : Nat) (failed : Bool) (s : ByteArray) (w : World) (hz : Pz w g A c l at' ask failed) (hn : ∀ k i S, In64 i → mayB k i S = true → txtO k i S ≠ s.data.toList) (hs : s.size ≤ 100000) (hm : mayT (colT s) = true) :
    Calls Tryz.prog 295 #[.pointer (some ⟨g, 0, none⟩), .string s] w (Res w g A c l N (fun _ => False) (colT s) at' ask failed) := by
  have HZ := Lib.hid hz
  have hgl := hz.lt
  have HV : Hid (∀ W, LibE W → Calls Tryz.prog 132 #[.string s] W fun e w' => e = .returned (.tuple #[.agg #[.int .i64 0, .int .i64 0, .string ⟨#[]⟩], .int .i64 3]) ∧ Below W.heap.size W w') := fun W hl => vparse_no s W hn hs hl
  have HM := Lib.hid hm
  clear hz hn hm
  have hne0 : ¬ w.heap.size = g := by omega
  go_enter Tryz.func295, Tryz.ntmps295
  go_wp2_with (first
    | (go_at_call 132; refine (HV.out _ (HZ.out.alloc _).libE).mono ?_; rintro e w1 ⟨rfl, hb1⟩; have hc1 := (bcell hb1).1; have hf1 := (bcell hb1).2; have hy1 := hb1.size; (try simp at hy1); have hz1_0 : w.heap.size < w1.heap.size := (by omega); have HB1 : Hid (Below w.heap.size w w1) := ((Below.refl _ _).alloc (Nat.le_refl _) _).trans (hb1.mono (by simp)); have HZ1 := Lib.hid ((HZ.out.below HB1.out).alloc (.cells #[.int .i64 0, .int .i64 0, .string ⟨#[]⟩] 27)); have hzx : w.heap.size < w1.heap.size + 1 := by omega)
    | (go_at_call 262; refine (checked_yes (N := N) g A c l at' ask failed _ HZ1.out (fun _ => False) (colT s) (.slice none 0 0) (leaf_tr _ _ N _ _ _ hs) HM.out).mono ?_; rintro e w2 ⟨u2, rfl, ht2, hp2, hg2⟩; obtain ⟨B2, q2, rfl, _⟩ := ht2.form; unfold EVt; have hc2 := (gcell hg2).1; have hf2 := (gcell hg2).2; have hy2 := hg2.size; (try simp at hy2); have hz2_0 : w.heap.size < w2.heap.size := (by omega); have HP2 := Lib.hid (And.intro ht2 (And.intro hp2 hg2)); clear ht2 hp2 hg2))
  refine bodyPost_ret (v := .agg #[.string (colT s).op, .int .i64 (colT s).x.k, .int .i64 (colT s).x.i, .string (colT s).x.s, .string (colT s).s, .slice B2 (colT s).l.length q2]) (by simp [results, Tryz.results295, go_sem, *]) rfl ?_
  exact Res.store (Q := (fun _ => False)) (R := fun b => w.heap.size < b) (HP2.out.1.keep (fun _ _ _ => rfl) (fun b h _ => h.elim False.elim (fun h => by simp at h; omega))) HP2.out.2.1 (grow_trans (grow_trans (grow_below HB1.out _) (grow_alloc _ _ _)) HP2.out.2.2) (b := w.heap.size) (Nat.le_refl _) hgl (by omega) (fun x h _ => .inr (Nat.le_of_lt h)) _ _ _ _ _ _

set_option maxRecDepth 100000 in
set_option maxHeartbeats 4000000 in
theorem number_ok {N : Nat} (g : Nat) (A : Option Addr) (c : Nat) (l : List Tn) (at' ask : Nat) (failed : Bool) (s : ByteArray) (v : Int) (w : World) (hz : Pz w g A c l at' ask failed) (hv : parseIntB 64 s.data.toList = .ok v) (hs : s.size ≤ 100000) :
    Calls Tryz.prog 294 #[.pointer (some ⟨g, 0, none⟩), .string s] w (Res w g A c l N (fun _ => False) (litT ⟨1, v, ⟨#[]⟩⟩) at' ask failed) := by
  have HZ := Lib.hid hz
  have hgl := hz.lt
  have HV := Lib.hid hv
  clear hz hv
  have hne0 : ¬ w.heap.size = g := by omega
  go_enter Tryz.func294, Tryz.ntmps294
  go_wp2_with (go_at_call 214; refine (pint_ok s _ v HV.out hs).mono ?_; rintro e w1 ⟨rfl, hb1⟩; have hc1 := (bcell hb1).1; have hf1 := (bcell hb1).2; have hy1 := hb1.size; (try simp at hy1); have hz1_0 : w.heap.size < w1.heap.size := (by omega); have HB1 : Hid (Below w.heap.size w w1) := ((Below.refl _ _).alloc (Nat.le_refl _) _).trans (hb1.mono (by simp)))
  refine bodyPost_ret (v := .agg #[.string ⟨#[108, 105, 116]⟩, .int .i64 1, .int .i64 v, .string ⟨#[]⟩, .string ⟨#[]⟩, .slice none 0 0]) (by simp [results, Tryz.results294, go_sem, *]) rfl ?_
  exact Res.leaf ⟨#[108, 105, 116]⟩ ⟨1, v, ⟨#[]⟩⟩ ⟨#[]⟩ (by decide) (HZ.out.below HB1.out) (grow_below HB1.out _) (Nat.le_refl _) hgl

end Go.Proofs.YtlilnbcklplmfaaGreatDoor

/- The parser: an atom that does not stand in brackets. -/
namespace Go.Proofs.YtlilnbcklplmfaaGreatDoor
open Go.RowKit Go.Lib

set_option maxRecDepth 100000 in
set_option maxHeartbeats 4000000 in
theorem plain_word {N : Nat} (g : Nat) (A : Option Addr) (c : Nat) (l : List Tn) (at' ask : Nat) (failed : Bool) (s : ByteArray) (t : Ex) (at2 : Nat) (failed2 : Bool) (w : World) (hz : Pz w g A c l at' ask failed) (hl : l.length ≤ 100000) (ha : at' ≤ 100000) (hx : Nx l at' failed ⟨1, s⟩) (hno : isB ⟨1, s⟩ ⟨#[45]⟩ = false) (hs : s.size ≤ 100000) (hsub : ∀ W, Pz W g A c l (at' + 1) ask failed → Calls Tryz.prog 295 #[.pointer (some ⟨g, 0, none⟩), .string s] W (Res W g A c l N (fun _ => False) t at2 ask failed2)) :
    Calls Tryz.prog 283 #[.pointer (some ⟨g, 0, none⟩)] w (Res w g A c l N (fun _ => False) t at2 ask failed2) := by
  have HZ := Lib.hid hz
  have hgl := hz.lt
  have HX := Lib.hid (And.intro hx (And.intro hno hsub))
  clear hz hx hno hsub
  have hne0 : ¬ w.heap.size = g := by omega
  go_enter Tryz.func283, Tryz.ntmps283
  go_wp2_with (first
    | (go_at_call 259; refine (take_no g A c l at' ask failed _ 1 [⟨#[45]⟩] (⟨1, s⟩ : Tn) _ ((HZ.out.alloc _).alloc _) hl HX.out.1 (wds1 _ (by simp) ⟨#[45]⟩) (by simp) (all1 HX.out.2.1)).mono ?_; rintro e w1 ⟨rfl, hb1⟩; have hc1 := (bcell hb1).1; have hf1 := (bcell hb1).2; have hy1 := hb1.size; (try simp at hy1); have hz1_0 : w.heap.size < w1.heap.size := (by omega); have HB1 : Hid (Below w.heap.size w w1) := (((Below.refl _ _).alloc (Nat.le_refl _) _).alloc (by simp) _).trans (hb1.mono (by simp; omega)); have HZ1 := Lib.hid (HZ.out.below HB1.out); have HD1 : Hid (Below (w.heap.size + 1) (w.alloc (.cells #[.string ⟨#[]⟩, .int .i64 0, .int .i64 0, .string ⟨#[]⟩, .string ⟨#[]⟩, .slice none 0 0] 30)) w1) := ((Below.refl _ _).alloc (by simp) _).trans (hb1.mono (by simp)))
    | (go_at_call 278; refine (next_any g A c l at' ask failed _ HZ1.out hl (⟨1, s⟩ : Tn) HX.out.1).mono ?_; rintro e w2 ⟨rfl, hb2⟩; have hc2 := (bcell hb2).1; have hf2 := (bcell hb2).2; have hy2 := hb2.size; (try simp at hy2); have hz2_0 : w.heap.size < w2.heap.size := (by omega); have HB2 : Hid (Below w.heap.size w w2) := HB1.out.trans (hb2.mono (by omega)); have HD2 : Hid (Below (w.heap.size + 1) (w.alloc (.cells #[.string ⟨#[]⟩, .int .i64 0, .int .i64 0, .string ⟨#[]⟩, .string ⟨#[]⟩, .slice none 0 0] 30)) w2) := HD1.out.trans (hb2.mono (by omega)); have HZ2 := Lib.hid (HZ1.out.below hb2); have d1 := HZ2.out.c1; have df := HZ2.out.fz 1; have hg2 : g < w2.heap.size := (by omega); have hnz : ¬ w2.heap.size = g := (by omega); have hzx : w.heap.size < w2.heap.size + 1 := (by omega))
    | (go_at_call 295; refine (HX.out.2.2 _ ((HZ2.out.goto (at' + 1)).alloc _)).mono ?_; rintro e w3 ⟨u3, rfl, ht3, hp3, hg3⟩; obtain ⟨B3, q3, rfl, _⟩ := ht3.form; unfold EVt; have hc3 := (gcell hg3).1; have hf3 := (gcell hg3).2; have hy3 := hg3.size; (try simp [World.setCell] at hy3); have hz3_0 : w.heap.size < w3.heap.size := (by omega); have HP3 := Lib.hid (And.intro ht3 (And.intro hp3 hg3)); clear ht3 hp3 hg3; have hbx : w3.heap[w.heap.size]? = some (.cells #[.string ⟨#[]⟩, .int .i64 0, .int .i64 0, .string ⟨#[]⟩, .string ⟨#[]⟩, .slice none 0 0] 30 (0, 0)) := (HP3.out.2.2.block _ (by simp [World.setCell]; omega) (fun e => by injection e with e; omega)).trans ((Below.heap_alloc _ _ _ (by simp [World.setCell]; omega)).trans ((Below.heap_setCell _ _ _ _ (by show w.heap.size ≠ g; omega)).trans ((HD2.out.block _ (by omega)).trans (alloc_at rfl _)))); have EZ := box_cells (t := zT) hbx; have y0 := EZ.c0; have y1 := EZ.c1; have y2 := EZ.c2; have y3 := EZ.c3; have y4 := EZ.c4; have y5 := EZ.c5; have yf := Lib.frozen_of_heap hbx; simp only [Nat.zero_add] at y0 y1 y2 y3 y4 y5; clear EZ))
  clear hc1 hc2 hc3 hf1 hf2 hf3
  refine bodyPost_ret (v := .agg #[.string t.op, .int .i64 t.x.k, .int .i64 t.x.i, .string t.x.s, .string t.s, .slice B3 t.l.length q3]) (by simp [results, Tryz.results283, go_sem, *]) rfl ?_
  exact Res.store (Q := (fun _ => False)) (R := fun b => w.heap.size < b) (HP3.out.1.keep (fun _ _ _ => rfl) (fun b h _ => h.elim False.elim (fun h => by simp [World.setCell] at h; omega))) HP3.out.2.1 (grow_trans (grow_trans (grow_trans (grow_below HB2.out _) (grow_set _ _ _ _)) (grow_alloc _ _ _)) HP3.out.2.2) (b := w.heap.size) (Nat.le_refl _) hgl (by omega) (fun x h _ => .inr (Nat.le_of_lt h)) _ _ _ _ _ _

set_option maxRecDepth 100000 in
set_option maxHeartbeats 4000000 in
theorem plain_num {N : Nat} (g : Nat) (A : Option Addr) (c : Nat) (l : List Tn) (at' ask : Nat) (failed : Bool) (s : ByteArray) (t : Ex) (at2 : Nat) (failed2 : Bool) (w : World) (hz : Pz w g A c l at' ask failed) (hl : l.length ≤ 100000) (ha : at' ≤ 100000) (hx : Nx l at' failed ⟨2, s⟩) (hno : isB ⟨2, s⟩ ⟨#[45]⟩ = false) (hs : s.size ≤ 100000) (hsub : ∀ W, Pz W g A c l (at' + 1) ask failed → Calls Tryz.prog 294 #[.pointer (some ⟨g, 0, none⟩), .string s] W (Res W g A c l N (fun _ => False) t at2 ask failed2)) :
    Calls Tryz.prog 283 #[.pointer (some ⟨g, 0, none⟩)] w (Res w g A c l N (fun _ => False) t at2 ask failed2) := by
  have HZ := Lib.hid hz
  have hgl := hz.lt
  have HX := Lib.hid (And.intro hx (And.intro hno hsub))
  clear hz hx hno hsub
  have hne0 : ¬ w.heap.size = g := by omega
  go_enter Tryz.func283, Tryz.ntmps283
  go_wp2_with (first
    | (go_at_call 259; refine (take_no g A c l at' ask failed _ 1 [⟨#[45]⟩] (⟨2, s⟩ : Tn) _ ((HZ.out.alloc _).alloc _) hl HX.out.1 (wds1 _ (by simp) ⟨#[45]⟩) (by simp) (all1 HX.out.2.1)).mono ?_; rintro e w1 ⟨rfl, hb1⟩; have hc1 := (bcell hb1).1; have hf1 := (bcell hb1).2; have hy1 := hb1.size; (try simp at hy1); have hz1_0 : w.heap.size < w1.heap.size := (by omega); have HB1 : Hid (Below w.heap.size w w1) := (((Below.refl _ _).alloc (Nat.le_refl _) _).alloc (by simp) _).trans (hb1.mono (by simp; omega)); have HZ1 := Lib.hid (HZ.out.below HB1.out); have HD1 : Hid (Below (w.heap.size + 1) (w.alloc (.cells #[.string ⟨#[]⟩, .int .i64 0, .int .i64 0, .string ⟨#[]⟩, .string ⟨#[]⟩, .slice none 0 0] 30)) w1) := ((Below.refl _ _).alloc (by simp) _).trans (hb1.mono (by simp)))
    | (go_at_call 278; refine (next_any g A c l at' ask failed _ HZ1.out hl (⟨2, s⟩ : Tn) HX.out.1).mono ?_; rintro e w2 ⟨rfl, hb2⟩; have hc2 := (bcell hb2).1; have hf2 := (bcell hb2).2; have hy2 := hb2.size; (try simp at hy2); have hz2_0 : w.heap.size < w2.heap.size := (by omega); have HB2 : Hid (Below w.heap.size w w2) := HB1.out.trans (hb2.mono (by omega)); have HD2 : Hid (Below (w.heap.size + 1) (w.alloc (.cells #[.string ⟨#[]⟩, .int .i64 0, .int .i64 0, .string ⟨#[]⟩, .string ⟨#[]⟩, .slice none 0 0] 30)) w2) := HD1.out.trans (hb2.mono (by omega)); have HZ2 := Lib.hid (HZ1.out.below hb2); have d1 := HZ2.out.c1; have df := HZ2.out.fz 1; have hg2 : g < w2.heap.size := (by omega); have hnz : ¬ w2.heap.size = g := (by omega); have hzx : w.heap.size < w2.heap.size + 1 := (by omega))
    | (go_at_call 294; refine (HX.out.2.2 _ ((HZ2.out.goto (at' + 1)).alloc _)).mono ?_; rintro e w3 ⟨u3, rfl, ht3, hp3, hg3⟩; obtain ⟨B3, q3, rfl, _⟩ := ht3.form; unfold EVt; have hc3 := (gcell hg3).1; have hf3 := (gcell hg3).2; have hy3 := hg3.size; (try simp [World.setCell] at hy3); have hz3_0 : w.heap.size < w3.heap.size := (by omega); have HP3 := Lib.hid (And.intro ht3 (And.intro hp3 hg3)); clear ht3 hp3 hg3; have hbx : w3.heap[w.heap.size]? = some (.cells #[.string ⟨#[]⟩, .int .i64 0, .int .i64 0, .string ⟨#[]⟩, .string ⟨#[]⟩, .slice none 0 0] 30 (0, 0)) := (HP3.out.2.2.block _ (by simp [World.setCell]; omega) (fun e => by injection e with e; omega)).trans ((Below.heap_alloc _ _ _ (by simp [World.setCell]; omega)).trans ((Below.heap_setCell _ _ _ _ (by show w.heap.size ≠ g; omega)).trans ((HD2.out.block _ (by omega)).trans (alloc_at rfl _)))); have EZ := box_cells (t := zT) hbx; have y0 := EZ.c0; have y1 := EZ.c1; have y2 := EZ.c2; have y3 := EZ.c3; have y4 := EZ.c4; have y5 := EZ.c5; have yf := Lib.frozen_of_heap hbx; simp only [Nat.zero_add] at y0 y1 y2 y3 y4 y5; clear EZ))
  clear hc1 hc2 hc3 hf1 hf2 hf3
  refine bodyPost_ret (v := .agg #[.string t.op, .int .i64 t.x.k, .int .i64 t.x.i, .string t.x.s, .string t.s, .slice B3 t.l.length q3]) (by simp [results, Tryz.results283, go_sem, *]) rfl ?_
  exact Res.store (Q := (fun _ => False)) (R := fun b => w.heap.size < b) (HP3.out.1.keep (fun _ _ _ => rfl) (fun b h _ => h.elim False.elim (fun h => by simp [World.setCell] at h; omega))) HP3.out.2.1 (grow_trans (grow_trans (grow_trans (grow_below HB2.out _) (grow_set _ _ _ _)) (grow_alloc _ _ _)) HP3.out.2.2) (b := w.heap.size) (Nat.le_refl _) hgl (by omega) (fun x h _ => .inr (Nat.le_of_lt h)) _ _ _ _ _ _

end Go.Proofs.YtlilnbcklplmfaaGreatDoor

/- The parser: an atom. -/
namespace Go.Proofs.YtlilnbcklplmfaaGreatDoor
open Go.RowKit Go.Lib

/-- The world of an atom: its result's box (block r), the box of what has been parsed (block b), the parser. -/
structure Atm (w : World) (g : Nat) (A : Option Addr) (c : Nat) (l : List Tn) (N : Nat) (t : Ex) (u : Value) (at' ask : Nat) (failed : Bool) (b : Nat) (W : World) : Prop where
  res : W.heap[w.heap.size]? = some (.cells #[.string ⟨#[]⟩, .int .i64 0, .int .i64 0, .string ⟨#[]⟩, .string ⟨#[]⟩, .slice none 0 0] 30 (0, 0))
  box : ExC W ⟨b, 0, none⟩ t u
  bfz : ∀ o, W.frozen? ⟨b, o, none⟩ = false
  tr : Tr W (fun x => b < x) N t u
  pz : Pz W g A c l at' ask failed
  gr : w.grownBy W (some g)
  lb : w.heap.size < b
  lt : b < W.heap.size

theorem Atm.put {N : Nat} {w W W1 : World} {g : Nat} {A : Option Addr} {c : Nat} {l : List Tn} {t t2 : Ex} {u u2 : Value} {at' ask at2 : Nat} {failed failed2 : Bool} {b : Nat} (h : Atm w g A c l N t u at' ask failed b W) (hT : Tr W1 (fun x => False ∨ W.heap.size ≤ x) N t2 u2) (hP : Pz W1 g A c l at2 ask failed2) (hG : W.grownBy W1 (some g)) (hgw : g < w.heap.size) :
    Atm w g A c l N t2 u2 at2 ask failed2 b (set6 W1 b (.string t2.op) (.int .i64 t2.x.k) (.int .i64 t2.x.i) (.string t2.x.s) (.string t2.s) u2) := by
  have lb := h.lb
  have lt := h.lt
  have n0 : some w.heap.size ≠ some g := fun e => by injection e with e; omega
  have n1 : some b ≠ some g := fun e => by injection e with e; omega
  have hs := hG.size
  refine ⟨(set6_block _ _ _ _ _ _ _ _ (by omega)).trans ((hG.block _ (by omega) n0).trans h.res), set6_box (h.box.keep (hG.block _ lt n1)) u2, fun o => ?_, (hT.keep (fun _ _ _ => rfl) (fun x h _ => h.elim False.elim (fun h => by show b < x; omega))).set6 (Nat.lt_irrefl _) (fun _ h _ => h) _ _ _ _ _ _, hP.set6 (by omega) _ _ _ _ _ _, grow_set6 (grow_trans h.gr hG) (by omega) _ _ _ _ _ _, lb, by rw [set6_size]; omega⟩
  rw [set6_frozen]
  exact (World.frozen?_of_block (w := W) (a := ⟨b, o, none⟩) (hG.block _ lt n1)).trans (h.bfz o)

set_option maxRecDepth 100000 in
set_option maxHeartbeats 4000000 in
theorem atom_plain {N : Nat} (g : Nat) (A : Option Addr) (c : Nat) (l : List Tn) (at' ask : Nat) (failed : Bool) (tn : Tn) (t : Ex) (at2 : Nat) (failed2 : Bool) (w : World) (hz : Pz w g A c l at' ask failed) (hl : l.length ≤ 100000) (hx : Nx l at' failed tn) (hno : isB tn ⟨#[40]⟩ = false)
    (hsub : ∀ W, Pz W g A c l at' ask failed → Calls Tryz.prog 283 #[.pointer (some ⟨g, 0, none⟩)] W (Res W g A c l N (fun _ => False) t at2 ask failed2)) :
    Calls Tryz.prog 261 #[.pointer (some ⟨g, 0, none⟩)] w (Res w g A c l N (fun _ => False) t at2 ask failed2) := by
  have HZ := Lib.hid hz
  have hgl := hz.lt
  have HX := Lib.hid (And.intro hx (And.intro hno hsub))
  clear hz hx hno hsub
  have hne0 : ¬ w.heap.size = g := by omega
  go_enter Tryz.func261, Tryz.ntmps261
  go_wp2_with (fail)
  have HD0 : Hid (Below (w.heap.size + 1) (w.alloc (.cells #[.string ⟨#[]⟩, .int .i64 0, .int .i64 0, .string ⟨#[]⟩, .string ⟨#[]⟩, .slice none 0 0] 30)) (w.alloc (.cells #[.string ⟨#[]⟩, .int .i64 0, .int .i64 0, .string ⟨#[]⟩, .string ⟨#[]⟩, .slice none 0 0] 30))) := Below.refl _ _
  go_loopw [3] (fun v wr => v = .int .i64 0 ∧ Below (w.heap.size + 1) (w.alloc (.cells #[.string ⟨#[]⟩, .int .i64 0, .int .i64 0, .string ⟨#[]⟩, .string ⟨#[]⟩, .slice none 0 0] 30)) wr) (fun _ _ => 0)
  case atStart => exact ⟨rfl, HD0.out⟩
  case round =>
    obtain ⟨rfl, hd⟩ := hrel
    have HD := Lib.hid hd
    have hds := hd.size
    (try simp at hds)
    clear hd
    have HBw : Hid (Below w.heap.size w wr) := ((Below.refl _ _).alloc (Nat.le_refl _) _).trans (HD.out.mono (by omega))
    go_upto_if 8 with (go_at_call 259; refine (take_no g A c l at' ask failed _ 1 [⟨#[40]⟩] tn _ ((HZ.out.below HBw.out).alloc _) hl HX.out.1 (wds1 _ (by simp) ⟨#[40]⟩) (by simp) (all1 HX.out.2.1)).mono ?_; rintro e w1 ⟨rfl, hb1⟩; have HB1 : Hid (Below w.heap.size w w1) := (HBw.out.alloc (by omega) _).trans (hb1.mono (by simp; omega)); have HD1 : Hid (Below (w.heap.size + 1) (w.alloc (.cells #[.string ⟨#[]⟩, .int .i64 0, .int .i64 0, .string ⟨#[]⟩, .string ⟨#[]⟩, .slice none 0 0] 30)) w1) := (HD.out.alloc hds _).trans (hb1.mono (by simp; omega)); have HZ1 := Lib.hid (HZ.out.below HB1.out); have hs1 : w.heap.size + 1 ≤ w1.heap.size := (by have := HD1.out.size; simp at this; omega); clear hb1)
    go_upto_region 5 with (fail)
    refine wp_gen (Atm w g A c l N zT (.slice none 0 0) at' ask failed w1.heap.size) ⟨(Below.heap_alloc _ _ _ (by omega)).trans ((HD1.out.block _ (by omega)).trans (alloc_at rfl _)), box_cells (t := zT) (alloc_at rfl _), fun o => Lib.frozen_of_heap (alloc_at rfl _) o, zT_tr _ _ _, HZ1.out.alloc _, grow_trans (grow_below HB1.out _) (grow_alloc _ _ _), by omega, by simp⟩ fun w2 h2 => ?_
    have H2 := Lib.hid h2
    clear h2
    obtain ⟨b, hbe⟩ : ∃ b, b = w1.heap.size := ⟨_, rfl⟩
    rw [← hbe] at H2 ⊢
    clear hbe
    have k0 := H2.out.box.c0
    have k1 := H2.out.box.c1
    have k2 := H2.out.box.c2
    have k3 := H2.out.box.c3
    have k4 := H2.out.box.c4
    have k5 := H2.out.box.c5
    have rb := H2.out.res
    have EZ := box_cells (t := zT) rb; have y0 := EZ.c0; have y1 := EZ.c1; have y2 := EZ.c2; have y3 := EZ.c3; have y4 := EZ.c4; have y5 := EZ.c5; have yf := Lib.frozen_of_heap rb; simp only [Nat.zero_add] at y0 y1 y2 y3 y4 y5; clear EZ
    have bf := H2.out.bfz
    have hlt := H2.out.lt
    have hlb := H2.out.lb
    have hgb := H2.out.pz.lt
    have hnb : ¬ b = g := by omega
    have hwb : ¬ w.heap.size = b := by omega
    have hbw : ¬ b = w.heap.size := by omega
    have hww : w.heap.size < _ := Nat.lt_trans hlb hlt
    simp only [Nat.zero_add] at k0 k1 k2 k3 k4 k5
    clear rb
    go_upto_region 9 with (go_at_call 283; refine (HX.out.2.2 _ H2.out.pz).mono ?_; rintro e w3 ⟨u3, rfl, ht3, hp3, hg3⟩; obtain ⟨B3, q3, rfl, _⟩ := ht3.form; unfold EVt; have hc3 := (gcell hg3).1; have hf3 := (gcell hg3).2; have hy3 := hg3.size; (try simp at hy3); have HP3 := Lib.hid (And.intro ht3 (And.intro hp3 hg3)); clear ht3 hp3 hg3)
    refine wp_gen (Atm w g A c l N t (.slice B3 t.l.length q3) at2 ask failed2 b) (H2.out.put HP3.out.1 HP3.out.2.1 HP3.out.2.2 hgl) fun w4 h4 => ?_
    have H4 := Lib.hid h4
    clear h4 H2 HP3 hc3 hf3 hy3 k0 k1 k2 k3 k4 k5 y0 y1 y2 y3 y4 y5 yf bf hlt hgb hww
    have k0 := H4.out.box.c0
    have k1 := H4.out.box.c1
    have k2 := H4.out.box.c2
    have k3 := H4.out.box.c3
    have k4 := H4.out.box.c4
    have k5 := H4.out.box.c5
    have rb := H4.out.res
    have EZ := box_cells (t := zT) rb; have y0 := EZ.c0; have y1 := EZ.c1; have y2 := EZ.c2; have y3 := EZ.c3; have y4 := EZ.c4; have y5 := EZ.c5; have yf := Lib.frozen_of_heap rb; simp only [Nat.zero_add] at y0 y1 y2 y3 y4 y5; clear EZ
    have bf := H4.out.bfz
    have hlt := H4.out.lt
    have hlb := H4.out.lb
    have hgb := H4.out.pz.lt
    have hnb : ¬ b = g := by omega
    have hwb : ¬ w.heap.size = b := by omega
    have hbw : ¬ b = w.heap.size := by omega
    have hww : w.heap.size < _ := Nat.lt_trans hlb hlt
    simp only [Nat.zero_add] at k0 k1 k2 k3 k4 k5
    clear rb
    go_wp2_with (fail)
    go_loopw [27] (fun v wr => v = .int .i64 0 ∧ w4 = wr) (fun _ _ => 0)
    case atStart => exact ⟨rfl, rfl⟩
    case round =>
      obtain ⟨rfl, rfl⟩ := hrel
      go_wp2_with (fail)
      refine bodyPost_ret (v := .agg #[.string t.op, .int .i64 t.x.k, .int .i64 t.x.i, .string t.x.s, .string t.s, .slice B3 t.l.length q3]) (by simp [results, Tryz.results261, go_sem, *]) rfl ?_
      exact Res.store (Q := (fun _ => False)) H4.out.tr H4.out.pz H4.out.gr (b := w.heap.size) (Nat.le_refl _) hgl (by omega) (fun x h _ => .inr (by omega)) _ _ _ _ _ _
end Go.Proofs.YtlilnbcklplmfaaGreatDoor

/- The parser: a sum, an and, an or, a not. -/
namespace Go.Proofs.YtlilnbcklplmfaaGreatDoor
open Go.RowKit Go.Lib

set_option maxRecDepth 100000 in
set_option maxHeartbeats 4000000 in
theorem psum_any {N : Nat} (g : Nat) (A : Option Addr) (c : Nat) (l : List Tn) (at' ask : Nat) (failed : Bool) (t t3 : Ex) (at2 at3 : Nat) (failed2 failed3 : Bool) {N2 : Nat} (w : World) (hz : Pz w g A c l at' ask failed)
    (h1 : ∀ W, Pz W g A c l at' ask failed → Calls Tryz.prog 261 #[.pointer (some ⟨g, 0, none⟩)] W (Res W g A c l N (fun _ => False) t at2 ask failed2))
    (h2 : ∀ (Q : Nat → Prop) (W : World) (u : Value), (∀ x, Q x → g < x) → Pz W g A c l at2 ask failed2 → Tr W Q N t u → Calls Tryz.prog 279 #[.pointer (some ⟨g, 0, none⟩), EVt t u] W (Res W g A c l N2 Q t3 at3 ask failed3)) :
    Calls Tryz.prog 281 #[.pointer (some ⟨g, 0, none⟩)] w (Res w g A c l N2 (fun _ => False) t3 at3 ask failed3) := by
  have HZ := Lib.hid hz
  have hgl := hz.lt
  have HX := Lib.hid (And.intro h1 h2)
  clear hz h1 h2
  have hne0 : ¬ w.heap.size = g := by omega
  go_enter Tryz.func281, Tryz.ntmps281
  go_wp2_with (first
    | (go_at_call 261; refine (HX.out.1 _ (HZ.out.alloc _)).mono ?_; rintro e w1 ⟨u1, rfl, ht1, hp1, hg1⟩; obtain ⟨B1, q1, rfl, _⟩ := ht1.form; unfold EVt; have hc1 := (gcell hg1).1; have hf1 := (gcell hg1).2; have hy1 := hg1.size; (try simp at hy1); have hz1_0 : w.heap.size < w1.heap.size := (by omega); have HP1 := Lib.hid (And.intro ht1 (And.intro hp1 hg1)); clear ht1 hp1 hg1; have HG1 : Hid (w.grownBy w1 (some g)) := grow_trans (grow_alloc _ _ _) HP1.out.2.2)
    | (go_at_call 279; refine (HX.out.2 (fun b => w.heap.size < b) _ _ (fun x (h : w.heap.size < x) => by omega) HP1.out.2.1 (HP1.out.1.keep (fun _ _ _ => rfl) (fun b h _ => h.elim False.elim (fun h => by simp at h; omega)))).mono ?_; rintro e w2 ⟨u2, rfl, ht2, hp2, hg2⟩; obtain ⟨B2, q2, rfl, _⟩ := ht2.form; unfold EVt; have hc2 := (gcell hg2).1; have hf2 := (gcell hg2).2; have hy2 := hg2.size; (try simp at hy2); have hz2_0 : w.heap.size < w2.heap.size := (by omega); have HP2 := Lib.hid (And.intro ht2 (And.intro hp2 hg2)); clear ht2 hp2 hg2))
  refine bodyPost_ret (v := .agg #[.string t3.op, .int .i64 t3.x.k, .int .i64 t3.x.i, .string t3.x.s, .string t3.s, .slice B2 t3.l.length q2]) (by simp [results, Tryz.results281, go_sem, *]) rfl ?_
  exact Res.store (Q := (fun _ => False)) (R := fun b => w.heap.size < b) (HP2.out.1.keep (fun _ _ _ => rfl) (fun b h _ => h.elim id (fun h => by omega))) HP2.out.2.1 (grow_trans HG1.out HP2.out.2.2) (b := w.heap.size) (Nat.le_refl _) hgl (by omega) (fun x h _ => .inr (Nat.le_of_lt h)) _ _ _ _ _ _

set_option maxRecDepth 100000 in
set_option maxHeartbeats 4000000 in
theorem por_any {N : Nat} (g : Nat) (A : Option Addr) (c : Nat) (l : List Tn) (at' ask : Nat) (failed : Bool) (t t3 : Ex) (at2 at3 : Nat) (failed2 failed3 : Bool) {N2 : Nat} (w : World) (hz : Pz w g A c l at' ask failed)
    (h1 : ∀ W, Pz W g A c l at' ask failed → Calls Tryz.prog 238 #[.pointer (some ⟨g, 0, none⟩)] W (Res W g A c l N (fun _ => False) t at2 ask failed2))
    (h2 : ∀ (Q : Nat → Prop) (W : World) (u : Value), (∀ x, Q x → g < x) → Pz W g A c l at2 ask failed2 → Tr W Q N t u → Calls Tryz.prog 237 #[.pointer (some ⟨g, 0, none⟩), EVt t u] W (Res W g A c l N2 Q t3 at3 ask failed3)) :
    Calls Tryz.prog 215 #[.pointer (some ⟨g, 0, none⟩)] w (Res w g A c l N2 (fun _ => False) t3 at3 ask failed3) := by
  have HZ := Lib.hid hz
  have hgl := hz.lt
  have HX := Lib.hid (And.intro h1 h2)
  clear hz h1 h2
  have hne0 : ¬ w.heap.size = g := by omega
  go_enter Tryz.func215, Tryz.ntmps215
  go_wp2_with (first
    | (go_at_call 238; refine (HX.out.1 _ (HZ.out.alloc _)).mono ?_; rintro e w1 ⟨u1, rfl, ht1, hp1, hg1⟩; obtain ⟨B1, q1, rfl, _⟩ := ht1.form; unfold EVt; have hc1 := (gcell hg1).1; have hf1 := (gcell hg1).2; have hy1 := hg1.size; (try simp at hy1); have hz1_0 : w.heap.size < w1.heap.size := (by omega); have HP1 := Lib.hid (And.intro ht1 (And.intro hp1 hg1)); clear ht1 hp1 hg1; have HG1 : Hid (w.grownBy w1 (some g)) := grow_trans (grow_alloc _ _ _) HP1.out.2.2)
    | (go_at_call 237; refine (HX.out.2 (fun b => w.heap.size < b) _ _ (fun x (h : w.heap.size < x) => by omega) HP1.out.2.1 (HP1.out.1.keep (fun _ _ _ => rfl) (fun b h _ => h.elim False.elim (fun h => by simp at h; omega)))).mono ?_; rintro e w2 ⟨u2, rfl, ht2, hp2, hg2⟩; obtain ⟨B2, q2, rfl, _⟩ := ht2.form; unfold EVt; have hc2 := (gcell hg2).1; have hf2 := (gcell hg2).2; have hy2 := hg2.size; (try simp at hy2); have hz2_0 : w.heap.size < w2.heap.size := (by omega); have HP2 := Lib.hid (And.intro ht2 (And.intro hp2 hg2)); clear ht2 hp2 hg2))
  refine bodyPost_ret (v := .agg #[.string t3.op, .int .i64 t3.x.k, .int .i64 t3.x.i, .string t3.x.s, .string t3.s, .slice B2 t3.l.length q2]) (by simp [results, Tryz.results215, go_sem, *]) rfl ?_
  exact Res.store (Q := (fun _ => False)) (R := fun b => w.heap.size < b) (HP2.out.1.keep (fun _ _ _ => rfl) (fun b h _ => h.elim id (fun h => by omega))) HP2.out.2.1 (grow_trans HG1.out HP2.out.2.2) (b := w.heap.size) (Nat.le_refl _) hgl (by omega) (fun x h _ => .inr (Nat.le_of_lt h)) _ _ _ _ _ _

set_option maxRecDepth 100000 in
set_option maxHeartbeats 4000000 in
theorem pnot_any {N : Nat} (g : Nat) (A : Option Addr) (c : Nat) (l : List Tn) (at' ask : Nat) (failed : Bool) (tn : Tn) (t t3 : Ex) (at2 at3 : Nat) (failed2 failed3 : Bool) {N2 : Nat} (w : World) (hz : Pz w g A c l at' ask failed) (hl : l.length ≤ 100000) (hx : Nx l at' failed tn) (hno : isB tn ⟨#[78, 79, 84]⟩ = false)
    (h1 : ∀ W, Pz W g A c l at' ask failed → Calls Tryz.prog 261 #[.pointer (some ⟨g, 0, none⟩)] W (Res W g A c l N (fun _ => False) t at2 ask failed2))
    (h2 : ∀ (Q : Nat → Prop) (W : World) (u : Value), (∀ x, Q x → g < x) → Pz W g A c l at2 ask failed2 → Tr W Q N t u → Calls Tryz.prog 260 #[.pointer (some ⟨g, 0, none⟩), EVt t u] W (Res W g A c l N2 Q t3 at3 ask failed3)) :
    Calls Tryz.prog 238 #[.pointer (some ⟨g, 0, none⟩)] w (Res w g A c l N2 (fun _ => False) t3 at3 ask failed3) := by
  have HZ := Lib.hid hz
  have hgl := hz.lt
  have HX := Lib.hid (And.intro h1 h2)
  have HN := Lib.hid (And.intro hx hno)
  clear hz h1 h2 hx hno
  have hne0 : ¬ w.heap.size = g := by omega
  have hmf : ∀ (fn : Fn) (first cap : Array Value) (w : World), (Instr.makeFunc fn first cap).run Tryz.prog w = .ok (.func fn first cap) w := fun _ _ _ _ => rfl
  go_enter Tryz.func238, Tryz.ntmps238
  go_wp2_with (first
    | (go_at_call 259; refine (take_no g A c l at' ask failed _ 1 [⟨#[78, 79, 84]⟩] tn _ ((HZ.out.alloc _).alloc _) hl HN.out.1 (wds1 _ (by simp) ⟨#[78, 79, 84]⟩) (by simp) (all1 HN.out.2)).mono ?_; rintro e w0 ⟨rfl, hb0⟩; have HB0 : Hid (Below w.heap.size w w0) := (((Below.refl _ _).alloc (Nat.le_refl _) _).alloc (by simp) _).trans (hb0.mono (by simp; omega)); have HD0 : Hid (Below (w.heap.size + 1) (w.alloc (.cells #[.string ⟨#[]⟩, .int .i64 0, .int .i64 0, .string ⟨#[]⟩, .string ⟨#[]⟩, .slice none 0 0] 30)) w0) := ((Below.refl _ _).alloc (by simp) _).trans (hb0.mono (by simp)); have hs0 : w.heap.size + 1 ≤ w0.heap.size := (by have := HD0.out.size; simp at this; omega); clear hb0)
    | (go_at_call 261; refine (HX.out.1 _ (HZ.out.below HB0.out)).mono ?_; rintro e w1 ⟨u1, rfl, ht1, hp1, hg1⟩; obtain ⟨B1, q1, rfl, _⟩ := ht1.form; unfold EVt; have hc1 := (gcell hg1).1; have hf1 := (gcell hg1).2; have hy1 := hg1.size; (try simp at hy1); have hz1_0 : w.heap.size < w1.heap.size := (by omega); have HP1 := Lib.hid (And.intro ht1 (And.intro hp1 hg1)); clear ht1 hp1 hg1; have HG1 : Hid (w.grownBy w1 (some g)) := grow_trans (grow_below HB0.out _) HP1.out.2.2)
    | (go_at_call 260; refine (HX.out.2 (fun b => w.heap.size < b) _ _ (fun x (h : w.heap.size < x) => by omega) HP1.out.2.1 (HP1.out.1.keep (fun _ _ _ => rfl) (fun b h _ => h.elim False.elim (fun h => by omega)))).mono ?_; rintro e w2 ⟨u2, rfl, ht2, hp2, hg2⟩; obtain ⟨B2, q2, rfl, _⟩ := ht2.form; unfold EVt; have hc2 := (gcell hg2).1; have hf2 := (gcell hg2).2; have hy2 := hg2.size; (try simp at hy2); have hz2_0 : w.heap.size < w2.heap.size := (by omega); have HP2 := Lib.hid (And.intro ht2 (And.intro hp2 hg2)); clear ht2 hp2 hg2; clear hc1 hc2 hf1 hf2; have hbx : w2.heap[w.heap.size]? = some (.cells #[.string ⟨#[]⟩, .int .i64 0, .int .i64 0, .string ⟨#[]⟩, .string ⟨#[]⟩, .slice none 0 0] 30 (0, 0)) := (HP2.out.2.2.block _ (by omega) (fun e => by injection e with e; omega)).trans ((HP1.out.2.2.block _ (by omega) (fun e => by injection e with e; omega)).trans ((HD0.out.block _ (by omega)).trans (alloc_at rfl _))); have EZ := box_cells (t := zT) hbx; have y0 := EZ.c0; have y1 := EZ.c1; have y2 := EZ.c2; have y3 := EZ.c3; have y4 := EZ.c4; have y5 := EZ.c5; have yf := Lib.frozen_of_heap hbx; simp only [Nat.zero_add] at y0 y1 y2 y3 y4 y5; clear EZ))
  refine bodyPost_ret (v := .agg #[.string t3.op, .int .i64 t3.x.k, .int .i64 t3.x.i, .string t3.x.s, .string t3.s, .slice B2 t3.l.length q2]) (by simp [results, Tryz.results238, go_sem, *]) rfl ?_
  exact Res.store (Q := (fun _ => False)) (R := fun b => w.heap.size < b) (HP2.out.1.keep (fun _ _ _ => rfl) (fun b h _ => h.elim id (fun h => by omega))) HP2.out.2.1 (grow_trans HG1.out HP2.out.2.2) (b := w.heap.size) (Nat.le_refl _) hgl (by omega) (fun x h _ => .inr (Nat.le_of_lt h)) _ _ _ _ _ _

end Go.Proofs.YtlilnbcklplmfaaGreatDoor

/- What is written is cut as it was: plain facts, no walk. -/
namespace Go.Proofs.YtlilnbcklplmfaaGreatDoor
open Go.RowKit Go.Lib

def Tk.may (t : Tk) : Bool := tmayB t.k ⟨t.s.toArray⟩
/-- A token as it is written. -/
def tkO (t : Tk) : List UInt8 := if t.k = 3 then 39 :: (dbl t.s ++ [39]) else t.s
/-- What may stand behind a token: nothing, or a blank. -/
def After (r : List UInt8) : Prop := ∀ c, r.head? = some c → blankB c = true
theorem blank_is {c : UInt8} (h : blankB c = true) : c = 32 ∨ c = 10 := by
  have := List.contains_iff_mem.1 h
  simpa using this
theorem After.nil : After [] := fun c h => by cases h
theorem After.cons {c : UInt8} (h : blankB c = true) (r : List UInt8) : After (c :: r) := fun d hd => by simp at hd; rw [← hd]; exact h
theorem After.q {r : List UInt8} (h : After r) : r.head? ≠ some 39 := fun e => by rcases blank_is (h 39 e) with h | h <;> exact absurd h (by decide)
theorem After.no {r : List UInt8} (h : After r) (q : UInt8 → Bool) (h1 : q 32 = false) (h2 : q 10 = false) : r.takeWhile q = [] := by
  cases r with
  | nil => rfl
  | cons c r =>
    rw [List.takeWhile_cons]
    rcases blank_is (h c rfl) with e | e
    · rw [e, h1]; rfl
    · rw [e, h2]; rfl
theorem tw_app {q : UInt8 → Bool} {r : List UInt8} : ∀ (l : List UInt8), r.takeWhile q = [] → (l ++ r).takeWhile q = l.takeWhile q
  | [], h => h
  | c :: l, h => by
    rw [List.cons_append, List.takeWhile_cons, List.takeWhile_cons, tw_app l h]
theorem par_32 : parB 32 = false ∧ parB 10 = false := by decide
theorem dig_32 : digB 32 = false ∧ digB 10 = false := by decide
theorem qscan_app : ∀ (n : Nat) (l x t b : List UInt8), l.length ≤ n → qscan l = some (x, t) → (t = [] → b.head? ≠ some 39) → qscan (l ++ b) = some (x, t ++ b) := by
  intro n l x t b _ h hb
  obtain ⟨h1, h2⟩ := qscan_some _ l x t (Nat.le_refl _) h
  rw [h1, List.append_assoc, List.cons_append]
  refine qscan_dbl x (t ++ b) ?_
  cases t with
  | nil => exact hb rfl
  | cons c t => simpa using h2
theorem fst_app {x b : List UInt8} {t : Tk} {n : Nat} (h : fst x = some (t, n)) (hb : After b) : fst (x ++ b) = some (t, n) := by
  obtain ⟨hn1, hn2⟩ := fst_pos h
  cases x with
  | nil => cases h
  | cons c r =>
    have hp := tw_app (q := parB) r (hb.no parB par_32.1 par_32.2)
    have hd := tw_app (q := digB) r (hb.no digB dig_32.1 dig_32.2)
    have lp := (List.takeWhile_sublist parB (l := r)).length_le
    have ld := (List.takeWhile_sublist digB (l := r)).length_le
    rw [List.cons_append]
    unfold fst at h ⊢
    simp only at h ⊢
    by_cases h39 : c = 39
    · rw [if_pos h39] at h ⊢
      cases hq : qscan r with
      | none => rw [hq] at h; cases h
      | some y =>
        obtain ⟨y1, y2⟩ := y
        rw [hq] at h
        rw [qscan_app _ r y1 y2 b (Nat.le_refl _) hq (fun _ => hb.q)]
        simp only at h ⊢
        split at h
        · rename_i hm
          rw [if_pos hm]
          simp only [Option.some.injEq, Prod.mk.injEq] at h
          rw [← h.1, ← h.2]
          simp
          omega
        · cases h
    · rw [if_neg h39] at h ⊢
      rw [hp, hd]
      by_cases hl : letB c = true
      · rw [if_pos hl] at h ⊢
        split at h
        · rename_i hz
          rw [if_pos hz]
          simp only [Option.some.injEq, Prod.mk.injEq] at h
          rw [← h.1, ← h.2]
          have e : (c :: (r ++ b)).take (1 + (r.takeWhile parB).length) = (c :: r).take (1 + (r.takeWhile parB).length) := by
            rw [← List.cons_append, List.take_append_of_le_length (by simp; omega)]
          rw [e]
        · cases h
      · rw [if_neg hl] at h ⊢
        by_cases hg : digB c = true
        · rw [if_pos hg] at h ⊢
          split at h
          · rename_i hz
            rw [if_pos hz]
            simp only [Option.some.injEq, Prod.mk.injEq] at h
            rw [← h.1, ← h.2]
            have e : (c :: (r ++ b)).take (1 + (r.takeWhile digB).length) = (c :: r).take (1 + (r.takeWhile digB).length) := by
              rw [← List.cons_append, List.take_append_of_le_length (by simp; omega)]
            rw [e]
          · cases h
        · rw [if_neg hg] at h ⊢
          exact h
theorem skip_app_of {s : List UInt8} (b : List UInt8) (h : skip s ≠ []) : skip (s ++ b) = skip s ++ b := by
  unfold skip at *
  induction s with
  | nil => exact absurd rfl h
  | cons c s ih =>
    rw [List.cons_append, List.dropWhile_cons, List.dropWhile_cons]
    rw [List.dropWhile_cons] at h
    split
    · rename_i hc; rw [if_pos hc] at h; exact ih h
    · rfl
theorem skip_app_nil {s : List UInt8} (b : List UInt8) (h : skip s = []) : skip (s ++ b) = skip b := by
  unfold skip at *
  induction s with
  | nil => rfl
  | cons c s ih =>
    rw [List.cons_append, List.dropWhile_cons]
    rw [List.dropWhile_cons] at h
    split
    · rename_i hc; rw [if_pos hc] at h; exact ih h
    · rename_i hc; rw [if_neg hc] at h; cases h
theorem skip_blank {b : List UInt8} (hb : ∀ c ∈ b, blankB c = true) : skip b = [] := by
  induction b with
  | nil => rfl
  | cons c b ih =>
    unfold skip
    rw [List.dropWhile_cons, if_pos (hb c List.mem_cons_self)]
    exact ih fun d hd => hb d (List.mem_cons_of_mem _ hd)
theorem cut_front {b : List UInt8} (hb : ∀ c ∈ b, blankB c = true) (s : List UInt8) : cut (b ++ s) = cut s := by
  rw [← cut_skip (b ++ s), skip_app_nil s (skip_blank hb), cut_skip]
theorem cut_app : ∀ (k : Nat) (s : List UInt8), s.length ≤ k → ∀ (a : List Tk) (z : List UInt8), cut s = some a → After z → cut (s ++ z) = (cut z).map (a ++ ·)
  | k, s, hk, a, z, h, hz => by
    cases hf : fst (skip s) with
    | none =>
      by_cases hn : skip s = []
      · rw [cut_end hn] at h
        obtain rfl := Option.some.inj h
        rw [← cut_skip (s ++ z), skip_app_nil z hn, cut_skip]
        cases cut z <;> rfl
      · rw [cut_none hf hn] at h; cases h
    | some y =>
      obtain ⟨t, n⟩ := y
      obtain ⟨p1, p2⟩ := fst_pos hf
      have hsk := skip_len s
      have hn : skip s ≠ [] := fun e => by rw [e] at hf; cases hf
      rw [cut_more hf] at h
      cases hr : cut ((skip s).drop n) with
      | none => rw [hr] at h; cases h
      | some a' =>
        rw [hr] at h
        obtain rfl := Option.some.inj h
        have e := skip_app_of z hn
        have hf' : fst (skip (s ++ z)) = some (t, n) := by rw [e]; exact fst_app hf hz
        rw [cut_more hf', e, List.drop_append_of_le_length p2]
        cases k with
        | zero => omega
        | succ k =>
          rw [cut_app k ((skip s).drop n) (by rw [List.length_drop]; omega) a' z hr hz]
          cases cut z <;> simp
theorem kmay_form {p q : UInt8 → Bool} {m : Nat} {l : List UInt8} (h : kmay p q m l = true) : ∃ c r, l = c :: r ∧ p c = true ∧ r.takeWhile q = r ∧ 1 + r.length ≤ m := by
  unfold kmay at h
  cases l with
  | nil => simp at h
  | cons c r =>
    rw [Bool.and_eq_true, Bool.and_eq_true, decide_eq_true_eq, decide_eq_true_eq] at h
    obtain ⟨_, h1, h2⟩ := h
    cases hp : p c with
    | false => rw [tog_zero hp] at h2; simp at h2
    | true =>
      rw [tog_on hp] at h2
      simp only [List.length_cons] at h1 h2
      refine ⟨c, r, rfl, hp, ?_, by omega⟩
      exact (List.takeWhile_prefix q).eq_of_length (by omega)
/-- A token that may be, as it is written, is the first token of what begins so. -/
theorem fst_tk {t : Tk} (h : t.may = true) {r : List UInt8} (hr : After r) : fst (tkO t ++ r) = some (t, (tkO t).length) ∧ ∃ c l, tkO t = c :: l ∧ blankB c = false := by
  have key : fst (tkO t) = some (t, (tkO t).length) ∧ ∃ c l, tkO t = c :: l ∧ blankB c = false := by
    obtain ⟨k, s⟩ := t
    unfold Tk.may tmayB at h
    simp only at h
    unfold tkO
    simp only
    by_cases h3 : k = 3
    · subst h3
      rw [if_pos rfl] at h ⊢
      refine ⟨?_, 39, _, rfl, by decide⟩
      have := qscan_dbl s [] (by simp)
      simp only [fst, if_true]
      rw [this]
      simp only
      rw [if_pos h]
      simp
    · rw [if_neg h3] at h ⊢
      by_cases h1 : k = 1
      · rw [if_pos h1] at h
        obtain ⟨c, l, e, hp, hq, hm⟩ := kmay_form h
        have e : s = c :: l := by simpa using e
        subst e
        have hc39 : c ≠ 39 := fun e => by subst e; exact absurd hp (by decide)
        refine ⟨?_, c, l, rfl, ?_⟩
        · simp only [fst]
          rw [if_neg hc39, if_pos hp, hq, if_pos hm, h1, List.take_of_length_le (by simp; omega)]
          simp
          omega
        · cases hb : blankB c with
          | false => rfl
          | true => rcases blank_is hb with rfl | rfl <;> exact absurd hp (by decide)
      · rw [if_neg h1] at h
        by_cases h2 : k = 2
        · rw [if_pos h2] at h
          obtain ⟨c, l, e, hp, hq, hm⟩ := kmay_form h
          have e : s = c :: l := by simpa using e
          subst e
          have hc39 : c ≠ 39 := fun e => by subst e; exact absurd hp (by decide)
          have hlet : ¬ letB c = true := fun e => by rw [let_not e] at hp; cases hp
          refine ⟨?_, c, l, rfl, ?_⟩
          · simp only [fst]
            rw [if_neg hc39, if_neg hlet, if_pos hp, hq, if_pos hm, h2, List.take_of_length_le (by simp; omega)]
            simp
            omega
          · cases hb : blankB c with
            | false => rfl
            | true => rcases blank_is hb with rfl | rfl <;> exact absurd hp (by decide)
        · rw [if_neg h2] at h
          by_cases h4 : k = 4
          · rw [if_pos h4] at h
            obtain ⟨c, l, e, hp, hq, hm⟩ := kmay_form h
            have e : s = c :: l := by simpa using e
            have hl : l = [] := List.length_eq_zero_iff.1 (by omega)
            subst hl
            subst e
            have hc39 : c ≠ 39 := fun e => by subst e; exact absurd hp (by decide)
            obtain ⟨n1, n2⟩ := sig_not hp
            refine ⟨?_, c, [], rfl, ?_⟩
            · simp only [fst]
              rw [if_neg hc39, n1, n2, hp, h4]
              rfl
            · cases hb : blankB c with
              | false => rfl
              | true => rcases blank_is hb with rfl | rfl <;> exact absurd hp (by decide)
          · rw [if_neg h4] at h; cases h
  exact ⟨fst_app key.1 hr, key.2⟩
theorem skip_tk {t : Tk} (h : t.may = true) (r : List UInt8) : skip (tkO t ++ r) = tkO t ++ r := by
  obtain ⟨_, c, l, e, hb⟩ := fst_tk h (r := []) After.nil
  rw [e, List.cons_append]
  unfold skip
  rw [List.dropWhile_cons, hb]
  rfl
theorem cut_tk {t : Tk} (h : t.may = true) {r : List UInt8} (hr : After r) : cut (tkO t ++ r) = (cut r).map (t :: ·) := by
  rw [cut_more (l := tkO t ++ r) (by rw [skip_tk h]; exact (fst_tk h hr).1), skip_tk h, List.drop_left]
/-- What a text is cut into may be. -/
theorem fst_may {l : List UInt8} {t : Tk} {n : Nat} (h : fst l = some (t, n)) : t.may = true := by
  cases l with
  | nil => cases h
  | cons c r =>
    unfold fst at h
    simp only at h
    have hk : ∀ (p q : UInt8 → Bool) (m : Nat), p c = true → 1 + (r.takeWhile q).length ≤ m → kmay p q m ((c :: r).take (1 + (r.takeWhile q).length)) = true := by
      intro p q m hp hm
      have := kmay_take p q m (c :: r)
      rw [tog_on hp] at this
      rw [this, decide_eq_true hm]
      simp
    split at h
    · cases hq : qscan r with
      | none => rw [hq] at h; cases h
      | some y =>
        rw [hq] at h
        simp only at h
        split at h
        · rename_i hm
          simp only [Option.some.injEq, Prod.mk.injEq] at h
          rw [← h.1]
          exact hm
        · cases h
    · split at h
      · rename_i hp
        split at h
        · rename_i hm
          simp only [Option.some.injEq, Prod.mk.injEq] at h
          rw [← h.1]
          exact hk letB parB 16 hp hm
        · cases h
      · split at h
        · rename_i hp
          split at h
          · rename_i hm
            simp only [Option.some.injEq, Prod.mk.injEq] at h
            rw [← h.1]
            exact hk digB digB 19 hp hm
          · cases h
        · split at h
          · rename_i hp
            simp only [Option.some.injEq, Prod.mk.injEq] at h
            rw [← h.1]
            have := hk sigB nonB 1 hp (by rw [none_none]; simp)
            rw [none_none] at this
            exact this
          · cases h
theorem cut_may : ∀ (k : Nat) (s : List UInt8), s.length ≤ k → ∀ ts : List Tk, cut s = some ts → ∀ t ∈ ts, t.may = true
  | k, s, hk, ts, h => by
    cases hf : fst (skip s) with
    | none =>
      by_cases hn : skip s = []
      · rw [cut_end hn] at h
        obtain rfl := Option.some.inj h
        intro t ht; cases ht
      · rw [cut_none hf hn] at h; cases h
    | some y =>
      obtain ⟨t, n⟩ := y
      obtain ⟨p1, p2⟩ := fst_pos hf
      have hsk := skip_len s
      rw [cut_more hf] at h
      cases hr : cut ((skip s).drop n) with
      | none => rw [hr] at h; cases h
      | some a' =>
        rw [hr] at h
        obtain rfl := Option.some.inj h
        cases k with
        | zero => omega
        | succ k =>
          intro u hu
          rcases List.mem_cons.1 hu with rfl | hu
          · exact fst_may hf
          · exact cut_may k ((skip s).drop n) (by rw [List.length_drop]; omega) a' hr u hu
end Go.Proofs.YtlilnbcklplmfaaGreatDoor

/- Join: tokens as they are written. -/
namespace Go.Proofs.YtlilnbcklplmfaaGreatDoor
open Go.RowKit Go.Lib

theorem Toks.none (W : World) (B : Nat) : Toks W B none 0 [] := ⟨rfl, fun j hj => absurd hj (by simp)⟩
end Go.Proofs.YtlilnbcklplmfaaGreatDoor

/- Writing into a builder that the call has made: a string, an octet. -/
namespace Go.Proofs.YtlilnbcklplmfaaGreatDoor
open Go.RowKit Go.Lib

theorem infoByte : (Tryz.prog.info? 5).map (fun i => (i.zero, i.size, i.bytes)) = some (some (.int .u8 0), 1, 1) := by kernel_rfl
theorem byteCells_app (l r : List UInt8) : byteCells (l ++ r) = byteCells l ++ byteCells r := by simp [byteCells]


/-- A builder that holds these octets. -/
def Bld (W : World) (B b : Nat) (l : List UInt8) : Prop := Lib.IsBuilder 206 5 B b (byteCells l) W
theorem Bld.keep {W W' : World} {B b C : Nat} {l : List UInt8} (h : Bld W B b l) (hb : Below C W W') (hC : W.heap.size ≤ C) : Bld W' B b l := by
  have key : ∀ p, Lib.BuilderAt 206 5 B b p (byteCells l) W → Lib.BuilderAt 206 5 B b p (byteCells l) W' := by
    rintro p ⟨h1, v, h2, h3, h4⟩
    have hlt : b < W.heap.size := (Array.getElem?_eq_some_iff.1 h2).1
    refine ⟨h1, v, (hb.block b (by omega)).trans h2, h3.kept (row := none) ⟨hb.os, hb.tape, hb.output, hb.size, fun q hq _ => hb.block q (by omega)⟩ ?_, h4⟩
    cases h : Value.ownBlock v with
    | none => exact .inl rfl
    | some _ => exact .inr (by simp)
  exact Or.imp (key _) (key _) h
theorem Bld.written {W' : World} {B b : Nat} {l r : List UInt8} {p : Value} (h : Lib.BuilderAt 206 5 B b p (byteCells l ++ Lib.strCells ⟨r.toArray⟩) W') (hp : p = .pointer (some ⟨b, 0, none⟩)) : Bld W' B b (l ++ r) := by
  subst hp
  unfold Bld
  rw [byteCells_app]
  exact .inr h
theorem Bld.fresh {W : World} {B b : Nat} (hb : b = W.heap.size) (hB : B ≤ b) : Bld (W.alloc (.cells #[.pointer none, .slice none 0 0] 206)) B b [] := by
  subst hb
  exact .inl ⟨hB, _, heap_alloc_new W _, World.ownsRow_nil _ _ _ _, by simp [Value.ownBlock]⟩
end Go.Proofs.YtlilnbcklplmfaaGreatDoor

/- Contracts of the library that this program comes to, laid at its own numbers by the kit's own programs (lay-shelf.mjs, lay-plain.mjs). -/
namespace Go.Proofs
open Go.Shelf
end Go.Proofs

/- strings.ToLower at the two words that are wanted. -/
namespace Go.Proofs.YtlilnbcklplmfaaGreatDoor
open Go.RowKit Go.Lib

set_option maxRecDepth 100000 in
set_option maxHeartbeats 4000000 in
theorem lower_eq (w : World) : Calls Tryz.prog 292 #[.string ⟨#[61]⟩] w fun e w' => e = .returned (.string ⟨#[61]⟩) ∧ Below w.heap.size w w' := by
  go_enter Tryz.func292, Tryz.ntmps292
  go_wp2_with (fail)
  go_loopw [3, 4, 5] (fun a b v wr => ∃ j : Nat, j ≤ 1 ∧ v = .int .i64 j ∧ a = .bool true ∧ b = .bool false ∧ w = wr) (fun _ _ v _ => 1 - (intOf v).toNat)
  case atStart => exact ⟨0, by omega, rfl, rfl, rfl, rfl⟩
  case round =>
    obtain ⟨j, hj, rfl, rfl, rfl, rfl⟩ := hrel
    rcases (show j = 0 ∨ j = 1 by omega) with rfl | rfl
    · clear hj
      go_wp2_with (fail)
      go_roundw
      case rel => exact ⟨1, by omega, rfl, rfl, rfl, by first | rfl | trivial⟩
      case measure => simp [intOf]
    · clear hj
      go_wp2_with (fail)
      go_ret
      exact ⟨rfl, Below.refl _ _⟩

end Go.Proofs.YtlilnbcklplmfaaGreatDoor
