import Derived.Test.YtmgcmiflbjhakaaGreatDoorW10
import Derived.Defers
import Derived.Test.YtmgcmiflbjhakaaGreatDoorW06

/- The parser: the part that must follow; parts in a chain. -/
namespace Go.Proofs.YtmgcmiflbjhakaaGreatDoor
open Go.RowKit Go.Lib

theorem alloc_at {W : World} {n : Nat} (h : W.heap.size = n) (o : Obj) : (W.alloc o).heap[n]? = some o := by
  subst h
  show (W.heap.push o)[W.heap.size]? = _
  simp
set_option maxRecDepth 100000 in
set_option maxHeartbeats 1600000 in
theorem asked_d (g : Nat) (b : Nat) (ask : Nat) (hk : ask ≤ 100) (u : FrameMode) (w : World) (hb : w.cell? ⟨b, 0, none⟩ = some (.pointer (some ⟨g, 0, none⟩))) (h2 : w.cell? ⟨g, 2, none⟩ = some (.int .i64 ((ask : Int) + 1))) (hf : w.frozen? ⟨g, 2, none⟩ = false) :
    CallsD Tryz.prog 183 #[.pointer (some ⟨b, 0, none⟩)] u w fun e u' w' => u' = u ∧ (e = .returned (.tuple #[]) ∧ w' = w.setCell ⟨g, 2, none⟩ (.int .i64 ask)) := by
  go_enter_d Tryz.func183, Tryz.ntmps183
  go_wp2_with (fail)
  go_end0
  exact ⟨rfl, rfl⟩

set_option maxRecDepth 100000 in
set_option maxHeartbeats 4000000 in
theorem asked_sum {N : Nat} (g : Nat) (A : Option Addr) (c : Nat) (l : List Tn) (at' ask at2 : Nat) (failed failed' : Bool) (t : Ex) (w : World) (hz : Pz w g A c l at' ask failed) (hk : ask < 11)
    (hpart : ∀ W, Pz W g A c l at' (ask + 1) failed → Calls Tryz.prog 180 #[.pointer (some ⟨g, 0, none⟩)] W (Res W g A c l N (fun _ => False) t at2 (ask + 1) failed')) :
    Calls Tryz.prog 114 #[.pointer (some ⟨g, 0, none⟩), .func (.func 180) #[.pointer (some ⟨g, 0, none⟩)] #[]] w (Res w g A c l N (fun _ => False) t at2 ask failed') := by
  have HZ := Lib.hid hz
  have HK := Lib.hid hpart
  have hgl := hz.lt
  have d2 := hz.c2
  have df := hz.fz 2
  have hne : ¬ w.heap.size = g := by omega
  have hne1 : ¬ w.heap.size + 1 = g := by omega
  have hbq : ((ask : Int) + 1 == 12) = false := beq_eq_false_iff_ne.2 (by omega)
  have hmf : ∀ (fn : Fn) (first cap : Array Value) (w : World), (Instr.makeFunc fn first cap).run Tryz.prog w = .ok (.func fn first cap) w := fun _ _ _ _ => rfl
  clear hz hpart
  go_enter_defers Tryz.func114, Tryz.ntmps114
  go_wp2_with (go_at_call 180; refine (HK.out _ (((HZ.out.asks (ask + 1)).alloc _).alloc _)).mono ?_; rintro e w1 ⟨u1, rfl, ht1, hp1, hg1⟩; obtain ⟨B1, q1, rfl, _⟩ := ht1.form; unfold EVt; have hc1 := (gcell hg1).1; have hf1 := (gcell hg1).2; have hy1 := hg1.size; (try simp [World.setCell] at hy1); have hz1_0 : w.heap.size < w1.heap.size := (by omega); have hz1_1 : w.heap.size + 1 < w1.heap.size := (by omega); have HP1 := Lib.hid (And.intro ht1 (And.intro hp1 hg1)); clear ht1 hp1 hg1)
  have HG0 : Hid (w.grownBy w1 (some g)) := grow_trans (grow_trans (grow_trans (grow_set _ _ _ _) (grow_alloc _ _ _)) (grow_alloc _ _ _)) HP1.out.2.2
  have HT0 : Hid (Tr w1 (fun b => w.heap.size + 1 < b) N t (.slice B1 t.l.length q1)) := HP1.out.1.keep (fun _ _ _ => rfl) (fun b h _ => h.elim False.elim (fun h => by simp [World.setCell] at h; omega))
  have hpx : w1.cell? ⟨w.heap.size, 0, none⟩ = some (.pointer (some ⟨g, 0, none⟩)) := by
    rw [hc1 _ _ (by simp [World.setCell]; omega) hne]
    simp [go_sem]
  show bodyPostD _ _ _ _ _ (set6 w1 (w.heap.size + 1) _ _ _ _ _ _)
  refine leaves_cons (f := 183) (args := #[.pointer (some ⟨w.heap.size, 0, none⟩)]) (by simp) (by simp [go_sem]) ?_
  have HP2 := Lib.hid (HP1.out.2.1.set6 (b := w.heap.size + 1) (by omega) (.string t.op) (.int .i64 t.x.k) (.int .i64 t.x.i) (.string t.x.s) (.string t.s) (.slice B1 t.l.length q1))
  refine (asked_d g w.heap.size ask (by omega) .returning _ ?_ (HP2.out.c2) (HP2.out.fz 2)).mono ?_
  · exact (World.cell?_of_block (w := w1) (a := ⟨w.heap.size, 0, none⟩) (set6_block _ _ _ _ _ _ _ _ (by show w.heap.size ≠ _; omega))).trans hpx
  rintro e u' w'' ⟨rfl, rfl, rfl⟩
  refine ⟨.agg #[.string t.op, .int .i64 t.x.k, .int .i64 t.x.i, .string t.x.s, .string t.s, .slice B1 t.l.length q1], ?_, ?_⟩
  · unfold set6
    simp [results, Tryz.results114, go_sem, *]
  · exact ⟨_, rfl, (HT0.out.set6 (by omega) (fun b h _ => h) _ _ _ _ _ _).keep (fun b h _ => Below.heap_setCell _ _ _ _ (by show b ≠ g; omega)) (fun b h _ => .inr (by omega)), HP2.out.asks ask, grow_trans (grow_set6 HG0.out (by omega) _ _ _ _ _ _) (grow_set _ _ _ _)⟩

set_option maxRecDepth 100000 in
set_option maxHeartbeats 4000000 in
theorem asked_and {N : Nat} (g : Nat) (A : Option Addr) (c : Nat) (l : List Tn) (at' ask at2 : Nat) (failed failed' : Bool) (t : Ex) (w : World) (hz : Pz w g A c l at' ask failed) (hk : ask < 11)
    (hpart : ∀ W, Pz W g A c l at' (ask + 1) failed → Calls Tryz.prog 109 #[.pointer (some ⟨g, 0, none⟩)] W (Res W g A c l N (fun _ => False) t at2 (ask + 1) failed')) :
    Calls Tryz.prog 114 #[.pointer (some ⟨g, 0, none⟩), .func (.func 109) #[.pointer (some ⟨g, 0, none⟩)] #[]] w (Res w g A c l N (fun _ => False) t at2 ask failed') := by
  have HZ := Lib.hid hz
  have HK := Lib.hid hpart
  have hgl := hz.lt
  have d2 := hz.c2
  have df := hz.fz 2
  have hne : ¬ w.heap.size = g := by omega
  have hne1 : ¬ w.heap.size + 1 = g := by omega
  have hbq : ((ask : Int) + 1 == 12) = false := beq_eq_false_iff_ne.2 (by omega)
  have hmf : ∀ (fn : Fn) (first cap : Array Value) (w : World), (Instr.makeFunc fn first cap).run Tryz.prog w = .ok (.func fn first cap) w := fun _ _ _ _ => rfl
  clear hz hpart
  go_enter_defers Tryz.func114, Tryz.ntmps114
  go_wp2_with (go_at_call 109; refine (HK.out _ (((HZ.out.asks (ask + 1)).alloc _).alloc _)).mono ?_; rintro e w1 ⟨u1, rfl, ht1, hp1, hg1⟩; obtain ⟨B1, q1, rfl, _⟩ := ht1.form; unfold EVt; have hc1 := (gcell hg1).1; have hf1 := (gcell hg1).2; have hy1 := hg1.size; (try simp [World.setCell] at hy1); have hz1_0 : w.heap.size < w1.heap.size := (by omega); have hz1_1 : w.heap.size + 1 < w1.heap.size := (by omega); have HP1 := Lib.hid (And.intro ht1 (And.intro hp1 hg1)); clear ht1 hp1 hg1)
  have HG0 : Hid (w.grownBy w1 (some g)) := grow_trans (grow_trans (grow_trans (grow_set _ _ _ _) (grow_alloc _ _ _)) (grow_alloc _ _ _)) HP1.out.2.2
  have HT0 : Hid (Tr w1 (fun b => w.heap.size + 1 < b) N t (.slice B1 t.l.length q1)) := HP1.out.1.keep (fun _ _ _ => rfl) (fun b h _ => h.elim False.elim (fun h => by simp [World.setCell] at h; omega))
  have hpx : w1.cell? ⟨w.heap.size, 0, none⟩ = some (.pointer (some ⟨g, 0, none⟩)) := by
    rw [hc1 _ _ (by simp [World.setCell]; omega) hne]
    simp [go_sem]
  show bodyPostD _ _ _ _ _ (set6 w1 (w.heap.size + 1) _ _ _ _ _ _)
  refine leaves_cons (f := 183) (args := #[.pointer (some ⟨w.heap.size, 0, none⟩)]) (by simp) (by simp [go_sem]) ?_
  have HP2 := Lib.hid (HP1.out.2.1.set6 (b := w.heap.size + 1) (by omega) (.string t.op) (.int .i64 t.x.k) (.int .i64 t.x.i) (.string t.x.s) (.string t.s) (.slice B1 t.l.length q1))
  refine (asked_d g w.heap.size ask (by omega) .returning _ ?_ (HP2.out.c2) (HP2.out.fz 2)).mono ?_
  · exact (World.cell?_of_block (w := w1) (a := ⟨w.heap.size, 0, none⟩) (set6_block _ _ _ _ _ _ _ _ (by show w.heap.size ≠ _; omega))).trans hpx
  rintro e u' w'' ⟨rfl, rfl, rfl⟩
  refine ⟨.agg #[.string t.op, .int .i64 t.x.k, .int .i64 t.x.i, .string t.x.s, .string t.s, .slice B1 t.l.length q1], ?_, ?_⟩
  · unfold set6
    simp [results, Tryz.results114, go_sem, *]
  · exact ⟨_, rfl, (HT0.out.set6 (by omega) (fun b h _ => h) _ _ _ _ _ _).keep (fun b h _ => Below.heap_setCell _ _ _ _ (by show b ≠ g; omega)) (fun b h _ => .inr (by omega)), HP2.out.asks ask, grow_trans (grow_set6 HG0.out (by omega) _ _ _ _ _ _) (grow_set _ _ _ _)⟩

set_option maxRecDepth 100000 in
set_option maxHeartbeats 4000000 in
theorem asked_not {N : Nat} (g : Nat) (A : Option Addr) (c : Nat) (l : List Tn) (at' ask at2 : Nat) (failed failed' : Bool) (t : Ex) (w : World) (hz : Pz w g A c l at' ask failed) (hk : ask < 11)
    (hpart : ∀ W, Pz W g A c l at' (ask + 1) failed → Calls Tryz.prog 66 #[.pointer (some ⟨g, 0, none⟩)] W (Res W g A c l N (fun _ => False) t at2 (ask + 1) failed')) :
    Calls Tryz.prog 114 #[.pointer (some ⟨g, 0, none⟩), .func (.func 66) #[.pointer (some ⟨g, 0, none⟩)] #[]] w (Res w g A c l N (fun _ => False) t at2 ask failed') := by
  have HZ := Lib.hid hz
  have HK := Lib.hid hpart
  have hgl := hz.lt
  have d2 := hz.c2
  have df := hz.fz 2
  have hne : ¬ w.heap.size = g := by omega
  have hne1 : ¬ w.heap.size + 1 = g := by omega
  have hbq : ((ask : Int) + 1 == 12) = false := beq_eq_false_iff_ne.2 (by omega)
  have hmf : ∀ (fn : Fn) (first cap : Array Value) (w : World), (Instr.makeFunc fn first cap).run Tryz.prog w = .ok (.func fn first cap) w := fun _ _ _ _ => rfl
  clear hz hpart
  go_enter_defers Tryz.func114, Tryz.ntmps114
  go_wp2_with (go_at_call 66; refine (HK.out _ (((HZ.out.asks (ask + 1)).alloc _).alloc _)).mono ?_; rintro e w1 ⟨u1, rfl, ht1, hp1, hg1⟩; obtain ⟨B1, q1, rfl, _⟩ := ht1.form; unfold EVt; have hc1 := (gcell hg1).1; have hf1 := (gcell hg1).2; have hy1 := hg1.size; (try simp [World.setCell] at hy1); have hz1_0 : w.heap.size < w1.heap.size := (by omega); have hz1_1 : w.heap.size + 1 < w1.heap.size := (by omega); have HP1 := Lib.hid (And.intro ht1 (And.intro hp1 hg1)); clear ht1 hp1 hg1)
  have HG0 : Hid (w.grownBy w1 (some g)) := grow_trans (grow_trans (grow_trans (grow_set _ _ _ _) (grow_alloc _ _ _)) (grow_alloc _ _ _)) HP1.out.2.2
  have HT0 : Hid (Tr w1 (fun b => w.heap.size + 1 < b) N t (.slice B1 t.l.length q1)) := HP1.out.1.keep (fun _ _ _ => rfl) (fun b h _ => h.elim False.elim (fun h => by simp [World.setCell] at h; omega))
  have hpx : w1.cell? ⟨w.heap.size, 0, none⟩ = some (.pointer (some ⟨g, 0, none⟩)) := by
    rw [hc1 _ _ (by simp [World.setCell]; omega) hne]
    simp [go_sem]
  show bodyPostD _ _ _ _ _ (set6 w1 (w.heap.size + 1) _ _ _ _ _ _)
  refine leaves_cons (f := 183) (args := #[.pointer (some ⟨w.heap.size, 0, none⟩)]) (by simp) (by simp [go_sem]) ?_
  have HP2 := Lib.hid (HP1.out.2.1.set6 (b := w.heap.size + 1) (by omega) (.string t.op) (.int .i64 t.x.k) (.int .i64 t.x.i) (.string t.x.s) (.string t.s) (.slice B1 t.l.length q1))
  refine (asked_d g w.heap.size ask (by omega) .returning _ ?_ (HP2.out.c2) (HP2.out.fz 2)).mono ?_
  · exact (World.cell?_of_block (w := w1) (a := ⟨w.heap.size, 0, none⟩) (set6_block _ _ _ _ _ _ _ _ (by show w.heap.size ≠ _; omega))).trans hpx
  rintro e u' w'' ⟨rfl, rfl, rfl⟩
  refine ⟨.agg #[.string t.op, .int .i64 t.x.k, .int .i64 t.x.i, .string t.x.s, .string t.s, .slice B1 t.l.length q1], ?_, ?_⟩
  · unfold set6
    simp [results, Tryz.results114, go_sem, *]
  · exact ⟨_, rfl, (HT0.out.set6 (by omega) (fun b h _ => h) _ _ _ _ _ _).keep (fun b h _ => Below.heap_setCell _ _ _ _ (by show b ≠ g; omega)) (fun b h _ => .inr (by omega)), HP2.out.asks ask, grow_trans (grow_set6 HG0.out (by omega) _ _ _ _ _ _) (grow_set _ _ _ _)⟩

/-- The world of a chain at the head of its loop: its two boxes, the parser, what has been made. -/
structure Chn (w : World) (g : Nat) (A : Option Addr) (c : Nat) (l : List Tn) (N : Nat) (Q : Nat → Prop) (t : Ex) (u : Value) (at' ask : Nat) (failed : Bool) (b : Nat) (ws : List ByteArray) (W : World) : Prop where
  box : ExC W ⟨w.heap.size, 0, none⟩ t u
  bfz : ∀ o, W.frozen? ⟨w.heap.size, o, none⟩ = false
  res : ExC W ⟨w.heap.size + 1, 0, none⟩ zT (.slice none 0 0)
  rfz : ∀ o, W.frozen? ⟨w.heap.size + 1, o, none⟩ = false
  tr : Tr W (fun x => (Q x ∧ x < w.heap.size) ∨ w.heap.size + 1 < x) N t u
  pz : Pz W g A c l at' ask failed
  gr : w.grownBy W (some g)
  wd : Wds W b ws
  lt : w.heap.size + 1 < W.heap.size
theorem Chn.later {N : Nat} {w W W' : World} {g : Nat} {A : Option Addr} {c : Nat} {l : List Tn} {Q : Nat → Prop} {t : Ex} {u : Value} {at' ask : Nat} {failed : Bool} {b : Nat} {ws : List ByteArray} (h : Chn w g A c l N Q t u at' ask failed b ws W) (hb : Below W.heap.size W W') : Chn w g A c l N Q t u at' ask failed b ws W' :=
  ⟨h.box.keep (hb.block _ h.box.lt), fun o => (hb.frozen (p := ⟨_, o, none⟩) h.box.lt).trans (h.bfz o), h.res.keep (hb.block _ h.res.lt), fun o => (hb.frozen (p := ⟨_, o, none⟩) h.res.lt).trans (h.rfz o), h.tr.below hb, h.pz.below hb, grow_trans h.gr (grow_below hb _), h.wd.below hb, Nat.lt_of_lt_of_le h.lt hb.size⟩
/-- Behind what may have written the parser alone. -/
theorem Chn.grown {N : Nat} {w W W' : World} {g : Nat} {A : Option Addr} {c : Nat} {l : List Tn} {Q : Nat → Prop} {t : Ex} {u : Value} {at' ask at2 : Nat} {failed failed2 : Bool} {b : Nat} {ws : List ByteArray} (h : Chn w g A c l N Q t u at' ask failed b ws W) (hg : W.grownBy W' (some g)) (hp : Pz W' g A c l at2 ask failed2) (hgw : g < w.heap.size) (hQ : ∀ x, Q x → g < x) (hbg : b ≠ g) : Chn w g A c l N Q t u at2 ask failed2 b ws W' := by
  have n0 : some w.heap.size ≠ some g := fun e => by injection e with e; omega
  have n1 : some (w.heap.size + 1) ≠ some g := fun e => by injection e with e; omega
  exact ⟨h.box.keep (hg.block _ h.box.lt n0), fun o => (World.frozen?_of_block (w := W) (a := ⟨w.heap.size, o, none⟩) (hg.block _ h.box.lt n0)).trans (h.bfz o), h.res.keep (hg.block _ h.res.lt n1), fun o => (World.frozen?_of_block (w := W) (a := ⟨w.heap.size + 1, o, none⟩) (hg.block _ h.res.lt n1)).trans (h.rfz o),
    h.tr.grown hg (fun hx => by rcases hx with ⟨hx, _⟩ | hx; exact absurd (hQ _ hx) (by omega); omega), hp, grow_trans h.gr hg, fun j hj => (World.cell?_of_block (w := W) (a := ⟨b, j, none⟩) (hg.block _ (World.block_lt_of_cell? W _ (h.wd j hj)) (fun e => hbg (by injection e)))).trans (h.wd j hj), Nat.lt_of_lt_of_le h.lt hg.size⟩
theorem Chn.start {N : Nat} {w : World} {g : Nat} {A : Option Addr} {c : Nat} {l : List Tn} {Q : Nat → Prop} {t : Ex} {B : Option Addr} {p q : Nat} {at' ask : Nat} {failed : Bool} {b : Nat} {ws : List ByteArray} (hz : Pz w g A c l at' ask failed) (ht : Tr w Q N t (.slice B p q)) (hw : Wds w b ws) :
    Chn w g A c l N Q t (.slice B p q) at' ask failed b ws ((w.alloc (.cells #[.string t.op, .int .i64 t.x.k, .int .i64 t.x.i, .string t.x.s, .string t.s, .slice B p q] 26)).alloc (.cells #[.string ⟨#[]⟩, .int .i64 0, .int .i64 0, .string ⟨#[]⟩, .string ⟨#[]⟩, .slice none 0 0] 26)) := by
  have hb : Below w.heap.size w ((w.alloc (.cells #[.string t.op, .int .i64 t.x.k, .int .i64 t.x.i, .string t.x.s, .string t.s, .slice B p q] 26)).alloc (.cells #[.string ⟨#[]⟩, .int .i64 0, .int .i64 0, .string ⟨#[]⟩, .string ⟨#[]⟩, .slice none 0 0] 26)) := ((Below.refl _ _).alloc (Nat.le_refl _) _).alloc (by simp) _
  refine ⟨?_, fun o => ?_, ?_, fun o => ?_, ?_, hz.below hb, grow_below hb _, hw.below hb, by simp⟩
  · exact box_cells ((Below.heap_alloc _ _ _ (by simp)).trans (alloc_at rfl _))
  · exact Lib.frozen_of_heap ((Below.heap_alloc _ _ _ (by simp)).trans (alloc_at rfl _)) o
  · exact box_cells (t := zT) (alloc_at (by simp) _)
  · exact Lib.frozen_of_heap (alloc_at (by simp) _) o
  · exact (ht.bound.below hb).keep (fun _ _ _ => rfl) fun _ h _ => .inl h

set_option maxRecDepth 100000 in
set_option maxHeartbeats 4000000 in
theorem chain_none {N : Nat} (g : Nat) (A : Option Addr) (c : Nat) (l : List Tn) (at' ask : Nat) (failed : Bool) (K b cap : Nat) (ws : List ByteArray) (tn : Tn) (Q : Nat → Prop) (t : Ex) (u : Value) (w : World) (hz : Pz w g A c l at' ask failed) (hl : l.length ≤ 100000) (hx : Nx l at' failed tn) (hw : Wds w b ws) (hn : ws.length ≤ 1000) (hno : ∀ x ∈ ws, isB tn x = false) (ht : Tr w Q N t u) :
    Calls Tryz.prog 107 #[.pointer (some ⟨g, 0, none⟩), EVt t u, .func (.func K) #[.pointer (some ⟨g, 0, none⟩)] #[], .slice (some ⟨b, 0, none⟩) ws.length cap] w (Res w g A c l N Q t at' ask failed) := by
  obtain ⟨B, q, rfl, hn2⟩ := ht.form
  obtain ⟨p, HN⟩ : ∃ p, Hid (t.l.length = p) := ⟨_, Lib.hid rfl⟩
  have hgl := hz.lt
  have HC := Lib.hid (Chn.start (p := t.l.length) (B := B) (q := q) hz ht hw)
  have HX := Lib.hid (And.intro hx hno)
  unfold EVt
  rw [HN.out] at hn2 HC ⊢
  clear hz hx hw hno ht
  go_enter Tryz.func107, Tryz.ntmps107
  go_wp2_with (go_at_call 110; refine (take_no g A c l at' ask failed b cap ws tn _ HC.out.pz hl HX.out.1 HC.out.wd hn HX.out.2).mono ?_; rintro e w1 ⟨rfl, hb1⟩; have HD := Lib.hid (HC.out.later hb1); clear hb1)
  go_loopw [9] (fun v wr => v = .string ⟨#[]⟩ ∧ w1 = wr) (fun _ _ => 0)
  case atStart => exact ⟨rfl, rfl⟩
  case round =>
    obtain ⟨rfl, rfl⟩ := hrel
    have k0 := HD.out.box.c0
    have k1 := HD.out.box.c1
    have k2 := HD.out.box.c2
    have k3 := HD.out.box.c3
    have k4 := HD.out.box.c4
    have k5 := HD.out.box.c5
    have r0 := HD.out.res.c0
    have r1 := HD.out.res.c1
    have r2 := HD.out.res.c2
    have r3 := HD.out.res.c3
    have r4 := HD.out.res.c4
    have r5 := HD.out.res.c5
    have rf := HD.out.rfz
    have hz1 := HD.out.lt
    simp only [Nat.zero_add] at k0 k1 k2 k3 k4 k5 r0 r1 r2 r3 r4 r5
    go_wp2_with (fail)
    refine bodyPost_ret (v := .agg #[.string t.op, .int .i64 t.x.k, .int .i64 t.x.i, .string t.x.s, .string t.s, .slice B p q]) (by simp [results, Tryz.results107, go_sem, *]) rfl ?_
    have hR := Res.store (Q := Q) HD.out.tr HD.out.pz HD.out.gr (b := w.heap.size + 1) (by omega) hgl (fun h => by rcases h with ⟨_, h⟩ | h <;> omega) (fun x h _ => by rcases h with ⟨h, _⟩ | h; exact .inl h; exact .inr (by omega)) (.string t.op) (.int .i64 t.x.k) (.int .i64 t.x.i) (.string t.x.s) (.string t.s) (.slice B p q)
    unfold EVt at hR
    exact hR
end Go.Proofs.YtmgcmiflbjhakaaGreatDoor

/- The parser: where nothing goes on. -/
namespace Go.Proofs.YtmgcmiflbjhakaaGreatDoor
open Go.RowKit Go.Lib

theorem wds1 (W : World) {n : Nat} (h : W.heap.size = n) (x : ByteArray) : Wds (W.alloc (.cells #[.string x] 9)) n [x] := fun j hj => by
  have hj : j < 1 := hj
  obtain rfl : j = 0 := by omega
  rw [Lib.cell_of_heap (alloc_at h _)]; rfl
theorem wds2 (W : World) {n : Nat} (h : W.heap.size = n) (x y : ByteArray) : Wds (W.alloc (.cells #[.string x, .string y] 9)) n [x, y] := fun j hj => by
  have hj : j < 2 := hj
  rcases (show j = 0 ∨ j = 1 by omega) with rfl | rfl <;> (rw [Lib.cell_of_heap (alloc_at h _)]; rfl)
theorem wds3 (W : World) {n : Nat} (h : W.heap.size = n) (x y z : ByteArray) : Wds (W.alloc (.cells #[.string x, .string y, .string z] 9)) n [x, y, z] := fun j hj => by
  have hj : j < 3 := hj
  rcases (show j = 0 ∨ j = 1 ∨ j = 2 by omega) with rfl | rfl | rfl <;> (rw [Lib.cell_of_heap (alloc_at h _)]; rfl)
theorem all1 {p : ByteArray → Prop} {x : ByteArray} (h : p x) : ∀ y ∈ [x], p y := fun y hy => by simp at hy; subst hy; exact h
theorem all2 {p : ByteArray → Prop} {x y : ByteArray} (h : p x) (k : p y) : ∀ z ∈ [x, y], p z := fun z hz => by simp at hz; rcases hz with rfl | rfl; exact h; exact k
theorem all3 {p : ByteArray → Prop} {x y z : ByteArray} (h : p x) (k : p y) (m : p z) : ∀ v ∈ [x, y, z], p v := fun v hv => by simp at hv; rcases hv with rfl | rfl | rfl; exact h; exact k; exact m

set_option maxRecDepth 100000 in
set_option maxHeartbeats 4000000 in
theorem sumFrom_n {N : Nat} (g : Nat) (A : Option Addr) (c : Nat) (l : List Tn) (at' ask : Nat) (failed : Bool) (tn : Tn) (Q : Nat → Prop) (t : Ex) (u : Value) (w : World) (hz : Pz w g A c l at' ask failed) (hl : l.length ≤ 100000) (hx : Nx l at' failed tn) (ht : Tr w Q N t u) (n0 : isB tn ⟨#[43]⟩ = false) (n1 : isB tn ⟨#[45]⟩ = false) :
    Calls Tryz.prog 178 #[.pointer (some ⟨g, 0, none⟩), EVt t u] w (Res w g A c l N Q t at' ask failed) := by
  obtain ⟨B, q, rfl, hn2⟩ := ht.form
  have hgl := hz.lt
  have hb0 : Below w.heap.size w ((w.alloc (.cells #[.string t.op, .int .i64 t.x.k, .int .i64 t.x.i, .string t.x.s, .string t.s, .slice B t.l.length q] 26)).alloc (.cells #[.string ⟨#[]⟩, .int .i64 0, .int .i64 0, .string ⟨#[]⟩, .string ⟨#[]⟩, .slice none 0 0] 26)) := ((Below.refl _ _).alloc (Nat.le_refl _) _).alloc (by simp) _
  have H0 := Lib.hid (And.intro (hz.below hb0) ((ht.bound.below hb0).keep (Q := (fun b => (Q b ∧ b < w.heap.size) ∨ w.heap.size + 1 < b)) (fun _ _ _ => rfl) (fun b h _ => .inl h)))
  have HX := Lib.hid (And.intro hx (And.intro (And.intro n0 (And.intro n1 trivial)) trivial))
  have HG0 := Lib.hid (grow_below hb0 (some g))
  obtain ⟨p, HN⟩ : ∃ p, Hid (t.l.length = p) := ⟨_, Lib.hid rfl⟩
  unfold EVt
  rw [HN.out] at hn2 H0 HG0 ⊢
  clear hz hx ht hb0 n0 n1
  have hne0 : ¬ w.heap.size = g := by omega
  have hne1 : ¬ w.heap.size + 1 = g := by omega
  have hmf : ∀ (fn : Fn) (first cap : Array Value) (w : World), (Instr.makeFunc fn first cap).run Tryz.prog w = .ok (.func fn first cap) w := fun _ _ _ _ => rfl
  go_enter Tryz.func178, Tryz.ntmps178
  go_wp2_with (go_at_call 107; refine (chain_none g A c l at' ask failed 112 _ 2 [⟨#[43]⟩, ⟨#[45]⟩] tn (fun b => (Q b ∧ b < w.heap.size) ∨ w.heap.size + 1 < b) t (.slice B p q) _ (H0.out.1.alloc _) hl HX.out.1 (wds2 _ (by simp) ⟨#[43]⟩ ⟨#[45]⟩) (by simp) (all2 HX.out.2.1.1 HX.out.2.1.2.1) (H0.out.2.below ((Below.refl _ _).alloc (Nat.le_refl _) _))).mono ?_; rintro e w1 ⟨u1, rfl, ht1, hp1, hg1⟩; obtain ⟨B1, q1, rfl, _⟩ := ht1.form; unfold EVt; have hc1 := (gcell hg1).1; have hf1 := (gcell hg1).2; have hy1 := hg1.size; (try simp at hy1); have hz1_0 : w.heap.size < w1.heap.size := (by omega); have hz1_1 : w.heap.size + 1 < w1.heap.size := (by omega); have HP1 := Lib.hid (And.intro ht1 (And.intro hp1 hg1)); clear ht1 hp1 hg1)
  refine bodyPost_ret (v := .agg #[.string t.op, .int .i64 t.x.k, .int .i64 t.x.i, .string t.x.s, .string t.s, .slice B1 t.l.length q1]) (by simp [results, Tryz.results178, go_sem, *]) rfl ?_
  exact Res.store (Q := Q) (R := (fun b => (Q b ∧ b < w.heap.size) ∨ w.heap.size + 1 < b)) (HP1.out.1.keep (fun _ _ _ => rfl) (fun b h _ => h.elim id (fun h => .inr (by simp at h; omega)))) HP1.out.2.1 (grow_trans (grow_trans HG0.out (grow_alloc _ _ _)) HP1.out.2.2) (b := w.heap.size + 1) (by omega) hgl (fun h => by rcases h with ⟨_, h⟩ | h <;> omega) (fun x h _ => by rcases h with ⟨h, _⟩ | h; exact .inl h; exact .inr (by omega)) _ _ _ _ _ _

set_option maxRecDepth 100000 in
set_option maxHeartbeats 4000000 in
theorem andFrom_n {N : Nat} (g : Nat) (A : Option Addr) (c : Nat) (l : List Tn) (at' ask : Nat) (failed : Bool) (tn : Tn) (Q : Nat → Prop) (t : Ex) (u : Value) (w : World) (hz : Pz w g A c l at' ask failed) (hl : l.length ≤ 100000) (hx : Nx l at' failed tn) (ht : Tr w Q N t u) (n0 : isB tn ⟨#[65, 78, 68]⟩ = false) :
    Calls Tryz.prog 108 #[.pointer (some ⟨g, 0, none⟩), EVt t u] w (Res w g A c l N Q t at' ask failed) := by
  obtain ⟨B, q, rfl, hn2⟩ := ht.form
  have hgl := hz.lt
  have hb0 : Below w.heap.size w ((w.alloc (.cells #[.string t.op, .int .i64 t.x.k, .int .i64 t.x.i, .string t.x.s, .string t.s, .slice B t.l.length q] 26)).alloc (.cells #[.string ⟨#[]⟩, .int .i64 0, .int .i64 0, .string ⟨#[]⟩, .string ⟨#[]⟩, .slice none 0 0] 26)) := ((Below.refl _ _).alloc (Nat.le_refl _) _).alloc (by simp) _
  have H0 := Lib.hid (And.intro (hz.below hb0) ((ht.bound.below hb0).keep (Q := (fun b => (Q b ∧ b < w.heap.size) ∨ w.heap.size + 1 < b)) (fun _ _ _ => rfl) (fun b h _ => .inl h)))
  have HX := Lib.hid (And.intro hx (And.intro (And.intro n0 trivial) trivial))
  have HG0 := Lib.hid (grow_below hb0 (some g))
  obtain ⟨p, HN⟩ : ∃ p, Hid (t.l.length = p) := ⟨_, Lib.hid rfl⟩
  unfold EVt
  rw [HN.out] at hn2 H0 HG0 ⊢
  clear hz hx ht hb0 n0
  have hne0 : ¬ w.heap.size = g := by omega
  have hne1 : ¬ w.heap.size + 1 = g := by omega
  have hmf : ∀ (fn : Fn) (first cap : Array Value) (w : World), (Instr.makeFunc fn first cap).run Tryz.prog w = .ok (.func fn first cap) w := fun _ _ _ _ => rfl
  go_enter Tryz.func108, Tryz.ntmps108
  go_wp2_with (go_at_call 107; refine (chain_none g A c l at' ask failed 66 _ 1 [⟨#[65, 78, 68]⟩] tn (fun b => (Q b ∧ b < w.heap.size) ∨ w.heap.size + 1 < b) t (.slice B p q) _ (H0.out.1.alloc _) hl HX.out.1 (wds1 _ (by simp) ⟨#[65, 78, 68]⟩) (by simp) (all1 HX.out.2.1.1) (H0.out.2.below ((Below.refl _ _).alloc (Nat.le_refl _) _))).mono ?_; rintro e w1 ⟨u1, rfl, ht1, hp1, hg1⟩; obtain ⟨B1, q1, rfl, _⟩ := ht1.form; unfold EVt; have hc1 := (gcell hg1).1; have hf1 := (gcell hg1).2; have hy1 := hg1.size; (try simp at hy1); have hz1_0 : w.heap.size < w1.heap.size := (by omega); have hz1_1 : w.heap.size + 1 < w1.heap.size := (by omega); have HP1 := Lib.hid (And.intro ht1 (And.intro hp1 hg1)); clear ht1 hp1 hg1)
  refine bodyPost_ret (v := .agg #[.string t.op, .int .i64 t.x.k, .int .i64 t.x.i, .string t.x.s, .string t.s, .slice B1 t.l.length q1]) (by simp [results, Tryz.results108, go_sem, *]) rfl ?_
  exact Res.store (Q := Q) (R := (fun b => (Q b ∧ b < w.heap.size) ∨ w.heap.size + 1 < b)) (HP1.out.1.keep (fun _ _ _ => rfl) (fun b h _ => h.elim id (fun h => .inr (by simp at h; omega)))) HP1.out.2.1 (grow_trans (grow_trans HG0.out (grow_alloc _ _ _)) HP1.out.2.2) (b := w.heap.size + 1) (by omega) hgl (fun h => by rcases h with ⟨_, h⟩ | h <;> omega) (fun x h _ => by rcases h with ⟨h, _⟩ | h; exact .inl h; exact .inr (by omega)) _ _ _ _ _ _

set_option maxRecDepth 100000 in
set_option maxHeartbeats 4000000 in
theorem orFrom_n {N : Nat} (g : Nat) (A : Option Addr) (c : Nat) (l : List Tn) (at' ask : Nat) (failed : Bool) (tn : Tn) (Q : Nat → Prop) (t : Ex) (u : Value) (w : World) (hz : Pz w g A c l at' ask failed) (hl : l.length ≤ 100000) (hx : Nx l at' failed tn) (ht : Tr w Q N t u) (n0 : isB tn ⟨#[65, 78, 68]⟩ = false) (n1 : isB tn ⟨#[79, 82]⟩ = false) :
    Calls Tryz.prog 65 #[.pointer (some ⟨g, 0, none⟩), EVt t u] w (Res w g A c l N Q t at' ask failed) := by
  obtain ⟨B, q, rfl, hn2⟩ := ht.form
  have hgl := hz.lt
  have hb0 : Below w.heap.size w ((w.alloc (.cells #[.string t.op, .int .i64 t.x.k, .int .i64 t.x.i, .string t.x.s, .string t.s, .slice B t.l.length q] 26)).alloc (.cells #[.string ⟨#[]⟩, .int .i64 0, .int .i64 0, .string ⟨#[]⟩, .string ⟨#[]⟩, .slice none 0 0] 26)) := ((Below.refl _ _).alloc (Nat.le_refl _) _).alloc (by simp) _
  have H0 := Lib.hid (And.intro (hz.below hb0) ((ht.bound.below hb0).keep (Q := (fun b => (Q b ∧ b < w.heap.size) ∨ w.heap.size + 1 < b)) (fun _ _ _ => rfl) (fun b h _ => .inl h)))
  have HX := Lib.hid (And.intro hx (And.intro (And.intro n0 (And.intro n1 trivial)) trivial))
  have HG0 := Lib.hid (grow_below hb0 (some g))
  obtain ⟨p, HN⟩ : ∃ p, Hid (t.l.length = p) := ⟨_, Lib.hid rfl⟩
  unfold EVt
  rw [HN.out] at hn2 H0 HG0 ⊢
  clear hz hx ht hb0 n0 n1
  have hne0 : ¬ w.heap.size = g := by omega
  have hne1 : ¬ w.heap.size + 1 = g := by omega
  have hmf : ∀ (fn : Fn) (first cap : Array Value) (w : World), (Instr.makeFunc fn first cap).run Tryz.prog w = .ok (.func fn first cap) w := fun _ _ _ _ => rfl
  go_enter Tryz.func65, Tryz.ntmps65
  go_wp2_with (first
    | (go_at_call 108; go_loud (refine (andFrom_n g A c l at' ask failed tn (fun b => (Q b ∧ b < w.heap.size) ∨ w.heap.size + 1 < b) t (.slice B p q) _ H0.out.1 hl HX.out.1 H0.out.2 HX.out.2.1.1).mono ?_; rintro e w1 ⟨u1, rfl, ht1, hp1, hg1⟩; obtain ⟨B1, q1, rfl, _⟩ := ht1.form; unfold EVt; have hc1 := (gcell hg1).1; have hf1 := (gcell hg1).2; have hy1 := hg1.size; (try simp at hy1); have hz1_0 : w.heap.size < w1.heap.size := (by omega); have hz1_1 : w.heap.size + 1 < w1.heap.size := (by omega); have HP1 := Lib.hid (And.intro ht1 (And.intro hp1 hg1)); clear ht1 hp1 hg1; have HT1 : Hid (Tr w1 (fun b => (Q b ∧ b < w.heap.size) ∨ w.heap.size + 1 < b) N t (.slice B1 t.l.length q1)) := HP1.out.1.keep (fun _ _ _ => rfl) (fun b h _ => h.elim id (fun h => .inr (by simp at h; omega)))))
    | (go_at_call 107; go_loud (refine (chain_none g A c l at' ask failed 109 _ 1 [⟨#[79, 82]⟩] tn (fun b => (Q b ∧ b < w.heap.size) ∨ w.heap.size + 1 < b) t (.slice B1 t.l.length q1) _ (HP1.out.2.1.alloc _) hl HX.out.1 (wds1 _ (by simp) ⟨#[79, 82]⟩) (by simp) (all1 HX.out.2.1.2.1) (HT1.out.below ((Below.refl _ _).alloc (Nat.le_refl _) _))).mono ?_; rintro e w2 ⟨u2, rfl, ht2, hp2, hg2⟩; obtain ⟨B2, q2, rfl, _⟩ := ht2.form; unfold EVt; have hc2 := (gcell hg2).1; have hf2 := (gcell hg2).2; have hy2 := hg2.size; (try simp at hy2); have hz2_0 : w.heap.size < w2.heap.size := (by omega); have hz2_1 : w.heap.size + 1 < w2.heap.size := (by omega); have HP2 := Lib.hid (And.intro ht2 (And.intro hp2 hg2)); clear ht2 hp2 hg2)))
  refine bodyPost_ret (v := .agg #[.string t.op, .int .i64 t.x.k, .int .i64 t.x.i, .string t.x.s, .string t.s, .slice B2 t.l.length q2]) (by simp [results, Tryz.results65, go_sem, *]) rfl ?_
  exact Res.store (Q := Q) (R := (fun b => (Q b ∧ b < w.heap.size) ∨ w.heap.size + 1 < b)) (HP2.out.1.keep (fun _ _ _ => rfl) (fun b h _ => h.elim id (fun h => .inr (by simp at h; omega)))) HP2.out.2.1 (grow_trans (grow_trans (grow_trans HG0.out HP1.out.2.2) (grow_alloc _ _ _)) HP2.out.2.2) (b := w.heap.size + 1) (by omega) hgl (fun h => by rcases h with ⟨_, h⟩ | h <;> omega) (fun x h _ => by rcases h with ⟨h, _⟩ | h; exact .inl h; exact .inr (by omega)) _ _ _ _ _ _

theorem set6_box {W : World} {b : Nat} {t t2 : Ex} {u : Value} (h : ExC W ⟨b, 0, none⟩ t u) (u2 : Value) : ExC (set6 W b (.string t2.op) (.int .i64 t2.x.k) (.int .i64 t2.x.i) (.string t2.x.s) (.string t2.s) u2) ⟨b, 0, none⟩ t2 u2 := by
  have k0 := h.c0
  have k1 := h.c1
  have k2 := h.c2
  have k3 := h.c3
  have k4 := h.c4
  have k5 := h.c5
  have hl := h.lt
  simp only [Nat.zero_add] at k0 k1 k2 k3 k4 k5
  unfold set6
  refine ⟨?_, ?_, ?_, ?_, ?_, ?_⟩ <;> simp [go_sem, *]
theorem set6_frozen (W : World) (b : Nat) (x y z u v r : Value) (q o : Nat) : (set6 W b x y z u v r).frozen? ⟨q, o, none⟩ = W.frozen? ⟨q, o, none⟩ := by
  unfold set6
  simp [go_sem]
theorem Chn.put {N N2 : Nat} {w W W1 : World} {g : Nat} {A : Option Addr} {c : Nat} {l : List Tn} {Q : Nat → Prop} {t t2 : Ex} {u u2 : Value} {at' ask at2 : Nat} {failed failed2 : Bool} {b : Nat} {ws : List ByteArray} (h : Chn w g A c l N Q t u at' ask failed b ws W) (hT : Tr W1 (fun x => (fun b => (Q b ∧ b < w.heap.size) ∨ w.heap.size + 1 < b) x ∨ W.heap.size ≤ x) N2 t2 u2) (hP : Pz W1 g A c l at2 ask failed2) (hG : W.grownBy W1 (some g)) (hgw : g < w.heap.size) (hbg : b ≠ g) (hbw : b < w.heap.size ∨ ws = []) :
    Chn w g A c l N2 Q t2 u2 at2 ask failed2 b ws (set6 W1 w.heap.size (.string t2.op) (.int .i64 t2.x.k) (.int .i64 t2.x.i) (.string t2.x.s) (.string t2.s) u2) := by
  have n0 : some w.heap.size ≠ some g := fun e => by injection e with e; omega
  have n1 : some (w.heap.size + 1) ≠ some g := fun e => by injection e with e; omega
  have hl := h.lt
  have hs := hG.size
  have hr := h.res.keep (hG.block _ h.res.lt n1)
  refine ⟨set6_box (h.box.keep (hG.block _ h.box.lt n0)) u2, fun o => ?_, hr.keep (set6_block _ _ _ _ _ _ _ _ (by show w.heap.size + 1 ≠ _; omega)), fun o => ?_, (hT.keep (fun _ _ _ => rfl) (fun b h _ => h.elim id (fun h => .inr (by omega)))).set6 (fun h => by rcases h with ⟨_, h⟩ | h <;> omega) (fun _ h _ => h) _ _ _ _ _ _, hP.set6 hgw _ _ _ _ _ _, grow_set6 (grow_trans h.gr hG) (Nat.le_refl _) _ _ _ _ _ _, fun j hj => ?_, by rw [set6_size]; omega⟩
  · rw [set6_frozen]
    exact (World.frozen?_of_block (w := W) (a := ⟨w.heap.size, o, none⟩) (hG.block _ h.box.lt n0)).trans (h.bfz o)
  · rw [set6_frozen]
    exact (World.frozen?_of_block (w := W) (a := ⟨w.heap.size + 1, o, none⟩) (hG.block _ h.res.lt n1)).trans (h.rfz o)
  · rcases hbw with hbw | rfl
    · refine (World.cell?_of_block (w := W1) (a := ⟨b, j, none⟩) (set6_block _ _ _ _ _ _ _ _ (by show b ≠ _; omega))).trans ?_
      exact (World.cell?_of_block (w := W) (a := ⟨b, j, none⟩) (hG.block _ (World.block_lt_of_cell? W _ (h.wd j hj)) (fun e => hbg (by injection e)))).trans (h.wd j hj)
    · exact absurd hj (by simp)
theorem Chn.form {N : Nat} {w W : World} {g : Nat} {A : Option Addr} {c : Nat} {l : List Tn} {Q : Nat → Prop} {t : Ex} {u : Value} {at' ask : Nat} {failed : Bool} {b : Nat} {ws : List ByteArray} (h : Chn w g A c l N Q t u at' ask failed b ws W) (hgw : g < w.heap.size) (t' : Ex) (u' : Value) (hT : Tr W (fun b => (Q b ∧ b < w.heap.size) ∨ w.heap.size + 1 < b) N t' u') :
    Res w g A c l N Q t' at' ask failed (.returned (EVt t' u')) (set6 W (w.heap.size + 1) (.string t'.op) (.int .i64 t'.x.k) (.int .i64 t'.x.i) (.string t'.x.s) (.string t'.s) u') :=
  Res.store (Q := Q) hT h.pz h.gr (by omega) hgw (fun h => by rcases h with ⟨_, h⟩ | h <;> omega) (fun x h _ => by rcases h with ⟨h, _⟩ | h; exact .inl h; exact .inr (by omega)) _ _ _ _ _ _
end Go.Proofs.YtmgcmiflbjhakaaGreatDoor

/- The parser: a comparison. -/
namespace Go.Proofs.YtmgcmiflbjhakaaGreatDoor
open Go.RowKit Go.Lib

set_option maxRecDepth 100000 in
set_option maxHeartbeats 4000000 in
theorem cmpFrom_n {N : Nat} (g : Nat) (A : Option Addr) (c : Nat) (l : List Tn) (at' ask : Nat) (failed : Bool) (tn : Tn) (Q : Nat → Prop) (t : Ex) (u : Value) (w : World) (hz : Pz w g A c l at' ask failed) (hl : l.length ≤ 100000) (hx : Nx l at' failed tn) (ht : Tr w Q N t u) (n0 : isB tn ⟨#[43]⟩ = false) (n1 : isB tn ⟨#[45]⟩ = false) (n2 : isB tn ⟨#[61]⟩ = false) (n3 : isB tn ⟨#[60]⟩ = false) (n4 : isB tn ⟨#[73, 83]⟩ = false) :
    Calls Tryz.prog 111 #[.pointer (some ⟨g, 0, none⟩), EVt t u] w (Res w g A c l N Q t at' ask failed) := by
  obtain ⟨B, q, rfl, hn2⟩ := ht.form
  have hgl := hz.lt
  have H0 : Hid (Chn w g A c l N Q t (.slice B t.l.length q) at' ask failed (w.heap.size + 1) [] ((w.alloc (.cells #[.string t.op, .int .i64 t.x.k, .int .i64 t.x.i, .string t.x.s, .string t.s, .slice B t.l.length q] 26)).alloc (.cells #[.string ⟨#[]⟩, .int .i64 0, .int .i64 0, .string ⟨#[]⟩, .string ⟨#[]⟩, .slice none 0 0] 26))) := Chn.start hz ht (fun j hj => absurd hj (by simp))
  have HX := Lib.hid (And.intro hx (And.intro n0 (And.intro n1 (And.intro n2 (And.intro n3 n4)))))
  unfold EVt
  clear hz hx ht
  clear n0 n1 n2 n3 n4
  have hne0 : ¬ w.heap.size = g := by omega
  have hne1 : ¬ w.heap.size + 1 = g := by omega
  have hmf : ∀ (fn : Fn) (first cap : Array Value) (w : World), (Instr.makeFunc fn first cap).run Tryz.prog w = .ok (.func fn first cap) w := fun _ _ _ _ => rfl
  go_enter Tryz.func111, Tryz.ntmps111
  go_upto_region 1 with (fail)
  refine wp_gen (Chn w g A c l N Q t (.slice B t.l.length q) at' ask failed (w.heap.size + 1) []) H0.out fun w0 h0 => ?_
  clear H0
  have H0 := Lib.hid h0
  clear h0
  have k0 := H0.out.box.c0
  have k1 := H0.out.box.c1
  have k2 := H0.out.box.c2
  have k3 := H0.out.box.c3
  have k4 := H0.out.box.c4
  have k5 := H0.out.box.c5
  have r0 := H0.out.res.c0
  have r1 := H0.out.res.c1
  have r2 := H0.out.res.c2
  have r3 := H0.out.res.c3
  have r4 := H0.out.res.c4
  have r5 := H0.out.res.c5
  have rf := H0.out.rfz
  have bf := H0.out.bfz
  have hz := H0.out.lt
  have hgz := H0.out.pz.lt
  have hzy := Nat.lt_of_succ_lt hz
  simp only [Nat.zero_add] at k0 r0 k1 r1 k2 r2 k3 r3 k4 r4 k5 r5
  go_upto_region 2 with (go_at_call 178; refine (sumFrom_n g A c l at' ask failed tn (fun b => (Q b ∧ b < w.heap.size) ∨ w.heap.size + 1 < b) t (.slice B t.l.length q) _ H0.out.pz hl HX.out.1 H0.out.tr HX.out.2.1 HX.out.2.2.1).mono ?_; rintro e w1 ⟨u1, rfl, ht1, hp1, hg1⟩; obtain ⟨B1, q1, rfl, _⟩ := ht1.form; unfold EVt; have hc1 := (gcell hg1).1; have hf1 := (gcell hg1).2; have hy1 := hg1.size; (try simp at hy1); have HP1 := Lib.hid (And.intro ht1 (And.intro hp1 hg1)); clear ht1 hp1 hg1)
  refine wp_gen (Chn w g A c l N Q t (.slice B1 t.l.length q1) at' ask failed (w.heap.size + 1) []) (Chn.put H0.out HP1.out.1 HP1.out.2.1 HP1.out.2.2 hgl (by omega) (.inr rfl)) fun w2 h2 => ?_
  have H2 := Lib.hid h2
  clear k0 r0 k1 r1 k2 r2 k3 r3 k4 r4 k5 r5 rf bf hz hgz hzy
  clear h2 H0 HP1 hc1 hf1 hy1
  have k0 := H2.out.box.c0
  have k1 := H2.out.box.c1
  have k2 := H2.out.box.c2
  have k3 := H2.out.box.c3
  have k4 := H2.out.box.c4
  have k5 := H2.out.box.c5
  have r0 := H2.out.res.c0
  have r1 := H2.out.res.c1
  have r2 := H2.out.res.c2
  have r3 := H2.out.res.c3
  have r4 := H2.out.res.c4
  have r5 := H2.out.res.c5
  have rf := H2.out.rfz
  have bf := H2.out.bfz
  have hz := H2.out.lt
  have hgz := H2.out.pz.lt
  have hzy := Nat.lt_of_succ_lt hz
  simp only [Nat.zero_add] at k0 r0 k1 r1 k2 r2 k3 r3 k4 r4 k5 r5
  go_wp2_with (go_at_call 110; refine (take_no g A c l at' ask failed _ 3 [⟨#[61]⟩, ⟨#[60]⟩, ⟨#[73, 83]⟩] tn _ (H2.out.pz.alloc _) hl HX.out.1 (wds3 _ (by simp) ⟨#[61]⟩ ⟨#[60]⟩ ⟨#[73, 83]⟩) (by simp) (all3 HX.out.2.2.2.1 HX.out.2.2.2.2.1 HX.out.2.2.2.2.2)).mono ?_; rintro e w3 ⟨rfl, hb3⟩; have H3 := Lib.hid ((H2.out.later ((Below.refl _ _).alloc (Nat.le_refl _) _)).later hb3); clear hb3 H2; clear k0 r0 k1 r1 k2 r2 k3 r3 k4 r4 k5 r5 rf bf hz hgz hzy; have k0 := H3.out.box.c0; have k1 := H3.out.box.c1; have k2 := H3.out.box.c2; have k3 := H3.out.box.c3; have k4 := H3.out.box.c4; have k5 := H3.out.box.c5; have r0 := H3.out.res.c0; have r1 := H3.out.res.c1; have r2 := H3.out.res.c2; have r3 := H3.out.res.c3; have r4 := H3.out.res.c4; have r5 := H3.out.res.c5; have rf := H3.out.rfz; have bf := H3.out.bfz; have hz := H3.out.lt; have hgz := H3.out.pz.lt; have hzy := Nat.lt_of_succ_lt hz; simp only [Nat.zero_add] at k0 r0 k1 r1 k2 r2 k3 r3 k4 r4 k5 r5)
  refine bodyPost_ret (v := .agg #[.string t.op, .int .i64 t.x.k, .int .i64 t.x.i, .string t.x.s, .string t.s, .slice B1 t.l.length q1]) (by simp [results, Tryz.results111, go_sem, *]) rfl ?_
  exact H3.out.form hgl t _ H3.out.tr

end Go.Proofs.YtmgcmiflbjhakaaGreatDoor

/- The parser: a word, a number, an atom that does not stand in brackets. -/
namespace Go.Proofs.YtmgcmiflbjhakaaGreatDoor
open Go.RowKit Go.Lib

def litT (x : Vl) : Ex := .mk ⟨#[108, 105, 116]⟩ x ⟨#[]⟩ []
def colT (s : ByteArray) : Ex := .mk ⟨#[99, 111, 108]⟩ ⟨0, 0, ⟨#[]⟩⟩ s []
theorem leaf_tr (W : World) (P : Nat → Prop) (n : Nat) (op : ByteArray) (x : Vl) (s : ByteArray) (hs : s.size ≤ 100000) : Tr W P n (.mk op x s []) (.slice none 0 0) := by
  refine ⟨hs, ?_⟩
  cases n with
  | zero => exact ⟨rfl, none, 0, rfl⟩
  | succ n => exact ⟨none, 0, rfl, by simp [Ex.l, maxLen], fun j hj => absurd hj (by simp [Ex.l])⟩

theorem Res.alloc {N : Nat} {w W : World} {g : Nat} {A : Option Addr} {c : Nat} {l : List Tn} {Q : Nat → Prop} {t : Ex} {at' ask : Nat} {failed : Bool} {e : Ending} (h : Res w g A c l N Q t at' ask failed e W) (o : Obj) : Res w g A c l N Q t at' ask failed e (W.alloc o) := by
  obtain ⟨u, h1, h2, h3, h4⟩ := h
  exact ⟨u, h1, h2.below ((Below.refl _ _).alloc (Nat.le_refl _) o), h3.alloc o, grow_trans h4 (grow_alloc _ _ _)⟩
theorem Res.leaf {N : Nat} {w W : World} {g : Nat} {A : Option Addr} {c : Nat} {l : List Tn} {Q : Nat → Prop} {at' ask : Nat} {failed : Bool} {b : Nat} (op : ByteArray) (x : Vl) (s : ByteArray) (hs : s.size ≤ 100000) (hP : Pz W g A c l at' ask failed) (hG : w.grownBy W (some g)) (hb : w.heap.size ≤ b) (hg : g < w.heap.size) :
    Res w g A c l N Q (.mk op x s []) at' ask failed (.returned (.agg #[.string op, .int .i64 x.k, .int .i64 x.i, .string x.s, .string s, .slice none 0 0])) (set6 W b (.string op) (.int .i64 x.k) (.int .i64 x.i) (.string x.s) (.string s) (.slice none 0 0)) :=
  Res.store (t := .mk op x s []) (R := fun _ => False) (leaf_tr _ _ N _ _ _ hs) hP hG hb hg (fun h => h) (fun x h _ => h.elim) _ _ _ _ _ _

set_option maxRecDepth 100000 in
set_option maxHeartbeats 4000000 in
theorem word_lit {N : Nat} (g : Nat) (A : Option Addr) (c : Nat) (l : List Tn) (at' ask : Nat) (failed : Bool) (s : ByteArray) (k i : Int) (S : ByteArray) (w : World) (hz : Pz w g A c l at' ask failed) (hm : mayB k i S = true) (ht : txtO k i S = s.data.toList) (hi : In64 i) (hs : s.size ≤ 100000) :
    Calls Tryz.prog 228 #[.pointer (some ⟨g, 0, none⟩), .string s] w (Res w g A c l N (fun _ => False) (litT ⟨k, i, S⟩) at' ask failed) := by
  have HZ := Lib.hid hz
  have hgl := hz.lt
  have HV : Hid (∀ W, LibE W → Calls Tryz.prog 205 #[.string s] W fun e w' => e = .returned (.tuple #[.agg #[.int .i64 k, .int .i64 i, .string S], .int .i64 0]) ∧ Below W.heap.size W w') := fun W hl => vparse_ok k i S s W hm ht hi hs hl
  clear hz hm ht hi
  have hne0 : ¬ w.heap.size = g := by omega
  go_enter Tryz.func228, Tryz.ntmps228
  go_wp2_with (go_at_call 205; refine (HV.out _ (HZ.out.alloc _).libE).mono ?_; rintro e w1 ⟨rfl, hb1⟩; have hc1 := (bcell hb1).1; have hf1 := (bcell hb1).2; have hy1 := hb1.size; (try simp at hy1); have hz1_0 : w.heap.size < w1.heap.size := (by omega); have HB1 : Hid (Below w.heap.size w w1) := ((Below.refl _ _).alloc (Nat.le_refl _) _).trans (hb1.mono (by simp)))
  refine bodyPost_ret (v := .agg #[.string ⟨#[108, 105, 116]⟩, .int .i64 k, .int .i64 i, .string S, .string ⟨#[]⟩, .slice none 0 0]) (by simp [results, Tryz.results228, go_sem, *]) rfl ?_
  exact (Res.leaf ⟨#[108, 105, 116]⟩ ⟨k, i, S⟩ ⟨#[]⟩ (by decide) (HZ.out.below HB1.out) (grow_below HB1.out _) (Nat.le_refl _) hgl).alloc _

set_option maxRecDepth 100000 in
set_option maxHeartbeats 4000000 in
theorem word_col {N : Nat} (g : Nat) (A : Option Addr) (c : Nat) (l : List Tn) (at' ask : Nat) (failed : Bool) (s : ByteArray) (w : World) (hz : Pz w g A c l at' ask failed) (hn : ∀ k i S, In64 i → mayB k i S = true → txtO k i S ≠ s.data.toList) (hs : s.size ≤ 100000) (hm : mayT (colT s) = true) :
    Calls Tryz.prog 228 #[.pointer (some ⟨g, 0, none⟩), .string s] w (Res w g A c l N (fun _ => False) (colT s) at' ask failed) := by
  have HZ := Lib.hid hz
  have hgl := hz.lt
  have HV : Hid (∀ W, LibE W → Calls Tryz.prog 205 #[.string s] W fun e w' => e = .returned (.tuple #[.agg #[.int .i64 0, .int .i64 0, .string ⟨#[]⟩], .int .i64 3]) ∧ Below W.heap.size W w') := fun W hl => vparse_no s W hn hs hl
  have HM := Lib.hid hm
  clear hz hn hm
  have hne0 : ¬ w.heap.size = g := by omega
  go_enter Tryz.func228, Tryz.ntmps228
  go_wp2_with (first
    | (go_at_call 205; refine (HV.out _ (HZ.out.alloc _).libE).mono ?_; rintro e w1 ⟨rfl, hb1⟩; have hc1 := (bcell hb1).1; have hf1 := (bcell hb1).2; have hy1 := hb1.size; (try simp at hy1); have hz1_0 : w.heap.size < w1.heap.size := (by omega); have HB1 : Hid (Below w.heap.size w w1) := ((Below.refl _ _).alloc (Nat.le_refl _) _).trans (hb1.mono (by simp)); have HZ1 := Lib.hid ((HZ.out.below HB1.out).alloc (.cells #[.int .i64 0, .int .i64 0, .string ⟨#[]⟩] 23)); have hzx : w.heap.size < w1.heap.size + 1 := by omega)
    | (go_at_call 113; refine (checked_yes (N := N) g A c l at' ask failed _ HZ1.out (fun _ => False) (colT s) (.slice none 0 0) (leaf_tr _ _ N _ _ _ hs) HM.out).mono ?_; rintro e w2 ⟨u2, rfl, ht2, hp2, hg2⟩; obtain ⟨B2, q2, rfl, _⟩ := ht2.form; unfold EVt; have hc2 := (gcell hg2).1; have hf2 := (gcell hg2).2; have hy2 := hg2.size; (try simp at hy2); have hz2_0 : w.heap.size < w2.heap.size := (by omega); have HP2 := Lib.hid (And.intro ht2 (And.intro hp2 hg2)); clear ht2 hp2 hg2))
  refine bodyPost_ret (v := .agg #[.string (colT s).op, .int .i64 (colT s).x.k, .int .i64 (colT s).x.i, .string (colT s).x.s, .string (colT s).s, .slice B2 (colT s).l.length q2]) (by simp [results, Tryz.results228, go_sem, *]) rfl ?_
  exact Res.store (Q := (fun _ => False)) (R := fun b => w.heap.size < b) (HP2.out.1.keep (fun _ _ _ => rfl) (fun b h _ => h.elim False.elim (fun h => by simp at h; omega))) HP2.out.2.1 (grow_trans (grow_trans (grow_below HB1.out _) (grow_alloc _ _ _)) HP2.out.2.2) (b := w.heap.size) (Nat.le_refl _) hgl (by omega) (fun x h _ => .inr (Nat.le_of_lt h)) _ _ _ _ _ _

set_option maxRecDepth 100000 in
set_option maxHeartbeats 4000000 in
theorem word_bad {N : Nat} (g : Nat) (A : Option Addr) (c : Nat) (l : List Tn) (at' ask : Nat) (failed : Bool) (s : ByteArray) (w : World) (hz : Pz w g A c l at' ask failed) (hn : ∀ k i S, In64 i → mayB k i S = true → txtO k i S ≠ s.data.toList) (hs : s.size ≤ 100000) (hm : mayT (colT s) = false) :
    Calls Tryz.prog 228 #[.pointer (some ⟨g, 0, none⟩), .string s] w (Res w g A c l N (fun _ => False) zT at' ask true) := by
  have HZ := Lib.hid hz
  have hgl := hz.lt
  have HV : Hid (∀ W, LibE W → Calls Tryz.prog 205 #[.string s] W fun e w' => e = .returned (.tuple #[.agg #[.int .i64 0, .int .i64 0, .string ⟨#[]⟩], .int .i64 3]) ∧ Below W.heap.size W w') := fun W hl => vparse_no s W hn hs hl
  have HM := Lib.hid hm
  clear hz hn hm
  have hne0 : ¬ w.heap.size = g := by omega
  go_enter Tryz.func228, Tryz.ntmps228
  go_wp2_with (first
    | (go_at_call 205; refine (HV.out _ (HZ.out.alloc _).libE).mono ?_; rintro e w1 ⟨rfl, hb1⟩; have hc1 := (bcell hb1).1; have hf1 := (bcell hb1).2; have hy1 := hb1.size; (try simp at hy1); have hz1_0 : w.heap.size < w1.heap.size := (by omega); have HB1 : Hid (Below w.heap.size w w1) := ((Below.refl _ _).alloc (Nat.le_refl _) _).trans (hb1.mono (by simp)); have HZ1 := Lib.hid ((HZ.out.below HB1.out).alloc (.cells #[.int .i64 0, .int .i64 0, .string ⟨#[]⟩] 23)); have hzx : w.heap.size < w1.heap.size + 1 := by omega)
    | (go_at_call 113; refine (checked_no (N := N) g A c l at' ask failed _ HZ1.out (fun _ => False) (colT s) (.slice none 0 0) (leaf_tr _ _ N _ _ _ hs) HM.out).mono ?_; rintro e w2 ⟨u2, rfl, ht2, hp2, hg2⟩; obtain ⟨B2, q2, rfl, _⟩ := ht2.form; unfold EVt; have hc2 := (gcell hg2).1; have hf2 := (gcell hg2).2; have hy2 := hg2.size; (try simp at hy2); have hz2_0 : w.heap.size < w2.heap.size := (by omega); have HP2 := Lib.hid (And.intro ht2 (And.intro hp2 hg2)); clear ht2 hp2 hg2))
  refine bodyPost_ret (v := .agg #[.string (zT).op, .int .i64 (zT).x.k, .int .i64 (zT).x.i, .string (zT).x.s, .string (zT).s, .slice B2 (zT).l.length q2]) (by simp [results, Tryz.results228, go_sem, *]) rfl ?_
  exact Res.store (Q := (fun _ => False)) (R := fun b => w.heap.size < b) (HP2.out.1.keep (fun _ _ _ => rfl) (fun b h _ => h.elim False.elim (fun h => by simp at h; omega))) HP2.out.2.1 (grow_trans (grow_trans (grow_below HB1.out _) (grow_alloc _ _ _)) HP2.out.2.2) (b := w.heap.size) (Nat.le_refl _) hgl (by omega) (fun x h _ => .inr (Nat.le_of_lt h)) _ _ _ _ _ _

set_option maxRecDepth 100000 in
set_option maxHeartbeats 4000000 in
theorem number_ok {N : Nat} (g : Nat) (A : Option Addr) (c : Nat) (l : List Tn) (at' ask : Nat) (failed : Bool) (s : ByteArray) (v : Int) (w : World) (hz : Pz w g A c l at' ask failed) (hv : parseIntB 64 s.data.toList = .ok v) (hs : s.size ≤ 100000) :
    Calls Tryz.prog 227 #[.pointer (some ⟨g, 0, none⟩), .string s] w (Res w g A c l N (fun _ => False) (litT ⟨1, v, ⟨#[]⟩⟩) at' ask failed) := by
  have HZ := Lib.hid hz
  have hgl := hz.lt
  have HV := Lib.hid hv
  clear hz hv
  have hne0 : ¬ w.heap.size = g := by omega
  go_enter Tryz.func227, Tryz.ntmps227
  go_wp2_with (go_at_call 259; refine (pint_ok s _ v HV.out hs).mono ?_; rintro e w1 ⟨rfl, hb1⟩; have hc1 := (bcell hb1).1; have hf1 := (bcell hb1).2; have hy1 := hb1.size; (try simp at hy1); have hz1_0 : w.heap.size < w1.heap.size := (by omega); have HB1 : Hid (Below w.heap.size w w1) := ((Below.refl _ _).alloc (Nat.le_refl _) _).trans (hb1.mono (by simp)))
  refine bodyPost_ret (v := .agg #[.string ⟨#[108, 105, 116]⟩, .int .i64 1, .int .i64 v, .string ⟨#[]⟩, .string ⟨#[]⟩, .slice none 0 0]) (by simp [results, Tryz.results227, go_sem, *]) rfl ?_
  exact Res.leaf ⟨#[108, 105, 116]⟩ ⟨1, v, ⟨#[]⟩⟩ ⟨#[]⟩ (by decide) (HZ.out.below HB1.out) (grow_below HB1.out _) (Nat.le_refl _) hgl

end Go.Proofs.YtmgcmiflbjhakaaGreatDoor

/- The parser: an atom that does not stand in brackets. -/
namespace Go.Proofs.YtmgcmiflbjhakaaGreatDoor
open Go.RowKit Go.Lib

set_option maxRecDepth 100000 in
set_option maxHeartbeats 4000000 in
theorem plain_word {N : Nat} (g : Nat) (A : Option Addr) (c : Nat) (l : List Tn) (at' ask : Nat) (failed : Bool) (s : ByteArray) (t : Ex) (at2 : Nat) (failed2 : Bool) (w : World) (hz : Pz w g A c l at' ask failed) (hl : l.length ≤ 100000) (ha : at' ≤ 100000) (hx : Nx l at' failed ⟨1, s⟩) (hno : isB ⟨1, s⟩ ⟨#[45]⟩ = false) (hs : s.size ≤ 100000) (hsub : ∀ W, Pz W g A c l (at' + 1) ask failed → Calls Tryz.prog 228 #[.pointer (some ⟨g, 0, none⟩), .string s] W (Res W g A c l N (fun _ => False) t at2 ask failed2)) :
    Calls Tryz.prog 182 #[.pointer (some ⟨g, 0, none⟩)] w (Res w g A c l N (fun _ => False) t at2 ask failed2) := by
  have HZ := Lib.hid hz
  have hgl := hz.lt
  have HX := Lib.hid (And.intro hx (And.intro hno hsub))
  clear hz hx hno hsub
  have hne0 : ¬ w.heap.size = g := by omega
  go_enter Tryz.func182, Tryz.ntmps182
  go_wp2_with (first
    | (go_at_call 110; refine (take_no g A c l at' ask failed _ 1 [⟨#[45]⟩] (⟨1, s⟩ : Tn) _ ((HZ.out.alloc _).alloc _) hl HX.out.1 (wds1 _ (by simp) ⟨#[45]⟩) (by simp) (all1 HX.out.2.1)).mono ?_; rintro e w1 ⟨rfl, hb1⟩; have hc1 := (bcell hb1).1; have hf1 := (bcell hb1).2; have hy1 := hb1.size; (try simp at hy1); have hz1_0 : w.heap.size < w1.heap.size := (by omega); have HB1 : Hid (Below w.heap.size w w1) := (((Below.refl _ _).alloc (Nat.le_refl _) _).alloc (by simp) _).trans (hb1.mono (by simp; omega)); have HZ1 := Lib.hid (HZ.out.below HB1.out); have HD1 : Hid (Below (w.heap.size + 1) (w.alloc (.cells #[.string ⟨#[]⟩, .int .i64 0, .int .i64 0, .string ⟨#[]⟩, .string ⟨#[]⟩, .slice none 0 0] 26)) w1) := ((Below.refl _ _).alloc (by simp) _).trans (hb1.mono (by simp)))
    | (go_at_call 176; refine (next_any g A c l at' ask failed _ HZ1.out hl (⟨1, s⟩ : Tn) HX.out.1).mono ?_; rintro e w2 ⟨rfl, hb2⟩; have hc2 := (bcell hb2).1; have hf2 := (bcell hb2).2; have hy2 := hb2.size; (try simp at hy2); have hz2_0 : w.heap.size < w2.heap.size := (by omega); have HB2 : Hid (Below w.heap.size w w2) := HB1.out.trans (hb2.mono (by omega)); have HD2 : Hid (Below (w.heap.size + 1) (w.alloc (.cells #[.string ⟨#[]⟩, .int .i64 0, .int .i64 0, .string ⟨#[]⟩, .string ⟨#[]⟩, .slice none 0 0] 26)) w2) := HD1.out.trans (hb2.mono (by omega)); have HZ2 := Lib.hid (HZ1.out.below hb2); have d1 := HZ2.out.c1; have df := HZ2.out.fz 1; have hg2 : g < w2.heap.size := (by omega); have hnz : ¬ w2.heap.size = g := (by omega); have hzx : w.heap.size < w2.heap.size + 1 := (by omega))
    | (go_at_call 228; refine (HX.out.2.2 _ ((HZ2.out.goto (at' + 1)).alloc _)).mono ?_; rintro e w3 ⟨u3, rfl, ht3, hp3, hg3⟩; obtain ⟨B3, q3, rfl, _⟩ := ht3.form; unfold EVt; have hc3 := (gcell hg3).1; have hf3 := (gcell hg3).2; have hy3 := hg3.size; (try simp [World.setCell] at hy3); have hz3_0 : w.heap.size < w3.heap.size := (by omega); have HP3 := Lib.hid (And.intro ht3 (And.intro hp3 hg3)); clear ht3 hp3 hg3; have hbx : w3.heap[w.heap.size]? = some (.cells #[.string ⟨#[]⟩, .int .i64 0, .int .i64 0, .string ⟨#[]⟩, .string ⟨#[]⟩, .slice none 0 0] 26 (0, 0)) := (HP3.out.2.2.block _ (by simp [World.setCell]; omega) (fun e => by injection e with e; omega)).trans ((Below.heap_alloc _ _ _ (by simp [World.setCell]; omega)).trans ((Below.heap_setCell _ _ _ _ (by show w.heap.size ≠ g; omega)).trans ((HD2.out.block _ (by omega)).trans (alloc_at rfl _)))); have EZ := box_cells (t := zT) hbx; have y0 := EZ.c0; have y1 := EZ.c1; have y2 := EZ.c2; have y3 := EZ.c3; have y4 := EZ.c4; have y5 := EZ.c5; have yf := Lib.frozen_of_heap hbx; simp only [Nat.zero_add] at y0 y1 y2 y3 y4 y5; clear EZ))
  clear hc1 hc2 hc3 hf1 hf2 hf3
  refine bodyPost_ret (v := .agg #[.string t.op, .int .i64 t.x.k, .int .i64 t.x.i, .string t.x.s, .string t.s, .slice B3 t.l.length q3]) (by simp [results, Tryz.results182, go_sem, *]) rfl ?_
  exact Res.store (Q := (fun _ => False)) (R := fun b => w.heap.size < b) (HP3.out.1.keep (fun _ _ _ => rfl) (fun b h _ => h.elim False.elim (fun h => by simp [World.setCell] at h; omega))) HP3.out.2.1 (grow_trans (grow_trans (grow_trans (grow_below HB2.out _) (grow_set _ _ _ _)) (grow_alloc _ _ _)) HP3.out.2.2) (b := w.heap.size) (Nat.le_refl _) hgl (by omega) (fun x h _ => .inr (Nat.le_of_lt h)) _ _ _ _ _ _

set_option maxRecDepth 100000 in
set_option maxHeartbeats 4000000 in
theorem plain_num {N : Nat} (g : Nat) (A : Option Addr) (c : Nat) (l : List Tn) (at' ask : Nat) (failed : Bool) (s : ByteArray) (t : Ex) (at2 : Nat) (failed2 : Bool) (w : World) (hz : Pz w g A c l at' ask failed) (hl : l.length ≤ 100000) (ha : at' ≤ 100000) (hx : Nx l at' failed ⟨2, s⟩) (hno : isB ⟨2, s⟩ ⟨#[45]⟩ = false) (hs : s.size ≤ 100000) (hsub : ∀ W, Pz W g A c l (at' + 1) ask failed → Calls Tryz.prog 227 #[.pointer (some ⟨g, 0, none⟩), .string s] W (Res W g A c l N (fun _ => False) t at2 ask failed2)) :
    Calls Tryz.prog 182 #[.pointer (some ⟨g, 0, none⟩)] w (Res w g A c l N (fun _ => False) t at2 ask failed2) := by
  have HZ := Lib.hid hz
  have hgl := hz.lt
  have HX := Lib.hid (And.intro hx (And.intro hno hsub))
  clear hz hx hno hsub
  have hne0 : ¬ w.heap.size = g := by omega
  go_enter Tryz.func182, Tryz.ntmps182
  go_wp2_with (first
    | (go_at_call 110; refine (take_no g A c l at' ask failed _ 1 [⟨#[45]⟩] (⟨2, s⟩ : Tn) _ ((HZ.out.alloc _).alloc _) hl HX.out.1 (wds1 _ (by simp) ⟨#[45]⟩) (by simp) (all1 HX.out.2.1)).mono ?_; rintro e w1 ⟨rfl, hb1⟩; have hc1 := (bcell hb1).1; have hf1 := (bcell hb1).2; have hy1 := hb1.size; (try simp at hy1); have hz1_0 : w.heap.size < w1.heap.size := (by omega); have HB1 : Hid (Below w.heap.size w w1) := (((Below.refl _ _).alloc (Nat.le_refl _) _).alloc (by simp) _).trans (hb1.mono (by simp; omega)); have HZ1 := Lib.hid (HZ.out.below HB1.out); have HD1 : Hid (Below (w.heap.size + 1) (w.alloc (.cells #[.string ⟨#[]⟩, .int .i64 0, .int .i64 0, .string ⟨#[]⟩, .string ⟨#[]⟩, .slice none 0 0] 26)) w1) := ((Below.refl _ _).alloc (by simp) _).trans (hb1.mono (by simp)))
    | (go_at_call 176; refine (next_any g A c l at' ask failed _ HZ1.out hl (⟨2, s⟩ : Tn) HX.out.1).mono ?_; rintro e w2 ⟨rfl, hb2⟩; have hc2 := (bcell hb2).1; have hf2 := (bcell hb2).2; have hy2 := hb2.size; (try simp at hy2); have hz2_0 : w.heap.size < w2.heap.size := (by omega); have HB2 : Hid (Below w.heap.size w w2) := HB1.out.trans (hb2.mono (by omega)); have HD2 : Hid (Below (w.heap.size + 1) (w.alloc (.cells #[.string ⟨#[]⟩, .int .i64 0, .int .i64 0, .string ⟨#[]⟩, .string ⟨#[]⟩, .slice none 0 0] 26)) w2) := HD1.out.trans (hb2.mono (by omega)); have HZ2 := Lib.hid (HZ1.out.below hb2); have d1 := HZ2.out.c1; have df := HZ2.out.fz 1; have hg2 : g < w2.heap.size := (by omega); have hnz : ¬ w2.heap.size = g := (by omega); have hzx : w.heap.size < w2.heap.size + 1 := (by omega))
    | (go_at_call 227; refine (HX.out.2.2 _ ((HZ2.out.goto (at' + 1)).alloc _)).mono ?_; rintro e w3 ⟨u3, rfl, ht3, hp3, hg3⟩; obtain ⟨B3, q3, rfl, _⟩ := ht3.form; unfold EVt; have hc3 := (gcell hg3).1; have hf3 := (gcell hg3).2; have hy3 := hg3.size; (try simp [World.setCell] at hy3); have hz3_0 : w.heap.size < w3.heap.size := (by omega); have HP3 := Lib.hid (And.intro ht3 (And.intro hp3 hg3)); clear ht3 hp3 hg3; have hbx : w3.heap[w.heap.size]? = some (.cells #[.string ⟨#[]⟩, .int .i64 0, .int .i64 0, .string ⟨#[]⟩, .string ⟨#[]⟩, .slice none 0 0] 26 (0, 0)) := (HP3.out.2.2.block _ (by simp [World.setCell]; omega) (fun e => by injection e with e; omega)).trans ((Below.heap_alloc _ _ _ (by simp [World.setCell]; omega)).trans ((Below.heap_setCell _ _ _ _ (by show w.heap.size ≠ g; omega)).trans ((HD2.out.block _ (by omega)).trans (alloc_at rfl _)))); have EZ := box_cells (t := zT) hbx; have y0 := EZ.c0; have y1 := EZ.c1; have y2 := EZ.c2; have y3 := EZ.c3; have y4 := EZ.c4; have y5 := EZ.c5; have yf := Lib.frozen_of_heap hbx; simp only [Nat.zero_add] at y0 y1 y2 y3 y4 y5; clear EZ))
  clear hc1 hc2 hc3 hf1 hf2 hf3
  refine bodyPost_ret (v := .agg #[.string t.op, .int .i64 t.x.k, .int .i64 t.x.i, .string t.x.s, .string t.s, .slice B3 t.l.length q3]) (by simp [results, Tryz.results182, go_sem, *]) rfl ?_
  exact Res.store (Q := (fun _ => False)) (R := fun b => w.heap.size < b) (HP3.out.1.keep (fun _ _ _ => rfl) (fun b h _ => h.elim False.elim (fun h => by simp [World.setCell] at h; omega))) HP3.out.2.1 (grow_trans (grow_trans (grow_trans (grow_below HB2.out _) (grow_set _ _ _ _)) (grow_alloc _ _ _)) HP3.out.2.2) (b := w.heap.size) (Nat.le_refl _) hgl (by omega) (fun x h _ => .inr (Nat.le_of_lt h)) _ _ _ _ _ _

set_option maxRecDepth 100000 in
set_option maxHeartbeats 4000000 in
theorem plain_zero {N : Nat} (g : Nat) (A : Option Addr) (c : Nat) (l : List Tn) (at' ask : Nat) (failed : Bool) (w : World) (hz : Pz w g A c l at' ask failed) (hl : l.length ≤ 100000) (ha : at' ≤ 100000) (hx : Nx l at' failed ⟨0, ⟨#[]⟩⟩) :
    Calls Tryz.prog 182 #[.pointer (some ⟨g, 0, none⟩)] w (Res w g A c l N (fun _ => False) zT (at' + 1) ask true) := by
  have HZ := Lib.hid hz
  have hgl := hz.lt
  have HX := Lib.hid (And.intro hx (And.intro (show isB ⟨0, ⟨#[]⟩⟩ ⟨#[45]⟩ = false by simp [isB]) trivial))
  clear hz hx
  have hne0 : ¬ w.heap.size = g := by omega
  go_enter Tryz.func182, Tryz.ntmps182
  go_wp2_with (first
    | (go_at_call 110; refine (take_no g A c l at' ask failed _ 1 [⟨#[45]⟩] (⟨0, ⟨#[]⟩⟩ : Tn) _ ((HZ.out.alloc _).alloc _) hl HX.out.1 (wds1 _ (by simp) ⟨#[45]⟩) (by simp) (all1 HX.out.2.1)).mono ?_; rintro e w1 ⟨rfl, hb1⟩; have hc1 := (bcell hb1).1; have hf1 := (bcell hb1).2; have hy1 := hb1.size; (try simp at hy1); have hz1_0 : w.heap.size < w1.heap.size := (by omega); have HB1 : Hid (Below w.heap.size w w1) := (((Below.refl _ _).alloc (Nat.le_refl _) _).alloc (by simp) _).trans (hb1.mono (by simp; omega)); have HZ1 := Lib.hid (HZ.out.below HB1.out); have HD1 : Hid (Below (w.heap.size + 1) (w.alloc (.cells #[.string ⟨#[]⟩, .int .i64 0, .int .i64 0, .string ⟨#[]⟩, .string ⟨#[]⟩, .slice none 0 0] 26)) w1) := ((Below.refl _ _).alloc (by simp) _).trans (hb1.mono (by simp)))
    | (go_at_call 176; refine (next_any g A c l at' ask failed _ HZ1.out hl (⟨0, ⟨#[]⟩⟩ : Tn) HX.out.1).mono ?_; rintro e w2 ⟨rfl, hb2⟩; have hc2 := (bcell hb2).1; have hf2 := (bcell hb2).2; have hy2 := hb2.size; (try simp at hy2); have hz2_0 : w.heap.size < w2.heap.size := (by omega); have HB2 : Hid (Below w.heap.size w w2) := HB1.out.trans (hb2.mono (by omega)); have HD2 : Hid (Below (w.heap.size + 1) (w.alloc (.cells #[.string ⟨#[]⟩, .int .i64 0, .int .i64 0, .string ⟨#[]⟩, .string ⟨#[]⟩, .slice none 0 0] 26)) w2) := HD1.out.trans (hb2.mono (by omega)); have HZ2 := Lib.hid (HZ1.out.below hb2); have d1 := HZ2.out.c1; have df := HZ2.out.fz 1; have hg2 : g < w2.heap.size := (by omega); have hnz : ¬ w2.heap.size = g := (by omega); have hzx : w.heap.size < w2.heap.size + 1 := (by omega))
    | (go_at_call 179; refine (fail_any (N := N) g A c l (at' + 1) ask failed _ ((HZ2.out.goto (at' + 1)).alloc _) (fun _ => False)).mono ?_; rintro e w3 ⟨u3, rfl, ht3, hp3, hg3⟩; obtain ⟨B3, q3, rfl, _⟩ := ht3.form; unfold EVt; have hc3 := (gcell hg3).1; have hf3 := (gcell hg3).2; have hy3 := hg3.size; (try simp [World.setCell] at hy3); have hz3_0 : w.heap.size < w3.heap.size := (by omega); have HP3 := Lib.hid (And.intro ht3 (And.intro hp3 hg3)); clear ht3 hp3 hg3; have hbx : w3.heap[w.heap.size]? = some (.cells #[.string ⟨#[]⟩, .int .i64 0, .int .i64 0, .string ⟨#[]⟩, .string ⟨#[]⟩, .slice none 0 0] 26 (0, 0)) := (HP3.out.2.2.block _ (by simp [World.setCell]; omega) (fun e => by injection e with e; omega)).trans ((Below.heap_alloc _ _ _ (by simp [World.setCell]; omega)).trans ((Below.heap_setCell _ _ _ _ (by show w.heap.size ≠ g; omega)).trans ((HD2.out.block _ (by omega)).trans (alloc_at rfl _)))); have EZ := box_cells (t := zT) hbx; have y0 := EZ.c0; have y1 := EZ.c1; have y2 := EZ.c2; have y3 := EZ.c3; have y4 := EZ.c4; have y5 := EZ.c5; have yf := Lib.frozen_of_heap hbx; simp only [Nat.zero_add] at y0 y1 y2 y3 y4 y5; clear EZ))
  clear hc1 hc2 hc3 hf1 hf2 hf3
  refine bodyPost_ret (v := .agg #[.string zT.op, .int .i64 zT.x.k, .int .i64 zT.x.i, .string zT.x.s, .string zT.s, .slice B3 zT.l.length q3]) (by simp [results, Tryz.results182, go_sem, *]) rfl ?_
  exact Res.store (Q := (fun _ => False)) (R := fun b => w.heap.size < b) (HP3.out.1.keep (fun _ _ _ => rfl) (fun b h _ => h.elim False.elim (fun h => by simp [World.setCell] at h; omega))) HP3.out.2.1 (grow_trans (grow_trans (grow_trans (grow_below HB2.out _) (grow_set _ _ _ _)) (grow_alloc _ _ _)) HP3.out.2.2) (b := w.heap.size) (Nat.le_refl _) hgl (by omega) (fun x h _ => .inr (Nat.le_of_lt h)) _ _ _ _ _ _

end Go.Proofs.YtmgcmiflbjhakaaGreatDoor

/- The parser: an atom. -/
namespace Go.Proofs.YtmgcmiflbjhakaaGreatDoor
open Go.RowKit Go.Lib

/-- The world of an atom: its result's box (block r), the box of what has been parsed (block b), the parser. -/
structure Atm (w : World) (g : Nat) (A : Option Addr) (c : Nat) (l : List Tn) (N : Nat) (t : Ex) (u : Value) (at' ask : Nat) (failed : Bool) (b : Nat) (W : World) : Prop where
  res : W.heap[w.heap.size]? = some (.cells #[.string ⟨#[]⟩, .int .i64 0, .int .i64 0, .string ⟨#[]⟩, .string ⟨#[]⟩, .slice none 0 0] 26 (0, 0))
  box : ExC W ⟨b, 0, none⟩ t u
  bfz : ∀ o, W.frozen? ⟨b, o, none⟩ = false
  tr : Tr W (fun x => b < x) N t u
  pz : Pz W g A c l at' ask failed
  gr : w.grownBy W (some g)
  lb : w.heap.size < b
  lt : b < W.heap.size

theorem Atm.put {N : Nat} {w W W1 : World} {g : Nat} {A : Option Addr} {c : Nat} {l : List Tn} {t t2 : Ex} {u u2 : Value} {at' ask at2 : Nat} {failed failed2 : Bool} {b : Nat} (h : Atm w g A c l N t u at' ask failed b W) (hT : Tr W1 (fun x => False ∨ W.heap.size ≤ x) N t2 u2) (hP : Pz W1 g A c l at2 ask failed2) (hG : W.grownBy W1 (some g)) (hgw : g < w.heap.size) :
    Atm w g A c l N t2 u2 at2 ask failed2 b (set6 W1 b (.string t2.op) (.int .i64 t2.x.k) (.int .i64 t2.x.i) (.string t2.x.s) (.string t2.s) u2) := by
  have lb := h.lb
  have lt := h.lt
  have n0 : some w.heap.size ≠ some g := fun e => by injection e with e; omega
  have n1 : some b ≠ some g := fun e => by injection e with e; omega
  have hs := hG.size
  refine ⟨(set6_block _ _ _ _ _ _ _ _ (by omega)).trans ((hG.block _ (by omega) n0).trans h.res), set6_box (h.box.keep (hG.block _ lt n1)) u2, fun o => ?_, (hT.keep (fun _ _ _ => rfl) (fun x h _ => h.elim False.elim (fun h => by show b < x; omega))).set6 (Nat.lt_irrefl _) (fun _ h _ => h) _ _ _ _ _ _, hP.set6 (by omega) _ _ _ _ _ _, grow_set6 (grow_trans h.gr hG) (by omega) _ _ _ _ _ _, lb, by rw [set6_size]; omega⟩
  rw [set6_frozen]
  exact (World.frozen?_of_block (w := W) (a := ⟨b, o, none⟩) (hG.block _ lt n1)).trans (h.bfz o)

set_option maxRecDepth 100000 in
set_option maxHeartbeats 4000000 in
theorem atom_plain {N : Nat} (g : Nat) (A : Option Addr) (c : Nat) (l : List Tn) (at' ask : Nat) (failed : Bool) (tn : Tn) (t : Ex) (at2 : Nat) (failed2 : Bool) (w : World) (hz : Pz w g A c l at' ask failed) (hl : l.length ≤ 100000) (hx : Nx l at' failed tn) (hno : isB tn ⟨#[40]⟩ = false)
    (hsub : ∀ W, Pz W g A c l at' ask failed → Calls Tryz.prog 182 #[.pointer (some ⟨g, 0, none⟩)] W (Res W g A c l N (fun _ => False) t at2 ask failed2)) :
    Calls Tryz.prog 112 #[.pointer (some ⟨g, 0, none⟩)] w (Res w g A c l N (fun _ => False) t at2 ask failed2) := by
  have HZ := Lib.hid hz
  have hgl := hz.lt
  have HX := Lib.hid (And.intro hx (And.intro hno hsub))
  clear hz hx hno hsub
  have hne0 : ¬ w.heap.size = g := by omega
  go_enter Tryz.func112, Tryz.ntmps112
  go_wp2_with (fail)
  have HD0 : Hid (Below (w.heap.size + 1) (w.alloc (.cells #[.string ⟨#[]⟩, .int .i64 0, .int .i64 0, .string ⟨#[]⟩, .string ⟨#[]⟩, .slice none 0 0] 26)) (w.alloc (.cells #[.string ⟨#[]⟩, .int .i64 0, .int .i64 0, .string ⟨#[]⟩, .string ⟨#[]⟩, .slice none 0 0] 26))) := Below.refl _ _
  go_loopw [3] (fun v wr => v = .int .i64 0 ∧ Below (w.heap.size + 1) (w.alloc (.cells #[.string ⟨#[]⟩, .int .i64 0, .int .i64 0, .string ⟨#[]⟩, .string ⟨#[]⟩, .slice none 0 0] 26)) wr) (fun _ _ => 0)
  case atStart => exact ⟨rfl, HD0.out⟩
  case round =>
    obtain ⟨rfl, hd⟩ := hrel
    have HD := Lib.hid hd
    have hds := hd.size
    (try simp at hds)
    clear hd
    have HBw : Hid (Below w.heap.size w wr) := ((Below.refl _ _).alloc (Nat.le_refl _) _).trans (HD.out.mono (by omega))
    go_upto_if 8 with (go_at_call 110; refine (take_no g A c l at' ask failed _ 1 [⟨#[40]⟩] tn _ ((HZ.out.below HBw.out).alloc _) hl HX.out.1 (wds1 _ (by simp) ⟨#[40]⟩) (by simp) (all1 HX.out.2.1)).mono ?_; rintro e w1 ⟨rfl, hb1⟩; have HB1 : Hid (Below w.heap.size w w1) := (HBw.out.alloc (by omega) _).trans (hb1.mono (by simp; omega)); have HD1 : Hid (Below (w.heap.size + 1) (w.alloc (.cells #[.string ⟨#[]⟩, .int .i64 0, .int .i64 0, .string ⟨#[]⟩, .string ⟨#[]⟩, .slice none 0 0] 26)) w1) := (HD.out.alloc hds _).trans (hb1.mono (by simp; omega)); have HZ1 := Lib.hid (HZ.out.below HB1.out); have hs1 : w.heap.size + 1 ≤ w1.heap.size := (by have := HD1.out.size; simp at this; omega); clear hb1)
    go_upto_region 5 with (fail)
    refine wp_gen (Atm w g A c l N zT (.slice none 0 0) at' ask failed w1.heap.size) ⟨(Below.heap_alloc _ _ _ (by omega)).trans ((HD1.out.block _ (by omega)).trans (alloc_at rfl _)), box_cells (t := zT) (alloc_at rfl _), fun o => Lib.frozen_of_heap (alloc_at rfl _) o, zT_tr _ _ _, HZ1.out.alloc _, grow_trans (grow_below HB1.out _) (grow_alloc _ _ _), by omega, by simp⟩ fun w2 h2 => ?_
    have H2 := Lib.hid h2
    clear h2
    obtain ⟨b, hbe⟩ : ∃ b, b = w1.heap.size := ⟨_, rfl⟩
    rw [← hbe] at H2 ⊢
    clear hbe
    have k0 := H2.out.box.c0
    have k1 := H2.out.box.c1
    have k2 := H2.out.box.c2
    have k3 := H2.out.box.c3
    have k4 := H2.out.box.c4
    have k5 := H2.out.box.c5
    have rb := H2.out.res
    have EZ := box_cells (t := zT) rb; have y0 := EZ.c0; have y1 := EZ.c1; have y2 := EZ.c2; have y3 := EZ.c3; have y4 := EZ.c4; have y5 := EZ.c5; have yf := Lib.frozen_of_heap rb; simp only [Nat.zero_add] at y0 y1 y2 y3 y4 y5; clear EZ
    have bf := H2.out.bfz
    have hlt := H2.out.lt
    have hlb := H2.out.lb
    have hgb := H2.out.pz.lt
    have hnb : ¬ b = g := by omega
    have hwb : ¬ w.heap.size = b := by omega
    have hbw : ¬ b = w.heap.size := by omega
    have hww : w.heap.size < _ := Nat.lt_trans hlb hlt
    simp only [Nat.zero_add] at k0 k1 k2 k3 k4 k5
    clear rb
    go_upto_region 9 with (go_at_call 182; refine (HX.out.2.2 _ H2.out.pz).mono ?_; rintro e w3 ⟨u3, rfl, ht3, hp3, hg3⟩; obtain ⟨B3, q3, rfl, _⟩ := ht3.form; unfold EVt; have hc3 := (gcell hg3).1; have hf3 := (gcell hg3).2; have hy3 := hg3.size; (try simp at hy3); have HP3 := Lib.hid (And.intro ht3 (And.intro hp3 hg3)); clear ht3 hp3 hg3)
    refine wp_gen (Atm w g A c l N t (.slice B3 t.l.length q3) at2 ask failed2 b) (H2.out.put HP3.out.1 HP3.out.2.1 HP3.out.2.2 hgl) fun w4 h4 => ?_
    have H4 := Lib.hid h4
    clear h4 H2 HP3 hc3 hf3 hy3 k0 k1 k2 k3 k4 k5 y0 y1 y2 y3 y4 y5 yf bf hlt hgb hww
    have k0 := H4.out.box.c0
    have k1 := H4.out.box.c1
    have k2 := H4.out.box.c2
    have k3 := H4.out.box.c3
    have k4 := H4.out.box.c4
    have k5 := H4.out.box.c5
    have rb := H4.out.res
    have EZ := box_cells (t := zT) rb; have y0 := EZ.c0; have y1 := EZ.c1; have y2 := EZ.c2; have y3 := EZ.c3; have y4 := EZ.c4; have y5 := EZ.c5; have yf := Lib.frozen_of_heap rb; simp only [Nat.zero_add] at y0 y1 y2 y3 y4 y5; clear EZ
    have bf := H4.out.bfz
    have hlt := H4.out.lt
    have hlb := H4.out.lb
    have hgb := H4.out.pz.lt
    have hnb : ¬ b = g := by omega
    have hwb : ¬ w.heap.size = b := by omega
    have hbw : ¬ b = w.heap.size := by omega
    have hww : w.heap.size < _ := Nat.lt_trans hlb hlt
    simp only [Nat.zero_add] at k0 k1 k2 k3 k4 k5
    clear rb
    go_wp2_with (fail)
    go_loopw [27] (fun v wr => v = .int .i64 0 ∧ w4 = wr) (fun _ _ => 0)
    case atStart => exact ⟨rfl, rfl⟩
    case round =>
      obtain ⟨rfl, rfl⟩ := hrel
      go_wp2_with (fail)
      refine bodyPost_ret (v := .agg #[.string t.op, .int .i64 t.x.k, .int .i64 t.x.i, .string t.x.s, .string t.s, .slice B3 t.l.length q3]) (by simp [results, Tryz.results112, go_sem, *]) rfl ?_
      exact Res.store (Q := (fun _ => False)) H4.out.tr H4.out.pz H4.out.gr (b := w.heap.size) (Nat.le_refl _) hgl (by omega) (fun x h _ => .inr (by omega)) _ _ _ _ _ _
end Go.Proofs.YtmgcmiflbjhakaaGreatDoor
