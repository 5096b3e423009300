import Derived.Test.YtnahejljelbbgaaCj
/- Reading a value: readValue, First. -/
namespace Go.Proofs.Ytnahejljelbbgaa
open Go.RowKit Go.Lib

theorem next_is (x : Int) (g : Nat) (s : ByteArray) (n : Nat) (w : World) (h : Rd w g s n) (hn : n < s.size) (hs : s.size ≤ 100000) (hx : ((s.get! n).toNat : Int) = x) :
    Calls Try.prog 22 #[.pointer (some ⟨g, 0, none⟩)] w fun e w' => e = .returned (.tuple #[.int .u8 x, .bool true]) ∧ Rd w' g s (n + 1) ∧ w.grownBy w' (some g) := by
  subst hx
  exact next_some g s n w h hn hs
theorem grow_alloc (w : World) (o : Obj) (row : Option Nat) : w.grownBy (w.alloc o) row := World.grownBy_alloc w o row
/-- Three cells of a box are as they were where only the reader has moved. -/
theorem At3.keepG {W W' : World} {b g : Nat} {k i : Int} {s : ByteArray} (h : At3 W b k i s) (hg : W.grownBy W' (some g)) (hne : b ≠ g) : At3 W' b k i s :=
  ⟨hg.cell h.k (fun e => hne (by injection e)), hg.cell h.i (fun e => hne (by injection e)), hg.cell h.s (fun e => hne (by injection e))⟩
theorem frz_keepG {W W' : World} {b g o : Nat} (h : W.frozen? ⟨b, o, none⟩ = false) (hb : b < W.heap.size) (hg : W.grownBy W' (some g)) (hne : b ≠ g) : W'.frozen? ⟨b, o, none⟩ = false :=
  (World.frozen?_of_block (hg.block b hb (fun e => hne (by injection e)))).trans h
theorem Rd.alloc {W : World} {g n : Nat} {s : ByteArray} (h : Rd W g s n) (o : Obj) : Rd (W.alloc o) g s n := (Below.heap_alloc W o g h.lt).trans h
theorem Rd.set_far {W : World} {g n b o : Nat} {s : ByteArray} (hne : g ≠ b) (h : Rd W g s n) (v : Value) : Rd (W.setCell ⟨b, o, none⟩ v) g s n := (Below.heap_setCell W ⟨b, o, none⟩ v g hne).trans h
theorem grow_set_new {w W : World} {g b o : Nat} (hb : w.heap.size ≤ b) (h : w.grownBy W (some g)) (v : Value) : w.grownBy (W.setCell ⟨b, o, none⟩ v) (some g) :=
  ⟨h.os, h.tape, h.output, by simpa [World.setCell] using h.size, fun i hi hne => (Below.heap_setCell W ⟨b, o, none⟩ v i (by intro e; simp at e; omega)).trans (h.block i hi hne)⟩
theorem grow_alloc' {w W : World} {g : Nat} (h : w.grownBy W (some g)) (o : Obj) : w.grownBy (W.alloc o) (some g) :=
  ⟨h.os, h.tape, h.output, Nat.le_trans h.size (by simp), fun i hi hne => (Below.heap_alloc W o i (Nat.lt_of_lt_of_le hi h.size)).trans (h.block i hi hne)⟩
theorem Rd.keep' {W W' : World} {g : Nat} {s : ByteArray} {n B : Nat} (hb : Below B W W') (hB : g < B) (h : Rd W g s n) : Rd W' g s n := h.keep hb hB
theorem frz_alloc {W : World} {b o : Nat} (h : W.frozen? ⟨b, o, none⟩ = false) (hb : b < W.heap.size) (x : Obj) : (W.alloc x).frozen? ⟨b, o, none⟩ = false :=
  (((Below.refl W.heap.size W).alloc (Nat.le_refl _) x).frozen (p := ⟨b, o, none⟩) hb).trans h
theorem grow_below {w W W' : World} {g : Nat} (h : w.grownBy W (some g)) (hb : Below W.heap.size W W') : w.grownBy W' (some g) := grow_trans h (Below.grow hb _)

set_option maxRecDepth 100000 in
set_option maxHeartbeats 4000000 in
theorem rv_null (g : Nat) (s : ByteArray) (w : World) (h : Rd w g s 0) (hs : s.size ≤ 100000) (h0 : 0 < s.size) (hk : ((s.get! 0).toNat : Int) = 0) :
    Calls Try.prog 21 #[NX g] w fun e w' => e = .returned (.tuple #[.agg #[.int .i64 0, .int .i64 0, .string ⟨#[]⟩], .int .i64 0]) ∧ Rd w' g s 1 ∧ w.grownBy w' (some g) := by
  have H := Lib.hid (And.intro h hk)
  have hgw := h.lt
  clear h hk
  unfold NX
  have HM := Lib.hid may_null
  go_enter Try.func21, Try.ntmps21
  go_wp2_with (first
    | (go_at_call 22; refine (next_is 0 g s 0 _ (H.out.1.alloc _) h0 hs H.out.2).mono ?_; rintro e w1 ⟨rfl, hr1, hg1⟩; have HR1 := Lib.hid (And.intro hr1 hg1); have hz1 := hg1.size; (try simp at hz1); have RES := (At3.new (W := w) rfl).keepG hg1 (by omega); have dk := RES.k; have di := RES.i; have ds := RES.s; have f0 := frz_keepG (b := w.heap.size) (o := 0) (by simp [go_sem]) (by simp) hg1 (by omega); have f1 := frz_keepG (b := w.heap.size) (o := 1) (by simp [go_sem]) (by simp) hg1 (by omega); have f2 := frz_keepG (b := w.heap.size) (o := 2) (by simp [go_sem]) (by simp) hg1 (by omega); have HRES := Lib.hid RES; have hn1 : w.heap.size < w1.heap.size := (by omega); have hn1' : w.heap.size < w1.heap.size + 1 := (by omega); clear hr1 hg1 RES)
    | (go_at_call 12; refine ((mayNot_any _ _ _ _).mono (fun _ _ h => (HM.out ▸ h : _ = Ending.returned (.bool (!true)) ∧ _))).mono ?_; rintro e w4 ⟨rfl, hb4⟩; have hc4 := (bcell hb4).1; have hf4 := (bcell hb4).2; have hz4 := hb4.size; (try simp at hz4); have hn40 : w.heap.size < w4.heap.size := (by omega); have hn41 : w1.heap.size < w4.heap.size := (by omega)))
  refine bodyPost_ret (v := .tuple #[.agg #[.int .i64 0, .int .i64 0, .string ⟨#[]⟩], .int .i64 0]) ?_ rfl ⟨rfl, ?_, ?_⟩
  · (simp [results, Try.results21, go_sem, *]; done)
  · repeat (first | (with_reducible assumption) | (with_reducible exact HR1.out.1) | ((with_reducible refine Rd.set_far ?_ ?_ _); (· omega)) | (with_reducible refine Rd.alloc ?_ _) | ((with_reducible refine Rd.keep' (by assumption) ?_ ?_); (· ((try simp) <;> omega))))
  · repeat (first | (with_reducible exact grow_refl _ _) | (with_reducible assumption) | (with_reducible exact HR1.out.2) | ((with_reducible refine grow_set_new ?_ ?_ _); (· ((try simp) <;> omega))) | (with_reducible refine grow_alloc' ?_ _) | (with_reducible refine grow_below ?_ (by assumption)) | (with_reducible refine grow_trans ?_ HR1.out.2) | (with_reducible refine grow_trans ?_ (by assumption)))

set_option maxRecDepth 100000 in
set_option maxHeartbeats 4000000 in
theorem rv_num (g : Nat) (s : ByteArray) (w : World) (h : Rd w g s 0) (hs : s.size ≤ 100000) (h0 : 0 < s.size) (hk : ((s.get! 0).toNat : Int) = 1) (h9 : 9 ≤ s.size) :
    Calls Try.prog 21 #[NX g] w fun e w' => e = .returned (.tuple #[.agg #[.int .i64 1, .int .i64 (numP s 1 8 - 9223372036854775808), .string ⟨#[]⟩], .int .i64 0]) ∧ Rd w' g s 9 ∧ w.grownBy w' (some g) := by
  have H := Lib.hid (And.intro h hk)
  have hgw := h.lt
  clear h hk
  unfold NX
  have HM := Lib.hid (may_int (numP s 1 8 - 9223372036854775808))
  go_enter Try.func21, Try.ntmps21
  go_wp2_with (first
    | (go_at_call 22; refine (next_is 1 g s 0 _ (H.out.1.alloc _) h0 hs H.out.2).mono ?_; rintro e w1 ⟨rfl, hr1, hg1⟩; have HR1 := Lib.hid (And.intro hr1 hg1); have hz1 := hg1.size; (try simp at hz1); have RES := (At3.new (W := w) rfl).keepG hg1 (by omega); have dk := RES.k; have di := RES.i; have ds := RES.s; have f0 := frz_keepG (b := w.heap.size) (o := 0) (by simp [go_sem]) (by simp) hg1 (by omega); have f1 := frz_keepG (b := w.heap.size) (o := 1) (by simp [go_sem]) (by simp) hg1 (by omega); have f2 := frz_keepG (b := w.heap.size) (o := 2) (by simp [go_sem]) (by simp) hg1 (by omega); have HRES := Lib.hid RES; have hn1 : w.heap.size < w1.heap.size := (by omega); have hn1' : w.heap.size < w1.heap.size + 1 := (by omega); clear hr1 hg1 RES)
    | (go_at_call 27; refine ((readNumber_any g s 1 _ (HR1.out.1.alloc _) hs (by omega)).mono (fun _ _ h => h.1 (by omega))).mono ?_; rintro e w2 ⟨rfl, hr2, hg2⟩; have BX := (At3.new (W := w1) rfl).keepG hg2 (by omega); have RS := (HRES.out.alloc _).keepG hg2 (by omega); have pk := BX.k; have pi := BX.i; have ps := BX.s; have qk := RS.k; have qi := RS.i; have qs := RS.s; have u0 := frz_keepG (b := w1.heap.size) (o := 0) (by simp [go_sem]) (by simp) hg2 (by omega); have u1 := frz_keepG (b := w1.heap.size) (o := 1) (by simp [go_sem]) (by simp) hg2 (by omega); have u2 := frz_keepG (b := w1.heap.size) (o := 2) (by simp [go_sem]) (by simp) hg2 (by omega); have v0 := frz_keepG (b := w.heap.size) (o := 0) (frz_alloc f0 hn1 _) (by simp; omega) hg2 (by omega); have v1 := frz_keepG (b := w.heap.size) (o := 1) (frz_alloc f1 hn1 _) (by simp; omega) hg2 (by omega); have v2 := frz_keepG (b := w.heap.size) (o := 2) (frz_alloc f2 hn1 _) (by simp; omega) hg2 (by omega); have hz2 := hg2.size; (try simp at hz2); have hn20 : w.heap.size < w2.heap.size := (by omega); have hn21 : w1.heap.size < w2.heap.size := (by omega); clear BX RS)
    | (go_at_call 12; refine ((mayNot_any _ _ _ _).mono (fun _ _ h => (HM.out ▸ h : _ = Ending.returned (.bool (!true)) ∧ _))).mono ?_; rintro e w4 ⟨rfl, hb4⟩; have hc4 := (bcell hb4).1; have hf4 := (bcell hb4).2; have hz4 := hb4.size; (try simp at hz4); have hn40 : w.heap.size < w4.heap.size := (by omega); have hn41 : w1.heap.size < w4.heap.size := (by omega)))
  refine bodyPost_ret (v := .tuple #[.agg #[.int .i64 1, .int .i64 (numP s 1 8 - 9223372036854775808), .string ⟨#[]⟩], .int .i64 0]) ?_ rfl ⟨rfl, ?_, ?_⟩
  · (simp [results, Try.results21, go_sem, *]; done)
  · repeat (first | (with_reducible assumption) | (with_reducible exact HR1.out.1) | ((with_reducible refine Rd.set_far ?_ ?_ _); (· omega)) | (with_reducible refine Rd.alloc ?_ _) | ((with_reducible refine Rd.keep' (by assumption) ?_ ?_); (· ((try simp) <;> omega))))
  · repeat (first | (with_reducible exact grow_refl _ _) | (with_reducible assumption) | (with_reducible exact HR1.out.2) | ((with_reducible refine grow_set_new ?_ ?_ _); (· ((try simp) <;> omega))) | (with_reducible refine grow_alloc' ?_ _) | (with_reducible refine grow_below ?_ (by assumption)) | (with_reducible refine grow_trans ?_ HR1.out.2) | (with_reducible refine grow_trans ?_ (by assumption)))

set_option maxRecDepth 100000 in
set_option maxHeartbeats 4000000 in
theorem rv_num_short (g : Nat) (s : ByteArray) (w : World) (h : Rd w g s 0) (hs : s.size ≤ 100000) (h0 : 0 < s.size) (hk : ((s.get! 0).toNat : Int) = 1) (h9 : s.size < 9) :
    Calls Try.prog 21 #[NX g] w fun e w' => e = .returned (.tuple #[.agg #[.int .i64 0, .int .i64 0, .string ⟨#[]⟩], .int .i64 17]) ∧ w.grownBy w' (some g) := by
  have H := Lib.hid (And.intro h hk)
  have hgw := h.lt
  clear h hk
  unfold NX
  go_enter Try.func21, Try.ntmps21
  go_wp2_with (first
    | (go_at_call 22; refine (next_is 1 g s 0 _ (H.out.1.alloc _) h0 hs H.out.2).mono ?_; rintro e w1 ⟨rfl, hr1, hg1⟩; have HR1 := Lib.hid (And.intro hr1 hg1); have hz1 := hg1.size; (try simp at hz1); have RES := (At3.new (W := w) rfl).keepG hg1 (by omega); have dk := RES.k; have di := RES.i; have ds := RES.s; have f0 := frz_keepG (b := w.heap.size) (o := 0) (by simp [go_sem]) (by simp) hg1 (by omega); have f1 := frz_keepG (b := w.heap.size) (o := 1) (by simp [go_sem]) (by simp) hg1 (by omega); have f2 := frz_keepG (b := w.heap.size) (o := 2) (by simp [go_sem]) (by simp) hg1 (by omega); have HRES := Lib.hid RES; have hn1 : w.heap.size < w1.heap.size := (by omega); have hn1' : w.heap.size < w1.heap.size + 1 := (by omega); clear hr1 hg1 RES)
    | (go_at_call 27; refine ((readNumber_any g s 1 _ (HR1.out.1.alloc _) hs (by omega)).mono (fun _ _ h => h.2 (by omega))).mono ?_; rintro e w2 ⟨rfl, hg2⟩; have BX := (At3.new (W := w1) rfl).keepG hg2 (by omega); have RS := (HRES.out.alloc _).keepG hg2 (by omega); have pk := BX.k; have pi := BX.i; have ps := BX.s; have qk := RS.k; have qi := RS.i; have qs := RS.s; have u0 := frz_keepG (b := w1.heap.size) (o := 0) (by simp [go_sem]) (by simp) hg2 (by omega); have u1 := frz_keepG (b := w1.heap.size) (o := 1) (by simp [go_sem]) (by simp) hg2 (by omega); have u2 := frz_keepG (b := w1.heap.size) (o := 2) (by simp [go_sem]) (by simp) hg2 (by omega); have v0 := frz_keepG (b := w.heap.size) (o := 0) (frz_alloc f0 hn1 _) (by simp; omega) hg2 (by omega); have v1 := frz_keepG (b := w.heap.size) (o := 1) (frz_alloc f1 hn1 _) (by simp; omega) hg2 (by omega); have v2 := frz_keepG (b := w.heap.size) (o := 2) (frz_alloc f2 hn1 _) (by simp; omega) hg2 (by omega); have hz2 := hg2.size; (try simp at hz2); have hn20 : w.heap.size < w2.heap.size := (by omega); have hn21 : w1.heap.size < w2.heap.size := (by omega); clear BX RS))
  refine bodyPost_ret (v := .tuple #[.agg #[.int .i64 0, .int .i64 0, .string ⟨#[]⟩], .int .i64 17]) ?_ rfl ⟨rfl, ?_⟩
  · (simp [results, Try.results21, go_sem, *]; done)
  · repeat (first | (with_reducible exact grow_refl _ _) | (with_reducible assumption) | (with_reducible exact HR1.out.2) | ((with_reducible refine grow_set_new ?_ ?_ _); (· ((try simp) <;> omega))) | (with_reducible refine grow_alloc' ?_ _) | (with_reducible refine grow_below ?_ (by assumption)) | (with_reducible refine grow_trans ?_ HR1.out.2) | (with_reducible refine grow_trans ?_ (by assumption)))

set_option maxRecDepth 100000 in
set_option maxHeartbeats 4000000 in
theorem rv_truth (g : Nat) (s : ByteArray) (w : World) (h : Rd w g s 0) (hs : s.size ≤ 100000) (h0 : 0 < s.size) (hk : ((s.get! 0).toNat : Int) = 3) (h1 : 1 < s.size) (hm : mayB 3 ((s.get! 1).toNat : Int) ⟨#[]⟩ = true) :
    Calls Try.prog 21 #[NX g] w fun e w' => e = .returned (.tuple #[.agg #[.int .i64 3, .int .i64 ((s.get! 1).toNat : Int), .string ⟨#[]⟩], .int .i64 0]) ∧ Rd w' g s 2 ∧ w.grownBy w' (some g) := by
  have H := Lib.hid (And.intro h hk)
  have hgw := h.lt
  clear h hk
  unfold NX
  have HM := Lib.hid hm
  clear hm
  go_enter Try.func21, Try.ntmps21
  go_wp2_with (first
    | (go_at_call 22; refine (next_is 3 g s 0 _ (H.out.1.alloc _) h0 hs H.out.2).mono ?_; rintro e w1 ⟨rfl, hr1, hg1⟩; have HR1 := Lib.hid (And.intro hr1 hg1); have hz1 := hg1.size; (try simp at hz1); have RES := (At3.new (W := w) rfl).keepG hg1 (by omega); have dk := RES.k; have di := RES.i; have ds := RES.s; have f0 := frz_keepG (b := w.heap.size) (o := 0) (by simp [go_sem]) (by simp) hg1 (by omega); have f1 := frz_keepG (b := w.heap.size) (o := 1) (by simp [go_sem]) (by simp) hg1 (by omega); have f2 := frz_keepG (b := w.heap.size) (o := 2) (by simp [go_sem]) (by simp) hg1 (by omega); have HRES := Lib.hid RES; have hn1 : w.heap.size < w1.heap.size := (by omega); have hn1' : w.heap.size < w1.heap.size + 1 := (by omega); clear hr1 hg1 RES)
    | (go_at_call 29; refine (readTruth_some g s 1 _ (HR1.out.1.alloc _) hs h1).mono ?_; rintro e w2 ⟨rfl, hr2, hg2⟩; have BX := (At3.new (W := w1) rfl).keepG hg2 (by omega); have RS := (HRES.out.alloc _).keepG hg2 (by omega); have pk := BX.k; have pi := BX.i; have ps := BX.s; have qk := RS.k; have qi := RS.i; have qs := RS.s; have u0 := frz_keepG (b := w1.heap.size) (o := 0) (by simp [go_sem]) (by simp) hg2 (by omega); have u1 := frz_keepG (b := w1.heap.size) (o := 1) (by simp [go_sem]) (by simp) hg2 (by omega); have u2 := frz_keepG (b := w1.heap.size) (o := 2) (by simp [go_sem]) (by simp) hg2 (by omega); have v0 := frz_keepG (b := w.heap.size) (o := 0) (frz_alloc f0 hn1 _) (by simp; omega) hg2 (by omega); have v1 := frz_keepG (b := w.heap.size) (o := 1) (frz_alloc f1 hn1 _) (by simp; omega) hg2 (by omega); have v2 := frz_keepG (b := w.heap.size) (o := 2) (frz_alloc f2 hn1 _) (by simp; omega) hg2 (by omega); have hz2 := hg2.size; (try simp at hz2); have hn20 : w.heap.size < w2.heap.size := (by omega); have hn21 : w1.heap.size < w2.heap.size := (by omega); clear BX RS)
    | (go_at_call 12; refine ((mayNot_any _ _ _ _).mono (fun _ _ h => (HM.out ▸ h : _ = Ending.returned (.bool (!true)) ∧ _))).mono ?_; rintro e w4 ⟨rfl, hb4⟩; have hc4 := (bcell hb4).1; have hf4 := (bcell hb4).2; have hz4 := hb4.size; (try simp at hz4); have hn40 : w.heap.size < w4.heap.size := (by omega); have hn41 : w1.heap.size < w4.heap.size := (by omega)))
  refine bodyPost_ret (v := .tuple #[.agg #[.int .i64 3, .int .i64 ((s.get! 1).toNat : Int), .string ⟨#[]⟩], .int .i64 0]) ?_ rfl ⟨rfl, ?_, ?_⟩
  · (simp [results, Try.results21, go_sem, *]; done)
  · repeat (first | (with_reducible assumption) | (with_reducible exact HR1.out.1) | ((with_reducible refine Rd.set_far ?_ ?_ _); (· omega)) | (with_reducible refine Rd.alloc ?_ _) | ((with_reducible refine Rd.keep' (by assumption) ?_ ?_); (· ((try simp) <;> omega))))
  · repeat (first | (with_reducible exact grow_refl _ _) | (with_reducible assumption) | (with_reducible exact HR1.out.2) | ((with_reducible refine grow_set_new ?_ ?_ _); (· ((try simp) <;> omega))) | (with_reducible refine grow_alloc' ?_ _) | (with_reducible refine grow_below ?_ (by assumption)) | (with_reducible refine grow_trans ?_ HR1.out.2) | (with_reducible refine grow_trans ?_ (by assumption)))

set_option maxRecDepth 100000 in
set_option maxHeartbeats 4000000 in
theorem rv_truth_short (g : Nat) (s : ByteArray) (w : World) (h : Rd w g s 0) (hs : s.size ≤ 100000) (h0 : 0 < s.size) (hk : ((s.get! 0).toNat : Int) = 3) (h1 : s.size = 1) :
    Calls Try.prog 21 #[NX g] w fun e w' => e = .returned (.tuple #[.agg #[.int .i64 0, .int .i64 0, .string ⟨#[]⟩], .int .i64 17]) ∧ w.grownBy w' (some g) := by
  have H := Lib.hid (And.intro h hk)
  have hgw := h.lt
  clear h hk
  unfold NX
  go_enter Try.func21, Try.ntmps21
  go_wp2_with (first
    | (go_at_call 22; refine (next_is 3 g s 0 _ (H.out.1.alloc _) h0 hs H.out.2).mono ?_; rintro e w1 ⟨rfl, hr1, hg1⟩; have HR1 := Lib.hid (And.intro hr1 hg1); have hz1 := hg1.size; (try simp at hz1); have RES := (At3.new (W := w) rfl).keepG hg1 (by omega); have dk := RES.k; have di := RES.i; have ds := RES.s; have f0 := frz_keepG (b := w.heap.size) (o := 0) (by simp [go_sem]) (by simp) hg1 (by omega); have f1 := frz_keepG (b := w.heap.size) (o := 1) (by simp [go_sem]) (by simp) hg1 (by omega); have f2 := frz_keepG (b := w.heap.size) (o := 2) (by simp [go_sem]) (by simp) hg1 (by omega); have HRES := Lib.hid RES; have hn1 : w.heap.size < w1.heap.size := (by omega); have hn1' : w.heap.size < w1.heap.size + 1 := (by omega); clear hr1 hg1 RES)
    | (go_at_call 29; refine (readTruth_end g s 1 _ (HR1.out.1.alloc _) hs (by omega)).mono ?_; rintro e w2 ⟨rfl, hr2, hg2⟩; have BX := (At3.new (W := w1) rfl).keepG hg2 (by omega); have RS := (HRES.out.alloc _).keepG hg2 (by omega); have pk := BX.k; have pi := BX.i; have ps := BX.s; have qk := RS.k; have qi := RS.i; have qs := RS.s; have u0 := frz_keepG (b := w1.heap.size) (o := 0) (by simp [go_sem]) (by simp) hg2 (by omega); have u1 := frz_keepG (b := w1.heap.size) (o := 1) (by simp [go_sem]) (by simp) hg2 (by omega); have u2 := frz_keepG (b := w1.heap.size) (o := 2) (by simp [go_sem]) (by simp) hg2 (by omega); have v0 := frz_keepG (b := w.heap.size) (o := 0) (frz_alloc f0 hn1 _) (by simp; omega) hg2 (by omega); have v1 := frz_keepG (b := w.heap.size) (o := 1) (frz_alloc f1 hn1 _) (by simp; omega) hg2 (by omega); have v2 := frz_keepG (b := w.heap.size) (o := 2) (frz_alloc f2 hn1 _) (by simp; omega) hg2 (by omega); have hz2 := hg2.size; (try simp at hz2); have hn20 : w.heap.size < w2.heap.size := (by omega); have hn21 : w1.heap.size < w2.heap.size := (by omega); clear BX RS))
  refine bodyPost_ret (v := .tuple #[.agg #[.int .i64 0, .int .i64 0, .string ⟨#[]⟩], .int .i64 17]) ?_ rfl ⟨rfl, ?_⟩
  · (simp [results, Try.results21, go_sem, *]; done)
  · repeat (first | (with_reducible exact grow_refl _ _) | (with_reducible assumption) | (with_reducible exact HR1.out.2) | ((with_reducible refine grow_set_new ?_ ?_ _); (· ((try simp) <;> omega))) | (with_reducible refine grow_alloc' ?_ _) | (with_reducible refine grow_below ?_ (by assumption)) | (with_reducible refine grow_trans ?_ HR1.out.2) | (with_reducible refine grow_trans ?_ (by assumption)))

set_option maxRecDepth 100000 in
set_option maxHeartbeats 4000000 in
theorem rv_text (g : Nat) (s : ByteArray) (w : World) (h : Rd w g s 0) (hs : s.size ≤ 100000) (h0 : 0 < s.size) (hk : ((s.get! 0).toNat : Int) = 2) (j : Nat) (t : ByteArray) (ht : t = ⟨((s.data.toList.drop 1).take j).toArray⟩) (hj : noNul s 1 j) (hjs : 1 + j < s.size) (hj0 : (s.get! (1 + j)).toNat = 0) (hm : mayB 2 0 t = true) :
    Calls Try.prog 21 #[NX g] w fun e w' => e = .returned (.tuple #[.agg #[.int .i64 2, .int .i64 0, .string t], .int .i64 0]) ∧ Rd w' g s (1 + j + 1) ∧ w.grownBy w' (some g) := by
  have H := Lib.hid (And.intro h hk)
  have hgw := h.lt
  clear h hk
  unfold NX
  have HM := Lib.hid (And.intro hm (And.intro hj hj0))
  have HT := Lib.hid ht
  clear hm hj hj0 ht
  go_enter Try.func21, Try.ntmps21
  go_wp2_with (first
    | (go_at_call 22; refine (next_is 2 g s 0 _ (H.out.1.alloc _) h0 hs H.out.2).mono ?_; rintro e w1 ⟨rfl, hr1, hg1⟩; have HR1 := Lib.hid (And.intro hr1 hg1); have hz1 := hg1.size; (try simp at hz1); have RES := (At3.new (W := w) rfl).keepG hg1 (by omega); have dk := RES.k; have di := RES.i; have ds := RES.s; have f0 := frz_keepG (b := w.heap.size) (o := 0) (by simp [go_sem]) (by simp) hg1 (by omega); have f1 := frz_keepG (b := w.heap.size) (o := 1) (by simp [go_sem]) (by simp) hg1 (by omega); have f2 := frz_keepG (b := w.heap.size) (o := 2) (by simp [go_sem]) (by simp) hg1 (by omega); have HRES := Lib.hid RES; have hn1 : w.heap.size < w1.heap.size := (by omega); have hn1' : w.heap.size < w1.heap.size + 1 := (by omega); clear hr1 hg1 RES)
    | (go_at_call 28; refine ((readText_any g s 1 _ (HR1.out.1.alloc _) hs (by omega)).mono (fun _ _ h => (by have q := h.1 j HM.out.2.1 hjs HM.out.2.2; rw [← HT.out] at q; exact q))).mono ?_; rintro e w2 ⟨rfl, hr2, hg2⟩; have BX := (At3.new (W := w1) rfl).keepG hg2 (by omega); have RS := (HRES.out.alloc _).keepG hg2 (by omega); have pk := BX.k; have pi := BX.i; have ps := BX.s; have qk := RS.k; have qi := RS.i; have qs := RS.s; have u0 := frz_keepG (b := w1.heap.size) (o := 0) (by simp [go_sem]) (by simp) hg2 (by omega); have u1 := frz_keepG (b := w1.heap.size) (o := 1) (by simp [go_sem]) (by simp) hg2 (by omega); have u2 := frz_keepG (b := w1.heap.size) (o := 2) (by simp [go_sem]) (by simp) hg2 (by omega); have v0 := frz_keepG (b := w.heap.size) (o := 0) (frz_alloc f0 hn1 _) (by simp; omega) hg2 (by omega); have v1 := frz_keepG (b := w.heap.size) (o := 1) (frz_alloc f1 hn1 _) (by simp; omega) hg2 (by omega); have v2 := frz_keepG (b := w.heap.size) (o := 2) (frz_alloc f2 hn1 _) (by simp; omega) hg2 (by omega); have hz2 := hg2.size; (try simp at hz2); have hn20 : w.heap.size < w2.heap.size := (by omega); have hn21 : w1.heap.size < w2.heap.size := (by omega); clear BX RS)
    | (go_at_call 12; refine ((mayNot_any _ _ _ _).mono (fun _ _ h => (HM.out.1 ▸ h : _ = Ending.returned (.bool (!true)) ∧ _))).mono ?_; rintro e w4 ⟨rfl, hb4⟩; have hc4 := (bcell hb4).1; have hf4 := (bcell hb4).2; have hz4 := hb4.size; (try simp at hz4); have hn40 : w.heap.size < w4.heap.size := (by omega); have hn41 : w1.heap.size < w4.heap.size := (by omega)))
  refine bodyPost_ret (v := .tuple #[.agg #[.int .i64 2, .int .i64 0, .string t], .int .i64 0]) ?_ rfl ⟨rfl, ?_, ?_⟩
  · (simp [results, Try.results21, go_sem, *]; done)
  · repeat (first | (with_reducible assumption) | (with_reducible exact HR1.out.1) | ((with_reducible refine Rd.set_far ?_ ?_ _); (· omega)) | (with_reducible refine Rd.alloc ?_ _) | ((with_reducible refine Rd.keep' (by assumption) ?_ ?_); (· ((try simp) <;> omega))))
  · repeat (first | (with_reducible exact grow_refl _ _) | (with_reducible assumption) | (with_reducible exact HR1.out.2) | ((with_reducible refine grow_set_new ?_ ?_ _); (· ((try simp) <;> omega))) | (with_reducible refine grow_alloc' ?_ _) | (with_reducible refine grow_below ?_ (by assumption)) | (with_reducible refine grow_trans ?_ HR1.out.2) | (with_reducible refine grow_trans ?_ (by assumption)))

set_option maxRecDepth 100000 in
set_option maxHeartbeats 4000000 in
theorem rv_text_short (g : Nat) (s : ByteArray) (w : World) (h : Rd w g s 0) (hs : s.size ≤ 100000) (h0 : 0 < s.size) (hk : ((s.get! 0).toNat : Int) = 2) (hj : noNul s 1 (s.size - 1)) :
    Calls Try.prog 21 #[NX g] w fun e w' => e = .returned (.tuple #[.agg #[.int .i64 0, .int .i64 0, .string ⟨#[]⟩], .int .i64 17]) ∧ w.grownBy w' (some g) := by
  have H := Lib.hid (And.intro h hk)
  have hgw := h.lt
  clear h hk
  unfold NX
  have HM := Lib.hid hj
  clear hj
  go_enter Try.func21, Try.ntmps21
  go_wp2_with (first
    | (go_at_call 22; refine (next_is 2 g s 0 _ (H.out.1.alloc _) h0 hs H.out.2).mono ?_; rintro e w1 ⟨rfl, hr1, hg1⟩; have HR1 := Lib.hid (And.intro hr1 hg1); have hz1 := hg1.size; (try simp at hz1); have RES := (At3.new (W := w) rfl).keepG hg1 (by omega); have dk := RES.k; have di := RES.i; have ds := RES.s; have f0 := frz_keepG (b := w.heap.size) (o := 0) (by simp [go_sem]) (by simp) hg1 (by omega); have f1 := frz_keepG (b := w.heap.size) (o := 1) (by simp [go_sem]) (by simp) hg1 (by omega); have f2 := frz_keepG (b := w.heap.size) (o := 2) (by simp [go_sem]) (by simp) hg1 (by omega); have HRES := Lib.hid RES; have hn1 : w.heap.size < w1.heap.size := (by omega); have hn1' : w.heap.size < w1.heap.size + 1 := (by omega); clear hr1 hg1 RES)
    | (go_at_call 28; refine ((readText_any g s 1 _ (HR1.out.1.alloc _) hs (by omega)).mono (fun _ _ h => h.2 HM.out)).mono ?_; rintro e w2 ⟨rfl, hg2⟩; have BX := (At3.new (W := w1) rfl).keepG hg2 (by omega); have RS := (HRES.out.alloc _).keepG hg2 (by omega); have pk := BX.k; have pi := BX.i; have ps := BX.s; have qk := RS.k; have qi := RS.i; have qs := RS.s; have u0 := frz_keepG (b := w1.heap.size) (o := 0) (by simp [go_sem]) (by simp) hg2 (by omega); have u1 := frz_keepG (b := w1.heap.size) (o := 1) (by simp [go_sem]) (by simp) hg2 (by omega); have u2 := frz_keepG (b := w1.heap.size) (o := 2) (by simp [go_sem]) (by simp) hg2 (by omega); have v0 := frz_keepG (b := w.heap.size) (o := 0) (frz_alloc f0 hn1 _) (by simp; omega) hg2 (by omega); have v1 := frz_keepG (b := w.heap.size) (o := 1) (frz_alloc f1 hn1 _) (by simp; omega) hg2 (by omega); have v2 := frz_keepG (b := w.heap.size) (o := 2) (frz_alloc f2 hn1 _) (by simp; omega) hg2 (by omega); have hz2 := hg2.size; (try simp at hz2); have hn20 : w.heap.size < w2.heap.size := (by omega); have hn21 : w1.heap.size < w2.heap.size := (by omega); clear BX RS))
  refine bodyPost_ret (v := .tuple #[.agg #[.int .i64 0, .int .i64 0, .string ⟨#[]⟩], .int .i64 17]) ?_ rfl ⟨rfl, ?_⟩
  · (simp [results, Try.results21, go_sem, *]; done)
  · repeat (first | (with_reducible exact grow_refl _ _) | (with_reducible assumption) | (with_reducible exact HR1.out.2) | ((with_reducible refine grow_set_new ?_ ?_ _); (· ((try simp) <;> omega))) | (with_reducible refine grow_alloc' ?_ _) | (with_reducible refine grow_below ?_ (by assumption)) | (with_reducible refine grow_trans ?_ HR1.out.2) | (with_reducible refine grow_trans ?_ (by assumption)))

end Go.Proofs.Ytnahejljelbbgaa
