import Derived.Test.YtmhkmliebhbkdaaGreatX11
import Derived.Test.YtmhkmliebhbkdaaGreatX05
import Derived.Deep.RegionWith
import Derived.RegionTactic
import Derived.Shelf.Strings.SlTrimAscii
import Derived.Laws.AppendOwn
import Derived.Laws.OwnMore
import Derived.Test.YtmhkmliebhbkdaaGreatX06
import Derived.Deep.DeepCutAuto
import Derived.Defers
import Derived.Lib.SmallJoins
import Derived.Lib.AppendStr
import Derived.Lib.UnsafeStr
import Derived.Lib.Builder
import Derived.Lib.Strings
import Derived.Lib.Slices
import Derived.Lib.Walk
import Derived.Laws.Externs
import Derived.Test.YtmhkmliebhbkdaaGreatX03
import Derived.Test.YtmhkmliebhbkdaaGreatX09
import Derived.LoopTactic
import Derived.Test.YtmhkmliebhbkdaaGreatRows
import Derived.ProofKit
import Derived.OpenShut
import Derived.LaidMore
import Derived.Lay
import Derived.SevenTiedAt
import Derived.SizedLaws
import Derived.Stop.Joined
import Derived.Shelf.Vars

/- Tables: what is wrong with a row: schema.Fits. -/
namespace Go.Proofs.YtmhkmliebhbkdaaGreat
open Go.RowKit Go.Lib

def falseB (x : Vl) : Bool := decide (x.k = 3 ∧ x.i = 0 ∧ x.s.toList = [])
/-- What is wrong with a row of m values. -/
def fitsI (n : Nat) (nm : ByteArray) (key : Int) (cols : List Cl) (us : List Int) (rs : List Rf) (t : Ex) (m : Nat) (row : List Vl) : Int :=
  if tableB n nm key cols us rs t = true then (if m = n then (if (row.any fun v => !mayB v.k v.i v.s) = true then 1 else if heldF cols row = 0 then (if falseB (evalT cols row t) = true then 9 else 0) else heldF cols row) else 1) else 1

/-- The box of the table, and what has come since. -/
structure Fbx (w : World) (nm : ByteArray) (A : Option Addr) (n c : Nat) (key : Int) (U : Option Addr) (m cu : Nat) (R : Option Addr) (p cr : Nat) (op : ByteArray) (k i : Int) (vs s : ByteArray) (B : Option Addr) (q d : Nat) (W : World) : Prop where
  below : Below w.heap.size w W
  box : TbAt W w.heap.size nm A n c key U m cu R p cr op k i vs s B q d
theorem Fbx.later {w W W' : World} {nm : ByteArray} {A : Option Addr} {n c : Nat} {key : Int} {U : Option Addr} {m cu : Nat} {R : Option Addr} {p cr : Nat} {op : ByteArray} {k i : Int} {vs s : ByteArray} {B : Option Addr} {q d : Nat} (h : Fbx w nm A n c key U m cu R p cr op k i vs s B q d W) (hb : Below W.heap.size W W') : Fbx w nm A n c key U m cu R p cr op k i vs s B q d W' :=
  ⟨h.below.trans (hb.mono h.below.size), h.box.below hb⟩
set_option maxRecDepth 100000 in
set_option maxHeartbeats 4000000 in
theorem fits_any (nm : ByteArray) (A : Option Addr) (n c : Nat) (key : Int) (U : Option Addr) (m cu : Nat) (R : Option Addr) (p cr : Nat) (op : ByteArray) (k i : Int) (vs s : ByteArray) (B : Option Addr) (q d : Nat) (cols : List Cl) (us : List Int) (rs : List Rf) (l : List Ex) (P : Nat → Prop) (N : Nat) (D : Option Addr) (m2 cv : Nat) (row : List Vl) (hm : m2 ≤ maxLen) (w : World) (ht : TbS w nm A n c key U m cu R p cr op k i vs s B q d cols us rs l P N) (hv : Vals w w.heap.size D m2 row) :
    Calls Tryz.prog 81 #[.agg #[.string nm, .slice A n c, .int .i64 key, .slice U m cu, .slice R p cr, .string op, .int .i64 k, .int .i64 i, .string vs, .string s, .slice B q d], .slice D m2 cv] w fun e w' => e = .returned (.int .i64 (fitsI n nm key cols us rs (.mk op ⟨k, i, vs⟩ s l) m2 row)) ∧ Below w.heap.size w w' := by
  have HA : Hid (TbAt (w.alloc (.cells #[.string nm, .slice A n c, .int .i64 key, .slice U m cu, .slice R p cr, .string op, .int .i64 k, .int .i64 i, .string vs, .string s, .slice B q d] 31)) w.heap.size nm A n c key U m cu R p cr op k i vs s B q d) := ⟨by simp [go_sem], by simp [go_sem], by simp [go_sem], by simp [go_sem], by simp [go_sem], by simp [go_sem], by simp [go_sem], by simp [go_sem], by simp [go_sem], by simp [go_sem], by simp [go_sem]⟩
  have H0 : Hid (Fbx w nm A n c key U m cu R p cr op k i vs s B q d (w.alloc (.cells #[.string nm, .slice A n c, .int .i64 key, .slice U m cu, .slice R p cr, .string op, .int .i64 k, .int .i64 i, .string vs, .string s, .slice B q d] 31))) := ⟨((Below.refl _ _).alloc (Nat.le_refl _) _), HA.out⟩
  have HT := Lib.hid ht
  have HM := Lib.hid (fun (_ : Nat) => tmay6_any nm A n c key U m cu R p cr op k i vs s B q d cols us rs l P N (w.alloc (.cells #[.string nm, .slice A n c, .int .i64 key, .slice U m cu, .slice R p cr, .string op, .int .i64 k, .int .i64 i, .string vs, .string s, .slice B q d] 31)) (ht.below ((Below.refl _ _).alloc (Nat.le_refl _) _)))
  have hv' : ∀ W, Below w.heap.size w W → Vals W W.heap.size D m2 row := fun W hW => (hv.keep hW).more hW.size
  have HR := Lib.hid (fun (W : World) (hW : Below w.heap.size w W) => contains_values D m2 cv row (fun v => !mayB v.k v.i v.s) W (hv' W hW) hm (fun v _ W' _ => fits1_any v W'))
  have HE := Lib.hid (fun (W : World) (hW : Below w.heap.size w W) => evalT_any A n c cols D m2 cv row hm P N (.mk op ⟨k, i, vs⟩ s l) (.slice B q d) W (ht.chk.below hW) (ht.hcols.below hW) (hv' W hW))
  have HV := Lib.hid hv
  unfold EVt at HE
  simp only [Ex.op, Ex.x, Ex.s] at HE
  have hl := ht.len
  have hnc := ht.hcols.1
  have hnm := ht.hcols.2.1
  have hvl := hv.1
  unfold maxLen at hm hnm
  unfold fitsI
  clear ht hv hv'
  generalize (row.any fun v => !mayB v.k v.i v.s) = z3 at HR ⊢
  generalize evalT cols row (.mk op ⟨k, i, vs⟩ s l) = x at HE ⊢
  generalize tableB n nm key cols us rs (.mk op ⟨k, i, vs⟩ s l) = z1 at HM ⊢
  cases z1 with
  | false =>
    rw [if_neg (by decide)]
    go_enter Tryz.func81, Tryz.ntmps81
    go_wp2_with ((go_at_call 27; (with_reducible refine (HM.out 0).mono ?_); rintro e w1 ⟨rfl, hb1⟩; have HB1 := Lib.hid (H0.out.later hb1); have c0 := HB1.out.box.c0; have c1 := HB1.out.box.c1; have c2 := HB1.out.box.c2; have c3 := HB1.out.box.c3; have c4 := HB1.out.box.c4; have c5 := HB1.out.box.c5; have c6 := HB1.out.box.c6; have c7 := HB1.out.box.c7; have c8 := HB1.out.box.c8; have c9 := HB1.out.box.c9; have c10 := HB1.out.box.c10; have hl1 := HB1.out.box.lt; clear hb1))
    go_ret
    exact ⟨rfl, HB1.out.below⟩
  | true =>
    rw [if_pos rfl]
    by_cases h2 : m2 = n
    · subst h2
      rw [if_pos rfl]
      cases z3 with
      | true =>
        rw [if_pos rfl]
        go_enter Tryz.func81, Tryz.ntmps81
        go_wp2_with (first | (go_at_call 27; (with_reducible refine (HM.out 0).mono ?_); rintro e w1 ⟨rfl, hb1⟩; have HB1 := Lib.hid (H0.out.later hb1); have c0 := HB1.out.box.c0; have c1 := HB1.out.box.c1; have c2 := HB1.out.box.c2; have c3 := HB1.out.box.c3; have c4 := HB1.out.box.c4; have c5 := HB1.out.box.c5; have c6 := HB1.out.box.c6; have c7 := HB1.out.box.c7; have c8 := HB1.out.box.c8; have c9 := HB1.out.box.c9; have c10 := HB1.out.box.c10; have hl1 := HB1.out.box.lt; clear hb1) | (go_at_call 122; (with_reducible refine (HR.out _ HB1.out.below).mono ?_); rintro e w2 ⟨rfl, hb2⟩; have HB2 := Lib.hid (HB1.out.later hb2); have c0 := HB2.out.box.c0; have c1 := HB2.out.box.c1; have c2 := HB2.out.box.c2; have c3 := HB2.out.box.c3; have c4 := HB2.out.box.c4; have c5 := HB2.out.box.c5; have c6 := HB2.out.box.c6; have c7 := HB2.out.box.c7; have c8 := HB2.out.box.c8; have c9 := HB2.out.box.c9; have c10 := HB2.out.box.c10; have hl2 := HB2.out.box.lt; clear hb2))
        go_ret
        exact ⟨rfl, HB2.out.below⟩
      | false =>
        rw [if_neg (by decide)]
        obtain ⟨Z, hZ⟩ : ∃ Z, (if heldF cols row = 0 then if falseB x = true then 9 else 0 else heldF cols row) = Z := ⟨_, rfl⟩
        rw [hZ]
        have HZZ := Lib.hid hZ
        clear hZ
        go_enter Tryz.func81, Tryz.ntmps81
        go_wp2_with (first | (go_at_call 27; (with_reducible refine (HM.out 0).mono ?_); rintro e w1 ⟨rfl, hb1⟩; have HB1 := Lib.hid (H0.out.later hb1); have c0 := HB1.out.box.c0; have c1 := HB1.out.box.c1; have c2 := HB1.out.box.c2; have c3 := HB1.out.box.c3; have c4 := HB1.out.box.c4; have c5 := HB1.out.box.c5; have c6 := HB1.out.box.c6; have c7 := HB1.out.box.c7; have c8 := HB1.out.box.c8; have c9 := HB1.out.box.c9; have c10 := HB1.out.box.c10; have hl1 := HB1.out.box.lt; clear hb1) | (go_at_call 122; (with_reducible refine (HR.out _ HB1.out.below).mono ?_); rintro e w2 ⟨rfl, hb2⟩; have HB2 := Lib.hid (HB1.out.later hb2); have c0 := HB2.out.box.c0; have c1 := HB2.out.box.c1; have c2 := HB2.out.box.c2; have c3 := HB2.out.box.c3; have c4 := HB2.out.box.c4; have c5 := HB2.out.box.c5; have c6 := HB2.out.box.c6; have c7 := HB2.out.box.c7; have c8 := HB2.out.box.c8; have c9 := HB2.out.box.c9; have c10 := HB2.out.box.c10; have hl2 := HB2.out.box.lt; clear hb2))
        go_loopw [25] (fun iv wr => ∃ j : Nat, j ≤ m2 ∧ iv = .int .i64 j ∧ Hid (Fbx w nm A m2 c key U m cu R p cr op k i vs s B q d wr) ∧ Hid (heldF cols row = heldF (cols.drop j) (row.drop j))) (fun iv _ => m2 - (intOf iv).toNat)
        case atStart => exact ⟨0, by omega, rfl, HB2, rfl⟩
        case round =>
          obtain ⟨j, hj, rfl, HX, HI⟩ := hrel
          clear c0 c1 c2 c3 c4 c5 c6 c7 c8 c9 c10
          by_cases hlt : j < m2
          · have hjc : j < cols.length := by omega
            have hjr : j < row.length := by omega
            obtain ⟨a, rfl, hE⟩ := HT.out.hcols.2.2 j hjc
            obtain ⟨a2, rfl, hF, hFb⟩ := HV.out.2 j hjr
            have hFb' : (a2.add (j * 3)).block < w.heap.size := by rw [add_block]; exact hFb
            have hF' := hF.keep HX.out.below hFb'
            have hE' := hE.keep (HX.out.below.block _ hE.lt)
            have hEl := hE.lt
            have hzz := HX.out.below.size
            have hbl := HX.out.box.lt
            have hEl' : (a.add (j * 3)).block < wr.heap.size := by omega
            have hFl' : (a2.add (j * 3)).block < wr.heap.size := by omega
            have HDc : Hid (cols.drop j = cols[j] :: cols.drop (j + 1)) := List.drop_eq_getElem_cons hjc
            have HDr : Hid (row.drop j = row[j] :: row.drop (j + 1)) := List.drop_eq_getElem_cons hjr
            have HC := Lib.hid (And.intro hE' hF')
            have HBX := Lib.hid HX.out.box.c1
            clear hE hF hE' hF' hFb
            generalize cols[j] = y at HC HDc
            generalize row[j] = v at HC HDr
            have HH := Lib.hid (fun W => held6_any y v W)
            have HI2 : Hid (heldF cols row = if heldI y v = 0 then heldF (cols.drop (j + 1)) (row.drop (j + 1)) else heldI y v) := Lib.hid (by rw [HI.out, HDc.out, HDr.out]; rfl)
            clear HI
            generalize heldI y v = z at HH HI2
            by_cases hz : z = 0
            · subst hz
              go_upto_region 6 with (fail)
              refine detL_begin [.val (.pointer (some ⟨w.heap.size, 1, none⟩)), .val (.slice (some a) m2 c), .val (.int .i64 j), .val (.pointer (some (a.add (j * 3)))), .val (.agg #[.string y.n, .int .i64 y.t, .bool y.b]), .val (.slice (some a2) m2 cv), .val (.int .i64 j), .val (.pointer (some (a2.add (j * 3)))), .val (.agg #[.int .i64 v.k, .int .i64 v.i, .string v.s]), .val (.int .i64 0), .val (.int .i64 0)] 11 (by kernel_rfl) ?_
              refine detL_val (by kernel_rfl) (yields_of rfl fun w1 hb1 => ?_) ?_
              · skip
                clear hb1
                go_simp
                exact Det1_same
              simp only [Act.put, List.setIfInBounds_toArray, List.set_cons_zero, List.set_cons_succ]
              refine detL_val (by kernel_rfl) (yields_of rfl fun w1 hb1 => ?_) ?_
              · skip
                have m0 := (hb1.cell (p := ⟨w.heap.size, 1, none⟩) hbl).trans HBX.out
                clear hb1
                go_simp
                exact Det1_same
              simp only [Act.put, List.setIfInBounds_toArray, List.set_cons_zero, List.set_cons_succ]
              refine detL_val (by kernel_rfl) (yields_of rfl fun w1 hb1 => ?_) ?_
              · skip
                clear hb1
                go_simp
                exact Det1_same
              simp only [Act.put, List.setIfInBounds_toArray, List.set_cons_zero, List.set_cons_succ]
              refine detL_val (by kernel_rfl) (yields_of rfl fun w1 hb1 => ?_) ?_
              · skip
                clear hb1
                go_simp
                exact Det1_same
              simp only [Act.put, List.setIfInBounds_toArray, List.set_cons_zero, List.set_cons_succ]
              refine detL_val (by kernel_rfl) (yields_of rfl fun w1 hb1 => ?_) ?_
              · skip
                have m1 := HC.out.1.keep (hb1.block _ hEl')
                have m2' := m1.c0
                have m3' := m1.c1
                have m4' := m1.c2
                clear m1
                clear hb1
                go_simp
                exact Det1_same
              simp only [Act.put, List.setIfInBounds_toArray, List.set_cons_zero, List.set_cons_succ]
              refine detL_val (by kernel_rfl) (yields_of rfl fun w1 hb1 => ?_) ?_
              · skip
                clear hb1
                go_simp
                exact Det1_same
              simp only [Act.put, List.setIfInBounds_toArray, List.set_cons_zero, List.set_cons_succ]
              refine detL_val (by kernel_rfl) (yields_of rfl fun w1 hb1 => ?_) ?_
              · skip
                clear hb1
                go_simp
                exact Det1_same
              simp only [Act.put, List.setIfInBounds_toArray, List.set_cons_zero, List.set_cons_succ]
              refine detL_val (by kernel_rfl) (yields_of rfl fun w1 hb1 => ?_) ?_
              · skip
                clear hb1
                go_simp
                exact Det1_same
              simp only [Act.put, List.setIfInBounds_toArray, List.set_cons_zero, List.set_cons_succ]
              refine detL_val (by kernel_rfl) (yields_of rfl fun w1 hb1 => ?_) ?_
              · skip
                have m1 := HC.out.2.keep (show Below wr.heap.size wr w1 from (Below.refl wr.heap.size wr).drew.trans hb1) hFl'
                have m2' := m1.k
                have m3' := m1.i
                have m4' := m1.s
                clear m1
                clear hb1
                go_simp
                exact Det1_same
              simp only [Act.put, List.setIfInBounds_toArray, List.set_cons_zero, List.set_cons_succ]
              refine detL_val (by kernel_rfl) (yields_of rfl fun w1 hb1 => ?_) ?_
              · skip
                clear hb1
                go_simp
                exact Det1_enter (HH.out _)
              simp only [Act.put, List.setIfInBounds_toArray, List.set_cons_zero, List.set_cons_succ]
              refine detL_val (by kernel_rfl) (yields_of rfl fun w1 hb1 => ?_) ?_
              · skip
                clear hb1
                go_simp
                exact Det1_same
              simp only [Act.put, List.setIfInBounds_toArray, List.set_cons_zero, List.set_cons_succ]
              refine detL_done (by kernel_rfl) fun w1 hw1 => ?_
              have HX1 : Hid (Fbx w nm (some a) m2 c key U m cu R p cr op k i vs s B q d w1) := HX.out.later ((Below.refl wr.heap.size wr).drew.trans hw1.below)
              clear hw1
              go_wp2
              go_roundw
              case rel => exact ⟨j + 1, by omega, by go_num, HX1, Lib.hid (by rw [HI2.out, if_pos rfl])⟩
              case measure => simp [intOf]; omega
            · have q1 : (z != 0) = true := by simp [hz]
              have HZ := Lib.hid hz
              clear hz
              go_upto_region 6 with (fail)
              refine detL_begin [.val (.pointer (some ⟨w.heap.size, 1, none⟩)), .val (.slice (some a) m2 c), .val (.int .i64 j), .val (.pointer (some (a.add (j * 3)))), .val (.agg #[.string y.n, .int .i64 y.t, .bool y.b]), .val (.slice (some a2) m2 cv), .val (.int .i64 j), .val (.pointer (some (a2.add (j * 3)))), .val (.agg #[.int .i64 v.k, .int .i64 v.i, .string v.s]), .val (.int .i64 z), .val (.int .i64 z)] 11 (by kernel_rfl) ?_
              refine detL_val (by kernel_rfl) (yields_of rfl fun w1 hb1 => ?_) ?_
              · skip
                clear hb1
                go_simp
                exact Det1_same
              simp only [Act.put, List.setIfInBounds_toArray, List.set_cons_zero, List.set_cons_succ]
              refine detL_val (by kernel_rfl) (yields_of rfl fun w1 hb1 => ?_) ?_
              · skip
                have m0 := (hb1.cell (p := ⟨w.heap.size, 1, none⟩) hbl).trans HBX.out
                clear hb1
                go_simp
                exact Det1_same
              simp only [Act.put, List.setIfInBounds_toArray, List.set_cons_zero, List.set_cons_succ]
              refine detL_val (by kernel_rfl) (yields_of rfl fun w1 hb1 => ?_) ?_
              · skip
                clear hb1
                go_simp
                exact Det1_same
              simp only [Act.put, List.setIfInBounds_toArray, List.set_cons_zero, List.set_cons_succ]
              refine detL_val (by kernel_rfl) (yields_of rfl fun w1 hb1 => ?_) ?_
              · skip
                clear hb1
                go_simp
                exact Det1_same
              simp only [Act.put, List.setIfInBounds_toArray, List.set_cons_zero, List.set_cons_succ]
              refine detL_val (by kernel_rfl) (yields_of rfl fun w1 hb1 => ?_) ?_
              · skip
                have m1 := HC.out.1.keep (hb1.block _ hEl')
                have m2' := m1.c0
                have m3' := m1.c1
                have m4' := m1.c2
                clear m1
                clear hb1
                go_simp
                exact Det1_same
              simp only [Act.put, List.setIfInBounds_toArray, List.set_cons_zero, List.set_cons_succ]
              refine detL_val (by kernel_rfl) (yields_of rfl fun w1 hb1 => ?_) ?_
              · skip
                clear hb1
                go_simp
                exact Det1_same
              simp only [Act.put, List.setIfInBounds_toArray, List.set_cons_zero, List.set_cons_succ]
              refine detL_val (by kernel_rfl) (yields_of rfl fun w1 hb1 => ?_) ?_
              · skip
                clear hb1
                go_simp
                exact Det1_same
              simp only [Act.put, List.setIfInBounds_toArray, List.set_cons_zero, List.set_cons_succ]
              refine detL_val (by kernel_rfl) (yields_of rfl fun w1 hb1 => ?_) ?_
              · skip
                clear hb1
                go_simp
                exact Det1_same
              simp only [Act.put, List.setIfInBounds_toArray, List.set_cons_zero, List.set_cons_succ]
              refine detL_val (by kernel_rfl) (yields_of rfl fun w1 hb1 => ?_) ?_
              · skip
                have m1 := HC.out.2.keep (show Below wr.heap.size wr w1 from (Below.refl wr.heap.size wr).drew.trans hb1) hFl'
                have m2' := m1.k
                have m3' := m1.i
                have m4' := m1.s
                clear m1
                clear hb1
                go_simp
                exact Det1_same
              simp only [Act.put, List.setIfInBounds_toArray, List.set_cons_zero, List.set_cons_succ]
              refine detL_val (by kernel_rfl) (yields_of rfl fun w1 hb1 => ?_) ?_
              · skip
                clear hb1
                go_simp
                exact Det1_enter (HH.out _)
              simp only [Act.put, List.setIfInBounds_toArray, List.set_cons_zero, List.set_cons_succ]
              refine detL_val (by kernel_rfl) (yields_of rfl fun w1 hb1 => ?_) ?_
              · skip
                clear hb1
                go_simp
                exact Det1_same
              simp only [Act.put, List.setIfInBounds_toArray, List.set_cons_zero, List.set_cons_succ]
              refine detL_done (by kernel_rfl) fun w1 hw1 => ?_
              have HX1 : Hid (Fbx w nm (some a) m2 c key U m cu R p cr op k i vs s B q d w1) := HX.out.later ((Below.refl wr.heap.size wr).drew.trans hw1.below)
              clear hw1
              go_wp2
              go_ret
              exact ⟨congrArg (fun b => Ending.returned (Value.int .i64 b)) (show z = Z from by rw [← HZZ.out, HI2.out, if_neg HZ.out, if_neg HZ.out]), HX1.out.below⟩
          · have hjm : m2 = j := by omega
            subst hjm
            have H00 : heldF cols row = 0 := by rw [HI.out, List.drop_of_length_le (by omega), List.drop_of_length_le (by omega)]; rfl
            have HZ2 : Hid ((if falseB x = true then 9 else 0) = Z) := by
              have := HZZ.out
              rw [H00, if_pos rfl] at this
              exact this
            have HEX := Lib.hid (HE.out wr HX.out.below)
            have c0 := HX.out.box.c0; have c1 := HX.out.box.c1; have c2 := HX.out.box.c2; have c3 := HX.out.box.c3; have c4 := HX.out.box.c4; have c5 := HX.out.box.c5; have c6 := HX.out.box.c6; have c7 := HX.out.box.c7; have c8 := HX.out.box.c8; have c9 := HX.out.box.c9; have c10 := HX.out.box.c10
            have hbl := HX.out.box.lt
            clear H00 HZZ HI
            go_wp2_with (go_at_call 33; (with_reducible refine HEX.out.mono ?_); rintro e w3 ⟨rfl, hb3⟩; have HB3 : Hid (Below w.heap.size w w3) := HX.out.below.trans (hb3.mono HX.out.below.size); clear hb3)
            all_goals go_ret
            all_goals exact ⟨congrArg (fun b => Ending.returned (Value.int .i64 b)) (show _ = Z from by rw [← HZ2.out]; simp [falseB, *]), HB3.out⟩
    · rw [if_neg h2]
      have q1 : ((m2 : Int) != (n : Int)) = true := by simp; omega
      go_enter Tryz.func81, Tryz.ntmps81
      go_wp2_with ((go_at_call 27; (with_reducible refine (HM.out 0).mono ?_); rintro e w1 ⟨rfl, hb1⟩; have HB1 := Lib.hid (H0.out.later hb1); have c0 := HB1.out.box.c0; have c1 := HB1.out.box.c1; have c2 := HB1.out.box.c2; have c3 := HB1.out.box.c3; have c4 := HB1.out.box.c4; have c5 := HB1.out.box.c5; have c6 := HB1.out.box.c6; have c7 := HB1.out.box.c7; have c8 := HB1.out.box.c8; have c9 := HB1.out.box.c9; have c10 := HB1.out.box.c10; have hl1 := HB1.out.box.lt; clear hb1))
      go_ret
      exact ⟨rfl, HB1.out.below⟩

end Go.Proofs.YtmhkmliebhbkdaaGreat

/- The token with which a text begins. -/
namespace Go.Proofs.YtmhkmliebhbkdaaGreat
open Go.RowKit Go.Lib

end Go.Proofs.YtmhkmliebhbkdaaGreat

/- The token with which a text begins: first. -/
namespace Go.Proofs.YtmhkmliebhbkdaaGreat
open Go.RowKit Go.Lib

/-- The result's box, while the kinds are gone through. -/
structure W2 (w W : World) : Prop where
  below : Below w.heap.size w W
  r0 : W.cell? ⟨w.heap.size, 0, none⟩ = some (.int .i64 0)
  r1 : W.cell? ⟨w.heap.size, 1, none⟩ = some (.string ⟨#[]⟩)
  f : ∀ o, W.frozen? ⟨w.heap.size, o, none⟩ = false
theorem W2.lt {w W : World} (h : W2 w W) : w.heap.size < W.heap.size := World.block_lt_of_cell? _ _ h.r0
theorem W2.later {w W W' : World} (h : W2 w W) (hb : Below W.heap.size W W') : W2 w W' :=
  ⟨h.below.trans (hb.mono h.below.size), (hb.cell (p := ⟨_, _, none⟩) h.lt).trans h.r0, (hb.cell (p := ⟨_, _, none⟩) h.lt).trans h.r1, fun o => (hb.frozen (p := ⟨_, o, none⟩) h.lt).trans (h.f o)⟩
theorem W2.alloc {w W : World} (h : W2 w W) (o : Obj) : W2 w (W.alloc o) := h.later ((Below.refl _ _).alloc (Nat.le_refl _) o)
theorem W2.start (w : World) (t : TypeId) : W2 w (w.alloc (.cells #[.int .i64 0, .string ⟨#[]⟩] t)) :=
  ⟨(Below.refl _ _).alloc (Nat.le_refl _) _, by simp [go_sem], by simp [go_sem], fun o => by simp [go_sem]⟩
theorem tog_zero {p q : UInt8 → Bool} {c : UInt8} {r : List UInt8} (h : p c = false) : tog p q (c :: r) = 0 := by rw [tog, h]; rfl
theorem tog_on {p q : UInt8 → Bool} {c : UInt8} {r : List UInt8} (h : p c = true) : tog p q (c :: r) = 1 + (r.takeWhile q).length := by rw [tog, h]; rfl
end Go.Proofs.YtmhkmliebhbkdaaGreat

/- Rows of tokens in memory; Cut. -/
namespace Go.Proofs.YtmhkmliebhbkdaaGreat
open Go.RowKit Go.Lib

def Tk.cells (x : Tk) : List Value := [.int .i64 x.k, .string ⟨x.s.toArray⟩]
end Go.Proofs.YtmhkmliebhbkdaaGreat

/- Rows of tokens: Same; the law's few; the chapter's examples (awake). -/
namespace Go.Proofs.YtmhkmliebhbkdaaGreat
open Go.RowKit Go.Lib

theorem add_blk (a : Addr) (n : Nat) : (a.add n).block = a.block := by unfold Addr.add; split <;> rfl
/-- Token x lies at this address. -/
structure TkAt (W : World) (a : Addr) (x : Tk) : Prop where
  k : W.cell? a = some (.int .i64 x.k)
  s : W.cell? ⟨a.block, a.off + 1, none⟩ = some (.string ⟨x.s.toArray⟩)
theorem TkAt.keep {W W' : World} {a : Addr} {x : Tk} {B : Nat} (h : TkAt W a x) (hb : Below B W W') (hB : a.block < B) : TkAt W' a x :=
  ⟨(hb.cell hB).trans h.k, (hb.cell (p := ⟨a.block, _, none⟩) hB).trans h.s⟩
theorem TkAt.det {W W' : World} {a : Addr} {x : Tk} (h : TkAt W a x) (hb : Below W.drew.heap.size W.drew W') (hB : a.block < W.heap.size) : TkAt W' a x :=
  ⟨(hb.cell (p := a) hB).trans h.k, (hb.cell (p := ⟨a.block, _, none⟩) hB).trans h.s⟩
/-- The slice of n elements at A reads as these tokens; it lies below block B. -/
def Toks (W : World) (B : Nat) (A : Option Addr) (n : Nat) (l : List Tk) : Prop :=
  l.length = n ∧ ∀ j (h : j < l.length), ∃ a, A = some a ∧ TkAt W (a.add (j * 2)) l[j] ∧ a.block < B
theorem Toks.keep {W W' : World} {B : Nat} {A : Option Addr} {n : Nat} {l : List Tk} (h : Toks W B A n l) (hb : Below B W W') : Toks W' B A n l :=
  ⟨h.1, fun j hj => by
    obtain ⟨a, e, h1, h2⟩ := h.2 j hj
    exact ⟨a, e, h1.keep hb (by rw [add_blk]; exact h2), h2⟩⟩
theorem Toks.more {W : World} {B B' : Nat} {A : Option Addr} {n : Nat} {l : List Tk} (h : Toks W B A n l) (hB : B ≤ B') : Toks W B' A n l :=
  ⟨h.1, fun j hj => by
    obtain ⟨a, e, h1, h2⟩ := h.2 j hj
    exact ⟨a, e, h1, by omega⟩⟩
theorem Toks.later {W W' : World} {A : Option Addr} {n : Nat} {l : List Tk} (h : Toks W W.heap.size A n l) (hb : Below W.heap.size W W') : Toks W' W'.heap.size A n l := (h.keep hb).more hb.size
theorem Toks.at_ {W : World} {B : Nat} {A : Option Addr} {n : Nat} {l : List Tk} (h : Toks W B A n l) {k : Nat} (hk : k < n) : ∃ a x, A = some a ∧ l[k]? = some x ∧ TkAt W (a.add (k * 2)) x ∧ a.block < B := by
  obtain ⟨h1, h2⟩ := h
  obtain ⟨a, e, h3, h4⟩ := h2 k (by omega)
  exact ⟨a, l[k]'(by omega), e, List.getElem?_eq_getElem _, h3, h4⟩
end Go.Proofs.YtmhkmliebhbkdaaGreat

/- The chapter's examples (awake). -/
namespace Go.Proofs.YtmhkmliebhbkdaaGreat
open Go.RowKit Go.Lib

theorem Toks.alloc {W : World} {A : Option Addr} {n : Nat} {l : List Tk} (h : Toks W W.heap.size A n l) (o : Obj) : Toks (W.alloc o) (W.alloc o).heap.size A n l := h.later ((Below.refl _ _).alloc (Nat.le_refl _) o)
end Go.Proofs.YtmhkmliebhbkdaaGreat

/- May a token be. -/
namespace Go.Proofs.YtmhkmliebhbkdaaGreat
open Go.RowKit Go.Lib

/-- May a token be? -/
def tmayB (k : Int) (s : ByteArray) : Bool :=
  if k = 3 then mayB 2 0 s else if k = 1 then kmay letB parB 16 s.data.toList else if k = 2 then kmay digB digB 19 s.data.toList else if k = 4 then kmay sigB nonB 1 s.data.toList else false
/-- The token's box, while the kinds are gone through. -/
structure TB (w : World) (k : Int) (s : ByteArray) (W : World) : Prop where
  below : Below w.heap.size w W
  c0 : W.cell? ⟨w.heap.size, 0, none⟩ = some (.int .i64 k)
  c1 : W.cell? ⟨w.heap.size, 1, none⟩ = some (.string s)
theorem TB.lt {w W : World} {k : Int} {s : ByteArray} (h : TB w k s W) : w.heap.size < W.heap.size := World.block_lt_of_cell? _ _ h.c0
theorem TB.later {w W W' : World} {k : Int} {s : ByteArray} (h : TB w k s W) (hb : Below W.heap.size W W') : TB w k s W' :=
  ⟨h.below.trans (hb.mono h.below.size), (hb.cell (p := ⟨_, _, none⟩) h.lt).trans h.c0, (hb.cell (p := ⟨_, _, none⟩) h.lt).trans h.c1⟩
theorem TB.alloc {w W : World} {k : Int} {s : ByteArray} (h : TB w k s W) (o : Obj) : TB w k s (W.alloc o) := h.later ((Below.refl _ _).alloc (Nat.le_refl _) o)
theorem TB.start (w : World) (k : Int) (s : ByteArray) (t : TypeId) : TB w k s (w.alloc (.cells #[.int .i64 k, .string s] t)) :=
  ⟨(Below.refl _ _).alloc (Nat.le_refl _) _, by simp [go_sem], by simp [go_sem]⟩

end Go.Proofs.YtmhkmliebhbkdaaGreat

/- The parser: its state, the token at hand. -/
namespace Go.Proofs.YtmhkmliebhbkdaaGreat
open Go.RowKit Go.Lib

structure Tn where
  k : Int
  s : ByteArray
structure TnAt (W : World) (a : Addr) (x : Tn) : Prop where
  c0 : W.cell? a = some (.int .i64 x.k)
  c1 : W.cell? ⟨a.block, a.off + 1, none⟩ = some (.string x.s)
theorem TnAt.lt {W : World} {a : Addr} {x : Tn} (h : TnAt W a x) : a.block < W.heap.size := World.block_lt_of_cell? W _ h.c0
theorem TnAt.keep {W W' : World} {a : Addr} {x : Tn} (h : TnAt W a x) (hb : W'.heap[a.block]? = W.heap[a.block]?) : TnAt W' a x :=
  ⟨(World.cell?_of_block (w := W) (a := a) hb).trans h.c0, (World.cell?_of_block (w := W) (a := ⟨a.block, _, none⟩) hb).trans h.c1⟩

section
variable {W W' : World} {g : Nat} {A : Option Addr} {c : Nat} {l : List Tn} {at' ask : Nat} {failed : Bool}
end

end Go.Proofs.YtmhkmliebhbkdaaGreat

/- The parser: what it takes; where it fails; what is checked. -/
namespace Go.Proofs.YtmhkmliebhbkdaaGreat
open Go.RowKit Go.Lib

theorem cSet6 {a b : World} {n k : Nat} (hn : n ≤ k) (h : Below n a b) (x y z u v r : Value) : Below n a ((((((b.setCell ⟨k, 0, none⟩ x).setCell ⟨k, 1, none⟩ y).setCell ⟨k, 2, none⟩ z).setCell ⟨k, 3, none⟩ u).setCell ⟨k, 4, none⟩ v).setCell ⟨k, 5, none⟩ r) :=
  (((((h.setCell hn x).setCell hn y).setCell hn z).setCell hn u).setCell hn v).setCell hn r
def set6 (W : World) (b : Nat) (x y z u v r : Value) : World := (((((W.setCell ⟨b, 0, none⟩ x).setCell ⟨b, 1, none⟩ y).setCell ⟨b, 2, none⟩ z).setCell ⟨b, 3, none⟩ u).setCell ⟨b, 4, none⟩ v).setCell ⟨b, 5, none⟩ r
theorem set6_block (W : World) (b : Nat) (x y z u v r : Value) {q : Nat} (h : q ≠ b) : (set6 W b x y z u v r).heap[q]? = W.heap[q]? := by
  unfold set6
  iterate 6 rw [Below.heap_setCell _ _ _ _ (by exact h)]
theorem set6_size (W : World) (b : Nat) (x y z u v r : Value) : (set6 W b x y z u v r).heap.size = W.heap.size := by simp [set6, World.setCell]
theorem Tr.set6 {W : World} {P Q : Nat → Prop} {n : Nat} {t : Ex} {y' : Value} (h : Tr W P n t y') {b : Nat} (hb : ¬ P b) (hq : ∀ b, P b → b < W.heap.size → Q b) (x y z u v r : Value) : Tr (set6 W b x y z u v r) Q n t y' :=
  h.keep (fun q hp _ => set6_block _ _ _ _ _ _ _ _ (fun e => hb (e ▸ hp))) hq

/-- No expression. -/
def zT : Ex := .mk ⟨#[]⟩ ⟨0, 0, ⟨#[]⟩⟩ ⟨#[]⟩ []
/-- A slice reads as these words. -/
def Wds (W : World) (b : Nat) (ws : List ByteArray) : Prop := ∀ j (h : j < ws.length), W.cell? ⟨b, j, none⟩ = some (.string ws[j])
theorem Wds.below {W W' : World} {b : Nat} {ws : List ByteArray} (h : Wds W b ws) (hb : Below W.heap.size W W') : Wds W' b ws := fun j hj => (hb.cell (p := ⟨b, j, none⟩) (World.block_lt_of_cell? W _ (h j hj))).trans (h j hj)

end Go.Proofs.YtmhkmliebhbkdaaGreat

/- The parser: the part that must follow; parts in a chain. -/
namespace Go.Proofs.YtmhkmliebhbkdaaGreat
open Go.RowKit Go.Lib

theorem alloc_at {W : World} {n : Nat} (h : W.heap.size = n) (o : Obj) : (W.alloc o).heap[n]? = some o := by
  subst h
  show (W.heap.push o)[W.heap.size]? = _
  simp
end Go.Proofs.YtmhkmliebhbkdaaGreat

/- The parser: where nothing goes on. -/
namespace Go.Proofs.YtmhkmliebhbkdaaGreat
open Go.RowKit Go.Lib

end Go.Proofs.YtmhkmliebhbkdaaGreat

/- The parser: a comparison. -/
namespace Go.Proofs.YtmhkmliebhbkdaaGreat
open Go.RowKit Go.Lib

end Go.Proofs.YtmhkmliebhbkdaaGreat

/- The parser: a word, a number, an atom that does not stand in brackets. -/
namespace Go.Proofs.YtmhkmliebhbkdaaGreat
open Go.RowKit Go.Lib

def litT (x : Vl) : Ex := .mk ⟨#[108, 105, 116]⟩ x ⟨#[]⟩ []
def colT (s : ByteArray) : Ex := .mk ⟨#[99, 111, 108]⟩ ⟨0, 0, ⟨#[]⟩⟩ s []
theorem leaf_tr (W : World) (P : Nat → Prop) (n : Nat) (op : ByteArray) (x : Vl) (s : ByteArray) (hs : s.size ≤ 100000) : Tr W P n (.mk op x s []) (.slice none 0 0) := by
  refine ⟨hs, ?_⟩
  cases n with
  | zero => exact ⟨rfl, none, 0, rfl⟩
  | succ n => exact ⟨none, 0, rfl, by simp [Ex.l, maxLen], fun j hj => absurd hj (by simp [Ex.l])⟩

end Go.Proofs.YtmhkmliebhbkdaaGreat

/- The parser: an atom that does not stand in brackets. -/
namespace Go.Proofs.YtmhkmliebhbkdaaGreat
open Go.RowKit Go.Lib

end Go.Proofs.YtmhkmliebhbkdaaGreat

/- The parser: an atom. -/
namespace Go.Proofs.YtmhkmliebhbkdaaGreat
open Go.RowKit Go.Lib

end Go.Proofs.YtmhkmliebhbkdaaGreat

/- The parser: a sum, an and, an or, a not. -/
namespace Go.Proofs.YtmhkmliebhbkdaaGreat
open Go.RowKit Go.Lib

end Go.Proofs.YtmhkmliebhbkdaaGreat

/- What is written is cut as it was: plain facts, no walk. -/
namespace Go.Proofs.YtmhkmliebhbkdaaGreat
open Go.RowKit Go.Lib

def Tk.may (t : Tk) : Bool := tmayB t.k ⟨t.s.toArray⟩
/-- What may stand behind a token: nothing, or a blank. -/
def After (r : List UInt8) : Prop := ∀ c, r.head? = some c → blankB c = true
theorem blank_is {c : UInt8} (h : blankB c = true) : c = 32 ∨ c = 10 := by
  have := List.contains_iff_mem.1 h
  simpa using this
theorem After.nil : After [] := fun c h => by cases h
theorem After.cons {c : UInt8} (h : blankB c = true) (r : List UInt8) : After (c :: r) := fun d hd => by simp at hd; rw [← hd]; exact h
theorem After.q {r : List UInt8} (h : After r) : r.head? ≠ some 39 := fun e => by rcases blank_is (h 39 e) with h | h <;> exact absurd h (by decide)
theorem After.no {r : List UInt8} (h : After r) (q : UInt8 → Bool) (h1 : q 32 = false) (h2 : q 10 = false) : r.takeWhile q = [] := by
  cases r with
  | nil => rfl
  | cons c r =>
    rw [List.takeWhile_cons]
    rcases blank_is (h c rfl) with e | e
    · rw [e, h1]; rfl
    · rw [e, h2]; rfl
end Go.Proofs.YtmhkmliebhbkdaaGreat

/- Join: tokens as they are written. -/
namespace Go.Proofs.YtmhkmliebhbkdaaGreat
open Go.RowKit Go.Lib

theorem Toks.none (W : World) (B : Nat) : Toks W B none 0 [] := ⟨rfl, fun j hj => absurd hj (by simp)⟩
end Go.Proofs.YtmhkmliebhbkdaaGreat

/- Writing into a builder that the call has made: a string, an octet. -/
namespace Go.Proofs.YtmhkmliebhbkdaaGreat
open Go.RowKit Go.Lib

end Go.Proofs.YtmhkmliebhbkdaaGreat

/- nothing more of the shelf is wanted here -/

/- strings.ToLower at the two words that are wanted. -/
namespace Go.Proofs.YtmhkmliebhbkdaaGreat
open Go.RowKit Go.Lib

end Go.Proofs.YtmhkmliebhbkdaaGreat

/- The parser: two parts with a word between. -/
namespace Go.Proofs.YtmhkmliebhbkdaaGreat
open Go.RowKit Go.Lib

def twoT (op : ByteArray) (x y : Ex) : Ex := .mk op ⟨0, 0, ⟨#[]⟩⟩ ⟨#[]⟩ [x, y]
section
variable {w W W' : World} {g : Nat} {A : Option Addr} {c : Nat} {l : List Tn} {N : Nat} {Q : Nat → Prop} {t t2 : Ex} {u u2 : Value} {at' ask : Nat} {failed : Bool}
end
end Go.Proofs.YtmhkmliebhbkdaaGreat

/- The parser: a chain of two; a comparison that goes on. -/
namespace Go.Proofs.YtmhkmliebhbkdaaGreat
open Go.RowKit Go.Lib

end Go.Proofs.YtmhkmliebhbkdaaGreat

/- The parser: a comparison that goes on. -/
namespace Go.Proofs.YtmhkmliebhbkdaaGreat
open Go.RowKit Go.Lib

end Go.Proofs.YtmhkmliebhbkdaaGreat

/- The parser: NOT; Parse. -/
namespace Go.Proofs.YtmhkmliebhbkdaaGreat
open Go.RowKit Go.Lib

end Go.Proofs.YtmhkmliebhbkdaaGreat

/- Join. -/
namespace Go.Proofs.YtmhkmliebhbkdaaGreat
open Go.RowKit Go.Lib

end Go.Proofs.YtmhkmliebhbkdaaGreat

/- The law LexerAgain. -/
namespace Go.Proofs.YtmhkmliebhbkdaaGreat
open Go.RowKit Go.Lib

end Go.Proofs.YtmhkmliebhbkdaaGreat

/- The document's own: digit, letter, part, Name, May. -/
namespace Go.Proofs.YtmhkmliebhbkdaaGreat
open Go.RowKit Go.Lib

set_option maxRecDepth 100000 in
set_option maxHeartbeats 800000 in
theorem rletter_any (b : UInt8) (w : World) :
    Calls Tryz.prog 129 #[.int .u8 (b.toNat : Int)] w fun e w' => e = .returned (.bool (letB b)) ∧ Below w.heap.size w w' := by
  go_enter Tryz.func129, Tryz.ntmps129
  go_wp2
  all_goals
    go_ret
    refine ⟨ret_bool ?_, ?_⟩
    · (first | (simp [letB, *]; done) | (simp [letB, *]; rw [Bool.eq_iff_iff]; simp; omega) | (simp [letB, *]; omega) | (unfold letB; rw [Bool.eq_iff_iff]; simp; omega) | (unfold letB; simp_all <;> omega))
    · (first | exact hb1.trans (hb2.mono hb1.size) | exact hb1 | (repeat (first | (with_reducible exact Below.refl _ _) | ((with_reducible refine cSet3 ?_ ?_ _ _ _); (· ((try simp) <;> omega))) | (with_reducible refine Below.drew ?_) | ((with_reducible refine cAlloc ?_ ?_ _); (· ((try simp) <;> omega))) | ((with_reducible refine cOn (by assumption) ?_ ?_); (· ((try simp) <;> omega))))))

set_option maxRecDepth 100000 in
set_option maxHeartbeats 800000 in
theorem rdigit3_any (b : UInt8) (w : World) :
    Calls Tryz.prog 155 #[.int .u8 (b.toNat : Int)] w fun e w' => e = .returned (.bool (digB b)) ∧ Below w.heap.size w w' := by
  go_enter Tryz.func155, Tryz.ntmps155
  go_wp2
  all_goals
    go_ret
    refine ⟨ret_bool ?_, ?_⟩
    · (first | (simp [digB, *]; done) | (simp [digB, *]; rw [Bool.eq_iff_iff]; simp; omega) | (simp [digB, *]; omega) | (unfold digB; rw [Bool.eq_iff_iff]; simp; omega) | (unfold digB; simp_all <;> omega))
    · (first | exact hb1.trans (hb2.mono hb1.size) | exact hb1 | (repeat (first | (with_reducible exact Below.refl _ _) | ((with_reducible refine cSet3 ?_ ?_ _ _ _); (· ((try simp) <;> omega))) | (with_reducible refine Below.drew ?_) | ((with_reducible refine cAlloc ?_ ?_ _); (· ((try simp) <;> omega))) | ((with_reducible refine cOn (by assumption) ?_ ?_); (· ((try simp) <;> omega))))))

set_option maxRecDepth 100000 in
set_option maxHeartbeats 800000 in
theorem rpart_any (b : UInt8) (w : World) :
    Calls Tryz.prog 128 #[.int .u8 (b.toNat : Int)] w fun e w' => e = .returned (.bool (parB b)) ∧ Below w.heap.size w w' := by
  go_enter Tryz.func128, Tryz.ntmps128
  go_wp2_with (first
    | (go_at_call 155; refine (rdigit3_any b _).mono ?_; rintro e w1 ⟨rfl, hb1⟩)
    | (go_at_call 129; refine (rletter_any b _).mono ?_; rintro e w2 ⟨rfl, hb2⟩))
  all_goals
    go_ret
    refine ⟨ret_bool ?_, ?_⟩
    · (first | (simp [parB, *]; done) | (simp [parB, *]; rw [Bool.eq_iff_iff]; simp; omega) | (simp [parB, *]; omega) | (unfold parB; rw [Bool.eq_iff_iff]; simp; omega) | (unfold parB; simp_all <;> omega))
    · (first | exact hb1.trans (hb2.mono hb1.size) | exact hb1 | (repeat (first | (with_reducible exact Below.refl _ _) | ((with_reducible refine cSet3 ?_ ?_ _ _ _); (· ((try simp) <;> omega))) | (with_reducible refine Below.drew ?_) | ((with_reducible refine cAlloc ?_ ?_ _); (· ((try simp) <;> omega))) | ((with_reducible refine cOn (by assumption) ?_ ?_); (· ((try simp) <;> omega))))))

theorem mem_tw {q : UInt8 → Bool} : ∀ {r : List UInt8} {x : UInt8}, x ∈ r.takeWhile q → q x = true
  | [], _, h => by cases h
  | c :: r, x, h => by
    rw [List.takeWhile_cons] at h
    by_cases hc : q c = true
    · rw [if_pos hc] at h
      rcases List.mem_cons.1 h with rfl | h
      · exact hc
      · exact mem_tw h
    · rw [if_neg hc] at h; cases h
theorem kmay_is {p q : UInt8 → Bool} (hpq : ∀ c, p c = true → q c = true) (m : Nat) (l : List UInt8) : kmay p q m l = (l.all q && (decide (1 ≤ l.length) && (decide (l.length ≤ m) && (match l.head? with | none => false | some c => p c)))) := by
  cases l with
  | nil => rfl
  | cons c r =>
    cases hp : p c with
    | false =>
      have e : kmay p q m (c :: r) = false := by
        unfold kmay
        rw [tog_zero hp]
        simp
      rw [e]
      simp [hp]
    | true =>
      have hq := hpq c hp
      unfold kmay
      rw [tog_on hp]
      simp only [List.all_cons, hq, Bool.true_and, List.isEmpty_cons, Bool.not_false, List.head?_cons, hp, List.length_cons]
      cases ha : r.all q with
      | true =>
        have : r.takeWhile q = r := by
          apply (List.takeWhile_prefix q).eq_of_length
          clear hp hq
          induction r with
          | nil => rfl
          | cons d r ih =>
            rw [List.all_cons, Bool.and_eq_true] at ha
            rw [List.takeWhile_cons, if_pos ha.1]
            simp [ih ha.2]
        rw [this]
        simp
        omega
      | false =>
        have : (r.takeWhile q).length ≠ r.length := by
          intro e
          have e2 := (List.takeWhile_prefix q).eq_of_length e
          have : r.all q = true := by
            rw [← e2, List.all_eq_true]
            intro x hx
            exact mem_tw hx
          rw [this] at ha; cases ha
        simp
        omega
theorem let_par {c : UInt8} (h : letB c = true) : parB c = true := by unfold parB; rw [h]; rfl
theorem all_take {s : ByteArray} {q : UInt8 → Bool} (h : (s.data.toList.take s.size).all q = true) : s.data.toList.all q = true := by
  rwa [List.take_of_length_le (by rw [← Lib.size_eq]; omega)] at h
theorem all_bad {s : ByteArray} {q : UInt8 → Bool} {n : Nat} (h : n < s.size) (hq : q s[n] = false) : s.data.toList.all q = false := by
  cases ha : s.data.toList.all q with
  | false => rfl
  | true =>
    have := List.all_eq_true.1 ha s[n] (List.mem_of_getElem? (get_at' h))
    rw [hq] at this; cases this
theorem all_step {s : ByteArray} {q : UInt8 → Bool} {n : Nat} (h : n < s.size) (hq : q s[n] = true) (ha : (s.data.toList.take n).all q = true) : (s.data.toList.take (n + 1)).all q = true := by
  rw [take_one s n h, List.all_append, ha]
  simp [hq]
theorem head_of {s : ByteArray} (h : 0 < s.size) : s.data.toList.head? = some s[0] := by rw [List.head?_eq_getElem?, get_at' h]

set_option maxRecDepth 100000 in
set_option maxHeartbeats 1600000 in
theorem rname_any (s : ByteArray) (w : World) (hs : s.size ≤ 100000) :
    Calls Tryz.prog 84 #[.string s] w fun e w' => e = .returned (.bool (kmay letB parB 16 s.data.toList)) ∧ Below w.heap.size w w' := by
  have HK := Lib.hid (kmay_is (p := letB) (q := parB) (fun _ h => let_par h) 16 s.data.toList)
  go_enter Tryz.func84, Tryz.ntmps84
  go_wp2
  go_loopw [3] (fun i wr => ∃ k : Nat, k ≤ s.size ∧ i = .int .i64 k ∧ Below w.heap.size w wr ∧ Hid ((s.data.toList.take k).all parB = true)) (fun i _ => s.size - (intOf i).toNat)
  case atStart => exact ⟨0, by omega, rfl, Below.refl _ _, by show _ = _; simp⟩
  case round =>
    obtain ⟨k, hk, rfl, hb, HA⟩ := hrel
    have hbs := hb.size
    by_cases hlt : k < s.size
    · cases hq : parB s[k] with
      | true =>
        have HC := Lib.hid (fun (W : World) => hq ▸ rpart_any s[k] W)
        have HN := Lib.hid (all_step hlt hq HA.out)
        clear hq
        go_wp2_with (go_at_call 128; refine (HC.out _).mono ?_; rintro e w1 ⟨rfl, hb1⟩)
        go_roundw
        case rel => exact ⟨k + 1, by omega, by go_num, hb.trans (hb1.mono hbs), HN.out⟩
        case measure => simp [intOf]; omega
      | false =>
        have HC := Lib.hid (fun (W : World) => hq ▸ rpart_any s[k] W)
        have HR := Lib.hid (show kmay letB parB 16 s.data.toList = false by rw [HK.out, all_bad hlt hq]; rfl)
        clear hq
        go_wp2_with (go_at_call 128; refine (HC.out _).mono ?_; rintro e w1 ⟨rfl, hb1⟩)
        go_ret
        exact ⟨ret_bool HR.out.symm, hb.trans (hb1.mono hbs)⟩
    · obtain rfl : k = s.size := by omega
      have HALL := Lib.hid (all_take HA.out)
      by_cases h1 : 1 ≤ s.size
      · have h1' : (1 : Int) ≤ (s.size : Int) := by omega
        have h0 : 0 < s.size := by omega
        by_cases h16 : s.size ≤ 16
        · have h16' : (s.size : Int) ≤ 16 := by omega
          have HR := Lib.hid (show kmay letB parB 16 s.data.toList = letB s[0] by rw [HK.out, HALL.out, ← Lib.size_eq, decide_eq_true h1, decide_eq_true h16, head_of h0]; simp)
          go_wp2_with (go_at_call 129; refine (rletter_any s[0] _).mono ?_; rintro e w1 ⟨rfl, hb1⟩)
          go_ret
          exact ⟨ret_bool HR.out.symm, hb.trans (hb1.mono hbs)⟩
        · have h16' : ¬ (s.size : Int) ≤ 16 := by omega
          have HR := Lib.hid (show kmay letB parB 16 s.data.toList = false by rw [HK.out, ← Lib.size_eq, decide_eq_false h16]; simp)
          go_wp2
          go_ret
          exact ⟨ret_bool HR.out.symm, hb⟩
      · have h1' : ¬ (1 : Int) ≤ (s.size : Int) := by omega
        have HR := Lib.hid (show kmay letB parB 16 s.data.toList = false by rw [HK.out, ← Lib.size_eq, decide_eq_false h1]; simp)
        go_wp2
        go_ret
        exact ⟨ret_bool HR.out.symm, hb⟩

end Go.Proofs.YtmhkmliebhbkdaaGreat

/- Which expressions may be, plain; names are no values. -/
namespace Go.Proofs.YtmhkmliebhbkdaaGreat
open Go.RowKit Go.Lib

end Go.Proofs.YtmhkmliebhbkdaaGreat

/- The chapter's first example is parsed. -/
namespace Go.Proofs.YtmhkmliebhbkdaaGreat
open Go.RowKit Go.Lib

end Go.Proofs.YtmhkmliebhbkdaaGreat

/- The chapter's examples: awake. -/
namespace Go.Proofs.YtmhkmliebhbkdaaGreat
open Go.RowKit Go.Lib

theorem two_tr {W : World} {R : Nat → Prop} {N : Nat} {x y : Ex} {B B2 : Option Addr} {p q p2 q2 : Nat} (op : ByteArray) (h : Tr W R N x (.slice B p q)) (k : Tr W R N y (.slice B2 p2 q2)) (hr : R W.heap.size) :
    Tr (W.alloc (.cells #[.string x.op, .int .i64 x.x.k, .int .i64 x.x.i, .string x.x.s, .string x.s, .slice B p q, .string y.op, .int .i64 y.x.k, .int .i64 y.x.i, .string y.x.s, .string y.s, .slice B2 p2 q2] 29)) R (N + 1) (twoT op x y) (.slice (some ⟨W.heap.size, 0, none⟩) 2 2) := by
  have hb : Below W.heap.size W (W.alloc (.cells #[.string x.op, .int .i64 x.x.k, .int .i64 x.x.i, .string x.x.s, .string x.s, .slice B p q, .string y.op, .int .i64 y.x.k, .int .i64 y.x.i, .string y.x.s, .string y.s, .slice B2 p2 q2] 29)) := (Below.refl _ _).alloc (Nat.le_refl _) _
  refine ⟨by show (⟨#[]⟩ : ByteArray).size ≤ 100000; decide, some ⟨W.heap.size, 0, none⟩, 2, rfl, by simp [twoT, Ex.l, maxLen], fun j hj => ?_⟩
  have hj : j < 2 := hj
  rcases (show j = 0 ∨ j = 1 by omega) with rfl | rfl
  · refine ⟨_, .slice B p q, rfl, hr, ?_, h.1, (h.below hb).2⟩
    have e : (⟨W.heap.size, 0, none⟩ : Addr).add (0 * 6) = ⟨W.heap.size, 0, none⟩ := by unfold Addr.add; simp
    rw [e]
    refine ⟨?_, ?_, ?_, ?_, ?_, ?_⟩ <;> (rw [Lib.cell_of_heap (alloc_at rfl _)]; rfl)
  · refine ⟨_, .slice B2 p2 q2, rfl, hr, ?_, k.1, (k.below hb).2⟩
    have e : (⟨W.heap.size, 0, none⟩ : Addr).add (1 * 6) = ⟨W.heap.size, 6, none⟩ := by unfold Addr.add; simp
    rw [e]
    refine ⟨?_, ?_, ?_, ?_, ?_, ?_⟩ <;> (rw [Lib.cell_of_heap (alloc_at rfl _)]; rfl)

end Go.Proofs.YtmhkmliebhbkdaaGreat

/- What one, its NOT, and both come to: plain facts. -/
namespace Go.Proofs.YtmhkmliebhbkdaaGreat
open Go.RowKit Go.Lib

theorem evalF_mono (cols : List Cl) (row : List Vl) : ∀ (d : Nat) (t : Ex), wfF d t → evalF cols row (d + 1) t = evalF cols row d t
  | 0, _, h => h.elim
  | d + 1, t, h => by
    have e : t.l.map (evalF cols row (d + 1)) = t.l.map (evalF cols row d) := List.map_congr_left fun y hy => evalF_mono cols row d y (h.2 y hy)
    conv => lhs; unfold evalF
    conv => rhs; unfold evalF
    rw [e]
end Go.Proofs.YtmhkmliebhbkdaaGreat

/- The law's Cols: columns come out. -/
namespace Go.Proofs.YtmhkmliebhbkdaaGreat
open Go.RowKit Go.Lib

def Cl.cells (x : Cl) : List Value := [.string x.n, .int .i64 x.t, .bool x.b]
def ccellsOf (l : List Cl) : List Value := l.flatMap Cl.cells
theorem ccells_len (l : List Cl) : (ccellsOf l).length = l.length * 3 := by
  induction l with
  | nil => rfl
  | cons x l ih => simp only [ccellsOf, List.flatMap_cons, List.length_append] at ih ⊢; rw [ih]; simp [Cl.cells]; omega
theorem ccells_snoc (l : List Cl) (x : Cl) : ccellsOf (l ++ [x]) = ccellsOf l ++ x.cells := by simp [ccellsOf]
theorem ccells_at (l : List Cl) : ∀ j (h : j < l.length), (ccellsOf l)[j * 3]? = some (.string l[j].n) ∧ (ccellsOf l)[j * 3 + 1]? = some (.int .i64 l[j].t) ∧ (ccellsOf l)[j * 3 + 2]? = some (.bool l[j].b) := by
  induction l with
  | nil => intro j h; simp at h
  | cons x l ih =>
    intro j h
    cases j with
    | zero => simp [ccellsOf, Cl.cells]
    | succ j =>
      have := ih j (by simpa using h)
      have e : ccellsOf (x :: l) = x.cells ++ ccellsOf l := by simp [ccellsOf]
      have hl : x.cells.length = 3 := rfl
      rw [e]
      refine ⟨?_, ?_, ?_⟩
      · rw [List.getElem?_append_right (by rw [hl]; omega), hl, show (j + 1) * 3 - 3 = j * 3 by omega]; exact this.1
      · rw [List.getElem?_append_right (by rw [hl]; omega), hl, show (j + 1) * 3 + 1 - 3 = j * 3 + 1 by omega]; exact this.2.1
      · rw [List.getElem?_append_right (by rw [hl]; omega), hl, show (j + 1) * 3 + 2 - 3 = j * 3 + 2 by omega]; exact this.2.2
theorem ccells_one (l : List Cl) : ∀ u ∈ ccellsOf l, u.oneCell' = true := by
  intro u hu
  simp only [ccellsOf, List.mem_flatMap, Cl.cells] at hu
  obtain ⟨x, _, hx⟩ := hu
  simp at hx
  rcases hx with rfl | rfl | rfl <;> rfl
theorem ColS.of_own {W : World} {B : Nat} {v : Value} {l : List Cl} {n : Nat} (h : W.ownsRow B 77 3 v n (ccellsOf l)) : ∃ A cap, v = .slice A n cap ∧ ColS W A n l ∧ ∀ a, A = some a → B ≤ a.block := by
  have hl : l.length = n := by have := h.1; rw [ccells_len] at this; omega
  rcases h.2 with ⟨rfl, h0⟩ | ⟨g, cap, cur, rfl, hB, hg, hc, hm, hs, ht⟩
  · subst h0
    exact ⟨none, 0, rfl, ⟨hl, by unfold maxLen; omega, fun j hj => absurd hj (by omega)⟩, fun a e => by cases e⟩
  · refine ⟨_, cap, rfl, ⟨hl, Nat.le_trans hc hm, fun j hj => ⟨_, rfl, ?_⟩⟩, fun a e => by injection e with e; subst e; exact hB⟩
    have hadd : (⟨g, 0, none⟩ : Addr).add (j * 3) = ⟨g, j * 3, none⟩ := by unfold Addr.add; split <;> simp_all
    obtain ⟨c0, c1, c2⟩ := ccells_at l j hj
    rw [hadd]
    exact ⟨(h.cellAt (j * 3) (by omega)).trans c0, (h.cellAt (j * 3 + 1) (by omega)).trans c1, (h.cellAt (j * 3 + 2) (by omega)).trans c2⟩
theorem ColS.keep {W W' : World} {A : Option Addr} {n : Nat} {l : List Cl} (h : ColS W A n l) (hk : ∀ a, A = some a → W'.heap[a.block]? = W.heap[a.block]?) : ColS W' A n l :=
  ⟨h.1, h.2.1, fun j hj => by obtain ⟨a, e, hc⟩ := h.2.2 j hj; exact ⟨a, e, hc.keep (by rw [add_block]; exact hk a e)⟩⟩
theorem Vals.own {W : World} {B : Nat} {v : Value} {l : List Vl} {n : Nat} (h : W.ownsRow B 26 3 v n (cellsOf l)) : ∃ A cap, v = .slice A n cap ∧ Vals W W.heap.size A n l ∧ n ≤ cap ∧ cap ≤ maxLen ∧ ∀ a, A = some a → B ≤ a.block := by
  obtain ⟨A, cap, rfl, h1, h2, h3⟩ := Vals.of_own h
  refine ⟨A, cap, rfl, h1, h2, h3, fun a e => ?_⟩
  subst e
  rcases h.2 with ⟨h0, _⟩ | ⟨g, cap', cur, hv, hB, _⟩
  · cases h0
  · injection hv with hv _ _
    injection hv with hv
    subst hv
    exact hB
theorem infoCol : (Tryz.prog.info? 77).map (fun i => (i.zero, i.size, i.bytes)) = some (some (.agg #[.string ⟨#[]⟩, .int .i64 0, .bool false]), 3, 32) := by kernel_rfl
theorem new_ccells {W : World} {n : Nat} {t : TypeId} {x : Cl} (h : W.heap.size = n) : ∀ j u, x.cells[j]? = some u → (W.alloc (.cells #[.string x.n, .int .i64 x.t, .bool x.b] t)).cell? ((⟨n, 0, none⟩ : Addr).add j) = some u := by
  subst h
  intro j u h
  match j with
  | 0 => simp [Cl.cells] at h; subst h; simp [Addr.add, go_sem]
  | 1 => simp [Cl.cells] at h; subst h; simp [Addr.add, go_sem]
  | 2 => simp [Cl.cells] at h; subst h; simp [Addr.add, go_sem]
  | j + 3 => simp [Cl.cells] at h
theorem crow_below {B : Nat} {w W W' : World} {n : Nat} {xs : List Value} {v : Value} {o : Obj} (hb : Below B w W) (hB : B ≤ w.heap.size) (hown : W.ownsRow B 77 3 v n xs) (hg : (W.alloc o).grownBy W' v.ownBlock) : Below B w W' := by
  have hs := hb.size
  exact (hb.alloc (by omega) o).grown hg (by simp; omega) fun g hg' => (hown.lt g hg').1
/-- Some columns of the call's own. -/
def OwnC (W : World) (B : Nat) (v : Value) (k : Nat) : Prop := ∃ cs : List Cl, W.ownsRow B 77 3 v k (ccellsOf cs)
theorem OwnC.snoc {W : World} {B : Nat} {v : Value} {k : Nat} {cs : List Cl} {x : Cl} (h : W.ownsRow B 77 3 v (k + 1) (ccellsOf cs ++ x.cells)) : OwnC W B v (k + 1) := ⟨cs ++ [x], by rw [ccells_snoc]; exact h⟩

end Go.Proofs.YtmhkmliebhbkdaaGreat

/- The law's Cols once more: with word of the row's room, and of the names. -/
namespace Go.Proofs.YtmhkmliebhbkdaaGreat
open Go.RowKit Go.Lib

theorem own_cap {W : World} {B : Nat} {t : TypeId} {s n : Nat} {v : Value} {xs : List Value} (h : W.ownsRow B t s v n xs) : ∀ A n' c', v = .slice A n' c' → n' ≤ c' := by
  rcases h.2 with ⟨rfl, h0⟩ | ⟨g, cap, cur, rfl, hB, hg, hc, _⟩
  · intro A n' c' e
    injection e with e1 e2 e3
    omega
  · intro A n' c' e
    injection e with e1 e2 e3
    omega
/-- Some columns of the call's own, with short names. -/
def OwnD (W : World) (B : Nat) (v : Value) (k : Nat) : Prop := ∃ cs : List Cl, W.ownsRow B 77 3 v k (ccellsOf cs) ∧ ∀ x ∈ cs, x.n.size ≤ 20
theorem OwnD.snoc {W : World} {B : Nat} {v : Value} {k : Nat} {cs : List Cl} {x : Cl} (h : W.ownsRow B 77 3 v (k + 1) (ccellsOf cs ++ x.cells)) (hc : ∀ y ∈ cs, y.n.size ≤ 20) (hx : x.n.size ≤ 20) : OwnD W B v (k + 1) := ⟨cs ++ [x], by rw [ccells_snoc]; exact h, fun y hy => by
  rcases List.mem_append.1 hy with hy | hy
  · exact hc y hy
  · simp only [List.mem_singleton] at hy
    subst hy
    exact hx⟩

set_option maxRecDepth 100000 in
set_option maxHeartbeats 4000000 in
theorem cols2_any (A : Option Addr) (n cap : Nat) (l : List Cl) (w : World) (hc : ColS w A n l) (hsz : ∀ x ∈ l, x.n.size ≤ maxLen) :
    Calls Tryz.prog 48 #[.slice A n cap] w fun e w' => (∃ A' n' c' cs, e = .returned (.slice A' n' c') ∧ ColS w' A' n' cs ∧ (∀ a, A' = some a → w.heap.size ≤ a.block) ∧ n' ≤ c' ∧ ∀ x ∈ cs, x.n.size ≤ 20) ∧ Below w.heap.size w w' := by
  have hn := hc.2.1
  unfold maxLen at hn
  have hll := hc.1
  obtain ⟨i0, hi, hz0, hz1, hz2⟩ := info_parts infoCol
  have HS := Lib.hid (And.intro hc hsz)
  clear hc hsz
  have HL := Lib.hid hll
  clear hll
  go_enter Tryz.func48, Tryz.ntmps48
  go_wp2
  go_loopw [3, 4] (fun v i wr => ∃ k : Nat, k ≤ n ∧ k ≤ 9 ∧ i = .int .i64 k ∧ Below w.heap.size w wr ∧ OwnD wr w.heap.size v k) (fun _ i _ => n - (intOf i).toNat)
  case atStart => exact ⟨0, by omega, by omega, rfl, Below.refl _ _, [], World.ownsRow_nil _ _ _ _, fun x hx => by cases hx⟩
  case round =>
    obtain ⟨k, hk, hk9, rfl, hb, hown⟩ := hrel
    have hbs := hb.size
    by_cases hlt : k < n
    · by_cases h9 : k < 9
      · have hd1 : decide ((k : Int) < 9) = true := decide_eq_true (by omega)
        obtain ⟨cs, hown, hcs⟩ := hown
        have HCS := Lib.hid hcs
        clear hcs
        obtain ⟨a, rfl, hA⟩ := HS.out.1.2.2 k (by rw [HL.out]; exact hlt)
        obtain ⟨x, hx⟩ : ∃ x, x = l[k]'(by rw [HL.out]; exact hlt) := ⟨_, rfl⟩
        rw [← hx] at hA
        have hxs : x.n.size ≤ 9223372036854775807 := (HS.out.2 x (by rw [hx]; exact List.getElem_mem _))
        have hA' := hA.keep (hb.block _ hA.lt)
        have ck := hA'.c0
        have ci := hA'.c1
        have ct := hA'.c2
        have HX := Lib.hid hxs
        clear hx hA hA'
        by_cases h20 : 20 < x.n.size
        · have hd2 : decide (20 < (x.n.size : Int)) = true := decide_eq_true (by omega)
          go_wp2_with (at_builtin; refine wpList_append_own _ rfl _ _ 22 rfl w.heap.size 77 i0 _ 3 32 Tryz.underlying22 hi hz0 hz1 hz2 rfl (by decide) _ _ _ rfl (World.ownsRow.alloc (World.ownsRow.alloc hown _) _) ⟨wr.heap.size + 1, 0, none⟩ 1 1 (Cl.cells ⟨x.n.extract 0 20, x.t, x.b⟩) rfl rfl ?e1 ?e2 ?e3 ?e4 ?e5 ?_)
          case e1 => exact new_ccells (x := ⟨x.n.extract 0 20, x.t, x.b⟩) (by simp)
          case e2 => intro u hu; exact ccells_one [⟨x.n.extract 0 20, x.t, x.b⟩] u (by simpa [ccellsOf] using hu)
          case e3 => unfold maxLen; omega
          case e4 => omega
          case e5 => simp; omega
          intro v' w2 hown' hgrow _
          have hb2 := crow_below (hb.alloc hbs _) (Nat.le_refl _) (World.ownsRow.alloc hown _) hgrow
          have HO := Lib.hid (OwnD.snoc hown' HCS.out (show (x.n.extract 0 20 : ByteArray).size ≤ 20 by rw [ByteArray.size_extract]; omega))
          clear hown' hown hgrow
          go_wp2
          go_roundw
          case rel => exact ⟨k + 1, by omega, by omega, by go_num, hb2, HO.out⟩
          case measure => simp [intOf]; omega
        · have hd2 : decide (20 < (x.n.size : Int)) = false := decide_eq_false (by omega)
          go_wp2_with (at_builtin; refine wpList_append_own _ rfl _ _ 22 rfl w.heap.size 77 i0 _ 3 32 Tryz.underlying22 hi hz0 hz1 hz2 rfl (by decide) _ _ _ rfl (World.ownsRow.alloc (World.ownsRow.alloc hown _) _) ⟨wr.heap.size + 1, 0, none⟩ 1 1 (Cl.cells ⟨x.n, x.t, x.b⟩) rfl rfl ?g1 ?g2 ?g3 ?g4 ?g5 ?_)
          case g1 => exact new_ccells (x := ⟨x.n, x.t, x.b⟩) (by simp)
          case g2 => intro u hu; exact ccells_one [⟨x.n, x.t, x.b⟩] u (by simpa [ccellsOf] using hu)
          case g3 => unfold maxLen; omega
          case g4 => omega
          case g5 => simp; omega
          intro v' w2 hown' hgrow _
          have hb2 := crow_below (hb.alloc hbs _) (Nat.le_refl _) (World.ownsRow.alloc hown _) hgrow
          have HO := Lib.hid (OwnD.snoc hown' HCS.out (show (x.n : ByteArray).size ≤ 20 by omega))
          clear hown' hown hgrow
          go_wp2
          go_roundw
          case rel => exact ⟨k + 1, by omega, by omega, by go_num, hb2, HO.out⟩
          case measure => simp [intOf]; omega
      · have hd1 : decide ((k : Int) < 9) = false := decide_eq_false (by omega)
        obtain ⟨cs, hown, hcs⟩ := hown
        have HO := Lib.hid hown
        have HCS := Lib.hid hcs
        clear hown hcs
        go_wp2
        go_ret
        obtain ⟨A', c', rfl, hC⟩ := ColS.of_own HO.out
        exact ⟨⟨_, _, _, _, rfl, hC.1, hC.2, own_cap HO.out _ _ _ rfl, HCS.out⟩, hb⟩
    · obtain ⟨cs, hown, hcs⟩ := hown
      have HO := Lib.hid hown
      have HCS := Lib.hid hcs
      clear hown hcs
      go_wp2
      go_ret
      obtain ⟨A', c', rfl, hC⟩ := ColS.of_own HO.out
      exact ⟨⟨_, _, _, _, rfl, hC.1, hC.2, own_cap HO.out _ _ _ rfl, HCS.out⟩, hb⟩
end Go.Proofs.YtmhkmliebhbkdaaGreat

/- From a law's contract to its row: what is drawn of the condition on the listed variables, and of the world's shape. -/
namespace Go.Proofs.YtmhkmliebhbkdaaGreat
open Go.ChangeShapes Go.WideShapes Go.ChangeAt Go.RowKit

theorem own : ownKnob Tryz.prog.godebug = none := by kernel_rfl

theorem cellsV : Tryz.prog.cellsOf 26 = 3 := by kernel_rfl
end Go.Proofs.YtmhkmliebhbkdaaGreat
