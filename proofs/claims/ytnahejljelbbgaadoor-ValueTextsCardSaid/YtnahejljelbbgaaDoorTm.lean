import Derived.Test.YtnahejljelbbgaaDoorTk
import Derived.Deep.RegionWith
import Derived.IntWalk
/- The document's own Parse: a text in quotes; a number. -/
namespace Go.Proofs.YtnahejljelbbgaaDoor
open Go.RowKit Go.Lib

/-- Behind each quote one octet is passed over. -/
def und : List UInt8 → List UInt8
  | [] => []
  | c :: r => c :: und (if c = 39 then r.tail else r)
termination_by l => l.length
decreasing_by split <;> simp <;> omega
theorem und_dbl : ∀ l : List UInt8, und (dbl l) = l
  | [] => by simp [dbl, und]
  | c :: l => by
    have ih := und_dbl l
    by_cases hc : c = 39
    · subst hc
      rw [show dbl (39 :: l) = 39 :: 39 :: dbl l by simp [dbl], und]
      simp [ih]
    · rw [show dbl (c :: l) = c :: dbl l by simp [dbl, hc], und]
      simp [hc, ih]

/-- The result's box, and the box of the value that is made. -/
structure VQ (w : World) (g : Nat) (k i : Int) (S : ByteArray) (W : World) : Prop where
  below : Below w.heap.size w W
  lt : w.heap.size < g
  r : At3 W w.heap.size 0 0 ⟨#[]⟩
  f : ∀ o, W.frozen? ⟨w.heap.size, o, none⟩ = false
  v : At3 W g k i S
  fv : ∀ o, W.frozen? ⟨g, o, none⟩ = false
theorem VQ.glt {w W : World} {g : Nat} {k i : Int} {S : ByteArray} (h : VQ w g k i S W) : g < W.heap.size := h.v.lt
theorem VQ.later {w W W' : World} {g : Nat} {k i : Int} {S : ByteArray} (h : VQ w g k i S W) (hb : Below W.heap.size W W') : VQ w g k i S W' :=
  ⟨h.below.trans (hb.mono h.below.size), h.lt, h.r.later hb, fun o => (hb.frozen (p := ⟨_, o, none⟩) h.r.lt).trans (h.f o), h.v.later hb, fun o => (hb.frozen (p := ⟨_, o, none⟩) h.v.lt).trans (h.fv o)⟩
theorem VQ.drew {w W : World} {g : Nat} {k i : Int} {S : ByteArray} (h : VQ w g k i S W) : VQ w g k i S W.drew := h.later ((Below.refl _ _).drew)
theorem VQ.det {w W W' : World} {g : Nat} {k i : Int} {S : ByteArray} (h : VQ w g k i S W) (hb : Below W.drew.heap.size W.drew W') : VQ w g k i S W' := h.drew.later hb
theorem VQ.setS {w W : World} {g : Nat} {k i : Int} {S : ByteArray} (h : VQ w g k i S W) (S' : ByteArray) : VQ w g k i S' (W.setCell ⟨g, 2, none⟩ (.string S')) := by
  have hl := h.lt
  have h0 := h.v.k
  have h1 := h.v.i
  have h2 := h.v.s
  have hne : ∀ o, (⟨w.heap.size, o, none⟩ : Addr) ≠ ⟨g, 2, none⟩ := fun o e => by injection e with e; omega
  refine ⟨h.below.setCell (show w.heap.size ≤ g by omega) _, h.lt, ⟨?_, ?_, ?_⟩, fun o => ?_, ⟨?_, ?_, ?_⟩, fun o => ?_⟩
  · exact (World.cell?_setCell_other _ _ _ _ (hne _).symm).trans h.r.k
  · exact (World.cell?_setCell_other _ _ _ _ (hne _).symm).trans h.r.i
  · exact (World.cell?_setCell_other _ _ _ _ (hne _).symm).trans h.r.s
  · simpa [go_sem] using h.f o
  · simp [go_sem, *]
  · simp [go_sem, *]
  · simp [go_sem, *]
  · simpa [go_sem] using h.fv o
theorem VQ.start {w W : World} (h : W3 w W) (k i : Int) (S : ByteArray) : VQ w W.heap.size k i S (W.alloc (.cells #[.int .i64 k, .int .i64 i, .string S] 23)) := by
  have h1 : w.heap.size < W.heap.size := by have := h.size; omega
  refine ⟨h.below.alloc (by omega) _, h1, h.r.alloc _, fun o => (((Below.refl W.heap.size W).alloc (Nat.le_refl _) _).frozen (p := ⟨_, o, none⟩) h1).trans (h.f o), At3.new rfl, fun o => by simp [go_sem]⟩

theorem bs_size {S : ByteArray} {l : List UInt8} (h : S.data.toList = l) : S.size = l.length := by rw [Lib.size_eq, h]
/-- One round more. -/
theorem und_step {m : List UInt8} {j : Nat} {c : UInt8} (h : m[j]? = some c) : und (m.drop j) = c :: und (m.drop (if c = 39 then j + 2 else j + 1)) := by
  have hlt : j < m.length := (List.getElem?_eq_some_iff.1 h).1
  have e : m.drop j = c :: m.drop (j + 1) := by
    rw [List.drop_eq_getElem_cons hlt]
    congr 1
    rw [List.getElem?_eq_getElem hlt] at h
    exact Option.some.inj h
  rw [e, und]
  congr 2
  split
  · rw [List.tail_drop]
  · rfl
theorem mid_get {s : ByteArray} {n : Nat} (h1 : 1 ≤ n) (h2 : n < s.size - 1) : (s.extract 1 (s.size - 1)).data.toList[n - 1]? = some s[n] := by
  have e : (s.extract 1 (s.size - 1)).data.toList = (s.data.toList.drop 1).take (s.size - 1 - 1) := by
    simp [ByteArray.extract, ByteArray.data_append, ByteArray.copySlice]
  rw [e, List.getElem?_take_of_lt (by omega), List.getElem?_drop, show 1 + (n - 1) = n by omega]
  have h3 : n < s.data.toList.length := by rw [← Lib.size_eq]; omega
  rw [List.getElem?_eq_getElem h3]
  rfl
theorem mid_len (s : ByteArray) (h : 2 ≤ s.size) : (s.extract 1 (s.size - 1)).data.toList.length = s.size - 2 := by
  rw [← Lib.size_eq, ByteArray.size_extract]
  omega

set_option maxRecDepth 100000 in
set_option maxHeartbeats 3200000 in
theorem rparse_q (s : ByteArray) (b : Bool) (w : World) (hs : s.size ≤ 100000) (hn : N3 s.data.toList) (h3 : 2 ≤ s.size) (h0 : (s[0].toNat : Int) = 39) (hz : (s[s.size - 1].toNat : Int) = 39)
    (hb : ∀ S : ByteArray, S.data.toList = und (s.extract 1 (s.size - 1)).data.toList → ∀ t : ByteArray, t.data.toList = txtO 2 0 S → (t.toList == s.toList) = b) :
    Calls Tryd.prog 9 #[.string s] w fun e w' => (∃ S : ByteArray, S.data.toList = und (s.extract 1 (s.size - 1)).data.toList ∧ e = .returned (.tuple #[.agg #[.int .i64 2, .int .i64 0, .string S], .bool b])) ∧ Below w.heap.size w w' := by
  have HN := Lib.hid hn
  have HB := Lib.hid hb
  have hw := wrap_one s (by omega) hs
  clear hn hb
  go_enter Tryd.func9, Tryd.ntmps9
  go_wp2
  refine wp_gen (W3 w) (W3.start w) fun W hW => ?_
  have HW0 := Lib.hid hW
  clear hW
  go_loopw [5] (fun i wr => ∃ k : Nat, k ≤ 3 ∧ i = .int .i64 k ∧ W3 w wr) (fun i _ => 3 - (intOf i).toNat)
  case atStart => exact ⟨0, by omega, rfl, HW0.out⟩
  case round =>
    obtain ⟨k, hk, rfl, hW⟩ := hrel
    have HW := Lib.hid hW
    clear hW
    by_cases hk0 : k = 0
    · subst hk0
      have hr0 := HW.out.r.k
      have hr1 := HW.out.r.i
      have hr2 := HW.out.r.s
      have hf := HW.out.f
      have ha0 := HW.out.a.k
      have ha1 := HW.out.a.i
      have ha2 := HW.out.a.s
      have hb0 := HW.out.b0
      have hb1' := HW.out.b1
      have hb2 := HW.out.b2
      have hc0 := HW.out.c0
      have hc1 := HW.out.c1
      have hc2 := HW.out.c2
      go_wp2_with (go_at_call 10; refine (rtext_not0 0 0 s _ HN.out.n0 in64_0).mono ?_; rintro e w1 ⟨t1, rfl, hq1, hb1⟩; have hW1 := HW.out.later hb1)
      go_roundw
      case rel => exact ⟨0+1, by omega, by go_num, hW1⟩
      case measure => simp [intOf]; try omega
    · skip
      by_cases hk1 : k = 1
      · subst hk1
        have hr0 := HW.out.r.k
        have hr1 := HW.out.r.i
        have hr2 := HW.out.r.s
        have hf := HW.out.f
        have ha0 := HW.out.a.k
        have ha1 := HW.out.a.i
        have ha2 := HW.out.a.s
        have hb0 := HW.out.b0
        have hb1' := HW.out.b1
        have hb2 := HW.out.b2
        have hc0 := HW.out.c0
        have hc1 := HW.out.c1
        have hc2 := HW.out.c2
        go_wp2_with (go_at_call 10; refine (rtext_not0 3 0 s _ HN.out.n1 in64_0).mono ?_; rintro e w1 ⟨t1, rfl, hq1, hb1⟩; have hW1 := HW.out.later hb1)
        go_roundw
        case rel => exact ⟨1+1, by omega, by go_num, hW1⟩
        case measure => simp [intOf]; try omega
      · skip
        by_cases hk2 : k = 2
        · subst hk2
          have hr0 := HW.out.r.k
          have hr1 := HW.out.r.i
          have hr2 := HW.out.r.s
          have hf := HW.out.f
          have ha0 := HW.out.a.k
          have ha1 := HW.out.a.i
          have ha2 := HW.out.a.s
          have hb0 := HW.out.b0
          have hb1' := HW.out.b1
          have hb2 := HW.out.b2
          have hc0 := HW.out.c0
          have hc1 := HW.out.c1
          have hc2 := HW.out.c2
          go_wp2_with (go_at_call 10; refine (rtext_not0 3 1 s _ HN.out.n2 in64_1).mono ?_; rintro e w1 ⟨t1, rfl, hq1, hb1⟩; have hW1 := HW.out.later hb1)
          go_roundw
          case rel => exact ⟨2+1, by omega, by go_num, hW1⟩
          case measure => simp [intOf]; try omega
        · skip
          obtain rfl : k = 3 := by omega
          obtain ⟨wo, hwo⟩ : ∃ wo : World, wo = wr := ⟨_, rfl⟩
          rw [← hwo] at HW ⊢
          clear hwo
          have hr0 := HW.out.r.k
          have hr1 := HW.out.r.i
          have hr2 := HW.out.r.s
          have hf := HW.out.f
          have ha0 := HW.out.a.k
          have ha1 := HW.out.a.i
          have ha2 := HW.out.a.s
          have hb0 := HW.out.b0
          have hb1' := HW.out.b1
          have hb2 := HW.out.b2
          have hc0 := HW.out.c0
          have hc1 := HW.out.c1
          have hc2 := HW.out.c2
          go_wp2
          refine wp_gen (VQ w wo.heap.size 2 0 ⟨#[]⟩) (VQ.start HW.out 2 0 _) fun W hW => ?_
          have HQ0 := Lib.hid hW
          clear hW HW
          clear hr0 hr1 hr2 hf ha0 ha1 ha2 hb0 hb1' hb2 hc0 hc1 hc2
          go_loopw [7] (fun i wr => ∃ (n : Nat) (S : ByteArray), 1 ≤ n ∧ n ≤ s.size ∧ S.size ≤ n ∧ i = .int .i64 n ∧ VQ w wo.heap.size 2 0 S wr ∧ Hid (S.data.toList ++ und ((s.extract 1 (s.size - 1)).data.toList.drop (n - 1)) = und (s.extract 1 (s.size - 1)).data.toList)) (fun i _ => s.size + 1 - (intOf i).toNat)
          case atStart => exact ⟨1, ⟨#[]⟩, by omega, by omega, by simp [ByteArray.size], rfl, HQ0.out, by show _ = _; simp⟩
          case round =>
            obtain ⟨n, S, hn1, hn2, hS, rfl, hQ, HU⟩ := hrel
            have HQ := Lib.hid hQ
            clear hQ
            by_cases hlt : n < s.size - 1
            · have hx1 : (s.extract n (n + 1)).size = 1 := by rw [ByteArray.size_extract]; omega
              have hlt' : n < s.size := by omega
              have hwn : IntKind.i64.wrap ((n : Int) + 1) = (n : Int) + 1 := IntWalk.i64_in _ (by omega)
              have hcat : ¬ 9223372036854775807 < S.size + 1 := by omega
              have hbd : 0 ≤ (n : Int) + 1 ∧ (n : Int) + 1 ≤ (s.size : Int) := by omega
              have hbe : (n : Int) ≤ (n : Int) + 1 := by omega
              have hlt2 : (n : Int) < (s.size : Int) - 1 := by omega
              have hl2 : (s.extract n (n + 1)).data.toList = [s[n]] := extract_one s n hlt'
              have hstep := und_step (mid_get hn1 hlt)
              have e1 := HU.out
              rw [hstep] at e1
              by_cases hc : (s[n].toNat : Int) = 39
              · have h39 : s[n] = 39 := UInt8.toNat_inj.1 (by show s[n].toNat = 39; omega)
                have HX : Hid ((S ++ s.extract n (n + 1)).data.toList ++ und ((s.extract 1 (s.size - 1)).data.toList.drop (n + 2 - 1)) = und (s.extract 1 (s.size - 1)).data.toList) := by
                  show _ = _
                  rw [← e1, if_pos h39, bsl_app, hl2, show n + 2 - 1 = n - 1 + 2 by omega]; simp
                clear e1 hstep hl2 h39
                have qr0 := HQ.out.r.k
                have qr1 := HQ.out.r.i
                have qr2 := HQ.out.r.s
                have qf := HQ.out.f
                have qv0 := HQ.out.v.k
                have qv1 := HQ.out.v.i
                have qv2 := HQ.out.v.s
                have qfv := HQ.out.fv
                have qlt := HQ.out.lt
                have qgl := HQ.out.glt
                go_wp2
                refine detL_begin [.val (.pointer (some ⟨wo.heap.size, 2, none⟩)), .val (.string S), .val (.string s), .val (.int .i64 n), .val (.int .i64 n), .val (.int .i64 ((n : Int) + 1)), .val (.string (s.extract n (n + 1))), .val (.string (S ++ s.extract n (n + 1))), .val (.pointer (some ⟨wo.heap.size, 2, none⟩))] 9 (by kernel_rfl) ?_
                refine detL_val (by kernel_rfl) (yields_of rfl fun w1 hb1 => ?_) ?_
                · have hc1 := bcellD hb1
                  clear hb1
                  go_simp
                  exact Det1_same
                simp only [Act.put, List.setIfInBounds_toArray, List.set_cons_zero, List.set_cons_succ]
                refine detL_val (by kernel_rfl) (yields_of rfl fun w1 hb1 => ?_) ?_
                · have hc1 := bcellD hb1
                  have qs := (HQ.out.det hb1).v.s
                  clear hb1
                  go_simp
                  exact Det1_same
                simp only [Act.put, List.setIfInBounds_toArray, List.set_cons_zero, List.set_cons_succ]
                refine detL_val (by kernel_rfl) (yields_of rfl fun w1 hb1 => ?_) ?_
                · have hc1 := bcellD hb1
                  clear hb1
                  go_simp
                  exact Det1_same
                simp only [Act.put, List.setIfInBounds_toArray, List.set_cons_zero, List.set_cons_succ]
                refine detL_val (by kernel_rfl) (yields_of rfl fun w1 hb1 => ?_) ?_
                · have hc1 := bcellD hb1
                  clear hb1
                  go_simp
                  exact Det1_same
                simp only [Act.put, List.setIfInBounds_toArray, List.set_cons_zero, List.set_cons_succ]
                refine detL_val (by kernel_rfl) (yields_of rfl fun w1 hb1 => ?_) ?_
                · have hc1 := bcellD hb1
                  clear hb1
                  go_simp
                  exact Det1_same
                simp only [Act.put, List.setIfInBounds_toArray, List.set_cons_zero, List.set_cons_succ]
                refine detL_val (by kernel_rfl) (yields_of rfl fun w1 hb1 => ?_) ?_
                · have hc1 := bcellD hb1
                  clear hb1
                  go_simp
                  exact Det1_same
                simp only [Act.put, List.setIfInBounds_toArray, List.set_cons_zero, List.set_cons_succ]
                refine detL_val (by kernel_rfl) (yields_of rfl fun w1 hb1 => ?_) ?_
                · have hc1 := bcellD hb1
                  clear hb1
                  go_simp
                  exact Det1_same
                simp only [Act.put, List.setIfInBounds_toArray, List.set_cons_zero, List.set_cons_succ]
                refine detL_val (by kernel_rfl) (yields_of rfl fun w1 hb1 => ?_) ?_
                · have hc1 := bcellD hb1
                  clear hb1
                  go_simp
                  exact Det1_same
                simp only [Act.put, List.setIfInBounds_toArray, List.set_cons_zero, List.set_cons_succ]
                refine detL_val (by kernel_rfl) (yields_of rfl fun w1 hb1 => ?_) ?_
                · have hc1 := bcellD hb1
                  clear hb1
                  go_simp
                  exact Det1_same
                simp only [Act.put, List.setIfInBounds_toArray, List.set_cons_zero, List.set_cons_succ]
                refine detL_tail rfl (by kernel_rfl) fun w1 hw1 => ?_
                have HQ1 := Lib.hid (HQ.out.det hw1.below)
                clear qr0 qr1 qr2 qf qv0 qv1 qv2 qfv qlt qgl
                clear hw1
                have qr0 := HQ1.out.r.k
                have qr1 := HQ1.out.r.i
                have qr2 := HQ1.out.r.s
                have qf := HQ1.out.f
                have qv0 := HQ1.out.v.k
                have qv1 := HQ1.out.v.i
                have qv2 := HQ1.out.v.s
                have qfv := HQ1.out.fv
                have qlt := HQ1.out.lt
                have qgl := HQ1.out.glt
                go_wp2
                go_roundw
                case rel => exact ⟨n + 2, _, by omega, by omega, by rw [ByteArray.size_append, hx1]; omega, by go_num, HQ1.out.setS _, HX.out⟩
                case measure => simp [intOf]; omega
              · have h39 : ¬ s[n] = 39 := fun h => hc (by rw [h]; rfl)
                have HX : Hid ((S ++ s.extract n (n + 1)).data.toList ++ und ((s.extract 1 (s.size - 1)).data.toList.drop (n + 1 - 1)) = und (s.extract 1 (s.size - 1)).data.toList) := by
                  show _ = _
                  rw [← e1, if_neg h39, bsl_app, hl2, show n + 1 - 1 = n - 1 + 1 by omega]; simp
                clear e1 hstep hl2 h39
                have qr0 := HQ.out.r.k
                have qr1 := HQ.out.r.i
                have qr2 := HQ.out.r.s
                have qf := HQ.out.f
                have qv0 := HQ.out.v.k
                have qv1 := HQ.out.v.i
                have qv2 := HQ.out.v.s
                have qfv := HQ.out.fv
                have qlt := HQ.out.lt
                have qgl := HQ.out.glt
                go_wp2
                refine detL_begin [.val (.pointer (some ⟨wo.heap.size, 2, none⟩)), .val (.string S), .val (.string s), .val (.int .i64 n), .val (.int .i64 n), .val (.int .i64 ((n : Int) + 1)), .val (.string (s.extract n (n + 1))), .val (.string (S ++ s.extract n (n + 1))), .val (.pointer (some ⟨wo.heap.size, 2, none⟩))] 9 (by kernel_rfl) ?_
                refine detL_val (by kernel_rfl) (yields_of rfl fun w1 hb1 => ?_) ?_
                · have hc1 := bcellD hb1
                  clear hb1
                  go_simp
                  exact Det1_same
                simp only [Act.put, List.setIfInBounds_toArray, List.set_cons_zero, List.set_cons_succ]
                refine detL_val (by kernel_rfl) (yields_of rfl fun w1 hb1 => ?_) ?_
                · have hc1 := bcellD hb1
                  have qs := (HQ.out.det hb1).v.s
                  clear hb1
                  go_simp
                  exact Det1_same
                simp only [Act.put, List.setIfInBounds_toArray, List.set_cons_zero, List.set_cons_succ]
                refine detL_val (by kernel_rfl) (yields_of rfl fun w1 hb1 => ?_) ?_
                · have hc1 := bcellD hb1
                  clear hb1
                  go_simp
                  exact Det1_same
                simp only [Act.put, List.setIfInBounds_toArray, List.set_cons_zero, List.set_cons_succ]
                refine detL_val (by kernel_rfl) (yields_of rfl fun w1 hb1 => ?_) ?_
                · have hc1 := bcellD hb1
                  clear hb1
                  go_simp
                  exact Det1_same
                simp only [Act.put, List.setIfInBounds_toArray, List.set_cons_zero, List.set_cons_succ]
                refine detL_val (by kernel_rfl) (yields_of rfl fun w1 hb1 => ?_) ?_
                · have hc1 := bcellD hb1
                  clear hb1
                  go_simp
                  exact Det1_same
                simp only [Act.put, List.setIfInBounds_toArray, List.set_cons_zero, List.set_cons_succ]
                refine detL_val (by kernel_rfl) (yields_of rfl fun w1 hb1 => ?_) ?_
                · have hc1 := bcellD hb1
                  clear hb1
                  go_simp
                  exact Det1_same
                simp only [Act.put, List.setIfInBounds_toArray, List.set_cons_zero, List.set_cons_succ]
                refine detL_val (by kernel_rfl) (yields_of rfl fun w1 hb1 => ?_) ?_
                · have hc1 := bcellD hb1
                  clear hb1
                  go_simp
                  exact Det1_same
                simp only [Act.put, List.setIfInBounds_toArray, List.set_cons_zero, List.set_cons_succ]
                refine detL_val (by kernel_rfl) (yields_of rfl fun w1 hb1 => ?_) ?_
                · have hc1 := bcellD hb1
                  clear hb1
                  go_simp
                  exact Det1_same
                simp only [Act.put, List.setIfInBounds_toArray, List.set_cons_zero, List.set_cons_succ]
                refine detL_val (by kernel_rfl) (yields_of rfl fun w1 hb1 => ?_) ?_
                · have hc1 := bcellD hb1
                  clear hb1
                  go_simp
                  exact Det1_same
                simp only [Act.put, List.setIfInBounds_toArray, List.set_cons_zero, List.set_cons_succ]
                refine detL_tail rfl (by kernel_rfl) fun w1 hw1 => ?_
                have HQ1 := Lib.hid (HQ.out.det hw1.below)
                clear qr0 qr1 qr2 qf qv0 qv1 qv2 qfv qlt qgl
                clear hw1
                have qr0 := HQ1.out.r.k
                have qr1 := HQ1.out.r.i
                have qr2 := HQ1.out.r.s
                have qf := HQ1.out.f
                have qv0 := HQ1.out.v.k
                have qv1 := HQ1.out.v.i
                have qv2 := HQ1.out.v.s
                have qfv := HQ1.out.fv
                have qlt := HQ1.out.lt
                have qgl := HQ1.out.glt
                go_wp2
                go_roundw
                case rel => exact ⟨n + 1, _, by omega, by omega, by rw [ByteArray.size_append, hx1]; omega, by go_num, HQ1.out.setS _, HX.out⟩
                case measure => simp [intOf]; omega
            · have HS := Lib.hid (show S.data.toList = und (s.extract 1 (s.size - 1)).data.toList by
                have e := HU.out
                rw [List.drop_of_length_le (by rw [mid_len s h3]; omega), und] at e
                simpa using e)
              have hge : ¬ (n : Int) < (s.size : Int) - 1 := by omega
              obtain ⟨t, ht⟩ : ∃ t : ByteArray, t = ⟨(txtO 2 0 S).toArray⟩ := ⟨_, rfl⟩
              have htb := HB.out S HS.out t (by rw [ht])
              have HT := Lib.hid (fun (W : World) => ht ▸ rtext_any 2 0 S W in64_0 (by unfold maxLen; omega))
              clear ht
              have qr0 := HQ.out.r.k
              have qr1 := HQ.out.r.i
              have qr2 := HQ.out.r.s
              have qf := HQ.out.f
              have qv0 := HQ.out.v.k
              have qv1 := HQ.out.v.i
              have qv2 := HQ.out.v.s
              have qfv := HQ.out.fv
              have qlt := HQ.out.lt
              have qgl := HQ.out.glt
              go_wp2
              go_region_with (go_at_call 10; refine (HT.out _).mono ?_; rintro e w1 ⟨rfl, hb1⟩; have HQ1 := Lib.hid (HQ.out.det hb1); clear hb1; have pr0 := HQ1.out.r.k; have pr1 := HQ1.out.r.i; have pr2 := HQ1.out.r.s; have pf := HQ1.out.f; have pv0 := HQ1.out.v.k; have pv1 := HQ1.out.v.i; have pv2 := HQ1.out.v.s; have pfv := HQ1.out.fv; have plt := HQ1.out.lt; have pgl := HQ1.out.glt)
              all_goals
                go_wp2
                refine bodyPost_ret (v := .tuple #[.agg #[.int .i64 2, .int .i64 0, .string S], .bool b]) ?_ rfl ⟨⟨S, HS.out, rfl⟩, ?_⟩
                · (simp [results, Tryd.results9, go_sem, *]; done)
                · have hb1 := HQ1.out.below
                  repeat (first | (with_reducible exact Below.refl _ _) | ((with_reducible refine cSet3 ?_ ?_ _ _ _); (· ((try simp) <;> omega))) | (with_reducible refine Below.drew ?_) | ((with_reducible refine cAlloc ?_ ?_ _); (· ((try simp) <;> omega))) | ((with_reducible refine cOn (by assumption) ?_ ?_); (· ((try simp) <;> omega))))

end Go.Proofs.YtnahejljelbbgaaDoor
