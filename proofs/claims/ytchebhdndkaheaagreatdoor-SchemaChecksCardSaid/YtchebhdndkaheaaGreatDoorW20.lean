import Derived.Test.YtchebhdndkaheaaGreatDoorW19

/- The chapter's example of layer 6: its columns within a statement. -/
namespace Go.Proofs.YtchebhdndkaheaaGreatDoor
open Go.RowKit Go.Lib

def kC : Cl := ⟨⟨#[107]⟩, 1, false⟩
theorem nmB_k : nmB ⟨#[107]⟩ = true := by
  unfold nmB
  rw [res_no (by decide), show nameB ⟨#[107]⟩ = true by decide]
  rfl
set_option maxRecDepth 100000 in
set_option maxHeartbeats 4000000 in
theorem column_k (w : World) : Calls Tryz.prog 119 #[.agg #[.string ⟨#[107]⟩, .int .i64 1, .bool false]] w fun e w' => e = .returned (.bool true) ∧ Below w.heap.size w w' := by
  have HB0 : Hid (Below w.heap.size w (w.alloc (.cells #[.string ⟨#[107]⟩, .int .i64 1, .bool false] 43))) := (Below.refl _ _).alloc (Nat.le_refl _) _
  go_enter Tryz.func119, Tryz.ntmps119
  go_wp2_with (go_at_call 96; (with_reducible refine (named_any ⟨#[107]⟩ _ (by decide)).mono ?_); rintro e w1 ⟨rfl, hb1⟩; rw [nmB_k]; have HB1 : Hid (Below w.heap.size w w1) := HB0.out.trans (hb1.mono (by simp)); have EK := hb1.block w.heap.size (by simp); rw [alloc_at rfl _] at EK; have k1 := Lib.cell_of_heap EK 1; simp only [List.getElem?_toArray, List.getElem?_cons_zero, List.getElem?_cons_succ] at k1; clear hb1 EK)
  go_ret
  exact ⟨rfl, HB1.out⟩
set_option maxRecDepth 100000 in
set_option maxHeartbeats 4000000 in
theorem each1_col (bx : Nat) (w : World) (hb : w.heap[bx]? = some (.cells #[.func (.func 119) #[] #[]] 72 (0, 0))) :
    Calls Tryz.prog 150 #[.agg #[.string ⟨#[107]⟩, .int .i64 1, .bool false], .pointer (some ⟨bx, 0, none⟩)] w fun e w' => e = .returned (.bool false) ∧ Below w.heap.size w w' := by
  have c0 := Lib.cell_of_heap hb 0
  have cf := lt_of_block hb
  clear hb
  simp only [List.getElem?_toArray, List.getElem?_cons_zero] at c0
  go_enter Tryz.func150, Tryz.ntmps150
  go_wp2_with (go_at_call 119; refine (column_k _).mono ?_; rintro e w1 ⟨rfl, hb1⟩; have HB1 := Lib.hid hb1; clear hb1)
  go_ret
  exact ⟨rfl, ((Below.refl _ _).alloc (Nat.le_refl _) _).trans (HB1.out.mono (by simp))⟩
set_option maxRecDepth 100000 in
set_option maxHeartbeats 4000000 in
theorem index_ecols (A : Option Addr) (n cap : Nat) (l : List Cl) (f : Cl → Bool) (b : Nat) (w : World) (hc : ColS w A n l) (hp : ∀ y ∈ l, ∀ W, Below w.heap.size w W → Calls Tryz.prog 150 #[(.agg #[.string y.n, .int .i64 y.t, .bool y.b]), .pointer (some ⟨b, 0, none⟩)] W fun e w' => e = .returned (.bool (f y)) ∧ Below W.heap.size W w') :
    Calls Tryz.prog 56 #[.slice A n cap, .func (.func 150) #[] #[.pointer (some ⟨b, 0, none⟩)]] w fun e w' => e = .returned (.int .i64 (idxP f l 0)) ∧ Below w.heap.size w w' := by
  have HC := Lib.hid hc
  have HP := Lib.hid hp
  have HL := Lib.hid hc.1
  have hn : n ≤ maxLen := hc.2.1
  unfold maxLen at hn
  clear hc hp
  go_enter Tryz.func56, Tryz.ntmps56
  go_wp2_with (fail)
  go_loopw [8] (fun i wr => ∃ j : Nat, i = .int .i64 j ∧ j ≤ n ∧ Below w.heap.size w wr ∧ Hid (idxP f l 0 = idxP f (l.drop j) j)) (fun i _ => n - (intOf i).toNat)
  case atStart => exact ⟨0, rfl, by omega, Below.refl _ _, rfl⟩
  case round =>
    obtain ⟨j, rfl, hj, hbw, HI⟩ := hrel
    have hbs := hbw.size
    by_cases hlt : j < n
    · have hjl : j < l.length := by rw [HL.out]; exact hlt
      obtain ⟨a, rfl, hE⟩ := HC.out.2.2 j hjl
      have hE' := hE.keep (hbw.block _ hE.lt)
      have e0 := hE'.c0
      have e1 := hE'.c1
      have e2 := hE'.c2
      clear hE hE'
      have HD : Hid (l.drop j = l[j] :: l.drop (j + 1)) := List.drop_eq_getElem_cons hjl
      have HY := Lib.hid (HP.out l[j] (List.getElem_mem hjl))
      have HB := Lib.hid hbw
      clear hbw
      generalize l[j] = y at e0 e1 e2 HD HY
      have HI2 : Hid (idxP f l 0 = if f y = true then (j : Int) else idxP f (l.drop (j + 1)) ((j : Int) + 1)) := Lib.hid (by rw [HI.out, HD.out]; rfl)
      clear HI
      generalize f y = z at HY HI2
      cases z with
      | true =>
        go_wp2_with (go_at_call 150; refine (HY.out _ HB.out).mono ?_; rintro e w1 ⟨rfl, hb1⟩; have HB1 := Lib.hid ((HB.out).trans (hb1.mono hbs)); clear hb1)
        go_ret
        exact ⟨by rw [HI2.out]; simp, HB1.out⟩
      | false =>
        go_wp2_with (go_at_call 150; refine (HY.out _ HB.out).mono ?_; rintro e w1 ⟨rfl, hb1⟩; have HB1 := Lib.hid ((HB.out).trans (hb1.mono hbs)); clear hb1)
        go_roundw
        case rel => exact ⟨j + 1, by go_num, by omega, HB1.out, Lib.hid (by rw [HI2.out]; simp)⟩
        case measure => simp [intOf]; omega
    · have HB := Lib.hid hbw
      clear hbw
      go_wp2
      go_ret
      exact ⟨by rw [HI.out, List.drop_of_length_le (by have := HL.out; omega)]; rfl, HB.out⟩
set_option maxRecDepth 100000 in
set_option maxHeartbeats 4000000 in
theorem contains_ecols (A : Option Addr) (n cap : Nat) (l : List Cl) (f : Cl → Bool) (b : Nat) (w : World) (hc : ColS w A n l) (hp : ∀ y ∈ l, ∀ W, Below w.heap.size w W → Calls Tryz.prog 150 #[(.agg #[.string y.n, .int .i64 y.t, .bool y.b]), .pointer (some ⟨b, 0, none⟩)] W fun e w' => e = .returned (.bool (f y)) ∧ Below W.heap.size W w') :
    Calls Tryz.prog 29 #[.slice A n cap, .func (.func 150) #[] #[.pointer (some ⟨b, 0, none⟩)]] w fun e w' => e = .returned (.bool (l.any f)) ∧ Below w.heap.size w w' := by
  have H := Lib.hid (index_ecols A n cap l f b w hc hp)
  have HE := Lib.hid (idxP_any f l 0 (by omega))
  clear hc hp
  generalize l.any f = z at HE ⊢
  generalize idxP f l 0 = y at H HE
  go_enter Tryz.func29, Tryz.ntmps29
  go_wp2_with (go_at_call 56; refine H.out.mono ?_; rintro e w1 ⟨rfl, hb1⟩)
  go_ret
  exact ⟨ret_bool HE.out, hb1⟩

set_option maxRecDepth 100000 in
set_option maxHeartbeats 4000000 in
theorem ceach_ok (A : Option Addr) (cap : Nat) (w : World) (hv : ColS w A 1 [kC]) :
    Calls Tryz.prog 118 #[.slice A 1 cap, .int .i64 1, .int .i64 8, .func (.func 119) #[] #[]] w fun e w' => e = .returned (.bool true) ∧ Below w.heap.size w w' := by
  have HV := Lib.hid hv
  have HK := Lib.hid (contains_ecols A 1 cap [kC] (fun _ => false) w.heap.size (w.alloc (.cells #[.func (.func 119) #[] #[]] 72)) (hv.below ((Below.refl _ _).alloc (Nat.le_refl _) _)) (fun y hy W hW => by
    obtain rfl := List.mem_singleton.1 hy
    exact each1_col w.heap.size W ((hW.block _ (by simp)).trans (alloc_at rfl _))))
  rw [show [kC].any (fun _ => false) = false from rfl] at HK
  clear hv
  go_enter Tryz.func118, Tryz.ntmps118
  go_wp2_with (go_at_call 29; refine HK.out.mono ?_; rintro e w1 ⟨rfl, hb1⟩; have HB1 := Lib.hid hb1; clear hb1)
  go_ret
  exact ⟨rfl, ((Below.refl _ _).alloc (Nat.le_refl _) _).trans (HB1.out.mono (by simp))⟩
set_option maxRecDepth 100000 in
set_option maxHeartbeats 4000000 in
theorem clisted_ok (A : Option Addr) (n cap : Nat) (l : List Cl) (tx : Cl → ByteArray) (out : ByteArray) (w : World) (h0 : 0 < n) (hn : n ≤ 100) (hv : ColS w A n l) (hd : ∀ x ∈ l, ∀ W, Below w.heap.size w W → Calls Tryz.prog 134 #[.agg #[.string x.n, .int .i64 x.t, .bool x.b]] W fun e w' => e = .returned (.string (tx x)) ∧ Below W.heap.size W w')
    (ho : (⟨(Lib.join ((l.map tx).map (·.data.toList)) (⟨#[32, 44, 32]⟩ : ByteArray).data.toList).toArray⟩ : ByteArray) = out) (hlen : (Lib.join ((l.map tx).map (·.data.toList)) (⟨#[32, 44, 32]⟩ : ByteArray).data.toList).length ≤ 140737488355328) :
    Calls Tryz.prog 133 #[.slice A n cap, .func (.func 134) #[] #[]] w fun e w' => e = .returned (.string out) ∧ Below w.heap.size w w' := by
  have HV := Lib.hid (And.intro hv hd)
  have HO := Lib.hid (And.intro ho hlen)
  have hll : l.length = n := hv.1
  clear hv hd ho hlen
  obtain ⟨i0, hi0, hz0, hz1, hz2⟩ := info_parts infoStr1
  go_enter Tryz.func133, Tryz.ntmps133
  go_wp2
  go_loopw [5, 10] (fun t5 i wr => ∃ (k : Nat) (tv : Value), k ≤ n ∧ i = .int .i64 k ∧ tv = t5 ∧ Below w.heap.size w wr ∧ Hid (wr.ownsRow w.heap.size 9 1 tv k (((l.take k).map fun x => Value.string (tx x))))) (fun _ i _ => n - (intOf i).toNat)
  case atStart => exact ⟨0, _, by omega, rfl, rfl, Below.refl _ _, Lib.hid ⟨rfl, .inl ⟨rfl, rfl⟩⟩⟩
  case round =>
    obtain ⟨k, tv, hk, rfl, rfl, hb, HR⟩ := hrel
    have hbs := hb.size
    by_cases hlt : k < n
    · have hkl : k < l.length := by omega
      obtain ⟨a, rfl, hA⟩ := HV.out.1.2.2 k hkl
      have hA' := hA.keep (hb.block _ hA.lt)
      have hx : l[k]? = some l[k] := List.getElem?_eq_getElem hkl
      have HM := Lib.hid (HV.out.2 l[k] (List.getElem_mem hkl))
      generalize l[k] = x at hA hA' hx HM
      have ck := hA'.c0
      have ci := hA'.c1
      have cs := hA'.c2
      have HX := Lib.hid (And.intro hx hb)
      clear hx hA hA' hb
      go_wp2_with (first
        | (go_at_call 134; refine (HM.out _ (HX.out.2.alloc hbs _)).mono ?_; rintro e w1 ⟨rfl, hb1⟩; have HB1 : Hid (Below w.heap.size w w1) := (HX.out.2.alloc hbs _).trans (hb1.mono (by simp; omega)); have HR1 : Hid (w1.ownsRow w.heap.size 9 1 tv k (((l.take k).map fun x => Value.string (tx x)))) := World.ownsRow.kept (row := none) (World.ownsRow.alloc HR.out _) ⟨hb1.os, hb1.tape, hb1.output, hb1.size, fun q hq _ => hb1.block q hq⟩ (by cases h : Value.ownBlock tv with | none => exact .inl rfl | some _ => exact .inr (by simp)); have hs1 : w.heap.size ≤ w1.heap.size := HB1.out.size; clear hb1)
        | (at_builtin; refine wpList_append_own _ rfl _ _ 57 rfl w.heap.size 9 i0 _ 1 16 Tryz.underlying57 hi0 hz0 hz1 hz2 rfl (by decide) tv k (((l.take k).map fun x => Value.string (tx x))) rfl (World.ownsRow.alloc HR1.out _) ⟨w1.heap.size, 0, none⟩ 1 1 [.string (tx x)] rfl rfl ?c1 ?c2 ?c3 ?c4 ?c5 ?_))
      case c1 => exact new_str
      case c2 => intro u hu; simp at hu; subst hu; rfl
      case c3 => unfold maxLen; omega
      case c4 => omega
      case c5 => simp; omega
      intro v' w2 hown hgrow _
      have HN2 : Hid (w2.ownsRow w.heap.size 9 1 v' (k + 1) (((l.take (k + 1)).map fun x => Value.string (tx x)))) := Lib.hid (by rw [show ((l.take (k + 1)).map fun x => Value.string (tx x)) = ((l.take k).map fun x => Value.string (tx x)) ++ [.string (tx x)] by rw [take_snoc' HX.out.1, List.map_append]; rfl]; first | exact hown | (rw [List.map_take]; exact hown))
      have HB2 : Hid (Below w.heap.size w w2) := Lib.hid (below_own (HB1.out.alloc hs1 _) (own_ge HR1.out) hgrow)
      clear hown hgrow
      go_wp2
      go_roundw
      case rel => exact ⟨k + 1, _, by omega, by go_num, rfl, HB2.out, HN2⟩
      case measure => simp [intOf]; omega
    · obtain rfl : n = k := by omega
      have HB := Lib.hid hb
      clear hb
      have hf : ((l.take n).map fun x => Value.string (tx x)) = (l.map fun x => Value.string (tx x)) := by rw [List.take_of_length_le (by omega)]
      have hr := HR.out
      rw [hf] at hr
      obtain ⟨hlen, hcase⟩ := hr
      rcases hcase with ⟨_, h00⟩ | ⟨r, cap', cur, rfl, hr0, hg, hc, hm, hsz, ht⟩
      · omega
      have HJ : Hid (Calls Tryz.prog 107 #[.slice (some ⟨r, 0, none⟩) n cap', .string ⟨#[32, 44, 32]⟩] wr fun e w' => e = .returned (.string out) ∧ Below wr.heap.size wr w') := Lib.hid (by
        have := Tryz.strings_Join r 0 cap' (l.map tx) ⟨#[32, 44, 32]⟩ wr (fun j s hs => by
          have hj : j < n := by have := (List.getElem?_eq_some_iff.1 hs).1; simpa [hll] using this
          rw [Lib.cell_of_heap hg, Nat.zero_add]
          have e1 : (cur.toList.take (n * 1))[j]? = some (.string s) := by
            rw [ht]
            rw [List.getElem?_map]
            rw [List.getElem?_map] at hs
            cases hq : l[j]? with
            | none => rw [hq] at hs; cases hs
            | some y => rw [hq] at hs; simp at hs; simp [hs]
          rw [List.getElem?_take, if_pos (by omega)] at e1
          simpa using e1) (lt_of_block hg) (by simp [hll]; omega) (by simp [hll]; exact hc) HO.out.2
        rw [HO.out.1, List.length_map, hll] at this
        exact this)
      clear hlen hr0 hg hc hm hsz ht hf
      go_wp2_with (go_at_call 107; refine HJ.out.mono ?_; rintro e w1 ⟨rfl, hb1⟩; have HB1 := Lib.hid (HB.out.trans (hb1.mono hbs)); clear hb1)
      go_ret
      exact ⟨rfl, HB1.out⟩


end Go.Proofs.YtchebhdndkaheaaGreatDoor

/- The chapter's example of layer 6: its statement may be. -/
namespace Go.Proofs.YtchebhdndkaheaaGreatDoor
open Go.RowKit Go.Lib

set_option maxRecDepth 100000 in
set_option maxHeartbeats 4000000 in
theorem br_k (w : World) : Calls Tryz.prog 100 #[.string ⟨#[107]⟩] w fun e w' => e = .returned (.string ⟨#[32, 40, 32, 107, 32, 41]⟩) ∧ Below w.heap.size w w' := by
  go_enter Tryz.func100, Tryz.ntmps100
  go_wp2
  go_ret
  exact ⟨rfl, Below.refl _ _⟩
set_option maxRecDepth 100000 in
set_option maxHeartbeats 4000000 in
theorem br_e (w : World) : Calls Tryz.prog 100 #[.string ⟨#[40, 107, 32, 60, 32, 53, 41]⟩] w fun e w' => e = .returned (.string ⟨#[32, 40, 32, 40, 107, 32, 60, 32, 53, 41, 32, 41]⟩) ∧ Below w.heap.size w w' := by
  go_enter Tryz.func100, Tryz.ntmps100
  go_wp2
  go_ret
  exact ⟨rfl, Below.refl _ _⟩
set_option maxRecDepth 100000 in
set_option maxHeartbeats 4000000 in
theorem br_d (w : World) : Calls Tryz.prog 100 #[.string ⟨#[107, 32, 73, 78, 84, 32, 44, 32, 75, 69, 89, 32, 40, 32, 107, 32, 41, 32, 44, 32, 67, 72, 69, 67, 75, 32, 40, 32, 40, 107, 32, 60, 32, 53, 41, 32, 41]⟩] w fun e w' => e = .returned (.string ⟨#[32, 40, 32, 107, 32, 73, 78, 84, 32, 44, 32, 75, 69, 89, 32, 40, 32, 107, 32, 41, 32, 44, 32, 67, 72, 69, 67, 75, 32, 40, 32, 40, 107, 32, 60, 32, 53, 41, 32, 41, 32, 41]⟩) ∧ Below w.heap.size w w' := by
  go_enter Tryz.func100, Tryz.ntmps100
  go_wp2
  go_ret
  exact ⟨rfl, Below.refl _ _⟩
set_option maxRecDepth 100000 in
set_option maxHeartbeats 4000000 in
theorem check_le (Q : Nat → Prop) (u : Value) (w : World) (ht : Tr w Q 1 leT u) (hl : LibE w) : Calls Tryz.prog 108 #[.string ⟨#[32, 44, 32]⟩, .agg #[.string ⟨#[60]⟩, .int .i64 0, .int .i64 0, .string ⟨#[]⟩, .string ⟨#[]⟩, u]] w fun e w' => e = .returned (.string ⟨#[32, 44, 32, 67, 72, 69, 67, 75, 32, 40, 32, 40, 107, 32, 60, 32, 53, 41, 32, 41]⟩) ∧ Below w.heap.size w w' := by
  have HT := Lib.hid (And.intro ht hl)
  clear ht hl
  have HB0 : Hid (Below w.heap.size w (w.alloc (.cells #[.string ⟨#[60]⟩, .int .i64 0, .int .i64 0, .string ⟨#[]⟩, .string ⟨#[]⟩, u] 29))) := (Below.refl _ _).alloc (Nat.le_refl _) _
  go_enter Tryz.func108, Tryz.ntmps108
  go_wp2_with (first
    | (go_at_call 138; (with_reducible refine (none_le u _).mono ?_); rintro e w1 ⟨rfl, hb1⟩; have HB1 : Hid (Below w.heap.size w w1) := HB0.out.trans (hb1.mono (by simp)); have EK := hb1.block w.heap.size (by simp); rw [alloc_at rfl _] at EK; have k0 := Lib.cell_of_heap EK 0; have k1 := Lib.cell_of_heap EK 1; have k2 := Lib.cell_of_heap EK 2; have k3 := Lib.cell_of_heap EK 3; have k4 := Lib.cell_of_heap EK 4; have k5 := Lib.cell_of_heap EK 5; simp only [List.getElem?_toArray, List.getElem?_cons_zero, List.getElem?_cons_succ] at k0 k1 k2 k3 k4 k5; clear hb1 EK)
    | (go_at_call 137; (with_reducible refine (exprText_le Q u w1 (HT.out.1.below HB1.out) (HT.out.2.keep HB1.out (Nat.le_refl _))).mono ?_); rintro e w2 ⟨rfl, hb2⟩; have HB2 : Hid (Below w.heap.size w w2) := HB1.out.trans (hb2.mono HB1.out.size); clear hb2)
    | (go_at_call 100; (with_reducible refine (br_e _).mono ?_); rintro e w3 ⟨rfl, hb3⟩; have HB3 : Hid (Below w.heap.size w w3) := HB2.out.trans (hb3.mono HB2.out.size); clear hb3))
  go_ret
  exact ⟨rfl, HB3.out⟩
set_option maxRecDepth 100000 in
set_option maxHeartbeats 4000000 in
theorem enone_s (w : World) : Calls Tryz.prog 120 #[.slice none 0 0, .int .i64 0, .int .i64 8, .func (.func 96) #[] #[]] w fun e w' => e = .returned (.bool true) ∧ Below w.heap.size w w' := by
  have HI : Hid (∀ (F : Value) (W : World), Calls Tryz.prog 172 #[.slice none 0 0, F] W fun e w' => e = .returned (.int .i64 (-1)) ∧ Below W.heap.size W w') := Lib.hid (by
    intro F W
    go_enter Tryz.func172, Tryz.ntmps172
    go_wp2_with (fail)
    refine wp_loop_once ?_
    go_wp2_with (fail)
    go_ret
    exact ⟨rfl, Below.refl _ _⟩)
  have HC : Hid (∀ (F : Value) (W : World), Calls Tryz.prog 151 #[.slice none 0 0, F] W fun e w' => e = .returned (.bool false) ∧ Below W.heap.size W w') := Lib.hid (by
    intro F W
    go_enter Tryz.func151, Tryz.ntmps151
    go_wp2_with (go_at_call 172; (with_reducible refine (HI.out _ _).mono ?_); rintro e w1 ⟨rfl, hb1⟩)
    go_ret
    exact ⟨rfl, hb1⟩)
  go_enter Tryz.func120, Tryz.ntmps120
  go_wp2_with (go_at_call 151; (with_reducible refine (HC.out _ _).mono ?_); rintro e w1 ⟨rfl, hb1⟩; have HB1 := Lib.hid hb1; clear hb1)
  go_ret
  exact ⟨rfl, ((Below.refl _ _).alloc (Nat.le_refl _) _).trans (HB1.out.mono (by simp))⟩
set_option maxRecDepth 100000 in
set_option maxHeartbeats 4000000 in
theorem enone_r (w : World) : Calls Tryz.prog 121 #[.slice none 0 0, .int .i64 0, .int .i64 8, .func (.func 122) #[] #[]] w fun e w' => e = .returned (.bool true) ∧ Below w.heap.size w w' := by
  have HI : Hid (∀ (F : Value) (W : World), Calls Tryz.prog 173 #[.slice none 0 0, F] W fun e w' => e = .returned (.int .i64 (-1)) ∧ Below W.heap.size W w') := Lib.hid (by
    intro F W
    go_enter Tryz.func173, Tryz.ntmps173
    go_wp2_with (fail)
    refine wp_loop_once ?_
    go_wp2_with (fail)
    go_ret
    exact ⟨rfl, Below.refl _ _⟩)
  have HC : Hid (∀ (F : Value) (W : World), Calls Tryz.prog 153 #[.slice none 0 0, F] W fun e w' => e = .returned (.bool false) ∧ Below W.heap.size W w') := Lib.hid (by
    intro F W
    go_enter Tryz.func153, Tryz.ntmps153
    go_wp2_with (go_at_call 173; (with_reducible refine (HI.out _ _).mono ?_); rintro e w1 ⟨rfl, hb1⟩)
    go_ret
    exact ⟨rfl, hb1⟩)
  go_enter Tryz.func121, Tryz.ntmps121
  go_wp2_with (go_at_call 153; (with_reducible refine (HC.out _ _).mono ?_); rintro e w1 ⟨rfl, hb1⟩; have HB1 := Lib.hid hb1; clear hb1)
  go_ret
  exact ⟨rfl, ((Below.refl _ _).alloc (Nat.le_refl _) _).trans (HB1.out.mono (by simp))⟩
end Go.Proofs.YtchebhdndkaheaaGreatDoor

/- The chapter's example of layer 6: CREATE TABLE t (k INT, KEY (k), CHECK (k < 5)) may be. -/
namespace Go.Proofs.YtchebhdndkaheaaGreatDoor
open Go.RowKit Go.Lib

/-- What the statement's text leans on. -/
structure CrH (Q : Nat → Prop) (u : Value) (A : Option Addr) (w : World) : Prop where
  tr : Tr w Q 1 leT u
  lib : LibE w
  ty : TyE w
  col : ColS w A 1 [kC]
theorem CrH.below {Q : Nat → Prop} {u : Value} {A : Option Addr} {w W : World} (h : CrH Q u A w) (hb : Below w.heap.size w W) : CrH Q u A W :=
  ⟨h.tr.below hb, h.lib.keep hb (Nat.le_refl _), h.ty.keep hb (Nat.le_refl _), h.col.below hb⟩
theorem kint_join : (⟨(Lib.join (([kC].map fun _ => (⟨#[107, 32, 73, 78, 84]⟩ : ByteArray)).map (·.data.toList)) (⟨#[32, 44, 32]⟩ : ByteArray).data.toList).toArray⟩ : ByteArray) = ⟨#[107, 32, 73, 78, 84]⟩ := by kernel_rfl
theorem kint_len : (Lib.join (([kC].map fun _ => (⟨#[107, 32, 73, 78, 84]⟩ : ByteArray)).map (·.data.toList)) (⟨#[32, 44, 32]⟩ : ByteArray).data.toList).length ≤ 140737488355328 := by
  have h : (Lib.join (([kC].map fun _ => (⟨#[107, 32, 73, 78, 84]⟩ : ByteArray)).map (·.data.toList)) (⟨#[32, 44, 32]⟩ : ByteArray).data.toList).length = 5 := by kernel_rfl
  omega
theorem clisted_k (Q : Nat → Prop) (u : Value) (A : Option Addr) (cap : Nat) (w : World) (hh : CrH Q u A w) : Calls Tryz.prog 133 #[.slice A 1 cap, .func (.func 134) #[] #[]] w fun e w' => e = .returned (.string ⟨#[107, 32, 73, 78, 84]⟩) ∧ Below w.heap.size w w' :=
  clisted_ok A 1 cap [kC] (fun _ => ⟨#[107, 32, 73, 78, 84]⟩) ⟨#[107, 32, 73, 78, 84]⟩ w (by omega) (by omega) hh.col (fun x hx W hW => by
    obtain rfl := List.mem_singleton.1 hx
    exact define_ok W (hh.ty.keep hW (Nat.le_refl _))) kint_join kint_len
theorem det1_load_row {P : Program} {o : Oper} {a : Act} {w : World} (ty : TypeId) (x : Operand) (ho : o.op = .load ty x)
    (g : Nat) (hx : a.eval x = .pointer (some ⟨g, 0, none⟩)) (t : TypeId) (cs : Array Value) (fr : Nat × Nat) (d : TypeDesc) (hg : w.heap[g]? = some (.cells cs t fr))
    (hu : P.underlying ty = some d) (hd : (match d with | .struct _ | .array _ _ => true | _ => false) = true) (hi : (P.info? ty).map (·.size) = some cs.size) : Det1 P (.agg cs) w ((execOp a.eval o).run P w) := by
  unfold execOp
  simp only [ho, hx, Instr.loadAt, Instr.sureAddr, Sem.run_bind, Sem.run_pure, Result.andThen_ok, run_loadVar_row w g t ty cs fr d hg hu hd hi]
  exact Det1_same
set_option maxRecDepth 100000 in
set_option maxHeartbeats 4000000 in
theorem definitions_cr (Q : Nat → Prop) (u : Value) (A : Option Addr) (cap : Nat) (w : World) (hh : CrH Q u A w) : Calls Tryz.prog 101 #[.agg #[.string ⟨#[99, 114, 101, 97, 116, 101]⟩, .string ⟨#[116]⟩, .string ⟨#[]⟩, .slice none 0 0, .slice A 1 cap, .string ⟨#[107]⟩, .slice none 0 0, .slice none 0 0, .string ⟨#[60]⟩, .int .i64 0, .int .i64 0, .string ⟨#[]⟩, .string ⟨#[]⟩, u, .slice none 0 0, .slice none 0 0, .string ⟨#[]⟩, .int .i64 0, .int .i64 0, .string ⟨#[]⟩, .string ⟨#[]⟩, .slice none 0 0, .string ⟨#[]⟩]] w fun e w' => e = .returned (.string ⟨#[107, 32, 73, 78, 84, 32, 44, 32, 75, 69, 89, 32, 40, 32, 107, 32, 41, 32, 44, 32, 67, 72, 69, 67, 75, 32, 40, 32, 40, 107, 32, 60, 32, 53, 41, 32, 41]⟩) ∧ Below w.heap.size w w' := by
  have HT := Lib.hid hh
  clear hh
  have HB0 : Hid (Below w.heap.size w (w.alloc (.cells #[.string ⟨#[99, 114, 101, 97, 116, 101]⟩, .string ⟨#[116]⟩, .string ⟨#[]⟩, .slice none 0 0, .slice A 1 cap, .string ⟨#[107]⟩, .slice none 0 0, .slice none 0 0, .string ⟨#[60]⟩, .int .i64 0, .int .i64 0, .string ⟨#[]⟩, .string ⟨#[]⟩, u, .slice none 0 0, .slice none 0 0, .string ⟨#[]⟩, .int .i64 0, .int .i64 0, .string ⟨#[]⟩, .string ⟨#[]⟩, .slice none 0 0, .string ⟨#[]⟩] 61))) := (Below.refl _ _).alloc (Nat.le_refl _) _
  go_enter Tryz.func101, Tryz.ntmps101
  go_upto_region 1 with (fail)
  refine detL_begin [.val (.pointer (some ⟨w.heap.size, 4, none⟩)), .val (.slice A 1 cap), .val (.string ⟨#[107, 32, 73, 78, 84]⟩), .val (.string ⟨#[107, 32, 73, 78, 84, 32, 44, 32]⟩), .val (.string ⟨#[107, 32, 73, 78, 84, 32, 44, 32, 75, 69, 89]⟩), .val (.pointer (some ⟨w.heap.size, 5, none⟩)), .val (.string ⟨#[107]⟩), .val (.string ⟨#[32, 40, 32, 107, 32, 41]⟩), .val (.string ⟨#[107, 32, 73, 78, 84, 32, 44, 32, 75, 69, 89, 32, 40, 32, 107, 32, 41]⟩), .val (.string ⟨#[107, 32, 73, 78, 84, 32, 44, 32, 75, 69, 89, 32, 40, 32, 107, 32, 41]⟩)] 10 (by kernel_rfl) ?_
  refine detL_val (by kernel_rfl) (yields_of rfl fun w1 hb1 => ?_) ?_
  · have hc1 := bcellD hb1
    clear hb1
    go_simp
    exact Det1_same
  simp only [Act.put, List.setIfInBounds_toArray, List.set_cons_zero, List.set_cons_succ]
  refine detL_val (by kernel_rfl) (yields_of rfl fun w1 hb1 => ?_) ?_
  · have hc1 := bcellD hb1
    clear hb1
    go_simp
    exact Det1_same
  simp only [Act.put, List.setIfInBounds_toArray, List.set_cons_zero, List.set_cons_succ]
  refine detL_val (by kernel_rfl) (yields_of rfl fun w1 hb1 => ?_) ?_
  · have hc1 := bcellD hb1
    have HB1 := Lib.hid (HB0.out.drew.trans (hb1.mono (by simp)))
    clear hb1
    go_simp
    exact Det1_enter (clisted_k Q u A cap w1 (HT.out.below HB1.out))
  simp only [Act.put, List.setIfInBounds_toArray, List.set_cons_zero, List.set_cons_succ]
  refine detL_val (by kernel_rfl) (yields_of rfl fun w1 hb1 => ?_) ?_
  · have hc1 := bcellD hb1
    clear hb1
    go_simp
    exact Det1_same
  simp only [Act.put, List.setIfInBounds_toArray, List.set_cons_zero, List.set_cons_succ]
  refine detL_val (by kernel_rfl) (yields_of rfl fun w1 hb1 => ?_) ?_
  · have hc1 := bcellD hb1
    clear hb1
    go_simp
    exact Det1_same
  simp only [Act.put, List.setIfInBounds_toArray, List.set_cons_zero, List.set_cons_succ]
  refine detL_val (by kernel_rfl) (yields_of rfl fun w1 hb1 => ?_) ?_
  · have hc1 := bcellD hb1
    clear hb1
    go_simp
    exact Det1_same
  simp only [Act.put, List.setIfInBounds_toArray, List.set_cons_zero, List.set_cons_succ]
  refine detL_val (by kernel_rfl) (yields_of rfl fun w1 hb1 => ?_) ?_
  · have hc1 := bcellD hb1
    clear hb1
    go_simp
    exact Det1_same
  simp only [Act.put, List.setIfInBounds_toArray, List.set_cons_zero, List.set_cons_succ]
  refine detL_val (by kernel_rfl) (yields_of rfl fun w1 hb1 => ?_) ?_
  · have hc1 := bcellD hb1
    clear hb1
    go_simp
    exact Det1_enter (br_k _)
  simp only [Act.put, List.setIfInBounds_toArray, List.set_cons_zero, List.set_cons_succ]
  refine detL_val (by kernel_rfl) (yields_of rfl fun w1 hb1 => ?_) ?_
  · have hc1 := bcellD hb1
    clear hb1
    go_simp
    exact Det1_same
  simp only [Act.put, List.setIfInBounds_toArray, List.set_cons_zero, List.set_cons_succ]
  refine detL_val (by kernel_rfl) (yields_of rfl fun w1 hb1 => ?_) ?_
  · have hc1 := bcellD hb1
    clear hb1
    go_simp
    exact Det1_same
  simp only [Act.put, List.setIfInBounds_toArray, List.set_cons_zero, List.set_cons_succ]
  refine detL_done (by kernel_rfl) fun w1 hw1 => ?_
  have HB1 : Hid (Below w.heap.size w w1) := HB0.out.drew.trans (hw1.below.mono (by simp))
  have EK : w1.heap[w.heap.size]? = some (.cells #[.string ⟨#[99, 114, 101, 97, 116, 101]⟩, .string ⟨#[116]⟩, .string ⟨#[]⟩, .slice none 0 0, .slice A 1 cap, .string ⟨#[107]⟩, .slice none 0 0, .slice none 0 0, .string ⟨#[60]⟩, .int .i64 0, .int .i64 0, .string ⟨#[]⟩, .string ⟨#[]⟩, u, .slice none 0 0, .slice none 0 0, .string ⟨#[]⟩, .int .i64 0, .int .i64 0, .string ⟨#[]⟩, .string ⟨#[]⟩, .slice none 0 0, .string ⟨#[]⟩] 61 (0, 0)) := (hw1.below.block w.heap.size (by simp)).trans (alloc_at rfl _)
  have k6 := Lib.cell_of_heap EK 6
  have k7 := Lib.cell_of_heap EK 7
  have k8 := Lib.cell_of_heap EK 8
  have k9 := Lib.cell_of_heap EK 9
  have k10 := Lib.cell_of_heap EK 10
  have k11 := Lib.cell_of_heap EK 11
  have k12 := Lib.cell_of_heap EK 12
  have k13 := Lib.cell_of_heap EK 13
  simp only [List.getElem?_toArray, List.getElem?_cons_zero, List.getElem?_cons_succ] at k6 k7 k8 k9 k10 k11 k12 k13
  have hbl := lt_of_block EK
  clear hw1 EK
  go_wp2_with (fail)
  refine wp_loop_once ?_
  go_wp2_with (fail)
  refine wp_loop_once ?_
  go_wp2_with (go_at_call 108; (with_reducible refine (check_le Q u w1 (HT.out.tr.below HB1.out) (HT.out.lib.keep HB1.out (Nat.le_refl _))).mono ?_); rintro e w2 ⟨rfl, hb2⟩; have HB2 : Hid (Below w.heap.size w w2) := HB1.out.trans (hb2.mono HB1.out.size); clear hb2)
  go_ret
  exact ⟨rfl, HB2.out⟩
set_option maxRecDepth 100000 in
set_option maxHeartbeats 4000000 in
theorem written_cr (Q : Nat → Prop) (u : Value) (A : Option Addr) (cap : Nat) (w : World) (hh : CrH Q u A w) : Calls Tryz.prog 82 #[.agg #[.string ⟨#[99, 114, 101, 97, 116, 101]⟩, .string ⟨#[116]⟩, .string ⟨#[]⟩, .slice none 0 0, .slice A 1 cap, .string ⟨#[107]⟩, .slice none 0 0, .slice none 0 0, .string ⟨#[60]⟩, .int .i64 0, .int .i64 0, .string ⟨#[]⟩, .string ⟨#[]⟩, u, .slice none 0 0, .slice none 0 0, .string ⟨#[]⟩, .int .i64 0, .int .i64 0, .string ⟨#[]⟩, .string ⟨#[]⟩, .slice none 0 0, .string ⟨#[]⟩]] w fun e w' => e = .returned (.string ⟨#[67, 82, 69, 65, 84, 69, 32, 84, 65, 66, 76, 69, 32, 116, 32, 40, 32, 107, 32, 73, 78, 84, 32, 44, 32, 75, 69, 89, 32, 40, 32, 107, 32, 41, 32, 44, 32, 67, 72, 69, 67, 75, 32, 40, 32, 40, 107, 32, 60, 32, 53, 41, 32, 41, 32, 41]⟩) ∧ Below w.heap.size w w' := by
  have HT := Lib.hid hh
  clear hh
  have HB0 : Hid (Below w.heap.size w (w.alloc (.cells #[.string ⟨#[99, 114, 101, 97, 116, 101]⟩, .string ⟨#[116]⟩, .string ⟨#[]⟩, .slice none 0 0, .slice A 1 cap, .string ⟨#[107]⟩, .slice none 0 0, .slice none 0 0, .string ⟨#[60]⟩, .int .i64 0, .int .i64 0, .string ⟨#[]⟩, .string ⟨#[]⟩, u, .slice none 0 0, .slice none 0 0, .string ⟨#[]⟩, .int .i64 0, .int .i64 0, .string ⟨#[]⟩, .string ⟨#[]⟩, .slice none 0 0, .string ⟨#[]⟩] 61))) := (Below.refl _ _).alloc (Nat.le_refl _) _
  go_enter Tryz.func82, Tryz.ntmps82
  go_upto_region 3 with (fail)
  refine detL_begin [.val (.pointer (some ⟨w.heap.size, 1, none⟩)), .val (.string ⟨#[116]⟩), .val (.string ⟨#[67, 82, 69, 65, 84, 69, 32, 84, 65, 66, 76, 69, 32, 116]⟩), .val (.agg #[.string ⟨#[99, 114, 101, 97, 116, 101]⟩, .string ⟨#[116]⟩, .string ⟨#[]⟩, .slice none 0 0, .slice A 1 cap, .string ⟨#[107]⟩, .slice none 0 0, .slice none 0 0, .string ⟨#[60]⟩, .int .i64 0, .int .i64 0, .string ⟨#[]⟩, .string ⟨#[]⟩, u, .slice none 0 0, .slice none 0 0, .string ⟨#[]⟩, .int .i64 0, .int .i64 0, .string ⟨#[]⟩, .string ⟨#[]⟩, .slice none 0 0, .string ⟨#[]⟩]), .val (.string ⟨#[107, 32, 73, 78, 84, 32, 44, 32, 75, 69, 89, 32, 40, 32, 107, 32, 41, 32, 44, 32, 67, 72, 69, 67, 75, 32, 40, 32, 40, 107, 32, 60, 32, 53, 41, 32, 41]⟩), .val (.string ⟨#[32, 40, 32, 107, 32, 73, 78, 84, 32, 44, 32, 75, 69, 89, 32, 40, 32, 107, 32, 41, 32, 44, 32, 67, 72, 69, 67, 75, 32, 40, 32, 40, 107, 32, 60, 32, 53, 41, 32, 41, 32, 41]⟩), .val (.string ⟨#[67, 82, 69, 65, 84, 69, 32, 84, 65, 66, 76, 69, 32, 116, 32, 40, 32, 107, 32, 73, 78, 84, 32, 44, 32, 75, 69, 89, 32, 40, 32, 107, 32, 41, 32, 44, 32, 67, 72, 69, 67, 75, 32, 40, 32, 40, 107, 32, 60, 32, 53, 41, 32, 41, 32, 41]⟩), .val (.string ⟨#[67, 82, 69, 65, 84, 69, 32, 84, 65, 66, 76, 69, 32, 116, 32, 40, 32, 107, 32, 73, 78, 84, 32, 44, 32, 75, 69, 89, 32, 40, 32, 107, 32, 41, 32, 44, 32, 67, 72, 69, 67, 75, 32, 40, 32, 40, 107, 32, 60, 32, 53, 41, 32, 41, 32, 41]⟩)] 8 (by kernel_rfl) ?_
  refine detL_val (by kernel_rfl) (yields_of rfl fun w1 hb1 => ?_) ?_
  · have hc1 := bcellD hb1
    clear hb1
    go_simp
    exact Det1_same
  simp only [Act.put, List.setIfInBounds_toArray, List.set_cons_zero, List.set_cons_succ]
  refine detL_val (by kernel_rfl) (yields_of rfl fun w1 hb1 => ?_) ?_
  · have hc1 := bcellD hb1
    clear hb1
    go_simp
    exact Det1_same
  simp only [Act.put, List.setIfInBounds_toArray, List.set_cons_zero, List.set_cons_succ]
  refine detL_val (by kernel_rfl) (yields_of rfl fun w1 hb1 => ?_) ?_
  · have hc1 := bcellD hb1
    clear hb1
    go_simp
    exact Det1_same
  simp only [Act.put, List.setIfInBounds_toArray, List.set_cons_zero, List.set_cons_succ]
  refine detL_val (by kernel_rfl) (yields_of rfl fun w1 hb1 => det1_load_row 61 (.tmp 1) rfl w.heap.size rfl 61 _ (0, 0) _ ((hb1.block w.heap.size (by simp)).trans (alloc_at rfl _)) Tryz.underlying61 rfl stSize) ?_
  simp only [Act.put, List.setIfInBounds_toArray, List.set_cons_zero, List.set_cons_succ]
  refine detL_val (by kernel_rfl) (yields_of rfl fun w1 hb1 => ?_) ?_
  · have hc1 := bcellD hb1
    have HB1 := Lib.hid (HB0.out.drew.trans (hb1.mono (by simp)))
    clear hb1
    go_simp
    exact Det1_enter (definitions_cr Q u A cap w1 (HT.out.below HB1.out))
  simp only [Act.put, List.setIfInBounds_toArray, List.set_cons_zero, List.set_cons_succ]
  refine detL_val (by kernel_rfl) (yields_of rfl fun w1 hb1 => ?_) ?_
  · have hc1 := bcellD hb1
    clear hb1
    go_simp
    exact Det1_enter (br_d _)
  simp only [Act.put, List.setIfInBounds_toArray, List.set_cons_zero, List.set_cons_succ]
  refine detL_val (by kernel_rfl) (yields_of rfl fun w1 hb1 => ?_) ?_
  · have hc1 := bcellD hb1
    clear hb1
    go_simp
    exact Det1_same
  simp only [Act.put, List.setIfInBounds_toArray, List.set_cons_zero, List.set_cons_succ]
  refine detL_val (by kernel_rfl) (yields_of rfl fun w1 hb1 => ?_) ?_
  · have hc1 := bcellD hb1
    clear hb1
    go_simp
    exact Det1_same
  simp only [Act.put, List.setIfInBounds_toArray, List.set_cons_zero, List.set_cons_succ]
  refine detL_done (by kernel_rfl) fun w1 hw1 => ?_
  have HB1 : Hid (Below w.heap.size w w1) := HB0.out.drew.trans (hw1.below.mono (by simp))
  clear hw1
  go_wp2
  go_ret
  exact ⟨rfl, HB1.out⟩
end Go.Proofs.YtchebhdndkaheaaGreatDoor

/- The chapter's example of layer 6: its statement may be. -/
namespace Go.Proofs.YtchebhdndkaheaaGreatDoor
open Go.RowKit Go.Lib

set_option maxRecDepth 100000 in
set_option maxHeartbeats 4000000 in
theorem filled_cr (Q : Nat → Prop) (u : Value) (A : Option Addr) (cap : Nat) (w : World) (hh : CrH Q u A w) : Calls Tryz.prog 97 #[.agg #[.string ⟨#[99, 114, 101, 97, 116, 101]⟩, .string ⟨#[116]⟩, .string ⟨#[]⟩, .slice none 0 0, .slice A 1 cap, .string ⟨#[107]⟩, .slice none 0 0, .slice none 0 0, .string ⟨#[60]⟩, .int .i64 0, .int .i64 0, .string ⟨#[]⟩, .string ⟨#[]⟩, u, .slice none 0 0, .slice none 0 0, .string ⟨#[]⟩, .int .i64 0, .int .i64 0, .string ⟨#[]⟩, .string ⟨#[]⟩, .slice none 0 0, .string ⟨#[]⟩]] w fun e w' => e = .returned (.bool true) ∧ Below w.heap.size w w' := by
  have HT := Lib.hid hh
  clear hh
  have H0 : Hid (Below w.heap.size w (w.alloc (.cells #[.string ⟨#[99, 114, 101, 97, 116, 101]⟩, .string ⟨#[116]⟩, .string ⟨#[]⟩, .slice none 0 0, .slice A 1 cap, .string ⟨#[107]⟩, .slice none 0 0, .slice none 0 0, .string ⟨#[60]⟩, .int .i64 0, .int .i64 0, .string ⟨#[]⟩, .string ⟨#[]⟩, u, .slice none 0 0, .slice none 0 0, .string ⟨#[]⟩, .int .i64 0, .int .i64 0, .string ⟨#[]⟩, .string ⟨#[]⟩, .slice none 0 0, .string ⟨#[]⟩] 61)) ∧ (w.alloc (.cells #[.string ⟨#[99, 114, 101, 97, 116, 101]⟩, .string ⟨#[116]⟩, .string ⟨#[]⟩, .slice none 0 0, .slice A 1 cap, .string ⟨#[107]⟩, .slice none 0 0, .slice none 0 0, .string ⟨#[60]⟩, .int .i64 0, .int .i64 0, .string ⟨#[]⟩, .string ⟨#[]⟩, u, .slice none 0 0, .slice none 0 0, .string ⟨#[]⟩, .int .i64 0, .int .i64 0, .string ⟨#[]⟩, .string ⟨#[]⟩, .slice none 0 0, .string ⟨#[]⟩] 61)).heap[w.heap.size]? = some (.cells #[.string ⟨#[99, 114, 101, 97, 116, 101]⟩, .string ⟨#[116]⟩, .string ⟨#[]⟩, .slice none 0 0, .slice A 1 cap, .string ⟨#[107]⟩, .slice none 0 0, .slice none 0 0, .string ⟨#[60]⟩, .int .i64 0, .int .i64 0, .string ⟨#[]⟩, .string ⟨#[]⟩, u, .slice none 0 0, .slice none 0 0, .string ⟨#[]⟩, .int .i64 0, .int .i64 0, .string ⟨#[]⟩, .string ⟨#[]⟩, .slice none 0 0, .string ⟨#[]⟩] 61 (0, 0))) := ⟨(Below.refl _ _).alloc (Nat.le_refl _) _, alloc_at rfl _⟩
  have hbx := H0.out.2
  have STEP : Hid (∀ W W' : World, (Below w.heap.size w W ∧ W.heap[w.heap.size]? = some (.cells #[.string ⟨#[99, 114, 101, 97, 116, 101]⟩, .string ⟨#[116]⟩, .string ⟨#[]⟩, .slice none 0 0, .slice A 1 cap, .string ⟨#[107]⟩, .slice none 0 0, .slice none 0 0, .string ⟨#[60]⟩, .int .i64 0, .int .i64 0, .string ⟨#[]⟩, .string ⟨#[]⟩, u, .slice none 0 0, .slice none 0 0, .string ⟨#[]⟩, .int .i64 0, .int .i64 0, .string ⟨#[]⟩, .string ⟨#[]⟩, .slice none 0 0, .string ⟨#[]⟩] 61 (0, 0))) → Below W.heap.size W W' → (Below w.heap.size w W' ∧ W'.heap[w.heap.size]? = some (.cells #[.string ⟨#[99, 114, 101, 97, 116, 101]⟩, .string ⟨#[116]⟩, .string ⟨#[]⟩, .slice none 0 0, .slice A 1 cap, .string ⟨#[107]⟩, .slice none 0 0, .slice none 0 0, .string ⟨#[60]⟩, .int .i64 0, .int .i64 0, .string ⟨#[]⟩, .string ⟨#[]⟩, u, .slice none 0 0, .slice none 0 0, .string ⟨#[]⟩, .int .i64 0, .int .i64 0, .string ⟨#[]⟩, .string ⟨#[]⟩, .slice none 0 0, .string ⟨#[]⟩] 61 (0, 0)))) := Lib.hid fun W W' h hb => ⟨h.1.trans (hb.mono h.1.size), (hb.block _ (lt_of_block h.2)).trans h.2⟩
  go_enter Tryz.func97, Tryz.ntmps97
  go_wp2_with (first
    | (go_at_call 118; (with_reducible refine (ceach_ok A cap _ (HT.out.below H0.out.1).col).mono ?_); rintro e w1 ⟨rfl, hb1⟩; have H0 := Lib.hid (STEP.out _ _ H0.out hb1); clear hb1 hbx; have hbx := H0.out.2; have k0 := Lib.cell_of_heap hbx 0; have k4 := Lib.cell_of_heap hbx 4; have k5 := Lib.cell_of_heap hbx 5; have k6 := Lib.cell_of_heap hbx 6; have k7 := Lib.cell_of_heap hbx 7; have k8 := Lib.cell_of_heap hbx 8; have k9 := Lib.cell_of_heap hbx 9; have k10 := Lib.cell_of_heap hbx 10; have k11 := Lib.cell_of_heap hbx 11; have k12 := Lib.cell_of_heap hbx 12; have k13 := Lib.cell_of_heap hbx 13; simp only [List.getElem?_toArray, List.getElem?_cons_zero, List.getElem?_cons_succ] at k0 k4 k5 k6 k7 k8 k9 k10 k11 k12 k13; have hbl := lt_of_block hbx)
    | (go_at_call 96; (with_reducible refine (named_any ⟨#[107]⟩ _ (by decide)).mono ?_); rintro e w1 ⟨rfl, hb1⟩; rw [nmB_k]; have H0 := Lib.hid (STEP.out _ _ H0.out hb1); clear hb1 hbx; have hbx := H0.out.2; have k0 := Lib.cell_of_heap hbx 0; have k4 := Lib.cell_of_heap hbx 4; have k5 := Lib.cell_of_heap hbx 5; have k6 := Lib.cell_of_heap hbx 6; have k7 := Lib.cell_of_heap hbx 7; have k8 := Lib.cell_of_heap hbx 8; have k9 := Lib.cell_of_heap hbx 9; have k10 := Lib.cell_of_heap hbx 10; have k11 := Lib.cell_of_heap hbx 11; have k12 := Lib.cell_of_heap hbx 12; have k13 := Lib.cell_of_heap hbx 13; simp only [List.getElem?_toArray, List.getElem?_cons_zero, List.getElem?_cons_succ] at k0 k4 k5 k6 k7 k8 k9 k10 k11 k12 k13; have hbl := lt_of_block hbx)
    | (go_at_call 120; (with_reducible refine (enone_s _).mono ?_); rintro e w1 ⟨rfl, hb1⟩; have H0 := Lib.hid (STEP.out _ _ H0.out hb1); clear hb1 hbx; have hbx := H0.out.2; have k0 := Lib.cell_of_heap hbx 0; have k4 := Lib.cell_of_heap hbx 4; have k5 := Lib.cell_of_heap hbx 5; have k6 := Lib.cell_of_heap hbx 6; have k7 := Lib.cell_of_heap hbx 7; have k8 := Lib.cell_of_heap hbx 8; have k9 := Lib.cell_of_heap hbx 9; have k10 := Lib.cell_of_heap hbx 10; have k11 := Lib.cell_of_heap hbx 11; have k12 := Lib.cell_of_heap hbx 12; have k13 := Lib.cell_of_heap hbx 13; simp only [List.getElem?_toArray, List.getElem?_cons_zero, List.getElem?_cons_succ] at k0 k4 k5 k6 k7 k8 k9 k10 k11 k12 k13; have hbl := lt_of_block hbx)
    | (go_at_call 121; (with_reducible refine (enone_r _).mono ?_); rintro e w1 ⟨rfl, hb1⟩; have H0 := Lib.hid (STEP.out _ _ H0.out hb1); clear hb1 hbx; have hbx := H0.out.2; have k0 := Lib.cell_of_heap hbx 0; have k4 := Lib.cell_of_heap hbx 4; have k5 := Lib.cell_of_heap hbx 5; have k6 := Lib.cell_of_heap hbx 6; have k7 := Lib.cell_of_heap hbx 7; have k8 := Lib.cell_of_heap hbx 8; have k9 := Lib.cell_of_heap hbx 9; have k10 := Lib.cell_of_heap hbx 10; have k11 := Lib.cell_of_heap hbx 11; have k12 := Lib.cell_of_heap hbx 12; have k13 := Lib.cell_of_heap hbx 13; simp only [List.getElem?_toArray, List.getElem?_cons_zero, List.getElem?_cons_succ] at k0 k4 k5 k6 k7 k8 k9 k10 k11 k12 k13; have hbl := lt_of_block hbx)
    | (go_at_call 123; (with_reducible refine (optional_le Q 1 u _ (HT.out.below H0.out.1).tr).mono ?_); rintro e w1 ⟨rfl, hb1⟩; have H0 := Lib.hid (STEP.out _ _ H0.out hb1); clear hb1 hbx; have hbx := H0.out.2; have k0 := Lib.cell_of_heap hbx 0; have k4 := Lib.cell_of_heap hbx 4; have k5 := Lib.cell_of_heap hbx 5; have k6 := Lib.cell_of_heap hbx 6; have k7 := Lib.cell_of_heap hbx 7; have k8 := Lib.cell_of_heap hbx 8; have k9 := Lib.cell_of_heap hbx 9; have k10 := Lib.cell_of_heap hbx 10; have k11 := Lib.cell_of_heap hbx 11; have k12 := Lib.cell_of_heap hbx 12; have k13 := Lib.cell_of_heap hbx 13; simp only [List.getElem?_toArray, List.getElem?_cons_zero, List.getElem?_cons_succ] at k0 k4 k5 k6 k7 k8 k9 k10 k11 k12 k13; have hbl := lt_of_block hbx))
  go_ret
  exact ⟨rfl, H0.out.1⟩
set_option maxRecDepth 100000 in
set_option maxHeartbeats 4000000 in
theorem rest_cr (u : Value) (A : Option Addr) (cap : Nat) (w : World) : Calls Tryz.prog 99 #[.agg #[.string ⟨#[99, 114, 101, 97, 116, 101]⟩, .string ⟨#[116]⟩, .string ⟨#[]⟩, .slice none 0 0, .slice A 1 cap, .string ⟨#[107]⟩, .slice none 0 0, .slice none 0 0, .string ⟨#[60]⟩, .int .i64 0, .int .i64 0, .string ⟨#[]⟩, .string ⟨#[]⟩, u, .slice none 0 0, .slice none 0 0, .string ⟨#[]⟩, .int .i64 0, .int .i64 0, .string ⟨#[]⟩, .string ⟨#[]⟩, .slice none 0 0, .string ⟨#[]⟩]] w fun e w' => e = .returned (.agg #[.string ⟨#[]⟩, .string ⟨#[]⟩, .string ⟨#[]⟩, .slice none 0 0, .slice none 0 0, .string ⟨#[]⟩, .slice none 0 0, .slice none 0 0, .string ⟨#[]⟩, .int .i64 0, .int .i64 0, .string ⟨#[]⟩, .string ⟨#[]⟩, .slice none 0 0, .slice none 0 0, .slice none 0 0, .string ⟨#[]⟩, .int .i64 0, .int .i64 0, .string ⟨#[]⟩, .string ⟨#[]⟩, .slice none 0 0, .string ⟨#[]⟩]) ∧ Below w.heap.size w w' := by
  go_enter Tryz.func99, Tryz.ntmps99
  go_upto_region 22 with (fail)
  refine wp_gen (Bx2 w) (Bx2.start w) fun w1 h1 => ?_
  have H1 := Lib.hid h1
  clear h1
  have b1 := H1.out.a
  have b2 := H1.out.b
  go_wp2_with (first
    | (refine wpList_load_row rfl 61 (.tmp 1) rfl w.heap.size rfl 61 #[.string ⟨#[]⟩, .string ⟨#[]⟩, .string ⟨#[]⟩, .slice none 0 0, .slice none 0 0, .string ⟨#[]⟩, .slice none 0 0, .slice none 0 0, .string ⟨#[]⟩, .int .i64 0, .int .i64 0, .string ⟨#[]⟩, .string ⟨#[]⟩, .slice none 0 0, .slice none 0 0, .slice none 0 0, .string ⟨#[]⟩, .int .i64 0, .int .i64 0, .string ⟨#[]⟩, .string ⟨#[]⟩, .slice none 0 0, .string ⟨#[]⟩] (0, 0) _ b1 Tryz.underlying61 rfl stSize ?_)
    | (refine wpList_store_row rfl 61 (.tmp 2) (.tmp 48) rfl (w.heap.size + 1) #[.string ⟨#[]⟩, .string ⟨#[]⟩, .string ⟨#[]⟩, .slice none 0 0, .slice none 0 0, .string ⟨#[]⟩, .slice none 0 0, .slice none 0 0, .string ⟨#[]⟩, .int .i64 0, .int .i64 0, .string ⟨#[]⟩, .string ⟨#[]⟩, .slice none 0 0, .slice none 0 0, .slice none 0 0, .string ⟨#[]⟩, .int .i64 0, .int .i64 0, .string ⟨#[]⟩, .string ⟨#[]⟩, .slice none 0 0, .string ⟨#[]⟩] rfl rfl 61 _ b2 stSize rfl (rt_one _ _ _) ?_))
  refine bodyPost_ret (results_cell_row rfl _ _ (w.heap.size + 1) 61 #[.string ⟨#[]⟩, .string ⟨#[]⟩, .string ⟨#[]⟩, .slice none 0 0, .slice none 0 0, .string ⟨#[]⟩, .slice none 0 0, .slice none 0 0, .string ⟨#[]⟩, .int .i64 0, .int .i64 0, .string ⟨#[]⟩, .string ⟨#[]⟩, .slice none 0 0, .slice none 0 0, .slice none 0 0, .string ⟨#[]⟩, .int .i64 0, .int .i64 0, .string ⟨#[]⟩, .string ⟨#[]⟩, .slice none 0 0, .string ⟨#[]⟩] (0, 0) _ rfl (setRow_heap _ _ _ _ _ _ b2) Tryz.underlying61 rfl stSize) rfl ⟨rfl, below_row H1.out.lo _ (by omega)⟩
def tsC : List Tk := [⟨1, [67, 82, 69, 65, 84, 69]⟩, ⟨1, [84, 65, 66, 76, 69]⟩, ⟨1, [116]⟩, ⟨4, [40]⟩, ⟨1, [107]⟩, ⟨1, [73, 78, 84]⟩, ⟨4, [44]⟩, ⟨1, [75, 69, 89]⟩, ⟨4, [40]⟩, ⟨1, [107]⟩, ⟨4, [41]⟩, ⟨4, [44]⟩, ⟨1, [67, 72, 69, 67, 75]⟩, ⟨4, [40]⟩, ⟨4, [40]⟩, ⟨1, [107]⟩, ⟨4, [60]⟩, ⟨2, [53]⟩, ⟨4, [41]⟩, ⟨4, [41]⟩, ⟨4, [41]⟩]
theorem cut_cr : cutR (⟨#[67, 82, 69, 65, 84, 69, 32, 84, 65, 66, 76, 69, 32, 116, 32, 40, 32, 107, 32, 73, 78, 84, 32, 44, 32, 75, 69, 89, 32, 40, 32, 107, 32, 41, 32, 44, 32, 67, 72, 69, 67, 75, 32, 40, 32, 40, 107, 32, 60, 32, 53, 41, 32, 41, 32, 41]⟩ : ByteArray).data.toList = some tsC := by kernel_rfl
set_option maxRecDepth 100000 in
set_option maxHeartbeats 4000000 in
theorem formed_cr (Q : Nat → Prop) (u : Value) (A : Option Addr) (cap : Nat) (w : World) (hh : CrH Q u A w) : Calls Tryz.prog 81 #[.agg #[.string ⟨#[99, 114, 101, 97, 116, 101]⟩, .string ⟨#[116]⟩, .string ⟨#[]⟩, .slice none 0 0, .slice A 1 cap, .string ⟨#[107]⟩, .slice none 0 0, .slice none 0 0, .string ⟨#[60]⟩, .int .i64 0, .int .i64 0, .string ⟨#[]⟩, .string ⟨#[]⟩, u, .slice none 0 0, .slice none 0 0, .string ⟨#[]⟩, .int .i64 0, .int .i64 0, .string ⟨#[]⟩, .string ⟨#[]⟩, .slice none 0 0, .string ⟨#[]⟩]] w fun e w' => e = .returned (.bool true) ∧ Below w.heap.size w w' := by
  have HT := Lib.hid hh
  clear hh
  have H0 : Hid (Below w.heap.size w (w.alloc (.cells #[.string ⟨#[99, 114, 101, 97, 116, 101]⟩, .string ⟨#[116]⟩, .string ⟨#[]⟩, .slice none 0 0, .slice A 1 cap, .string ⟨#[107]⟩, .slice none 0 0, .slice none 0 0, .string ⟨#[60]⟩, .int .i64 0, .int .i64 0, .string ⟨#[]⟩, .string ⟨#[]⟩, u, .slice none 0 0, .slice none 0 0, .string ⟨#[]⟩, .int .i64 0, .int .i64 0, .string ⟨#[]⟩, .string ⟨#[]⟩, .slice none 0 0, .string ⟨#[]⟩] 61)) ∧ (w.alloc (.cells #[.string ⟨#[99, 114, 101, 97, 116, 101]⟩, .string ⟨#[116]⟩, .string ⟨#[]⟩, .slice none 0 0, .slice A 1 cap, .string ⟨#[107]⟩, .slice none 0 0, .slice none 0 0, .string ⟨#[60]⟩, .int .i64 0, .int .i64 0, .string ⟨#[]⟩, .string ⟨#[]⟩, u, .slice none 0 0, .slice none 0 0, .string ⟨#[]⟩, .int .i64 0, .int .i64 0, .string ⟨#[]⟩, .string ⟨#[]⟩, .slice none 0 0, .string ⟨#[]⟩] 61)).heap[w.heap.size]? = some (.cells #[.string ⟨#[99, 114, 101, 97, 116, 101]⟩, .string ⟨#[116]⟩, .string ⟨#[]⟩, .slice none 0 0, .slice A 1 cap, .string ⟨#[107]⟩, .slice none 0 0, .slice none 0 0, .string ⟨#[60]⟩, .int .i64 0, .int .i64 0, .string ⟨#[]⟩, .string ⟨#[]⟩, u, .slice none 0 0, .slice none 0 0, .string ⟨#[]⟩, .int .i64 0, .int .i64 0, .string ⟨#[]⟩, .string ⟨#[]⟩, .slice none 0 0, .string ⟨#[]⟩] 61 (0, 0))) := ⟨(Below.refl _ _).alloc (Nat.le_refl _) _, alloc_at rfl _⟩
  have hbx := H0.out.2
  have STEP : Hid (∀ W W' : World, (Below w.heap.size w W ∧ W.heap[w.heap.size]? = some (.cells #[.string ⟨#[99, 114, 101, 97, 116, 101]⟩, .string ⟨#[116]⟩, .string ⟨#[]⟩, .slice none 0 0, .slice A 1 cap, .string ⟨#[107]⟩, .slice none 0 0, .slice none 0 0, .string ⟨#[60]⟩, .int .i64 0, .int .i64 0, .string ⟨#[]⟩, .string ⟨#[]⟩, u, .slice none 0 0, .slice none 0 0, .string ⟨#[]⟩, .int .i64 0, .int .i64 0, .string ⟨#[]⟩, .string ⟨#[]⟩, .slice none 0 0, .string ⟨#[]⟩] 61 (0, 0))) → Below W.heap.size W W' → (Below w.heap.size w W' ∧ W'.heap[w.heap.size]? = some (.cells #[.string ⟨#[99, 114, 101, 97, 116, 101]⟩, .string ⟨#[116]⟩, .string ⟨#[]⟩, .slice none 0 0, .slice A 1 cap, .string ⟨#[107]⟩, .slice none 0 0, .slice none 0 0, .string ⟨#[60]⟩, .int .i64 0, .int .i64 0, .string ⟨#[]⟩, .string ⟨#[]⟩, u, .slice none 0 0, .slice none 0 0, .string ⟨#[]⟩, .int .i64 0, .int .i64 0, .string ⟨#[]⟩, .string ⟨#[]⟩, .slice none 0 0, .string ⟨#[]⟩] 61 (0, 0)))) := Lib.hid fun W W' h hb => ⟨h.1.trans (hb.mono h.1.size), (hb.block _ (lt_of_block h.2)).trans h.2⟩
  go_enter Tryz.func81, Tryz.ntmps81
  go_wp2_with (first
    | (go_at_call 96; (with_reducible refine (named_any ⟨#[116]⟩ _ (by decide)).mono ?_); rintro e w1 ⟨rfl, hb1⟩; rw [nmB_t]; have H0 := Lib.hid (STEP.out _ _ H0.out hb1); have hbx := H0.out.2; clear hb1)
    | (go_at_call 97; (with_reducible refine (filled_cr Q u A cap _ (HT.out.below H0.out.1)).mono ?_); rintro e w1 ⟨rfl, hb1⟩; have H0 := Lib.hid (STEP.out _ _ H0.out hb1); have hbx := H0.out.2; clear hb1)
    | (go_at_call 99; (with_reducible refine (rest_cr u A cap _).mono ?_); rintro e w1 ⟨rfl, hb1⟩; have H0 := Lib.hid (STEP.out _ _ H0.out hb1); have hbx := H0.out.2; clear hb1)
    | (go_at_call 98; (with_reducible refine (ssame_nil _).mono ?_); rintro e w1 ⟨rfl, hb1⟩; have H0 := Lib.hid (STEP.out _ _ H0.out hb1); have hbx := H0.out.2; clear hb1)
    | (refine wpList_load_row_on rfl 61 (.tmp 1) rfl w.heap.size rfl 61 #[.string ⟨#[99, 114, 101, 97, 116, 101]⟩, .string ⟨#[116]⟩, .string ⟨#[]⟩, .slice none 0 0, .slice A 1 cap, .string ⟨#[107]⟩, .slice none 0 0, .slice none 0 0, .string ⟨#[60]⟩, .int .i64 0, .int .i64 0, .string ⟨#[]⟩, .string ⟨#[]⟩, u, .slice none 0 0, .slice none 0 0, .string ⟨#[]⟩, .int .i64 0, .int .i64 0, .string ⟨#[]⟩, .string ⟨#[]⟩, .slice none 0 0, .string ⟨#[]⟩] (0, 0) _ hbx Tryz.underlying61 rfl stSize ?_)
    | (refine wpList_buildTo_on rfl 61 _ rfl _ rfl #[.string ⟨#[]⟩, .string ⟨#[]⟩, .string ⟨#[]⟩, .slice none 0 0, .slice none 0 0, .string ⟨#[]⟩, .slice none 0 0, .slice none 0 0, .string ⟨#[]⟩, .int .i64 0, .int .i64 0, .string ⟨#[]⟩, .string ⟨#[]⟩, .slice none 0 0, .slice none 0 0, .slice none 0 0, .string ⟨#[]⟩, .int .i64 0, .int .i64 0, .string ⟨#[]⟩, .string ⟨#[]⟩, .slice none 0 0, .string ⟨#[]⟩] (by as_aux_lemma => kernel_rfl) ?_))
  go_ret
  exact ⟨rfl, H0.out.1⟩
set_option maxRecDepth 100000 in
set_option maxHeartbeats 4000000 in
theorem text_cr (Q : Nat → Prop) (u : Value) (A : Option Addr) (cap : Nat) (w : World) (hh : CrH Q u A w) : Calls Tryz.prog 62 #[.agg #[.string ⟨#[99, 114, 101, 97, 116, 101]⟩, .string ⟨#[116]⟩, .string ⟨#[]⟩, .slice none 0 0, .slice A 1 cap, .string ⟨#[107]⟩, .slice none 0 0, .slice none 0 0, .string ⟨#[60]⟩, .int .i64 0, .int .i64 0, .string ⟨#[]⟩, .string ⟨#[]⟩, u, .slice none 0 0, .slice none 0 0, .string ⟨#[]⟩, .int .i64 0, .int .i64 0, .string ⟨#[]⟩, .string ⟨#[]⟩, .slice none 0 0, .string ⟨#[]⟩]] w fun e w' => e = .returned (.tuple #[.string ⟨#[67, 82, 69, 65, 84, 69, 32, 84, 65, 66, 76, 69, 32, 116, 32, 40, 32, 107, 32, 73, 78, 84, 32, 44, 32, 75, 69, 89, 32, 40, 32, 107, 32, 41, 32, 44, 32, 67, 72, 69, 67, 75, 32, 40, 32, 40, 107, 32, 60, 32, 53, 41, 32, 41, 32, 41]⟩, .int .i64 0]) ∧ Below w.heap.size w w' := by
  have HT := Lib.hid hh
  clear hh
  have HC : Hid (cutR (⟨#[67, 82, 69, 65, 84, 69, 32, 84, 65, 66, 76, 69, 32, 116, 32, 40, 32, 107, 32, 73, 78, 84, 32, 44, 32, 75, 69, 89, 32, 40, 32, 107, 32, 41, 32, 44, 32, 67, 72, 69, 67, 75, 32, 40, 32, 40, 107, 32, 60, 32, 53, 41, 32, 41, 32, 41]⟩ : ByteArray).data.toList = some tsC) := Lib.hid cut_cr
  have H0 : Hid (Below w.heap.size w (w.alloc (.cells #[.string ⟨#[99, 114, 101, 97, 116, 101]⟩, .string ⟨#[116]⟩, .string ⟨#[]⟩, .slice none 0 0, .slice A 1 cap, .string ⟨#[107]⟩, .slice none 0 0, .slice none 0 0, .string ⟨#[60]⟩, .int .i64 0, .int .i64 0, .string ⟨#[]⟩, .string ⟨#[]⟩, u, .slice none 0 0, .slice none 0 0, .string ⟨#[]⟩, .int .i64 0, .int .i64 0, .string ⟨#[]⟩, .string ⟨#[]⟩, .slice none 0 0, .string ⟨#[]⟩] 61)) ∧ (w.alloc (.cells #[.string ⟨#[99, 114, 101, 97, 116, 101]⟩, .string ⟨#[116]⟩, .string ⟨#[]⟩, .slice none 0 0, .slice A 1 cap, .string ⟨#[107]⟩, .slice none 0 0, .slice none 0 0, .string ⟨#[60]⟩, .int .i64 0, .int .i64 0, .string ⟨#[]⟩, .string ⟨#[]⟩, u, .slice none 0 0, .slice none 0 0, .string ⟨#[]⟩, .int .i64 0, .int .i64 0, .string ⟨#[]⟩, .string ⟨#[]⟩, .slice none 0 0, .string ⟨#[]⟩] 61)).heap[w.heap.size]? = some (.cells #[.string ⟨#[99, 114, 101, 97, 116, 101]⟩, .string ⟨#[116]⟩, .string ⟨#[]⟩, .slice none 0 0, .slice A 1 cap, .string ⟨#[107]⟩, .slice none 0 0, .slice none 0 0, .string ⟨#[60]⟩, .int .i64 0, .int .i64 0, .string ⟨#[]⟩, .string ⟨#[]⟩, u, .slice none 0 0, .slice none 0 0, .string ⟨#[]⟩, .int .i64 0, .int .i64 0, .string ⟨#[]⟩, .string ⟨#[]⟩, .slice none 0 0, .string ⟨#[]⟩] 61 (0, 0))) := ⟨(Below.refl _ _).alloc (Nat.le_refl _) _, alloc_at rfl _⟩
  have hbx := H0.out.2
  have STEP : Hid (∀ W W' : World, (Below w.heap.size w W ∧ W.heap[w.heap.size]? = some (.cells #[.string ⟨#[99, 114, 101, 97, 116, 101]⟩, .string ⟨#[116]⟩, .string ⟨#[]⟩, .slice none 0 0, .slice A 1 cap, .string ⟨#[107]⟩, .slice none 0 0, .slice none 0 0, .string ⟨#[60]⟩, .int .i64 0, .int .i64 0, .string ⟨#[]⟩, .string ⟨#[]⟩, u, .slice none 0 0, .slice none 0 0, .string ⟨#[]⟩, .int .i64 0, .int .i64 0, .string ⟨#[]⟩, .string ⟨#[]⟩, .slice none 0 0, .string ⟨#[]⟩] 61 (0, 0))) → Below W.heap.size W W' → (Below w.heap.size w W' ∧ W'.heap[w.heap.size]? = some (.cells #[.string ⟨#[99, 114, 101, 97, 116, 101]⟩, .string ⟨#[116]⟩, .string ⟨#[]⟩, .slice none 0 0, .slice A 1 cap, .string ⟨#[107]⟩, .slice none 0 0, .slice none 0 0, .string ⟨#[60]⟩, .int .i64 0, .int .i64 0, .string ⟨#[]⟩, .string ⟨#[]⟩, u, .slice none 0 0, .slice none 0 0, .string ⟨#[]⟩, .int .i64 0, .int .i64 0, .string ⟨#[]⟩, .string ⟨#[]⟩, .slice none 0 0, .string ⟨#[]⟩] 61 (0, 0)))) := Lib.hid fun W W' h hb => ⟨h.1.trans (hb.mono h.1.size), (hb.block _ (lt_of_block h.2)).trans h.2⟩
  go_enter Tryz.func62, Tryz.ntmps62
  go_wp2_with (first
    | (go_at_call 81; (with_reducible refine (formed_cr Q u A cap _ (HT.out.below H0.out.1)).mono ?_); rintro e w1 ⟨rfl, hb1⟩; have H0 := Lib.hid (STEP.out _ _ H0.out hb1); have hbx := H0.out.2; clear hb1)
    | (go_at_call 82; (with_reducible refine (written_cr Q u A cap _ (HT.out.below H0.out.1)).mono ?_); rintro e w1 ⟨rfl, hb1⟩; have H0 := Lib.hid (STEP.out _ _ H0.out hb1); have hbx := H0.out.2; clear hb1)
    | (go_at_call 83; (with_reducible refine (cut_ok ⟨#[67, 82, 69, 65, 84, 69, 32, 84, 65, 66, 76, 69, 32, 116, 32, 40, 32, 107, 32, 73, 78, 84, 32, 44, 32, 75, 69, 89, 32, 40, 32, 107, 32, 41, 32, 44, 32, 67, 72, 69, 67, 75, 32, 40, 32, 40, 107, 32, 60, 32, 53, 41, 32, 41, 32, 41]⟩ _ (by decide) (HT.out.lib.keep H0.out.1 (Nat.le_refl _)) _ HC.out).mono ?_); rintro e w1 ⟨vv, rfl, _, hb1⟩; have H0 := Lib.hid (STEP.out _ _ H0.out hb1); have hbx := H0.out.2; clear hb1)
    | (refine wpList_load_row_on rfl 61 (.tmp 1) rfl w.heap.size rfl 61 #[.string ⟨#[99, 114, 101, 97, 116, 101]⟩, .string ⟨#[116]⟩, .string ⟨#[]⟩, .slice none 0 0, .slice A 1 cap, .string ⟨#[107]⟩, .slice none 0 0, .slice none 0 0, .string ⟨#[60]⟩, .int .i64 0, .int .i64 0, .string ⟨#[]⟩, .string ⟨#[]⟩, u, .slice none 0 0, .slice none 0 0, .string ⟨#[]⟩, .int .i64 0, .int .i64 0, .string ⟨#[]⟩, .string ⟨#[]⟩, .slice none 0 0, .string ⟨#[]⟩] (0, 0) _ hbx Tryz.underlying61 rfl stSize ?_))
  go_ret2
  exact ⟨rfl, H0.out.1⟩
set_option maxRecDepth 100000 in
set_option maxHeartbeats 4000000 in
theorem may_cr (Q : Nat → Prop) (u : Value) (A : Option Addr) (cap : Nat) (w : World) (hh : CrH Q u A w) : Calls Tryz.prog 39 #[.agg #[.string ⟨#[99, 114, 101, 97, 116, 101]⟩, .string ⟨#[116]⟩, .string ⟨#[]⟩, .slice none 0 0, .slice A 1 cap, .string ⟨#[107]⟩, .slice none 0 0, .slice none 0 0, .string ⟨#[60]⟩, .int .i64 0, .int .i64 0, .string ⟨#[]⟩, .string ⟨#[]⟩, u, .slice none 0 0, .slice none 0 0, .string ⟨#[]⟩, .int .i64 0, .int .i64 0, .string ⟨#[]⟩, .string ⟨#[]⟩, .slice none 0 0, .string ⟨#[]⟩]] w fun e w' => e = .returned (.bool true) ∧ Below w.heap.size w w' := by
  have HT := Lib.hid hh
  clear hh
  have H0 : Hid (Below w.heap.size w (w.alloc (.cells #[.string ⟨#[99, 114, 101, 97, 116, 101]⟩, .string ⟨#[116]⟩, .string ⟨#[]⟩, .slice none 0 0, .slice A 1 cap, .string ⟨#[107]⟩, .slice none 0 0, .slice none 0 0, .string ⟨#[60]⟩, .int .i64 0, .int .i64 0, .string ⟨#[]⟩, .string ⟨#[]⟩, u, .slice none 0 0, .slice none 0 0, .string ⟨#[]⟩, .int .i64 0, .int .i64 0, .string ⟨#[]⟩, .string ⟨#[]⟩, .slice none 0 0, .string ⟨#[]⟩] 61)) ∧ (w.alloc (.cells #[.string ⟨#[99, 114, 101, 97, 116, 101]⟩, .string ⟨#[116]⟩, .string ⟨#[]⟩, .slice none 0 0, .slice A 1 cap, .string ⟨#[107]⟩, .slice none 0 0, .slice none 0 0, .string ⟨#[60]⟩, .int .i64 0, .int .i64 0, .string ⟨#[]⟩, .string ⟨#[]⟩, u, .slice none 0 0, .slice none 0 0, .string ⟨#[]⟩, .int .i64 0, .int .i64 0, .string ⟨#[]⟩, .string ⟨#[]⟩, .slice none 0 0, .string ⟨#[]⟩] 61)).heap[w.heap.size]? = some (.cells #[.string ⟨#[99, 114, 101, 97, 116, 101]⟩, .string ⟨#[116]⟩, .string ⟨#[]⟩, .slice none 0 0, .slice A 1 cap, .string ⟨#[107]⟩, .slice none 0 0, .slice none 0 0, .string ⟨#[60]⟩, .int .i64 0, .int .i64 0, .string ⟨#[]⟩, .string ⟨#[]⟩, u, .slice none 0 0, .slice none 0 0, .string ⟨#[]⟩, .int .i64 0, .int .i64 0, .string ⟨#[]⟩, .string ⟨#[]⟩, .slice none 0 0, .string ⟨#[]⟩] 61 (0, 0))) := ⟨(Below.refl _ _).alloc (Nat.le_refl _) _, alloc_at rfl _⟩
  have hbx := H0.out.2
  have STEP : Hid (∀ W W' : World, (Below w.heap.size w W ∧ W.heap[w.heap.size]? = some (.cells #[.string ⟨#[99, 114, 101, 97, 116, 101]⟩, .string ⟨#[116]⟩, .string ⟨#[]⟩, .slice none 0 0, .slice A 1 cap, .string ⟨#[107]⟩, .slice none 0 0, .slice none 0 0, .string ⟨#[60]⟩, .int .i64 0, .int .i64 0, .string ⟨#[]⟩, .string ⟨#[]⟩, u, .slice none 0 0, .slice none 0 0, .string ⟨#[]⟩, .int .i64 0, .int .i64 0, .string ⟨#[]⟩, .string ⟨#[]⟩, .slice none 0 0, .string ⟨#[]⟩] 61 (0, 0))) → Below W.heap.size W W' → (Below w.heap.size w W' ∧ W'.heap[w.heap.size]? = some (.cells #[.string ⟨#[99, 114, 101, 97, 116, 101]⟩, .string ⟨#[116]⟩, .string ⟨#[]⟩, .slice none 0 0, .slice A 1 cap, .string ⟨#[107]⟩, .slice none 0 0, .slice none 0 0, .string ⟨#[60]⟩, .int .i64 0, .int .i64 0, .string ⟨#[]⟩, .string ⟨#[]⟩, u, .slice none 0 0, .slice none 0 0, .string ⟨#[]⟩, .int .i64 0, .int .i64 0, .string ⟨#[]⟩, .string ⟨#[]⟩, .slice none 0 0, .string ⟨#[]⟩] 61 (0, 0)))) := Lib.hid fun W W' h hb => ⟨h.1.trans (hb.mono h.1.size), (hb.block _ (lt_of_block h.2)).trans h.2⟩
  go_enter Tryz.func39, Tryz.ntmps39
  go_wp2_with (first
    | (go_at_call 62; (with_reducible refine (text_cr Q u A cap _ (HT.out.below H0.out.1)).mono ?_); rintro e w1 ⟨rfl, hb1⟩; have H0 := Lib.hid (STEP.out _ _ H0.out hb1); have hbx := H0.out.2; clear hb1)
    | (refine wpList_load_row_on rfl 61 (.tmp 1) rfl w.heap.size rfl 61 #[.string ⟨#[99, 114, 101, 97, 116, 101]⟩, .string ⟨#[116]⟩, .string ⟨#[]⟩, .slice none 0 0, .slice A 1 cap, .string ⟨#[107]⟩, .slice none 0 0, .slice none 0 0, .string ⟨#[60]⟩, .int .i64 0, .int .i64 0, .string ⟨#[]⟩, .string ⟨#[]⟩, u, .slice none 0 0, .slice none 0 0, .string ⟨#[]⟩, .int .i64 0, .int .i64 0, .string ⟨#[]⟩, .string ⟨#[]⟩, .slice none 0 0, .string ⟨#[]⟩] (0, 0) _ hbx Tryz.underlying61 rfl stSize ?_))
  go_ret
  exact ⟨rfl, H0.out.1⟩
end Go.Proofs.YtchebhdndkaheaaGreatDoor
