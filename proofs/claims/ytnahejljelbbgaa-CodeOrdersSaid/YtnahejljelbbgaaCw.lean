import Derived.Test.YtnahejljelbbgaaCv
import Derived.Test.YtnahejljelbbgaaCq
import Derived.Test.YtnahejljelbbgaaCr
/- The law CodeOrders. -/
namespace Go.Proofs.Ytnahejljelbbgaa
open Go.RowKit Go.Lib

theorem few3_any (A : Option Addr) (n cap : Nat) (l : List Vl) (w : World) (hn : n ≤ maxLen) (hv : Vals w w.heap.size A n l) (hs : Short l) (n1 : Nat) (h1 : n1 = (fewL l).length) :
    Calls Try.prog 4 #[.slice A n cap] w fun e w' => ∃ A1 c1, e = .returned (.slice A1 n1 c1) ∧ Hid (Vals w' w'.heap.size A1 n1 (fewL l) ∧ Below w.heap.size w w') ∧ n1 ≤ c1 ∧ c1 ≤ maxLen :=
  (few2_any A n cap l w hn hv hs).mono fun e w' ⟨v, h2, ho, hb⟩ => by
    obtain ⟨A1, c1, rfl, hv1, hc1, hc2⟩ := Vals.of_own ho
    subst h1
    exact ⟨A1, c1, h2, ⟨hv1, hb⟩, hc1, hc2⟩
theorem take_i64 {l : List Vl} (h : I64 l) (p : Nat) : I64 (l.take p) := fun x hx => h x (List.mem_of_mem_take hx)
theorem take_short {l : List Vl} (h : Short l) (p : Nat) : Short (l.take p) := fun x hx => h x (List.mem_of_mem_take hx)

set_option maxRecDepth 100000 in
set_option maxHeartbeats 2000000 in
theorem orders_g1 (A : Option Addr) (n cap : Nat) (l : List Vl) (A' : Option Addr) (m cap' : Nat) (l' : List Vl) (w : World) (h : Inp w A n l) (h' : Inp w A' m l') (n1 n2 p : Nat) (L M : List Vl) (hn : n1 = (fewL l).length ∧ n2 = (fewL l').length) (hpn : n2 < n1) (hp : p = n2) (hL : L = (fewL l).take p) (hM : M = (fewL l').take p) (h1 : rowOk L = false) :
    Calls Try.prog 3 #[.slice A n cap, .slice A' m cap'] w fun e w' => e = .returned (.bool true) ∧ Below w.heap.size w w' := by
  have H := Lib.hid h
  have H' := Lib.hid h'
  have HN := Lib.hid hn
  have hn1 : n1 ≤ 14 := by rw [hn.1]; exact few_len l
  have hn2 : n2 ≤ 14 := by rw [hn.2]; exact few_len l'
  have hp14 : p ≤ 14 := by omega
  have HP := Lib.hid (show p ≤ n1 ∧ p ≤ n2 by omega)
  have iL : I64 L := by rw [hL]; exact take_i64 (few_i64 h.i64) p
  have iM : I64 M := by rw [hM]; exact take_i64 (few_i64 h'.i64) p
  have sL : Short L := by rw [hL]; exact take_short (few_short l) p
  have sM : Short M := by rw [hM]; exact take_short (few_short l') p
  have lL : L.length = p := by rw [hL, List.length_take]; omega
  have lM : M.length = p := by rw [hM, List.length_take]; omega
  have e1 := rowE_f h1
  obtain ⟨S, hS⟩ : ∃ S, S = rowS L := ⟨_, rfl⟩
  obtain ⟨S', hS'⟩ : ∃ S', S' = rowS M := ⟨_, rfl⟩
  have HR1 := Lib.hid (fun (A1 : Option Addr) (c1 : Nat) (W : World) (hv : Vals W W.heap.size A1 p ((fewL l).take p)) => (show Calls Try.prog 5 #[.slice A1 p c1] W fun e w' => e = .returned (.tuple #[.string S, .int .i64 1]) ∧ Below W.heap.size W w' by
    rw [← hL] at hv
    have := row_any A1 p c1 L W (by omega) hv iL
    rwa [← hS, e1] at this))
  have HR2 := Lib.hid (fun (A1 : Option Addr) (c1 : Nat) (W : World) (hv : Vals W W.heap.size A1 p ((fewL l').take p)) => (show Calls Try.prog 5 #[.slice A1 p c1] W fun e w' => e = .returned (.tuple #[.string S', .int .i64 (rowE M)]) ∧ Below W.heap.size W w' by
    rw [← hM] at hv
    have := row_any A1 p c1 M W (by omega) hv iM
    rwa [← hS'] at this))
  obtain ⟨E2, hE2⟩ : ∃ E2, E2 = rowE M := ⟨_, rfl⟩
  rw [← hE2] at HR2
  clear h h' hn iL iM sL sM lL lM hS hS' hL hM h1 e1
  unfold maxLen at *
  subst hp
  have hg : (p : Int) < (n1 : Int) := by omega
  go_enter Try.func3, Try.ntmps3
  go_wp2_with (first
    | (go_at_call_of 4 (Value.slice A n cap); refine (few3_any A n cap l _ H.out.len (H.out.vals) H.out.short n1 HN.out.1).mono ?_; rintro e w1 ⟨A1, c1, rfl, HH1, hc1, hd1⟩; have hs1 := HH1.out.2.size)
    | (go_at_call_of 4 (Value.slice A' m cap'); refine (few3_any A' m cap' l' _ H'.out.len ((H'.out.vals.keep HH1.out.2).more hs1) H'.out.short p HN.out.2).mono ?_; rintro e w2 ⟨A2, c2, rfl, HH2, hc2, hd2⟩; have hs2 := HH2.out.2.size)
    | (go_at_call_of 5 (Value.slice A1 p c1); refine (HR1.out A1 c1 _ (((HH1.out.1.keep HH2.out.2).more hs2).take HP.out.1)).mono ?_; rintro e w3 ⟨rfl, hb3⟩; have HH3 := Lib.hid hb3; have hs3 := hb3.size; clear hb3)
    | (go_at_call_of 5 (Value.slice A2 p c2); refine (HR2.out A2 c2 _ (((HH2.out.1.take HP.out.2).keep HH3.out).more hs3)).mono ?_; rintro e w4 ⟨rfl, hb4⟩; have HH4 := Lib.hid hb4; have hs4 := hb4.size; clear hb4)
    | (go_at_call 6; refine (awake2_any _).mono ?_; rintro e w6 ⟨rfl, hb6⟩))
  go_ret
  refine ⟨rfl, ?_⟩
  exact (((HH1.out.2.trans (HH2.out.2.mono (by omega))).trans (HH3.out.mono (by omega))).trans (HH4.out.mono (by omega))).trans (hb6.mono (by omega))

set_option maxRecDepth 100000 in
set_option maxHeartbeats 2000000 in
theorem orders_g2 (A : Option Addr) (n cap : Nat) (l : List Vl) (A' : Option Addr) (m cap' : Nat) (l' : List Vl) (w : World) (h : Inp w A n l) (h' : Inp w A' m l') (n1 n2 p : Nat) (L M : List Vl) (hn : n1 = (fewL l).length ∧ n2 = (fewL l').length) (hpn : n2 < n1) (hp : p = n2) (hL : L = (fewL l).take p) (hM : M = (fewL l').take p) (h1 : rowOk L = true) (h2 : rowOk M = false) :
    Calls Try.prog 3 #[.slice A n cap, .slice A' m cap'] w fun e w' => e = .returned (.bool true) ∧ Below w.heap.size w w' := by
  have H := Lib.hid h
  have H' := Lib.hid h'
  have HN := Lib.hid hn
  have hn1 : n1 ≤ 14 := by rw [hn.1]; exact few_len l
  have hn2 : n2 ≤ 14 := by rw [hn.2]; exact few_len l'
  have hp14 : p ≤ 14 := by omega
  have HP := Lib.hid (show p ≤ n1 ∧ p ≤ n2 by omega)
  have iL : I64 L := by rw [hL]; exact take_i64 (few_i64 h.i64) p
  have iM : I64 M := by rw [hM]; exact take_i64 (few_i64 h'.i64) p
  have sL : Short L := by rw [hL]; exact take_short (few_short l) p
  have sM : Short M := by rw [hM]; exact take_short (few_short l') p
  have lL : L.length = p := by rw [hL, List.length_take]; omega
  have lM : M.length = p := by rw [hM, List.length_take]; omega
  have e1 := rowE_t h1
  have e2 := rowE_f h2
  obtain ⟨S, hS⟩ : ∃ S, S = rowS L := ⟨_, rfl⟩
  obtain ⟨S', hS'⟩ : ∃ S', S' = rowS M := ⟨_, rfl⟩
  have HR1 := Lib.hid (fun (A1 : Option Addr) (c1 : Nat) (W : World) (hv : Vals W W.heap.size A1 p ((fewL l).take p)) => (show Calls Try.prog 5 #[.slice A1 p c1] W fun e w' => e = .returned (.tuple #[.string S, .int .i64 0]) ∧ Below W.heap.size W w' by
    rw [← hL] at hv
    have := row_any A1 p c1 L W (by omega) hv iL
    rwa [← hS, e1] at this))
  have HR2 := Lib.hid (fun (A1 : Option Addr) (c1 : Nat) (W : World) (hv : Vals W W.heap.size A1 p ((fewL l').take p)) => (show Calls Try.prog 5 #[.slice A1 p c1] W fun e w' => e = .returned (.tuple #[.string S', .int .i64 1]) ∧ Below W.heap.size W w' by
    rw [← hM] at hv
    have := row_any A1 p c1 M W (by omega) hv iM
    rwa [← hS', e2] at this))
  clear h h' hn iL iM sL sM lL lM hS hS' hL hM h1 h2 e1 e2
  unfold maxLen at *
  subst hp
  have hg : (p : Int) < (n1 : Int) := by omega
  go_enter Try.func3, Try.ntmps3
  go_wp2_with (first
    | (go_at_call_of 4 (Value.slice A n cap); refine (few3_any A n cap l _ H.out.len (H.out.vals) H.out.short n1 HN.out.1).mono ?_; rintro e w1 ⟨A1, c1, rfl, HH1, hc1, hd1⟩; have hs1 := HH1.out.2.size)
    | (go_at_call_of 4 (Value.slice A' m cap'); refine (few3_any A' m cap' l' _ H'.out.len ((H'.out.vals.keep HH1.out.2).more hs1) H'.out.short p HN.out.2).mono ?_; rintro e w2 ⟨A2, c2, rfl, HH2, hc2, hd2⟩; have hs2 := HH2.out.2.size)
    | (go_at_call_of 5 (Value.slice A1 p c1); refine (HR1.out A1 c1 _ (((HH1.out.1.keep HH2.out.2).more hs2).take HP.out.1)).mono ?_; rintro e w3 ⟨rfl, hb3⟩; have HH3 := Lib.hid hb3; have hs3 := hb3.size; clear hb3)
    | (go_at_call_of 5 (Value.slice A2 p c2); refine (HR2.out A2 c2 _ (((HH2.out.1.take HP.out.2).keep HH3.out).more hs3)).mono ?_; rintro e w4 ⟨rfl, hb4⟩; have HH4 := Lib.hid hb4; have hs4 := hb4.size; clear hb4)
    | (go_at_call 6; refine (awake2_any _).mono ?_; rintro e w6 ⟨rfl, hb6⟩))
  go_ret
  refine ⟨rfl, ?_⟩
  exact (((HH1.out.2.trans (HH2.out.2.mono (by omega))).trans (HH3.out.mono (by omega))).trans (HH4.out.mono (by omega))).trans (hb6.mono (by omega))

set_option maxRecDepth 100000 in
set_option maxHeartbeats 2000000 in
theorem orders_g3 (A : Option Addr) (n cap : Nat) (l : List Vl) (A' : Option Addr) (m cap' : Nat) (l' : List Vl) (w : World) (h : Inp w A n l) (h' : Inp w A' m l') (n1 n2 p : Nat) (L M : List Vl) (hn : n1 = (fewL l).length ∧ n2 = (fewL l').length) (hpn : n2 < n1) (hp : p = n2) (hL : L = (fewL l).take p) (hM : M = (fewL l').take p) (h1 : rowOk L = true) (h2 : rowOk M = true) :
    Calls Try.prog 3 #[.slice A n cap, .slice A' m cap'] w fun e w' => e = .returned (.bool true) ∧ Below w.heap.size w w' := by
  have H := Lib.hid h
  have H' := Lib.hid h'
  have HN := Lib.hid hn
  have hn1 : n1 ≤ 14 := by rw [hn.1]; exact few_len l
  have hn2 : n2 ≤ 14 := by rw [hn.2]; exact few_len l'
  have hp14 : p ≤ 14 := by omega
  have HP := Lib.hid (show p ≤ n1 ∧ p ≤ n2 by omega)
  have iL : I64 L := by rw [hL]; exact take_i64 (few_i64 h.i64) p
  have iM : I64 M := by rw [hM]; exact take_i64 (few_i64 h'.i64) p
  have sL : Short L := by rw [hL]; exact take_short (few_short l) p
  have sM : Short M := by rw [hM]; exact take_short (few_short l') p
  have lL : L.length = p := by rw [hL, List.length_take]; omega
  have lM : M.length = p := by rw [hM, List.length_take]; omega
  have e1 := rowE_t h1
  have e2 := rowE_t h2
  obtain ⟨S, hS⟩ : ∃ S, S = rowS L := ⟨_, rfl⟩
  obtain ⟨S', hS'⟩ : ∃ S', S' = rowS M := ⟨_, rfl⟩
  have HR1 := Lib.hid (fun (A1 : Option Addr) (c1 : Nat) (W : World) (hv : Vals W W.heap.size A1 p ((fewL l).take p)) => (show Calls Try.prog 5 #[.slice A1 p c1] W fun e w' => e = .returned (.tuple #[.string S, .int .i64 0]) ∧ Below W.heap.size W w' by
    rw [← hL] at hv
    have := row_any A1 p c1 L W (by omega) hv iL
    rwa [← hS, e1] at this))
  have HR2 := Lib.hid (fun (A1 : Option Addr) (c1 : Nat) (W : World) (hv : Vals W W.heap.size A1 p ((fewL l').take p)) => (show Calls Try.prog 5 #[.slice A1 p c1] W fun e w' => e = .returned (.tuple #[.string S', .int .i64 0]) ∧ Below W.heap.size W w' by
    rw [← hM] at hv
    have := row_any A1 p c1 M W (by omega) hv iM
    rwa [← hS', e2] at this))
  obtain ⟨o, ho⟩ : ∃ o, o = ordL L M := ⟨_, rfl⟩
  have mL := (rowOk_may h1).2
  have mM := (rowOk_may h2).2
  have hcmp : Lib.compareBytes S.data.toList S'.data.toList = o := by
    rw [hS, hS', ← toList_data, ← toList_data, rowS_t h1, rowS_t h2, cmp_rows L M (by omega) mL mM iL iM, ho]
  have hless := less_of hcmp
  have hsame := same_of hcmp
  have HO := Lib.hid (fun (A1 : Option Addr) (c1 : Nat) (A2 : Option Addr) (c2 : Nat) (W : World) (hv : Vals W W.heap.size A1 p ((fewL l).take p)) (hv' : Vals W W.heap.size A2 p ((fewL l').take p)) => (show Calls Try.prog 7 #[.slice A1 p c1, .slice A2 p c2] W fun e w' => e = .returned (.int .i64 o) ∧ Below W.heap.size W w' by
    rw [← hL] at hv
    rw [← hM] at hv'
    rw [ho]
    exact order_rows A1 p c1 L A2 c2 M W (by omega) hv hv' sL sM))
  have HX := Lib.hid (And.intro (And.intro mL mM) (And.intro (And.intro iL iM) (And.intro sL sM)))
  have HLM := Lib.hid (And.intro hL hM)
  clear mL mM hcmp ho
  clear h h' hn iL iM sL sM lL lM hS hS' hL hM h1 h2 e1 e2
  unfold maxLen at *
  subst hp
  have hg : (p : Int) < (n1 : Int) := by omega
  go_enter Try.func3, Try.ntmps3
  go_wp2_with (first
    | (go_at_call_of 4 (Value.slice A n cap); refine (few3_any A n cap l _ H.out.len (H.out.vals) H.out.short n1 HN.out.1).mono ?_; rintro e w1 ⟨A1, c1, rfl, HH1, hc1, hd1⟩; have hs1 := HH1.out.2.size)
    | (go_at_call_of 4 (Value.slice A' m cap'); refine (few3_any A' m cap' l' _ H'.out.len ((H'.out.vals.keep HH1.out.2).more hs1) H'.out.short p HN.out.2).mono ?_; rintro e w2 ⟨A2, c2, rfl, HH2, hc2, hd2⟩; have hs2 := HH2.out.2.size)
    | (go_at_call_of 5 (Value.slice A1 p c1); refine (HR1.out A1 c1 _ (((HH1.out.1.keep HH2.out.2).more hs2).take HP.out.1)).mono ?_; rintro e w3 ⟨rfl, hb3⟩; have HH3 := Lib.hid hb3; have hs3 := hb3.size; clear hb3)
    | (go_at_call_of 5 (Value.slice A2 p c2); refine (HR2.out A2 c2 _ (((HH2.out.1.take HP.out.2).keep HH3.out).more hs3)).mono ?_; rintro e w4 ⟨rfl, hb4⟩; have HH4 := Lib.hid hb4; have hs4 := hb4.size; clear hb4)
    | (go_at_call 7; refine (HO.out A1 c1 A2 c2 _ ((((((HH1.out.1.keep HH2.out.2).more hs2).take HP.out.1).keep HH3.out).more hs3 |>.keep HH4.out).more hs4) ((((HH2.out.1.take HP.out.2).keep HH3.out).more hs3 |>.keep HH4.out).more hs4)).mono ?_; rintro e w5 ⟨rfl, hb5⟩; have HH5 := Lib.hid hb5; have hs5 := hb5.size; clear hb5))
  have HV1 := Lib.hid (((((((HH1.out.1.keep HH2.out.2).more hs2).take HP.out.1).keep HH3.out).more hs3 |>.keep HH4.out).more hs4 |>.keep HH5.out).more hs5)
  have HV2 := Lib.hid (((((HH2.out.1.take HP.out.2).keep HH3.out).more hs3 |>.keep HH4.out).more hs4 |>.keep HH5.out).more hs5)
  rw [← HLM.out.1] at HV1
  rw [← HLM.out.2] at HV2
  have HB5 := Lib.hid ((((HH1.out.2.trans (HH2.out.2.mono (by omega))).trans (HH3.out.mono (by omega))).trans (HH4.out.mono (by omega))).trans (HH5.out.mono (by omega)))
  have hs05 : w.heap.size ≤ w5.heap.size := by omega
  clear HH1 HH2 HH3 HH4 HH5 hs1 hs2 hs3 hs4 HR1 HR2 HO hless hsame
  go_loopw [10] (fun i wr => ∃ k : Nat, k ≤ p ∧ i = .int .i64 k ∧ Below w5.heap.size w5 wr) (fun i _ => p - (intOf i).toNat)
  case atStart => exact ⟨0, by omega, rfl, Below.refl _ _⟩
  case round =>
    obtain ⟨k, hk, rfl, hb⟩ := hrel
    have hbs := hb.size
    by_cases hlt : k < p
    · have hkp : ((k : Nat) : Int) < (p : Int) := by omega
      obtain ⟨xa, x, hA0_, hx, hA, hB0⟩ := HV1.out.at_ hlt
      have hA' := hA.keep hb (by rw [add_block]; exact hB0)
      have c0k := hA'.k
      have c0i := hA'.i
      have c0s := hA'.s
      have HX0 := Lib.hid hx
      have HA0 : Hid (VlAt wr (xa.add (k * 3)) x ∧ (xa.add (k * 3)).block < wr.heap.size) := ⟨hA', by rw [add_block]; omega⟩
      clear hx hA hA'
      subst hA0_
      obtain ⟨ya, y, hA1_, hx, hA, hB1⟩ := HV2.out.at_ hlt
      have hA' := hA.keep hb (by rw [add_block]; exact hB1)
      have c1k := hA'.k
      have c1i := hA'.i
      have c1s := hA'.s
      have HX1 := Lib.hid hx
      have HA1 : Hid (VlAt wr (ya.add (k * 3)) y ∧ (ya.add (k * 3)).block < wr.heap.size) := ⟨hA', by rw [add_block]; omega⟩
      clear hx hA hA'
      subst hA1_
      have mx := List.mem_of_getElem? HX0.out
      have my := List.mem_of_getElem? HX1.out
      obtain ⟨X, hX⟩ : ∃ X : ByteArray, X = ⟨(valO x.k x.i x.s).toArray⟩ := ⟨_, rfl⟩
      obtain ⟨Y, hY⟩ : ∃ Y : ByteArray, Y = ⟨(valO y.k y.i y.s).toArray⟩ := ⟨_, rfl⟩
      obtain ⟨q, hq⟩ : ∃ q, q = ordN x.k x.i x.s y.k y.i y.s := ⟨_, rfl⟩
      have hcmp : Lib.compareBytes X.data.toList Y.data.toList = q := by
        rw [hX, hY, hq]
        exact cmp_val (HX.out.1.1 x mx) (HX.out.1.2 y my) (HX.out.2.1.1 x mx) (HX.out.2.1.2 y my)
      have vless := less_of hcmp
      have vsame := same_of hcmp
      have HVX := Lib.hid (fun (W : World) => hX ▸ value_any x.k x.i x.s W (HX.out.2.1.1 x mx))
      have HVY := Lib.hid (fun (W : World) => hY ▸ value_any y.k y.i y.s W (HX.out.2.1.2 y my))
      have HQ := Lib.hid (fun (W : World) => hq ▸ rorder_any x.k x.i x.s y.k y.i y.s W (HX.out.2.2.1 x mx) (HX.out.2.2.2 y my))
      clear hcmp hX hY hq mx my
      go_wp2
      refine detL_begin [.val (.slice (some xa) p c1), .val (.int .i64 k), .val (.pointer (some (xa.add (k * 3)))), .val (.agg #[.int .i64 x.k, .int .i64 x.i, .string x.s]), .val (.string X), .val (.slice (some ya) p c2), .val (.int .i64 k), .val (.pointer (some (ya.add (k * 3)))), .val (.agg #[.int .i64 y.k, .int .i64 y.i, .string y.s]), .val (.string Y)] 10 (by kernel_rfl) ?_
      refine detL_val (by kernel_rfl) (yields_of rfl fun w1 hb1 => ?_) ?_
      · have hc1 := bcellD hb1
        clear hb1
        go_simp
        exact Det1_same
      simp only [Act.put, List.setIfInBounds_toArray, List.set_cons_zero, List.set_cons_succ]
      refine detL_val (by kernel_rfl) (yields_of rfl fun w1 hb1 => ?_) ?_
      · have hc1 := bcellD hb1
        clear hb1
        go_simp
        exact Det1_same
      simp only [Act.put, List.setIfInBounds_toArray, List.set_cons_zero, List.set_cons_succ]
      refine detL_val (by kernel_rfl) (yields_of rfl fun w1 hb1 => ?_) ?_
      · have hc1 := bcellD hb1
        clear hb1
        go_simp
        exact Det1_same
      simp only [Act.put, List.setIfInBounds_toArray, List.set_cons_zero, List.set_cons_succ]
      refine detL_val (by kernel_rfl) (yields_of rfl fun w1 hb1 => ?_) ?_
      · have hc1 := bcellD hb1
        have hv1 := HA0.out.1.det hb1 HA0.out.2; have d1 := hv1.k; have d2 := hv1.i; have d3 := hv1.s; clear hv1
        clear hb1
        go_simp
        exact Det1_same
      simp only [Act.put, List.setIfInBounds_toArray, List.set_cons_zero, List.set_cons_succ]
      refine detL_val (by kernel_rfl) (yields_of rfl fun w1 hb1 => ?_) ?_
      · have hc1 := bcellD hb1
        clear hb1
        go_simp
        exact Det1_enter (HVX.out _)
      simp only [Act.put, List.setIfInBounds_toArray, List.set_cons_zero, List.set_cons_succ]
      refine detL_val (by kernel_rfl) (yields_of rfl fun w1 hb1 => ?_) ?_
      · have hc1 := bcellD hb1
        clear hb1
        go_simp
        exact Det1_same
      simp only [Act.put, List.setIfInBounds_toArray, List.set_cons_zero, List.set_cons_succ]
      refine detL_val (by kernel_rfl) (yields_of rfl fun w1 hb1 => ?_) ?_
      · have hc1 := bcellD hb1
        clear hb1
        go_simp
        exact Det1_same
      simp only [Act.put, List.setIfInBounds_toArray, List.set_cons_zero, List.set_cons_succ]
      refine detL_val (by kernel_rfl) (yields_of rfl fun w1 hb1 => ?_) ?_
      · have hc1 := bcellD hb1
        clear hb1
        go_simp
        exact Det1_same
      simp only [Act.put, List.setIfInBounds_toArray, List.set_cons_zero, List.set_cons_succ]
      refine detL_val (by kernel_rfl) (yields_of rfl fun w1 hb1 => ?_) ?_
      · have hc1 := bcellD hb1
        have hv1 := HA1.out.1.det hb1 HA1.out.2; have d1 := hv1.k; have d2 := hv1.i; have d3 := hv1.s; clear hv1
        clear hb1
        go_simp
        exact Det1_same
      simp only [Act.put, List.setIfInBounds_toArray, List.set_cons_zero, List.set_cons_succ]
      refine detL_val (by kernel_rfl) (yields_of rfl fun w1 hb1 => ?_) ?_
      · have hc1 := bcellD hb1
        clear hb1
        go_simp
        exact Det1_enter (HVY.out _)
      simp only [Act.put, List.setIfInBounds_toArray, List.set_cons_zero, List.set_cons_succ]
      refine detL_tail rfl (by kernel_rfl) fun w7 hw7 => ?_
      have hb7 := hw7.below
      have HD0 : Hid (VlAt w7 (xa.add (k * 3)) x ∧ (xa.add (k * 3)).block < w7.heap.size) := ⟨HA0.out.1.det hb7 HA0.out.2, Nat.lt_of_lt_of_le HA0.out.2 hb7.size⟩
      have HD1 : Hid (VlAt w7 (ya.add (k * 3)) y ∧ (ya.add (k * 3)).block < w7.heap.size) := ⟨HA1.out.1.det hb7 HA1.out.2, Nat.lt_of_lt_of_le HA1.out.2 hb7.size⟩
      have HB7 := Lib.hid (hb.drew.trans (hb7.mono hbs))
      clear hw7 hb7 c0k c0i c0s c1k c1i c1s
      have c0k := HD0.out.1.k
      have c0i := HD0.out.1.i
      have c0s := HD0.out.1.s
      have c1k := HD1.out.1.k
      have c1i := HD1.out.1.i
      have c1s := HD1.out.1.s
      go_wp2
      refine detL_begin [.val (.slice (some xa) p c1), .val (.int .i64 k), .val (.pointer (some (xa.add (k * 3)))), .val (.agg #[.int .i64 x.k, .int .i64 x.i, .string x.s]), .val (.slice (some ya) p c2), .val (.int .i64 k), .val (.pointer (some (ya.add (k * 3)))), .val (.agg #[.int .i64 y.k, .int .i64 y.i, .string y.s]), .val (.int .i64 q)] 9 (by kernel_rfl) ?_
      refine detL_val (by kernel_rfl) (yields_of rfl fun w1 hb1 => ?_) ?_
      · have hc1 := bcellD hb1
        clear hb1
        go_simp
        exact Det1_same
      simp only [Act.put, List.setIfInBounds_toArray, List.set_cons_zero, List.set_cons_succ]
      refine detL_val (by kernel_rfl) (yields_of rfl fun w1 hb1 => ?_) ?_
      · have hc1 := bcellD hb1
        clear hb1
        go_simp
        exact Det1_same
      simp only [Act.put, List.setIfInBounds_toArray, List.set_cons_zero, List.set_cons_succ]
      refine detL_val (by kernel_rfl) (yields_of rfl fun w1 hb1 => ?_) ?_
      · have hc1 := bcellD hb1
        clear hb1
        go_simp
        exact Det1_same
      simp only [Act.put, List.setIfInBounds_toArray, List.set_cons_zero, List.set_cons_succ]
      refine detL_val (by kernel_rfl) (yields_of rfl fun w1 hb1 => ?_) ?_
      · have hc1 := bcellD hb1
        have hv1 := HD0.out.1.det hb1 HD0.out.2; have d1 := hv1.k; have d2 := hv1.i; have d3 := hv1.s; clear hv1
        clear hb1
        go_simp
        exact Det1_same
      simp only [Act.put, List.setIfInBounds_toArray, List.set_cons_zero, List.set_cons_succ]
      refine detL_val (by kernel_rfl) (yields_of rfl fun w1 hb1 => ?_) ?_
      · have hc1 := bcellD hb1
        clear hb1
        go_simp
        exact Det1_same
      simp only [Act.put, List.setIfInBounds_toArray, List.set_cons_zero, List.set_cons_succ]
      refine detL_val (by kernel_rfl) (yields_of rfl fun w1 hb1 => ?_) ?_
      · have hc1 := bcellD hb1
        clear hb1
        go_simp
        exact Det1_same
      simp only [Act.put, List.setIfInBounds_toArray, List.set_cons_zero, List.set_cons_succ]
      refine detL_val (by kernel_rfl) (yields_of rfl fun w1 hb1 => ?_) ?_
      · have hc1 := bcellD hb1
        clear hb1
        go_simp
        exact Det1_same
      simp only [Act.put, List.setIfInBounds_toArray, List.set_cons_zero, List.set_cons_succ]
      refine detL_val (by kernel_rfl) (yields_of rfl fun w1 hb1 => ?_) ?_
      · have hc1 := bcellD hb1
        have hv1 := HD1.out.1.det hb1 HD1.out.2; have d1 := hv1.k; have d2 := hv1.i; have d3 := hv1.s; clear hv1
        clear hb1
        go_simp
        exact Det1_same
      simp only [Act.put, List.setIfInBounds_toArray, List.set_cons_zero, List.set_cons_succ]
      refine detL_val (by kernel_rfl) (yields_of rfl fun w1 hb1 => ?_) ?_
      · have hc1 := bcellD hb1
        clear hb1
        go_simp
        exact Det1_enter (HQ.out _)
      simp only [Act.put, List.setIfInBounds_toArray, List.set_cons_zero, List.set_cons_succ]
      refine detL_tail rfl (by kernel_rfl) fun w8 hw8 => ?_
      have HB8 := Lib.hid (HB7.out.drew.trans (hw8.below.mono HB7.out.size))
      clear hw8
      go_wp2
      go_roundw
      case rel => exact ⟨k + 1, by omega, by go_num, HB8.out⟩
      case measure => simp [intOf]; omega
    · go_wp2_with (go_at_call 6; refine (awake2_any _).mono ?_; rintro e w6 ⟨rfl, hb6⟩)
      go_ret
      exact ⟨rfl, (HB5.out.trans (hb.mono hs05)).trans (hb6.mono (by omega))⟩

set_option maxRecDepth 100000 in
set_option maxHeartbeats 2000000 in
theorem orders_l1 (A : Option Addr) (n cap : Nat) (l : List Vl) (A' : Option Addr) (m cap' : Nat) (l' : List Vl) (w : World) (h : Inp w A n l) (h' : Inp w A' m l') (n1 n2 p : Nat) (L M : List Vl) (hn : n1 = (fewL l).length ∧ n2 = (fewL l').length) (hpn : n1 ≤ n2) (hp : p = n1) (hL : L = (fewL l).take p) (hM : M = (fewL l').take p) (h1 : rowOk L = false) :
    Calls Try.prog 3 #[.slice A n cap, .slice A' m cap'] w fun e w' => e = .returned (.bool true) ∧ Below w.heap.size w w' := by
  have H := Lib.hid h
  have H' := Lib.hid h'
  have HN := Lib.hid hn
  have hn1 : n1 ≤ 14 := by rw [hn.1]; exact few_len l
  have hn2 : n2 ≤ 14 := by rw [hn.2]; exact few_len l'
  have hp14 : p ≤ 14 := by omega
  have HP := Lib.hid (show p ≤ n1 ∧ p ≤ n2 by omega)
  have iL : I64 L := by rw [hL]; exact take_i64 (few_i64 h.i64) p
  have iM : I64 M := by rw [hM]; exact take_i64 (few_i64 h'.i64) p
  have sL : Short L := by rw [hL]; exact take_short (few_short l) p
  have sM : Short M := by rw [hM]; exact take_short (few_short l') p
  have lL : L.length = p := by rw [hL, List.length_take]; omega
  have lM : M.length = p := by rw [hM, List.length_take]; omega
  have e1 := rowE_f h1
  obtain ⟨S, hS⟩ : ∃ S, S = rowS L := ⟨_, rfl⟩
  obtain ⟨S', hS'⟩ : ∃ S', S' = rowS M := ⟨_, rfl⟩
  have HR1 := Lib.hid (fun (A1 : Option Addr) (c1 : Nat) (W : World) (hv : Vals W W.heap.size A1 p ((fewL l).take p)) => (show Calls Try.prog 5 #[.slice A1 p c1] W fun e w' => e = .returned (.tuple #[.string S, .int .i64 1]) ∧ Below W.heap.size W w' by
    rw [← hL] at hv
    have := row_any A1 p c1 L W (by omega) hv iL
    rwa [← hS, e1] at this))
  have HR2 := Lib.hid (fun (A1 : Option Addr) (c1 : Nat) (W : World) (hv : Vals W W.heap.size A1 p ((fewL l').take p)) => (show Calls Try.prog 5 #[.slice A1 p c1] W fun e w' => e = .returned (.tuple #[.string S', .int .i64 (rowE M)]) ∧ Below W.heap.size W w' by
    rw [← hM] at hv
    have := row_any A1 p c1 M W (by omega) hv iM
    rwa [← hS'] at this))
  obtain ⟨E2, hE2⟩ : ∃ E2, E2 = rowE M := ⟨_, rfl⟩
  rw [← hE2] at HR2
  clear h h' hn iL iM sL sM lL lM hS hS' hL hM h1 e1
  unfold maxLen at *
  subst hp
  have hg : ¬ (n2 : Int) < (p : Int) := by omega
  go_enter Try.func3, Try.ntmps3
  go_wp2_with (first
    | (go_at_call_of 4 (Value.slice A n cap); refine (few3_any A n cap l _ H.out.len (H.out.vals) H.out.short p HN.out.1).mono ?_; rintro e w1 ⟨A1, c1, rfl, HH1, hc1, hd1⟩; have hs1 := HH1.out.2.size)
    | (go_at_call_of 4 (Value.slice A' m cap'); refine (few3_any A' m cap' l' _ H'.out.len ((H'.out.vals.keep HH1.out.2).more hs1) H'.out.short n2 HN.out.2).mono ?_; rintro e w2 ⟨A2, c2, rfl, HH2, hc2, hd2⟩; have hs2 := HH2.out.2.size)
    | (go_at_call_of 5 (Value.slice A1 p c1); refine (HR1.out A1 c1 _ (((HH1.out.1.keep HH2.out.2).more hs2).take HP.out.1)).mono ?_; rintro e w3 ⟨rfl, hb3⟩; have HH3 := Lib.hid hb3; have hs3 := hb3.size; clear hb3)
    | (go_at_call_of 5 (Value.slice A2 p c2); refine (HR2.out A2 c2 _ (((HH2.out.1.take HP.out.2).keep HH3.out).more hs3)).mono ?_; rintro e w4 ⟨rfl, hb4⟩; have HH4 := Lib.hid hb4; have hs4 := hb4.size; clear hb4)
    | (go_at_call 6; refine (awake2_any _).mono ?_; rintro e w6 ⟨rfl, hb6⟩))
  go_ret
  refine ⟨rfl, ?_⟩
  exact (((HH1.out.2.trans (HH2.out.2.mono (by omega))).trans (HH3.out.mono (by omega))).trans (HH4.out.mono (by omega))).trans (hb6.mono (by omega))

set_option maxRecDepth 100000 in
set_option maxHeartbeats 2000000 in
theorem orders_l2 (A : Option Addr) (n cap : Nat) (l : List Vl) (A' : Option Addr) (m cap' : Nat) (l' : List Vl) (w : World) (h : Inp w A n l) (h' : Inp w A' m l') (n1 n2 p : Nat) (L M : List Vl) (hn : n1 = (fewL l).length ∧ n2 = (fewL l').length) (hpn : n1 ≤ n2) (hp : p = n1) (hL : L = (fewL l).take p) (hM : M = (fewL l').take p) (h1 : rowOk L = true) (h2 : rowOk M = false) :
    Calls Try.prog 3 #[.slice A n cap, .slice A' m cap'] w fun e w' => e = .returned (.bool true) ∧ Below w.heap.size w w' := by
  have H := Lib.hid h
  have H' := Lib.hid h'
  have HN := Lib.hid hn
  have hn1 : n1 ≤ 14 := by rw [hn.1]; exact few_len l
  have hn2 : n2 ≤ 14 := by rw [hn.2]; exact few_len l'
  have hp14 : p ≤ 14 := by omega
  have HP := Lib.hid (show p ≤ n1 ∧ p ≤ n2 by omega)
  have iL : I64 L := by rw [hL]; exact take_i64 (few_i64 h.i64) p
  have iM : I64 M := by rw [hM]; exact take_i64 (few_i64 h'.i64) p
  have sL : Short L := by rw [hL]; exact take_short (few_short l) p
  have sM : Short M := by rw [hM]; exact take_short (few_short l') p
  have lL : L.length = p := by rw [hL, List.length_take]; omega
  have lM : M.length = p := by rw [hM, List.length_take]; omega
  have e1 := rowE_t h1
  have e2 := rowE_f h2
  obtain ⟨S, hS⟩ : ∃ S, S = rowS L := ⟨_, rfl⟩
  obtain ⟨S', hS'⟩ : ∃ S', S' = rowS M := ⟨_, rfl⟩
  have HR1 := Lib.hid (fun (A1 : Option Addr) (c1 : Nat) (W : World) (hv : Vals W W.heap.size A1 p ((fewL l).take p)) => (show Calls Try.prog 5 #[.slice A1 p c1] W fun e w' => e = .returned (.tuple #[.string S, .int .i64 0]) ∧ Below W.heap.size W w' by
    rw [← hL] at hv
    have := row_any A1 p c1 L W (by omega) hv iL
    rwa [← hS, e1] at this))
  have HR2 := Lib.hid (fun (A1 : Option Addr) (c1 : Nat) (W : World) (hv : Vals W W.heap.size A1 p ((fewL l').take p)) => (show Calls Try.prog 5 #[.slice A1 p c1] W fun e w' => e = .returned (.tuple #[.string S', .int .i64 1]) ∧ Below W.heap.size W w' by
    rw [← hM] at hv
    have := row_any A1 p c1 M W (by omega) hv iM
    rwa [← hS', e2] at this))
  clear h h' hn iL iM sL sM lL lM hS hS' hL hM h1 h2 e1 e2
  unfold maxLen at *
  subst hp
  have hg : ¬ (n2 : Int) < (p : Int) := by omega
  go_enter Try.func3, Try.ntmps3
  go_wp2_with (first
    | (go_at_call_of 4 (Value.slice A n cap); refine (few3_any A n cap l _ H.out.len (H.out.vals) H.out.short p HN.out.1).mono ?_; rintro e w1 ⟨A1, c1, rfl, HH1, hc1, hd1⟩; have hs1 := HH1.out.2.size)
    | (go_at_call_of 4 (Value.slice A' m cap'); refine (few3_any A' m cap' l' _ H'.out.len ((H'.out.vals.keep HH1.out.2).more hs1) H'.out.short n2 HN.out.2).mono ?_; rintro e w2 ⟨A2, c2, rfl, HH2, hc2, hd2⟩; have hs2 := HH2.out.2.size)
    | (go_at_call_of 5 (Value.slice A1 p c1); refine (HR1.out A1 c1 _ (((HH1.out.1.keep HH2.out.2).more hs2).take HP.out.1)).mono ?_; rintro e w3 ⟨rfl, hb3⟩; have HH3 := Lib.hid hb3; have hs3 := hb3.size; clear hb3)
    | (go_at_call_of 5 (Value.slice A2 p c2); refine (HR2.out A2 c2 _ (((HH2.out.1.take HP.out.2).keep HH3.out).more hs3)).mono ?_; rintro e w4 ⟨rfl, hb4⟩; have HH4 := Lib.hid hb4; have hs4 := hb4.size; clear hb4)
    | (go_at_call 6; refine (awake2_any _).mono ?_; rintro e w6 ⟨rfl, hb6⟩))
  go_ret
  refine ⟨rfl, ?_⟩
  exact (((HH1.out.2.trans (HH2.out.2.mono (by omega))).trans (HH3.out.mono (by omega))).trans (HH4.out.mono (by omega))).trans (hb6.mono (by omega))

set_option maxRecDepth 100000 in
set_option maxHeartbeats 2000000 in
theorem orders_l3 (A : Option Addr) (n cap : Nat) (l : List Vl) (A' : Option Addr) (m cap' : Nat) (l' : List Vl) (w : World) (h : Inp w A n l) (h' : Inp w A' m l') (n1 n2 p : Nat) (L M : List Vl) (hn : n1 = (fewL l).length ∧ n2 = (fewL l').length) (hpn : n1 ≤ n2) (hp : p = n1) (hL : L = (fewL l).take p) (hM : M = (fewL l').take p) (h1 : rowOk L = true) (h2 : rowOk M = true) :
    Calls Try.prog 3 #[.slice A n cap, .slice A' m cap'] w fun e w' => e = .returned (.bool true) ∧ Below w.heap.size w w' := by
  have H := Lib.hid h
  have H' := Lib.hid h'
  have HN := Lib.hid hn
  have hn1 : n1 ≤ 14 := by rw [hn.1]; exact few_len l
  have hn2 : n2 ≤ 14 := by rw [hn.2]; exact few_len l'
  have hp14 : p ≤ 14 := by omega
  have HP := Lib.hid (show p ≤ n1 ∧ p ≤ n2 by omega)
  have iL : I64 L := by rw [hL]; exact take_i64 (few_i64 h.i64) p
  have iM : I64 M := by rw [hM]; exact take_i64 (few_i64 h'.i64) p
  have sL : Short L := by rw [hL]; exact take_short (few_short l) p
  have sM : Short M := by rw [hM]; exact take_short (few_short l') p
  have lL : L.length = p := by rw [hL, List.length_take]; omega
  have lM : M.length = p := by rw [hM, List.length_take]; omega
  have e1 := rowE_t h1
  have e2 := rowE_t h2
  obtain ⟨S, hS⟩ : ∃ S, S = rowS L := ⟨_, rfl⟩
  obtain ⟨S', hS'⟩ : ∃ S', S' = rowS M := ⟨_, rfl⟩
  have HR1 := Lib.hid (fun (A1 : Option Addr) (c1 : Nat) (W : World) (hv : Vals W W.heap.size A1 p ((fewL l).take p)) => (show Calls Try.prog 5 #[.slice A1 p c1] W fun e w' => e = .returned (.tuple #[.string S, .int .i64 0]) ∧ Below W.heap.size W w' by
    rw [← hL] at hv
    have := row_any A1 p c1 L W (by omega) hv iL
    rwa [← hS, e1] at this))
  have HR2 := Lib.hid (fun (A1 : Option Addr) (c1 : Nat) (W : World) (hv : Vals W W.heap.size A1 p ((fewL l').take p)) => (show Calls Try.prog 5 #[.slice A1 p c1] W fun e w' => e = .returned (.tuple #[.string S', .int .i64 0]) ∧ Below W.heap.size W w' by
    rw [← hM] at hv
    have := row_any A1 p c1 M W (by omega) hv iM
    rwa [← hS', e2] at this))
  obtain ⟨o, ho⟩ : ∃ o, o = ordL L M := ⟨_, rfl⟩
  have mL := (rowOk_may h1).2
  have mM := (rowOk_may h2).2
  have hcmp : Lib.compareBytes S.data.toList S'.data.toList = o := by
    rw [hS, hS', ← toList_data, ← toList_data, rowS_t h1, rowS_t h2, cmp_rows L M (by omega) mL mM iL iM, ho]
  have hless := less_of hcmp
  have hsame := same_of hcmp
  have HO := Lib.hid (fun (A1 : Option Addr) (c1 : Nat) (A2 : Option Addr) (c2 : Nat) (W : World) (hv : Vals W W.heap.size A1 p ((fewL l).take p)) (hv' : Vals W W.heap.size A2 p ((fewL l').take p)) => (show Calls Try.prog 7 #[.slice A1 p c1, .slice A2 p c2] W fun e w' => e = .returned (.int .i64 o) ∧ Below W.heap.size W w' by
    rw [← hL] at hv
    rw [← hM] at hv'
    rw [ho]
    exact order_rows A1 p c1 L A2 c2 M W (by omega) hv hv' sL sM))
  have HX := Lib.hid (And.intro (And.intro mL mM) (And.intro (And.intro iL iM) (And.intro sL sM)))
  have HLM := Lib.hid (And.intro hL hM)
  clear mL mM hcmp ho
  clear h h' hn iL iM sL sM lL lM hS hS' hL hM h1 h2 e1 e2
  unfold maxLen at *
  subst hp
  have hg : ¬ (n2 : Int) < (p : Int) := by omega
  go_enter Try.func3, Try.ntmps3
  go_wp2_with (first
    | (go_at_call_of 4 (Value.slice A n cap); refine (few3_any A n cap l _ H.out.len (H.out.vals) H.out.short p HN.out.1).mono ?_; rintro e w1 ⟨A1, c1, rfl, HH1, hc1, hd1⟩; have hs1 := HH1.out.2.size)
    | (go_at_call_of 4 (Value.slice A' m cap'); refine (few3_any A' m cap' l' _ H'.out.len ((H'.out.vals.keep HH1.out.2).more hs1) H'.out.short n2 HN.out.2).mono ?_; rintro e w2 ⟨A2, c2, rfl, HH2, hc2, hd2⟩; have hs2 := HH2.out.2.size)
    | (go_at_call_of 5 (Value.slice A1 p c1); refine (HR1.out A1 c1 _ (((HH1.out.1.keep HH2.out.2).more hs2).take HP.out.1)).mono ?_; rintro e w3 ⟨rfl, hb3⟩; have HH3 := Lib.hid hb3; have hs3 := hb3.size; clear hb3)
    | (go_at_call_of 5 (Value.slice A2 p c2); refine (HR2.out A2 c2 _ (((HH2.out.1.take HP.out.2).keep HH3.out).more hs3)).mono ?_; rintro e w4 ⟨rfl, hb4⟩; have HH4 := Lib.hid hb4; have hs4 := hb4.size; clear hb4)
    | (go_at_call 7; refine (HO.out A1 c1 A2 c2 _ ((((((HH1.out.1.keep HH2.out.2).more hs2).take HP.out.1).keep HH3.out).more hs3 |>.keep HH4.out).more hs4) ((((HH2.out.1.take HP.out.2).keep HH3.out).more hs3 |>.keep HH4.out).more hs4)).mono ?_; rintro e w5 ⟨rfl, hb5⟩; have HH5 := Lib.hid hb5; have hs5 := hb5.size; clear hb5))
  have HV1 := Lib.hid (((((((HH1.out.1.keep HH2.out.2).more hs2).take HP.out.1).keep HH3.out).more hs3 |>.keep HH4.out).more hs4 |>.keep HH5.out).more hs5)
  have HV2 := Lib.hid (((((HH2.out.1.take HP.out.2).keep HH3.out).more hs3 |>.keep HH4.out).more hs4 |>.keep HH5.out).more hs5)
  rw [← HLM.out.1] at HV1
  rw [← HLM.out.2] at HV2
  have HB5 := Lib.hid ((((HH1.out.2.trans (HH2.out.2.mono (by omega))).trans (HH3.out.mono (by omega))).trans (HH4.out.mono (by omega))).trans (HH5.out.mono (by omega)))
  have hs05 : w.heap.size ≤ w5.heap.size := by omega
  clear HH1 HH2 HH3 HH4 HH5 hs1 hs2 hs3 hs4 HR1 HR2 HO hless hsame
  go_loopw [10] (fun i wr => ∃ k : Nat, k ≤ p ∧ i = .int .i64 k ∧ Below w5.heap.size w5 wr) (fun i _ => p - (intOf i).toNat)
  case atStart => exact ⟨0, by omega, rfl, Below.refl _ _⟩
  case round =>
    obtain ⟨k, hk, rfl, hb⟩ := hrel
    have hbs := hb.size
    by_cases hlt : k < p
    · have hkp : ((k : Nat) : Int) < (p : Int) := by omega
      obtain ⟨xa, x, hA0_, hx, hA, hB0⟩ := HV1.out.at_ hlt
      have hA' := hA.keep hb (by rw [add_block]; exact hB0)
      have c0k := hA'.k
      have c0i := hA'.i
      have c0s := hA'.s
      have HX0 := Lib.hid hx
      have HA0 : Hid (VlAt wr (xa.add (k * 3)) x ∧ (xa.add (k * 3)).block < wr.heap.size) := ⟨hA', by rw [add_block]; omega⟩
      clear hx hA hA'
      subst hA0_
      obtain ⟨ya, y, hA1_, hx, hA, hB1⟩ := HV2.out.at_ hlt
      have hA' := hA.keep hb (by rw [add_block]; exact hB1)
      have c1k := hA'.k
      have c1i := hA'.i
      have c1s := hA'.s
      have HX1 := Lib.hid hx
      have HA1 : Hid (VlAt wr (ya.add (k * 3)) y ∧ (ya.add (k * 3)).block < wr.heap.size) := ⟨hA', by rw [add_block]; omega⟩
      clear hx hA hA'
      subst hA1_
      have mx := List.mem_of_getElem? HX0.out
      have my := List.mem_of_getElem? HX1.out
      obtain ⟨X, hX⟩ : ∃ X : ByteArray, X = ⟨(valO x.k x.i x.s).toArray⟩ := ⟨_, rfl⟩
      obtain ⟨Y, hY⟩ : ∃ Y : ByteArray, Y = ⟨(valO y.k y.i y.s).toArray⟩ := ⟨_, rfl⟩
      obtain ⟨q, hq⟩ : ∃ q, q = ordN x.k x.i x.s y.k y.i y.s := ⟨_, rfl⟩
      have hcmp : Lib.compareBytes X.data.toList Y.data.toList = q := by
        rw [hX, hY, hq]
        exact cmp_val (HX.out.1.1 x mx) (HX.out.1.2 y my) (HX.out.2.1.1 x mx) (HX.out.2.1.2 y my)
      have vless := less_of hcmp
      have vsame := same_of hcmp
      have HVX := Lib.hid (fun (W : World) => hX ▸ value_any x.k x.i x.s W (HX.out.2.1.1 x mx))
      have HVY := Lib.hid (fun (W : World) => hY ▸ value_any y.k y.i y.s W (HX.out.2.1.2 y my))
      have HQ := Lib.hid (fun (W : World) => hq ▸ rorder_any x.k x.i x.s y.k y.i y.s W (HX.out.2.2.1 x mx) (HX.out.2.2.2 y my))
      clear hcmp hX hY hq mx my
      go_wp2
      refine detL_begin [.val (.slice (some xa) p c1), .val (.int .i64 k), .val (.pointer (some (xa.add (k * 3)))), .val (.agg #[.int .i64 x.k, .int .i64 x.i, .string x.s]), .val (.string X), .val (.slice (some ya) p c2), .val (.int .i64 k), .val (.pointer (some (ya.add (k * 3)))), .val (.agg #[.int .i64 y.k, .int .i64 y.i, .string y.s]), .val (.string Y)] 10 (by kernel_rfl) ?_
      refine detL_val (by kernel_rfl) (yields_of rfl fun w1 hb1 => ?_) ?_
      · have hc1 := bcellD hb1
        clear hb1
        go_simp
        exact Det1_same
      simp only [Act.put, List.setIfInBounds_toArray, List.set_cons_zero, List.set_cons_succ]
      refine detL_val (by kernel_rfl) (yields_of rfl fun w1 hb1 => ?_) ?_
      · have hc1 := bcellD hb1
        clear hb1
        go_simp
        exact Det1_same
      simp only [Act.put, List.setIfInBounds_toArray, List.set_cons_zero, List.set_cons_succ]
      refine detL_val (by kernel_rfl) (yields_of rfl fun w1 hb1 => ?_) ?_
      · have hc1 := bcellD hb1
        clear hb1
        go_simp
        exact Det1_same
      simp only [Act.put, List.setIfInBounds_toArray, List.set_cons_zero, List.set_cons_succ]
      refine detL_val (by kernel_rfl) (yields_of rfl fun w1 hb1 => ?_) ?_
      · have hc1 := bcellD hb1
        have hv1 := HA0.out.1.det hb1 HA0.out.2; have d1 := hv1.k; have d2 := hv1.i; have d3 := hv1.s; clear hv1
        clear hb1
        go_simp
        exact Det1_same
      simp only [Act.put, List.setIfInBounds_toArray, List.set_cons_zero, List.set_cons_succ]
      refine detL_val (by kernel_rfl) (yields_of rfl fun w1 hb1 => ?_) ?_
      · have hc1 := bcellD hb1
        clear hb1
        go_simp
        exact Det1_enter (HVX.out _)
      simp only [Act.put, List.setIfInBounds_toArray, List.set_cons_zero, List.set_cons_succ]
      refine detL_val (by kernel_rfl) (yields_of rfl fun w1 hb1 => ?_) ?_
      · have hc1 := bcellD hb1
        clear hb1
        go_simp
        exact Det1_same
      simp only [Act.put, List.setIfInBounds_toArray, List.set_cons_zero, List.set_cons_succ]
      refine detL_val (by kernel_rfl) (yields_of rfl fun w1 hb1 => ?_) ?_
      · have hc1 := bcellD hb1
        clear hb1
        go_simp
        exact Det1_same
      simp only [Act.put, List.setIfInBounds_toArray, List.set_cons_zero, List.set_cons_succ]
      refine detL_val (by kernel_rfl) (yields_of rfl fun w1 hb1 => ?_) ?_
      · have hc1 := bcellD hb1
        clear hb1
        go_simp
        exact Det1_same
      simp only [Act.put, List.setIfInBounds_toArray, List.set_cons_zero, List.set_cons_succ]
      refine detL_val (by kernel_rfl) (yields_of rfl fun w1 hb1 => ?_) ?_
      · have hc1 := bcellD hb1
        have hv1 := HA1.out.1.det hb1 HA1.out.2; have d1 := hv1.k; have d2 := hv1.i; have d3 := hv1.s; clear hv1
        clear hb1
        go_simp
        exact Det1_same
      simp only [Act.put, List.setIfInBounds_toArray, List.set_cons_zero, List.set_cons_succ]
      refine detL_val (by kernel_rfl) (yields_of rfl fun w1 hb1 => ?_) ?_
      · have hc1 := bcellD hb1
        clear hb1
        go_simp
        exact Det1_enter (HVY.out _)
      simp only [Act.put, List.setIfInBounds_toArray, List.set_cons_zero, List.set_cons_succ]
      refine detL_tail rfl (by kernel_rfl) fun w7 hw7 => ?_
      have hb7 := hw7.below
      have HD0 : Hid (VlAt w7 (xa.add (k * 3)) x ∧ (xa.add (k * 3)).block < w7.heap.size) := ⟨HA0.out.1.det hb7 HA0.out.2, Nat.lt_of_lt_of_le HA0.out.2 hb7.size⟩
      have HD1 : Hid (VlAt w7 (ya.add (k * 3)) y ∧ (ya.add (k * 3)).block < w7.heap.size) := ⟨HA1.out.1.det hb7 HA1.out.2, Nat.lt_of_lt_of_le HA1.out.2 hb7.size⟩
      have HB7 := Lib.hid (hb.drew.trans (hb7.mono hbs))
      clear hw7 hb7 c0k c0i c0s c1k c1i c1s
      have c0k := HD0.out.1.k
      have c0i := HD0.out.1.i
      have c0s := HD0.out.1.s
      have c1k := HD1.out.1.k
      have c1i := HD1.out.1.i
      have c1s := HD1.out.1.s
      go_wp2
      refine detL_begin [.val (.slice (some xa) p c1), .val (.int .i64 k), .val (.pointer (some (xa.add (k * 3)))), .val (.agg #[.int .i64 x.k, .int .i64 x.i, .string x.s]), .val (.slice (some ya) p c2), .val (.int .i64 k), .val (.pointer (some (ya.add (k * 3)))), .val (.agg #[.int .i64 y.k, .int .i64 y.i, .string y.s]), .val (.int .i64 q)] 9 (by kernel_rfl) ?_
      refine detL_val (by kernel_rfl) (yields_of rfl fun w1 hb1 => ?_) ?_
      · have hc1 := bcellD hb1
        clear hb1
        go_simp
        exact Det1_same
      simp only [Act.put, List.setIfInBounds_toArray, List.set_cons_zero, List.set_cons_succ]
      refine detL_val (by kernel_rfl) (yields_of rfl fun w1 hb1 => ?_) ?_
      · have hc1 := bcellD hb1
        clear hb1
        go_simp
        exact Det1_same
      simp only [Act.put, List.setIfInBounds_toArray, List.set_cons_zero, List.set_cons_succ]
      refine detL_val (by kernel_rfl) (yields_of rfl fun w1 hb1 => ?_) ?_
      · have hc1 := bcellD hb1
        clear hb1
        go_simp
        exact Det1_same
      simp only [Act.put, List.setIfInBounds_toArray, List.set_cons_zero, List.set_cons_succ]
      refine detL_val (by kernel_rfl) (yields_of rfl fun w1 hb1 => ?_) ?_
      · have hc1 := bcellD hb1
        have hv1 := HD0.out.1.det hb1 HD0.out.2; have d1 := hv1.k; have d2 := hv1.i; have d3 := hv1.s; clear hv1
        clear hb1
        go_simp
        exact Det1_same
      simp only [Act.put, List.setIfInBounds_toArray, List.set_cons_zero, List.set_cons_succ]
      refine detL_val (by kernel_rfl) (yields_of rfl fun w1 hb1 => ?_) ?_
      · have hc1 := bcellD hb1
        clear hb1
        go_simp
        exact Det1_same
      simp only [Act.put, List.setIfInBounds_toArray, List.set_cons_zero, List.set_cons_succ]
      refine detL_val (by kernel_rfl) (yields_of rfl fun w1 hb1 => ?_) ?_
      · have hc1 := bcellD hb1
        clear hb1
        go_simp
        exact Det1_same
      simp only [Act.put, List.setIfInBounds_toArray, List.set_cons_zero, List.set_cons_succ]
      refine detL_val (by kernel_rfl) (yields_of rfl fun w1 hb1 => ?_) ?_
      · have hc1 := bcellD hb1
        clear hb1
        go_simp
        exact Det1_same
      simp only [Act.put, List.setIfInBounds_toArray, List.set_cons_zero, List.set_cons_succ]
      refine detL_val (by kernel_rfl) (yields_of rfl fun w1 hb1 => ?_) ?_
      · have hc1 := bcellD hb1
        have hv1 := HD1.out.1.det hb1 HD1.out.2; have d1 := hv1.k; have d2 := hv1.i; have d3 := hv1.s; clear hv1
        clear hb1
        go_simp
        exact Det1_same
      simp only [Act.put, List.setIfInBounds_toArray, List.set_cons_zero, List.set_cons_succ]
      refine detL_val (by kernel_rfl) (yields_of rfl fun w1 hb1 => ?_) ?_
      · have hc1 := bcellD hb1
        clear hb1
        go_simp
        exact Det1_enter (HQ.out _)
      simp only [Act.put, List.setIfInBounds_toArray, List.set_cons_zero, List.set_cons_succ]
      refine detL_tail rfl (by kernel_rfl) fun w8 hw8 => ?_
      have HB8 := Lib.hid (HB7.out.drew.trans (hw8.below.mono HB7.out.size))
      clear hw8
      go_wp2
      go_roundw
      case rel => exact ⟨k + 1, by omega, by go_num, HB8.out⟩
      case measure => simp [intOf]; omega
    · go_wp2_with (go_at_call 6; refine (awake2_any _).mono ?_; rintro e w6 ⟨rfl, hb6⟩)
      go_ret
      exact ⟨rfl, (HB5.out.trans (hb.mono hs05)).trans (hb6.mono (by omega))⟩

theorem law_orders (A : Option Addr) (n cap : Nat) (l : List Vl) (A' : Option Addr) (m cap' : Nat) (l' : List Vl) (w : World) (h : Inp w A n l) (h' : Inp w A' m l') :
    Calls Try.prog 3 #[.slice A n cap, .slice A' m cap'] w fun e w' => e = .returned (.bool true) ∧ Below w.heap.size w w' := by
  by_cases hg : (fewL l').length < (fewL l).length
  · cases h1 : rowOk ((fewL l).take (fewL l').length) with
    | false => exact orders_g1 A n cap l A' m cap' l' w h h' _ _ _ _ _ ⟨rfl, rfl⟩ hg rfl rfl rfl h1
    | true =>
      cases h2 : rowOk ((fewL l').take (fewL l').length) with
      | false => exact orders_g2 A n cap l A' m cap' l' w h h' _ _ _ _ _ ⟨rfl, rfl⟩ hg rfl rfl rfl h1 h2
      | true => exact orders_g3 A n cap l A' m cap' l' w h h' _ _ _ _ _ ⟨rfl, rfl⟩ hg rfl rfl rfl h1 h2
  · have hg' : (fewL l).length ≤ (fewL l').length := by omega
    cases h1 : rowOk ((fewL l).take (fewL l).length) with
    | false => exact orders_l1 A n cap l A' m cap' l' w h h' _ _ _ _ _ ⟨rfl, rfl⟩ hg' rfl rfl rfl h1
    | true =>
      cases h2 : rowOk ((fewL l').take (fewL l).length) with
      | false => exact orders_l2 A n cap l A' m cap' l' w h h' _ _ _ _ _ ⟨rfl, rfl⟩ hg' rfl rfl rfl h1 h2
      | true => exact orders_l3 A n cap l A' m cap' l' w h h' _ _ _ _ _ ⟨rfl, rfl⟩ hg' rfl rfl rfl h1 h2
end Go.Proofs.Ytnahejljelbbgaa
