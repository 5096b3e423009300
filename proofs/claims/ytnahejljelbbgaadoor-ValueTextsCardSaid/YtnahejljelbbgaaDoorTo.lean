import Derived.Test.YtnahejljelbbgaaDoorTm
import Derived.Deep.Cut
import Derived.Deep.CutRange
import Derived.Outline
/- The document's own Parse: a number. -/
namespace Go.Proofs.YtnahejljelbbgaaDoor
open Go.RowKit Go.Lib

/-- Does a text begin with a minus? -/
def sgn (l : List UInt8) : Nat := if l.head? = some 45 then 1 else 0
def isDig (c : UInt8) : Prop := 48 ≤ c.toNat ∧ c.toNat ≤ 57
theorem valD_mono : ∀ (l r : List UInt8), valD l ≤ valD (l ++ r)
  | l, [] => by simp
  | l, c :: r => by
    have h := valD_mono (l ++ [c]) r
    rw [valD_snoc] at h
    rw [List.append_assoc, List.singleton_append] at h
    omega
/-- A number's text: its sign, its digits. -/
theorem itoa_sgn {i : Int} {l : List UInt8} (hi : In64 i) (h : itoa i = l) : ∃ m : Nat, l.drop (sgn l) = decDigits m ∧ m ≤ 9223372036854775808 ∧ ((sgn l = 1 ∧ i = -(m : Int)) ∨ (sgn l = 0 ∧ i = (m : Int))) := by
  unfold In64 at hi
  by_cases h0 : 0 ≤ i
  · obtain ⟨m, rfl⟩ := Int.eq_ofNat_of_zero_le h0
    rw [itoa_nonneg] at h
    subst h
    obtain ⟨c, r, e, h1, h2⟩ := dec_head m
    have hs : sgn (decDigits m) = 0 := by
      unfold sgn
      rw [e, if_neg]
      intro q
      simp at q
      subst q
      exact h2 rfl
    exact ⟨m, by rw [hs]; rfl, by omega, .inr ⟨hs, rfl⟩⟩
  · obtain ⟨m, hm⟩ := Int.eq_ofNat_of_zero_le (show 0 ≤ -i by omega)
    obtain rfl : i = -(m : Int) := by omega
    rw [itoa_neg m (by omega)] at h
    subst h
    have hs : sgn (45 :: decDigits m) = 1 := by simp [sgn]
    exact ⟨m, by rw [hs]; rfl, by omega, .inl ⟨hs, rfl⟩⟩
/-- What a digit more comes to is none too great, if the text is a number's. -/
theorem itoa_step {i : Int} {l : List UInt8} (hi : In64 i) (h : itoa i = l) {j : Nat} {c : UInt8} (hj : l[j]? = some c) (hs : sgn l ≤ j) : isDig c ∧ 10 * valD ((l.take j).drop (sgn l)) + (c.toNat - 48) ≤ 9223372036854775808 := by
  obtain ⟨m, hd, hm, _⟩ := itoa_sgn hi h
  have hlt : j < l.length := (List.getElem?_eq_some_iff.1 hj).1
  have e1 : l.drop (sgn l) = (l.take j).drop (sgn l) ++ (c :: l.drop (j + 1)) := by
    have e : l = l.take j ++ (c :: l.drop (j + 1)) := by
      have h1 := List.take_append_drop j l
      rw [List.drop_eq_getElem_cons hlt] at h1
      rw [List.getElem?_eq_getElem hlt] at hj
      rw [Option.some.inj hj] at h1
      exact h1.symm
    have h2 : sgn l ≤ (l.take j).length := by simp; omega
    conv => lhs; rw [e]
    rw [List.drop_append_of_le_length]
    · rw [← e]
    · rw [← e]; exact h2
  rw [hd] at e1
  constructor
  · exact dec_digits m c (by rw [e1]; simp)
  · have h2 := valD_mono ((l.take j).drop (sgn l) ++ [c]) (l.drop (j + 1))
    rw [List.append_assoc, List.singleton_append, ← e1, valD_dec, valD_snoc] at h2
    omega
theorem itoa_val {i : Int} {l : List UInt8} (hi : In64 i) (h : itoa i = l) : i = if sgn l = 1 then -(valD (l.drop (sgn l)) : Int) else (valD (l.drop (sgn l)) : Int) := by
  obtain ⟨m, hd, hm, hq⟩ := itoa_sgn hi h
  rw [hd, valD_dec]
  rcases hq with ⟨h1, h2⟩ | ⟨h1, h2⟩
  · rw [if_pos h1]; exact h2
  · rw [if_neg (by omega)]; exact h2

/-- A text that is none of the three, and stands in no quotes. -/
structure N4 (l : List UInt8) : Prop where
  n3 : N3 l
  q : ∀ m, l ≠ 39 :: (m ++ [39])
/-- It is no text, if it is no number's. -/
theorem N4.none {l : List UInt8} (h : N4 l) (hn : ∀ i, In64 i → itoa i ≠ l) : ∀ k i S, In64 i → mayB k i S = true → txtO k i S ≠ l := by
  intro k i S hi hm e
  cases four k i S hm with
  | null hk hi hs ht => exact h.n3.n0 (by rw [txt_null, ← ht]; exact e)
  | num hk hs ht => exact hn i hi (ht.symm.trans e)
  | text hk hi hz hc ht => exact h.q _ (e.symm.trans ht)
  | no hk hi hs ht => exact h.n3.n1 (by rw [txt_no, ← ht]; exact e)
  | yes hk hi hs ht => exact h.n3.n2 (by rw [txt_yes, ← ht]; exact e)
theorem N4.bad {l : List UInt8} (h : N4 l) {k i : Int} {S : ByteArray} {j : Nat} {c : UInt8} (hj : l[j]? = some c) (hs : sgn l ≤ j) (hb : ¬ (48 ≤ c.toNat ∧ c.toNat ≤ 57 ∧ 10 * valD ((l.take j).drop (sgn l)) + (c.toNat - 48) ≤ 9223372036854775808)) : RP l k i S false :=
  ⟨fun e => (by cases e), fun _ => h.none fun i hi e => hb (by have := itoa_step hi e hj hs; exact ⟨this.1.1, this.1.2, this.2⟩)⟩
theorem N4.big {l : List UInt8} (h : N4 l) {k i : Int} {S : ByteArray} (hs : sgn l = 0) (hv : valD (l.drop (sgn l)) = 9223372036854775808) : RP l k i S false :=
  ⟨fun e => (by cases e), fun _ => h.none fun i hi e => by
    have h1 := itoa_val hi e
    rw [if_neg (by omega), hv] at h1
    unfold In64 at hi
    omega⟩
theorem N4.fin {l : List UInt8} (h : N4 l) {v : Int} (hv : v = if sgn l = 1 then -(valD (l.drop (sgn l)) : Int) else (valD (l.drop (sgn l)) : Int)) (h64 : In64 v) {b : Bool} (hb : b = true ↔ itoa v = l) : RP l 1 v ⟨#[]⟩ b :=
  ⟨fun e => ⟨h64, by simp [mayB, nilBytes], by simp only [txtO, mayB, nilBytes]; simpa using hb.1 e⟩, fun e => h.none fun i hi e' => by
    have h1 := itoa_val hi e'
    rw [← hv] at h1
    subst h1
    rw [hb.2 e'] at e
    cases e⟩
theorem txt_num (v : Int) : txtO 1 v ⟨#[]⟩ = itoa v := by simp [txtO, mayB, nilBytes]
theorem sgn_at {s : ByteArray} (h : 0 < s.size) : sgn s.data.toList = 1 ↔ s[0] = 45 := by
  have h2 : 0 < s.data.toList.length := by rw [← Lib.size_eq]; exact h
  unfold sgn
  rw [show s.data.toList.head? = some s[0] by rw [List.head?_eq_getElem?, List.getElem?_eq_getElem h2]; rfl]
  by_cases h3 : s[0] = 45 <;> simp [h3]
theorem sgn_le (l : List UInt8) : sgn l ≤ 1 := by unfold sgn; split <;> omega
theorem get_at' {s : ByteArray} {n : Nat} (h : n < s.size) : s.data.toList[n]? = some s[n] := by
  rw [List.getElem?_eq_getElem (by rw [← Lib.size_eq]; exact h)]; rfl
theorem VQ.setI {w W : World} {g : Nat} {k i : Int} {S : ByteArray} (h : VQ w g k i S W) (i' : Int) : VQ w g k i' S (W.setCell ⟨g, 1, none⟩ (.int .i64 i')) := by
  have hl := h.lt
  have h0 := h.v.k
  have h1 := h.v.i
  have h2 := h.v.s
  have hne : ∀ o, (⟨w.heap.size, o, none⟩ : Addr) ≠ ⟨g, 1, none⟩ := fun o e => by injection e with e; omega
  refine ⟨h.below.setCell (show w.heap.size ≤ g by omega) _, h.lt, ⟨?_, ?_, ?_⟩, fun o => ?_, ⟨?_, ?_, ?_⟩, fun o => ?_⟩
  · exact (World.cell?_setCell_other _ _ _ _ (hne _).symm).trans h.r.k
  · exact (World.cell?_setCell_other _ _ _ _ (hne _).symm).trans h.r.i
  · exact (World.cell?_setCell_other _ _ _ _ (hne _).symm).trans h.r.s
  · simpa [go_sem] using h.f o
  · simp [go_sem, *]
  · simp [go_sem, *]
  · simp [go_sem, *]
  · simpa [go_sem] using h.fv o
theorem VQ.set3 {w W : World} {g : Nat} {k i : Int} {S : ByteArray} (h : VQ w g k i S W) (k' i' : Int) (S' : ByteArray) : VQ w g k' i' S' (((W.setCell ⟨g, 0, none⟩ (.int .i64 k')).setCell ⟨g, 1, none⟩ (.int .i64 i')).setCell ⟨g, 2, none⟩ (.string S')) := by
  have hl := h.lt
  refine ⟨((h.below.setCell (show w.heap.size ≤ g by omega) _).setCell (show w.heap.size ≤ g by omega) _).setCell (show w.heap.size ≤ g by omega) _, h.lt, h.r.set_other (by omega) _ _ _, fun o => ?_, h.v.set_same _ _ _, fun o => ?_⟩
  · simpa [go_sem] using h.f o
  · simpa [go_sem] using h.fv o

def Parsed (l : List UInt8) (e : Ending) : Prop := ∃ k i S b, e = .returned (.tuple #[.agg #[.int .i64 k, .int .i64 i, .string S], .bool b]) ∧ RP l k i S b
theorem Parsed.mk {l : List UInt8} {k i : Int} {S : ByteArray} {b : Bool} (h : RP l k i S b) : Parsed l (.returned (.tuple #[.agg #[.int .i64 k, .int .i64 i, .string S], .bool b])) := ⟨_, _, _, _, rfl, h⟩
theorem VQ.setV {w W : World} {g : Nat} {k i : Int} {S : ByteArray} (h : VQ w g k i S W) {v i' : Int} (e : v = i') : VQ w g k i' S (W.setCell ⟨g, 1, none⟩ (.int .i64 v)) := e ▸ h.setI v
theorem ov_three (n : Nat) (c : Nat) (h1 : 48 ≤ c) (h2 : c ≤ 57) (h3 : 10 * n + (c - 48) ≤ 9223372036854775808) : IntKind.i64.wrap (IntKind.i64.wrap (IntKind.i64.wrap (10 * -(n : Int)) - (c : Int)) + 48) = -((10 * n + (c - 48) : Nat) : Int) := by
  rw [IntKind.wrap_i64, IntKind.wrap_i64, IntKind.wrap_i64]
  omega
theorem nonempty_of {s : ByteArray} (h : 0 < s.size) : s.toList.isEmpty = false := by
  rw [toList_data]
  cases hl : s.data.toList with
  | nil =>
    have h2 : s.size = 0 := by rw [Lib.size_eq, hl]; rfl
    omega
  | cons _ _ => rfl
theorem step_val {s : ByteArray} {j n : Nat} (h1 : sgn s.data.toList ≤ j ∨ j = 0) (h2 : n = valD ((s.data.toList.take j).drop (sgn s.data.toList))) (hlt : j < s.size) (hs : sgn s.data.toList ≤ j) :
    Hid ((sgn s.data.toList ≤ j + 1) ∧ 10 * n + (s[j].toNat - 48) = valD ((s.data.toList.take (j + 1)).drop (sgn s.data.toList)) ∧ True) := by
  refine ⟨by omega, ?_, trivial⟩
  rw [take_one s j hlt, List.drop_append_of_le_length (by rw [List.length_take, ← Lib.size_eq]; omega), valD_snoc, h2]

set_option maxRecDepth 100000 in
set_option maxHeartbeats 3200000 in
theorem rparse_n (s : ByteArray) (w : World) (hs : s.size ≤ 100000) (hn : N4 s.data.toList)
    (hq : s.size < 2 ∨ (∃ h : 2 ≤ s.size, ¬ (s[0].toNat : Int) = 39) ∨ (∃ h : 2 ≤ s.size, (s[0].toNat : Int) = 39 ∧ ¬ (s[s.size - 1].toNat : Int) = 39)) :
    Calls Tryd.prog 9 #[.string s] w fun e w' => Parsed s.data.toList e ∧ Below w.heap.size w w' := by
  have HN := Lib.hid hn.n3
  have HN4 := Lib.hid hn
  have HQ_ := Lib.hid hq
  clear hn hq
  go_enter Tryd.func9, Tryd.ntmps9
  go_wp2
  refine wp_gen (W3 w) (W3.start w) fun W hW => ?_
  have HW0 := Lib.hid hW
  clear hW
  go_loopw [5] (fun i wr => ∃ k : Nat, k ≤ 3 ∧ i = .int .i64 k ∧ W3 w wr) (fun i _ => 3 - (intOf i).toNat)
  case atStart => exact ⟨0, by omega, rfl, HW0.out⟩
  case round =>
    obtain ⟨k, hk, rfl, hW⟩ := hrel
    have HW := Lib.hid hW
    clear hW
    by_cases hk0 : k = 0
    · subst hk0
      have hr0 := HW.out.r.k
      have hr1 := HW.out.r.i
      have hr2 := HW.out.r.s
      have hf := HW.out.f
      have ha0 := HW.out.a.k
      have ha1 := HW.out.a.i
      have ha2 := HW.out.a.s
      have hb0 := HW.out.b0
      have hb1' := HW.out.b1
      have hb2 := HW.out.b2
      have hc0 := HW.out.c0
      have hc1 := HW.out.c1
      have hc2 := HW.out.c2
      go_wp2_with (go_at_call 10; refine (rtext_not0 0 0 s _ HN.out.n0 in64_0).mono ?_; rintro e w1 ⟨t1, rfl, hq1, hb1⟩; have hW1 := HW.out.later hb1)
      go_roundw
      case rel => exact ⟨0+1, by omega, by go_num, hW1⟩
      case measure => simp [intOf]; try omega
    · skip
      by_cases hk1 : k = 1
      · subst hk1
        have hr0 := HW.out.r.k
        have hr1 := HW.out.r.i
        have hr2 := HW.out.r.s
        have hf := HW.out.f
        have ha0 := HW.out.a.k
        have ha1 := HW.out.a.i
        have ha2 := HW.out.a.s
        have hb0 := HW.out.b0
        have hb1' := HW.out.b1
        have hb2 := HW.out.b2
        have hc0 := HW.out.c0
        have hc1 := HW.out.c1
        have hc2 := HW.out.c2
        go_wp2_with (go_at_call 10; refine (rtext_not0 3 0 s _ HN.out.n1 in64_0).mono ?_; rintro e w1 ⟨t1, rfl, hq1, hb1⟩; have hW1 := HW.out.later hb1)
        go_roundw
        case rel => exact ⟨1+1, by omega, by go_num, hW1⟩
        case measure => simp [intOf]; try omega
      · skip
        by_cases hk2 : k = 2
        · subst hk2
          have hr0 := HW.out.r.k
          have hr1 := HW.out.r.i
          have hr2 := HW.out.r.s
          have hf := HW.out.f
          have ha0 := HW.out.a.k
          have ha1 := HW.out.a.i
          have ha2 := HW.out.a.s
          have hb0 := HW.out.b0
          have hb1' := HW.out.b1
          have hb2 := HW.out.b2
          have hc0 := HW.out.c0
          have hc1 := HW.out.c1
          have hc2 := HW.out.c2
          go_wp2_with (go_at_call 10; refine (rtext_not0 3 1 s _ HN.out.n2 in64_1).mono ?_; rintro e w1 ⟨t1, rfl, hq1, hb1⟩; have hW1 := HW.out.later hb1)
          go_roundw
          case rel => exact ⟨2+1, by omega, by go_num, hW1⟩
          case measure => simp [intOf]; try omega
        · skip
          obtain rfl : k = 3 := by omega
          obtain ⟨wo, hwo⟩ : ∃ wo : World, wo = wr := ⟨_, rfl⟩
          rw [← hwo] at HW ⊢
          clear hwo
          have hr0 := HW.out.r.k
          have hr1 := HW.out.r.i
          have hr2 := HW.out.r.s
          have hf := HW.out.f
          have ha0 := HW.out.a.k
          have ha1 := HW.out.a.i
          have ha2 := HW.out.a.s
          have hb0 := HW.out.b0
          have hb1' := HW.out.b1
          have hb2 := HW.out.b2
          have hc0 := HW.out.c0
          have hc1 := HW.out.c1
          have hc2 := HW.out.c2
          go_upto_region 8 with fail
          refine wp_gen (VQ w wo.heap.size 2 0 ⟨#[]⟩) (VQ.start HW.out 2 0 _) fun W hW => ?_
          have HQ := Lib.hid hW
          clear hW HW
          clear hr0 hr1 hr2 hf ha0 ha1 ha2 hb0 hb1' hb2 hc0 hc1 hc2
          go_cut [46] from 31 to 46 (fun s46 wx => s46 = .bool false ∧ wx = W)
          case first =>
            rcases HQ_.out with h | ⟨h, h'⟩ | ⟨h, h', h''⟩
            · have h2 : ¬ (2 : Int) ≤ s.size := by omega
              go_wp2
              go_meet
              exact ⟨rfl, rfl⟩
            · have h2 : (2 : Int) ≤ s.size := by omega
              have h3 : 0 < s.size := by omega
              go_wp2
              go_meet
              exact ⟨rfl, rfl⟩
            · have h2 : (2 : Int) ≤ s.size := by omega
              have h3 : 0 < s.size := by omega
              have hw := wrap_one s (by omega) hs
              go_wp2
              go_meet
              exact ⟨by simp [h''], rfl⟩
          case rest =>
            obtain ⟨rfl, rfl⟩ := hcut
            have qr0 := HQ.out.r.k
            have qr1 := HQ.out.r.i
            have qr2 := HQ.out.r.s
            have qf := HQ.out.f
            have qv0 := HQ.out.v.k
            have qv1 := HQ.out.v.i
            have qv2 := HQ.out.v.s
            have qfv := HQ.out.fv
            have qlt := HQ.out.lt
            have qgl := HQ.out.glt
            go_wp2
            refine wp_gen (VQ w wo.heap.size 1 0 ⟨#[]⟩) (HQ.out.set3 1 0 _) fun W2 hW2 => ?_
            have HQ2 := Lib.hid hW2
            clear hW2 HQ HQ_
            clear qr0 qr1 qr2 qf qv0 qv1 qv2 qfv qlt qgl
            go_loopw [8] (fun i wr => ∃ (j n : Nat), j ≤ s.size ∧ i = .int .i64 j ∧ n ≤ 9223372036854775808 ∧ VQ w wo.heap.size 1 (-(n : Int)) ⟨#[]⟩ wr ∧ Hid ((sgn s.data.toList ≤ j ∨ j = 0) ∧ n = valD ((s.data.toList.take j).drop (sgn s.data.toList)) ∧ True)) (fun i _ => s.size - (intOf i).toNat)
            case atStart => exact ⟨0, 0, by omega, rfl, by omega, HQ2.out, .inr rfl, by simp [valD], trivial⟩
            case round =>
              obtain ⟨j, n, hj, rfl, hn64, hQ, HI⟩ := hrel
              have HQ := Lib.hid hQ
              clear hQ HQ2
              by_cases hlt : j < s.size
              · skip
                have qr0 := HQ.out.r.k
                have qr1 := HQ.out.r.i
                have qr2 := HQ.out.r.s
                have qf := HQ.out.f
                have qv0 := HQ.out.v.k
                have qv1 := HQ.out.v.i
                have qv2 := HQ.out.v.s
                have qfv := HQ.out.fv
                have qlt := HQ.out.lt
                have qgl := HQ.out.glt
                by_cases hj0 : j = 0
                · subst hj0
                  by_cases h45 : (s[0].toNat : Int) = 45
                  · have hs1 : sgn s.data.toList = 1 := (sgn_at hlt).2 (UInt8.toNat_inj.1 (by show s[0].toNat = 45; omega))
                    have hn0 : n = 0 := by rw [HI.out.2.1]; simp [valD]
                    subst hn0
                    have HR : Hid ((sgn s.data.toList ≤ 0 + 1 ∨ 0 + 1 = 0) ∧ 0 = valD ((s.data.toList.take (0 + 1)).drop (sgn s.data.toList)) ∧ True) := ⟨.inl (by omega), by rw [hs1, List.drop_of_length_le (by simp; omega)]; rfl, trivial⟩
                    clear hs1
                    go_wp2
                    go_roundw
                    case rel => first | exact ⟨0 + 1, 0, by omega, by go_num, by omega, HQ.out, HR⟩ | ((repeat apply Exists.intro); exact ⟨⟨0 + 1, 0, by omega, by go_num, by omega, HQ.out, HR⟩, rfl⟩)
                    case measure => simp [intOf]; omega
                  · have hs0 : sgn s.data.toList = 0 := by
                      have h1 := sgn_le s.data.toList
                      have h2 : ¬ sgn s.data.toList = 1 := fun h => h45 (by rw [(sgn_at hlt).1 h]; rfl)
                      omega
                    have hsg : sgn s.data.toList ≤ 0 := by omega
                    clear hs0
                    by_cases hbad : 48 ≤ s[0].toNat ∧ s[0].toNat ≤ 57 ∧ 10 * n + (s[0].toNat - 48) ≤ 9223372036854775808
                    · obtain ⟨hg1, hg2, hg3⟩ := hbad
                      have HGD : Hid (10 * n + (s[0].toNat - 48) ≤ 9223372036854775808 ∧ (IntKind.i64.wrap ((IntKind.i64.wrap ((IntKind.i64.wrap (10 * -(n : Int))) - (s[0].toNat : Int))) + 48)) = -((10 * n + (s[0].toNat - 48) : Nat) : Int) ∧ Hid (sgn s.data.toList ≤ 0 + 1 ∧ 10 * n + (s[0].toNat - 48) = valD ((s.data.toList.take (0 + 1)).drop (sgn s.data.toList)) ∧ True)) := ⟨hg3, ov_three n _ hg1 hg2 hg3, step_val (.inl hsg) HI.out.2.1 hlt hsg⟩
                      have hwc : IntKind.i64.wrap (s[0].toNat : Int) = (s[0].toNat : Int) := IntWalk.i64_in _ (by omega)
                      have g1 : ¬ (s[0].toNat : Int) < 48 := by omega
                      have g2 : ¬ (57 : Int) < (s[0].toNat : Int) := by omega
                      have g3 : ¬ -(n : Int) < -922337203685477580 := by omega
                      by_cases hN : -(n : Int) = -922337203685477580
                      · have g4 : ¬ (56 : Int) < (s[0].toNat : Int) := by omega
                        go_wp2
                        refine detL_begin [.val (.pointer (some ⟨wo.heap.size, 1, none⟩)), .val (.int .i64 (-(n : Int))), .val (.int .i64 (IntKind.i64.wrap (10 * -(n : Int)))), .val (.string s), .val (.int .i64 0), .val (.int .u8 (s[0].toNat)), .val (.int .i64 (s[0].toNat)), .val (.int .i64 (IntKind.i64.wrap ((IntKind.i64.wrap (10 * -(n : Int))) - (s[0].toNat : Int)))), .val (.int .i64 (IntKind.i64.wrap ((IntKind.i64.wrap ((IntKind.i64.wrap (10 * -(n : Int))) - (s[0].toNat : Int))) + 48))), .val (.pointer (some ⟨wo.heap.size, 1, none⟩))] 10 (by kernel_rfl) ?_
                        refine detL_val (by kernel_rfl) (yields_of rfl fun w1 hb1 => ?_) ?_
                        · have hc1 := bcellD hb1
                          clear hb1
                          go_simp
                          exact Det1_same
                        simp only [Act.put, List.setIfInBounds_toArray, List.set_cons_zero, List.set_cons_succ]
                        refine detL_val (by kernel_rfl) (yields_of rfl fun w1 hb1 => ?_) ?_
                        · have hc1 := bcellD hb1
                          have qs := (HQ.out.det hb1).v.i
                          clear hb1
                          go_simp
                          exact Det1_same
                        simp only [Act.put, List.setIfInBounds_toArray, List.set_cons_zero, List.set_cons_succ]
                        refine detL_val (by kernel_rfl) (yields_of rfl fun w1 hb1 => ?_) ?_
                        · have hc1 := bcellD hb1
                          clear hb1
                          go_simp
                          exact Det1_same
                        simp only [Act.put, List.setIfInBounds_toArray, List.set_cons_zero, List.set_cons_succ]
                        refine detL_val (by kernel_rfl) (yields_of rfl fun w1 hb1 => ?_) ?_
                        · have hc1 := bcellD hb1
                          clear hb1
                          go_simp
                          exact Det1_same
                        simp only [Act.put, List.setIfInBounds_toArray, List.set_cons_zero, List.set_cons_succ]
                        refine detL_val (by kernel_rfl) (yields_of rfl fun w1 hb1 => ?_) ?_
                        · have hc1 := bcellD hb1
                          clear hb1
                          go_simp
                          exact Det1_same
                        simp only [Act.put, List.setIfInBounds_toArray, List.set_cons_zero, List.set_cons_succ]
                        refine detL_val (by kernel_rfl) (yields_of rfl fun w1 hb1 => ?_) ?_
                        · have hc1 := bcellD hb1
                          clear hb1
                          go_simp
                          exact Det1_same
                        simp only [Act.put, List.setIfInBounds_toArray, List.set_cons_zero, List.set_cons_succ]
                        refine detL_val (by kernel_rfl) (yields_of rfl fun w1 hb1 => ?_) ?_
                        · have hc1 := bcellD hb1
                          clear hb1
                          go_simp
                          exact Det1_same
                        simp only [Act.put, List.setIfInBounds_toArray, List.set_cons_zero, List.set_cons_succ]
                        refine detL_val (by kernel_rfl) (yields_of rfl fun w1 hb1 => ?_) ?_
                        · have hc1 := bcellD hb1
                          clear hb1
                          go_simp
                          exact Det1_same
                        simp only [Act.put, List.setIfInBounds_toArray, List.set_cons_zero, List.set_cons_succ]
                        refine detL_val (by kernel_rfl) (yields_of rfl fun w1 hb1 => ?_) ?_
                        · have hc1 := bcellD hb1
                          clear hb1
                          go_simp
                          exact Det1_same
                        simp only [Act.put, List.setIfInBounds_toArray, List.set_cons_zero, List.set_cons_succ]
                        refine detL_val (by kernel_rfl) (yields_of rfl fun w1 hb1 => ?_) ?_
                        · have hc1 := bcellD hb1
                          clear hb1
                          go_simp
                          exact Det1_same
                        simp only [Act.put, List.setIfInBounds_toArray, List.set_cons_zero, List.set_cons_succ]
                        refine detL_tail rfl (by kernel_rfl) fun w1 hw1 => ?_
                        have HQ1 := Lib.hid (HQ.out.det hw1.below)
                        clear qr0 qr1 qr2 qf qv0 qv1 qv2 qfv qlt qgl
                        clear hw1
                        have qr0 := HQ1.out.r.k
                        have qr1 := HQ1.out.r.i
                        have qr2 := HQ1.out.r.s
                        have qf := HQ1.out.f
                        have qv0 := HQ1.out.v.k
                        have qv1 := HQ1.out.v.i
                        have qv2 := HQ1.out.v.s
                        have qfv := HQ1.out.fv
                        have qlt := HQ1.out.lt
                        have qgl := HQ1.out.glt
                        go_wp2
                        go_roundw
                        case rel => first | exact ⟨0 + 1, 10 * n + (s[0].toNat - 48), by omega, by go_num, HGD.out.1, HQ1.out.setV (by first | exact HGD.out.2.1 | (unfold wrap64; omega)), .inl HGD.out.2.2.out.1, HGD.out.2.2.out.2⟩ | ((repeat apply Exists.intro); exact ⟨⟨0 + 1, 10 * n + (s[0].toNat - 48), by omega, by go_num, HGD.out.1, HQ1.out.setV (by first | exact HGD.out.2.1 | (unfold wrap64; omega)), .inl HGD.out.2.2.out.1, HGD.out.2.2.out.2⟩, rfl⟩)
                        case measure => simp [intOf]; omega
                      · skip
                        go_wp2
                        refine detL_begin [.val (.pointer (some ⟨wo.heap.size, 1, none⟩)), .val (.int .i64 (-(n : Int))), .val (.int .i64 (IntKind.i64.wrap (10 * -(n : Int)))), .val (.string s), .val (.int .i64 0), .val (.int .u8 (s[0].toNat)), .val (.int .i64 (s[0].toNat)), .val (.int .i64 (IntKind.i64.wrap ((IntKind.i64.wrap (10 * -(n : Int))) - (s[0].toNat : Int)))), .val (.int .i64 (IntKind.i64.wrap ((IntKind.i64.wrap ((IntKind.i64.wrap (10 * -(n : Int))) - (s[0].toNat : Int))) + 48))), .val (.pointer (some ⟨wo.heap.size, 1, none⟩))] 10 (by kernel_rfl) ?_
                        refine detL_val (by kernel_rfl) (yields_of rfl fun w1 hb1 => ?_) ?_
                        · have hc1 := bcellD hb1
                          clear hb1
                          go_simp
                          exact Det1_same
                        simp only [Act.put, List.setIfInBounds_toArray, List.set_cons_zero, List.set_cons_succ]
                        refine detL_val (by kernel_rfl) (yields_of rfl fun w1 hb1 => ?_) ?_
                        · have hc1 := bcellD hb1
                          have qs := (HQ.out.det hb1).v.i
                          clear hb1
                          go_simp
                          exact Det1_same
                        simp only [Act.put, List.setIfInBounds_toArray, List.set_cons_zero, List.set_cons_succ]
                        refine detL_val (by kernel_rfl) (yields_of rfl fun w1 hb1 => ?_) ?_
                        · have hc1 := bcellD hb1
                          clear hb1
                          go_simp
                          exact Det1_same
                        simp only [Act.put, List.setIfInBounds_toArray, List.set_cons_zero, List.set_cons_succ]
                        refine detL_val (by kernel_rfl) (yields_of rfl fun w1 hb1 => ?_) ?_
                        · have hc1 := bcellD hb1
                          clear hb1
                          go_simp
                          exact Det1_same
                        simp only [Act.put, List.setIfInBounds_toArray, List.set_cons_zero, List.set_cons_succ]
                        refine detL_val (by kernel_rfl) (yields_of rfl fun w1 hb1 => ?_) ?_
                        · have hc1 := bcellD hb1
                          clear hb1
                          go_simp
                          exact Det1_same
                        simp only [Act.put, List.setIfInBounds_toArray, List.set_cons_zero, List.set_cons_succ]
                        refine detL_val (by kernel_rfl) (yields_of rfl fun w1 hb1 => ?_) ?_
                        · have hc1 := bcellD hb1
                          clear hb1
                          go_simp
                          exact Det1_same
                        simp only [Act.put, List.setIfInBounds_toArray, List.set_cons_zero, List.set_cons_succ]
                        refine detL_val (by kernel_rfl) (yields_of rfl fun w1 hb1 => ?_) ?_
                        · have hc1 := bcellD hb1
                          clear hb1
                          go_simp
                          exact Det1_same
                        simp only [Act.put, List.setIfInBounds_toArray, List.set_cons_zero, List.set_cons_succ]
                        refine detL_val (by kernel_rfl) (yields_of rfl fun w1 hb1 => ?_) ?_
                        · have hc1 := bcellD hb1
                          clear hb1
                          go_simp
                          exact Det1_same
                        simp only [Act.put, List.setIfInBounds_toArray, List.set_cons_zero, List.set_cons_succ]
                        refine detL_val (by kernel_rfl) (yields_of rfl fun w1 hb1 => ?_) ?_
                        · have hc1 := bcellD hb1
                          clear hb1
                          go_simp
                          exact Det1_same
                        simp only [Act.put, List.setIfInBounds_toArray, List.set_cons_zero, List.set_cons_succ]
                        refine detL_val (by kernel_rfl) (yields_of rfl fun w1 hb1 => ?_) ?_
                        · have hc1 := bcellD hb1
                          clear hb1
                          go_simp
                          exact Det1_same
                        simp only [Act.put, List.setIfInBounds_toArray, List.set_cons_zero, List.set_cons_succ]
                        refine detL_tail rfl (by kernel_rfl) fun w1 hw1 => ?_
                        have HQ1 := Lib.hid (HQ.out.det hw1.below)
                        clear qr0 qr1 qr2 qf qv0 qv1 qv2 qfv qlt qgl
                        clear hw1
                        have qr0 := HQ1.out.r.k
                        have qr1 := HQ1.out.r.i
                        have qr2 := HQ1.out.r.s
                        have qf := HQ1.out.f
                        have qv0 := HQ1.out.v.k
                        have qv1 := HQ1.out.v.i
                        have qv2 := HQ1.out.v.s
                        have qfv := HQ1.out.fv
                        have qlt := HQ1.out.lt
                        have qgl := HQ1.out.glt
                        go_wp2
                        go_roundw
                        case rel => first | exact ⟨0 + 1, 10 * n + (s[0].toNat - 48), by omega, by go_num, HGD.out.1, HQ1.out.setV (by first | exact HGD.out.2.1 | (unfold wrap64; omega)), .inl HGD.out.2.2.out.1, HGD.out.2.2.out.2⟩ | ((repeat apply Exists.intro); exact ⟨⟨0 + 1, 10 * n + (s[0].toNat - 48), by omega, by go_num, HGD.out.1, HQ1.out.setV (by first | exact HGD.out.2.1 | (unfold wrap64; omega)), .inl HGD.out.2.2.out.1, HGD.out.2.2.out.2⟩, rfl⟩)
                        case measure => simp [intOf]; omega
                    · have HBAD := Lib.hid (HN4.out.bad (k := 0) (i := 0) (S := ⟨#[]⟩) (get_at' hlt) hsg (by rw [← HI.out.2.1]; exact hbad))
                      have hbad' : (s[0].toNat : Int) < 48 ∨ (57 : Int) < (s[0].toNat : Int) ∨ -(n : Int) < -922337203685477580 ∨ (-(n : Int) = -922337203685477580 ∧ (56 : Int) < (s[0].toNat : Int)) := by omega
                      clear hbad
                      by_cases b1 : (s[0].toNat : Int) < 48
                      · go_wp2
                        all_goals
                          refine bodyPost_ret (v := .tuple #[.agg #[.int .i64 0, .int .i64 0, .string ⟨#[]⟩], .bool false]) ?_ rfl ⟨Parsed.mk HBAD.out, ?_⟩
                          · (simp [results, Tryd.results9, go_sem, *]; done)
                          · have hb1 := HQ.out.below
                            repeat (first | (with_reducible exact Below.refl _ _) | ((with_reducible refine cSet3 ?_ ?_ _ _ _); (· ((try simp) <;> omega))) | (with_reducible refine Below.drew ?_) | ((with_reducible refine cAlloc ?_ ?_ _); (· ((try simp) <;> omega))) | ((with_reducible refine cOn (by assumption) ?_ ?_); (· ((try simp) <;> omega))))
                      · by_cases b2 : (57 : Int) < (s[0].toNat : Int)
                        · go_wp2
                          all_goals
                            refine bodyPost_ret (v := .tuple #[.agg #[.int .i64 0, .int .i64 0, .string ⟨#[]⟩], .bool false]) ?_ rfl ⟨Parsed.mk HBAD.out, ?_⟩
                            · (simp [results, Tryd.results9, go_sem, *]; done)
                            · have hb1 := HQ.out.below
                              repeat (first | (with_reducible exact Below.refl _ _) | ((with_reducible refine cSet3 ?_ ?_ _ _ _); (· ((try simp) <;> omega))) | (with_reducible refine Below.drew ?_) | ((with_reducible refine cAlloc ?_ ?_ _); (· ((try simp) <;> omega))) | ((with_reducible refine cOn (by assumption) ?_ ?_); (· ((try simp) <;> omega))))
                        · by_cases b3 : -(n : Int) < -922337203685477580
                          · go_wp2
                            all_goals
                              refine bodyPost_ret (v := .tuple #[.agg #[.int .i64 0, .int .i64 0, .string ⟨#[]⟩], .bool false]) ?_ rfl ⟨Parsed.mk HBAD.out, ?_⟩
                              · (simp [results, Tryd.results9, go_sem, *]; done)
                              · have hb1 := HQ.out.below
                                repeat (first | (with_reducible exact Below.refl _ _) | ((with_reducible refine cSet3 ?_ ?_ _ _ _); (· ((try simp) <;> omega))) | (with_reducible refine Below.drew ?_) | ((with_reducible refine cAlloc ?_ ?_ _); (· ((try simp) <;> omega))) | ((with_reducible refine cOn (by assumption) ?_ ?_); (· ((try simp) <;> omega))))
                          · have b4 : -(n : Int) = -922337203685477580 := by omega
                            have b5 : (56 : Int) < (s[0].toNat : Int) := by omega
                            go_wp2
                            all_goals
                              refine bodyPost_ret (v := .tuple #[.agg #[.int .i64 0, .int .i64 0, .string ⟨#[]⟩], .bool false]) ?_ rfl ⟨Parsed.mk HBAD.out, ?_⟩
                              · (simp [results, Tryd.results9, go_sem, *]; done)
                              · have hb1 := HQ.out.below
                                repeat (first | (with_reducible exact Below.refl _ _) | ((with_reducible refine cSet3 ?_ ?_ _ _ _); (· ((try simp) <;> omega))) | (with_reducible refine Below.drew ?_) | ((with_reducible refine cAlloc ?_ ?_ _); (· ((try simp) <;> omega))) | ((with_reducible refine cOn (by assumption) ?_ ?_); (· ((try simp) <;> omega))))
                · have hsg : sgn s.data.toList ≤ j := by have := HI.out.1; omega
                  have hj1 : ¬ (j : Int) = 0 := by omega
                  by_cases hbad : 48 ≤ s[j].toNat ∧ s[j].toNat ≤ 57 ∧ 10 * n + (s[j].toNat - 48) ≤ 9223372036854775808
                  · obtain ⟨hg1, hg2, hg3⟩ := hbad
                    have HGD : Hid (10 * n + (s[j].toNat - 48) ≤ 9223372036854775808 ∧ (IntKind.i64.wrap ((IntKind.i64.wrap ((IntKind.i64.wrap (10 * -(n : Int))) - (s[j].toNat : Int))) + 48)) = -((10 * n + (s[j].toNat - 48) : Nat) : Int) ∧ Hid (sgn s.data.toList ≤ j + 1 ∧ 10 * n + (s[j].toNat - 48) = valD ((s.data.toList.take (j + 1)).drop (sgn s.data.toList)) ∧ True)) := ⟨hg3, ov_three n _ hg1 hg2 hg3, step_val (.inl hsg) HI.out.2.1 hlt hsg⟩
                    have hwc : IntKind.i64.wrap (s[j].toNat : Int) = (s[j].toNat : Int) := IntWalk.i64_in _ (by omega)
                    have g1 : ¬ (s[j].toNat : Int) < 48 := by omega
                    have g2 : ¬ (57 : Int) < (s[j].toNat : Int) := by omega
                    have g3 : ¬ -(n : Int) < -922337203685477580 := by omega
                    by_cases hN : -(n : Int) = -922337203685477580
                    · have g4 : ¬ (56 : Int) < (s[j].toNat : Int) := by omega
                      go_wp2
                      refine detL_begin [.val (.pointer (some ⟨wo.heap.size, 1, none⟩)), .val (.int .i64 (-(n : Int))), .val (.int .i64 (IntKind.i64.wrap (10 * -(n : Int)))), .val (.string s), .val (.int .i64 j), .val (.int .u8 (s[j].toNat)), .val (.int .i64 (s[j].toNat)), .val (.int .i64 (IntKind.i64.wrap ((IntKind.i64.wrap (10 * -(n : Int))) - (s[j].toNat : Int)))), .val (.int .i64 (IntKind.i64.wrap ((IntKind.i64.wrap ((IntKind.i64.wrap (10 * -(n : Int))) - (s[j].toNat : Int))) + 48))), .val (.pointer (some ⟨wo.heap.size, 1, none⟩))] 10 (by kernel_rfl) ?_
                      refine detL_val (by kernel_rfl) (yields_of rfl fun w1 hb1 => ?_) ?_
                      · have hc1 := bcellD hb1
                        clear hb1
                        go_simp
                        exact Det1_same
                      simp only [Act.put, List.setIfInBounds_toArray, List.set_cons_zero, List.set_cons_succ]
                      refine detL_val (by kernel_rfl) (yields_of rfl fun w1 hb1 => ?_) ?_
                      · have hc1 := bcellD hb1
                        have qs := (HQ.out.det hb1).v.i
                        clear hb1
                        go_simp
                        exact Det1_same
                      simp only [Act.put, List.setIfInBounds_toArray, List.set_cons_zero, List.set_cons_succ]
                      refine detL_val (by kernel_rfl) (yields_of rfl fun w1 hb1 => ?_) ?_
                      · have hc1 := bcellD hb1
                        clear hb1
                        go_simp
                        exact Det1_same
                      simp only [Act.put, List.setIfInBounds_toArray, List.set_cons_zero, List.set_cons_succ]
                      refine detL_val (by kernel_rfl) (yields_of rfl fun w1 hb1 => ?_) ?_
                      · have hc1 := bcellD hb1
                        clear hb1
                        go_simp
                        exact Det1_same
                      simp only [Act.put, List.setIfInBounds_toArray, List.set_cons_zero, List.set_cons_succ]
                      refine detL_val (by kernel_rfl) (yields_of rfl fun w1 hb1 => ?_) ?_
                      · have hc1 := bcellD hb1
                        clear hb1
                        go_simp
                        exact Det1_same
                      simp only [Act.put, List.setIfInBounds_toArray, List.set_cons_zero, List.set_cons_succ]
                      refine detL_val (by kernel_rfl) (yields_of rfl fun w1 hb1 => ?_) ?_
                      · have hc1 := bcellD hb1
                        clear hb1
                        go_simp
                        exact Det1_same
                      simp only [Act.put, List.setIfInBounds_toArray, List.set_cons_zero, List.set_cons_succ]
                      refine detL_val (by kernel_rfl) (yields_of rfl fun w1 hb1 => ?_) ?_
                      · have hc1 := bcellD hb1
                        clear hb1
                        go_simp
                        exact Det1_same
                      simp only [Act.put, List.setIfInBounds_toArray, List.set_cons_zero, List.set_cons_succ]
                      refine detL_val (by kernel_rfl) (yields_of rfl fun w1 hb1 => ?_) ?_
                      · have hc1 := bcellD hb1
                        clear hb1
                        go_simp
                        exact Det1_same
                      simp only [Act.put, List.setIfInBounds_toArray, List.set_cons_zero, List.set_cons_succ]
                      refine detL_val (by kernel_rfl) (yields_of rfl fun w1 hb1 => ?_) ?_
                      · have hc1 := bcellD hb1
                        clear hb1
                        go_simp
                        exact Det1_same
                      simp only [Act.put, List.setIfInBounds_toArray, List.set_cons_zero, List.set_cons_succ]
                      refine detL_val (by kernel_rfl) (yields_of rfl fun w1 hb1 => ?_) ?_
                      · have hc1 := bcellD hb1
                        clear hb1
                        go_simp
                        exact Det1_same
                      simp only [Act.put, List.setIfInBounds_toArray, List.set_cons_zero, List.set_cons_succ]
                      refine detL_tail rfl (by kernel_rfl) fun w1 hw1 => ?_
                      have HQ1 := Lib.hid (HQ.out.det hw1.below)
                      clear qr0 qr1 qr2 qf qv0 qv1 qv2 qfv qlt qgl
                      clear hw1
                      have qr0 := HQ1.out.r.k
                      have qr1 := HQ1.out.r.i
                      have qr2 := HQ1.out.r.s
                      have qf := HQ1.out.f
                      have qv0 := HQ1.out.v.k
                      have qv1 := HQ1.out.v.i
                      have qv2 := HQ1.out.v.s
                      have qfv := HQ1.out.fv
                      have qlt := HQ1.out.lt
                      have qgl := HQ1.out.glt
                      go_wp2
                      go_roundw
                      case rel => first | exact ⟨j + 1, 10 * n + (s[j].toNat - 48), by omega, by go_num, HGD.out.1, HQ1.out.setV (by first | exact HGD.out.2.1 | (unfold wrap64; omega)), .inl HGD.out.2.2.out.1, HGD.out.2.2.out.2⟩ | ((repeat apply Exists.intro); exact ⟨⟨j + 1, 10 * n + (s[j].toNat - 48), by omega, by go_num, HGD.out.1, HQ1.out.setV (by first | exact HGD.out.2.1 | (unfold wrap64; omega)), .inl HGD.out.2.2.out.1, HGD.out.2.2.out.2⟩, rfl⟩)
                      case measure => simp [intOf]; omega
                    · skip
                      go_wp2
                      refine detL_begin [.val (.pointer (some ⟨wo.heap.size, 1, none⟩)), .val (.int .i64 (-(n : Int))), .val (.int .i64 (IntKind.i64.wrap (10 * -(n : Int)))), .val (.string s), .val (.int .i64 j), .val (.int .u8 (s[j].toNat)), .val (.int .i64 (s[j].toNat)), .val (.int .i64 (IntKind.i64.wrap ((IntKind.i64.wrap (10 * -(n : Int))) - (s[j].toNat : Int)))), .val (.int .i64 (IntKind.i64.wrap ((IntKind.i64.wrap ((IntKind.i64.wrap (10 * -(n : Int))) - (s[j].toNat : Int))) + 48))), .val (.pointer (some ⟨wo.heap.size, 1, none⟩))] 10 (by kernel_rfl) ?_
                      refine detL_val (by kernel_rfl) (yields_of rfl fun w1 hb1 => ?_) ?_
                      · have hc1 := bcellD hb1
                        clear hb1
                        go_simp
                        exact Det1_same
                      simp only [Act.put, List.setIfInBounds_toArray, List.set_cons_zero, List.set_cons_succ]
                      refine detL_val (by kernel_rfl) (yields_of rfl fun w1 hb1 => ?_) ?_
                      · have hc1 := bcellD hb1
                        have qs := (HQ.out.det hb1).v.i
                        clear hb1
                        go_simp
                        exact Det1_same
                      simp only [Act.put, List.setIfInBounds_toArray, List.set_cons_zero, List.set_cons_succ]
                      refine detL_val (by kernel_rfl) (yields_of rfl fun w1 hb1 => ?_) ?_
                      · have hc1 := bcellD hb1
                        clear hb1
                        go_simp
                        exact Det1_same
                      simp only [Act.put, List.setIfInBounds_toArray, List.set_cons_zero, List.set_cons_succ]
                      refine detL_val (by kernel_rfl) (yields_of rfl fun w1 hb1 => ?_) ?_
                      · have hc1 := bcellD hb1
                        clear hb1
                        go_simp
                        exact Det1_same
                      simp only [Act.put, List.setIfInBounds_toArray, List.set_cons_zero, List.set_cons_succ]
                      refine detL_val (by kernel_rfl) (yields_of rfl fun w1 hb1 => ?_) ?_
                      · have hc1 := bcellD hb1
                        clear hb1
                        go_simp
                        exact Det1_same
                      simp only [Act.put, List.setIfInBounds_toArray, List.set_cons_zero, List.set_cons_succ]
                      refine detL_val (by kernel_rfl) (yields_of rfl fun w1 hb1 => ?_) ?_
                      · have hc1 := bcellD hb1
                        clear hb1
                        go_simp
                        exact Det1_same
                      simp only [Act.put, List.setIfInBounds_toArray, List.set_cons_zero, List.set_cons_succ]
                      refine detL_val (by kernel_rfl) (yields_of rfl fun w1 hb1 => ?_) ?_
                      · have hc1 := bcellD hb1
                        clear hb1
                        go_simp
                        exact Det1_same
                      simp only [Act.put, List.setIfInBounds_toArray, List.set_cons_zero, List.set_cons_succ]
                      refine detL_val (by kernel_rfl) (yields_of rfl fun w1 hb1 => ?_) ?_
                      · have hc1 := bcellD hb1
                        clear hb1
                        go_simp
                        exact Det1_same
                      simp only [Act.put, List.setIfInBounds_toArray, List.set_cons_zero, List.set_cons_succ]
                      refine detL_val (by kernel_rfl) (yields_of rfl fun w1 hb1 => ?_) ?_
                      · have hc1 := bcellD hb1
                        clear hb1
                        go_simp
                        exact Det1_same
                      simp only [Act.put, List.setIfInBounds_toArray, List.set_cons_zero, List.set_cons_succ]
                      refine detL_val (by kernel_rfl) (yields_of rfl fun w1 hb1 => ?_) ?_
                      · have hc1 := bcellD hb1
                        clear hb1
                        go_simp
                        exact Det1_same
                      simp only [Act.put, List.setIfInBounds_toArray, List.set_cons_zero, List.set_cons_succ]
                      refine detL_tail rfl (by kernel_rfl) fun w1 hw1 => ?_
                      have HQ1 := Lib.hid (HQ.out.det hw1.below)
                      clear qr0 qr1 qr2 qf qv0 qv1 qv2 qfv qlt qgl
                      clear hw1
                      have qr0 := HQ1.out.r.k
                      have qr1 := HQ1.out.r.i
                      have qr2 := HQ1.out.r.s
                      have qf := HQ1.out.f
                      have qv0 := HQ1.out.v.k
                      have qv1 := HQ1.out.v.i
                      have qv2 := HQ1.out.v.s
                      have qfv := HQ1.out.fv
                      have qlt := HQ1.out.lt
                      have qgl := HQ1.out.glt
                      go_wp2
                      go_roundw
                      case rel => first | exact ⟨j + 1, 10 * n + (s[j].toNat - 48), by omega, by go_num, HGD.out.1, HQ1.out.setV (by first | exact HGD.out.2.1 | (unfold wrap64; omega)), .inl HGD.out.2.2.out.1, HGD.out.2.2.out.2⟩ | ((repeat apply Exists.intro); exact ⟨⟨j + 1, 10 * n + (s[j].toNat - 48), by omega, by go_num, HGD.out.1, HQ1.out.setV (by first | exact HGD.out.2.1 | (unfold wrap64; omega)), .inl HGD.out.2.2.out.1, HGD.out.2.2.out.2⟩, rfl⟩)
                      case measure => simp [intOf]; omega
                  · have HBAD := Lib.hid (HN4.out.bad (k := 0) (i := 0) (S := ⟨#[]⟩) (get_at' hlt) hsg (by rw [← HI.out.2.1]; exact hbad))
                    have hbad' : (s[j].toNat : Int) < 48 ∨ (57 : Int) < (s[j].toNat : Int) ∨ -(n : Int) < -922337203685477580 ∨ (-(n : Int) = -922337203685477580 ∧ (56 : Int) < (s[j].toNat : Int)) := by omega
                    clear hbad
                    by_cases b1 : (s[j].toNat : Int) < 48
                    · go_wp2
                      all_goals
                        refine bodyPost_ret (v := .tuple #[.agg #[.int .i64 0, .int .i64 0, .string ⟨#[]⟩], .bool false]) ?_ rfl ⟨Parsed.mk HBAD.out, ?_⟩
                        · (simp [results, Tryd.results9, go_sem, *]; done)
                        · have hb1 := HQ.out.below
                          repeat (first | (with_reducible exact Below.refl _ _) | ((with_reducible refine cSet3 ?_ ?_ _ _ _); (· ((try simp) <;> omega))) | (with_reducible refine Below.drew ?_) | ((with_reducible refine cAlloc ?_ ?_ _); (· ((try simp) <;> omega))) | ((with_reducible refine cOn (by assumption) ?_ ?_); (· ((try simp) <;> omega))))
                    · by_cases b2 : (57 : Int) < (s[j].toNat : Int)
                      · go_wp2
                        all_goals
                          refine bodyPost_ret (v := .tuple #[.agg #[.int .i64 0, .int .i64 0, .string ⟨#[]⟩], .bool false]) ?_ rfl ⟨Parsed.mk HBAD.out, ?_⟩
                          · (simp [results, Tryd.results9, go_sem, *]; done)
                          · have hb1 := HQ.out.below
                            repeat (first | (with_reducible exact Below.refl _ _) | ((with_reducible refine cSet3 ?_ ?_ _ _ _); (· ((try simp) <;> omega))) | (with_reducible refine Below.drew ?_) | ((with_reducible refine cAlloc ?_ ?_ _); (· ((try simp) <;> omega))) | ((with_reducible refine cOn (by assumption) ?_ ?_); (· ((try simp) <;> omega))))
                      · by_cases b3 : -(n : Int) < -922337203685477580
                        · go_wp2
                          all_goals
                            refine bodyPost_ret (v := .tuple #[.agg #[.int .i64 0, .int .i64 0, .string ⟨#[]⟩], .bool false]) ?_ rfl ⟨Parsed.mk HBAD.out, ?_⟩
                            · (simp [results, Tryd.results9, go_sem, *]; done)
                            · have hb1 := HQ.out.below
                              repeat (first | (with_reducible exact Below.refl _ _) | ((with_reducible refine cSet3 ?_ ?_ _ _ _); (· ((try simp) <;> omega))) | (with_reducible refine Below.drew ?_) | ((with_reducible refine cAlloc ?_ ?_ _); (· ((try simp) <;> omega))) | ((with_reducible refine cOn (by assumption) ?_ ?_); (· ((try simp) <;> omega))))
                        · have b4 : -(n : Int) = -922337203685477580 := by omega
                          have b5 : (56 : Int) < (s[j].toNat : Int) := by omega
                          go_wp2
                          all_goals
                            refine bodyPost_ret (v := .tuple #[.agg #[.int .i64 0, .int .i64 0, .string ⟨#[]⟩], .bool false]) ?_ rfl ⟨Parsed.mk HBAD.out, ?_⟩
                            · (simp [results, Tryd.results9, go_sem, *]; done)
                            · have hb1 := HQ.out.below
                              repeat (first | (with_reducible exact Below.refl _ _) | ((with_reducible refine cSet3 ?_ ?_ _ _ _); (· ((try simp) <;> omega))) | (with_reducible refine Below.drew ?_) | ((with_reducible refine cAlloc ?_ ?_ _); (· ((try simp) <;> omega))) | ((with_reducible refine cOn (by assumption) ?_ ?_); (· ((try simp) <;> omega))))
              · have HD := Lib.hid (show n = valD (s.data.toList.drop (sgn s.data.toList)) by
                  have h := HI.out.2.1
                  rwa [List.take_of_length_le (by rw [← Lib.size_eq]; omega)] at h)
                have hjs : ¬ (j : Int) < (s.size : Int) := by omega
                have qr0 := HQ.out.r.k
                have qr1 := HQ.out.r.i
                have qr2 := HQ.out.r.s
                have qf := HQ.out.f
                have qv0 := HQ.out.v.k
                have qv1 := HQ.out.v.i
                have qv2 := HQ.out.v.s
                have qfv := HQ.out.fv
                have qlt := HQ.out.lt
                have qgl := HQ.out.glt
                by_cases hs1 : sgn s.data.toList = 1
                · have h0 : 0 < s.size := by
                    cases hz : s.size with
                    | zero => rw [show s.data.toList = [] by (have h := Lib.size_eq s; rw [hz] at h; exact List.length_eq_zero_iff.1 h.symm)] at hs1; cases hs1
                    | succ _ => omega
                  have h45 : (s[0].toNat : Int) = 45 := by rw [(sgn_at h0).1 hs1]; rfl
                  have hE : s.toList.isEmpty = false := nonempty_of h0
                  have hE' : ¬ s.toList = [] := fun h => by rw [h] at hE; cases hE
                  have HV := Lib.hid (show -(n : Int) = if sgn s.data.toList = 1 then -(valD (s.data.toList.drop (sgn s.data.toList)) : Int) else (valD (s.data.toList.drop (sgn s.data.toList)) : Int) by rw [if_pos hs1, HD.out])
                  have h64 : In64 (-(n : Int)) := by unfold In64; omega
                  clear hs1
                  obtain ⟨t, ht⟩ : ∃ t : ByteArray, t = ⟨(txtO 1 (-(n : Int)) ⟨#[]⟩).toArray⟩ := ⟨_, rfl⟩
                  have HRP := Lib.hid (HN4.out.fin (v := (-(n : Int))) HV.out h64 (b := (t.toList == s.toList)) (by rw [beq_iff_eq, toList_data, toList_data, ht, txt_num]))
                  have HT := Lib.hid (fun (W : World) => ht ▸ rtext_any 1 (-(n : Int)) ⟨#[]⟩ W h64 (by unfold maxLen; simp [ByteArray.size]))
                  clear ht
                  go_upto_region 28 with fail
                  refine wp_gen (VQ w wo.heap.size 1 (-(n : Int)) ⟨#[]⟩) HQ.out fun W4 hW4 => ?_
                  have HQ4 := Lib.hid hW4
                  clear hW4
                  clear qr0 qr1 qr2 qf qv0 qv1 qv2 qfv qlt qgl
                  have qr0 := HQ4.out.r.k
                  have qr1 := HQ4.out.r.i
                  have qr2 := HQ4.out.r.s
                  have qf := HQ4.out.f
                  have qv0 := HQ4.out.v.k
                  have qv1 := HQ4.out.v.i
                  have qv2 := HQ4.out.v.s
                  have qfv := HQ4.out.fv
                  have qlt := HQ4.out.lt
                  have qgl := HQ4.out.glt
                  go_region_with (go_at_call 10; refine (HT.out _).mono ?_; rintro e w1 ⟨rfl, hb1⟩; have HQ1 := Lib.hid (HQ4.out.det hb1); clear hb1; have pr0 := HQ1.out.r.k; have pr1 := HQ1.out.r.i; have pr2 := HQ1.out.r.s; have pf := HQ1.out.f; have pv0 := HQ1.out.v.k; have pv1 := HQ1.out.v.i; have pv2 := HQ1.out.v.s; have pfv := HQ1.out.fv; have plt := HQ1.out.lt; have pgl := HQ1.out.glt)
                  all_goals
                    go_wp2
                    refine bodyPost_ret (v := .tuple #[.agg #[.int .i64 1, .int .i64 (-(n : Int)), .string ⟨#[]⟩], .bool (t.toList == s.toList)]) ?_ rfl ⟨Parsed.mk HRP.out, ?_⟩
                    · (simp [results, Tryd.results9, go_sem, *]; done)
                    · have hb1 := HQ1.out.below
                      repeat (first | (with_reducible exact Below.refl _ _) | ((with_reducible refine cSet3 ?_ ?_ _ _ _); (· ((try simp) <;> omega))) | (with_reducible refine Below.drew ?_) | ((with_reducible refine cAlloc ?_ ?_ _); (· ((try simp) <;> omega))) | ((with_reducible refine cOn (by assumption) ?_ ?_); (· ((try simp) <;> omega))))
                · have HV := Lib.hid (show (n : Int) = if sgn s.data.toList = 1 then -(valD (s.data.toList.drop (sgn s.data.toList)) : Int) else (valD (s.data.toList.drop (sgn s.data.toList)) : Int) by rw [if_neg hs1, HD.out])
                  have HS0 := Lib.hid (show sgn s.data.toList = 0 by have := sgn_le s.data.toList; omega)
                  by_cases hbig : n = 9223372036854775808
                  · have HBAD := Lib.hid (HN4.out.big (k := 0) (i := 0) (S := ⟨#[]⟩) HS0.out (HD.out.symm.trans hbig))
                    have hm : -(n : Int) = -9223372036854775808 := by omega
                    clear hbig
                    by_cases h0 : 0 < s.size
                    · have h45 : ¬ (s[0].toNat : Int) = 45 := fun h => hs1 ((sgn_at h0).2 (UInt8.toNat_inj.1 (by show s[0].toNat = 45; omega)))
                      have hE : s.toList.isEmpty = false := nonempty_of h0
                      have hE' : ¬ s.toList = [] := fun h => by rw [h] at hE; cases hE
                      clear hs1
                      go_wp2
                      all_goals
                        refine bodyPost_ret (v := .tuple #[.agg #[.int .i64 0, .int .i64 0, .string ⟨#[]⟩], .bool false]) ?_ rfl ⟨Parsed.mk HBAD.out, ?_⟩
                        · (simp [results, Tryd.results9, go_sem, *]; done)
                        · have hb1 := HQ.out.below
                          repeat (first | (with_reducible exact Below.refl _ _) | ((with_reducible refine cSet3 ?_ ?_ _ _ _); (· ((try simp) <;> omega))) | (with_reducible refine Below.drew ?_) | ((with_reducible refine cAlloc ?_ ?_ _); (· ((try simp) <;> omega))) | ((with_reducible refine cOn (by assumption) ?_ ?_); (· ((try simp) <;> omega))))
                    · have hE' : s.toList = [] := by rw [toList_data]; exact List.length_eq_zero_iff.1 (by rw [← Lib.size_eq]; omega)
                      have hE : s.toList.isEmpty = true := by rw [hE']; rfl
                      clear hs1
                      go_wp2
                      all_goals
                        refine bodyPost_ret (v := .tuple #[.agg #[.int .i64 0, .int .i64 0, .string ⟨#[]⟩], .bool false]) ?_ rfl ⟨Parsed.mk HBAD.out, ?_⟩
                        · (simp [results, Tryd.results9, go_sem, *]; done)
                        · have hb1 := HQ.out.below
                          repeat (first | (with_reducible exact Below.refl _ _) | ((with_reducible refine cSet3 ?_ ?_ _ _ _); (· ((try simp) <;> omega))) | (with_reducible refine Below.drew ?_) | ((with_reducible refine cAlloc ?_ ?_ _); (· ((try simp) <;> omega))) | ((with_reducible refine cOn (by assumption) ?_ ?_); (· ((try simp) <;> omega))))
                  · have hm : ¬ -(n : Int) = -9223372036854775808 := by omega
                    have h64 : In64 (n : Int) := by unfold In64; omega
                    have hw1 : IntKind.i64.wrap (- -(n : Int)) = (n : Int) := by rw [Int.neg_neg]; exact IntWalk.i64_in _ (by omega)
                    have hw2 : IntKind.i64.wrap (n : Int) = (n : Int) := IntWalk.i64_in _ (by omega)
                    clear hbig
                    by_cases h0 : 0 < s.size
                    · have h45 : ¬ (s[0].toNat : Int) = 45 := fun h => hs1 ((sgn_at h0).2 (UInt8.toNat_inj.1 (by show s[0].toNat = 45; omega)))
                      have hE : s.toList.isEmpty = false := nonempty_of h0
                      have hE' : ¬ s.toList = [] := fun h => by rw [h] at hE; cases hE
                      clear hs1
                      obtain ⟨t, ht⟩ : ∃ t : ByteArray, t = ⟨(txtO 1 (n : Int) ⟨#[]⟩).toArray⟩ := ⟨_, rfl⟩
                      have HRP := Lib.hid (HN4.out.fin (v := (n : Int)) HV.out h64 (b := (t.toList == s.toList)) (by rw [beq_iff_eq, toList_data, toList_data, ht, txt_num]))
                      have HT := Lib.hid (fun (W : World) => ht ▸ rtext_any 1 (n : Int) ⟨#[]⟩ W h64 (by unfold maxLen; simp [ByteArray.size]))
                      clear ht
                      go_upto_region 28 with fail
                      refine wp_gen (VQ w wo.heap.size 1 (n : Int) ⟨#[]⟩) (HQ.out.setI _) fun W4 hW4 => ?_
                      have HQ4 := Lib.hid hW4
                      clear hW4
                      clear qr0 qr1 qr2 qf qv0 qv1 qv2 qfv qlt qgl
                      have qr0 := HQ4.out.r.k
                      have qr1 := HQ4.out.r.i
                      have qr2 := HQ4.out.r.s
                      have qf := HQ4.out.f
                      have qv0 := HQ4.out.v.k
                      have qv1 := HQ4.out.v.i
                      have qv2 := HQ4.out.v.s
                      have qfv := HQ4.out.fv
                      have qlt := HQ4.out.lt
                      have qgl := HQ4.out.glt
                      go_region_with (go_at_call 10; refine (HT.out _).mono ?_; rintro e w1 ⟨rfl, hb1⟩; have HQ1 := Lib.hid (HQ4.out.det hb1); clear hb1; have pr0 := HQ1.out.r.k; have pr1 := HQ1.out.r.i; have pr2 := HQ1.out.r.s; have pf := HQ1.out.f; have pv0 := HQ1.out.v.k; have pv1 := HQ1.out.v.i; have pv2 := HQ1.out.v.s; have pfv := HQ1.out.fv; have plt := HQ1.out.lt; have pgl := HQ1.out.glt)
                      all_goals
                        go_wp2
                        refine bodyPost_ret (v := .tuple #[.agg #[.int .i64 1, .int .i64 (n : Int), .string ⟨#[]⟩], .bool (t.toList == s.toList)]) ?_ rfl ⟨Parsed.mk HRP.out, ?_⟩
                        · (simp [results, Tryd.results9, go_sem, *]; done)
                        · have hb1 := HQ1.out.below
                          repeat (first | (with_reducible exact Below.refl _ _) | ((with_reducible refine cSet3 ?_ ?_ _ _ _); (· ((try simp) <;> omega))) | (with_reducible refine Below.drew ?_) | ((with_reducible refine cAlloc ?_ ?_ _); (· ((try simp) <;> omega))) | ((with_reducible refine cOn (by assumption) ?_ ?_); (· ((try simp) <;> omega))))
                    · have hE' : s.toList = [] := by rw [toList_data]; exact List.length_eq_zero_iff.1 (by rw [← Lib.size_eq]; omega)
                      have hE : s.toList.isEmpty = true := by rw [hE']; rfl
                      clear hs1
                      obtain ⟨t, ht⟩ : ∃ t : ByteArray, t = ⟨(txtO 1 (n : Int) ⟨#[]⟩).toArray⟩ := ⟨_, rfl⟩
                      have HRP := Lib.hid (HN4.out.fin (v := (n : Int)) HV.out h64 (b := (t.toList == s.toList)) (by rw [beq_iff_eq, toList_data, toList_data, ht, txt_num]))
                      have HT := Lib.hid (fun (W : World) => ht ▸ rtext_any 1 (n : Int) ⟨#[]⟩ W h64 (by unfold maxLen; simp [ByteArray.size]))
                      clear ht
                      go_upto_region 28 with fail
                      refine wp_gen (VQ w wo.heap.size 1 (n : Int) ⟨#[]⟩) (HQ.out.setI _) fun W4 hW4 => ?_
                      have HQ4 := Lib.hid hW4
                      clear hW4
                      clear qr0 qr1 qr2 qf qv0 qv1 qv2 qfv qlt qgl
                      have qr0 := HQ4.out.r.k
                      have qr1 := HQ4.out.r.i
                      have qr2 := HQ4.out.r.s
                      have qf := HQ4.out.f
                      have qv0 := HQ4.out.v.k
                      have qv1 := HQ4.out.v.i
                      have qv2 := HQ4.out.v.s
                      have qfv := HQ4.out.fv
                      have qlt := HQ4.out.lt
                      have qgl := HQ4.out.glt
                      go_region_with (go_at_call 10; refine (HT.out _).mono ?_; rintro e w1 ⟨rfl, hb1⟩; have HQ1 := Lib.hid (HQ4.out.det hb1); clear hb1; have pr0 := HQ1.out.r.k; have pr1 := HQ1.out.r.i; have pr2 := HQ1.out.r.s; have pf := HQ1.out.f; have pv0 := HQ1.out.v.k; have pv1 := HQ1.out.v.i; have pv2 := HQ1.out.v.s; have pfv := HQ1.out.fv; have plt := HQ1.out.lt; have pgl := HQ1.out.glt)
                      all_goals
                        go_wp2
                        refine bodyPost_ret (v := .tuple #[.agg #[.int .i64 1, .int .i64 (n : Int), .string ⟨#[]⟩], .bool (t.toList == s.toList)]) ?_ rfl ⟨Parsed.mk HRP.out, ?_⟩
                        · (simp [results, Tryd.results9, go_sem, *]; done)
                        · have hb1 := HQ1.out.below
                          repeat (first | (with_reducible exact Below.refl _ _) | ((with_reducible refine cSet3 ?_ ?_ _ _ _); (· ((try simp) <;> omega))) | (with_reducible refine Below.drew ?_) | ((with_reducible refine cAlloc ?_ ?_ _); (· ((try simp) <;> omega))) | ((with_reducible refine cOn (by assumption) ?_ ?_); (· ((try simp) <;> omega))))

end Go.Proofs.YtnahejljelbbgaaDoor
