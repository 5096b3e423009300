import Derived.Test.YtnahejljelbbgaaCp
import Derived.Test.YtnahejljelbbgaaVu
/- Octets keep the order: plain facts, no walk. -/
namespace Go.Proofs.Ytnahejljelbbgaa
open Go.RowKit Go.Lib

theorem cmp_cons (a b : UInt8) (l m : List UInt8) : Lib.compareBytes (a :: l) (b :: m) = if a.toNat < b.toNat then -1 else if b.toNat < a.toNat then 1 else Lib.compareBytes l m := by
  simp only [Lib.compareBytes, UInt8.lt_iff_toNat_lt]
theorem cmp_same (l r r' : List UInt8) : Lib.compareBytes (l ++ r) (l ++ r') = Lib.compareBytes r r' := by
  induction l with
  | nil => rfl
  | cons c l ih => rw [List.cons_append, List.cons_append, cmp_cons, if_neg (Nat.lt_irrefl _), if_neg (Nat.lt_irrefl _), ih]

/-- What octets say as the digits of a number. -/
def valB (l : List UInt8) : Nat := l.foldl (fun a c => 256 * a + c.toNat) 0
theorem valB_go : ∀ (l : List UInt8) (a : Nat), l.foldl (fun a c => 256 * a + c.toNat) a = a * 256 ^ l.length + valB l
  | [], a => by simp [valB]
  | c :: l, a => by
    have e : valB (c :: l) = c.toNat * 256 ^ l.length + valB l := by
      show List.foldl _ _ l = _
      rw [valB_go l]
      simp
    rw [List.foldl_cons, valB_go l, e, List.length_cons, Nat.pow_succ, Nat.add_mul, Nat.add_assoc]
    congr 1
    rw [Nat.mul_comm 256 a, Nat.mul_assoc, Nat.mul_comm 256]
theorem valB_cons (c : UInt8) (l : List UInt8) : valB (c :: l) = c.toNat * 256 ^ l.length + valB l := by
  show List.foldl _ _ l = _
  rw [valB_go l]
  simp
theorem valB_lt : ∀ l : List UInt8, valB l < 256 ^ l.length
  | [] => by simp [valB]
  | c :: l => by
    have ih := valB_lt l
    have hc : c.toNat ≤ 255 := by have := c.toNat_lt; omega
    rw [valB_cons, List.length_cons, Nat.pow_succ]
    have := Nat.mul_le_mul_right (256 ^ l.length) hc
    omega
theorem cmp_digits : ∀ (l m r r' : List UInt8), l.length = m.length → Lib.compareBytes (l ++ r) (m ++ r') = if valB l = valB m then Lib.compareBytes r r' else if valB l < valB m then -1 else 1
  | [], [], r, r', _ => by simp
  | [], _ :: _, _, _, h => by simp at h
  | _ :: _, [], _, _, h => by simp at h
  | c :: l, d :: m, r, r', h => by
    have hl : l.length = m.length := by simpa using h
    have ih := cmp_digits l m r r' hl
    have h1 := valB_lt l
    have h2 := valB_lt m
    rw [List.cons_append, List.cons_append, cmp_cons, valB_cons, valB_cons, hl]
    rw [hl] at h1
    obtain ⟨p, hp⟩ : ∃ p, p = 256 ^ m.length := ⟨_, rfl⟩
    rw [← hp] at h1 h2 ⊢
    by_cases q1 : c.toNat < d.toNat
    · have := Nat.mul_le_mul_right p (show c.toNat + 1 ≤ d.toNat by omega)
      rw [Nat.add_mul] at this
      rw [if_pos q1, if_neg (by omega), if_pos (by omega)]
    · by_cases q2 : d.toNat < c.toNat
      · have := Nat.mul_le_mul_right p (show d.toNat + 1 ≤ c.toNat by omega)
        rw [Nat.add_mul] at this
        rw [if_neg q1, if_pos q2, if_neg (by omega), if_neg (by omega)]
      · have q3 : c.toNat = d.toNat := by omega
        rw [if_neg q1, if_neg q2, ih, q3]
        by_cases q4 : valB l = valB m
        · rw [if_pos q4, q4, if_pos rfl]
        · rw [if_neg q4, if_neg (show ¬ d.toNat * p + valB l = d.toNat * p + valB m by omega)]
          by_cases q5 : valB l < valB m
          · rw [if_pos q5, if_pos (show d.toNat * p + valB l < d.toNat * p + valB m by omega)]
          · rw [if_neg q5, if_neg (show ¬ d.toNat * p + valB l < d.toNat * p + valB m by omega)]
theorem be8_val {u : Int} (h0 : 0 ≤ u) (h1 : u < 18446744073709551616) : (valB (be8 u) : Int) = u := by
  have e : valB (be8 u) = 256 * (256 * (256 * (256 * (256 * (256 * (256 * (octD u 72057594037927936).toNat + (octD u 281474976710656).toNat) + (octD u 1099511627776).toNat) + (octD u 4294967296).toNat) + (octD u 16777216).toNat) + (octD u 65536).toNat) + (octD u 256).toNat) + (octD u 1).toNat := by
    simp [valB, be8]
  have d7 := octD_val u 72057594037927936
  have d6 := octD_val u 281474976710656
  have d5 := octD_val u 1099511627776
  have d4 := octD_val u 4294967296
  have d3 := octD_val u 16777216
  have d2 := octD_val u 65536
  have d1 := octD_val u 256
  have d0 := octD_val u 1
  rw [e]
  omega
theorem cmp_be8 {u v : Int} (h0 : 0 ≤ u) (h1 : u < 18446744073709551616) (k0 : 0 ≤ v) (k1 : v < 18446744073709551616) (r r' : List UInt8) :
    Lib.compareBytes (be8 u ++ r) (be8 v ++ r') = if u = v then Lib.compareBytes r r' else if u < v then -1 else 1 := by
  have e1 := be8_val h0 h1
  have e2 := be8_val k0 k1
  rw [cmp_digits _ _ _ _ (by simp [be8])]
  by_cases q : u = v
  · rw [if_pos q, if_pos (by omega)]
  · rw [if_neg q, if_neg (by omega)]
    by_cases q2 : u < v
    · rw [if_pos q2, if_pos (by omega)]
    · rw [if_neg q2, if_neg (by omega)]
theorem cmp_text : ∀ (t t' r r' : List UInt8), (∀ c ∈ t, okO c = true) → (∀ c ∈ t', okO c = true) → Lib.compareBytes (t ++ 0 :: r) (t' ++ 0 :: r') = if t = t' then Lib.compareBytes r r' else Lib.compareBytes t t'
  | [], [], r, r', _, _ => by simp [cmp_cons]
  | [], d :: t', r, r', _, h' => by
    have hd : 32 ≤ d.toNat := by have := h' d List.mem_cons_self; unfold okO at this; simp at this; exact this.1
    rw [List.nil_append, List.cons_append, cmp_cons, if_pos (by show 0 < d.toNat; omega), if_neg (by simp)]
    rfl
  | c :: t, [], r, r', h, _ => by
    have hc : 32 ≤ c.toNat := by have := h c List.mem_cons_self; unfold okO at this; simp at this; exact this.1
    rw [List.nil_append, List.cons_append, cmp_cons, if_neg (by show ¬ c.toNat < 0; omega), if_pos (by show 0 < c.toNat; omega), if_neg (by simp)]
    rfl
  | c :: t, d :: t', r, r', h, h' => by
    have ih := cmp_text t t' r r' (fun x hx => h x (List.mem_cons_of_mem _ hx)) (fun x hx => h' x (List.mem_cons_of_mem _ hx))
    rw [List.cons_append, List.cons_append, cmp_cons, cmp_cons, ih]
    by_cases q1 : c.toNat < d.toNat
    · rw [if_pos q1, if_pos q1, if_neg (fun e => by rw [(List.cons.inj e).1] at q1; omega)]
    · by_cases q2 : d.toNat < c.toNat
      · rw [if_neg q1, if_pos q2, if_neg q1, if_pos q2, if_neg (fun e => by rw [(List.cons.inj e).1] at q2; omega)]
      · obtain rfl : c = d := UInt8.toNat_inj.1 (by omega)
        rw [if_neg q1, if_neg q2, if_neg q1, if_neg q2]
        simp

theorem ordV_may {x y : Vl} (hx : x.may = true) (hy : y.may = true) : ordV x y = or3 (Lib.compareInt x.k y.k) (Lib.compareInt x.i y.i) (Lib.compareBytes x.s.data.toList y.s.data.toList) := by
  unfold Vl.may at hx hy
  unfold ordV ordN ordH hK hI hS
  rw [if_pos hx, if_pos hy, if_pos hx, if_pos hy, if_pos hx, if_pos hy]
theorem ordV_zero {x y : Vl} (hx : x.may = true) (hy : y.may = true) : ordV x y = 0 ↔ x = y := by
  unfold ordV
  rw [ord_zero _ _ _ _ _ _ hx hy]
  constructor
  · rintro ⟨h1, h2, h3⟩; cases x; cases y; simp only at h1 h2 h3; subst h1 h2 h3; rfl
  · rintro rfl; exact ⟨rfl, rfl, rfl⟩
/-- Octets of values that may be, whatever stands behind them. -/
theorem cmp_oct {x y : Vl} {r r' : List UInt8} (hx : x.may = true) (hy : y.may = true) (hix : In64 x.i) (hiy : In64 y.i) (hxy : x ≠ y) : Lib.compareBytes (x.oct ++ r) (y.oct ++ r') = ordV x y := by
  rw [ordV_may hx hy]
  unfold In64 at hix hiy
  cases kind4 x hx with
  | null ex ox =>
    cases kind4 y hy with
    | null ey oy => exact absurd (ex.trans ey.symm) hxy
    | num i ey oy => rw [ox, oy, List.cons_append, List.cons_append, cmp_cons]; subst ex ey; simp [or3, Lib.compareInt]
    | text t ey oy hc => rw [ox, oy, List.cons_append, List.cons_append, cmp_cons]; subst ex ey; simp [or3, Lib.compareInt]
    | truth i ey oy hi => rw [ox, oy, List.cons_append, List.cons_append, cmp_cons]; subst ex ey; simp [or3, Lib.compareInt]
  | num i ex ox =>
    cases kind4 y hy with
    | null ey oy => rw [ox, oy, List.cons_append, List.cons_append, cmp_cons]; subst ex ey; simp [or3, Lib.compareInt]
    | num j ey oy =>
      rw [ox, oy, List.cons_append, List.cons_append, cmp_cons, if_neg (Nat.lt_irrefl _), if_neg (Nat.lt_irrefl _)]
      subst ex ey
      simp only at hix hiy
      have hij : i ≠ j := fun e => hxy (by rw [e])
      rw [cmp_be8 (by omega) (by omega) (by omega) (by omega), if_neg (by omega)]
      simp only [or3, Lib.compareInt]
      by_cases q : i < j
      · rw [if_pos (by omega)]; simp [q]
      · rw [if_neg (by omega)]
        have q2 : j < i := by omega
        simp [q, q2]
    | text t ey oy hc => rw [ox, oy, List.cons_append, List.cons_append, cmp_cons]; subst ex ey; simp [or3, Lib.compareInt]
    | truth i ey oy hi => rw [ox, oy, List.cons_append, List.cons_append, cmp_cons]; subst ex ey; simp [or3, Lib.compareInt]
  | text t ex ox hc =>
    cases kind4 y hy with
    | null ey oy => rw [ox, oy, List.cons_append, List.cons_append, cmp_cons]; subst ex ey; simp [or3, Lib.compareInt]
    | num i ey oy => rw [ox, oy, List.cons_append, List.cons_append, cmp_cons]; subst ex ey; simp [or3, Lib.compareInt]
    | text t' ey oy hc' =>
      rw [ox, oy, List.cons_append, List.cons_append, cmp_cons, if_neg (Nat.lt_irrefl _), if_neg (Nat.lt_irrefl _), List.append_assoc, List.append_assoc, List.singleton_append, List.singleton_append, cmp_text _ _ _ _ hc hc']
      subst ex ey
      rw [if_neg (fun e => hxy (by rw [ByteArray.ext (Array.toList_inj.1 e)]))]
      simp [or3, Lib.compareInt]
    | truth i ey oy hi => rw [ox, oy, List.cons_append, List.cons_append, cmp_cons]; subst ex ey; simp [or3, Lib.compareInt]
  | truth i ex ox hi =>
    cases kind4 y hy with
    | null ey oy => rw [ox, oy]; subst ex ey; simp [cmp_cons, or3, Lib.compareInt]
    | num i ey oy => rw [ox, oy]; subst ex ey; simp [cmp_cons, or3, Lib.compareInt]
    | text t ey oy hc => rw [ox, oy]; subst ex ey; simp [cmp_cons, or3, Lib.compareInt]
    | truth j ey oy hj =>
      rw [ox, oy]
      subst ex ey
      rcases hi with rfl | rfl <;> rcases hj with rfl | rfl
      · exact absurd rfl hxy
      · simp [cmp_cons, or3, Lib.compareInt]
      · simp [cmp_cons, or3, Lib.compareInt]
      · exact absurd rfl hxy
theorem cmp_val {x y : Vl} (hx : x.may = true) (hy : y.may = true) (hix : In64 x.i) (hiy : In64 y.i) : Lib.compareBytes x.oct y.oct = ordV x y := by
  by_cases q : x = y
  · rw [(ordV_zero hx hy).2 q, q]; exact (cmpBytes_zero _ _).2 rfl
  · have h := cmp_oct (r := []) (r' := []) hx hy hix hiy q
    rwa [List.append_nil, List.append_nil] at h
theorem cmp_rows : ∀ (l m : List Vl), l.length = m.length → (∀ x ∈ l, x.may = true) → (∀ x ∈ m, x.may = true) → I64 l → I64 m → Lib.compareBytes (rowO l) (rowO m) = ordL l m
  | [], [], _, _, _, _, _ => rfl
  | [], _ :: _, h, _, _, _, _ => by simp at h
  | _ :: _, [], h, _, _, _, _ => by simp at h
  | x :: l, y :: m, h, h1, h2, i1, i2 => by
    have hx := h1 x List.mem_cons_self
    have hy := h2 y List.mem_cons_self
    have ih := cmp_rows l m (by simpa using h) (fun z hz => h1 z (List.mem_cons_of_mem _ hz)) (fun z hz => h2 z (List.mem_cons_of_mem _ hz)) (fun z hz => i1 z (List.mem_cons_of_mem _ hz)) (fun z hz => i2 z (List.mem_cons_of_mem _ hz))
    have e : ∀ (z : Vl) (k : List Vl), rowO (z :: k) = z.oct ++ rowO k := fun z k => by simp [rowO]
    rw [e, e, ordL]
    by_cases q : x = y
    · rw [if_pos ((ordV_zero hx hy).2 q), q, cmp_same, ih]
    · rw [if_neg (fun z => q ((ordV_zero hx hy).1 z)), cmp_oct hx hy (i1 x List.mem_cons_self) (i2 y List.mem_cons_self) q]
/-- Two strings, held against each other. -/
theorem less_of {S T : ByteArray} {o : Int} (h : Lib.compareBytes S.data.toList T.data.toList = o) : Op.bytesLess S.toList T.toList = decide (o < 0) := by
  rw [less_cmp, toList_data, toList_data, h]
theorem same_of {S T : ByteArray} {o : Int} (h : Lib.compareBytes S.data.toList T.data.toList = o) : (S.toList == T.toList) = (o == 0) := by
  rw [Bool.eq_iff_iff, beq_iff_eq, beq_iff_eq, toList_data, toList_data, ← h, cmpBytes_zero]
end Go.Proofs.Ytnahejljelbbgaa
