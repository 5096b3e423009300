import Derived.Test.YtmhkmliebhbkdaaGreatW03
import Derived.Shelf.Strconv.ParseIntPublic10
import Derived.Laws.EntriesVeiled
import Derived.Deep.DeepCutAuto

/- strconv.ParseInt at base 10; what a text is guessed to be. -/
namespace Go.Proofs.YtmhkmliebhbkdaaGreat
open Go.RowKit Go.Lib

end Go.Proofs.YtmhkmliebhbkdaaGreat

/- What a text is guessed to be, and parsed as: value.Parse. -/
namespace Go.Proofs.YtmhkmliebhbkdaaGreat
open Go.RowKit Go.Lib

/-- What a text is guessed to be: the only value whose text it may be. -/
structure Guess (l : List UInt8) (k i : Int) (S : ByteArray) : Prop where
  in64 : In64 i
  ok : mayB k i S = true ∨ l ≠ []
  only : ∀ k' i' S', In64 i' → mayB k' i' S' = true → txtO k' i' S' = l → k = k' ∧ i = i' ∧ S = S'

end Go.Proofs.YtmhkmliebhbkdaaGreat

/- May one of a kind be; the kinds; what stands in quotes. -/
namespace Go.Proofs.YtmhkmliebhbkdaaGreat
open Go.RowKit Go.Lib

set_option maxRecDepth 100000 in
set_option maxHeartbeats 800000 in
theorem kmay_0 (num : Int) (most : Nat) (f g : Nat) (p q : UInt8 → Bool) (hf : Cls f p) (hg : Cls g q) (s : ByteArray) (w : World) (hs : s.size ≤ 100000) (hm : most ≤ 100) (h0 : s.toList = []) :
    Calls Tryz.prog 164 #[.agg #[.int .i64 num, .int .i64 (most : Nat), .func (.func f) #[] #[], .func (.func g) #[] #[]], .string s] w fun e w' => e = .returned (.bool false) ∧ Below w.heap.size w w' := by
  have HT := Lib.hid (fun (W : World) => tog_any num most f g p q hf hg s W hs)
  clear hf hg
  have h0' : s.toList.isEmpty = true := by rw [h0]; rfl
  go_enter Tryz.func164, Tryz.ntmps164
  go_wp2_with (first
    | (go_at_call 168; refine (HT.out _).mono ?_; rintro e w1 ⟨rfl, hb1⟩; have hc1 := (bcell hb1).1; have hf1 := (bcell hb1).2; have hy1 := hb1.size; (try simp at hy1); have hz1_0 : w.heap.size < w1.heap.size := (by omega)))
  all_goals
    go_ret
    refine ⟨rfl, ?_⟩
    repeat (first | (with_reducible exact Below.refl _ _) | ((with_reducible refine cSet3 ?_ ?_ _ _ _); (· ((try simp) <;> omega))) | (with_reducible refine Below.drew ?_) | ((with_reducible refine cAlloc ?_ ?_ _); (· ((try simp) <;> omega))) | ((with_reducible refine cOn (by assumption) ?_ ?_); (· ((try simp) <;> omega))))

set_option maxRecDepth 100000 in
set_option maxHeartbeats 800000 in
theorem kmay_1 (num : Int) (most : Nat) (f g : Nat) (p q : UInt8 → Bool) (hf : Cls f p) (hg : Cls g q) (s : ByteArray) (w : World) (hs : s.size ≤ 100000) (hm : most ≤ 100) (hl : 0 < s.size) (h1 : ¬ s.size ≤ most) :
    Calls Tryz.prog 164 #[.agg #[.int .i64 num, .int .i64 (most : Nat), .func (.func f) #[] #[], .func (.func g) #[] #[]], .string s] w fun e w' => e = .returned (.bool false) ∧ Below w.heap.size w w' := by
  have HT := Lib.hid (fun (W : World) => tog_any num most f g p q hf hg s W hs)
  clear hf hg
  have h0' : s.toList.isEmpty = false := nonempty_of' hl
  have h0 : ¬ s.toList = [] := fun h => by rw [h] at h0'; cases h0'
  have h2 : ¬ (s.size : Int) ≤ (most : Int) := by omega
  go_enter Tryz.func164, Tryz.ntmps164
  go_wp2_with (first
    | (go_at_call 168; refine (HT.out _).mono ?_; rintro e w1 ⟨rfl, hb1⟩; have hc1 := (bcell hb1).1; have hf1 := (bcell hb1).2; have hy1 := hb1.size; (try simp at hy1); have hz1_0 : w.heap.size < w1.heap.size := (by omega)))
  all_goals
    go_ret
    refine ⟨rfl, ?_⟩
    repeat (first | (with_reducible exact Below.refl _ _) | ((with_reducible refine cSet3 ?_ ?_ _ _ _); (· ((try simp) <;> omega))) | (with_reducible refine Below.drew ?_) | ((with_reducible refine cAlloc ?_ ?_ _); (· ((try simp) <;> omega))) | ((with_reducible refine cOn (by assumption) ?_ ?_); (· ((try simp) <;> omega))))

set_option maxRecDepth 100000 in
set_option maxHeartbeats 800000 in
theorem kmay_2 (num : Int) (most : Nat) (f g : Nat) (p q : UInt8 → Bool) (hf : Cls f p) (hg : Cls g q) (s : ByteArray) (w : World) (hs : s.size ≤ 100000) (hm : most ≤ 100) (hl : 0 < s.size) (h1 : s.size ≤ most) (n : Nat) (hn : tog p q s.data.toList = n) :
    Calls Tryz.prog 164 #[.agg #[.int .i64 num, .int .i64 (most : Nat), .func (.func f) #[] #[], .func (.func g) #[] #[]], .string s] w fun e w' => e = .returned (.bool (decide (n = s.size))) ∧ Below w.heap.size w w' := by
  have HT := Lib.hid (fun (W : World) => tog_any num most f g p q hf hg s W hs)
  clear hf hg
  have h0' : s.toList.isEmpty = false := nonempty_of' hl
  have h0 : ¬ s.toList = [] := fun h => by rw [h] at h0'; cases h0'
  rw [hn] at HT
  clear hn
  have h2 : (s.size : Int) ≤ (most : Int) := by omega
  go_enter Tryz.func164, Tryz.ntmps164
  go_wp2_with (first
    | (go_at_call 168; refine (HT.out _).mono ?_; rintro e w1 ⟨rfl, hb1⟩; have hc1 := (bcell hb1).1; have hf1 := (bcell hb1).2; have hy1 := hb1.size; (try simp at hy1); have hz1_0 : w.heap.size < w1.heap.size := (by omega)))
  all_goals
    go_ret
    refine ⟨ret_bool (by rw [Bool.eq_iff_iff]; simp; omega), ?_⟩
    repeat (first | (with_reducible exact Below.refl _ _) | ((with_reducible refine cSet3 ?_ ?_ _ _ _); (· ((try simp) <;> omega))) | (with_reducible refine Below.drew ?_) | ((with_reducible refine cAlloc ?_ ?_ _); (· ((try simp) <;> omega))) | ((with_reducible refine cOn (by assumption) ?_ ?_); (· ((try simp) <;> omega))))

theorem kmay_any (num : Int) (most : Nat) (f g : Nat) (p q : UInt8 → Bool) (hf : Cls f p) (hg : Cls g q) (s : ByteArray) (w : World) (hs : s.size ≤ 100000) (hm : most ≤ 100) :
    Calls Tryz.prog 164 #[.agg #[.int .i64 num, .int .i64 (most : Nat), .func (.func f) #[] #[], .func (.func g) #[] #[]], .string s] w fun e w' => e = .returned (.bool (kmay p q most s.data.toList)) ∧ Below w.heap.size w w' := by
  by_cases hl : 0 < s.size
  · have he : s.data.toList.isEmpty = false := by rw [← toList_data]; exact nonempty_of' hl
    by_cases h1 : s.size ≤ most
    · have e : kmay p q most s.data.toList = decide (tog p q s.data.toList = s.size) := by
        unfold kmay
        rw [he, ← Lib.size_eq, decide_eq_true h1]
        rfl
      rw [e]
      exact kmay_2 num most f g p q hf hg s w hs hm hl h1 _ rfl
    · have e : kmay p q most s.data.toList = false := by
        unfold kmay
        rw [← Lib.size_eq, decide_eq_false h1]
        simp
      rw [e]
      exact kmay_1 num most f g p q hf hg s w hs hm hl h1
  · have e : s.data.toList = [] := List.length_eq_zero_iff.1 (by rw [← Lib.size_eq]; omega)
    rw [e]
    exact kmay_0 num most f g p q hf hg s w hs hm (by rw [toList_data]; exact e)

set_option maxRecDepth 100000 in
theorem wordKind_any (w : World) :
    Calls Tryz.prog 163 #[] w fun e w' => e = .returned (.agg #[.int .i64 1, .int .i64 16, .func (.func 166) #[] #[], .func (.func 167) #[] #[]]) ∧ Below w.heap.size w w' := by
  go_enter Tryz.func163, Tryz.ntmps163
  go_wp2
  refine bodyPost_ret (v := .agg #[.int .i64 1, .int .i64 16, .func (.func 166) #[] #[], .func (.func 167) #[] #[]]) ?_ rfl ⟨rfl, ?_⟩
  · (simp [results, Tryz.results163, go_sem, *]; done)
  repeat (first | (with_reducible exact Below.refl _ _) | ((with_reducible refine cSet3 ?_ ?_ _ _ _); (· ((try simp) <;> omega))) | (with_reducible refine Below.drew ?_) | ((with_reducible refine cAlloc ?_ ?_ _); (· ((try simp) <;> omega))) | ((with_reducible refine cOn (by assumption) ?_ ?_); (· ((try simp) <;> omega))))

end Go.Proofs.YtmhkmliebhbkdaaGreat

/- Words of the language; which node of an expression is formed. -/
namespace Go.Proofs.YtmhkmliebhbkdaaGreat
open Go.RowKit Go.Lib

/-- The words of the language. -/
def resW : List (List UInt8) := [[65, 78, 68], [79, 82], [78, 79, 84], [73, 83], [78, 85, 76, 76], [84, 82, 85, 69], [70, 65, 76, 83, 69], [67, 82, 69, 65, 84, 69], [84, 65, 66, 76, 69], [73, 78, 84], [84, 69, 88, 84], [66, 79, 79, 76], [75, 69, 89], [85, 78, 73, 81, 85, 69], [82, 69, 70, 69, 82, 69, 78, 67, 69, 83], [67, 72, 69, 67, 75], [68, 82, 79, 80], [73, 78, 83, 69, 82, 84], [73, 78, 84, 79], [86, 65, 76, 85, 69, 83], [85, 80, 68, 65, 84, 69], [83, 69, 84], [68, 69, 76, 69, 84, 69], [83, 69, 76, 69, 67, 84], [70, 82, 79, 77], [87, 72, 69, 82, 69], [71, 82, 65, 78, 84], [82, 69, 86, 79, 75, 69], [82, 69, 65, 68], [87, 82, 73, 84, 69], [79, 78], [84, 79], [77, 73, 71, 82, 65, 84, 69], [67, 79, 80, 89], [74, 79, 73, 78], [71, 82, 79, 85, 80], [66, 89], [83, 85, 77]]
def G1 : List (List UInt8) := [[65, 78, 68], [79, 82], [78, 79, 84], [73, 83], [78, 85, 76, 76], [84, 82, 85, 69], [70, 65, 76, 83, 69]]
def G2 : List (List UInt8) := [[67, 82, 69, 65, 84, 69], [84, 65, 66, 76, 69], [73, 78, 84], [84, 69, 88, 84], [66, 79, 79, 76], [75, 69, 89], [85, 78, 73, 81, 85, 69], [82, 69, 70, 69, 82, 69, 78, 67, 69, 83], [67, 72, 69, 67, 75], [68, 82, 79, 80]]
def G3 : List (List UInt8) := [[73, 78, 83, 69, 82, 84], [73, 78, 84, 79], [86, 65, 76, 85, 69, 83], [85, 80, 68, 65, 84, 69], [83, 69, 84], [68, 69, 76, 69, 84, 69], [83, 69, 76, 69, 67, 84], [70, 82, 79, 77], [87, 72, 69, 82, 69]]
def G4 : List (List UInt8) := [[71, 82, 65, 78, 84], [82, 69, 86, 79, 75, 69], [82, 69, 65, 68], [87, 82, 73, 84, 69], [79, 78], [84, 79]]
def G5 : List (List UInt8) := [[77, 73, 71, 82, 65, 84, 69], [67, 79, 80, 89], [74, 79, 73, 78], [71, 82, 79, 85, 80], [66, 89], [83, 85, 77]]
def resB (s : ByteArray) : Bool := resW.contains s.toList
def grpB (g : List (List UInt8)) (s : ByteArray) : Bool := g.contains s.toList
theorem grp_is {g : List (List UInt8)} {s : ByteArray} {w : List UInt8} (hw : g.contains w = true) (h : (s.toList == w) = true) : Hid ((s.toList == w) = grpB g s) := by
  show (s.toList == w) = grpB g s
  rw [h]
  unfold grpB
  rw [eq_of_beq h, hw]
theorem grp_last {g : List (List UInt8)} {s : ByteArray} {w : List UInt8} (g' : List (List UInt8)) (hg : g = g' ++ [w]) (h : ∀ w ∈ g', (s.toList == w) = false) : Hid ((s.toList == w) = grpB g s) := by
  show (s.toList == w) = grpB g s
  unfold grpB
  rw [hg, List.contains_eq_any_beq, List.any_append]
  have : g'.any (fun x => s.toList == x) = false := by
    rw [List.any_eq_false]
    intro x hx
    rw [h x hx]; decide
  rw [this]
  simp
theorem resB_grp (s : ByteArray) : resB s = (grpB G1 s || (grpB G2 s || (grpB G3 s || (grpB G4 s || grpB G5 s)))) := by
  have e : resW = G1 ++ (G2 ++ (G3 ++ (G4 ++ G5))) := rfl
  unfold resB grpB
  rw [e]
  simp only [List.contains_eq_any_beq, List.any_append]
theorem res_t1 {s : ByteArray} (h1 : Hid (true = grpB G1 s)) : true = resB s := by rw [resB_grp, ← h1.out]; rfl
theorem res_t2 {s : ByteArray} (h1 : Hid (false = grpB G1 s)) (h2 : Hid (true = grpB G2 s)) : true = resB s := by rw [resB_grp, ← h1.out, ← h2.out]; rfl
theorem res_t3 {s : ByteArray} (h1 : Hid (false = grpB G1 s)) (h2 : Hid (false = grpB G2 s)) (h3 : Hid (true = grpB G3 s)) : true = resB s := by rw [resB_grp, ← h1.out, ← h2.out, ← h3.out]; rfl
theorem res_t4 {s : ByteArray} (h1 : Hid (false = grpB G1 s)) (h2 : Hid (false = grpB G2 s)) (h3 : Hid (false = grpB G3 s)) (h4 : Hid (true = grpB G4 s)) : true = resB s := by rw [resB_grp, ← h1.out, ← h2.out, ← h3.out, ← h4.out]; rfl
theorem res_t5 {s : ByteArray} (h1 : Hid (false = grpB G1 s)) (h2 : Hid (false = grpB G2 s)) (h3 : Hid (false = grpB G3 s)) (h4 : Hid (false = grpB G4 s)) (h5 : Hid (true = grpB G5 s)) : true = resB s := by rw [resB_grp, ← h1.out, ← h2.out, ← h3.out, ← h4.out, ← h5.out]; rfl
theorem res_f {s : ByteArray} (h1 : Hid (false = grpB G1 s)) (h2 : Hid (false = grpB G2 s)) (h3 : Hid (false = grpB G3 s)) (h4 : Hid (false = grpB G4 s)) (h5 : Hid (false = grpB G5 s)) : false = resB s := by rw [resB_grp, ← h1.out, ← h2.out, ← h3.out, ← h4.out, ← h5.out]; rfl

set_option maxRecDepth 100000 in
set_option maxHeartbeats 4000000 in
theorem reserved_any (s : ByteArray) (w : World) :
    Calls Tryz.prog 159 #[.string s] w fun e w' => e = .returned (.bool (resB s)) ∧ Below w.heap.size w w' := by
  go_enter Tryz.func159, Tryz.ntmps159
  go_upto_if 4 with (fail)
  go_cut [4] (fun v wr => w = wr ∧ ∃ b, v = .bool b ∧ Hid (b = grpB G1 s))
  case first =>
    go_wp2_with (fail)
    all_goals
      go_meet
      first
        | exact ⟨rfl, _, rfl, grp_is (w := [65, 78, 68]) (by decide) (by assumption)⟩
        | exact ⟨rfl, _, rfl, grp_is (w := [79, 82]) (by decide) (by assumption)⟩
        | exact ⟨rfl, _, rfl, grp_is (w := [78, 79, 84]) (by decide) (by assumption)⟩
        | exact ⟨rfl, _, rfl, grp_is (w := [73, 83]) (by decide) (by assumption)⟩
        | exact ⟨rfl, _, rfl, grp_is (w := [78, 85, 76, 76]) (by decide) (by assumption)⟩
        | exact ⟨rfl, _, rfl, grp_is (w := [84, 82, 85, 69]) (by decide) (by assumption)⟩
        | (refine ⟨rfl, _, rfl, grp_last [[65, 78, 68], [79, 82], [78, 79, 84], [73, 83], [78, 85, 76, 76], [84, 82, 85, 69]] rfl fun x hx => ?_⟩
           simp only [List.mem_cons, List.not_mem_nil, or_false] at hx
           rcases hx with rfl | rfl | rfl | rfl | rfl | rfl <;> assumption)
  obtain ⟨rfl, b, rfl, h1⟩ := hcut
  cases b with
  | true =>
    go_wp2_with (fail)
    go_ret
    exact ⟨ret_bool (res_t1 h1), Below.refl _ _⟩
  | false =>
  go_upto_if 12 with (fail)
  go_cut [12] (fun v wr => w = wr ∧ ∃ b, v = .bool b ∧ Hid (b = grpB G2 s))
  case first =>
    go_wp2_with (fail)
    all_goals
      go_meet
      first
        | exact ⟨rfl, _, rfl, grp_is (w := [67, 82, 69, 65, 84, 69]) (by decide) (by assumption)⟩
        | exact ⟨rfl, _, rfl, grp_is (w := [84, 65, 66, 76, 69]) (by decide) (by assumption)⟩
        | exact ⟨rfl, _, rfl, grp_is (w := [73, 78, 84]) (by decide) (by assumption)⟩
        | exact ⟨rfl, _, rfl, grp_is (w := [84, 69, 88, 84]) (by decide) (by assumption)⟩
        | exact ⟨rfl, _, rfl, grp_is (w := [66, 79, 79, 76]) (by decide) (by assumption)⟩
        | exact ⟨rfl, _, rfl, grp_is (w := [75, 69, 89]) (by decide) (by assumption)⟩
        | exact ⟨rfl, _, rfl, grp_is (w := [85, 78, 73, 81, 85, 69]) (by decide) (by assumption)⟩
        | exact ⟨rfl, _, rfl, grp_is (w := [82, 69, 70, 69, 82, 69, 78, 67, 69, 83]) (by decide) (by assumption)⟩
        | exact ⟨rfl, _, rfl, grp_is (w := [67, 72, 69, 67, 75]) (by decide) (by assumption)⟩
        | (refine ⟨rfl, _, rfl, grp_last [[67, 82, 69, 65, 84, 69], [84, 65, 66, 76, 69], [73, 78, 84], [84, 69, 88, 84], [66, 79, 79, 76], [75, 69, 89], [85, 78, 73, 81, 85, 69], [82, 69, 70, 69, 82, 69, 78, 67, 69, 83], [67, 72, 69, 67, 75]] rfl fun x hx => ?_⟩
           simp only [List.mem_cons, List.not_mem_nil, or_false] at hx
           rcases hx with rfl | rfl | rfl | rfl | rfl | rfl | rfl | rfl | rfl <;> assumption)
  obtain ⟨rfl, b, rfl, h2⟩ := hcut
  cases b with
  | true =>
    go_wp2_with (fail)
    go_ret
    exact ⟨ret_bool (res_t2 h1 h2), Below.refl _ _⟩
  | false =>
  go_upto_if 23 with (fail)
  go_cut [23] (fun v wr => w = wr ∧ ∃ b, v = .bool b ∧ Hid (b = grpB G3 s))
  case first =>
    go_wp2_with (fail)
    all_goals
      go_meet
      first
        | exact ⟨rfl, _, rfl, grp_is (w := [73, 78, 83, 69, 82, 84]) (by decide) (by assumption)⟩
        | exact ⟨rfl, _, rfl, grp_is (w := [73, 78, 84, 79]) (by decide) (by assumption)⟩
        | exact ⟨rfl, _, rfl, grp_is (w := [86, 65, 76, 85, 69, 83]) (by decide) (by assumption)⟩
        | exact ⟨rfl, _, rfl, grp_is (w := [85, 80, 68, 65, 84, 69]) (by decide) (by assumption)⟩
        | exact ⟨rfl, _, rfl, grp_is (w := [83, 69, 84]) (by decide) (by assumption)⟩
        | exact ⟨rfl, _, rfl, grp_is (w := [68, 69, 76, 69, 84, 69]) (by decide) (by assumption)⟩
        | exact ⟨rfl, _, rfl, grp_is (w := [83, 69, 76, 69, 67, 84]) (by decide) (by assumption)⟩
        | exact ⟨rfl, _, rfl, grp_is (w := [70, 82, 79, 77]) (by decide) (by assumption)⟩
        | (refine ⟨rfl, _, rfl, grp_last [[73, 78, 83, 69, 82, 84], [73, 78, 84, 79], [86, 65, 76, 85, 69, 83], [85, 80, 68, 65, 84, 69], [83, 69, 84], [68, 69, 76, 69, 84, 69], [83, 69, 76, 69, 67, 84], [70, 82, 79, 77]] rfl fun x hx => ?_⟩
           simp only [List.mem_cons, List.not_mem_nil, or_false] at hx
           rcases hx with rfl | rfl | rfl | rfl | rfl | rfl | rfl | rfl <;> assumption)
  obtain ⟨rfl, b, rfl, h3⟩ := hcut
  cases b with
  | true =>
    go_wp2_with (fail)
    go_ret
    exact ⟨ret_bool (res_t3 h1 h2 h3), Below.refl _ _⟩
  | false =>
  go_upto_if 33 with (fail)
  go_cut [33] (fun v wr => w = wr ∧ ∃ b, v = .bool b ∧ Hid (b = grpB G4 s))
  case first =>
    go_wp2_with (fail)
    all_goals
      go_meet
      first
        | exact ⟨rfl, _, rfl, grp_is (w := [71, 82, 65, 78, 84]) (by decide) (by assumption)⟩
        | exact ⟨rfl, _, rfl, grp_is (w := [82, 69, 86, 79, 75, 69]) (by decide) (by assumption)⟩
        | exact ⟨rfl, _, rfl, grp_is (w := [82, 69, 65, 68]) (by decide) (by assumption)⟩
        | exact ⟨rfl, _, rfl, grp_is (w := [87, 82, 73, 84, 69]) (by decide) (by assumption)⟩
        | exact ⟨rfl, _, rfl, grp_is (w := [79, 78]) (by decide) (by assumption)⟩
        | (refine ⟨rfl, _, rfl, grp_last [[71, 82, 65, 78, 84], [82, 69, 86, 79, 75, 69], [82, 69, 65, 68], [87, 82, 73, 84, 69], [79, 78]] rfl fun x hx => ?_⟩
           simp only [List.mem_cons, List.not_mem_nil, or_false] at hx
           rcases hx with rfl | rfl | rfl | rfl | rfl <;> assumption)
  obtain ⟨rfl, b, rfl, h4⟩ := hcut
  cases b with
  | true =>
    go_wp2_with (fail)
    go_ret
    exact ⟨ret_bool (res_t4 h1 h2 h3 h4), Below.refl _ _⟩
  | false =>
  go_upto_if 40 with (fail)
  go_cut [40] (fun v wr => w = wr ∧ ∃ b, v = .bool b ∧ Hid (b = grpB G5 s))
  case first =>
    go_wp2_with (fail)
    all_goals
      go_meet
      first
        | exact ⟨rfl, _, rfl, grp_is (w := [77, 73, 71, 82, 65, 84, 69]) (by decide) (by assumption)⟩
        | exact ⟨rfl, _, rfl, grp_is (w := [67, 79, 80, 89]) (by decide) (by assumption)⟩
        | exact ⟨rfl, _, rfl, grp_is (w := [74, 79, 73, 78]) (by decide) (by assumption)⟩
        | exact ⟨rfl, _, rfl, grp_is (w := [71, 82, 79, 85, 80]) (by decide) (by assumption)⟩
        | exact ⟨rfl, _, rfl, grp_is (w := [66, 89]) (by decide) (by assumption)⟩
        | (refine ⟨rfl, _, rfl, grp_last [[77, 73, 71, 82, 65, 84, 69], [67, 79, 80, 89], [74, 79, 73, 78], [71, 82, 79, 85, 80], [66, 89]] rfl fun x hx => ?_⟩
           simp only [List.mem_cons, List.not_mem_nil, or_false] at hx
           rcases hx with rfl | rfl | rfl | rfl | rfl <;> assumption)
  obtain ⟨rfl, b, rfl, h5⟩ := hcut
  cases b with
  | true =>
    go_wp2_with (fail)
    go_ret
    exact ⟨ret_bool (res_t5 h1 h2 h3 h4 h5), Below.refl _ _⟩
  | false =>
    go_wp2_with (fail)
    go_ret
    exact ⟨ret_bool (res_f h1 h2 h3 h4 h5), Below.refl _ _⟩

set_option maxRecDepth 100000 in
set_option maxHeartbeats 1600000 in
theorem name_any (s : ByteArray) (w : World) (hs : s.size ≤ 100000) :
    Calls Tryz.prog 158 #[.string s] w fun e w' => e = .returned (.bool (kmay letB parB 16 s.data.toList)) ∧ Below w.heap.size w w' := by
  go_enter Tryz.func158, Tryz.ntmps158
  go_wp2_with (first
    | (go_at_call 163; refine (wordKind_any _).mono ?_; rintro e w1 ⟨rfl, hb1⟩)
    | (go_at_call 164; refine (kmay_any 1 16 _ _ letB parB cls_letter cls_inWord s _ hs (by omega)).mono ?_; rintro e w2 ⟨rfl, hb2⟩))
  go_ret
  exact ⟨rfl, hb1.trans (hb2.mono hb1.size)⟩
end Go.Proofs.YtmhkmliebhbkdaaGreat

/- Which node of an expression is formed. -/
namespace Go.Proofs.YtmhkmliebhbkdaaGreat
open Go.RowKit Go.Lib

def nilB (s : ByteArray) : Bool := decide (s.toList = [])
def zeroB (k i : Int) (vs : ByteArray) : Bool := decide (k = 0) && (decide (i = 0) && nilB vs)
def nameB (s : ByteArray) : Bool := kmay letB parB 16 s.data.toList
def fmLit (k i : Int) (vs s : ByteArray) (n : Nat) : Bool := mayB k i vs && (nilB s && decide (n = 0))
def fmCol (k i : Int) (vs s : ByteArray) (n : Nat) : Bool := zeroB k i vs && (nameB s && (!resB s && decide (n = 0)))
def fmOne (k i : Int) (vs s : ByteArray) (n : Nat) : Bool := zeroB k i vs && (nilB s && decide (n = 1))
def fmTwo (k i : Int) (vs s : ByteArray) (n : Nat) : Bool := zeroB k i vs && (nilB s && decide (n = 2))
theorem beq0 (n : Nat) : ((n : Int) == 0) = decide (n = 0) := by rw [Bool.eq_iff_iff]; simp
theorem beq1 (n : Nat) : ((n : Int) == 1) = decide (n = 1) := by rw [Bool.eq_iff_iff]; simp; omega
theorem beq2 (n : Nat) : ((n : Int) == 2) = decide (n = 2) := by rw [Bool.eq_iff_iff]; simp; omega

set_option maxRecDepth 100000 in
set_option maxHeartbeats 4000000 in
theorem formed_0 (k i : Int) (vs s : ByteArray) (A : Option Addr) (n cap : Nat) (w : World) (hn : n ≤ maxLen) (hs : s.size ≤ 100000) :
    Calls Tryz.prog 139 #[.agg #[.string ⟨#[108, 105, 116]⟩, .int .i64 k, .int .i64 i, .string vs, .string s, .slice A n cap]] w fun e w' => e = .returned (.bool (fmLit k i vs s n)) ∧ Below w.heap.size w w' := by
  unfold maxLen at hn
  go_enter Tryz.func139, Tryz.ntmps139
  go_wp2_with (first
    | (go_at_call 124; refine (may_any _ _ _ _).mono ?_; rintro e w1 ⟨rfl, hb1⟩; have hc1 := (bcell hb1).1; have hf1 := (bcell hb1).2; have hy1 := hb1.size; (try simp at hy1); have hz1_0 : w.heap.size < w1.heap.size := (by omega))
    | (go_at_call 158; refine (name_any _ _ hs).mono ?_; rintro e w1 ⟨rfl, hb1⟩; have hc1 := (bcell hb1).1; have hf1 := (bcell hb1).2; have hy1 := hb1.size; (try simp at hy1); have hz1_0 : w.heap.size < w1.heap.size := (by omega))
    | (go_at_call 159; refine (reserved_any _ _).mono ?_; rintro e w2 ⟨rfl, hb2⟩; have hc2 := (bcell hb2).1; have hf2 := (bcell hb2).2; have hy2 := hb2.size; (try simp at hy2); have hz2_0 : w.heap.size < w2.heap.size := (by omega)))
  all_goals go_ret
  all_goals refine ⟨ret_bool ?_, ?_⟩
  all_goals first
    | (with_reducible exact Below.refl _ _)
    | ((repeat (first | (with_reducible exact Below.refl _ _) | ((with_reducible refine cSet3 ?_ ?_ _ _ _); (· ((try simp) <;> omega))) | (with_reducible refine Below.drew ?_) | ((with_reducible refine cAlloc ?_ ?_ _); (· ((try simp) <;> omega))) | ((with_reducible refine cOn (by assumption) ?_ ?_); (· ((try simp) <;> omega))))); done)
    | ((try simp only [beq0, beq1, beq2]); simp [fmLit, zeroB, nilB, nameB, *]; done)

set_option maxRecDepth 100000 in
set_option maxHeartbeats 4000000 in
theorem formed_1 (k i : Int) (vs s : ByteArray) (A : Option Addr) (n cap : Nat) (w : World) (hn : n ≤ maxLen) (hs : s.size ≤ 100000) :
    Calls Tryz.prog 139 #[.agg #[.string ⟨#[99, 111, 108]⟩, .int .i64 k, .int .i64 i, .string vs, .string s, .slice A n cap]] w fun e w' => e = .returned (.bool (fmCol k i vs s n)) ∧ Below w.heap.size w w' := by
  unfold maxLen at hn
  go_enter Tryz.func139, Tryz.ntmps139
  go_wp2_with (first
    | (go_at_call 124; refine (may_any _ _ _ _).mono ?_; rintro e w1 ⟨rfl, hb1⟩; have hc1 := (bcell hb1).1; have hf1 := (bcell hb1).2; have hy1 := hb1.size; (try simp at hy1); have hz1_0 : w.heap.size < w1.heap.size := (by omega))
    | (go_at_call 158; refine (name_any _ _ hs).mono ?_; rintro e w1 ⟨rfl, hb1⟩; have hc1 := (bcell hb1).1; have hf1 := (bcell hb1).2; have hy1 := hb1.size; (try simp at hy1); have hz1_0 : w.heap.size < w1.heap.size := (by omega))
    | (go_at_call 159; refine (reserved_any _ _).mono ?_; rintro e w2 ⟨rfl, hb2⟩; have hc2 := (bcell hb2).1; have hf2 := (bcell hb2).2; have hy2 := hb2.size; (try simp at hy2); have hz2_0 : w.heap.size < w2.heap.size := (by omega)))
  all_goals go_ret
  all_goals refine ⟨ret_bool ?_, ?_⟩
  all_goals first
    | (with_reducible exact Below.refl _ _)
    | ((repeat (first | (with_reducible exact Below.refl _ _) | ((with_reducible refine cSet3 ?_ ?_ _ _ _); (· ((try simp) <;> omega))) | (with_reducible refine Below.drew ?_) | ((with_reducible refine cAlloc ?_ ?_ _); (· ((try simp) <;> omega))) | ((with_reducible refine cOn (by assumption) ?_ ?_); (· ((try simp) <;> omega))))); done)
    | ((try simp only [beq0, beq1, beq2]); simp [fmCol, zeroB, nilB, nameB, *]; done)

set_option maxRecDepth 100000 in
set_option maxHeartbeats 4000000 in
theorem formed_2 (k i : Int) (vs s : ByteArray) (A : Option Addr) (n cap : Nat) (w : World) (hn : n ≤ maxLen) (hs : s.size ≤ 100000) :
    Calls Tryz.prog 139 #[.agg #[.string ⟨#[110, 111, 116]⟩, .int .i64 k, .int .i64 i, .string vs, .string s, .slice A n cap]] w fun e w' => e = .returned (.bool (fmOne k i vs s n)) ∧ Below w.heap.size w w' := by
  unfold maxLen at hn
  go_enter Tryz.func139, Tryz.ntmps139
  go_wp2_with (first
    | (go_at_call 124; refine (may_any _ _ _ _).mono ?_; rintro e w1 ⟨rfl, hb1⟩; have hc1 := (bcell hb1).1; have hf1 := (bcell hb1).2; have hy1 := hb1.size; (try simp at hy1); have hz1_0 : w.heap.size < w1.heap.size := (by omega))
    | (go_at_call 158; refine (name_any _ _ hs).mono ?_; rintro e w1 ⟨rfl, hb1⟩; have hc1 := (bcell hb1).1; have hf1 := (bcell hb1).2; have hy1 := hb1.size; (try simp at hy1); have hz1_0 : w.heap.size < w1.heap.size := (by omega))
    | (go_at_call 159; refine (reserved_any _ _).mono ?_; rintro e w2 ⟨rfl, hb2⟩; have hc2 := (bcell hb2).1; have hf2 := (bcell hb2).2; have hy2 := hb2.size; (try simp at hy2); have hz2_0 : w.heap.size < w2.heap.size := (by omega)))
  all_goals go_ret
  all_goals refine ⟨ret_bool ?_, ?_⟩
  all_goals first
    | (with_reducible exact Below.refl _ _)
    | ((repeat (first | (with_reducible exact Below.refl _ _) | ((with_reducible refine cSet3 ?_ ?_ _ _ _); (· ((try simp) <;> omega))) | (with_reducible refine Below.drew ?_) | ((with_reducible refine cAlloc ?_ ?_ _); (· ((try simp) <;> omega))) | ((with_reducible refine cOn (by assumption) ?_ ?_); (· ((try simp) <;> omega))))); done)
    | ((try simp only [beq0, beq1, beq2]); simp [fmOne, zeroB, nilB, nameB, *]; done)

set_option maxRecDepth 100000 in
set_option maxHeartbeats 4000000 in
theorem formed_3 (k i : Int) (vs s : ByteArray) (A : Option Addr) (n cap : Nat) (w : World) (hn : n ≤ maxLen) (hs : s.size ≤ 100000) :
    Calls Tryz.prog 139 #[.agg #[.string ⟨#[110, 117, 108, 108]⟩, .int .i64 k, .int .i64 i, .string vs, .string s, .slice A n cap]] w fun e w' => e = .returned (.bool (fmOne k i vs s n)) ∧ Below w.heap.size w w' := by
  unfold maxLen at hn
  go_enter Tryz.func139, Tryz.ntmps139
  go_wp2_with (first
    | (go_at_call 124; refine (may_any _ _ _ _).mono ?_; rintro e w1 ⟨rfl, hb1⟩; have hc1 := (bcell hb1).1; have hf1 := (bcell hb1).2; have hy1 := hb1.size; (try simp at hy1); have hz1_0 : w.heap.size < w1.heap.size := (by omega))
    | (go_at_call 158; refine (name_any _ _ hs).mono ?_; rintro e w1 ⟨rfl, hb1⟩; have hc1 := (bcell hb1).1; have hf1 := (bcell hb1).2; have hy1 := hb1.size; (try simp at hy1); have hz1_0 : w.heap.size < w1.heap.size := (by omega))
    | (go_at_call 159; refine (reserved_any _ _).mono ?_; rintro e w2 ⟨rfl, hb2⟩; have hc2 := (bcell hb2).1; have hf2 := (bcell hb2).2; have hy2 := hb2.size; (try simp at hy2); have hz2_0 : w.heap.size < w2.heap.size := (by omega)))
  all_goals go_ret
  all_goals refine ⟨ret_bool ?_, ?_⟩
  all_goals first
    | (with_reducible exact Below.refl _ _)
    | ((repeat (first | (with_reducible exact Below.refl _ _) | ((with_reducible refine cSet3 ?_ ?_ _ _ _); (· ((try simp) <;> omega))) | (with_reducible refine Below.drew ?_) | ((with_reducible refine cAlloc ?_ ?_ _); (· ((try simp) <;> omega))) | ((with_reducible refine cOn (by assumption) ?_ ?_); (· ((try simp) <;> omega))))); done)
    | ((try simp only [beq0, beq1, beq2]); simp [fmOne, zeroB, nilB, nameB, *]; done)

set_option maxRecDepth 100000 in
set_option maxHeartbeats 4000000 in
theorem formed_4 (k i : Int) (vs s : ByteArray) (A : Option Addr) (n cap : Nat) (w : World) (hn : n ≤ maxLen) (hs : s.size ≤ 100000) :
    Calls Tryz.prog 139 #[.agg #[.string ⟨#[97, 110, 100]⟩, .int .i64 k, .int .i64 i, .string vs, .string s, .slice A n cap]] w fun e w' => e = .returned (.bool (fmTwo k i vs s n)) ∧ Below w.heap.size w w' := by
  unfold maxLen at hn
  go_enter Tryz.func139, Tryz.ntmps139
  go_wp2_with (first
    | (go_at_call 124; refine (may_any _ _ _ _).mono ?_; rintro e w1 ⟨rfl, hb1⟩; have hc1 := (bcell hb1).1; have hf1 := (bcell hb1).2; have hy1 := hb1.size; (try simp at hy1); have hz1_0 : w.heap.size < w1.heap.size := (by omega))
    | (go_at_call 158; refine (name_any _ _ hs).mono ?_; rintro e w1 ⟨rfl, hb1⟩; have hc1 := (bcell hb1).1; have hf1 := (bcell hb1).2; have hy1 := hb1.size; (try simp at hy1); have hz1_0 : w.heap.size < w1.heap.size := (by omega))
    | (go_at_call 159; refine (reserved_any _ _).mono ?_; rintro e w2 ⟨rfl, hb2⟩; have hc2 := (bcell hb2).1; have hf2 := (bcell hb2).2; have hy2 := hb2.size; (try simp at hy2); have hz2_0 : w.heap.size < w2.heap.size := (by omega)))
  all_goals go_ret
  all_goals refine ⟨ret_bool ?_, ?_⟩
  all_goals first
    | (with_reducible exact Below.refl _ _)
    | ((repeat (first | (with_reducible exact Below.refl _ _) | ((with_reducible refine cSet3 ?_ ?_ _ _ _); (· ((try simp) <;> omega))) | (with_reducible refine Below.drew ?_) | ((with_reducible refine cAlloc ?_ ?_ _); (· ((try simp) <;> omega))) | ((with_reducible refine cOn (by assumption) ?_ ?_); (· ((try simp) <;> omega))))); done)
    | ((try simp only [beq0, beq1, beq2]); simp [fmTwo, zeroB, nilB, nameB, *]; done)

set_option maxRecDepth 100000 in
set_option maxHeartbeats 4000000 in
theorem formed_5 (k i : Int) (vs s : ByteArray) (A : Option Addr) (n cap : Nat) (w : World) (hn : n ≤ maxLen) (hs : s.size ≤ 100000) :
    Calls Tryz.prog 139 #[.agg #[.string ⟨#[111, 114]⟩, .int .i64 k, .int .i64 i, .string vs, .string s, .slice A n cap]] w fun e w' => e = .returned (.bool (fmTwo k i vs s n)) ∧ Below w.heap.size w w' := by
  unfold maxLen at hn
  go_enter Tryz.func139, Tryz.ntmps139
  go_wp2_with (first
    | (go_at_call 124; refine (may_any _ _ _ _).mono ?_; rintro e w1 ⟨rfl, hb1⟩; have hc1 := (bcell hb1).1; have hf1 := (bcell hb1).2; have hy1 := hb1.size; (try simp at hy1); have hz1_0 : w.heap.size < w1.heap.size := (by omega))
    | (go_at_call 158; refine (name_any _ _ hs).mono ?_; rintro e w1 ⟨rfl, hb1⟩; have hc1 := (bcell hb1).1; have hf1 := (bcell hb1).2; have hy1 := hb1.size; (try simp at hy1); have hz1_0 : w.heap.size < w1.heap.size := (by omega))
    | (go_at_call 159; refine (reserved_any _ _).mono ?_; rintro e w2 ⟨rfl, hb2⟩; have hc2 := (bcell hb2).1; have hf2 := (bcell hb2).2; have hy2 := hb2.size; (try simp at hy2); have hz2_0 : w.heap.size < w2.heap.size := (by omega)))
  all_goals go_ret
  all_goals refine ⟨ret_bool ?_, ?_⟩
  all_goals first
    | (with_reducible exact Below.refl _ _)
    | ((repeat (first | (with_reducible exact Below.refl _ _) | ((with_reducible refine cSet3 ?_ ?_ _ _ _); (· ((try simp) <;> omega))) | (with_reducible refine Below.drew ?_) | ((with_reducible refine cAlloc ?_ ?_ _); (· ((try simp) <;> omega))) | ((with_reducible refine cOn (by assumption) ?_ ?_); (· ((try simp) <;> omega))))); done)
    | ((try simp only [beq0, beq1, beq2]); simp [fmTwo, zeroB, nilB, nameB, *]; done)

set_option maxRecDepth 100000 in
set_option maxHeartbeats 4000000 in
theorem formed_6 (k i : Int) (vs s : ByteArray) (A : Option Addr) (n cap : Nat) (w : World) (hn : n ≤ maxLen) (hs : s.size ≤ 100000) :
    Calls Tryz.prog 139 #[.agg #[.string ⟨#[61]⟩, .int .i64 k, .int .i64 i, .string vs, .string s, .slice A n cap]] w fun e w' => e = .returned (.bool (fmTwo k i vs s n)) ∧ Below w.heap.size w w' := by
  unfold maxLen at hn
  go_enter Tryz.func139, Tryz.ntmps139
  go_wp2_with (first
    | (go_at_call 124; refine (may_any _ _ _ _).mono ?_; rintro e w1 ⟨rfl, hb1⟩; have hc1 := (bcell hb1).1; have hf1 := (bcell hb1).2; have hy1 := hb1.size; (try simp at hy1); have hz1_0 : w.heap.size < w1.heap.size := (by omega))
    | (go_at_call 158; refine (name_any _ _ hs).mono ?_; rintro e w1 ⟨rfl, hb1⟩; have hc1 := (bcell hb1).1; have hf1 := (bcell hb1).2; have hy1 := hb1.size; (try simp at hy1); have hz1_0 : w.heap.size < w1.heap.size := (by omega))
    | (go_at_call 159; refine (reserved_any _ _).mono ?_; rintro e w2 ⟨rfl, hb2⟩; have hc2 := (bcell hb2).1; have hf2 := (bcell hb2).2; have hy2 := hb2.size; (try simp at hy2); have hz2_0 : w.heap.size < w2.heap.size := (by omega)))
  all_goals go_ret
  all_goals refine ⟨ret_bool ?_, ?_⟩
  all_goals first
    | (with_reducible exact Below.refl _ _)
    | ((repeat (first | (with_reducible exact Below.refl _ _) | ((with_reducible refine cSet3 ?_ ?_ _ _ _); (· ((try simp) <;> omega))) | (with_reducible refine Below.drew ?_) | ((with_reducible refine cAlloc ?_ ?_ _); (· ((try simp) <;> omega))) | ((with_reducible refine cOn (by assumption) ?_ ?_); (· ((try simp) <;> omega))))); done)
    | ((try simp only [beq0, beq1, beq2]); simp [fmTwo, zeroB, nilB, nameB, *]; done)

set_option maxRecDepth 100000 in
set_option maxHeartbeats 4000000 in
theorem formed_7 (k i : Int) (vs s : ByteArray) (A : Option Addr) (n cap : Nat) (w : World) (hn : n ≤ maxLen) (hs : s.size ≤ 100000) :
    Calls Tryz.prog 139 #[.agg #[.string ⟨#[60]⟩, .int .i64 k, .int .i64 i, .string vs, .string s, .slice A n cap]] w fun e w' => e = .returned (.bool (fmTwo k i vs s n)) ∧ Below w.heap.size w w' := by
  unfold maxLen at hn
  go_enter Tryz.func139, Tryz.ntmps139
  go_wp2_with (first
    | (go_at_call 124; refine (may_any _ _ _ _).mono ?_; rintro e w1 ⟨rfl, hb1⟩; have hc1 := (bcell hb1).1; have hf1 := (bcell hb1).2; have hy1 := hb1.size; (try simp at hy1); have hz1_0 : w.heap.size < w1.heap.size := (by omega))
    | (go_at_call 158; refine (name_any _ _ hs).mono ?_; rintro e w1 ⟨rfl, hb1⟩; have hc1 := (bcell hb1).1; have hf1 := (bcell hb1).2; have hy1 := hb1.size; (try simp at hy1); have hz1_0 : w.heap.size < w1.heap.size := (by omega))
    | (go_at_call 159; refine (reserved_any _ _).mono ?_; rintro e w2 ⟨rfl, hb2⟩; have hc2 := (bcell hb2).1; have hf2 := (bcell hb2).2; have hy2 := hb2.size; (try simp at hy2); have hz2_0 : w.heap.size < w2.heap.size := (by omega)))
  all_goals go_ret
  all_goals refine ⟨ret_bool ?_, ?_⟩
  all_goals first
    | (with_reducible exact Below.refl _ _)
    | ((repeat (first | (with_reducible exact Below.refl _ _) | ((with_reducible refine cSet3 ?_ ?_ _ _ _); (· ((try simp) <;> omega))) | (with_reducible refine Below.drew ?_) | ((with_reducible refine cAlloc ?_ ?_ _); (· ((try simp) <;> omega))) | ((with_reducible refine cOn (by assumption) ?_ ?_); (· ((try simp) <;> omega))))); done)
    | ((try simp only [beq0, beq1, beq2]); simp [fmTwo, zeroB, nilB, nameB, *]; done)

set_option maxRecDepth 100000 in
set_option maxHeartbeats 4000000 in
theorem formed_8 (k i : Int) (vs s : ByteArray) (A : Option Addr) (n cap : Nat) (w : World) (hn : n ≤ maxLen) (hs : s.size ≤ 100000) :
    Calls Tryz.prog 139 #[.agg #[.string ⟨#[43]⟩, .int .i64 k, .int .i64 i, .string vs, .string s, .slice A n cap]] w fun e w' => e = .returned (.bool (fmTwo k i vs s n)) ∧ Below w.heap.size w w' := by
  unfold maxLen at hn
  go_enter Tryz.func139, Tryz.ntmps139
  go_wp2_with (first
    | (go_at_call 124; refine (may_any _ _ _ _).mono ?_; rintro e w1 ⟨rfl, hb1⟩; have hc1 := (bcell hb1).1; have hf1 := (bcell hb1).2; have hy1 := hb1.size; (try simp at hy1); have hz1_0 : w.heap.size < w1.heap.size := (by omega))
    | (go_at_call 158; refine (name_any _ _ hs).mono ?_; rintro e w1 ⟨rfl, hb1⟩; have hc1 := (bcell hb1).1; have hf1 := (bcell hb1).2; have hy1 := hb1.size; (try simp at hy1); have hz1_0 : w.heap.size < w1.heap.size := (by omega))
    | (go_at_call 159; refine (reserved_any _ _).mono ?_; rintro e w2 ⟨rfl, hb2⟩; have hc2 := (bcell hb2).1; have hf2 := (bcell hb2).2; have hy2 := hb2.size; (try simp at hy2); have hz2_0 : w.heap.size < w2.heap.size := (by omega)))
  all_goals go_ret
  all_goals refine ⟨ret_bool ?_, ?_⟩
  all_goals first
    | (with_reducible exact Below.refl _ _)
    | ((repeat (first | (with_reducible exact Below.refl _ _) | ((with_reducible refine cSet3 ?_ ?_ _ _ _); (· ((try simp) <;> omega))) | (with_reducible refine Below.drew ?_) | ((with_reducible refine cAlloc ?_ ?_ _); (· ((try simp) <;> omega))) | ((with_reducible refine cOn (by assumption) ?_ ?_); (· ((try simp) <;> omega))))); done)
    | ((try simp only [beq0, beq1, beq2]); simp [fmTwo, zeroB, nilB, nameB, *]; done)

set_option maxRecDepth 100000 in
set_option maxHeartbeats 4000000 in
theorem formed_9 (k i : Int) (vs s : ByteArray) (A : Option Addr) (n cap : Nat) (w : World) (hn : n ≤ maxLen) (hs : s.size ≤ 100000) :
    Calls Tryz.prog 139 #[.agg #[.string ⟨#[45]⟩, .int .i64 k, .int .i64 i, .string vs, .string s, .slice A n cap]] w fun e w' => e = .returned (.bool (fmTwo k i vs s n)) ∧ Below w.heap.size w w' := by
  unfold maxLen at hn
  go_enter Tryz.func139, Tryz.ntmps139
  go_wp2_with (first
    | (go_at_call 124; refine (may_any _ _ _ _).mono ?_; rintro e w1 ⟨rfl, hb1⟩; have hc1 := (bcell hb1).1; have hf1 := (bcell hb1).2; have hy1 := hb1.size; (try simp at hy1); have hz1_0 : w.heap.size < w1.heap.size := (by omega))
    | (go_at_call 158; refine (name_any _ _ hs).mono ?_; rintro e w1 ⟨rfl, hb1⟩; have hc1 := (bcell hb1).1; have hf1 := (bcell hb1).2; have hy1 := hb1.size; (try simp at hy1); have hz1_0 : w.heap.size < w1.heap.size := (by omega))
    | (go_at_call 159; refine (reserved_any _ _).mono ?_; rintro e w2 ⟨rfl, hb2⟩; have hc2 := (bcell hb2).1; have hf2 := (bcell hb2).2; have hy2 := hb2.size; (try simp at hy2); have hz2_0 : w.heap.size < w2.heap.size := (by omega)))
  all_goals go_ret
  all_goals refine ⟨ret_bool ?_, ?_⟩
  all_goals first
    | (with_reducible exact Below.refl _ _)
    | ((repeat (first | (with_reducible exact Below.refl _ _) | ((with_reducible refine cSet3 ?_ ?_ _ _ _); (· ((try simp) <;> omega))) | (with_reducible refine Below.drew ?_) | ((with_reducible refine cAlloc ?_ ?_ _); (· ((try simp) <;> omega))) | ((with_reducible refine cOn (by assumption) ?_ ?_); (· ((try simp) <;> omega))))); done)
    | ((try simp only [beq0, beq1, beq2]); simp [fmTwo, zeroB, nilB, nameB, *]; done)

set_option maxRecDepth 100000 in
set_option maxHeartbeats 4000000 in
theorem formed_no (op : ByteArray) (k i : Int) (vs s : ByteArray) (A : Option Addr) (n cap : Nat) (w : World) (hn : n ≤ maxLen) (hs : s.size ≤ 100000) (h0 : (op.toList == [108, 105, 116]) = false) (h1 : (op.toList == [99, 111, 108]) = false) (h2 : (op.toList == [110, 111, 116]) = false) (h3 : (op.toList == [110, 117, 108, 108]) = false) (h4 : (op.toList == [97, 110, 100]) = false) (h5 : (op.toList == [111, 114]) = false) (h6 : (op.toList == [61]) = false) (h7 : (op.toList == [60]) = false) (h8 : (op.toList == [43]) = false) (h9 : (op.toList == [45]) = false) :
    Calls Tryz.prog 139 #[.agg #[.string op, .int .i64 k, .int .i64 i, .string vs, .string s, .slice A n cap]] w fun e w' => e = .returned (.bool (false)) ∧ Below w.heap.size w w' := by
  go_enter Tryz.func139, Tryz.ntmps139
  go_wp2_with (fail)
  go_ret
  exact ⟨rfl, (Below.refl _ _).alloc (Nat.le_refl _) _⟩

/-- Is a node formed that has so many parts? -/
def fmB (op : ByteArray) (k i : Int) (vs s : ByteArray) (n : Nat) : Bool :=
  if op.toList = [108, 105, 116] then fmLit k i vs s n else if op.toList = [99, 111, 108] then fmCol k i vs s n else if op.toList = [110, 111, 116] ∨ op.toList = [110, 117, 108, 108] then fmOne k i vs s n
  else if op.toList ∈ [[97, 110, 100], [111, 114], [61], [60], [43], [45]] then fmTwo k i vs s n else false
theorem bytes_of {s : ByteArray} {l : List UInt8} (h : s.toList = l) : s = ⟨l.toArray⟩ := by
  rw [toList_data] at h
  cases s with
  | mk d => subst h; simp
theorem formed_any (op : ByteArray) (k i : Int) (vs s : ByteArray) (A : Option Addr) (n cap : Nat) (w : World) (hn : n ≤ maxLen) (hs : s.size ≤ 100000) :
    Calls Tryz.prog 139 #[.agg #[.string op, .int .i64 k, .int .i64 i, .string vs, .string s, .slice A n cap]] w fun e w' => e = .returned (.bool (fmB op k i vs s n)) ∧ Below w.heap.size w w' := by
  by_cases h0 : op.toList = [108, 105, 116]
  · obtain rfl : op = ⟨#[108, 105, 116]⟩ := bytes_of h0
    have e : fmB ⟨#[108, 105, 116]⟩ k i vs s n = fmLit k i vs s n := by simp [fmB, h0]
    rw [e]
    exact formed_0 k i vs s A n cap w hn hs
  by_cases h1 : op.toList = [99, 111, 108]
  · obtain rfl : op = ⟨#[99, 111, 108]⟩ := bytes_of h1
    have e : fmB ⟨#[99, 111, 108]⟩ k i vs s n = fmCol k i vs s n := by simp [fmB, h1]
    rw [e]
    exact formed_1 k i vs s A n cap w hn hs
  by_cases h2 : op.toList = [110, 111, 116]
  · obtain rfl : op = ⟨#[110, 111, 116]⟩ := bytes_of h2
    have e : fmB ⟨#[110, 111, 116]⟩ k i vs s n = fmOne k i vs s n := by simp [fmB, h2]
    rw [e]
    exact formed_2 k i vs s A n cap w hn hs
  by_cases h3 : op.toList = [110, 117, 108, 108]
  · obtain rfl : op = ⟨#[110, 117, 108, 108]⟩ := bytes_of h3
    have e : fmB ⟨#[110, 117, 108, 108]⟩ k i vs s n = fmOne k i vs s n := by simp [fmB, h3]
    rw [e]
    exact formed_3 k i vs s A n cap w hn hs
  by_cases h4 : op.toList = [97, 110, 100]
  · obtain rfl : op = ⟨#[97, 110, 100]⟩ := bytes_of h4
    have e : fmB ⟨#[97, 110, 100]⟩ k i vs s n = fmTwo k i vs s n := by simp [fmB, h4]
    rw [e]
    exact formed_4 k i vs s A n cap w hn hs
  by_cases h5 : op.toList = [111, 114]
  · obtain rfl : op = ⟨#[111, 114]⟩ := bytes_of h5
    have e : fmB ⟨#[111, 114]⟩ k i vs s n = fmTwo k i vs s n := by simp [fmB, h5]
    rw [e]
    exact formed_5 k i vs s A n cap w hn hs
  by_cases h6 : op.toList = [61]
  · obtain rfl : op = ⟨#[61]⟩ := bytes_of h6
    have e : fmB ⟨#[61]⟩ k i vs s n = fmTwo k i vs s n := by simp [fmB, h6]
    rw [e]
    exact formed_6 k i vs s A n cap w hn hs
  by_cases h7 : op.toList = [60]
  · obtain rfl : op = ⟨#[60]⟩ := bytes_of h7
    have e : fmB ⟨#[60]⟩ k i vs s n = fmTwo k i vs s n := by simp [fmB, h7]
    rw [e]
    exact formed_7 k i vs s A n cap w hn hs
  by_cases h8 : op.toList = [43]
  · obtain rfl : op = ⟨#[43]⟩ := bytes_of h8
    have e : fmB ⟨#[43]⟩ k i vs s n = fmTwo k i vs s n := by simp [fmB, h8]
    rw [e]
    exact formed_8 k i vs s A n cap w hn hs
  by_cases h9 : op.toList = [45]
  · obtain rfl : op = ⟨#[45]⟩ := bytes_of h9
    have e : fmB ⟨#[45]⟩ k i vs s n = fmTwo k i vs s n := by simp [fmB, h9]
    rw [e]
    exact formed_9 k i vs s A n cap w hn hs
  have e : fmB op k i vs s n = false := by simp [fmB, h0, h1, h2, h3, h4, h5, h6, h7, h8, h9]
  rw [e]
  exact formed_no op k i vs s A n cap w hn hs (beq_eq_false_iff_ne.2 h0) (beq_eq_false_iff_ne.2 h1) (beq_eq_false_iff_ne.2 h2) (beq_eq_false_iff_ne.2 h3) (beq_eq_false_iff_ne.2 h4) (beq_eq_false_iff_ne.2 h5) (beq_eq_false_iff_ne.2 h6) (beq_eq_false_iff_ne.2 h7) (beq_eq_false_iff_ne.2 h8) (beq_eq_false_iff_ne.2 h9)
end Go.Proofs.YtmhkmliebhbkdaaGreat
