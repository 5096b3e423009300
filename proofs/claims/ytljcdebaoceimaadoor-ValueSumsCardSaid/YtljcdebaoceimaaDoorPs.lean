/- ValueSums: for every input the law returns true, and the input reads behind the call as it did. The row and its tied card. -/
import Derived.Test.YtljcdebaoceimaaDoorVs
import Derived.Test.YtljcdebaoceimaaDoorWrap
namespace Go.Proofs.YtljcdebaoceimaaDoor
open Go.ChangeShapes Go.WideShapes Go.ChangeAt Go.RowKit

theorem array6 {α : Type} {cs : Array α} (h : cs.size = 6) : ∃ c0 c1 c2 c3 c4 c5, cs = #[c0, c1, c2, c3, c4, c5] := by
  obtain ⟨l⟩ := cs
  match l, h with
  | [c0, c1, c2, c3, c4, c5], _ => exact ⟨c0, c1, c2, c3, c4, c5, rfl⟩
theorem cellsZ : Tryd.prog.cellsOf 41 = 6 := by kernel_rfl
theorem cellsI32 : Tryd.prog.cellsOf 21 = 1 := by kernel_rfl
theorem cellsI : Tryd.prog.cellsOf 3 = 1 := by kernel_rfl
theorem cellsI64 : Tryd.prog.cellsOf 2 = 1 := by kernel_rfl
theorem cellsS : Tryd.prog.cellsOf 9 = 1 := by kernel_rfl
theorem in32_of_wf {a : Int} (h : (Lit.int .i32 a).wf = true) : In32 a := by
  simp only [Lit.wf, IntKind.min, IntKind.max, IntKind.signed, IntKind.bits, Bool.and_eq_true, decide_eq_true_eq, if_true] at h
  unfold In32
  omega
set_option maxRecDepth 100000 in
theorem open_sums {H : Type} {enc : TypeId × Value → H} {W : World} {r : Reach} {b0 base : Nat} {spare : Nat → Bool} {held : Bool} {v : Value} {d : DataW H} {p : List MemPlace}
    (hv : Value.okWide Tryd.prog W r b0 41 v) (h : DataW.Trod enc Tryd.prog W base spare held 41 v d p) :
    ∃ (a b c k i : Int) (s : ByteArray), v = .agg #[.int .i32 a, .int .i32 b, .int .i32 c, .int .i64 k, .int .i64 i, .string s] ∧ d = .agg [.lit (.int .i32 a), .lit (.int .i32 b), .lit (.int .i32 c), .agg [.lit (.int .i64 k), .lit (.int .i64 i), .lit (.string s.data.toList)]] ∧ p = [] ∧
      (Lit.int .i32 a).wf = true ∧ (Lit.int .i32 b).wf = true ∧ (Lit.int .i32 c).wf = true ∧ (Lit.int .i64 k).wf = true ∧ (Lit.int .i64 i).wf = true ∧ s.size ≤ maxLen := by
  obtain ⟨cs, rfl, hsz⟩ := okWide_struct Tryd.underlying41 hv
  obtain ⟨c0, c1, c2, c3, c4, c5, rfl⟩ := array6 (hsz.trans cellsZ)
  obtain ⟨fuel, hf⟩ := h
  obtain ⟨y0, y1, y2, y3, n, hx, _, h0, h1, h2, h3⟩ := Go.Joins.trod_struct4 Tryd.underlying41 hf
  simp only [Value.cells, cellsI32, cellsV] at h0 h1 h2 h3
  obtain ⟨a, ea, rfl, wa⟩ := DataW.trod_int Tryd.underlying21 h0
  obtain ⟨b, eb, rfl, wb⟩ := DataW.trod_int Tryd.underlying21 h1
  obtain ⟨c, ec, rfl, wc⟩ := DataW.trod_int Tryd.underlying21 h2
  obtain ⟨z0, z1, z2, n', rfl, _, g0, g1, g2⟩ := Go.Deep.trod_struct3 Tryd.underlying23 h3
  simp only [cellsI, cellsI64, cellsS] at g0 g1 g2
  obtain ⟨k, ek, rfl, wk⟩ := DataW.trod_int Tryd.underlying3 g0
  obtain ⟨i, ei, rfl, wi⟩ := DataW.trod_int Tryd.underlying2 g1
  obtain ⟨s, es, rfl, ws⟩ := DataW.trod_string Tryd.underlying9 g2
  simp at ea eb ec ek ei es hx
  subst ea eb ec ek ei es
  exact ⟨a, b, c, k, i, s, rfl, hx.1, hx.2, wa, wb, wc, wk, wi, ws⟩
set_option maxRecDepth 100000 in
theorem shut_sums {H : Type} {enc : TypeId × Value → H} {W : World} {base : Nat} {spare : Nat → Bool} {held : Bool} {a b c k i : Int} {s : ByteArray} (wa : (Lit.int .i32 a).wf = true) (wb : (Lit.int .i32 b).wf = true) (wc : (Lit.int .i32 c).wf = true) (wk : (Lit.int .i64 k).wf = true) (wi : (Lit.int .i64 i).wf = true) (ws : s.size ≤ maxLen) :
    DataW.Trod enc Tryd.prog W base spare held 41 (.agg #[.int .i32 a, .int .i32 b, .int .i32 c, .int .i64 k, .int .i64 i, .string s]) (.agg [.lit (.int .i32 a), .lit (.int .i32 b), .lit (.int .i32 c), .agg [.lit (.int .i64 k), .lit (.int .i64 i), .lit (.string s.data.toList)]]) [] := by
  obtain ⟨n, hn⟩ := shut_value (enc := enc) (W := W) (base := base) (spare := spare) (held := held) wk wi ws
  have hi : ∀ (x : Int), (Lit.int .i32 x).wf = true → DataW.trod enc Tryd.prog W base spare held (n + 1) 21 [.int .i32 x] = some (.lit (.int .i32 x), []) :=
    fun x hx => trod_int_mk n Tryd.underlying21 hx
  have h3 := DataW.trod_le (Nat.le_succ n) hn
  exact ⟨n + 2, Go.Joins.trod_struct4_mk (n := n + 1) (y0 := (.lit (.int .i32 a), [])) (y1 := (.lit (.int .i32 b), [])) (y2 := (.lit (.int .i32 c), [])) (y3 := (.agg [.lit (.int .i64 k), .lit (.int .i64 i), .lit (.string s.data.toList)], [])) Tryd.underlying41 (by rw [cellsZ]; rfl)
    (by simp only [Value.cells, cellsI32]; exact hi a wa) (by simp only [Value.cells, cellsI32]; exact hi b wb) (by simp only [Value.cells, cellsI32]; exact hi c wc) (by simp only [Value.cells, cellsV]; exact h3)⟩

set_option maxRecDepth 100000 in
theorem valueSums_lifted (os : Os) (started : os.Started) (H : Type) (enc : TypeId × Value → H) :
    ReturnsInHanded {} Tryd.checked os 10 .any (fun w args => (Rows.valueSumsSpec.pre enc Tryd.prog Tryd.f10 [] false w args ∧ laidMetH Tryd.prog Rows.valueSumsRow.laid w) ∧ sizedMet enc Tryd.prog Tryd.f10 (OpenSpec.ofChange Rows.valueSumsSpec) false w args)
      (Rows.valueSumsSpec.post enc Tryd.prog Tryd.f10 false true false false) := by
  refine returns_laid_shaped (C := Tryd.checked) (X := fun w _ => laidMetH Tryd.prog Rows.valueSumsRow.laid w) (fun _ _ _ hh h => h.of_heap hh) own started (by kernel_rfl) Tryd.func10
    (ChangeSpec.witness_shaped (enc := enc) (C := Tryd.checked) (os := os) (X := fun w _ => laidMetH Tryd.prog Rows.valueSumsRow.laid w) false (World.laidAll Tryd.prog os Rows.valueSumsRow.laid) #[.agg #[.int .i32 0, .int .i32 0, .int .i32 0, .int .i64 0, .int .i64 0, .string ⟨#[]⟩]] 8 (World.laidAll_os _ _ _)
      (World.shaped_of_ZipB (by kernel_rfl) (by kernel_rfl)) (by kernel_rfl) (by kernel_rfl) (by kernel_rfl)
      (by rw [MakeChecks.laidMetH_plain _ _ _ (by kernel_rfl)]; exact laidMet_laidAll _ (by kernel_rfl) (by kernel_rfl))) ?_
  intro W base args ds gs before hval0 hW hL hsh
  have hval : ∀ (j : Nat) t v, Tryd.f10.params[j]? = some t → args[j]? = some v → Value.okWide Tryd.prog W .any base t v := hval0
  have hW' := hW
  obtain ⟨p, q, hA0, hV, rfl, _, _⟩ := hW
  have hA : DataW.TrodAll enc Tryd.prog W 0 (fun _ => true) true Tryd.f10.params.toList args.toList ds p := hA0
  rw [Tryd.params10] at hA hval
  obtain ⟨v0, d0, rfl, rfl, h0⟩ := trodAll_one hA
  obtain ⟨rfl, rfl⟩ := trodVars_none hV
  obtain ⟨a, b, c, k0, i0, s0, rfl, rfl, rfl, wa, wb, wc, wk0, wi0, ws0⟩ := open_sums (hval 0 41 v0 rfl rfl) h0
  obtain ⟨m, hm⟩ := maxLen_cell hsh
  clear hA0 hval0
  simp only [List.append_nil] at hW'
  refine (law_sums a b c k0 i0 s0 W (in32_of_wf wa) (in32_of_wf wb) (in32_of_wf wc) ws0 m hm).mono fun e W' ⟨he, hb⟩ => ?_
  subst he
  refine ⟨_, rfl, _, _, _, [], [], [], hW', ?_, ?_, ?_, hb.frame _, fun h => by cases h⟩
  · exact trodAll_mk1 (shut_bool Tryd.underlying4 true)
  · exact trodAll_mk1 (shut_sums wa wb wc wk0 wi0 ws0)
  · rfl

theorem valueSums_holds : Rows.ValueSumsSaid :=
  OpenClaim.holds_of_wide 10 Tryd.f10 rfl rfl rfl rfl rfl rfl rfl ⟨rfl, rfl, rfl, rfl, rfl⟩ rfl rfl rfl rfl rfl (by kernel_rfl) Tryd.func10 (by kernel_rfl)
    (of_decide_eq_true (by kernel_rfl)) (by unfold Func.isWrapper; rw [if_neg (of_decide_eq_false (by kernel_rfl))]; exact ⟨rfl, rfl⟩)
    (fun os started H enc _ => valueSums_lifted os started H enc)

theorem valueSums_card : Rows.ValueSumsCardSaid :=
  Claim7.holds_tied_plain_at .later [] _ _ _ _ valueSums_holds (fun _ h => by cases h) (by kernel_rfl) (fun _ h => by cases h) valueSums_row_tie rfl ⟨rfl, rfl⟩ (by kernel_rfl) rfl
    (fun f fn hf hfn => by
      obtain rfl : f = 10 := Option.some.inj ((show Tryd.prog.funcNamed "caddis/caddislaw01.ValueSums" = some 10 by kernel_rfl).symm.trans hf) |>.symm
      obtain rfl : fn = Tryd.f10 := (Option.some.inj (Tryd.func10.symm.trans hfn)).symm
      exact ⟨by kernel_rfl, fun j t ht => by
        rw [Tryd.params10] at ht
        have hm : t ∈ [41] := by simpa using Array.mem_of_getElem? ht
        have hall : ([41].all fun u => !Tryd.prog.wantsStandIn u) = true := by kernel_rfl
        exact (show Tryd.prog.wantsStandIn t = false by simpa using List.all_eq_true.1 hall t hm)⟩)
    (by kernel_rfl)
end Go.Proofs.YtljcdebaoceimaaDoor
