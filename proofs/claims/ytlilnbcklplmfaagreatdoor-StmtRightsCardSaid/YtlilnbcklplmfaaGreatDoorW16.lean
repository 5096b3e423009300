import Derived.Test.YtlilnbcklplmfaaGreatDoorRows
import Derived.Test.YtlilnbcklplmfaaGreatDoorW02
import Derived.Lib.LaidTab
import Derived.Stop.LaidErr
import Derived.MakeChecks
import Derived.Test.YtlilnbcklplmfaaGreatDoorW03
import Derived.LaidLaws
import Derived.Test.YtlilnbcklplmfaaGreatDoorW15
import Derived.Test.YtlilnbcklplmfaaGreatDoorW07
import Derived.ChangeMaps5

/- What a row's condition on the listed variables says of them. -/
namespace Go.Proofs.YtlilnbcklplmfaaGreatDoor
open Go.RowKit Go.Lib

theorem pow10_data : (Rows.laid_internal_strconv_uint64pow10 : DataW Unit) = tabData .u64 pow10Tab := by kernel_rfl
theorem tab_of_row {laid : List (String × DataW Unit)} {W : World} (h : laidMetH Tryz.prog laid W) (hp : (laid.all fun x => x.2.handleName?.isNone) = true) {x y : String × DataW Unit} {r : List (String × DataW Unit)}
    (hl : laid = x :: y :: ("internal/strconv.uint64pow10", Rows.laid_internal_strconv_uint64pow10) :: r) : Lib.TabIs Tryz.prog W "internal/strconv.uint64pow10" .u64 Lib.pow10Tab := by
  rw [MakeChecks.laidMetH_plain _ _ _ hp, hl, pow10_data] at h
  exact tabIs_of_head (g := 4) (by kernel_rfl) (by kernel_rfl) Tryz.underlying257 Tryz.underlying239 (by kernel_rfl) (by kernel_rfl) h.tail.tail
theorem libs_of {laid : List (String × DataW Unit)} {W : World} {m : Int} (h : laidMetH Tryz.prog laid W) (hm : W.cell? ⟨1, 0, none⟩ = some (.int .i64 m)) (hp : (laid.all fun x => x.2.handleName?.isNone) = true) {x y : String × DataW Unit} {r : List (String × DataW Unit)}
    (hl : laid = x :: y :: ("internal/strconv.uint64pow10", Rows.laid_internal_strconv_uint64pow10) :: r) : Libs W := ⟨tab_of_row h hp hl, m, hm⟩
end Go.Proofs.YtlilnbcklplmfaaGreatDoor

/- What a row's condition on the listed variables says of the library's two errors. -/
namespace Go.Proofs.YtlilnbcklplmfaaGreatDoor
open Go.RowKit Go.Lib

theorem es_star : "*" ++ "errors.errorString" = "*errors.errorString" := by decide
theorem es_row (u : TypeId) (h : Tryz.prog.typeName? 3 u = some "*errors.errorString") : u = 270 :=
  typeName_ptr_named (nm := "errors.errorString") (by rw [es_star]; kernel_rfl) (by kernel_rfl) (by decide) u (by rw [es_star]; exact h)
theorem errs_of {laid : List (String × DataW Unit)} {W : World} (h : laidMetH Tryz.prog laid W) (hp : (laid.all fun x => x.2.handleName?.isNone) = true) {x y z u : String × DataW Unit} {r : List (String × DataW Unit)}
    (hl : laid = x :: y :: z :: u :: ("strconv.ErrRange", Rows.laid_strconv_ErrRange) :: ("strconv.ErrSyntax", Rows.laid_strconv_ErrSyntax) :: r) : Errs W := by
  rw [MakeChecks.laidMetH_plain _ _ _ hp, hl] at h
  have h4 := h.tail.tail.tail.tail
  obtain ⟨a1, s1, hv1, _⟩ := laid_sentinel (g := 6) (ti := 209) (tp := 270) (te := 272) (ts := 9) h4 (by kernel_rfl) (by kernel_rfl) Tryz.underlying209 es_row Tryz.underlying270 Tryz.underlying272 rfl rfl Tryz.underlying9 (by kernel_rfl) (by kernel_rfl)
  obtain ⟨a2, s2, hv2, _⟩ := laid_sentinel (g := 5) (ti := 209) (tp := 270) (te := 272) (ts := 9) h4.tail (by kernel_rfl) (by kernel_rfl) Tryz.underlying209 es_row Tryz.underlying270 Tryz.underlying272 rfl rfl Tryz.underlying9 (by kernel_rfl) (by kernel_rfl)
  exact ⟨⟨_, _, by have := World.var?_cell (g := 5) (by kernel_rfl) hv2 0; simpa using this⟩, ⟨_, _, by have := World.var?_cell (g := 6) (by kernel_rfl) hv1 0; simpa using this⟩⟩
end Go.Proofs.YtlilnbcklplmfaaGreatDoor

/- StmtRights: for every input the law returns true, and the input reads behind the call as it did. The row and its tied card. -/
namespace Go.Proofs.YtlilnbcklplmfaaGreatDoor
open Go.ChangeShapes Go.WideShapes Go.ChangeAt Go.RowKit Go.ChangeMaps

set_option maxRecDepth 100000 in
theorem stmtRights_lifted (os : Os) (started : os.Started) (H : Type) (enc : TypeId × Value → H) :
    ReturnsInHanded {} Tryz.checked os 3 .any (fun w args => (Rows.stmtRightsSpec.pre enc Tryz.prog Tryz.f3 [] false w args ∧ laidMetH Tryz.prog Rows.stmtRightsRow.laid w) ∧ sizedMet enc Tryz.prog Tryz.f3 (OpenSpec.ofChange Rows.stmtRightsSpec) false w args)
      (Rows.stmtRightsSpec.post enc Tryz.prog Tryz.f3 false true false false) := by
  refine returns_laid_shaped (C := Tryz.checked) (X := fun w _ => laidMetH Tryz.prog Rows.stmtRightsRow.laid w) (fun _ _ _ hh h => h.of_heap hh) own started (by kernel_rfl) Tryz.func3
    (ChangeSpec.witness_shaped (enc := enc) (C := Tryz.checked) (os := os) (X := fun w _ => laidMetH Tryz.prog Rows.stmtRightsRow.laid w) false (World.laidAll Tryz.prog os Rows.stmtRightsRow.laid) #[.string ⟨#[]⟩, .string ⟨#[]⟩] 8 (World.laidAll_os _ _ _)
      (World.shaped_of_ZipB (by kernel_rfl) (by kernel_rfl)) (by kernel_rfl) (by kernel_rfl) (by kernel_rfl)
      (by rw [MakeChecks.laidMetH_plain _ _ _ (by kernel_rfl)]; exact laidMet_laidAll _ (by kernel_rfl) (by kernel_rfl))) ?_
  intro W base args ds gs before hval0 hW hL hsh
  have hval : ∀ (j : Nat) t v, Tryz.f3.params[j]? = some t → args[j]? = some v → Value.okWide Tryz.prog W .any base t v := hval0
  have hW' := hW
  obtain ⟨p, q, hA0, hV, rfl, _, _⟩ := hW
  have hA : DataW.TrodAll enc Tryz.prog W 0 (fun _ => true) true Tryz.f3.params.toList args.toList ds p := hA0
  rw [Tryz.params3] at hA hval
  obtain ⟨v0, v1, d0, d1, p0, p1, rfl, rfl, rfl, h0, h1⟩ := trodAll_two hA
  obtain ⟨rfl, rfl⟩ := trodVars_none hV
  obtain ⟨s0, rfl, rfl, rfl, ws0⟩ := open_string Tryz.underlying9 (hval 0 9 v0 rfl rfl) h0
  obtain ⟨s1, rfl, rfl, rfl, ws1⟩ := open_string Tryz.underlying9 (hval 1 9 v1 rfl rfl) h1
  obtain ⟨m, hm⟩ := maxLen_cell hsh
  clear hA0 hval0
  simp only [List.append_nil] at hW'
  refine (law_rights s0 s1 W ⟨libs_of hL hm (by kernel_rfl) rfl, errs_of hL (by kernel_rfl) rfl⟩ ws0 ws1 (fun W hW => awake5_any W hW)).mono fun e W' ⟨he, hb⟩ => ?_
  subst he
  refine ⟨_, rfl, _, _, _, [], [], [], hW', ?_, ?_, ?_, hb.frame _, fun h => by cases h⟩
  · exact trodAll_mk1 (shut_bool Tryz.underlying4 true)
  · exact trodAll_mk2 (shut_string Tryz.underlying9 ws0) (shut_string Tryz.underlying9 ws1)
  · rfl

theorem stmtRights_holds : Rows.StmtRightsSaid :=
  OpenClaim.holds_of_wide 3 Tryz.f3 rfl rfl rfl rfl rfl rfl rfl ⟨rfl, rfl, rfl, rfl, rfl⟩ rfl rfl rfl rfl rfl (by kernel_rfl) Tryz.func3 (by kernel_rfl)
    (of_decide_eq_true (by kernel_rfl)) (by unfold Func.isWrapper; rw [if_neg (of_decide_eq_false (by kernel_rfl))]; exact ⟨rfl, rfl⟩)
    (fun os started H enc _ => stmtRights_lifted os started H enc)

theorem stmtRights_card : Rows.StmtRightsCardSaid :=
  Claim7.holds_tied_plain_at .later [] _ _ _ _ stmtRights_holds (fun _ h => by cases h) (by kernel_rfl) (fun _ h => by cases h) stmtRights_row_tie rfl ⟨rfl, rfl⟩ (by kernel_rfl) rfl
    (fun f fn hf hfn => by
      obtain rfl : f = 3 := Option.some.inj ((show Tryz.prog.funcNamed "caddis/caddislaw05.StmtRights" = some 3 by kernel_rfl).symm.trans hf) |>.symm
      obtain rfl : fn = Tryz.f3 := (Option.some.inj (Tryz.func3.symm.trans hfn)).symm
      exact ⟨by kernel_rfl, fun j t ht => by
        rw [Tryz.params3] at ht
        have hm : t ∈ [9, 9] := by simpa using Array.mem_of_getElem? ht
        have hall : ([9, 9].all fun u => !Tryz.prog.wantsStandIn u) = true := by kernel_rfl
        exact (show Tryz.prog.wantsStandIn t = false by simpa using List.all_eq_true.1 hall t hm)⟩)
    (by kernel_rfl)
end Go.Proofs.YtlilnbcklplmfaaGreatDoor
