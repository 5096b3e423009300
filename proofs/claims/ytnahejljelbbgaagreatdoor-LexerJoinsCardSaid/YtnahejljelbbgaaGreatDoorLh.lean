import Derived.Test.YtnahejljelbbgaaGreatDoorLg
/- The chapter's examples (awake). -/
namespace Go.Proofs.YtnahejljelbbgaaGreatDoor
open Go.RowKit Go.Lib

theorem fst_a3 : fst (skip [97, 61, 49]) = some (⟨1, [97]⟩, 1) := by rfl
theorem fst_a2 : fst (skip [61, 49]) = some (⟨4, [61]⟩, 1) := by rfl
theorem fst_a1 : fst (skip [49]) = some (⟨2, [49]⟩, 1) := by rfl
theorem cut_a : cutR [97, 61, 49] = some [⟨1, [97]⟩, ⟨4, [61]⟩, ⟨2, [49]⟩] := by
  refine cutR_some ?_ (by simp)
  rw [show cut [97, 61, 49] = (cut [61, 49]).map ((⟨1, [97]⟩ : Tk) :: ·) from cut_more (l := [97, 61, 49]) (n := 1) fst_a3]
  rw [show cut [61, 49] = (cut [49]).map ((⟨4, [61]⟩ : Tk) :: ·) from cut_more (l := [61, 49]) (n := 1) fst_a2]
  rw [show cut [49] = (cut []).map ((⟨2, [49]⟩ : Tk) :: ·) from cut_more (l := [49]) (n := 1) fst_a1]
  rw [cut_end rfl]
  rfl
theorem fst_b7 : fst (skip [39, 105, 116, 39, 39, 115, 39]) = some (⟨3, [105, 116, 39, 115]⟩, 7) := by 
  have h : mayB 2 0 ⟨[105, 116, 39, 115].toArray⟩ = true := by decide
  show fst [39, 105, 116, 39, 39, 115, 39] = _
  simp [fst, qscan]
  exact h
theorem cut_b : cutR [39, 105, 116, 39, 39, 115, 39] = some [⟨3, [105, 116, 39, 115]⟩] := by
  refine cutR_some ?_ (by simp)
  rw [show cut [39, 105, 116, 39, 39, 115, 39] = (cut []).map ((⟨3, [105, 116, 39, 115]⟩ : Tk) :: ·) from cut_more (l := [39, 105, 116, 39, 39, 115, 39]) (n := 7) fst_b7]
  rw [cut_end rfl]
  rfl
theorem fst_c2 : fst (skip [49, 97]) = some (⟨2, [49]⟩, 1) := by rfl
theorem fst_c1 : fst (skip [97]) = some (⟨1, [97]⟩, 1) := by rfl
theorem cut_c : cutR [49, 97] = some [⟨2, [49]⟩, ⟨1, [97]⟩] := by
  refine cutR_some ?_ (by simp)
  rw [show cut [49, 97] = (cut [97]).map ((⟨2, [49]⟩ : Tk) :: ·) from cut_more (l := [49, 97]) (n := 1) fst_c2]
  rw [show cut [97] = (cut []).map ((⟨1, [97]⟩ : Tk) :: ·) from cut_more (l := [97]) (n := 1) fst_c1]
  rw [cut_end rfl]
  rfl
theorem cut_d : cutR [59] = none := cutR_none (cut_none (l := [59]) rfl (by decide))
/-- Tokens that the call has just laid. -/
theorem lit_toks {W : World} {t : TypeId} (l : List Tk) (cs : Array Value) (hc : cs = (tcells l).toArray) : Toks (W.alloc (.cells cs t)) (W.heap.size + 1) (some ⟨W.heap.size, 0, none⟩) l.length l := by
  subst hc
  refine ⟨rfl, fun j hj => ⟨_, rfl, ?_, by simp⟩⟩
  have hadd : (⟨W.heap.size, 0, none⟩ : Addr).add (j * 2) = ⟨W.heap.size, j * 2, none⟩ := by unfold Addr.add; split <;> simp_all
  obtain ⟨c0, c1⟩ := tcells_at l j hj
  rw [hadd]
  have key : ∀ k, (W.alloc (.cells (tcells l).toArray t)).cell? ⟨W.heap.size, k, none⟩ = (tcells l)[k]? := fun k => by
    rw [cell_of_row _ W.heap.size k _ t (0, 0) (heap_alloc_new W _)]
    simp
  exact ⟨(key _).trans c0, (key _).trans c1⟩
theorem Toks.alloc {W : World} {A : Option Addr} {n : Nat} {l : List Tk} (h : Toks W W.heap.size A n l) (o : Obj) : Toks (W.alloc o) (W.alloc o).heap.size A n l := h.later ((Below.refl _ _).alloc (Nat.le_refl _) o)
theorem same_lit (A : Option Addr) (cap : Nat) (l : List Tk) (n : Nat) (hn : l.length = n) (hn2 : n ≤ 100000) (W : World) (t : TypeId) (cs : Array Value) (hc : cs = (tcells l).toArray) (hv : Toks W W.heap.size A n l) :
    Calls Tryz.prog 10 #[.slice A n cap, .slice (some ⟨W.heap.size, 0, none⟩) n n] (W.alloc (.cells cs t)) fun e w' => e = .returned (.bool true) ∧ Below (W.alloc (.cells cs t)).heap.size (W.alloc (.cells cs t)) w' := by
  have h2 := (lit_toks (W := W) (t := t) l cs hc).more (B' := (W.alloc (.cells cs t)).heap.size) (by simp)
  rw [hn] at h2
  have := sameT_any A n cap l (some ⟨W.heap.size, 0, none⟩) n n l (W.alloc (.cells cs t)) hn2 hn2 (hv.alloc _) h2
  rwa [sameTL_self] at this

set_option maxRecDepth 100000 in
set_option maxHeartbeats 1600000 in
theorem awake3_any (w : World) (hl : LibE w) :
    Calls Tryz.prog 8 #[] w fun e w' => e = .returned (.bool true) ∧ Below w.heap.size w w' := by
  have HL := Lib.hid hl
  clear hl
  go_enter Tryz.func8, Tryz.ntmps8
  go_wp2_with (first
    | (go_at_call_of 9 (Value.string ⟨#[97, 61, 49]⟩); refine (cut_ok' ⟨#[97, 61, 49]⟩ _ (by decide) (HL.out.keep (by repeat (first | (with_reducible exact Below.refl _ _) | ((with_reducible refine cSet3 ?_ ?_ _ _ _); (· ((try simp) <;> omega))) | (with_reducible refine Below.drew ?_) | ((with_reducible refine cAlloc ?_ ?_ _); (· ((try simp) <;> omega))) | ((with_reducible refine cOn (by assumption) ?_ ?_); (· ((try simp) <;> omega))))) (Nat.le_refl _)) _ cut_a 3 rfl).mono ?_; rintro e w1 ⟨A1, c1, rfl, HT1, hb1⟩; have hy1 := hb1.size; (try simp at hy1))
    | (go_at_call_of 9 (Value.string ⟨#[39, 105, 116, 39, 39, 115, 39]⟩); refine (cut_ok' ⟨#[39, 105, 116, 39, 39, 115, 39]⟩ _ (by decide) (HL.out.keep (by repeat (first | (with_reducible exact Below.refl _ _) | ((with_reducible refine cSet3 ?_ ?_ _ _ _); (· ((try simp) <;> omega))) | (with_reducible refine Below.drew ?_) | ((with_reducible refine cAlloc ?_ ?_ _); (· ((try simp) <;> omega))) | ((with_reducible refine cOn (by assumption) ?_ ?_); (· ((try simp) <;> omega))))) (Nat.le_refl _)) _ cut_b 1 rfl).mono ?_; rintro e w2 ⟨A2, c2, rfl, HT2, hb2⟩; have hy2 := hb2.size; (try simp at hy2))
    | (go_at_call_of 9 (Value.string ⟨#[49, 97]⟩); refine (cut_ok' ⟨#[49, 97]⟩ _ (by decide) (HL.out.keep (by repeat (first | (with_reducible exact Below.refl _ _) | ((with_reducible refine cSet3 ?_ ?_ _ _ _); (· ((try simp) <;> omega))) | (with_reducible refine Below.drew ?_) | ((with_reducible refine cAlloc ?_ ?_ _); (· ((try simp) <;> omega))) | ((with_reducible refine cOn (by assumption) ?_ ?_); (· ((try simp) <;> omega))))) (Nat.le_refl _)) _ cut_c 2 rfl).mono ?_; rintro e w3 ⟨A3, c3, rfl, HT3, hb3⟩; have hy3 := hb3.size; (try simp at hy3))
    | (go_at_call_of 9 (Value.string ⟨#[59]⟩); refine (cut_no ⟨#[59]⟩ _ (by decide) (HL.out.keep (by repeat (first | (with_reducible exact Below.refl _ _) | ((with_reducible refine cSet3 ?_ ?_ _ _ _); (· ((try simp) <;> omega))) | (with_reducible refine Below.drew ?_) | ((with_reducible refine cAlloc ?_ ?_ _); (· ((try simp) <;> omega))) | ((with_reducible refine cOn (by assumption) ?_ ?_); (· ((try simp) <;> omega))))) (Nat.le_refl _)) cut_d).mono ?_; rintro e w4 ⟨rfl, hb4⟩; have hy4 := hb4.size; (try simp at hy4))
    | (go_at_call_of 10 (Value.slice A1 3 c1); refine (same_lit A1 c1 [⟨1, [97]⟩, ⟨4, [61]⟩, ⟨2, [49]⟩] 3 rfl (by omega) w4 _ _ (by simp [tcells, Tk.cells]) (((HT1.out.later hb2).later hb3).later hb4)).mono ?_; rintro e w5 ⟨rfl, hb5⟩; have hy5 := hb5.size; (try simp at hy5))
    | (go_at_call_of 10 (Value.slice A2 1 c2); refine (same_lit A2 c2 [⟨3, [105, 116, 39, 115]⟩] 1 rfl (by omega) w5 _ _ (by simp [tcells, Tk.cells]) ((((HT2.out.later hb3).later hb4).alloc _).later hb5)).mono ?_; rintro e w6 ⟨rfl, hb6⟩; have hy6 := hb6.size; (try simp at hy6)))
  go_ret
  refine ⟨rfl, ?_⟩
  repeat (first | (with_reducible exact Below.refl _ _) | ((with_reducible refine cSet3 ?_ ?_ _ _ _); (· ((try simp) <;> omega))) | (with_reducible refine Below.drew ?_) | ((with_reducible refine cAlloc ?_ ?_ _); (· ((try simp) <;> omega))) | ((with_reducible refine cOn (by assumption) ?_ ?_); (· ((try simp) <;> omega))))
end Go.Proofs.YtnahejljelbbgaaGreatDoor
