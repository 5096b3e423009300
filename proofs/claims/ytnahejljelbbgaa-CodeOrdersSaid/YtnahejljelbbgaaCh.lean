import Derived.Test.YtnahejljelbbgaaCg
/- Same rows; which row is first: the document's own. -/
namespace Go.Proofs.Ytnahejljelbbgaa
open Go.RowKit Go.Lib

theorem VlAt.det {W W' : World} {a : Addr} {x : Vl} (h : VlAt W a x) (hb : Below W.drew.heap.size W.drew W') (hB : a.block < W.heap.size) : VlAt W' a x :=
  ⟨(hb.cell (p := a) hB).trans h.k, (hb.cell (p := ⟨a.block, _, none⟩) hB).trans h.i, (hb.cell (p := ⟨a.block, _, none⟩) hB).trans h.s⟩

def sameV (x y : Vl) : Bool := decide (x.k = y.k) && (decide (x.i = y.i) && decide (x.s.toList = y.s.toList))
def sameL : List Vl → List Vl → Bool
  | [], [] => true
  | x :: l, y :: m => sameV x y && sameL l m
  | _, _ => false
theorem sameV_iff (x y : Vl) : sameV x y = true ↔ x = y := by
  unfold sameV
  simp only [Bool.and_eq_true, decide_eq_true_eq]
  constructor
  · rintro ⟨h1, h2, h3⟩
    rw [toList_data, toList_data] at h3
    cases x; cases y
    simp only at h1 h2 h3
    subst h1 h2
    rw [show _ = _ from ByteArray.ext (Array.toList_inj.1 h3)]
  · rintro rfl; exact ⟨rfl, rfl, rfl⟩
theorem sameL_iff : ∀ (l m : List Vl), sameL l m = true ↔ l = m
  | [], [] => by simp [sameL]
  | [], _ :: _ => by simp [sameL]
  | _ :: _, [] => by simp [sameL]
  | x :: l, y :: m => by
    simp only [sameL, Bool.and_eq_true, sameV_iff, sameL_iff l m, List.cons.injEq]
theorem sameL_len {l m : List Vl} (h : l.length ≠ m.length) : sameL l m = false := by
  cases hs : sameL l m with
  | false => rfl
  | true => exact absurd (congrArg List.length ((sameL_iff l m).1 hs)) h
theorem sameL_split (k : Nat) (l m : List Vl) (h : l.take k = m.take k) : sameL l m = sameL (l.drop k) (m.drop k) := by
  have e : ∀ a b : Bool, (a = true ↔ b = true) → a = b := fun a b h => by cases a <;> cases b <;> simp_all
  apply e
  rw [sameL_iff, sameL_iff]
  constructor
  · rintro rfl; rfl
  · intro h2
    rw [← List.take_append_drop k l, ← List.take_append_drop k m, h, h2]

def ordV (x y : Vl) : Int := ordN x.k x.i x.s y.k y.i y.s
def ordL : List Vl → List Vl → Int
  | [], [] => 0
  | [], _ :: _ => -1
  | _ :: _, [] => 1
  | x :: l, y :: m => if ordV x y = 0 then ordL l m else ordV x y

end Go.Proofs.Ytnahejljelbbgaa
