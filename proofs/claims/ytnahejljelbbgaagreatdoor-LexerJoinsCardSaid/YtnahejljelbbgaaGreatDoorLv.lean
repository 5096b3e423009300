import Derived.Test.YtnahejljelbbgaaGreatDoorLq
/- The law's tokens: how many are looked at. -/
namespace Go.Proofs.YtnahejljelbbgaaGreatDoor
open Go.RowKit Go.Lib

def Tk.cut60 (x : Tk) : Tk := ⟨x.k, x.s.take 60⟩
def toksL (l : List Tk) : List Tk := (l.take 401).map Tk.cut60
theorem Toks.take {W : World} {B : Nat} {A : Option Addr} {n m : Nat} {l : List Tk} (h : Toks W B A n l) (hm : m ≤ n) : Toks W B A m (l.take m) := by
  have hl := h.1
  refine ⟨by simp; omega, fun j hj => ?_⟩
  have hj' : j < l.length := by simp at hj; omega
  obtain ⟨a, e, h1, h2⟩ := h.2 j hj'
  exact ⟨a, e, by rw [List.getElem_take]; exact h1, h2⟩
theorem cut60_short {x : Tk} {xs : ByteArray} (h : (⟨x.s.toArray⟩ : ByteArray) = xs) (hz : xs.size ≤ 60) : x.cut60.cells = [.int .i64 x.k, .string xs] := by
  have : x.s.length ≤ 60 := by rw [← h] at hz; simpa [ByteArray.size] using hz
  unfold Tk.cut60 Tk.cells
  rw [List.take_of_length_le this, h]
theorem cut60_long {x : Tk} {xs : ByteArray} (h : (⟨x.s.toArray⟩ : ByteArray) = xs) : x.cut60.cells = [.int .i64 x.k, .string (xs.extract 0 60)] := by
  unfold Tk.cut60 Tk.cells
  rw [← h]
  simp [ByteArray.extract, ByteArray.copySlice]

set_option maxRecDepth 100000 in
set_option maxHeartbeats 4000000 in
theorem tokens_few (A : Option Addr) (n cap : Nat) (l : List Tk) (w : World) (hn : n ≤ maxLen) (hv : Toks w w.heap.size A n l) (hs : ∀ x ∈ l, (⟨x.s.toArray⟩ : ByteArray).size ≤ maxLen) (h4 : n ≤ 401) :
    Calls Tryz.prog 5 #[.slice A n cap] w fun e w' => ∃ v, e = .returned v ∧ OwnT w' w.heap.size v (toksL l) ∧ Below w.heap.size w w' := by
  unfold maxLen at hn
  obtain ⟨i0, hi, hz0, hz1, hz2⟩ := info_parts infoTok
  have HV := Lib.hid hv
  have HL := Lib.hid hv.1
  have HS := Lib.hid hs
  have h4' : ¬ (401 : Int) < (n : Int) := by omega
  clear hv hs
  go_enter Tryz.func5, Tryz.ntmps5
  go_wp2
  go_loopw [3, 4] (fun v i wr => ∃ (d : List Tk), d.length ≤ n ∧ i = .int .i64 d.length ∧ OwnT wr w.heap.size v d ∧ Below w.heap.size w wr ∧ Hid (d = (l.take d.length).map Tk.cut60)) (fun _ i _ => n - (intOf i).toNat)
  case atStart => exact ⟨[], by simp, rfl, World.ownsRow_nil _ _ _ _, Below.refl _ _, by show _ = _; simp⟩
  case round =>
    obtain ⟨d, hk, rfl, hown, hb, HD⟩ := hrel
    have HO := Lib.hid hown
    obtain ⟨A', cap', rfl⟩ := hown.form
    clear hown
    have hbs := hb.size
    by_cases hlt : d.length < n
    · have hkn : (d.length : Int) < ((n : Nat) : Int) := by omega
      obtain ⟨a, x, rfl, hx, hA, hB⟩ := HV.out.at_ hlt
      have hxs := HS.out x (List.mem_of_getElem? hx)
      obtain ⟨xk, xs, xe⟩ : ∃ k s, x.k = k ∧ (⟨x.s.toArray⟩ : ByteArray) = s := ⟨_, _, rfl, rfl⟩
      have hA' := hA.keep hb (by rw [add_blk]; exact hB)
      have HA : Hid (TkAt wr (a.add (d.length * 2)) x ∧ (a.add (d.length * 2)).block < wr.heap.size) := ⟨hA', by rw [add_blk]; omega⟩
      have ck := hA'.k
      have cs := hA'.s
      rw [xe.1] at ck
      rw [xe.2] at cs hxs
      have HX := Lib.hid hx
      have HE := Lib.hid xe
      clear hx hA hA' xe
      have HDN := Lib.hid (show d ++ [x.cut60] = (l.take (d.length + 1)).map Tk.cut60 by rw [ttake_at HX.out, List.map_append, ← HD.out]; rfl)
      by_cases hz : xs.size ≤ 60
      · have hz' : ¬ (60 : Int) < (xs.size : Int) := by omega
        have HC := Lib.hid (cut60_short HE.out.2 hz)
        have HO3 := Lib.hid (HO.out.alloc (.cells #[.int .i64 xk, .string xs] 37))
        have HB3 := Lib.hid (hb.alloc hbs (.cells #[.int .i64 xk, .string xs] 37))
        go_wp2_with (at_builtin; refine wpList_append_own _ rfl _ _ 22 rfl w.heap.size 37 i0 _ 2 24 Tryz.underlying22 hi hz0 hz1 hz2 rfl (by decide) _ _ _ rfl (World.ownsRow.alloc HO3.out _) ⟨wr.heap.size + 1, 0, none⟩ 1 1 [.int .i64 xk, .string xs] rfl rfl ?c1 ?c2 ?c3 ?c4 ?c5 ?_)
        case c2 => first | exact ⟨rfl, rfl⟩ | (intro u hu; simp at hu; rcases hu with rfl | rfl <;> rfl)
        case c3 => unfold maxLen; omega
        case c4 => omega
        case c5 => first | omega | (simp; done) | (simp; omega)
        intro v' w4 hown' hgrow _
        have HO4 : Hid (OwnT w4 w.heap.size v' (d ++ [x.cut60])) := by
          show w4.ownsRow _ _ 2 v' (d ++ [x.cut60]).length _
          rw [tcells_snoc, List.length_append, HC.out, HE.out.1]
          exact hown'
        have hz := hgrow.size
        have HB4 : Hid (Below w.heap.size w w4) := (HB3.out.alloc (by simp; omega) _).grown hgrow (by simp; omega) fun g hg => (HO3.out.lt g hg).1
        clear hown' hgrow
        go_wp2
        go_roundw
        case rel => exact ⟨d ++ [x.cut60], by simp; omega, by rw [List.length_append]; go_num, HO4.out, HB4.out, (show _ = _ by rw [List.length_append]; exact HDN.out)⟩
        case measure => simp [intOf]; omega
      · have hz' : (60 : Int) < (xs.size : Int) := by omega
        have HC := Lib.hid (cut60_long HE.out.2)
        have HO3 := Lib.hid (HO.out.alloc (.cells #[.int .i64 xk, .string (xs.extract 0 60)] 37))
        have HB3 := Lib.hid (hb.alloc hbs (.cells #[.int .i64 xk, .string (xs.extract 0 60)] 37))
        go_wp2_with (at_builtin; refine wpList_append_own _ rfl _ _ 22 rfl w.heap.size 37 i0 _ 2 24 Tryz.underlying22 hi hz0 hz1 hz2 rfl (by decide) _ _ _ rfl (World.ownsRow.alloc HO3.out _) ⟨wr.heap.size + 1, 0, none⟩ 1 1 [.int .i64 xk, .string (xs.extract 0 60)] rfl rfl ?e1 ?e2 ?e3 ?e4 ?e5 ?_)
        case e1 =>
          intro j u h
          match j with
          | 0 => simp at h; subst h; simp [Addr.add, go_sem]
          | 1 => simp at h; subst h; simp [Addr.add, go_sem]
          | j + 2 => simp at h
        case e2 => first | exact ⟨rfl, rfl⟩ | (intro u hu; simp at hu; rcases hu with rfl | rfl <;> rfl)
        case e3 => unfold maxLen; omega
        case e4 => omega
        case e5 => first | omega | (simp; done) | (simp; omega)
        intro v' w4 hown' hgrow _
        have HO4 : Hid (OwnT w4 w.heap.size v' (d ++ [x.cut60])) := by
          show w4.ownsRow _ _ 2 v' (d ++ [x.cut60]).length _
          rw [tcells_snoc, List.length_append, HC.out, HE.out.1]
          exact hown'
        have hz := hgrow.size
        have HB4 : Hid (Below w.heap.size w w4) := (HB3.out.alloc (by simp; omega) _).grown hgrow (by simp; omega) fun g hg => (HO3.out.lt g hg).1
        clear hown' hgrow
        go_wp2
        go_roundw
        case rel => exact ⟨d ++ [x.cut60], by simp; omega, by rw [List.length_append]; go_num, HO4.out, HB4.out, (show _ = _ by rw [List.length_append]; exact HDN.out)⟩
        case measure => simp [intOf]; omega
    · have hkn : ¬ (d.length : Int) < ((n : Nat) : Int) := by omega
      have HR := Lib.hid (show d = toksL l from by
        have h := HD.out
        rw [List.take_of_length_le (by have := HL.out; omega)] at h
        rw [h]
        unfold toksL
        (first | rfl | rw [List.take_of_length_le (by have := HL.out; omega)]))
      go_wp2
      go_ret
      exact ⟨_, rfl, HR.out ▸ HO.out, hb⟩

set_option maxRecDepth 100000 in
set_option maxHeartbeats 4000000 in
theorem tokens_many (A : Option Addr) (n cap : Nat) (l : List Tk) (w : World) (hn : n ≤ maxLen) (hv : Toks w w.heap.size A n l) (hs : ∀ x ∈ l, (⟨x.s.toArray⟩ : ByteArray).size ≤ maxLen) (h4 : 401 < n) (hc : n ≤ cap) :
    Calls Tryz.prog 5 #[.slice A n cap] w fun e w' => ∃ v, e = .returned v ∧ OwnT w' w.heap.size v (toksL l) ∧ Below w.heap.size w w' := by
  unfold maxLen at hn
  obtain ⟨i0, hi, hz0, hz1, hz2⟩ := info_parts infoTok
  have HV := Lib.hid (hv.take (show 401 ≤ n by omega))
  have HL := Lib.hid (hv.take (show 401 ≤ n by omega)).1
  have HS := Lib.hid (show ∀ x ∈ l.take 401, (⟨x.s.toArray⟩ : ByteArray).size ≤ maxLen from fun x hx => hs x (List.mem_of_mem_take hx))
  have h4' : (401 : Int) < (n : Int) := by omega
  clear hv hs
  go_enter Tryz.func5, Tryz.ntmps5
  go_wp2
  go_loopw [3, 4] (fun v i wr => ∃ (d : List Tk), d.length ≤ 401 ∧ i = .int .i64 d.length ∧ OwnT wr w.heap.size v d ∧ Below w.heap.size w wr ∧ Hid (d = ((l.take 401).take d.length).map Tk.cut60)) (fun _ i _ => 401 - (intOf i).toNat)
  case atStart => exact ⟨[], by simp, rfl, World.ownsRow_nil _ _ _ _, Below.refl _ _, by show _ = _; simp⟩
  case round =>
    obtain ⟨d, hk, rfl, hown, hb, HD⟩ := hrel
    have HO := Lib.hid hown
    obtain ⟨A', cap', rfl⟩ := hown.form
    clear hown
    have hbs := hb.size
    by_cases hlt : d.length < 401
    · have hkn : (d.length : Int) < ((401 : Nat) : Int) := by omega
      obtain ⟨a, x, rfl, hx, hA, hB⟩ := HV.out.at_ hlt
      have hxs := HS.out x (List.mem_of_getElem? hx)
      obtain ⟨xk, xs, xe⟩ : ∃ k s, x.k = k ∧ (⟨x.s.toArray⟩ : ByteArray) = s := ⟨_, _, rfl, rfl⟩
      have hA' := hA.keep hb (by rw [add_blk]; exact hB)
      have HA : Hid (TkAt wr (a.add (d.length * 2)) x ∧ (a.add (d.length * 2)).block < wr.heap.size) := ⟨hA', by rw [add_blk]; omega⟩
      have ck := hA'.k
      have cs := hA'.s
      rw [xe.1] at ck
      rw [xe.2] at cs hxs
      have HX := Lib.hid hx
      have HE := Lib.hid xe
      clear hx hA hA' xe
      have HDN := Lib.hid (show d ++ [x.cut60] = ((l.take 401).take (d.length + 1)).map Tk.cut60 by rw [ttake_at HX.out, List.map_append, ← HD.out]; rfl)
      by_cases hz : xs.size ≤ 60
      · have hz' : ¬ (60 : Int) < (xs.size : Int) := by omega
        have HC := Lib.hid (cut60_short HE.out.2 hz)
        have HO3 := Lib.hid (HO.out.alloc (.cells #[.int .i64 xk, .string xs] 37))
        have HB3 := Lib.hid (hb.alloc hbs (.cells #[.int .i64 xk, .string xs] 37))
        go_wp2_with (at_builtin; refine wpList_append_own _ rfl _ _ 22 rfl w.heap.size 37 i0 _ 2 24 Tryz.underlying22 hi hz0 hz1 hz2 rfl (by decide) _ _ _ rfl (World.ownsRow.alloc HO3.out _) ⟨wr.heap.size + 1, 0, none⟩ 1 1 [.int .i64 xk, .string xs] rfl rfl ?c1 ?c2 ?c3 ?c4 ?c5 ?_)
        case c2 => first | exact ⟨rfl, rfl⟩ | (intro u hu; simp at hu; rcases hu with rfl | rfl <;> rfl)
        case c3 => unfold maxLen; omega
        case c4 => omega
        case c5 => first | omega | (simp; done) | (simp; omega)
        intro v' w4 hown' hgrow _
        have HO4 : Hid (OwnT w4 w.heap.size v' (d ++ [x.cut60])) := by
          show w4.ownsRow _ _ 2 v' (d ++ [x.cut60]).length _
          rw [tcells_snoc, List.length_append, HC.out, HE.out.1]
          exact hown'
        have hz := hgrow.size
        have HB4 : Hid (Below w.heap.size w w4) := (HB3.out.alloc (by simp; omega) _).grown hgrow (by simp; omega) fun g hg => (HO3.out.lt g hg).1
        clear hown' hgrow
        go_wp2
        go_roundw
        case rel => exact ⟨d ++ [x.cut60], by simp; omega, by rw [List.length_append]; go_num, HO4.out, HB4.out, (show _ = _ by rw [List.length_append]; exact HDN.out)⟩
        case measure => simp [intOf]; omega
      · have hz' : (60 : Int) < (xs.size : Int) := by omega
        have HC := Lib.hid (cut60_long HE.out.2)
        have HO3 := Lib.hid (HO.out.alloc (.cells #[.int .i64 xk, .string (xs.extract 0 60)] 37))
        have HB3 := Lib.hid (hb.alloc hbs (.cells #[.int .i64 xk, .string (xs.extract 0 60)] 37))
        go_wp2_with (at_builtin; refine wpList_append_own _ rfl _ _ 22 rfl w.heap.size 37 i0 _ 2 24 Tryz.underlying22 hi hz0 hz1 hz2 rfl (by decide) _ _ _ rfl (World.ownsRow.alloc HO3.out _) ⟨wr.heap.size + 1, 0, none⟩ 1 1 [.int .i64 xk, .string (xs.extract 0 60)] rfl rfl ?e1 ?e2 ?e3 ?e4 ?e5 ?_)
        case e1 =>
          intro j u h
          match j with
          | 0 => simp at h; subst h; simp [Addr.add, go_sem]
          | 1 => simp at h; subst h; simp [Addr.add, go_sem]
          | j + 2 => simp at h
        case e2 => first | exact ⟨rfl, rfl⟩ | (intro u hu; simp at hu; rcases hu with rfl | rfl <;> rfl)
        case e3 => unfold maxLen; omega
        case e4 => omega
        case e5 => first | omega | (simp; done) | (simp; omega)
        intro v' w4 hown' hgrow _
        have HO4 : Hid (OwnT w4 w.heap.size v' (d ++ [x.cut60])) := by
          show w4.ownsRow _ _ 2 v' (d ++ [x.cut60]).length _
          rw [tcells_snoc, List.length_append, HC.out, HE.out.1]
          exact hown'
        have hz := hgrow.size
        have HB4 : Hid (Below w.heap.size w w4) := (HB3.out.alloc (by simp; omega) _).grown hgrow (by simp; omega) fun g hg => (HO3.out.lt g hg).1
        clear hown' hgrow
        go_wp2
        go_roundw
        case rel => exact ⟨d ++ [x.cut60], by simp; omega, by rw [List.length_append]; go_num, HO4.out, HB4.out, (show _ = _ by rw [List.length_append]; exact HDN.out)⟩
        case measure => simp [intOf]; omega
    · have hkn : ¬ (d.length : Int) < ((401 : Nat) : Int) := by omega
      have HR := Lib.hid (show d = toksL l from by
        have h := HD.out
        rw [List.take_of_length_le (by have := HL.out; omega)] at h
        rw [h]
        unfold toksL
        (first | rfl | rw [List.take_of_length_le (by have := HL.out; omega)]))
      go_wp2
      go_ret
      exact ⟨_, rfl, HR.out ▸ HO.out, hb⟩

theorem tokens_any (A : Option Addr) (n cap : Nat) (l : List Tk) (w : World) (hn : n ≤ maxLen) (hc : n ≤ cap) (hv : Toks w w.heap.size A n l) (hs : ∀ x ∈ l, (⟨x.s.toArray⟩ : ByteArray).size ≤ maxLen) :
    Calls Tryz.prog 5 #[.slice A n cap] w fun e w' => ∃ v, e = .returned v ∧ OwnT w' w.heap.size v (toksL l) ∧ Below w.heap.size w w' := by
  by_cases h : n ≤ 401
  · exact tokens_few A n cap l w hn hv hs h
  · exact tokens_many A n cap l w hn hv hs (by omega) hc
end Go.Proofs.YtnahejljelbbgaaGreatDoor
