import Derived.Test.YtggejkkpajpmkaaDet
/- A region whose order Go leaves open, with two loads that may come behind its first store: DetB, as DetA, but the last few may come up beside them; and operations that hand on what another one has made. No program stands in it. -/
namespace Go.Proofs.Ytggejkkpajpmkaa
open Go.RowKit

inductive TellM where
  | val (v : Value)
  | rel (R : Value → List Nat → World → Prop)
  | pure

/-- Number i comes to this value, said ahead or read off the slots. -/
def Told (P : Program) (vals : List TellM) (i : Nat) (oi : Oper) (a : Act) (v : Value) : Prop :=
  vals[i]? = some (.val v) ∨ (vals[i]? = some .pure ∧ ∀ w, (execOp a.eval oi).run P w = .ok (.value v) w)

theorem Told.one {P : Program} {vals : List TellM} {i : Nat} {oi : Oper} {a : Act} {v v' : Value} (h : Told P vals i oi a v) (w : World) (h' : Told P vals i oi a v') : v = v' := by
  rcases h with h | ⟨h, r⟩ <;> rcases h' with h' | ⟨h', r'⟩
  · rw [h] at h'; injection h' with e; injection e
  · rw [h] at h'; injection h' with e; cases e
  · rw [h] at h'; injection h' with e; cases e
  · have := (r w).symm.trans (r' w)
    injection this with e _
    injection e
theorem Told.not {P : Program} {vals : List TellM} {i : Nat} {oi : Oper} {a : Act} {v : Value} {R : Value → List Nat → World → Prop} (h : Told P vals i oi a v) (h' : vals[i]? = some (.rel R)) : False := by
  rcases h with h | ⟨h, _⟩ <;> (rw [h] at h'; injection h' with e; cases e)
theorem Told.of_same {P : Program} {vals : List TellM} {i : Nat} {oi : Oper} {a a' : Act} {v : Value} (h : Told P vals i oi a v) (he : execOp a'.eval oi = execOp a.eval oi) : Told P vals i oi a' v :=
  h.imp id fun ⟨h1, h2⟩ => ⟨h1, fun w => by rw [he]; exact h2 w⟩

def DetB (P : Program) (md : Region.Mode) (ops : Array Oper) (Q : Exit → Act → World → Prop) (w0 : World) (K : Nat) (vals : List TellM) : Nat → Array Bool → Act → List Ent → Prop
  | 0, listed, a, env => (∀ j ∈ Region.ready md ops listed, K ≤ j) ∧ ∀ w, Env w0 env w → wpAny P md ops Q 0 listed a w
  | n + 1, listed, a, env =>
    ((∀ j ∈ Region.ready md ops listed, j < K → ∃ oj v, ops[j]? = some oj ∧ Told P vals j oj a v ∧ YieldsD P md ops w0 env oj v a ∧ DetB P md ops Q w0 K vals n (listed.setIfInBounds j true) (a.put oj.dst v) env) ∧ ∀ w, Env w0 env w → wpAny P md ops Q (n + 1) listed a w) ∨
    (Region.ready md ops listed ≠ [] ∧ ∀ i ∈ Region.ready md ops listed, i < K ∧ ∃ oi, ops[i]? = some oi ∧
      ((∃ v, Told P vals i oi a v ∧ YieldsD P md ops w0 env oi v a ∧ DetB P md ops Q w0 K vals n (listed.setIfInBounds i true) (a.put oi.dst v) env) ∨
       (∃ R, vals[i]? = some (.rel R) ∧ YieldsR P md ops w0 env oi R a ∧ ∀ v F, (∃ w, Env w0 (⟨i, F, R v F⟩ :: env) w) → DetB P md ops Q w0 K vals n (listed.setIfInBounds i true) (a.put oi.dst v) (⟨i, F, R v F⟩ :: env))))

section
variable {P : Program} {md : Region.Mode} {ops : Array Oper} {Q : Exit → Act → World → Prop} {w0 : World} {K : Nat} {vals : List TellM}

theorem DetB.perm : ∀ (n : Nat) (listed : Array Bool) (a : Act) (env env' : List Ent), env.Perm env' → DetB P md ops Q w0 K vals n listed a env → DetB P md ops Q w0 K vals n listed a env'
  | 0, _, _, _, _, he, h => ⟨h.1, fun w hw => h.2 w (hw.perm he.symm)⟩
  | n + 1, listed, a, env, env', he, h => by
    rcases h with h | ⟨hne, h⟩
    · exact .inl ⟨fun j hj hjK => by
        obtain ⟨oj, v, h1, h2, h3, h4⟩ := h.1 j hj hjK
        exact ⟨oj, v, h1, h2, h3.perm he, DetB.perm n _ _ _ _ he h4⟩, fun w hw => h.2 w (hw.perm he.symm)⟩
    · refine .inr ⟨hne, fun i hi => ?_⟩
      obtain ⟨hK, oi, hoi, ⟨v, hv, hy, h⟩ | ⟨R, hv, hy, h⟩⟩ := h i hi
      · exact ⟨hK, oi, hoi, .inl ⟨v, hv, hy.perm he, DetB.perm n _ _ _ _ he h⟩⟩
      · exact ⟨hK, oi, hoi, .inr ⟨R, hv, hy.perm he, fun v F ⟨w, hw⟩ => DetB.perm n _ _ _ _ (he.cons _) (h v F ⟨w, hw.perm (he.cons _).symm⟩)⟩⟩

theorem DetB.sound : ∀ (n : Nat) (listed : Array Bool) (a : Act) (env : List Ent), DetB P md ops Q w0 K vals n listed a env → ∀ w, Env w0 env w → wpAny P md ops Q n listed a w
  | 0, _, _, _, h, w, hw => h.2 w hw
  | n + 1, listed, a, env, h, w, hw => by
    rcases h with h | ⟨hne, h⟩
    · exact h.2 w hw
    · refine ⟨fun h0 => absurd h0 hne, fun i hi => ?_⟩
      obtain ⟨_, oi, hoi, ⟨v, hv, hy, h⟩ | ⟨R, hv, hy, h⟩⟩ := h i hi
      · exact wpOp_det hoi hy hw fun w' hb => DetB.sound n _ _ _ h w' (hw.step hb)
      · exact wpOp_rel hoi hy hw fun v F w' hw' => DetB.sound n _ _ _ (h v F ⟨w', hw'⟩) w' hw'

/-- 'i' may come up and is free: it may be taken first. -/
theorem DetB.first {i : Nat} {oi : Oper} (hi : ops[i]? = some oi) (hs : Region.noSelect ops = true) (hK : i < K) :
    ∀ (n : Nat) (listed : Array Bool) (a : Act) (env : List Ent), (∃ w, Env w0 env w) → Closed md ops listed → freeK md ops K listed i = true → i ∈ Region.ready md ops listed →
      ((∃ v, Told P vals i oi a v ∧ YieldsD P md ops w0 env oi v a ∧ DetB P md ops Q w0 K vals n (listed.setIfInBounds i true) (a.put oi.dst v) env) ∨
       (∃ R, vals[i]? = some (.rel R) ∧ YieldsR P md ops w0 env oi R a ∧ ∀ v F, (∃ w, Env w0 (⟨i, F, R v F⟩ :: env) w) → DetB P md ops Q w0 K vals n (listed.setIfInBounds i true) (a.put oi.dst v) (⟨i, F, R v F⟩ :: env))) →
      DetB P md ops Q w0 K vals (n + 1) listed a env := by
  intro n
  induction n with
  | zero =>
    intro listed a env hw hcl hf hr H
    refine .inr ⟨List.ne_nil_of_mem hr, fun j hj => ?_⟩
    by_cases hji : j = i
    · subst hji; exact ⟨hK, oi, hi, H⟩
    · exfalso
      obtain ⟨hjun, oj, hoj, hall⟩ := mem_ready.1 hj
      have hno : waitsB md ops 6 j i = false := by
        cases hwt : waitsB md ops 6 j i with
        | false => rfl
        | true =>
          obtain ⟨hiun, _⟩ := mem_ready.1 hr
          have := waitsB_spec hcl 6 j i oj hoj hall hwt
          rw [getD_false_true hiun] at this
          cases this
      have hfree := freeK_spec hi hf hoj hji hjun hno
      have hj' := ready_mono hj hji
      have hleaf : ∀ t ∈ Region.ready md ops (listed.setIfInBounds i true), K ≤ t := by
        rcases H with ⟨v, _, _, h⟩ | ⟨R, _, hy, h⟩
        · exact h.1
        · obtain ⟨w, hw⟩ := hw
          obtain ⟨v, F, w', hw'⟩ := hy.some i hw
          exact (h v F ⟨w', hw'⟩).1
      have := hleaf j hj'
      omega
  | succ n ih =>
    intro listed a env hwx hcl hf hr H
    refine .inr ⟨List.ne_nil_of_mem hr, fun j hj => ?_⟩
    by_cases hji : j = i
    · subst hji; exact ⟨hK, oi, hi, H⟩
    · obtain ⟨hjun, oj, hoj, hall⟩ := mem_ready.1 hj
      obtain ⟨hiun, _⟩ := mem_ready.1 hr
      have hno : waitsB md ops 6 j i = false := by
        cases hwt : waitsB md ops 6 j i with
        | false => rfl
        | true =>
          have := waitsB_spec hcl 6 j i oj hoj hall hwt
          rw [getD_false_true hiun] at this
          cases this
      obtain ⟨hap, hjK⟩ := freeK_spec hi hf hoj hji hjun hno
      have hj' := ready_mono hj hji
      have hi' : i ∈ Region.ready md ops (listed.setIfInBounds j true) := ready_mono hr (Ne.symm hji)
      have hf' := freeK_mono (j := j) hf
      have hcl' := hcl.set hj
      obtain ⟨h1, h2, h3⟩ := Oper.apart_spec hap
      have hsi := noSel hs hi
      have hsj := noSel hs hoj
      refine ⟨hjK, oj, hoj, ?_⟩
      -- what the state behind 'i' says of 'j', whatever 'i' has left
      have look : ∀ (x : Value) (env' : List Ent), env'.filter (depB md oj) = env.filter (depB md oj) → DetB P md ops Q w0 K vals (n + 1) (listed.setIfInBounds i true) (a.put oi.dst x) env' →
          ((∃ u, Told P vals j oj a u ∧ YieldsD P md ops w0 env oj u a ∧ DetB P md ops Q w0 K vals n ((listed.setIfInBounds j true).setIfInBounds i true) ((a.put oj.dst u).put oi.dst x) env') ∨
           (∃ R, vals[j]? = some (.rel R) ∧ YieldsR P md ops w0 env oj R a ∧ ∀ u G, (∃ w, Env w0 (⟨j, G, R u G⟩ :: env') w) → DetB P md ops Q w0 K vals n ((listed.setIfInBounds j true).setIfInBounds i true) ((a.put oj.dst u).put oi.dst x) (⟨j, G, R u G⟩ :: env'))) := by
        intro x env' henv h
        have he := execOp_put oj hsj a oi.dst x h1
        have hw := wanted_put oj a oi.dst x h1
        rcases h with h | ⟨_, h⟩
        · obtain ⟨oj', u, hoj', hu, hy, h⟩ := h.1 j hj' hjK
          obtain rfl : oj' = oj := Option.some.inj (hoj'.symm.trans hoj)
          refine .inl ⟨u, hu.of_same he.symm, hy.of_same he.symm hw.symm henv.symm, ?_⟩
          rw [← listed_comm listed i j hji, ← Act.put_comm a x u h2]; exact h
        · obtain ⟨_, oj', hoj', h⟩ := h j hj'
          obtain rfl : oj' = oj := Option.some.inj (hoj'.symm.trans hoj)
          rcases h with ⟨u, hu, hy, h⟩ | ⟨R, ho, hy, h⟩
          · refine .inl ⟨u, hu.of_same he.symm, hy.of_same he.symm hw.symm henv.symm, ?_⟩
            rw [← listed_comm listed i j hji, ← Act.put_comm a x u h2]; exact h
          · refine .inr ⟨R, ho, hy.of_same he.symm hw.symm henv.symm, fun u G hG => ?_⟩
            rw [← listed_comm listed i j hji, ← Act.put_comm a x _ h2]; exact h u G hG
      have keepE : ∀ u, execOp (a.put oj.dst u).eval oi = execOp a.eval oi := fun u => execOp_put oi hsi a oj.dst u h3
      have keepW : ∀ u, Region.wanted oi (yielded ops (a.put oj.dst u).tmps) = Region.wanted oi (yielded ops a.tmps) := fun u => wanted_put oi a oj.dst u h3
      have keepF : ∀ (G : List Nat) (p : World → Prop), (⟨j, G, p⟩ :: env : List Ent).filter (depB md oi) = env.filter (depB md oi) := fun G p => dep_not hi hr hjun G p env
      have keepG : ∀ (F : List Nat) (p : World → Prop), (⟨i, F, p⟩ :: env : List Ent).filter (depB md oj) = env.filter (depB md oj) := fun F p => dep_not hoj hj hiun F p env
      rcases H with ⟨v, hv, hy, H⟩ | ⟨R, hv, hy, H⟩
      · rcases look v env rfl H with ⟨u, hu, hyj, h⟩ | ⟨Rj, hu, hyj, h⟩
        · exact .inl ⟨u, hu, hyj, ih _ _ _ hwx hcl' hf' hi' (.inl ⟨v, hv.of_same (keepE u), hy.of_same (keepE u) (keepW u) rfl, h⟩)⟩
        · exact .inr ⟨Rj, hu, hyj, fun u G hG => ih _ _ _ hG hcl' hf' hi' (.inl ⟨v, hv.of_same (keepE _), hy.of_same (keepE _) (keepW _) (keepF _ _), h u G hG⟩)⟩
      · obtain ⟨wx, hwx'⟩ := hwx
        obtain ⟨v0, F0, w', hw0⟩ := hy.some i hwx'
        rcases look _ _ (keepG _ _) (H v0 F0 ⟨w', hw0⟩) with ⟨u, hu, hyj, _⟩ | ⟨Rj, hu, hyj, _⟩
        · refine .inl ⟨u, hu, hyj, ih _ _ _ ⟨wx, hwx'⟩ hcl' hf' hi' (.inr ⟨R, hv, hy.of_same (keepE u) (keepW u) rfl, fun v F hF => ?_⟩)⟩
          rcases look _ _ (keepG _ _) (H v F hF) with ⟨u', hu', _, h⟩ | ⟨Rj, hu', _, _⟩
          · obtain rfl : u' = u := hu'.one wx hu
            exact h
          · exact (hu.not hu').elim
        · refine .inr ⟨Rj, hu, hyj, fun u G hG => ih _ _ _ hG hcl' hf' hi' (.inr ⟨R, hv, hy.of_same (keepE _) (keepW _) (keepF _ _), fun v F hF => ?_⟩)⟩
          obtain ⟨w2, hw2⟩ := hF
          rcases look _ _ (keepG _ _) (H v F ⟨w2, hw2.swap.tail⟩) with ⟨u', hu', _, _⟩ | ⟨Rj', hu', _, h⟩
          · exact (hu'.not hu).elim
          · obtain rfl : Rj' = Rj := by rw [hu] at hu'; injection hu' with e; injection e with e; exact e.symm
            exact DetB.perm n _ _ _ _ (List.Perm.swap _ _ _) (h u G ⟨w2, hw2.swap⟩)

/-- Which have come up. -/
def mark (n : Nat) (l : List Nat) : Array Bool := l.foldr (fun i L => L.setIfInBounds i true) (Array.replicate n false)

def okM (ops : Array Oper) (K : Nat) (l : List Nat) (i : Nat) : Bool :=
  closedB .any ops (mark ops.size l) && Region.noSelect ops && decide (i < K) && freeK .any ops K (mark ops.size l) i && (Region.ready .any ops (mark ops.size l)).contains i

/-- The walk in an order of one's own: l have come up, the last one first. -/
def DetM (P : Program) (ops : Array Oper) (Q : Exit → Act → World → Prop) (w0 : World) (K : Nat) (vals : List TellM) (n : Nat) (l : List Nat) (a : Act) (env : List Ent) : Prop :=
  (∃ w, Env w0 env w) → DetB P .any ops Q w0 K vals n (mark ops.size l) a env

theorem detM_begin {id : Nat} {a : Act} {w : World} (vals : List TellM) (K n : Nat) (hn : (n == ops.size) = true) (hm : P.follows .mixedOrders = true)
    (h : DetM P ops Q w.drew K vals n [] a []) : (Code.region id ops true).wp P Q a w := by
  obtain rfl : n = ops.size := by simpa using hn
  have h0 : Env w.drew [] w.drew := ⟨Below.refl _ _, (fun p hp => by cases hp), List.Pairwise.nil⟩
  exact wp_region_any hm (DetB.sound _ _ _ _ (h ⟨_, h0⟩) _ h0)

theorem detM_val (i : Nat) {oi : Oper} {v : Value} {n : Nat} {l : List Nat} {a : Act} {env : List Ent} (hok : okM ops K l i = true) (hi : ops[i]? = some oi) (hv : vals[i]? = some (.val v)) (hy : YieldsD P .any ops w0 env oi v a)
    (h : DetM P ops Q w0 K vals n (i :: l) (a.put oi.dst v) env) : DetM P ops Q w0 K vals (n + 1) l a env := by
  intro hw
  simp only [okM, Bool.and_eq_true] at hok
  obtain ⟨⟨⟨⟨q0, q1⟩, q2⟩, q3⟩, q4⟩ := hok
  exact DetB.first hi q1 (of_decide_eq_true q2) n _ a env hw (closedB_spec q0) q3 (by simpa using q4) (.inl ⟨v, .inl hv, hy, h hw⟩)
theorem detM_pure (i : Nat) {oi : Oper} (v : Value) {n : Nat} {l : List Nat} {a : Act} {env : List Ent} (hok : okM ops K l i = true) (hi : ops[i]? = some oi) (hv : vals[i]? = some .pure) (hg : Region.wanted oi (yielded ops a.tmps) = true) (hy : ∀ w, (execOp a.eval oi).run P w = .ok (.value v) w)
    (h : DetM P ops Q w0 K vals n (i :: l) (a.put oi.dst v) env) : DetM P ops Q w0 K vals (n + 1) l a env := by
  intro hw
  simp only [okM, Bool.and_eq_true] at hok
  obtain ⟨⟨⟨⟨q0, q1⟩, q2⟩, q3⟩, q4⟩ := hok
  exact DetB.first hi q1 (of_decide_eq_true q2) n _ a env hw (closedB_spec q0) q3 (by simpa using q4) (.inl ⟨v, .inr ⟨hv, hy⟩, yields_of hg (fun w _ => by rw [hy]; exact Det1_same), h hw⟩)
theorem detM_rel (i : Nat) {oi : Oper} {R : Value → List Nat → World → Prop} {n : Nat} {l : List Nat} {a : Act} {env : List Ent} (hok : okM ops K l i = true) (hi : ops[i]? = some oi) (hv : vals[i]? = some (.rel R)) (hy : YieldsR P .any ops w0 env oi R a)
    (h : ∀ v F w, Env w0 (⟨i, F, R v F⟩ :: env) w → DetM P ops Q w0 K vals n (i :: l) (a.put oi.dst v) (⟨i, F, R v F⟩ :: env)) : DetM P ops Q w0 K vals (n + 1) l a env := by
  intro hw
  simp only [okM, Bool.and_eq_true] at hok
  obtain ⟨⟨⟨⟨q0, q1⟩, q2⟩, q3⟩, q4⟩ := hok
  exact DetB.first hi q1 (of_decide_eq_true q2) n _ a env hw (closedB_spec q0) q3 (by simpa using q4) (.inr ⟨R, hv, hy, fun v F hF => h v F _ hF.choose_spec hF⟩)

theorem wpOp_value {i : Nat} {oi : Oper} {v : Value} {a : Act} {w : World} {Kt : Act → World → Prop} (hi : ops[i]? = some oi) (hg : Region.wanted oi (yielded ops a.tmps) = true) (hr : (execOp a.eval oi).run P w = .ok (.value v) w)
    (hK : Kt (a.put oi.dst v) w) : wpOp P ops Q i Kt a w := by
  unfold wpOp
  simp only [hi, hg, if_true]
  refine .inl ?_
  unfold Oper.wp
  rw [hr]
  exact hK
theorem wpOp_skip {i : Nat} {oi : Oper} {a : Act} {w w' : World} {Kt : Act → World → Prop} (hi : ops[i]? = some oi) (hg : Region.wanted oi (yielded ops a.tmps) = true) (hd : oi.dst = none) (hr : (execOp a.eval oi).run P w = .ok .skip w')
    (hK : Kt a w') : wpOp P ops Q i Kt a w := by
  unfold wpOp
  simp only [hi, hg, if_true]
  refine .inl ?_
  unfold Oper.wp
  rw [hr]
  show Kt (a.put oi.dst undef) w'
  rw [hd]
  exact hK

def leafB (md : Region.Mode) (ops : Array Oper) (K : Nat) (L : Array Bool) (i j k m : Nat) : Bool :=
  (Region.ready md ops L == [i, k]) && (Region.ready md ops (L.setIfInBounds i true) == [j, k]) && (Region.ready md ops (L.setIfInBounds k true) == [i]) &&
  (Region.ready md ops ((L.setIfInBounds i true).setIfInBounds j true) == [k]) && (Region.ready md ops ((L.setIfInBounds i true).setIfInBounds k true) == [j]) && (Region.ready md ops ((L.setIfInBounds k true).setIfInBounds i true) == [j]) &&
  (Region.ready md ops (((L.setIfInBounds i true).setIfInBounds j true).setIfInBounds k true) == [m]) && (Region.ready md ops (((L.setIfInBounds i true).setIfInBounds k true).setIfInBounds j true) == [m]) && (Region.ready md ops (((L.setIfInBounds k true).setIfInBounds i true).setIfInBounds j true) == [m]) &&
  (Region.ready md ops ((((L.setIfInBounds i true).setIfInBounds j true).setIfInBounds k true).setIfInBounds m true) == []) && (Region.ready md ops ((((L.setIfInBounds i true).setIfInBounds k true).setIfInBounds j true).setIfInBounds m true) == []) && (Region.ready md ops ((((L.setIfInBounds k true).setIfInBounds i true).setIfInBounds j true).setIfInBounds m true) == []) &&
  decide (K ≤ k)

theorem wpAny_one {i : Nat} {n : Nat} {L : Array Bool} {a : Act} {w : World} (hr : Region.ready md ops L = [i]) (h : wpOp P ops Q i (wpAny P md ops Q n (L.setIfInBounds i true)) a w) : wpAny P md ops Q (n + 1) L a w :=
  wpAny_all hr (by simp) (by simpa using h)
theorem wpAny_two {i k : Nat} {n : Nat} {L : Array Bool} {a : Act} {w : World} (hr : Region.ready md ops L = [i, k]) (h : wpOp P ops Q i (wpAny P md ops Q n (L.setIfInBounds i true)) a w) (h' : wpOp P ops Q k (wpAny P md ops Q n (L.setIfInBounds k true)) a w) : wpAny P md ops Q (n + 1) L a w :=
  wpAny_all hr (by simp) (by simpa using ⟨h, h'⟩)

/-- Two loads, one behind the other, and two stores likewise: the first store may come ahead of a load. -/
theorem detM_leaf (i j k m : Nat) {oi oj ok om : Oper} {v u : Value} {l : List Nat} {a : Act} {env : List Ent} (hB : leafB .any ops K (mark ops.size l) i j k m = true)
    (hi : ops[i]? = some oi) (hj : ops[j]? = some oj) (hk : ops[k]? = some ok) (hm : ops[m]? = some om) (hdk : ok.dst = none) (hdm : om.dst = none)
    (hvi : vals[i]? = some (.val v)) (hvj : vals[j]? = some (.val u))
    (gi : Region.wanted oi (yielded ops a.tmps) = true) (gj : Region.wanted oj (yielded ops (a.put oi.dst v).tmps) = true)
    (gk : Region.wanted ok (yielded ops a.tmps) = true) (gk1 : Region.wanted ok (yielded ops (a.put oi.dst v).tmps) = true) (gk2 : Region.wanted ok (yielded ops ((a.put oi.dst v).put oj.dst u).tmps) = true)
    (gm : Region.wanted om (yielded ops ((a.put oi.dst v).put oj.dst u).tmps) = true)
    (ri : ∀ w, Below w0.heap.size w0 w → (execOp a.eval oi).run P w = .ok (.value v) w)
    (rj : ∀ w, Below w0.heap.size w0 w → (execOp (a.put oi.dst v).eval oj).run P w = .ok (.value u) w)
    (h : ∀ w, Env w0 env w → ∃ w1 w2, Below w0.heap.size w0 w1 ∧ (execOp a.eval ok).run P w = .ok .skip w1 ∧ (execOp (a.put oi.dst v).eval ok).run P w = .ok .skip w1 ∧ (execOp ((a.put oi.dst v).put oj.dst u).eval ok).run P w = .ok .skip w1 ∧
      (execOp ((a.put oi.dst v).put oj.dst u).eval om).run P w1 = .ok .skip w2 ∧ Q .normal ((a.put oi.dst v).put oj.dst u) w2) : DetM P ops Q w0 K vals 4 l a env := by
  intro _
  simp only [leafB, Bool.and_eq_true, beq_iff_eq, decide_eq_true_eq] at hB
  obtain ⟨⟨⟨⟨⟨⟨⟨⟨⟨⟨⟨⟨q1, q2⟩, q3⟩, q4⟩, q5⟩, q6⟩, q7⟩, q8⟩, q9⟩, q10⟩, q11⟩, q12⟩, hK⟩ := hB
  have W3 : ∀ w, Env w0 env w → wpAny P .any ops Q 2 (((mark ops.size l).setIfInBounds i true).setIfInBounds j true) ((a.put oi.dst v).put oj.dst u) w := by
    intro w hw
    obtain ⟨w1, w2, hb, k0, k1, k2, m0, hQ⟩ := h w hw
    exact wpAny_one q4 (wpOp_skip hk gk2 hdk k2 (wpAny_one q7 (wpOp_skip hm gm hdm m0 (wpAny_done q10 hQ 0))))
  have W1 : ∀ w, Env w0 env w → wpAny P .any ops Q 3 ((mark ops.size l).setIfInBounds i true) (a.put oi.dst v) w := by
    intro w hw
    refine wpAny_two q2 (wpOp_value hj gj (rj w hw.below) (W3 w hw)) ?_
    obtain ⟨w1, w2, hb, k0, k1, k2, m0, hQ⟩ := h w hw
    exact wpOp_skip hk gk1 hdk k1 (wpAny_one q5 (wpOp_value hj gj (rj w1 hb) (wpAny_one q8 (wpOp_skip hm gm hdm m0 (wpAny_done q11 hQ 0)))))
  have W0 : ∀ w, Env w0 env w → wpAny P .any ops Q 4 (mark ops.size l) a w := by
    intro w hw
    refine wpAny_two q1 (wpOp_value hi gi (ri w hw.below) (W1 w hw)) ?_
    obtain ⟨w1, w2, hb, k0, k1, k2, m0, hQ⟩ := h w hw
    exact wpOp_skip hk gk hdk k0 (wpAny_one q3 (wpOp_value hi gi (ri w1 hb) (wpAny_one q6 (wpOp_value hj gj (rj w1 hb) (wpAny_one q9 (wpOp_skip hm gm hdm m0 (wpAny_done q12 hQ 0)))))))
  have yi : YieldsD P .any ops w0 env oi v a := yields_of gi fun w hw => by rw [ri w hw]; exact Det1_same
  have yj : YieldsD P .any ops w0 env oj u (a.put oi.dst v) := yields_of gj fun w hw => by rw [rj w hw]; exact Det1_same
  refine .inl ⟨fun x hx hxK => ?_, W0⟩
  rw [q1] at hx
  simp only [List.mem_cons, List.not_mem_nil, or_false] at hx
  rcases hx with rfl | rfl
  · refine ⟨oi, v, hi, .inl hvi, yi, .inl ⟨fun y hy hyK => ?_, W1⟩⟩
    rw [q2] at hy
    simp only [List.mem_cons, List.not_mem_nil, or_false] at hy
    rcases hy with rfl | rfl
    · refine ⟨oj, u, hj, .inl hvj, yj, .inl ⟨fun z hz hzK => ?_, W3⟩⟩
      rw [q4] at hz
      simp only [List.mem_cons, List.not_mem_nil, or_false] at hz
      omega
    · omega
  · omega
end
end Go.Proofs.Ytggejkkpajpmkaa
