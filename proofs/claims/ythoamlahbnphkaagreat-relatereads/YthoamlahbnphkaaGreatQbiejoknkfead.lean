import Derived.Test.YthoamlahbnphkaaGreatQnmfjogpfmbik
import Derived.Deep.RegionLaw

/-
  lr0: kernels.
-/
namespace Go.Proofs.YthoamlahbnphkaaGreat.J
open Go.RowKit Go.Maps Go.Shelf

attribute [local go_sem] Oper.semAt_some

/-- The kernel behind s of items in order. -/
def kerT (R : Nat → List Int) (l : List It) (s : Int) : List It := (l.filter fun x => aheadV R x == s).map fun x => (x.1, x.2 + 1)
theorem kerT_append (R : Nat → List Int) (l m : List It) (s : Int) : kerT R (l ++ m) s = kerT R l s ++ kerT R m s := by unfold kerT; rw [List.filter_append, List.map_append]
theorem kerT_one (R : Nat → List Int) (x : It) (s : Int) : kerT R [x] s = if aheadV R x = s then [(x.1, x.2 + 1)] else [] := by
  unfold kerT
  by_cases h : aheadV R x = s
  · simp [h]
  · simp [h]
theorem kerT_len (R : Nat → List Int) (l : List It) (s : Int) : (kerT R l s).length ≤ l.length := by
  unfold kerT
  rw [List.length_map]
  exact List.length_filter_le _ _

/-- While the kernels are laid. -/
structure KnAt (w P X : World) (cs : Array Value) (rb S : Nat) (K : Nat → List It) (ua : Nat → Option Addr) (uc : Nat → Nat) : Prop where
  grown : w.grownBy X none
  from_ : P.grownBy X (some rb)
  box : X.heap[w.heap.size]? = some (.cells cs 27 (0, 0))
  row : ValAt X rb S 62 (fun s => .slice (ua s) (K s).length (uc s))
  own : ∀ s, s < S → X.ownsRow P.heap.size 69 2 (.slice (ua s) (K s).length (uc s)) (K s).length (itsV (K s))
  sep : ∀ s t, s < S → t < S → s ≠ t → (Value.slice (ua s) (K s).length (uc s)).ownBlock = none ∨ (Value.slice (ua s) (K s).length (uc s)).ownBlock ≠ (Value.slice (ua t) (K t).length (uc t)).ownBlock
  lo : w.heap.size < rb ∧ rb < P.heap.size
section
variable {w P X Y Z : World} {cs : Array Value} {rb S : Nat} {K : Nat → List It} {ua : Nat → Option Addr} {uc : Nat → Nat}
theorem KnAt.kept (h : KnAt w P X cs rb S K ua uc) (hg : X.grownBy Y none) : KnAt w P Y cs rb S K ua uc :=
  ⟨grown_trans h.grown hg, CmAt.drawn.grown_two' h.from_ hg, box_kept h.box hg, h.row.kept hg, fun s hs => keep0 (h.own s hs) hg, h.sep, h.lo⟩
theorem KnAt.ph (h : KnAt w P X cs rb S K ua uc) : PhAt w X w.heap.size cs := ⟨h.grown, h.box⟩
theorem KnAt.lst {B c m : Nat} {a : Option Addr} {l : List It} (h : KnAt w P X cs rb S K ua uc) (ho : P.ownsRow B 69 2 (.slice a m c) m (itsV l)) (hr : ∃ cur : Array Value, P.heap[rb]? = some (.cells cur 62 (0, 0))) : X.ownsRow B 69 2 (.slice a m c) m (itsV l) := by
  obtain ⟨cur, hr⟩ := hr
  exact ho.kept h.from_ (owns_nebox ho hr (by decide))
def updL {α : Type} (f : Nat → α) (s : Nat) (x : α) : Nat → α := fun i => if i = s then x else f i
theorem updL_same {α : Type} (f : Nat → α) (s : Nat) (x : α) : updL f s x s = x := if_pos rfl
theorem updL_other {α : Type} (f : Nat → α) {s i : Nat} (x : α) (h : i ≠ s) : updL f s x i = f i := if_neg h
/-- One item more behind s. -/
theorem KnAt.push {s g c : Nat} {x : It} (h : KnAt w P X cs rb S K ua uc) (hs : s < S) (hX : X.grownBy Y none) (hg : Y.grownBy Z (Value.slice (ua s) (K s).length (uc s)).ownBlock) (ho : Z.ownsRow P.heap.size 69 2 (.slice (some ⟨g, 0, none⟩) ((K s).length + 1) c) ((K s).length + 1) (itsV (K s) ++ encIt x)) (hat : (Value.slice (ua s) (K s).length (uc s)).ownBlock = some g ∨ g = Y.heap.size) :
    KnAt w P (Z.setCell ⟨rb, s, none⟩ (.slice (some ⟨g, 0, none⟩) ((K s).length + 1) c)) cs rb S (updL K s (K s ++ [x])) (updL ua s (some ⟨g, 0, none⟩)) (updL uc s c) ∧ Z.cell? ⟨rb, s, none⟩ = some (.slice (ua s) (K s).length (uc s)) ∧ Z.frozen? ⟨rb, s, none⟩ = false := by
  have hY := h.kept hX
  have kp : ∀ (b : Nat) (cs : Array Value) (e : TypeId), e ≠ 69 → Y.heap[b]? = some (.cells cs e (0, 0)) → Z.heap[b]? = some (.cells cs e (0, 0)) := fun b cs e he hb => by
    refine (hg.block b (Array.getElem?_eq_some_iff.1 hb).1 ?_).trans hb
    rcases owns_nebox (hY.own s hs) hb (fun e2 => he e2.symm) with h1 | h1
    · rw [h1]; simp
    · exact fun h2 => h1 h2.symm
  have hrowZ : ValAt Z rb S 62 (fun s => .slice (ua s) (K s).length (uc s)) := kp _ _ _ (by decide) hY.row
  have G : Z.grownBy (Z.setCell ⟨rb, s, none⟩ (.slice (some ⟨g, 0, none⟩) ((K s).length + 1) c)) (some rb) := grown_setCell _ _ _
  have hgP : P.grownBy Z (some rb) := by
    have h1 := hY.from_
    refine ⟨hg.os.trans h1.os, hg.tape.trans h1.tape, hg.output.trans h1.output, Nat.le_trans h1.size hg.size, fun k hk hne => (hg.block k (Nat.lt_of_lt_of_le hk h1.size) ?_).trans (h1.block k hk hne)⟩
    intro e
    have := ((hY.own s hs).lt k e.symm).1
    omega
  have hgw : w.grownBy Z none := by
    have h1 := hY.grown
    refine ⟨hg.os.trans h1.os, hg.tape.trans h1.tape, hg.output.trans h1.output, Nat.le_trans h1.size hg.size, fun k hk hne => (hg.block k (Nat.lt_of_lt_of_le hk h1.size) ?_).trans (h1.block k hk hne)⟩
    intro e
    have h2 := ((hY.own s hs).lt k e.symm).1
    have h3 := h.lo
    omega
  have hl := h.lo
  refine ⟨⟨grown_new hgw G (by omega), CmAt.put.two hgP G, (G.block _ (Array.getElem?_eq_some_iff.1 (kp _ _ _ (by decide) hY.box)).1 (by simp; omega)).trans (kp _ _ _ (by decide) hY.box), (hrowZ.set s _).ext fun i _ => ?_, fun t ht => ?_, fun t u ht hu hne => ?_, h.lo⟩, hrowZ.cell s hs, hrowZ.free s⟩
  · unfold put
    by_cases e : i = s
    · subst e; rw [if_pos rfl, updL_same, updL_same, updL_same]; simp
    · rw [if_neg e, updL_other _ _ e, updL_other _ _ e, updL_other _ _ e]
  · by_cases e : t = s
    · subst e
      rw [updL_same, updL_same, updL_same, itsV_append, List.length_append]
      exact ho.kept G (owns_nebox ho hrowZ (by decide))
    · rw [updL_other _ _ e, updL_other _ _ e, updL_other _ _ e]
      have h1 := (hY.own t ht).kept hg (h.sep t s ht hs e)
      exact h1.kept G (owns_nebox h1 hrowZ (by decide))
  · have key : ∀ t, t < S → t ≠ s → (Value.slice (ua t) (K t).length (uc t)).ownBlock = none ∨ (Value.slice (ua t) (K t).length (uc t)).ownBlock ≠ some g := fun t ht e => by
      rcases hat with h1 | h1
      · rw [← h1]; exact h.sep t s ht hs e
      · cases hb : (Value.slice (ua t) (K t).length (uc t)).ownBlock with
        | none => exact .inl rfl
        | some k =>
          right
          intro h2
          have := ((hY.own t ht).lt k hb).2
          have : k = g := by simpa using h2
          omega
    by_cases e : t = s
    · subst e
      have e2 : u ≠ t := fun h => hne h.symm
      rw [updL_same, updL_same, updL_same, updL_other _ _ e2, updL_other _ _ e2, updL_other _ _ e2]
      right
      rcases key u hu e2 with h1 | h1
      · rw [h1]; simp [Value.ownBlock]
      · exact fun h2 => h1 h2.symm
    · rw [updL_other _ _ e, updL_other _ _ e, updL_other _ _ e]
      by_cases e2 : u = s
      · subst e2
        rw [updL_same, updL_same, updL_same]
        exact key t ht e
      · rw [updL_other _ _ e2, updL_other _ _ e2, updL_other _ _ e2]
        exact h.sep t u ht hu hne
end

end Go.Proofs.YthoamlahbnphkaaGreat.J

/-
  lr0: the walk over the kernels, pure.
-/
namespace Go.Proofs.YthoamlahbnphkaaGreat.J
open Go.RowKit Go.Maps Go.Shelf

/-- The state of a kernel, and the kernels afterwards; none: one too many. -/
def askF (ks : List (List It)) (k : List It) : Option (Nat × List (List It)) := if k ∈ ks then some (ks.idxOf k, ks) else if ks.length < 256 then some (ks.length, ks ++ [k]) else none
/-- The edges of a state, by the symbols below S. -/
def leaveF (G : Nat → List It) (ks : List (List It)) : Nat → Option (List (List It) × List (Nat × Nat))
  | 0 => some (ks, [])
  | s + 1 => match leaveF G ks s with
    | none => none
    | some (ks', ed) => if G s = [] then some (ks', ed) else match askF ks' (G s) with
      | none => none
      | some (t, ks'') => some (ks'', ed ++ [(s, t)])
/-- The automaton, once the states below i have been left. -/
def autoF (G : List It → Nat → List It) (S : Nat) : Nat → Option (List (List It) × List (List (Nat × Nat)))
  | 0 => some ([[(0, 0)]], [])
  | i + 1 => match autoF G S i with
    | none => none
    | some (ks, es) => if i < ks.length then match leaveF (G (ks.getD i [])) ks S with
        | none => none
        | some (ks', ed) => some (ks', es ++ [ed])
      else some (ks, es)

theorem leaveF_none {G : Nat → List It} {ks : List (List It)} {s : Nat} (h : leaveF G ks s = none) : ∀ d, leaveF G ks (s + d) = none
  | 0 => h
  | d + 1 => by
    have := leaveF_none h d
    show leaveF G ks ((s + d) + 1) = none
    unfold leaveF
    rw [this]
theorem autoF_none {G : List It → Nat → List It} {S i : Nat} (h : autoF G S i = none) : ∀ d, autoF G S (i + d) = none
  | 0 => h
  | d + 1 => by
    have := autoF_none h d
    show autoF G S ((i + d) + 1) = none
    unfold autoF
    rw [this]
theorem autoF_stay {G : List It → Nat → List It} {S i : Nat} {ks : List (List It)} {es : List (List (Nat × Nat))} (h : autoF G S i = some (ks, es)) (hi : ks.length ≤ i) : ∀ d, autoF G S (i + d) = some (ks, es)
  | 0 => h
  | d + 1 => by
    have := autoF_stay h hi d
    show autoF G S ((i + d) + 1) = some (ks, es)
    unfold autoF
    rw [this]
    simp only
    rw [if_neg (by omega)]
theorem autoF_step {G : List It → Nat → List It} {S i : Nat} {ks : List (List It)} {es : List (List (Nat × Nat))} (h : autoF G S i = some (ks, es)) (hi : i < ks.length) : autoF G S (i + 1) = match leaveF (G (ks.getD i [])) ks S with | none => none | some (ks', ed) => some (ks', es ++ [ed]) := by
  show (match autoF G S i with | none => none | some (ks, es) => _) = _
  rw [h]
  simp only
  rw [if_pos hi]

/-- What always holds of the kernels: none twice, 256 at most; each is in P. -/
structure KsOK (P : Nat → List It → Prop) (ks : List (List It)) : Prop where
  nodup : ks.Nodup
  le : ks.length ≤ 256
  each : ∀ j, j < ks.length → P j (ks.getD j [])

theorem getD_snoc_old {α : Type} {l : List α} {x d : α} {j : Nat} (h : j < l.length) : (l ++ [x]).getD j d = l.getD j d := by
  rw [List.getD_eq_getElem?_getD, List.getD_eq_getElem?_getD, List.getElem?_append_left h]
theorem getD_snoc_new {α : Type} {l : List α} {x d : α} : (l ++ [x]).getD l.length d = x := by
  rw [List.getD_eq_getElem?_getD, List.getElem?_append_right (Nat.le_refl _), Nat.sub_self]; rfl

theorem getD_prefix {α : Type} {l m : List α} {d : α} {j : Nat} (h : l <+: m) (hj : j < l.length) : m.getD j d = l.getD j d := by
  obtain ⟨t, rfl⟩ := h
  rw [List.getD_eq_getElem?_getD, List.getD_eq_getElem?_getD, List.getElem?_append_left hj]

theorem KsOK.ask {P : Nat → List It → Prop} {ks ks' : List (List It)} {k : List It} {t : Nat} (h : KsOK P ks) (hP : P ks.length k) (e : askF ks k = some (t, ks')) : KsOK P ks' ∧ ks <+: ks' ∧ t < ks'.length ∧ ks'.getD t [] = k := by
  unfold askF at e
  by_cases hk : k ∈ ks
  · rw [if_pos hk] at e
    cases e
    have h1 := List.idxOf_lt_length_iff.2 hk
    refine ⟨h, List.prefix_refl _, h1, ?_⟩
    rw [List.getD_eq_getElem?_getD, List.getElem?_eq_getElem h1]
    simp
  · rw [if_neg hk] at e
    by_cases hl : ks.length < 256
    · rw [if_pos hl] at e
      cases e
      refine ⟨⟨?_, by rw [List.length_append]; exact hl, fun j hj => ?_⟩, List.prefix_append _ _, by rw [List.length_append]; exact Nat.lt_succ_self _, getD_snoc_new⟩
      · rw [List.nodup_append]
        exact ⟨h.nodup, by simp, fun a ha b hb => by rw [List.mem_singleton.1 hb]; intro e; exact hk (e ▸ ha)⟩
      · rw [List.length_append] at hj
        simp only [List.length_singleton] at hj
        by_cases e : j < ks.length
        · rw [getD_snoc_old e]; exact h.each j e
        · have : j = ks.length := by omega
          subst this
          rw [getD_snoc_new]; exact hP
    · rw [if_neg hl] at e; cases e

theorem KsOK.leave {P : Nat → List It → Prop} {G : Nat → List It} {ks : List (List It)} (h : KsOK P ks) (hP : ∀ m s, ks.length ≤ m → P m (G s)) : ∀ (s : Nat) {ks' : List (List It)} {ed : List (Nat × Nat)}, leaveF G ks s = some (ks', ed) → KsOK P ks' ∧ ks <+: ks' ∧ ed.length ≤ s ∧ ∀ x ∈ ed, x.1 < s ∧ x.2 < ks'.length ∧ ks'.getD x.2 [] = G x.1
  | 0, ks', ed, e => by
    unfold leaveF at e
    cases e
    exact ⟨h, List.prefix_refl _, Nat.le_refl _, fun x hx => by cases hx⟩
  | s + 1, ks', ed, e => by
    unfold leaveF at e
    cases h1 : leaveF G ks s with
    | none => rw [h1] at e; cases e
    | some q =>
      obtain ⟨k1, e1⟩ := q
      obtain ⟨i1, i2, i3, i4⟩ := KsOK.leave h hP s h1
      rw [h1] at e
      simp only at e
      by_cases hg : G s = []
      · rw [if_pos hg] at e
        cases e
        exact ⟨i1, i2, by omega, fun x hx => ⟨by have := (i4 x hx).1; omega, (i4 x hx).2⟩⟩
      · rw [if_neg hg] at e
        cases h2 : askF k1 (G s) with
        | none => rw [h2] at e; cases e
        | some q2 =>
          obtain ⟨t, k2⟩ := q2
          rw [h2] at e
          cases e
          obtain ⟨j1, j2, j3, j4⟩ := i1.ask (hP _ s i2.length_le) h2
          refine ⟨j1, i2.trans j2, by rw [List.length_append]; exact Nat.succ_le_succ i3, fun x hx => ?_⟩
          rcases List.mem_append.1 hx with hx | hx
          · obtain ⟨q1, q2, q3⟩ := i4 x hx
            refine ⟨by omega, Nat.lt_of_lt_of_le q2 j2.length_le, ?_⟩
            rw [← q3, getD_prefix j2 q2]
          · rw [List.mem_singleton.1 hx]
            exact ⟨Nat.lt_succ_self _, j3, j4⟩

/-- What always holds of the automaton under way. -/
structure AuOK (P : Nat → List It → Prop) (G : List It → Nat → List It) (S i : Nat) (ks : List (List It)) (es : List (List (Nat × Nat))) : Prop where
  kok : KsOK P ks
  pos : 0 < ks.length
  head : ks.getD 0 [] = [(0, 0)]
  len : es.length = min i ks.length
  edges : ∀ q, q < es.length → (es.getD q []).length ≤ S ∧ ∀ x ∈ es.getD q [], x.1 < S ∧ x.2 < ks.length ∧ ks.getD x.2 [] = G (ks.getD q []) x.1

theorem autoOK {P : Nat → List It → Prop} {G : List It → Nat → List It} {S : Nat} (h0 : P 0 [(0, 0)]) (hG : ∀ i m k s, P i k → i < m → P m (G k s)) : ∀ (i : Nat) {ks : List (List It)} {es : List (List (Nat × Nat))}, autoF G S i = some (ks, es) → AuOK P G S i ks es
  | 0, ks, es, e => by
    unfold autoF at e
    cases e
    refine ⟨⟨by simp, by simp, fun j hj => ?_⟩, by simp, rfl, by simp, fun q hq => absurd hq (Nat.not_lt_zero _)⟩
    have : j = 0 := by simpa using hj
    subst this
    exact h0
  | i + 1, ks', es', e => by
    cases h1 : autoF G S i with
    | none =>
      have := autoF_none h1 1
      rw [this] at e; cases e
    | some q =>
      obtain ⟨ks, es⟩ := q
      have ih := autoOK h0 hG i h1
      by_cases hi : i < ks.length
      · rw [autoF_step h1 hi] at e
        cases h2 : leaveF (G (ks.getD i [])) ks S with
        | none => rw [h2] at e; cases e
        | some q2 =>
          obtain ⟨k2, ed⟩ := q2
          rw [h2] at e
          cases e
          obtain ⟨j1, j2, j3, j4⟩ := ih.kok.leave (fun m s hm => hG i m _ s (ih.kok.each i hi) (by omega)) S h2
          have hle := j2.length_le
          have hes : es.length = i := by rw [ih.len]; omega
          refine ⟨j1, by have := ih.pos; omega, by rw [getD_prefix j2 ih.pos]; exact ih.head, by rw [List.length_append, hes]; simp; omega, fun q hq => ?_⟩
          rw [List.length_append] at hq
          simp only [List.length_singleton] at hq
          by_cases e : q < es.length
          · rw [getD_snoc_old e]
            obtain ⟨a1, a2⟩ := ih.edges q e
            refine ⟨a1, fun x hx => ?_⟩
            obtain ⟨b1, b2, b3⟩ := a2 x hx
            refine ⟨b1, by omega, ?_⟩
            rw [getD_prefix j2 b2, getD_prefix j2 (by omega), b3]
          · have : q = es.length := by omega
            subst this
            rw [getD_snoc_new, hes, getD_prefix j2 hi]
            exact ⟨j3, j4⟩
      · have := autoF_stay h1 (Nat.le_of_not_lt hi) 1
        rw [this] at e
        cases e
        exact ⟨ih.kok, ih.pos, ih.head, by rw [ih.len]; omega, ih.edges⟩

end Go.Proofs.YthoamlahbnphkaaGreat.J

/-
  lr0: newMaker.
-/
namespace Go.Proofs.YthoamlahbnphkaaGreat.J
open Go.RowKit Go.Maps Go.Shelf

attribute [local go_sem] Oper.semAt_some

theorem mk_laid (w : World) (o1 o3 : Obj) : (((w.alloc o1).alloc (.map #[] 0)).alloc o3).heap[w.heap.size + 1 + 1]? = some o3 ∧ MpAt (((w.alloc o1).alloc (.map #[] 0)).alloc o3) (w.heap.size + 1) 0 (fun _ => .slice none 0 0) := by
  have e1 : ∀ (X : World) (o : Obj), (X.alloc o).heap.size = X.heap.size + 1 := fun X o => by simp
  constructor
  · rw [← e1 w o1, ← e1 (w.alloc o1) (.map #[] 0)]
    exact heap_alloc_last _ _
  · rw [← e1 w o1]
    exact (MpAt.made _).kept (World.grownBy_alloc _ _ none) (by simp)

set_option maxRecDepth 100000 in
theorem newMaker_any (ta na la pa : Option Addr) (tc nc lc pc : Nat) (n : Nat) (st : Int) (w : World) (tn nn ln : Nat) :
    Calls Tryz.prog 45 #[.agg #[.slice ta tn tc, .slice na nn nc, .slice la ln lc, .int .i64 st, .slice pa n pc]] w fun e y => ∃ mb bm : Nat, e = .returned (.pointer (some ⟨mb, 0, none⟩)) ∧ y.heap[mb]? = some (.cells #[.slice ta tn tc, .slice na nn nc, .slice la ln lc, .int .i64 st, .slice pa n pc, .slice none 0 0, .int .i64 0, .int .i64 0, .map (some bm)] 134 (0, 0)) ∧ MpAt y bm 0 (fun _ => .slice none 0 0) ∧ w.heap.size ≤ bm ∧ bm < mb ∧ w.grownBy y none := by
  have HG0 : Hid (w.grownBy (w.alloc (.cells #[.slice ta tn tc, .slice na nn nc, .slice la ln lc, .int .i64 st, .slice pa n pc] 27)) none) := World.grownBy_alloc _ _ none
  have hmm := @run_makeMap Tryz.prog
  go_enter Tryz.func45, Tryz.ntmps45
  go_wp2_with fail
  go_ret
  exact ⟨w.heap.size + 1 + 1, w.heap.size + 1, rfl, (mk_laid w _ _).1, (mk_laid w _ _).2, by omega, by omega, grown_trans HG0.out (grown_trans (World.grownBy_alloc _ _ none) (World.grownBy_alloc _ _ none))⟩

end Go.Proofs.YthoamlahbnphkaaGreat.J

/-
  lr0: states in memory; the document's place.
-/
namespace Go.Proofs.YthoamlahbnphkaaGreat.J
open Go.RowKit Go.Maps Go.Shelf

attribute [local go_sem] Oper.semAt_some

/-- The kernels of states in memory: ka and kc say where they lie and what room they have. -/
def KersAt (X : World) (a : Option Addr) (ks : List (List It)) (ka : Nat → Option Addr) (kc : Nat → Nat) : Prop := ks = [] ∨ ∃ b off, a = some ⟨b, off, none⟩ ∧ ∀ i, i < ks.length → X.cell? ⟨b, off + i * 2, none⟩ = some (.slice (ka i) (ks.getD i []).length (kc i)) ∧ ItsAt X (ka i) (ks.getD i [])
theorem KersAt.kept {X Y : World} {a : Option Addr} {ks : List (List It)} {ka : Nat → Option Addr} {kc : Nat → Nat} (h : KersAt X a ks ka kc) (hg : X.grownBy Y none) : KersAt Y a ks ka kc := by
  rcases h with h | ⟨b, off, e, h⟩
  · exact .inl h
  · exact .inr ⟨b, off, e, fun i hi => ⟨hg.cell (h i hi).1 (by simp), (h i hi).2.kept hg⟩⟩
theorem KersAt.at {X : World} {a : Option Addr} {ks : List (List It)} {ka : Nat → Option Addr} {kc : Nat → Nat} (h : KersAt X a ks ka kc) {i : Nat} (hi : i < ks.length) : ∃ b off, a = some ⟨b, off, none⟩ ∧ X.cell? ⟨b, off + i * 2, none⟩ = some (.slice (ka i) (ks.getD i []).length (kc i)) ∧ ItsAt X (ka i) (ks.getD i []) := by
  rcases h with h | ⟨b, off, e, h⟩
  · rw [h] at hi; cases hi
  · exact ⟨b, off, e, h i hi⟩

/-- The place of a kernel, -1: there is none. -/
def placeV (ks : List (List It)) (k : List It) : Int := if k ∈ ks then (ks.idxOf k : Int) else -1
end Go.Proofs.YthoamlahbnphkaaGreat.J

/-
  lr0: slices.Equal of items.
-/
namespace Go.Proofs.YthoamlahbnphkaaGreat.J
open Go.RowKit Go.Maps Go.Shelf

attribute [local go_sem] Oper.semAt_some

set_option maxRecDepth 100000 in
theorem equalItems_any (a1 a2 : Option Addr) (c1 c2 : Nat) (l m : List It) (w : World) (h1 : ItsAt w a1 l) (h2 : ItsAt w a2 m) (hb : l.length ≤ 1099511627776000) (hb2 : m.length ≤ 1099511627776000) (r : Bool) (hr : r = true ↔ l = m) :
    Calls Tryz.prog 112 #[.slice a1 l.length c1, .slice a2 m.length c2] w fun e y => e = .returned (.bool r) ∧ w.grownBy y none := by
  obtain ⟨n1, hn1⟩ : ∃ n, n = l.length := ⟨_, rfl⟩
  obtain ⟨n2, hn2⟩ : ∃ n, n = m.length := ⟨_, rfl⟩
  have HR : Hid (r = true ↔ l = m) := hr
  have HN : Hid (n1 = l.length ∧ n2 = m.length) := ⟨hn1, hn2⟩
  have HI : Hid (∀ X, w.grownBy X none → ItsAt X a1 l ∧ ItsAt X a2 m) := fun X hX => ⟨h1.kept hX, h2.kept hX⟩
  rw [← hn1] at hb
  rw [← hn2] at hb2
  rw [← hn1, ← hn2]
  have hgu := guard_item
  clear hr hn1 hn2 h1 h2
  by_cases hne : n1 = n2
  · subst hne
    have hd : ((n1 : Int) != (n1 : Int)) = false := bne_self_eq_false _
    go_enter Tryz.func112, Tryz.ntmps112
    go_wp2_with fail
    go_loopg [13] n1 (fun gk v13 wr => ∃ j : Nat, j ≤ n1 ∧ gk = n1 - j ∧ v13 = .int .i64 j ∧ w.grownBy wr none ∧ ∀ i, i < j → l.getD i (0, 0) = m.getD i (0, 0))
    case atStart => exact ⟨0, Nat.zero_le _, rfl, rfl, grown_refl _ _, fun i hi => absurd hi (Nat.not_lt_zero _)⟩
    case round =>
      obtain ⟨j, hj, hgj, rfl, hg, hs⟩ := hrel
      have HGJ : Hid (gk = n1 - j) := hgj
      have HG : Hid (w.grownBy wr none) := hg
      have HS : Hid (∀ i, i < j → l.getD i (0, 0) = m.getD i (0, 0)) := hs
      clear hgj hg hs
      by_cases hlt : j < n1
      · have hj0 : (0 : Int) ≤ (j : Int) := by omega
        have hj1 : (j : Int) < (n1 : Int) := by omega
        have hjd : decide (j < n1) = true := decide_eq_true hlt
        obtain ⟨b1, o1, rfl, c0, c1'⟩ := (HI.out wr HG.out).1.at (i := j) (by rw [← HN.out.1]; exact hlt)
        obtain ⟨b2, o2, rfl, d0, d1⟩ := (HI.out wr HG.out).2.at (i := j) (by rw [← HN.out.2]; exact hlt)
        obtain ⟨x, hx⟩ : ∃ x, x = l.getD j (0, 0) := ⟨_, rfl⟩
        obtain ⟨y, hy⟩ : ∃ y, y = m.getD j (0, 0) := ⟨_, rfl⟩
        have HXY : Hid (x = l.getD j (0, 0) ∧ y = m.getD j (0, 0)) := ⟨hx, hy⟩
        rw [← hx] at c0 c1'
        rw [← hy] at d0 d1
        clear hx hy
        obtain ⟨xp, xd⟩ := x
        obtain ⟨yp, yd⟩ := y
        simp only at c0 c1' d0 d1
        obtain ⟨bb, hbb⟩ : ∃ b, b = (xp == yp && xd == yd) := ⟨_, rfl⟩
        have HBB : Hid (bb = true ↔ l.getD j (0, 0) = m.getD j (0, 0)) := by
          rw [← HXY.out.1, ← HXY.out.2, hbb, Bool.and_eq_true, beq_iff_eq, beq_iff_eq]
          exact ⟨fun h => Prod.ext h.1 h.2, fun h => ⟨congrArg Prod.fst h, congrArg Prod.snd h⟩⟩
        have hE : ∀ X : World, (binOp .neq 69 (.agg #[.int .i64 xp, .int .i64 xd]) (.agg #[.int .i64 yp, .int .i64 yd])).run Tryz.prog X = .ok (.bool (!bb)) X := fun X => by rw [hbb]; exact neq_item xp xd yp yd X
        clear hbb
        cases bb with
        | true =>
          have HEQ : Hid (l.getD j (0, 0) = m.getD j (0, 0)) := HBB.out.1 rfl
          clear HBB
          go_wp2_with fail
          go_quiet (fail)
          go_wp2_with fail
          go_roundg (n1 - (j + 1))
          case measure => have := HGJ.out; omega
          case rel => exact ⟨j + 1, by omega, rfl, by go_num, grown_trans HG.out (grown_drewN _ _), fun i hi => by
            by_cases e : i = j
            · rw [e]; exact HEQ.out
            · exact HS.out i (by omega)⟩
        | false =>
          have HRF : Hid (r = false) := by
            show _ = _
            cases hrr : r with
            | false => rfl
            | true =>
              have := HR.out.1 hrr
              rw [this] at HBB
              exact absurd (HBB.out.2 rfl) (by decide)
          go_wp2_with fail
          go_quiet (fail)
          go_wp2_with fail
          go_ret
          exact ⟨by rw [HRF.out]; rfl, grown_trans HG.out (grown_drewN _ _)⟩
      · have hjn : n1 = j := by omega
        subst hjn
        have hjd : decide (n1 < n1) = false := decide_eq_false (by omega)
        have HRT : Hid (r = true) := HR.out.2 (by
          apply List.ext_getElem (by rw [← HN.out.1, ← HN.out.2])
          intro i q1 q2
          have h3 := HS.out i (by rw [HN.out.1]; exact q1)
          rwa [List.getD_eq_getElem?_getD, List.getD_eq_getElem?_getD, List.getElem?_eq_getElem q1, List.getElem?_eq_getElem q2] at h3)
        go_wp2_with fail
        go_ret
        exact ⟨by rw [HRT.out]; rfl, HG.out⟩
  · have hd : ((n1 : Int) != (n2 : Int)) = true := bne_iff_ne.2 (by omega)
    have HRF : Hid (r = false) := by
      show _ = _
      cases hrr : r with
      | false => rfl
      | true =>
        have h3 := HR.out.1 hrr
        exact absurd (by rw [HN.out.1, HN.out.2, h3]) hne
    go_enter Tryz.func112, Tryz.ntmps112
    go_wp2_with fail
    go_ret
    exact ⟨by rw [HRF.out]; rfl, grown_refl _ _⟩

end Go.Proofs.YthoamlahbnphkaaGreat.J
