import Derived.Test.YtdhojilmgnodeaaDoorQocchkiekhmfo
import Derived.BigQuiet
import Derived.Test.YtdhojilmgnodeaaDoorQabmdnofjmjll
import Derived.Deep.MidRow
import Derived.Deep.WholeRow
import Derived.Test.YtdhojilmgnodeaaDoorQdcnlofppppba
import Derived.Test.YtdhojilmgnodeaaDoorQfbjlicebbnfc

/-
  Level, walked.
-/
namespace Go.Proofs.YtdhojilmgnodeaaDoor
open Go.RowKit

attribute [local go_sem] Oper.semAt_some

theorem owns_form {W : World} {B e z n : Nat} {v : Value} {xs : List Value} (h : W.ownsRow B e z v n xs) : ∃ a c, v = .slice a n c := by
  rcases h.2 with ⟨rfl, h0⟩ | ⟨g, cap, cur, rfl, _⟩
  · exact ⟨none, 0, by rw [h0]⟩
  · exact ⟨_, _, rfl⟩
end Go.Proofs.YtdhojilmgnodeaaDoor

namespace Go.Proofs.YtdhojilmgnodeaaDoor
open Go.RowKit

theorem nodup_short {α : Type} [DecidableEq α] : ∀ (l m : List α), l.Nodup → (∀ x ∈ l, x ∈ m) → l.length ≤ m.length
  | [], _, _, _ => Nat.zero_le _
  | a :: l, m, hn, hs => by
    rw [List.nodup_cons] at hn
    have ha := hs a (by simp)
    have h := nodup_short l (m.erase a) hn.2 (fun x hx => (List.mem_erase_of_ne (fun e => hn.1 (by rw [← e]; exact hx))).2 (hs x (by simp [hx])))
    rw [List.length_erase_of_mem ha] at h
    have : 0 < m.length := List.length_pos_of_mem ha
    simp only [List.length_cons]
    omega

def updL (f : Nat → Int) (i : Nat) (z : Int) : Nat → Int := fun j => if j = i then z else f j
/-- The terminals' levels, once a level is told of these; none: it is refused. -/
def levGo (S : BS) (L : Int) : (Nat → Int) → List Int → Option (Nat → Int)
  | lev, [] => some lev
  | lev, h :: r => if S.isT h = true ∧ lev h.toNat = 0 then levGo S L (updL lev h.toNat L) r else none
def BS.addL (S : BS) (lev : Nat → Int) (side : Int) : BS := { S with lev := lev, sides := S.sides ++ [side] }
def BS.level (S : BS) (side : Int) (terms : List Int) : Int × Int × BS :=
  if (1 ≤ side ∧ side ≤ 3) ∧ terms ≠ [] then
    match levGo S (S.sides.length + 1) S.lev terms with
    | some lev => (S.sides.length + 1, 0, S.addL lev side)
    | none => (0, 1, S)
  else (0, 1, S)

theorem isT_iff {S : BS} {h : Int} : S.isT h = true ↔ 0 < h ∧ h ≤ S.terms.length := by simp [BS.isT]
/-- What it leaves and what it turns. -/
theorem levGo_keeps {S : BS} {L : Int} (hL : L ≠ 0) : ∀ (terms : List Int) (lev lev' : Nat → Int), levGo S L lev terms = some lev' →
    (∀ i, lev i ≠ 0 → lev' i = lev i) ∧ (∀ i, lev' i = lev i ∨ (lev' i = L ∧ 1 ≤ i ∧ i ≤ S.terms.length)) ∧ (terms ≠ [] → ∃ i, 1 ≤ i ∧ i ≤ S.terms.length ∧ lev' i = L)
  | [], lev, lev', h => by
    cases h
    exact ⟨fun _ _ => rfl, fun _ => .inl rfl, fun h => absurd rfl h⟩
  | a :: r, lev, lev', h => by
    unfold levGo at h
    split at h
    · next hc =>
      obtain ⟨h1, h2⟩ := hc
      obtain ⟨t1, t2⟩ := isT_iff.1 h1
      obtain ⟨k1, k2, _⟩ := levGo_keeps hL r _ _ h
      have hat : lev' a.toNat = L := by
        rw [k1 a.toNat (by simp [updL, hL])]
        simp [updL]
      refine ⟨fun i hi => ?_, fun i => ?_, fun _ => ⟨a.toNat, by omega, by omega, hat⟩⟩
      · have hne : i ≠ a.toNat := fun e => hi (by rw [e]; exact h2)
        have hu : updL lev a.toNat L i = lev i := by simp [updL, hne]
        rw [k1 i (by rw [hu]; exact hi), hu]
      · by_cases e : i = a.toNat
        · right
          rw [e]
          exact ⟨hat, by omega, by omega⟩
        · have hu : updL lev a.toNat L i = lev i := by simp [updL, e]
          rcases k2 i with h3 | h3
          · left; rw [h3, hu]
          · exact .inr h3
    · cases h

theorem levels_le {S : BS} {lev : Nat → Int} {n : Nat} (has : ∀ i, i < n → ∃ h, 1 ≤ h ∧ h ≤ S.terms.length ∧ lev h = (i : Int) + 1) : n ≤ S.terms.length := by
  have hnd : ((List.range n).map fun i : Nat => (i : Int) + 1).Nodup := by
    rw [List.nodup_iff_pairwise_ne, List.pairwise_map]
    exact (List.nodup_range (n := n)).imp (fun h e => h (by omega))
  have h := nodup_short ((List.range n).map fun i : Nat => (i : Int) + 1) ((List.range S.terms.length).map fun j => lev (j + 1)) hnd (fun x hx => by
    obtain ⟨i, hi, rfl⟩ := List.mem_map.1 hx
    obtain ⟨h, h1, h2, h3⟩ := has i (List.mem_range.1 hi)
    exact List.mem_map.2 ⟨h - 1, List.mem_range.2 (by omega), by rw [show h - 1 + 1 = h by omega]; exact h3⟩)
  simpa using h

theorem BS.OK.addL {S : BS} (h : S.OK) {side : Int} {terms : List Int} {lev : Nat → Int} (hs : 1 ≤ side ∧ side ≤ 3) (ht : terms ≠ []) (hl : levGo S (S.sides.length + 1) S.lev terms = some lev) : (S.addL lev side).OK := by
  obtain ⟨k1, k2, k3⟩ := levGo_keeps (by omega) terms S.lev lev hl
  have hlen : (S.sides ++ [side]).length = S.sides.length + 1 := by simp
  have hhas : ∀ i, i < (S.sides ++ [side]).length → ∃ h, 1 ≤ h ∧ h ≤ S.terms.length ∧ lev h = (i : Int) + 1 := fun i hi => by
    rw [hlen] at hi
    by_cases e : i = S.sides.length
    · obtain ⟨j, j1, j2, j3⟩ := k3 ht
      exact ⟨j, j1, j2, by rw [j3, e]⟩
    · obtain ⟨j, j1, j2, j3⟩ := h.has i (by omega)
      exact ⟨j, j1, j2, by rw [k1 j (by rw [j3]; omega), j3]⟩
  have hle := levels_le hhas
  have hsy := h.syms
  refine { syms := h.syms, tnames := h.tnames, nnames := h.nnames, tnd := h.tnd, nnd := h.nnd, sides := by show (S.sides ++ [side]).length ≤ 64; omega, sdv := ?_, prods := h.prods, lev := ?_, lev0 := ?_, levT := ?_, has := hhas, pl := h.pl, pr := h.pr, plen := h.plen, pv := ?_, st := h.st }
  · intro x hx
    rcases List.mem_append.1 (show x ∈ S.sides ++ [side] from hx) with hx | hx
    · exact h.sdv x hx
    · rw [List.mem_singleton.1 hx]; exact hs
  · intro i
    show 0 ≤ lev i ∧ lev i ≤ ((S.sides ++ [side]).length : Int)
    have hi := h.lev i
    rw [hlen]
    rcases k2 i with e | ⟨e, _, _⟩
    · rw [e]; omega
    · rw [e]; omega
  · show lev 0 = 0
    rcases k2 0 with e | ⟨_, e, _⟩
    · rw [e]; exact h.lev0
    · omega
  · intro j hj
    show lev j = 0
    rcases k2 j with e | ⟨_, _, e⟩
    · rw [e]; exact h.levT j hj
    · have hj' : S.terms.length < j := hj
      omega
  · intro p hp
    have := h.pv p hp
    show 0 ≤ p.level ∧ p.level ≤ ((S.sides ++ [side]).length : Int)
    rw [hlen]
    omega
theorem BS.OK.level {S : BS} (h : S.OK) (side : Int) (terms : List Int) : (S.level side terms).2.2.OK := by
  unfold BS.level
  split
  · next hc =>
    split
    · next lev hl => exact h.addL hc.1 hc.2 hl
    · exact h
  · exact h

end Go.Proofs.YtdhojilmgnodeaaDoor

namespace Go.Proofs.YtdhojilmgnodeaaDoor
open Go.RowKit

attribute [local go_sem] Oper.semAt_some

/-- A row of the terminals' levels. -/
def IsLev (A : Array Value) (f : Nat → Int) : Prop := A.size = 65 ∧ ∀ i, i < 65 → A[i]? = some (.int .i64 (f i))
def levRow (f : Nat → Int) : List Value := (List.range 65).map fun i => .int .i64 (f i)
theorem levRow_is (f : Nat → Int) : IsLev (levRow f).toArray f := by
  refine ⟨by simp [levRow], fun i hi => ?_⟩
  simp [levRow, hi]
theorem wpList_store_new {P : Program} {ops : Array Oper} {rest : List Oper} {op : Oper} {a : Act} {w : World} {Q : Exit → Act → World → Prop} (hgd : op.guard = none) (ty : TypeId) (x y : Operand) (ho : op.op = .store ty x y)
    (c c' : Array Value) (hx : a.eval x = .pointer (some ⟨w.heap.size, 0, none⟩)) (hy : a.eval y = .agg c') (hi : (P.info? ty).map (·.size) = some c'.size) (hs : c.size = c'.size) (h1 : c'.all (·.oneCell') = true)
    (h : wpList P ops Q rest (a.put op.dst undef) (w.alloc (.cells c' ty))) : wpList P ops Q (op :: rest) a (w.alloc (.cells c ty)) :=
  wpList_plain hgd fun K hK => by
    have hst := run_storeAt_new (P := P) w ty c c' hi hs h1
    unfold Oper.wp execOp
    simp only [ho, hx, hy, Sem.run_bind, Sem.run_pure, hst, Result.andThen_ok]
    exact hK _ _ h
theorem levGo_app {S : BS} {L : Int} : ∀ (xs ys : List Int) (lev lev' : Nat → Int), levGo S L lev xs = some lev' → levGo S L lev (xs ++ ys) = levGo S L lev' ys
  | [], ys, lev, lev', h => by cases h; rfl
  | x :: xs, ys, lev, lev', h => by
    unfold levGo at h
    rw [List.cons_append]
    conv => lhs; unfold levGo
    split at h
    · next hc => rw [if_pos hc]; exact levGo_app xs ys _ _ h
    · cases h
theorem take_drop_at {l : List Int} {k : Nat} (h : k < l.length) : l = l.take k ++ l.getD k 0 :: l.drop (k + 1) := by
  have : l.getD k 0 = l[k] := by simp [List.getD, h]
  rw [this, ← List.drop_eq_getElem_cons h, List.take_append_drop]
theorem take_succ_at {l : List Int} {k : Nat} (h : k < l.length) : l.take (k + 1) = l.take k ++ [l.getD k 0] := by
  have : l.getD k 0 = l[k] := by simp [List.getD, h]
  rw [this, List.take_succ_eq_append_getElem h]
theorem IsLev.set {A : Array Value} {f : Nat → Int} (h : IsLev A f) (m : Nat) (L : Int) : IsLev (A.setIfInBounds m (.int .i64 L)) (updL f m L) := by
  refine ⟨by simp [h.1], fun i hi => ?_⟩
  by_cases e : i = m
  · subst e
    simp [updL, h.1, hi]
  · rw [Array.getElem?_setIfInBounds_ne (fun x => e x.symm), h.2 i hi]
    simp [updL, e]
def putL (c : Nat → Value) (o : Nat) (vs : List Value) : Nat → Value := fun i => if o ≤ i ∧ i < o + vs.length then vs.getD (i - o) undef else c i
theorem putL_out {c : Nat → Value} {o : Nat} {vs : List Value} {i : Nat} (h : i < o ∨ o + vs.length ≤ i) : putL c o vs i = c i := by unfold putL; rw [if_neg (by omega)]
theorem putL_in {c : Nat → Value} {o : Nat} {vs : List Value} {i : Nat} (h : i < vs.length) : putL c o vs (o + i) = vs.getD i undef := by unfold putL; rw [if_pos (by omega), Nat.add_sub_cancel_left]
theorem putL_cons (c : Nat → Value) (o : Nat) (v : Value) (vs : List Value) : putL c o (v :: vs) = putL (putC c o v) (o + 1) vs := by
  funext i
  by_cases h1 : i = o
  · subst h1
    rw [putL_out (c := putC c i v) (o := i + 1) (by omega), putC_same]
    unfold putL
    rw [if_pos (by simp)]
    simp
  · unfold putL
    simp only [List.length_cons]
    by_cases h2 : o + 1 ≤ i ∧ i < o + 1 + vs.length
    · rw [if_pos (by omega), if_pos h2, show i - o = (i - (o + 1)) + 1 by omega]
      rfl
    · rw [if_neg (by omega), if_neg h2, putC_other _ _ h1]
theorem grown_setCells {b : Nat} : ∀ (vs : List Value) (o : Nat) (w : World), w.grownBy (w.setCells b o vs) (some b)
  | [], _, _ => grown_refl _ _
  | v :: vs, o, _ => grown_trans (grown_setCell b o v) (grown_setCells vs (o + 1) _)
end Go.Proofs.YtdhojilmgnodeaaDoor

/-
  Grade, walked.
-/
namespace Go.Proofs.YtdhojilmgnodeaaDoor
open Go.RowKit

def setLev (ps : List PR) (i : Nat) (l : Int) : List PR := ps.set i { ps.getD i ⟨0, [], 0⟩ with level := l }
def gradeGo (l : Int) : List PR → List Int → Option (List PR)
  | ps, [] => some ps
  | ps, h :: r => if 0 ≤ h ∧ h < ps.length then gradeGo l (setLev ps h.toNat l) r else none
def BS.grade (S : BS) (l : Int) (hs : List Int) : Int × BS :=
  if 0 ≤ l ∧ l ≤ S.sides.length then
    match gradeGo l S.prods hs with
    | some ps => (0, { S with prods := ps })
    | none => (1, S)
  else (1, S)
/-- As it was, but for its level. -/
def Graded (l : Int) (ps ps' : List PR) : Prop := ps'.length = ps.length ∧ ∀ i, i < ps.length → (ps'.getD i ⟨0, [], 0⟩).left = (ps.getD i ⟨0, [], 0⟩).left ∧ (ps'.getD i ⟨0, [], 0⟩).right = (ps.getD i ⟨0, [], 0⟩).right ∧ ((ps'.getD i ⟨0, [], 0⟩).level = (ps.getD i ⟨0, [], 0⟩).level ∨ (ps'.getD i ⟨0, [], 0⟩).level = l)
theorem Graded.refl (l : Int) (ps : List PR) : Graded l ps ps := ⟨rfl, fun _ _ => ⟨rfl, rfl, .inl rfl⟩⟩
theorem Graded.set {l : Int} {ps ps' : List PR} (h : Graded l ps ps') {k : Nat} (hk : k < ps.length) : Graded l ps (setLev ps' k l) := by
  refine ⟨by simp [setLev, h.1], fun i hi => ?_⟩
  obtain ⟨h1, h2, h3⟩ := h.2 i hi
  have hi' : i < ps'.length := by rw [h.1]; exact hi
  by_cases e : i = k
  · subst e
    have : (setLev ps' i l).getD i ⟨0, [], 0⟩ = { ps'.getD i ⟨0, [], 0⟩ with level := l } := by simp [setLev, List.getD, hi']
    rw [this]
    exact ⟨h1, h2, .inr rfl⟩
  · have : (setLev ps' k l).getD i ⟨0, [], 0⟩ = ps'.getD i ⟨0, [], 0⟩ := by simp [setLev, List.getD, show ¬ k = i from fun x => e x.symm]
    rw [this]
    exact ⟨h1, h2, h3⟩
theorem gradeGo_graded {l : Int} {ps0 : List PR} : ∀ (hs : List Int) (ps ps' : List PR), Graded l ps0 ps → gradeGo l ps hs = some ps' → Graded l ps0 ps'
  | [], ps, ps', h, e => by cases e; exact h
  | a :: r, ps, ps', h, e => by
    unfold gradeGo at e
    split at e
    · next hc => exact gradeGo_graded r _ _ (h.set (by rw [← h.1]; omega)) e
    · cases e
theorem gradeGo_app {l : Int} : ∀ (xs ys : List Int) (ps ps' : List PR), gradeGo l ps xs = some ps' → gradeGo l ps (xs ++ ys) = gradeGo l ps' ys
  | [], ys, ps, ps', h => by cases h; rfl
  | x :: xs, ys, ps, ps', h => by
    unfold gradeGo at h
    rw [List.cons_append]
    conv => lhs; unfold gradeGo
    split at h
    · next hc => rw [if_pos hc]; exact gradeGo_app xs ys _ _ h
    · cases h
theorem Graded.mem {l : Int} {ps ps' : List PR} (h : Graded l ps ps') {p : PR} (hp : p ∈ ps') : ∃ q ∈ ps, p.left = q.left ∧ p.right = q.right ∧ (p.level = q.level ∨ p.level = l) := by
  obtain ⟨i, hi, rfl⟩ := List.getElem_of_mem hp
  have hi' : i < ps.length := by rw [← h.1]; exact hi
  have := h.2 i hi'
  rw [show ps'.getD i ⟨0, [], 0⟩ = ps'[i] by simp [List.getD, hi], show ps.getD i ⟨0, [], 0⟩ = ps[i] by simp [List.getD, hi']] at this
  exact ⟨ps[i], List.getElem_mem hi', this⟩
theorem BS.OK.graded {S : BS} (h : S.OK) {l : Int} {ps : List PR} (hl : 0 ≤ l ∧ l ≤ S.sides.length) (hg : Graded l S.prods ps) : ({ S with prods := ps } : BS).OK := by
  refine ⟨h.syms, h.tnames, h.nnames, h.tnd, h.nnd, h.sides, h.sdv, by show ps.length ≤ 96; rw [hg.1]; exact h.prods, h.lev, h.lev0, h.levT, h.has, fun p hp => ?_, fun p hp k hk => ?_, fun p hp => ?_, fun p hp => ?_, h.st⟩
  · obtain ⟨q, hq, e1, _, _⟩ := hg.mem hp
    rw [e1]
    exact h.pl q hq
  · obtain ⟨q, hq, _, e2, _⟩ := hg.mem hp
    rw [e2] at hk
    exact h.pr q hq k hk
  · obtain ⟨q, hq, _, e2, _⟩ := hg.mem hp
    rw [e2]
    exact h.plen q hq
  · obtain ⟨q, hq, _, _, e3⟩ := hg.mem hp
    have := h.pv q hq
    show 0 ≤ p.level ∧ p.level ≤ (S.sides.length : Int)
    rcases e3 with e3 | e3 <;> rw [e3] <;> omega
theorem flat_set (l : Int) : ∀ (ps : List PR) (rs : List Value) (i : Nat), rs.length = ps.length → i < ps.length → ((ps.zip rs).flatMap fun x => prL x.1 x.2).set (i * 3 + 2) (.int .i64 l) = ((setLev ps i l).zip rs).flatMap fun x => prL x.1 x.2
  | [], _, _, _, h => by simp at h
  | p :: ps, [], _, h, _ => by simp at h
  | p :: ps, r :: rs, 0, _, _ => by simp [setLev, prL]
  | p :: ps, r :: rs, i + 1, h1, h2 => by
    have ih := flat_set l ps rs i (by simpa using h1) (by simpa using h2)
    have e : setLev (p :: ps) (i + 1) l = p :: setLev ps i l := by simp [setLev]
    rw [e, List.zip_cons_cons, List.zip_cons_cons, List.flatMap_cons, List.flatMap_cons, ← ih]
    show (prL p r ++ _).set _ _ = _
    rw [List.set_append_right _ _ (by simp [prL]; omega), show (i + 1) * 3 + 2 - (prL p r).length = i * 3 + 2 by simp [prL]; omega]

end Go.Proofs.YtdhojilmgnodeaaDoor

namespace Go.Proofs.YtdhojilmgnodeaaDoor
open Go.RowKit

attribute [local go_sem] Oper.semAt_some

end Go.Proofs.YtdhojilmgnodeaaDoor

/-
  The document's builder in memory: four lists of its own and the start symbol; what its steps leave.
-/
namespace Go.Proofs.YtdhojilmgnodeaaDoor
open Go.RowKit

theorem owns_ne {w : World} {B B' e e' s s' n n' : Nat} {v v' : Value} {xs xs' : List Value} (h : w.ownsRow B e s v n xs) (h' : w.ownsRow B' e' s' v' n' xs') (he : e ≠ e') : v.ownBlock = none ∨ v.ownBlock ≠ v'.ownBlock := by
  rcases h.2 with ⟨rfl, _⟩ | ⟨g, cap, cur, rfl, _, hg, _⟩
  · exact .inl rfl
  · right
    intro hh
    rcases h'.2 with ⟨rfl, _⟩ | ⟨g', cap', cur', rfl, _, hg', _⟩
    · cases hh
    · have : g = g' := by simpa [Value.ownBlock] using hh
      rw [this, hg'] at hg
      simp at hg
      exact he hg.2.symm
theorem owns_nebox {w : World} {B e e' s n r : Nat} {v : Value} {xs : List Value} {cs : Array Value} (h : w.ownsRow B e s v n xs) (hr : w.heap[r]? = some (.cells cs e' (0, 0))) (he : e ≠ e') : v.ownBlock = none ∨ v.ownBlock ≠ some r := by
  rcases h.2 with ⟨rfl, _⟩ | ⟨g, cap, cur, rfl, _, hg, _⟩
  · exact .inl rfl
  · right
    intro hh
    have : g = r := by simpa [Value.ownBlock] using hh
    rw [this, hr] at hg
    simp at hg
    exact he hg.2.symm

/-- The terminals with their levels. -/
def rts (S : BS) : List (ByteArray × Int) := (List.range S.terms.length).map fun j => (S.terms.getD j ⟨#[]⟩, S.lev (j + 1))
theorem rts_length (S : BS) : (rts S).length = S.terms.length := by simp [rts]
theorem rts_at (S : BS) {j : Nat} (h : j < S.terms.length) : (rts S).getD j (⟨#[]⟩, 0) = (S.terms.getD j ⟨#[]⟩, S.lev (j + 1)) := by simp [rts, List.getD, h]

theorem none_ne {o row : Option Nat} (h : row = none) : o = none ∨ o ≠ row := by
  cases o with
  | none => exact .inl rfl
  | some g => right; rw [h]; simp
end Go.Proofs.YtdhojilmgnodeaaDoor

/-
  Term, Non and Start of the document's builder.
-/
namespace Go.Proofs.YtdhojilmgnodeaaDoor
open Go.RowKit

attribute [local go_sem] Oper.semAt_some

theorem numFrom_at (s : ByteArray) : ∀ (l : List ByteArray) (k m : Nat), k < l.length → (∀ j, j < k → l.getD j ⟨#[]⟩ ≠ s) → l.getD k ⟨#[]⟩ = s → numFrom l s m = k + m
  | [], k, m, hk, _, _ => by simp at hk
  | x :: r, 0, m, _, _, he => by
    have : x = s := by simpa using he
    unfold numFrom
    rw [if_pos (by rw [this])]
    simp
  | x :: r, k + 1, m, hk, h, he => by
    have h0 : x ≠ s := by have := h 0 (by omega); simpa using this
    unfold numFrom
    rw [if_neg (fun e => h0 (bytes_ext e)), numFrom_at s r k (m + 1) (by simpa using hk) (fun j hj => by have := h (j + 1) (by omega); simpa using this) (by simpa using he)]
    omega
theorem numOf_at {l : List ByteArray} {s : ByteArray} {k : Nat} (hk : k < l.length) (h : ∀ j, j < k → l.getD j ⟨#[]⟩ ≠ s) (he : l.getD k ⟨#[]⟩ = s) : numOf l s = k + 1 := by
  unfold numOf; rw [numFrom_at s l k 1 hk h he]
theorem numOf_none {l : List ByteArray} {s : ByteArray} (h : ∀ j, j < l.length → l.getD j ⟨#[]⟩ ≠ s) : numOf l s = 0 := numOf_zero fun hm => by
  obtain ⟨j, hj, e⟩ := List.getElem_of_mem hm
  exact h j hj (by simp [List.getD, hj, e])

theorem numbered_z0 {l : List ByteArray} {s : ByteArray} (h : numOf l s = 0) : numbered false l s = (l.length + 1, 0) := by simp [numbered, h]
theorem numbered_z1 {l : List ByteArray} {s : ByteArray} (h : numOf l s = 0) : numbered true l s = (0, 11) := by simp [numbered, h]
theorem rts_addT (S : BS) (s : ByteArray) : rts (S.addT s) = (rts S) ++ [(s, S.lev (S.terms.length + 1))] := by
  unfold rts BS.addT
  simp only [List.length_append, List.length_cons, List.length_nil, Nat.zero_add, List.range_succ, List.map_append]
  congr 1
  · apply List.map_congr_left
    intro j hj
    have hj' : j < S.terms.length := by simpa using hj
    simp [List.getD, List.getElem?_append_left hj']
  · simp [List.getD]

def BS.startA (S : BS) (h : Int) : Int × BS := if S.isN h then (0, { S with start := h }) else (1, S)
end Go.Proofs.YtdhojilmgnodeaaDoor

/-
  Grade of the document's builder.
-/
namespace Go.Proofs.YtdhojilmgnodeaaDoor
open Go.RowKit

attribute [local go_sem] Oper.semAt_some

theorem gradeGo_some {l : Int} : ∀ (hs : List Int) (ps : List PR), (∀ h ∈ hs, 0 ≤ h ∧ h < ps.length) → ∃ ps', gradeGo l ps hs = some ps' ∧ ps'.length = ps.length
  | [], ps, _ => ⟨ps, rfl, rfl⟩
  | a :: r, ps, h => by
    have hl : (setLev ps a.toNat l).length = ps.length := by simp [setLev]
    obtain ⟨ps', h1, h2⟩ := gradeGo_some (l := l) r (setLev ps a.toNat l) (fun x hx => by rw [hl]; exact h x (by simp [hx]))
    refine ⟨ps', ?_, by rw [h2, hl]⟩
    unfold gradeGo
    rw [if_pos (h a (by simp))]
    exact h1
theorem gradeGo_none {l : Int} : ∀ (hs : List Int) (ps : List PR), (∃ h ∈ hs, ¬ (0 ≤ h ∧ h < ps.length)) → gradeGo l ps hs = none
  | [], ps, h => by simp at h
  | a :: r, ps, h => by
    unfold gradeGo
    by_cases ha : 0 ≤ a ∧ a < ps.length
    · rw [if_pos ha]
      refine gradeGo_none r _ ?_
      obtain ⟨x, hx, hn⟩ := h
      rcases List.mem_cons.1 hx with e | hx
      · rw [e] at hn; exact absurd ha hn
      · exact ⟨x, hx, by rw [show (setLev ps a.toNat l).length = ps.length by simp [setLev]]; exact hn⟩
    · rw [if_neg ha]

theorem setLev_length (ps : List PR) (i : Nat) (l : Int) : (setLev ps i l).length = ps.length := by simp [setLev]
theorem gradeGo_len {l : Int} {hs : List Int} {ps ps' : List PR} (h : gradeGo l ps hs = some ps') : ps'.length = ps.length := (gradeGo_graded hs ps ps' (Graded.refl l ps) h).1

end Go.Proofs.YtdhojilmgnodeaaDoor

/-
  Level of the document's builder.
-/
namespace Go.Proofs.YtdhojilmgnodeaaDoor
open Go.RowKit

attribute [local go_sem] Oper.semAt_some

theorem levGo_good {S : BS} {K : Int} (hK : K ≠ 0) : ∀ (l : List Int) (lev lev' : Nat → Int), levGo S K lev l = some lev' → l.Nodup ∧ ∀ h ∈ l, S.isT h = true ∧ lev h.toNat = 0
  | [], _, _, _ => ⟨List.nodup_nil, by simp⟩
  | a :: r, lev, lev', h => by
    unfold levGo at h
    split at h
    · next hc =>
      obtain ⟨h1, h2⟩ := levGo_good hK r _ _ h
      have key : ∀ x ∈ r, x.toNat ≠ a.toNat := fun x hx e => by
        have := (h2 x hx).2
        rw [e] at this
        simp [updL] at this
        exact hK this
      refine ⟨List.nodup_cons.2 ⟨fun ha => key a ha rfl, h1⟩, fun x hx => ?_⟩
      rcases List.mem_cons.1 hx with rfl | hx
      · exact hc
      · have h3 := h2 x hx
        refine ⟨h3.1, ?_⟩
        have h4 := h3.2
        simp [updL, key x hx] at h4
        exact h4
    · cases h
theorem levGo_full {S : BS} {K : Int} : ∀ (l : List Int) (lev : Nat → Int), l.Nodup → (∀ h ∈ l, S.isT h = true ∧ lev h.toNat = 0) → levGo S K lev l = some fun j : Nat => if (j : Int) ∈ l then K else lev j
  | [], lev, _, _ => by simp [levGo]
  | a :: r, lev, hn, h => by
    rw [List.nodup_cons] at hn
    obtain ⟨h1, h2⟩ := h a (by simp)
    have ha := isT_iff.1 h1
    unfold levGo
    rw [if_pos ⟨h1, h2⟩, levGo_full r _ hn.2 (fun x hx => by
      obtain ⟨q1, q2⟩ := h x (by simp [hx])
      have hx' := isT_iff.1 q1
      refine ⟨q1, ?_⟩
      have hne : x.toNat ≠ a.toNat := fun e => hn.1 (by have : x = a := by omega
                                                        rw [← this]; exact hx)
      simp [updL, hne, q2])]
    congr 1
    funext j
    by_cases hj : (j : Int) ∈ r
    · simp [hj]
    · by_cases ej : (j : Int) = a
      · have : j = a.toNat := by omega
        rw [if_neg hj, if_pos (by simp [ej])]
        simp [updL, this]
      · have : j ≠ a.toNat := by omega
        rw [if_neg hj, if_neg (by simp [ej, hj])]
        simp [updL, this]

/-- A list's places: what Level asks of each. -/
def levAsk (S : BS) (hs : List Int) (j : Nat) : Prop := S.isT (hs.getD j 0) = true ∧ S.lev (hs.getD j 0).toNat = 0 ∧ ∀ m, m < j → hs.getD m 0 ≠ hs.getD j 0
theorem getD_mem_int {l : List Int} {k : Nat} (h : k < l.length) : l.getD k 0 ∈ l := by
  have : l.getD k 0 = l[k] := by simp [List.getD, h]
  rw [this]; exact List.getElem_mem _
theorem nodup_int (l : List Int) : l.Nodup ↔ ∀ i k, k < i → i < l.length → l.getD k 0 ≠ l.getD i 0 := by
  rw [List.nodup_iff_pairwise_ne, List.pairwise_iff_getElem]
  constructor
  · intro h i k hk hi
    have := h k i (by omega) hi hk
    simpa [List.getD, hi, show k < l.length by omega] using this
  · intro h i j hi hj hij
    have := h j i hij hj
    simpa [List.getD, hi, hj] using this
theorem levGo_ask {S : BS} {K : Int} (hK : K ≠ 0) (hs : List Int) : (∀ j, j < hs.length → levAsk S hs j) ↔ ∃ lev', levGo S K S.lev hs = some lev' := by
  constructor
  · intro h
    exact ⟨_, levGo_full hs S.lev ((nodup_int hs).2 fun i k hk hi => (h i hi).2.2 k hk) (fun x hx => by
      obtain ⟨j, hj, e⟩ := List.getElem_of_mem hx
      have := h j hj
      rw [← e, show hs[j] = hs.getD j 0 by simp [List.getD, hj]]
      exact ⟨this.1, this.2.1⟩)⟩
  · rintro ⟨lev', h⟩ j hj
    obtain ⟨h1, h2⟩ := levGo_good hK hs _ _ h
    exact ⟨(h2 _ (getD_mem_int hj)).1, (h2 _ (getD_mem_int hj)).2, fun m hm => (nodup_int hs).1 h1 j m hm hj⟩

/-- The levels, told of the first k. -/
def levTold (S : BS) (K : Int) (hs : List Int) (k : Nat) : Nat → Int := fun j => if (j : Int) ∈ hs.take k then K else S.lev j
def BS.tolds (S : BS) (side K : Int) (hs : List Int) (k : Nat) : BS := { S with lev := levTold S K hs k, sides := S.sides ++ [side] }
theorem tolds_zero (S : BS) (side K : Int) (hs : List Int) : S.tolds side K hs 0 = { S with sides := S.sides ++ [side] } := by
  unfold BS.tolds
  have : levTold S K hs 0 = S.lev := by funext j; simp [levTold]
  rw [this]
theorem levTold_succ {S : BS} {K : Int} {hs : List Int} {k : Nat} (hk : k < hs.length) (hp : 0 ≤ hs.getD k 0) : levTold S K hs (k + 1) = updL (levTold S K hs k) (hs.getD k 0).toNat K := by
  funext j
  unfold levTold updL
  rw [take_succ_at hk]
  generalize hs.getD k 0 = h at *
  generalize hs.take k = l at *
  by_cases e : j = h.toNat
  · rw [if_pos e, if_pos (List.mem_append.2 (.inr (List.mem_singleton.2 (by omega))))]
  · have he : ¬ (j : Int) = h := fun x => e (by omega)
    rw [if_neg e]
    show _ = (if (j : Int) ∈ l then K else S.lev j)
    by_cases hm : (j : Int) ∈ l
    · rw [if_pos (List.mem_append.2 (.inl hm)), if_pos hm]
    · rw [if_neg hm, if_neg (fun x => by
        rcases List.mem_append.1 x with x | x
        · exact hm x
        · exact he (List.mem_singleton.1 x))]
theorem level_done {S : BS} {side : Int} {hs : List Int} (hs1 : 1 ≤ side ∧ side ≤ 3) (hne : hs ≠ []) (h : ∀ j, j < hs.length → levAsk S hs j) : S.level side hs = ((S.sides.length : Int) + 1, 0, S.tolds side ((S.sides.length : Int) + 1) hs hs.length) := by
  unfold BS.level
  rw [if_pos ⟨hs1, hne⟩, levGo_full hs S.lev ((nodup_int hs).2 fun i k hk hi => (h i hi).2.2 k hk) (fun x hx => by
      obtain ⟨j, hj, e⟩ := List.getElem_of_mem hx
      have := h j hj
      rw [← e, show hs[j] = hs.getD j 0 by simp [List.getD, hj]]
      exact ⟨this.1, this.2.1⟩)]
  simp only
  unfold BS.addL BS.tolds levTold
  rw [List.take_length]
theorem level_not {S : BS} {side : Int} {hs : List Int} (h : ¬ ∀ j, j < hs.length → levAsk S hs j) : S.level side hs = (0, 1, S) := by
  unfold BS.level
  split
  · have : levGo S ((S.sides.length : Int) + 1) S.lev hs = none := by
      cases e : levGo S ((S.sides.length : Int) + 1) S.lev hs with
      | none => rfl
      | some lev' => exact absurd ((levGo_ask (by omega) hs).2 ⟨lev', e⟩) h
    rw [this]
  · rfl

theorem tmsL_set : ∀ (ts : List (ByteArray × Int)) (i : Nat) (K : Int), (tmsL ts).set (i * 2 + 1) (.int .i64 K) = tmsL (ts.set i ((ts.getD i (⟨#[]⟩, 0)).1, K))
  | [], i, K => by simp [tmsL]
  | t :: ts, 0, K => by simp [tmsL, tmL]
  | t :: ts, i + 1, K => by
    have ih := tmsL_set ts i K
    have e : tmsL (t :: ts) = tmL t.1 t.2 ++ tmsL ts := by simp [tmsL]
    have e2 : tmsL ((t :: ts).set (i + 1) (((t :: ts).getD (i + 1) (⟨#[]⟩, 0)).1, K)) = tmL t.1 t.2 ++ tmsL (ts.set i ((ts.getD i (⟨#[]⟩, 0)).1, K)) := by simp [tmsL]
    rw [e, e2, ← ih, List.set_append_right _ _ (by simp [tmL]; omega), show (i + 1) * 2 + 1 - (tmL t.1 t.2).length = i * 2 + 1 by simp [tmL]; omega]
theorem rts_upd (S : BS) (i : Nat) (K : Int) (hi : i < S.terms.length) : (rts S).set i (((rts S).getD i (⟨#[]⟩, 0)).1, K) = rts { S with lev := updL S.lev (i + 1) K } := by
  apply List.ext_getElem
  · simp [rts]
  · intro j h1 h2
    rw [List.getElem_set]
    by_cases e : i = j
    · subst e
      rw [if_pos rfl, rts_at S hi]
      simp [rts, updL]
    · rw [if_neg e]
      simp [rts, updL, show ¬ j = i from fun x => e x.symm]

end Go.Proofs.YtdhojilmgnodeaaDoor

/-
  Rule of the document's builder.
-/
namespace Go.Proofs.YtdhojilmgnodeaaDoor
open Go.RowKit Go.Maps Go.Shelf

attribute [local go_sem] Oper.semAt_some

theorem good_iff {S : BS} {l : List Int} : S.good l = true ↔ ∀ j, j < l.length → (S.isT (l.getD j 0) || S.isN (l.getD j 0)) = true := by
  unfold BS.good
  rw [List.all_eq_true]
  constructor
  · intro h j hj
    exact h _ (getD_mem_int hj)
  · intro h x hx
    obtain ⟨j, hj, e⟩ := List.getElem_of_mem hx
    have := h j hj
    rwa [show l.getD j 0 = x by simp [List.getD, hj, e]] at this

end Go.Proofs.YtdhojilmgnodeaaDoor

/-
  Rule of the document's builder, walked.
-/
namespace Go.Proofs.YtdhojilmgnodeaaDoor
open Go.RowKit Go.Maps Go.Shelf

attribute [local go_sem] Oper.semAt_some

end Go.Proofs.YtdhojilmgnodeaaDoor
