import Derived.Test.YtkhmhcinepfemaaQafcnlodgfiep
import Derived.BigQuiet
import Derived.Test.YtkhmhcinepfemaaQchamdifmohfm
import Derived.Deep.MidRow
import Derived.Deep.WholeRow
import Derived.Lib.Builder
import Derived.Lib.AppendStr
import Derived.Lib.UnsafeStr
import Derived.Lib.OthersKept

/-
  Level, walked.
-/
namespace Go.Proofs.Ytkhmhcinepfemaa
open Go.RowKit

attribute [local go_sem] Oper.semAt_some

theorem owns_form {W : World} {B e z n : Nat} {v : Value} {xs : List Value} (h : W.ownsRow B e z v n xs) : ∃ a c, v = .slice a n c := by
  rcases h.2 with ⟨rfl, h0⟩ | ⟨g, cap, cur, rfl, _⟩
  · exact ⟨none, 0, by rw [h0]⟩
  · exact ⟨_, _, rfl⟩
end Go.Proofs.Ytkhmhcinepfemaa

namespace Go.Proofs.Ytkhmhcinepfemaa
open Go.RowKit

theorem nodup_short {α : Type} [DecidableEq α] : ∀ (l m : List α), l.Nodup → (∀ x ∈ l, x ∈ m) → l.length ≤ m.length
  | [], _, _, _ => Nat.zero_le _
  | a :: l, m, hn, hs => by
    rw [List.nodup_cons] at hn
    have ha := hs a (by simp)
    have h := nodup_short l (m.erase a) hn.2 (fun x hx => (List.mem_erase_of_ne (fun e => hn.1 (by rw [← e]; exact hx))).2 (hs x (by simp [hx])))
    rw [List.length_erase_of_mem ha] at h
    have : 0 < m.length := List.length_pos_of_mem ha
    simp only [List.length_cons]
    omega

def updL (f : Nat → Int) (i : Nat) (z : Int) : Nat → Int := fun j => if j = i then z else f j
/-- The terminals' levels, once a level is told of these; none: it is refused. -/
def levGo (S : BS) (L : Int) : (Nat → Int) → List Int → Option (Nat → Int)
  | lev, [] => some lev
  | lev, h :: r => if S.isT h = true ∧ lev h.toNat = 0 then levGo S L (updL lev h.toNat L) r else none
def BS.addL (S : BS) (lev : Nat → Int) (side : Int) : BS := { S with lev := lev, sides := S.sides ++ [side] }
def BS.level (S : BS) (side : Int) (terms : List Int) : Int × Int × BS :=
  if (1 ≤ side ∧ side ≤ 3) ∧ terms ≠ [] then
    match levGo S (S.sides.length + 1) S.lev terms with
    | some lev => (S.sides.length + 1, 0, S.addL lev side)
    | none => (0, 1, S)
  else (0, 1, S)

theorem isT_iff {S : BS} {h : Int} : S.isT h = true ↔ 0 < h ∧ h ≤ S.terms.length := by simp [BS.isT]
/-- What it leaves and what it turns. -/
theorem levGo_keeps {S : BS} {L : Int} (hL : L ≠ 0) : ∀ (terms : List Int) (lev lev' : Nat → Int), levGo S L lev terms = some lev' →
    (∀ i, lev i ≠ 0 → lev' i = lev i) ∧ (∀ i, lev' i = lev i ∨ (lev' i = L ∧ 1 ≤ i ∧ i ≤ S.terms.length)) ∧ (terms ≠ [] → ∃ i, 1 ≤ i ∧ i ≤ S.terms.length ∧ lev' i = L)
  | [], lev, lev', h => by
    cases h
    exact ⟨fun _ _ => rfl, fun _ => .inl rfl, fun h => absurd rfl h⟩
  | a :: r, lev, lev', h => by
    unfold levGo at h
    split at h
    · next hc =>
      obtain ⟨h1, h2⟩ := hc
      obtain ⟨t1, t2⟩ := isT_iff.1 h1
      obtain ⟨k1, k2, _⟩ := levGo_keeps hL r _ _ h
      have hat : lev' a.toNat = L := by
        rw [k1 a.toNat (by simp [updL, hL])]
        simp [updL]
      refine ⟨fun i hi => ?_, fun i => ?_, fun _ => ⟨a.toNat, by omega, by omega, hat⟩⟩
      · have hne : i ≠ a.toNat := fun e => hi (by rw [e]; exact h2)
        have hu : updL lev a.toNat L i = lev i := by simp [updL, hne]
        rw [k1 i (by rw [hu]; exact hi), hu]
      · by_cases e : i = a.toNat
        · right
          rw [e]
          exact ⟨hat, by omega, by omega⟩
        · have hu : updL lev a.toNat L i = lev i := by simp [updL, e]
          rcases k2 i with h3 | h3
          · left; rw [h3, hu]
          · exact .inr h3
    · cases h

theorem levels_le {S : BS} {lev : Nat → Int} {n : Nat} (has : ∀ i, i < n → ∃ h, 1 ≤ h ∧ h ≤ S.terms.length ∧ lev h = (i : Int) + 1) : n ≤ S.terms.length := by
  have hnd : ((List.range n).map fun i : Nat => (i : Int) + 1).Nodup := by
    rw [List.nodup_iff_pairwise_ne, List.pairwise_map]
    exact (List.nodup_range (n := n)).imp (fun h e => h (by omega))
  have h := nodup_short ((List.range n).map fun i : Nat => (i : Int) + 1) ((List.range S.terms.length).map fun j => lev (j + 1)) hnd (fun x hx => by
    obtain ⟨i, hi, rfl⟩ := List.mem_map.1 hx
    obtain ⟨h, h1, h2, h3⟩ := has i (List.mem_range.1 hi)
    exact List.mem_map.2 ⟨h - 1, List.mem_range.2 (by omega), by rw [show h - 1 + 1 = h by omega]; exact h3⟩)
  simpa using h

theorem BS.OK.addL {S : BS} (h : S.OK) {side : Int} {terms : List Int} {lev : Nat → Int} (hs : 1 ≤ side ∧ side ≤ 3) (ht : terms ≠ []) (hl : levGo S (S.sides.length + 1) S.lev terms = some lev) : (S.addL lev side).OK := by
  obtain ⟨k1, k2, k3⟩ := levGo_keeps (by omega) terms S.lev lev hl
  have hlen : (S.sides ++ [side]).length = S.sides.length + 1 := by simp
  have hhas : ∀ i, i < (S.sides ++ [side]).length → ∃ h, 1 ≤ h ∧ h ≤ S.terms.length ∧ lev h = (i : Int) + 1 := fun i hi => by
    rw [hlen] at hi
    by_cases e : i = S.sides.length
    · obtain ⟨j, j1, j2, j3⟩ := k3 ht
      exact ⟨j, j1, j2, by rw [j3, e]⟩
    · obtain ⟨j, j1, j2, j3⟩ := h.has i (by omega)
      exact ⟨j, j1, j2, by rw [k1 j (by rw [j3]; omega), j3]⟩
  have hle := levels_le hhas
  have hsy := h.syms
  refine { syms := h.syms, tnames := h.tnames, nnames := h.nnames, tnd := h.tnd, nnd := h.nnd, sides := by show (S.sides ++ [side]).length ≤ 64; omega, sdv := ?_, prods := h.prods, lev := ?_, lev0 := ?_, levT := ?_, has := hhas, pl := h.pl, pr := h.pr, plen := h.plen, pv := ?_, st := h.st }
  · intro x hx
    rcases List.mem_append.1 (show x ∈ S.sides ++ [side] from hx) with hx | hx
    · exact h.sdv x hx
    · rw [List.mem_singleton.1 hx]; exact hs
  · intro i
    show 0 ≤ lev i ∧ lev i ≤ ((S.sides ++ [side]).length : Int)
    have hi := h.lev i
    rw [hlen]
    rcases k2 i with e | ⟨e, _, _⟩
    · rw [e]; omega
    · rw [e]; omega
  · show lev 0 = 0
    rcases k2 0 with e | ⟨_, e, _⟩
    · rw [e]; exact h.lev0
    · omega
  · intro j hj
    show lev j = 0
    rcases k2 j with e | ⟨_, _, e⟩
    · rw [e]; exact h.levT j hj
    · have hj' : S.terms.length < j := hj
      omega
  · intro p hp
    have := h.pv p hp
    show 0 ≤ p.level ∧ p.level ≤ ((S.sides ++ [side]).length : Int)
    rw [hlen]
    omega
theorem BS.OK.level {S : BS} (h : S.OK) (side : Int) (terms : List Int) : (S.level side terms).2.2.OK := by
  unfold BS.level
  split
  · next hc =>
    split
    · next lev hl => exact h.addL hc.1 hc.2 hl
    · exact h
  · exact h

end Go.Proofs.Ytkhmhcinepfemaa

namespace Go.Proofs.Ytkhmhcinepfemaa
open Go.RowKit

attribute [local go_sem] Oper.semAt_some

/-- A row of the terminals' levels. -/
def IsLev (A : Array Value) (f : Nat → Int) : Prop := A.size = 65 ∧ ∀ i, i < 65 → A[i]? = some (.int .i64 (f i))
def levRow (f : Nat → Int) : List Value := (List.range 65).map fun i => .int .i64 (f i)
theorem levRow_is (f : Nat → Int) : IsLev (levRow f).toArray f := by
  refine ⟨by simp [levRow], fun i hi => ?_⟩
  simp [levRow, hi]
theorem wpList_store_new {P : Program} {ops : Array Oper} {rest : List Oper} {op : Oper} {a : Act} {w : World} {Q : Exit → Act → World → Prop} (hgd : op.guard = none) (ty : TypeId) (x y : Operand) (ho : op.op = .store ty x y)
    (c c' : Array Value) (hx : a.eval x = .pointer (some ⟨w.heap.size, 0, none⟩)) (hy : a.eval y = .agg c') (hi : (P.info? ty).map (·.size) = some c'.size) (hs : c.size = c'.size) (h1 : c'.all (·.oneCell') = true)
    (h : wpList P ops Q rest (a.put op.dst undef) (w.alloc (.cells c' ty))) : wpList P ops Q (op :: rest) a (w.alloc (.cells c ty)) :=
  wpList_plain hgd fun K hK => by
    have hst := run_storeAt_new (P := P) w ty c c' hi hs h1
    unfold Oper.wp execOp
    simp only [ho, hx, hy, Sem.run_bind, Sem.run_pure, hst, Result.andThen_ok]
    exact hK _ _ h
theorem levGo_app {S : BS} {L : Int} : ∀ (xs ys : List Int) (lev lev' : Nat → Int), levGo S L lev xs = some lev' → levGo S L lev (xs ++ ys) = levGo S L lev' ys
  | [], ys, lev, lev', h => by cases h; rfl
  | x :: xs, ys, lev, lev', h => by
    unfold levGo at h
    rw [List.cons_append]
    conv => lhs; unfold levGo
    split at h
    · next hc => rw [if_pos hc]; exact levGo_app xs ys _ _ h
    · cases h
theorem take_drop_at {l : List Int} {k : Nat} (h : k < l.length) : l = l.take k ++ l.getD k 0 :: l.drop (k + 1) := by
  have : l.getD k 0 = l[k] := by simp [List.getD, h]
  rw [this, ← List.drop_eq_getElem_cons h, List.take_append_drop]
theorem take_succ_at {l : List Int} {k : Nat} (h : k < l.length) : l.take (k + 1) = l.take k ++ [l.getD k 0] := by
  have : l.getD k 0 = l[k] := by simp [List.getD, h]
  rw [this, List.take_succ_eq_append_getElem h]
theorem IsLev.set {A : Array Value} {f : Nat → Int} (h : IsLev A f) (m : Nat) (L : Int) : IsLev (A.setIfInBounds m (.int .i64 L)) (updL f m L) := by
  refine ⟨by simp [h.1], fun i hi => ?_⟩
  by_cases e : i = m
  · subst e
    simp [updL, h.1, hi]
  · rw [Array.getElem?_setIfInBounds_ne (fun x => e x.symm), h.2 i hi]
    simp [updL, e]
def putL (c : Nat → Value) (o : Nat) (vs : List Value) : Nat → Value := fun i => if o ≤ i ∧ i < o + vs.length then vs.getD (i - o) undef else c i
theorem putL_out {c : Nat → Value} {o : Nat} {vs : List Value} {i : Nat} (h : i < o ∨ o + vs.length ≤ i) : putL c o vs i = c i := by unfold putL; rw [if_neg (by omega)]
theorem putL_in {c : Nat → Value} {o : Nat} {vs : List Value} {i : Nat} (h : i < vs.length) : putL c o vs (o + i) = vs.getD i undef := by unfold putL; rw [if_pos (by omega), Nat.add_sub_cancel_left]
theorem putL_cons (c : Nat → Value) (o : Nat) (v : Value) (vs : List Value) : putL c o (v :: vs) = putL (putC c o v) (o + 1) vs := by
  funext i
  by_cases h1 : i = o
  · subst h1
    rw [putL_out (c := putC c i v) (o := i + 1) (by omega), putC_same]
    unfold putL
    rw [if_pos (by simp)]
    simp
  · unfold putL
    simp only [List.length_cons]
    by_cases h2 : o + 1 ≤ i ∧ i < o + 1 + vs.length
    · rw [if_pos (by omega), if_pos h2, show i - o = (i - (o + 1)) + 1 by omega]
      rfl
    · rw [if_neg (by omega), if_neg h2, putC_other _ _ h1]
theorem grown_setCells {b : Nat} : ∀ (vs : List Value) (o : Nat) (w : World), w.grownBy (w.setCells b o vs) (some b)
  | [], _, _ => grown_refl _ _
  | v :: vs, o, _ => grown_trans (grown_setCell b o v) (grown_setCells vs (o + 1) _)
end Go.Proofs.Ytkhmhcinepfemaa

/-
  Grade, walked.
-/
namespace Go.Proofs.Ytkhmhcinepfemaa
open Go.RowKit

def setLev (ps : List PR) (i : Nat) (l : Int) : List PR := ps.set i { ps.getD i ⟨0, [], 0⟩ with level := l }
def gradeGo (l : Int) : List PR → List Int → Option (List PR)
  | ps, [] => some ps
  | ps, h :: r => if 0 ≤ h ∧ h < ps.length then gradeGo l (setLev ps h.toNat l) r else none
def BS.grade (S : BS) (l : Int) (hs : List Int) : Int × BS :=
  if 0 ≤ l ∧ l ≤ S.sides.length then
    match gradeGo l S.prods hs with
    | some ps => (0, { S with prods := ps })
    | none => (1, S)
  else (1, S)
/-- As it was, but for its level. -/
def Graded (l : Int) (ps ps' : List PR) : Prop := ps'.length = ps.length ∧ ∀ i, i < ps.length → (ps'.getD i ⟨0, [], 0⟩).left = (ps.getD i ⟨0, [], 0⟩).left ∧ (ps'.getD i ⟨0, [], 0⟩).right = (ps.getD i ⟨0, [], 0⟩).right ∧ ((ps'.getD i ⟨0, [], 0⟩).level = (ps.getD i ⟨0, [], 0⟩).level ∨ (ps'.getD i ⟨0, [], 0⟩).level = l)
theorem Graded.refl (l : Int) (ps : List PR) : Graded l ps ps := ⟨rfl, fun _ _ => ⟨rfl, rfl, .inl rfl⟩⟩
theorem Graded.set {l : Int} {ps ps' : List PR} (h : Graded l ps ps') {k : Nat} (hk : k < ps.length) : Graded l ps (setLev ps' k l) := by
  refine ⟨by simp [setLev, h.1], fun i hi => ?_⟩
  obtain ⟨h1, h2, h3⟩ := h.2 i hi
  have hi' : i < ps'.length := by rw [h.1]; exact hi
  by_cases e : i = k
  · subst e
    have : (setLev ps' i l).getD i ⟨0, [], 0⟩ = { ps'.getD i ⟨0, [], 0⟩ with level := l } := by simp [setLev, List.getD, hi']
    rw [this]
    exact ⟨h1, h2, .inr rfl⟩
  · have : (setLev ps' k l).getD i ⟨0, [], 0⟩ = ps'.getD i ⟨0, [], 0⟩ := by simp [setLev, List.getD, show ¬ k = i from fun x => e x.symm]
    rw [this]
    exact ⟨h1, h2, h3⟩
theorem gradeGo_graded {l : Int} {ps0 : List PR} : ∀ (hs : List Int) (ps ps' : List PR), Graded l ps0 ps → gradeGo l ps hs = some ps' → Graded l ps0 ps'
  | [], ps, ps', h, e => by cases e; exact h
  | a :: r, ps, ps', h, e => by
    unfold gradeGo at e
    split at e
    · next hc => exact gradeGo_graded r _ _ (h.set (by rw [← h.1]; omega)) e
    · cases e
theorem gradeGo_app {l : Int} : ∀ (xs ys : List Int) (ps ps' : List PR), gradeGo l ps xs = some ps' → gradeGo l ps (xs ++ ys) = gradeGo l ps' ys
  | [], ys, ps, ps', h => by cases h; rfl
  | x :: xs, ys, ps, ps', h => by
    unfold gradeGo at h
    rw [List.cons_append]
    conv => lhs; unfold gradeGo
    split at h
    · next hc => rw [if_pos hc]; exact gradeGo_app xs ys _ _ h
    · cases h
theorem Graded.mem {l : Int} {ps ps' : List PR} (h : Graded l ps ps') {p : PR} (hp : p ∈ ps') : ∃ q ∈ ps, p.left = q.left ∧ p.right = q.right ∧ (p.level = q.level ∨ p.level = l) := by
  obtain ⟨i, hi, rfl⟩ := List.getElem_of_mem hp
  have hi' : i < ps.length := by rw [← h.1]; exact hi
  have := h.2 i hi'
  rw [show ps'.getD i ⟨0, [], 0⟩ = ps'[i] by simp [List.getD, hi], show ps.getD i ⟨0, [], 0⟩ = ps[i] by simp [List.getD, hi']] at this
  exact ⟨ps[i], List.getElem_mem hi', this⟩
theorem BS.OK.graded {S : BS} (h : S.OK) {l : Int} {ps : List PR} (hl : 0 ≤ l ∧ l ≤ S.sides.length) (hg : Graded l S.prods ps) : ({ S with prods := ps } : BS).OK := by
  refine ⟨h.syms, h.tnames, h.nnames, h.tnd, h.nnd, h.sides, h.sdv, by show ps.length ≤ 96; rw [hg.1]; exact h.prods, h.lev, h.lev0, h.levT, h.has, fun p hp => ?_, fun p hp k hk => ?_, fun p hp => ?_, fun p hp => ?_, h.st⟩
  · obtain ⟨q, hq, e1, _, _⟩ := hg.mem hp
    rw [e1]
    exact h.pl q hq
  · obtain ⟨q, hq, _, e2, _⟩ := hg.mem hp
    rw [e2] at hk
    exact h.pr q hq k hk
  · obtain ⟨q, hq, _, e2, _⟩ := hg.mem hp
    rw [e2]
    exact h.plen q hq
  · obtain ⟨q, hq, _, _, e3⟩ := hg.mem hp
    have := h.pv q hq
    show 0 ≤ p.level ∧ p.level ≤ (S.sides.length : Int)
    rcases e3 with e3 | e3 <;> rw [e3] <;> omega
theorem flat_set (l : Int) : ∀ (ps : List PR) (rs : List Value) (i : Nat), rs.length = ps.length → i < ps.length → ((ps.zip rs).flatMap fun x => prL x.1 x.2).set (i * 3 + 2) (.int .i64 l) = ((setLev ps i l).zip rs).flatMap fun x => prL x.1 x.2
  | [], _, _, _, h => by simp at h
  | p :: ps, [], _, h, _ => by simp at h
  | p :: ps, r :: rs, 0, _, _ => by simp [setLev, prL]
  | p :: ps, r :: rs, i + 1, h1, h2 => by
    have ih := flat_set l ps rs i (by simpa using h1) (by simpa using h2)
    have e : setLev (p :: ps) (i + 1) l = p :: setLev ps i l := by simp [setLev]
    rw [e, List.zip_cons_cons, List.zip_cons_cons, List.flatMap_cons, List.flatMap_cons, ← ih]
    show (prL p r ++ _).set _ _ = _
    rw [List.set_append_right _ _ (by simp [prL]; omega), show (i + 1) * 3 + 2 - (prL p r).length = i * 3 + 2 by simp [prL]; omega]

end Go.Proofs.Ytkhmhcinepfemaa

namespace Go.Proofs.Ytkhmhcinepfemaa
open Go.RowKit

attribute [local go_sem] Oper.semAt_some

end Go.Proofs.Ytkhmhcinepfemaa

/-
  The document's builder in memory: four lists of its own and the start symbol; what its steps leave.
-/
namespace Go.Proofs.Ytkhmhcinepfemaa
open Go.RowKit

theorem owns_ne {w : World} {B B' e e' s s' n n' : Nat} {v v' : Value} {xs xs' : List Value} (h : w.ownsRow B e s v n xs) (h' : w.ownsRow B' e' s' v' n' xs') (he : e ≠ e') : v.ownBlock = none ∨ v.ownBlock ≠ v'.ownBlock := by
  rcases h.2 with ⟨rfl, _⟩ | ⟨g, cap, cur, rfl, _, hg, _⟩
  · exact .inl rfl
  · right
    intro hh
    rcases h'.2 with ⟨rfl, _⟩ | ⟨g', cap', cur', rfl, _, hg', _⟩
    · cases hh
    · have : g = g' := by simpa [Value.ownBlock] using hh
      rw [this, hg'] at hg
      simp at hg
      exact he hg.2.symm
theorem owns_nebox {w : World} {B e e' s n r : Nat} {v : Value} {xs : List Value} {cs : Array Value} (h : w.ownsRow B e s v n xs) (hr : w.heap[r]? = some (.cells cs e' (0, 0))) (he : e ≠ e') : v.ownBlock = none ∨ v.ownBlock ≠ some r := by
  rcases h.2 with ⟨rfl, _⟩ | ⟨g, cap, cur, rfl, _, hg, _⟩
  · exact .inl rfl
  · right
    intro hh
    have : g = r := by simpa [Value.ownBlock] using hh
    rw [this, hr] at hg
    simp at hg
    exact he hg.2.symm

/-- The terminals with their levels. -/
def rts (S : BS) : List (ByteArray × Int) := (List.range S.terms.length).map fun j => (S.terms.getD j ⟨#[]⟩, S.lev (j + 1))
theorem rts_length (S : BS) : (rts S).length = S.terms.length := by simp [rts]
theorem rts_at (S : BS) {j : Nat} (h : j < S.terms.length) : (rts S).getD j (⟨#[]⟩, 0) = (S.terms.getD j ⟨#[]⟩, S.lev (j + 1)) := by simp [rts, List.getD, h]

theorem none_ne {o row : Option Nat} (h : row = none) : o = none ∨ o ≠ row := by
  cases o with
  | none => exact .inl rfl
  | some g => right; rw [h]; simp
end Go.Proofs.Ytkhmhcinepfemaa

/-
  show's writer: a strings.Builder within a box, the grammar beside it, and whether a word stands in the line.
-/
namespace Go.Proofs.Ytkhmhcinepfemaa
open Go.RowKit Go.Maps Go.Shelf

theorem infoByte : (Try.prog.info? 5).map (fun i => (i.zero, i.size, i.bytes)) = some (some (.int .u8 0), 1, 1) := by kernel_rfl
theorem sizeBuilder : (Try.prog.info? 53).map (·.size) = some 2 := by kernel_rfl
theorem liesWriter : liesAt Try.prog Try.prog.depth 55 (8 / Try.prog.cellsOf 55) 0 53 1 = true := by kernel_rfl

structure WrB (W0 w : World) (b : Nat) (p v : Value) (gv : Value × Value × Value × Value × Value) (bs : List UInt8) (inl : Bool) : Prop where
  grown : W0.grownBy w none
  lo : W0.heap.size ≤ b
  blk : w.heap[b]? = some (.cells #[p, v, gv.1, gv.2.1, gv.2.2.1, gv.2.2.2.1, gv.2.2.2.2, .bool inl] 55 (0, 0))
  own : w.ownsRow W0.heap.size 5 1 v bs.length (Lib.byteCells bs)
  nil : bs = [] → v = .slice none 0 0
def WrAt (W0 w : World) (b : Nat) (gv : Value × Value × Value × Value × Value) (bs : List UInt8) (inl : Bool) : Prop :=
  ∃ p v, (p = .pointer none ∨ p = .pointer (some ⟨b, 0, none⟩)) ∧ WrB W0 w b p v gv bs inl

section
variable {W0 w w' : World} {b : Nat} {p v : Value} {gv : Value × Value × Value × Value × Value} {bs : List UInt8} {inl : Bool}
theorem WrB.lt (h : WrB W0 w b p v gv bs inl) : b < w.heap.size := (Array.getElem?_eq_some_iff.1 h.blk).1
theorem WrB.cell (h : WrB W0 w b p v gv bs inl) (k : Nat) (u : Value) (hu : #[p, v, gv.1, gv.2.1, gv.2.2.1, gv.2.2.2.1, gv.2.2.2.2, .bool inl][k]? = some u) : w.cell? ⟨b, k, none⟩ = some u := by rw [cell_of_row _ _ _ _ _ _ h.blk]; exact hu
theorem WrB.free (h : WrB W0 w b p v gv bs inl) (k : Nat) : w.frozen? ⟨b, k, none⟩ = false := frozen_of_row _ _ _ _ _ h.blk
theorem WrB.shape (h : WrB W0 w b p v gv bs inl) : w.shape? b = some (55, 8) := by simp [World.shape?, h.blk]
theorem WrB.apart (h : WrB W0 w b p v gv bs inl) : v.ownBlock = none ∨ v.ownBlock ≠ some b := owns_nebox h.own h.blk (by decide)
theorem WrB.kept (h : WrB W0 w b p v gv bs inl) (hg : w.grownBy w' none) : WrB W0 w' b p v gv bs inl :=
  ⟨grown_trans h.grown hg, h.lo, (hg.block b h.lt (by simp)).trans h.blk, h.own.kept hg (by cases hv : v.ownBlock <;> simp), h.nil⟩
theorem WrAt.kept (h : WrAt W0 w b gv bs inl) (hg : w.grownBy w' none) : WrAt W0 w' b gv bs inl := by
  obtain ⟨p, v, hp, h⟩ := h
  exact ⟨p, v, hp, h.kept hg⟩
theorem WrB.setP (h : WrB W0 w b p v gv bs inl) (q : Value) : WrB W0 (w.setCell ⟨b, 0, none⟩ q) b q v gv bs inl :=
  ⟨grown_new h.grown (grown_setCell _ _ _) h.lo, h.lo, by have := heap_setCell_same w b 0 _ _ q h.blk; simpa using this, h.own.kept (grown_setCell b 0 q) h.apart, h.nil⟩
end

set_option maxHeartbeats 1000000 in
set_option maxRecDepth 100000 in
theorem copyCheck_at {W0 w : World} {b : Nat} {gv : Value × Value × Value × Value × Value} {bs : List UInt8} {inl : Bool} (h : WrAt W0 w b gv bs inl) :
    Calls Try.prog 67 #[.pointer (some ⟨b, 0, none⟩)] w fun e w' => e = .returned (.tuple #[]) ∧ (∃ v, WrB W0 w' b (.pointer (some ⟨b, 0, none⟩)) v gv bs inl) ∧ Lib.OthersKept 5 (some b) w w' := by
  obtain ⟨j, hj, hjs⟩ := Option.map_eq_some_iff.1 sizeBuilder
  obtain ⟨p, v, hp, h⟩ := h
  have c0 := h.cell 0 _ rfl
  have f0 := h.free 0
  have hsh := h.shape
  rcases hp with rfl | rfl
  · go_enter Try.func67, Try.ntmps67
    go_wp2
    rw [Lib.run_to_unsafe w ⟨b, 0, none⟩ Try.underlying50 Try.underlying89 hj (by rw [hjs]; decide) hsh (Nat.zero_lt_succ 7)]
    simp only [Result.andThen]
    rw [Oper.upon_value]
    go_wp2
    rw [run_callFunc_extern Try.func78 (by kernel_rfl) (by kernel_rfl) (by kernel_rfl) (e := Extern.AbiNoEscape.same) (by kernel_rfl)]
    rw [Lib.run_noEscape]
    simp only [Result.andThen]
    rw [Oper.upon_value]
    go_wp2
    rw [Lib.run_from_unsafe w ⟨b, 0, none⟩ Try.underlying89 Try.underlying50 hj hsh liesWriter]
    simp only [Result.andThen]
    rw [Oper.upon_value]
    go_wp2
    go_end0
    exact ⟨rfl, ⟨v, h.setP _⟩, (Lib.OthersKept.refl _ _ w).setCell ⟨b, 0, none⟩ rfl _⟩
  · go_enter Try.func67, Try.ntmps67
    go_wp2
    rw [Lib.run_neq_ptr_same w _ Try.underlying50 hj]
    go_wp2
    go_end0
    exact ⟨rfl, ⟨v, h⟩, Lib.OthersKept.refl _ _ _⟩

theorem WrB.put {W0 w w' : World} {b : Nat} {p v v' : Value} {gv : Value × Value × Value × Value × Value} {bs bs' : List UInt8} {inl : Bool} (h : WrB W0 w b p v gv bs inl) (ho : w'.ownsRow W0.heap.size 5 1 v' bs'.length (Lib.byteCells bs')) (hg : w.grownBy w' v.ownBlock) (hn : bs' = [] → v' = .slice none 0 0) :
    w'.cell? ⟨b, 1, none⟩ = some v ∧ w'.frozen? ⟨b, 1, none⟩ = false ∧ WrB W0 (w'.setCell ⟨b, 1, none⟩ v') b p v' gv bs' inl := by
  have hblk : w'.heap[b]? = some (.cells #[p, v, gv.1, gv.2.1, gv.2.2.1, gv.2.2.2.1, gv.2.2.2.2, .bool inl] 55 (0, 0)) := (hg.block b h.lt (by rcases h.apart with e | e <;> simp [e, Ne.symm])).trans h.blk
  have hgr : W0.grownBy w' none := by
    cases hv : v.ownBlock with
    | none => rw [hv] at hg; exact grown_trans h.grown hg
    | some q => rw [hv] at hg; exact grown_new h.grown hg (h.own.lt q hv).1
  have hne := owns_nebox ho hblk (by decide)
  refine ⟨by rw [cell_of_row _ _ _ _ _ _ hblk]; rfl, frozen_of_row _ _ _ _ _ hblk, grown_new hgr (grown_setCell _ _ _) h.lo, h.lo, ?_, ho.kept (grown_setCell b 1 v') hne, hn⟩
  have := heap_setCell_same w' b 1 _ _ v' hblk
  simpa using this

set_option maxHeartbeats 2000000 in
set_option maxRecDepth 100000 in
theorem writeByte_at {W0 w : World} {b : Nat} {gv : Value × Value × Value × Value × Value} {bs : List UInt8} {inl : Bool} (c : UInt8) (h : WrAt W0 w b gv bs inl) (hl : bs.length + 1 ≤ 140737488355328) :
    Calls Try.prog 53 #[.pointer (some ⟨b, 0, none⟩), .int .u8 c.toNat] w fun e w' => e = .returned .nilIface ∧ WrAt W0 w' b gv (bs ++ [c]) inl ∧ Lib.OthersKept 5 (some b) w w' := by
  obtain ⟨i0, hi, hz0, hz1, hz2⟩ := info_parts infoByte
  have H : Hid (WrAt W0 w b gv bs inl) := h
  clear h
  go_enter Try.func53, Try.ntmps53
  go_wp2_with fail
  refine (copyCheck_at H.out).mono ?_
  rintro e w1 ⟨rfl, ⟨v, hB⟩, hk⟩
  have HK : Hid (Lib.OthersKept 5 (some b) w w1) := hk
  clear hk
  have HB : Hid (WrB W0 w1 b (.pointer (some ⟨b, 0, none⟩)) v gv bs inl) := hB
  have c0 := hB.cell 0 _ rfl
  have c1 := hB.cell 1 _ rfl
  clear hB H
  go_wp2_with (at_builtin; refine wpList_append_own _ rfl _ _ 51 rfl W0.heap.size 5 i0 (.int .u8 0) 1 1 Try.underlying51 hi hz0 hz1 hz2 rfl (by decide) v bs.length (Lib.byteCells bs) rfl (HB.out.own.alloc _) ⟨w1.heap.size, 0, none⟩ 1 1 [.int .u8 c.toNat] rfl rfl ?c1 ?c2 ?c3 ?c4 ?c5 ?_)
  case c1 => exact World.news_of_block (heap_alloc_last w1 _)
  case c2 => intro u hu; simp at hu; subst hu; rfl
  case c3 => unfold maxLen; omega
  case c4 => omega
  case c5 => have := HB.out.grown.size; simp; omega
  intro v' w2 hown hg _
  obtain ⟨y1, y2, y3⟩ := WrB.put (bs' := bs ++ [c]) (HB.out.kept (World.grownBy_alloc w1 _ none)) (by simpa [Lib.byteCells] using hown) hg (by simp)
  have HY : Hid (WrB W0 (w2.setCell ⟨b, 1, none⟩ v') b (.pointer (some ⟨b, 0, none⟩)) v' gv (bs ++ [c]) inl) := y3
  clear y3
  have HO : Hid (Lib.OthersKept 5 (some b) w w2) := (HK.out.alloc _).grown hg (Lib.ownsRowF_kind (World.ownsRowF_of (HB.out.own.alloc _)))
  obtain ⟨a2, n2, rfl⟩ := owns_slice hown
  go_wp2_with fail
  go_ret
  exact ⟨rfl, ⟨_, _, .inr rfl, HY.out⟩, HO.out.setCell ⟨b, 1, none⟩ rfl _⟩

set_option maxHeartbeats 2000000 in
set_option maxRecDepth 100000 in
theorem writeString_at {W0 w : World} {b : Nat} {gv : Value × Value × Value × Value × Value} {bs : List UInt8} {inl : Bool} (s : ByteArray) (h : WrAt W0 w b gv bs inl) (hl : bs.length + s.size ≤ 140737488355328) :
    Calls Try.prog 54 #[.pointer (some ⟨b, 0, none⟩), .string s] w fun e w' => e = .returned (.tuple #[.int .i64 s.size, .nilIface]) ∧ WrAt W0 w' b gv (bs ++ s.data.toList) inl ∧ Lib.OthersKept 5 (some b) w w' := by
  obtain ⟨i0, hi, hz0, hz1, hz2⟩ := info_parts infoByte
  have H : Hid (WrAt W0 w b gv bs inl) := h
  clear h
  go_enter Try.func54, Try.ntmps54
  go_wp2_with fail
  refine (copyCheck_at H.out).mono ?_
  rintro e w1 ⟨rfl, ⟨v, hB⟩, hk⟩
  have HK : Hid (Lib.OthersKept 5 (some b) w w1) := hk
  clear hk
  have HB : Hid (WrB W0 w1 b (.pointer (some ⟨b, 0, none⟩)) v gv bs inl) := hB
  have c0 := hB.cell 0 _ rfl
  have c1 := hB.cell 1 _ rfl
  clear hB H
  have hse : s.data.toList.length = s.size := by rw [Array.length_toList]; rfl
  go_wp2_with (at_builtin; refine Lib.wpList_append_own_string _ rfl _ _ 51 9 rfl W0.heap.size 5 i0 Try.underlying51 Try.underlying9 hi hz0 hz1 hz2 v bs.length (Lib.byteCells bs) rfl HB.out.own s rfl ?c1 ?c2 ?c3 ?_)
  case c1 => unfold maxLen; omega
  case c2 => exact hl
  case c3 => exact HB.out.grown.size
  intro v' w2 hown hg hnil
  obtain ⟨y1, y2, y3⟩ := WrB.put (bs' := bs ++ s.data.toList) HB.out (by rw [List.length_append, hse, Lib.byteCells_append, ← Lib.strCells_eq]; exact hown) hg (fun e => by rw [List.append_eq_nil_iff] at e; exact hnil.2 ⟨HB.out.nil e.1, congrArg ByteArray.mk (Array.toList_eq_nil_iff.1 e.2)⟩)
  have HY : Hid (WrB W0 (w2.setCell ⟨b, 1, none⟩ v') b (.pointer (some ⟨b, 0, none⟩)) v' gv (bs ++ s.data.toList) inl) := y3
  clear y3
  have HO : Hid (Lib.OthersKept 5 (some b) w w2) := HK.out.grown hg (Lib.ownsRowF_kind (World.ownsRowF_of HB.out.own))
  obtain ⟨a2, n2, rfl⟩ := owns_slice hown
  go_wp2_with fail
  go_ret2
  exact ⟨rfl, ⟨_, _, .inr rfl, HY.out⟩, HO.out.setCell ⟨b, 1, none⟩ rfl _⟩

set_option maxRecDepth 100000 in
theorem len_at {W0 w : World} {b : Nat} {gv : Value × Value × Value × Value × Value} {bs : List UInt8} {inl : Bool} (h : WrAt W0 w b gv bs inl) :
    Calls Try.prog 29 #[.pointer (some ⟨b, 0, none⟩)] w fun e w' => e = .returned (.int .i64 bs.length) ∧ w' = w := by
  obtain ⟨p, v, _, h⟩ := h
  obtain ⟨a, c, rfl⟩ := owns_slice h.own
  have c1 := h.cell 1 _ rfl
  clear h
  go_enter Try.func29, Try.ntmps29
  go_wp2_with fail
  go_ret
  exact ⟨rfl, rfl⟩

theorem cellsByte : Try.prog.cellsOf 5 = 1 := by kernel_rfl

theorem grown_freeze {W0 w : World} {g n : Nat} (h : W0.grownBy w none) (hg : W0.heap.size ≤ g) : W0.grownBy (w.freeze ⟨g, 0, none⟩ n) none := by
  unfold World.freeze
  split
  · exact h
  · exact ⟨h.os, h.tape, h.output, by have := h.size; simpa using this, fun k hk hn => by
      simp only [Array.getElem?_modify]
      rw [if_neg (by omega)]
      exact h.block k hk hn⟩

set_option maxHeartbeats 2000000 in
set_option maxRecDepth 100000 in
theorem string_at {W0 w : World} {b : Nat} {gv : Value × Value × Value × Value × Value} {bs : List UInt8} {inl : Bool} (h : WrAt W0 w b gv bs inl) :
    Calls Try.prog 30 #[.pointer (some ⟨b, 0, none⟩)] w fun e w' => e = .returned (.string ⟨bs.toArray⟩) ∧ W0.grownBy w' none := by
  obtain ⟨p, v, _, h⟩ := h
  have h' := h.kept (grown_drewN w 1)
  by_cases h0 : bs = []
  · subst h0
    obtain rfl := h.nil rfl
    have hUS : ∀ W q, (Builtin.unsafeString_ #[76, 3] 9 #[.pointer q, .int .i64 0]).run Try.prog W = .ok (.string .empty) W := fun W q => Lib.run_unsafeString_none W _ _ _ q
    have c1 : w.drew.cell? ⟨b, 1, none⟩ = some (.slice none 0 0) := h'.cell 1 _ rfl
    have hSD : (Builtin.unsafeSliceData_ #[51] 76 #[.slice none 0 0]).run Try.prog w.drew = .ok (.pointer none) w.drew := rfl
    have HG : Hid (W0.grownBy w.drew none) := h'.grown
    clear h h'
    go_enter Try.func30, Try.ntmps30
    go_wp2
    go_region
    all_goals (go_wp2; go_ret; exact ⟨rfl, HG.out⟩)
  · have hl0 : bs.length ≠ 0 := by simpa using h0
    obtain ⟨g, cap, cur, rfl, hbg, hg, hnc, hcm, hcs, htake⟩ : ∃ g cap cur, v = .slice (some ⟨g, 0, none⟩) bs.length cap ∧ W0.heap.size ≤ g ∧ w.heap[g]? = some (.cells cur 5 (0, 0)) ∧ bs.length ≤ cap ∧ cap ≤ maxLen ∧ cur.size = cap * 1 ∧ cur.toList.take (bs.length * 1) = Lib.byteCells bs := by
      rcases h.own.2 with ⟨_, hz⟩ | ⟨g, cap, cur, hv, r⟩
      · exact absurd hz hl0
      · exact ⟨g, cap, cur, hv, r⟩
    have c1 : w.drew.cell? ⟨b, 1, none⟩ = some (.slice (some ⟨g, 0, none⟩) bs.length cap) := h'.cell 1 _ rfl
    have hSD : (Builtin.unsafeSliceData_ #[51] 76 #[.slice (some ⟨g, 0, none⟩) bs.length cap]).run Try.prog w.drew = .ok (.pointer (some ⟨g, 0, none⟩)) w.drew :=
      Lib.run_unsafeSliceData_row _ _ _ _ _ _ (by omega)
    have hUS : (Builtin.unsafeString_ #[76, 3] 9 #[.pointer (some ⟨g, 0, none⟩), .int .i64 bs.length]).run Try.prog w.drew = .ok (.string ⟨bs.toArray⟩) (w.drew.freeze ⟨g, 0, none⟩ bs.length) := by
      refine Lib.run_unsafeString_row w.drew 76 3 9 5 Try.underlying76 cellsByte g cur.size (by have hg' : w.drew.heap[g]? = some (.cells cur 5 (0, 0)) := hg; simp [World.shape?, hg']) bs h0 (by omega) (by unfold maxLen at hcm; omega) ?_
      intro j x hx
      have := h.own.cells (g := g) rfl j (.int .u8 x.toNat) (by simp [Lib.byteCells, hx])
      exact this
    have HG : Hid (W0.grownBy (w.drew.freeze ⟨g, 0, none⟩ bs.length) none) := grown_freeze h'.grown hbg
    clear h h' hg hcs htake
    go_enter Try.func30, Try.ntmps30
    go_wp2
    go_region
    all_goals (go_wp2; go_ret; exact ⟨rfl, HG.out⟩)

end Go.Proofs.Ytkhmhcinepfemaa

/-
  show's writer: a word.
-/
namespace Go.Proofs.Ytkhmhcinepfemaa
open Go.RowKit Go.Maps Go.Shelf

theorem WrB.setL {W0 w : World} {b : Nat} {p v : Value} {gv : Value × Value × Value × Value × Value} {bs : List UInt8} {inl : Bool} (h : WrB W0 w b p v gv bs inl) (q : Bool) : WrB W0 (w.setCell ⟨b, 7, none⟩ (.bool q)) b p v gv bs q :=
  ⟨grown_new h.grown (grown_setCell _ _ _) h.lo, h.lo, by have := heap_setCell_same w b 7 _ _ (.bool q) h.blk; simpa using this, h.own.kept (grown_setCell b 7 _) h.apart, h.nil⟩

def piecesB (ps : List ByteArray) : List UInt8 := (ps.map fun s => s.data.toList).flatten

theorem piecesB_succ {ps : List ByteArray} {k : Nat} (h : k < ps.length) : piecesB (ps.take (k + 1)) = piecesB (ps.take k) ++ (ps.getD k ByteArray.empty).data.toList := by
  have e : ps.take (k + 1) = ps.take k ++ [ps.getD k ByteArray.empty] := by rw [List.take_add_one]; simp [h, List.getD]
  rw [e, piecesB, List.map_append, List.flatten_append]
  simp [piecesB]
theorem pieces_le (ps : List ByteArray) (k : Nat) : (piecesB (ps.take k)).length ≤ (piecesB ps).length := by
  have e : piecesB ps = piecesB (ps.take k) ++ piecesB (ps.drop k) := by
    simp only [piecesB]
    rw [← List.flatten_append, ← List.map_append, List.take_append_drop]
  rw [e, List.length_append]
  omega

set_option maxRecDepth 100000 in
theorem word_at {W0 w : World} {b : Nat} {gv : Value × Value × Value × Value × Value} {bs : List UInt8} {inl : Bool} (sa : Option Addr) (n cap : Nat) (ps : List ByteArray) (hn : ps.length = n) (h : WrAt W0 w b gv bs inl) (hs : ∀ X, Lib.OthersKept 5 (some b) w X → StrsAt X sa ps) (hl : bs.length + 1 + (piecesB ps).length ≤ 140737488355328) (hnl : n ≤ 1048576) :
    Calls Try.prog 40 #[.pointer (some ⟨b, 0, none⟩), .slice sa n cap] w fun e w' => e = .returned (.tuple #[]) ∧ WrAt W0 w' b gv (bs ++ (if inl then [32] else []) ++ piecesB ps) true ∧ Lib.OthersKept 5 (some b) w w' := by
  have HN : Hid (ps.length = n) := hn
  have HS : Hid (∀ X, Lib.OthersKept 5 (some b) w X → StrsAt X sa ps) := hs
  clear hn hs
  cases inl
  · obtain ⟨p, v, hp, hB⟩ := h
    have c7 := hB.cell 7 _ rfl
    have f7 := hB.free 7
    have HW : Hid (WrAt W0 (w.setCell ⟨b, 7, none⟩ (.bool true)) b gv bs true) := ⟨p, v, hp, hB.setL true⟩
    have HK : Hid (Lib.OthersKept 5 (some b) w (w.setCell ⟨b, 7, none⟩ (.bool true))) := (Lib.OthersKept.refl _ _ w).setCell ⟨b, 7, none⟩ rfl _
    clear hB hp
    go_enter Try.func40, Try.ntmps40
    go_wp2_with fail
    go_loopg [5, 19] n (fun gk v5 i wr => ∃ k : Nat, k ≤ n ∧ gk = n - k ∧ i = .int .i64 k ∧ WrAt W0 wr b gv (bs ++ piecesB (ps.take k)) true ∧ Lib.OthersKept 5 (some b) w wr)
    case atStart => exact ⟨0, Nat.zero_le _, rfl, rfl, by simpa [piecesB] using HW.out, HK.out⟩
    case round =>
      obtain ⟨k, hk, hgk, rfl, hW, hK⟩ := hrel
      have HW2 : Hid (WrAt W0 wr b gv (bs ++ piecesB (ps.take k)) true) := hW
      have HK2 : Hid (Lib.OthersKept 5 (some b) w wr) := hK
      have HGK : Hid (gk = n - k) := hgk
      clear hW hK hgk HW HK
      by_cases hlt : k < n
      · obtain ⟨sb, so, rfl, hc⟩ : ∃ sb so, sa = some ⟨sb, so, none⟩ ∧ ∀ i, i < ps.length → wr.cell? ⟨sb, so + i, none⟩ = some (.string (ps.getD i ByteArray.empty)) := by
          rcases HS.out wr HK2.out with h | h
          · have h9 := HN.out; rw [h] at h9; simp at h9; omega
          · exact h
        have c0 := hc k (by rw [HN.out]; exact hlt)
        obtain ⟨s, hs0⟩ : ∃ s, s = ps.getD k ByteArray.empty := ⟨_, rfl⟩
        rw [← hs0] at c0
        have HT : Hid (piecesB (ps.take (k + 1)) = piecesB (ps.take k) ++ s.data.toList) := by
          show _ = _
          rw [hs0, piecesB_succ (by rw [HN.out]; exact hlt)]
        have HB2 : Hid ((bs ++ piecesB (ps.take k)).length + s.size ≤ 140737488355328) := by
          show _ ≤ _
          have h1 := pieces_le ps (k + 1)
          rw [HT.out] at h1
          have h2 : s.data.toList.length = s.size := by rw [Array.length_toList]; rfl
          simp only [List.length_append] at h1 ⊢
          have := hl
          omega
        clear hc hs0
        go_wp2_with fail
        refine (writeString_at s HW2.out HB2.out).mono ?_
        rintro e w3 ⟨rfl, hW3, hK3⟩
        have HW3 : Hid (WrAt W0 w3 b gv (bs ++ piecesB (ps.take (k + 1))) true) := by
          show WrAt _ _ _ _ _ _
          rw [HT.out, ← List.append_assoc]
          exact hW3
        have HK3 : Hid (Lib.OthersKept 5 (some b) w w3) := HK2.out.trans hK3
        clear hW3 hK3 HW2 HK2
        go_wp2_with fail
        go_roundg (n - (k + 1))
        case measure => have := HGK.out; omega
        case rel => exact ⟨k + 1, by omega, rfl, by go_num, HW3.out, HK3.out⟩
      · obtain rfl : n = k := by omega
        go_wp2_with fail
        go_end0
        refine ⟨rfl, ?_, HK2.out⟩
        have := HW2.out
        rw [List.take_of_length_le (by rw [HN.out]; exact Nat.le_refl _)] at this
        simpa using this
  · have H : Hid (WrAt W0 w b gv bs true) := h
    have c7 : w.cell? ⟨b, 7, none⟩ = some (.bool true) := by
      obtain ⟨p, v, hp, hB⟩ := h
      exact hB.cell 7 _ rfl
    clear h
    go_enter Try.func40, Try.ntmps40
    go_wp2_with fail
    refine (writeByte_at (32 : UInt8) H.out (by omega)).mono ?_
    rintro e w1 ⟨rfl, ⟨p, v, hp, hB⟩, hk⟩
    have c7 := hB.cell 7 _ rfl
    have f7 := hB.free 7
    have HW : Hid (WrAt W0 (w1.setCell ⟨b, 7, none⟩ (.bool true)) b gv (bs ++ [32]) true) := ⟨p, v, hp, hB.setL true⟩
    have HK : Hid (Lib.OthersKept 5 (some b) w (w1.setCell ⟨b, 7, none⟩ (.bool true))) := hk.setCell ⟨b, 7, none⟩ rfl _
    clear hB hp hk H
    go_wp2_with fail
    go_loopg [5, 19] n (fun gk v5 i wr => ∃ k : Nat, k ≤ n ∧ gk = n - k ∧ i = .int .i64 k ∧ WrAt W0 wr b gv (bs ++ [32] ++ piecesB (ps.take k)) true ∧ Lib.OthersKept 5 (some b) w wr)
    case atStart => exact ⟨0, Nat.zero_le _, rfl, rfl, by simpa [piecesB] using HW.out, HK.out⟩
    case round =>
      obtain ⟨k, hk, hgk, rfl, hW, hK⟩ := hrel
      have HW2 : Hid (WrAt W0 wr b gv (bs ++ [32] ++ piecesB (ps.take k)) true) := hW
      have HK2 : Hid (Lib.OthersKept 5 (some b) w wr) := hK
      have HGK : Hid (gk = n - k) := hgk
      clear hW hK hgk HW HK
      by_cases hlt : k < n
      · obtain ⟨sb, so, rfl, hc⟩ : ∃ sb so, sa = some ⟨sb, so, none⟩ ∧ ∀ i, i < ps.length → wr.cell? ⟨sb, so + i, none⟩ = some (.string (ps.getD i ByteArray.empty)) := by
          rcases HS.out wr HK2.out with h | h
          · have h9 := HN.out; rw [h] at h9; simp at h9; omega
          · exact h
        have c0 := hc k (by rw [HN.out]; exact hlt)
        obtain ⟨s, hs0⟩ : ∃ s, s = ps.getD k ByteArray.empty := ⟨_, rfl⟩
        rw [← hs0] at c0
        have HT : Hid (piecesB (ps.take (k + 1)) = piecesB (ps.take k) ++ s.data.toList) := by
          show _ = _
          rw [hs0, piecesB_succ (by rw [HN.out]; exact hlt)]
        have HB2 : Hid ((bs ++ [32] ++ piecesB (ps.take k)).length + s.size ≤ 140737488355328) := by
          show _ ≤ _
          have h1 := pieces_le ps (k + 1)
          rw [HT.out] at h1
          have h2 : s.data.toList.length = s.size := by rw [Array.length_toList]; rfl
          simp only [List.length_append] at h1 ⊢
          have := hl
          simp only [List.length_singleton] at *; omega
        clear hc hs0
        go_wp2_with fail
        refine (writeString_at s HW2.out HB2.out).mono ?_
        rintro e w3 ⟨rfl, hW3, hK3⟩
        have HW3 : Hid (WrAt W0 w3 b gv (bs ++ [32] ++ piecesB (ps.take (k + 1))) true) := by
          show WrAt _ _ _ _ _ _
          rw [HT.out, ← List.append_assoc]
          exact hW3
        have HK3 : Hid (Lib.OthersKept 5 (some b) w w3) := HK2.out.trans hK3
        clear hW3 hK3 HW2 HK2
        go_wp2_with fail
        go_roundg (n - (k + 1))
        case measure => have := HGK.out; omega
        case rel => exact ⟨k + 1, by omega, rfl, by go_num, HW3.out, HK3.out⟩
      · obtain rfl : n = k := by omega
        go_wp2_with fail
        go_end0
        refine ⟨rfl, ?_, HK2.out⟩
        have := HW2.out
        rw [List.take_of_length_le (by rw [HN.out]; exact Nat.le_refl _)] at this
        simpa using this

end Go.Proofs.Ytkhmhcinepfemaa
