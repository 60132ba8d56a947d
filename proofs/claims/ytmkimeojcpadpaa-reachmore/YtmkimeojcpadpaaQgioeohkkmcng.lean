import Derived.Test.YtmkimeojcpadpaaQdlhihghkdgej
import Derived.BigQuiet
import Derived.Test.YtmkimeojcpadpaaQmcplihjcfkla
import Derived.Deep.MidRow
import Derived.Deep.WholeRow
import Derived.Test.YtmkimeojcpadpaaQahhmeoboboeg
import Derived.Test.YtmkimeojcpadpaaQolookbfchanb
import Derived.Test.YtmkimeojcpadpaaQdhhlobbagofb
import Derived.Laws.AppendOwnNone

/-
  Level, walked.
-/
namespace Go.Proofs.Ytmkimeojcpadpaa
open Go.RowKit

attribute [local go_sem] Oper.semAt_some

theorem owns_form {W : World} {B e z n : Nat} {v : Value} {xs : List Value} (h : W.ownsRow B e z v n xs) : ∃ a c, v = .slice a n c := by
  rcases h.2 with ⟨rfl, h0⟩ | ⟨g, cap, cur, rfl, _⟩
  · exact ⟨none, 0, by rw [h0]⟩
  · exact ⟨_, _, rfl⟩
end Go.Proofs.Ytmkimeojcpadpaa

namespace Go.Proofs.Ytmkimeojcpadpaa
open Go.RowKit

theorem nodup_short {α : Type} [DecidableEq α] : ∀ (l m : List α), l.Nodup → (∀ x ∈ l, x ∈ m) → l.length ≤ m.length
  | [], _, _, _ => Nat.zero_le _
  | a :: l, m, hn, hs => by
    rw [List.nodup_cons] at hn
    have ha := hs a (by simp)
    have h := nodup_short l (m.erase a) hn.2 (fun x hx => (List.mem_erase_of_ne (fun e => hn.1 (by rw [← e]; exact hx))).2 (hs x (by simp [hx])))
    rw [List.length_erase_of_mem ha] at h
    have : 0 < m.length := List.length_pos_of_mem ha
    simp only [List.length_cons]
    omega

def updL (f : Nat → Int) (i : Nat) (z : Int) : Nat → Int := fun j => if j = i then z else f j
/-- The terminals' levels, once a level is told of these; none: it is refused. -/
def levGo (S : BS) (L : Int) : (Nat → Int) → List Int → Option (Nat → Int)
  | lev, [] => some lev
  | lev, h :: r => if S.isT h = true ∧ lev h.toNat = 0 then levGo S L (updL lev h.toNat L) r else none
def BS.addL (S : BS) (lev : Nat → Int) (side : Int) : BS := { S with lev := lev, sides := S.sides ++ [side] }
def BS.level (S : BS) (side : Int) (terms : List Int) : Int × Int × BS :=
  if (1 ≤ side ∧ side ≤ 3) ∧ terms ≠ [] then
    match levGo S (S.sides.length + 1) S.lev terms with
    | some lev => (S.sides.length + 1, 0, S.addL lev side)
    | none => (0, 1, S)
  else (0, 1, S)

theorem isT_iff {S : BS} {h : Int} : S.isT h = true ↔ 0 < h ∧ h ≤ S.terms.length := by simp [BS.isT]
/-- What it leaves and what it turns. -/
theorem levGo_keeps {S : BS} {L : Int} (hL : L ≠ 0) : ∀ (terms : List Int) (lev lev' : Nat → Int), levGo S L lev terms = some lev' →
    (∀ i, lev i ≠ 0 → lev' i = lev i) ∧ (∀ i, lev' i = lev i ∨ (lev' i = L ∧ 1 ≤ i ∧ i ≤ S.terms.length)) ∧ (terms ≠ [] → ∃ i, 1 ≤ i ∧ i ≤ S.terms.length ∧ lev' i = L)
  | [], lev, lev', h => by
    cases h
    exact ⟨fun _ _ => rfl, fun _ => .inl rfl, fun h => absurd rfl h⟩
  | a :: r, lev, lev', h => by
    unfold levGo at h
    split at h
    · next hc =>
      obtain ⟨h1, h2⟩ := hc
      obtain ⟨t1, t2⟩ := isT_iff.1 h1
      obtain ⟨k1, k2, _⟩ := levGo_keeps hL r _ _ h
      have hat : lev' a.toNat = L := by
        rw [k1 a.toNat (by simp [updL, hL])]
        simp [updL]
      refine ⟨fun i hi => ?_, fun i => ?_, fun _ => ⟨a.toNat, by omega, by omega, hat⟩⟩
      · have hne : i ≠ a.toNat := fun e => hi (by rw [e]; exact h2)
        have hu : updL lev a.toNat L i = lev i := by simp [updL, hne]
        rw [k1 i (by rw [hu]; exact hi), hu]
      · by_cases e : i = a.toNat
        · right
          rw [e]
          exact ⟨hat, by omega, by omega⟩
        · have hu : updL lev a.toNat L i = lev i := by simp [updL, e]
          rcases k2 i with h3 | h3
          · left; rw [h3, hu]
          · exact .inr h3
    · cases h

theorem levels_le {S : BS} {lev : Nat → Int} {n : Nat} (has : ∀ i, i < n → ∃ h, 1 ≤ h ∧ h ≤ S.terms.length ∧ lev h = (i : Int) + 1) : n ≤ S.terms.length := by
  have hnd : ((List.range n).map fun i : Nat => (i : Int) + 1).Nodup := by
    rw [List.nodup_iff_pairwise_ne, List.pairwise_map]
    exact (List.nodup_range (n := n)).imp (fun h e => h (by omega))
  have h := nodup_short ((List.range n).map fun i : Nat => (i : Int) + 1) ((List.range S.terms.length).map fun j => lev (j + 1)) hnd (fun x hx => by
    obtain ⟨i, hi, rfl⟩ := List.mem_map.1 hx
    obtain ⟨h, h1, h2, h3⟩ := has i (List.mem_range.1 hi)
    exact List.mem_map.2 ⟨h - 1, List.mem_range.2 (by omega), by rw [show h - 1 + 1 = h by omega]; exact h3⟩)
  simpa using h

theorem BS.OK.addL {S : BS} (h : S.OK) {side : Int} {terms : List Int} {lev : Nat → Int} (hs : 1 ≤ side ∧ side ≤ 3) (ht : terms ≠ []) (hl : levGo S (S.sides.length + 1) S.lev terms = some lev) : (S.addL lev side).OK := by
  obtain ⟨k1, k2, k3⟩ := levGo_keeps (by omega) terms S.lev lev hl
  have hlen : (S.sides ++ [side]).length = S.sides.length + 1 := by simp
  have hhas : ∀ i, i < (S.sides ++ [side]).length → ∃ h, 1 ≤ h ∧ h ≤ S.terms.length ∧ lev h = (i : Int) + 1 := fun i hi => by
    rw [hlen] at hi
    by_cases e : i = S.sides.length
    · obtain ⟨j, j1, j2, j3⟩ := k3 ht
      exact ⟨j, j1, j2, by rw [j3, e]⟩
    · obtain ⟨j, j1, j2, j3⟩ := h.has i (by omega)
      exact ⟨j, j1, j2, by rw [k1 j (by rw [j3]; omega), j3]⟩
  have hle := levels_le hhas
  have hsy := h.syms
  refine { syms := h.syms, tnames := h.tnames, nnames := h.nnames, tnd := h.tnd, nnd := h.nnd, sides := by show (S.sides ++ [side]).length ≤ 64; omega, sdv := ?_, prods := h.prods, lev := ?_, lev0 := ?_, levT := ?_, has := hhas, pl := h.pl, pr := h.pr, plen := h.plen, pv := ?_, st := h.st }
  · intro x hx
    rcases List.mem_append.1 (show x ∈ S.sides ++ [side] from hx) with hx | hx
    · exact h.sdv x hx
    · rw [List.mem_singleton.1 hx]; exact hs
  · intro i
    show 0 ≤ lev i ∧ lev i ≤ ((S.sides ++ [side]).length : Int)
    have hi := h.lev i
    rw [hlen]
    rcases k2 i with e | ⟨e, _, _⟩
    · rw [e]; omega
    · rw [e]; omega
  · show lev 0 = 0
    rcases k2 0 with e | ⟨_, e, _⟩
    · rw [e]; exact h.lev0
    · omega
  · intro j hj
    show lev j = 0
    rcases k2 j with e | ⟨_, _, e⟩
    · rw [e]; exact h.levT j hj
    · have hj' : S.terms.length < j := hj
      omega
  · intro p hp
    have := h.pv p hp
    show 0 ≤ p.level ∧ p.level ≤ ((S.sides ++ [side]).length : Int)
    rw [hlen]
    omega
theorem BS.OK.level {S : BS} (h : S.OK) (side : Int) (terms : List Int) : (S.level side terms).2.2.OK := by
  unfold BS.level
  split
  · next hc =>
    split
    · next lev hl => exact h.addL hc.1 hc.2 hl
    · exact h
  · exact h

end Go.Proofs.Ytmkimeojcpadpaa

namespace Go.Proofs.Ytmkimeojcpadpaa
open Go.RowKit

attribute [local go_sem] Oper.semAt_some

/-- A row of the terminals' levels. -/
def IsLev (A : Array Value) (f : Nat → Int) : Prop := A.size = 65 ∧ ∀ i, i < 65 → A[i]? = some (.int .i64 (f i))
def levRow (f : Nat → Int) : List Value := (List.range 65).map fun i => .int .i64 (f i)
theorem levRow_is (f : Nat → Int) : IsLev (levRow f).toArray f := by
  refine ⟨by simp [levRow], fun i hi => ?_⟩
  simp [levRow, hi]
theorem wpList_store_new {P : Program} {ops : Array Oper} {rest : List Oper} {op : Oper} {a : Act} {w : World} {Q : Exit → Act → World → Prop} (hgd : op.guard = none) (ty : TypeId) (x y : Operand) (ho : op.op = .store ty x y)
    (c c' : Array Value) (hx : a.eval x = .pointer (some ⟨w.heap.size, 0, none⟩)) (hy : a.eval y = .agg c') (hi : (P.info? ty).map (·.size) = some c'.size) (hs : c.size = c'.size) (h1 : c'.all (·.oneCell') = true)
    (h : wpList P ops Q rest (a.put op.dst undef) (w.alloc (.cells c' ty))) : wpList P ops Q (op :: rest) a (w.alloc (.cells c ty)) :=
  wpList_plain hgd fun K hK => by
    have hst := run_storeAt_new (P := P) w ty c c' hi hs h1
    unfold Oper.wp execOp
    simp only [ho, hx, hy, Sem.run_bind, Sem.run_pure, hst, Result.andThen_ok]
    exact hK _ _ h
theorem levGo_app {S : BS} {L : Int} : ∀ (xs ys : List Int) (lev lev' : Nat → Int), levGo S L lev xs = some lev' → levGo S L lev (xs ++ ys) = levGo S L lev' ys
  | [], ys, lev, lev', h => by cases h; rfl
  | x :: xs, ys, lev, lev', h => by
    unfold levGo at h
    rw [List.cons_append]
    conv => lhs; unfold levGo
    split at h
    · next hc => rw [if_pos hc]; exact levGo_app xs ys _ _ h
    · cases h
theorem take_drop_at {l : List Int} {k : Nat} (h : k < l.length) : l = l.take k ++ l.getD k 0 :: l.drop (k + 1) := by
  have : l.getD k 0 = l[k] := by simp [List.getD, h]
  rw [this, ← List.drop_eq_getElem_cons h, List.take_append_drop]
theorem take_succ_at {l : List Int} {k : Nat} (h : k < l.length) : l.take (k + 1) = l.take k ++ [l.getD k 0] := by
  have : l.getD k 0 = l[k] := by simp [List.getD, h]
  rw [this, List.take_succ_eq_append_getElem h]
theorem IsLev.set {A : Array Value} {f : Nat → Int} (h : IsLev A f) (m : Nat) (L : Int) : IsLev (A.setIfInBounds m (.int .i64 L)) (updL f m L) := by
  refine ⟨by simp [h.1], fun i hi => ?_⟩
  by_cases e : i = m
  · subst e
    simp [updL, h.1, hi]
  · rw [Array.getElem?_setIfInBounds_ne (fun x => e x.symm), h.2 i hi]
    simp [updL, e]
def putL (c : Nat → Value) (o : Nat) (vs : List Value) : Nat → Value := fun i => if o ≤ i ∧ i < o + vs.length then vs.getD (i - o) undef else c i
theorem putL_out {c : Nat → Value} {o : Nat} {vs : List Value} {i : Nat} (h : i < o ∨ o + vs.length ≤ i) : putL c o vs i = c i := by unfold putL; rw [if_neg (by omega)]
theorem putL_in {c : Nat → Value} {o : Nat} {vs : List Value} {i : Nat} (h : i < vs.length) : putL c o vs (o + i) = vs.getD i undef := by unfold putL; rw [if_pos (by omega), Nat.add_sub_cancel_left]
theorem putL_cons (c : Nat → Value) (o : Nat) (v : Value) (vs : List Value) : putL c o (v :: vs) = putL (putC c o v) (o + 1) vs := by
  funext i
  by_cases h1 : i = o
  · subst h1
    rw [putL_out (c := putC c i v) (o := i + 1) (by omega), putC_same]
    unfold putL
    rw [if_pos (by simp)]
    simp
  · unfold putL
    simp only [List.length_cons]
    by_cases h2 : o + 1 ≤ i ∧ i < o + 1 + vs.length
    · rw [if_pos (by omega), if_pos h2, show i - o = (i - (o + 1)) + 1 by omega]
      rfl
    · rw [if_neg (by omega), if_neg h2, putC_other _ _ h1]
theorem grown_setCells {b : Nat} : ∀ (vs : List Value) (o : Nat) (w : World), w.grownBy (w.setCells b o vs) (some b)
  | [], _, _ => grown_refl _ _
  | v :: vs, o, _ => grown_trans (grown_setCell b o v) (grown_setCells vs (o + 1) _)
end Go.Proofs.Ytmkimeojcpadpaa

/-
  Grade, walked.
-/
namespace Go.Proofs.Ytmkimeojcpadpaa
open Go.RowKit

def setLev (ps : List PR) (i : Nat) (l : Int) : List PR := ps.set i { ps.getD i ⟨0, [], 0⟩ with level := l }
def gradeGo (l : Int) : List PR → List Int → Option (List PR)
  | ps, [] => some ps
  | ps, h :: r => if 0 ≤ h ∧ h < ps.length then gradeGo l (setLev ps h.toNat l) r else none
def BS.grade (S : BS) (l : Int) (hs : List Int) : Int × BS :=
  if 0 ≤ l ∧ l ≤ S.sides.length then
    match gradeGo l S.prods hs with
    | some ps => (0, { S with prods := ps })
    | none => (1, S)
  else (1, S)
/-- As it was, but for its level. -/
def Graded (l : Int) (ps ps' : List PR) : Prop := ps'.length = ps.length ∧ ∀ i, i < ps.length → (ps'.getD i ⟨0, [], 0⟩).left = (ps.getD i ⟨0, [], 0⟩).left ∧ (ps'.getD i ⟨0, [], 0⟩).right = (ps.getD i ⟨0, [], 0⟩).right ∧ ((ps'.getD i ⟨0, [], 0⟩).level = (ps.getD i ⟨0, [], 0⟩).level ∨ (ps'.getD i ⟨0, [], 0⟩).level = l)
theorem Graded.refl (l : Int) (ps : List PR) : Graded l ps ps := ⟨rfl, fun _ _ => ⟨rfl, rfl, .inl rfl⟩⟩
theorem Graded.set {l : Int} {ps ps' : List PR} (h : Graded l ps ps') {k : Nat} (hk : k < ps.length) : Graded l ps (setLev ps' k l) := by
  refine ⟨by simp [setLev, h.1], fun i hi => ?_⟩
  obtain ⟨h1, h2, h3⟩ := h.2 i hi
  have hi' : i < ps'.length := by rw [h.1]; exact hi
  by_cases e : i = k
  · subst e
    have : (setLev ps' i l).getD i ⟨0, [], 0⟩ = { ps'.getD i ⟨0, [], 0⟩ with level := l } := by simp [setLev, List.getD, hi']
    rw [this]
    exact ⟨h1, h2, .inr rfl⟩
  · have : (setLev ps' k l).getD i ⟨0, [], 0⟩ = ps'.getD i ⟨0, [], 0⟩ := by simp [setLev, List.getD, show ¬ k = i from fun x => e x.symm]
    rw [this]
    exact ⟨h1, h2, h3⟩
theorem gradeGo_graded {l : Int} {ps0 : List PR} : ∀ (hs : List Int) (ps ps' : List PR), Graded l ps0 ps → gradeGo l ps hs = some ps' → Graded l ps0 ps'
  | [], ps, ps', h, e => by cases e; exact h
  | a :: r, ps, ps', h, e => by
    unfold gradeGo at e
    split at e
    · next hc => exact gradeGo_graded r _ _ (h.set (by rw [← h.1]; omega)) e
    · cases e
theorem gradeGo_app {l : Int} : ∀ (xs ys : List Int) (ps ps' : List PR), gradeGo l ps xs = some ps' → gradeGo l ps (xs ++ ys) = gradeGo l ps' ys
  | [], ys, ps, ps', h => by cases h; rfl
  | x :: xs, ys, ps, ps', h => by
    unfold gradeGo at h
    rw [List.cons_append]
    conv => lhs; unfold gradeGo
    split at h
    · next hc => rw [if_pos hc]; exact gradeGo_app xs ys _ _ h
    · cases h
theorem Graded.mem {l : Int} {ps ps' : List PR} (h : Graded l ps ps') {p : PR} (hp : p ∈ ps') : ∃ q ∈ ps, p.left = q.left ∧ p.right = q.right ∧ (p.level = q.level ∨ p.level = l) := by
  obtain ⟨i, hi, rfl⟩ := List.getElem_of_mem hp
  have hi' : i < ps.length := by rw [← h.1]; exact hi
  have := h.2 i hi'
  rw [show ps'.getD i ⟨0, [], 0⟩ = ps'[i] by simp [List.getD, hi], show ps.getD i ⟨0, [], 0⟩ = ps[i] by simp [List.getD, hi']] at this
  exact ⟨ps[i], List.getElem_mem hi', this⟩
theorem BS.OK.graded {S : BS} (h : S.OK) {l : Int} {ps : List PR} (hl : 0 ≤ l ∧ l ≤ S.sides.length) (hg : Graded l S.prods ps) : ({ S with prods := ps } : BS).OK := by
  refine ⟨h.syms, h.tnames, h.nnames, h.tnd, h.nnd, h.sides, h.sdv, by show ps.length ≤ 96; rw [hg.1]; exact h.prods, h.lev, h.lev0, h.levT, h.has, fun p hp => ?_, fun p hp k hk => ?_, fun p hp => ?_, fun p hp => ?_, h.st⟩
  · obtain ⟨q, hq, e1, _, _⟩ := hg.mem hp
    rw [e1]
    exact h.pl q hq
  · obtain ⟨q, hq, _, e2, _⟩ := hg.mem hp
    rw [e2] at hk
    exact h.pr q hq k hk
  · obtain ⟨q, hq, _, e2, _⟩ := hg.mem hp
    rw [e2]
    exact h.plen q hq
  · obtain ⟨q, hq, _, _, e3⟩ := hg.mem hp
    have := h.pv q hq
    show 0 ≤ p.level ∧ p.level ≤ (S.sides.length : Int)
    rcases e3 with e3 | e3 <;> rw [e3] <;> omega
theorem flat_set (l : Int) : ∀ (ps : List PR) (rs : List Value) (i : Nat), rs.length = ps.length → i < ps.length → ((ps.zip rs).flatMap fun x => prL x.1 x.2).set (i * 3 + 2) (.int .i64 l) = ((setLev ps i l).zip rs).flatMap fun x => prL x.1 x.2
  | [], _, _, _, h => by simp at h
  | p :: ps, [], _, h, _ => by simp at h
  | p :: ps, r :: rs, 0, _, _ => by simp [setLev, prL]
  | p :: ps, r :: rs, i + 1, h1, h2 => by
    have ih := flat_set l ps rs i (by simpa using h1) (by simpa using h2)
    have e : setLev (p :: ps) (i + 1) l = p :: setLev ps i l := by simp [setLev]
    rw [e, List.zip_cons_cons, List.zip_cons_cons, List.flatMap_cons, List.flatMap_cons, ← ih]
    show (prL p r ++ _).set _ _ = _
    rw [List.set_append_right _ _ (by simp [prL]; omega), show (i + 1) * 3 + 2 - (prL p r).length = i * 3 + 2 by simp [prL]; omega]

end Go.Proofs.Ytmkimeojcpadpaa

namespace Go.Proofs.Ytmkimeojcpadpaa
open Go.RowKit

attribute [local go_sem] Oper.semAt_some

end Go.Proofs.Ytmkimeojcpadpaa

/-
  The document's builder in memory: four lists of its own and the start symbol; what its steps leave.
-/
namespace Go.Proofs.Ytmkimeojcpadpaa
open Go.RowKit

theorem owns_ne {w : World} {B B' e e' s s' n n' : Nat} {v v' : Value} {xs xs' : List Value} (h : w.ownsRow B e s v n xs) (h' : w.ownsRow B' e' s' v' n' xs') (he : e ≠ e') : v.ownBlock = none ∨ v.ownBlock ≠ v'.ownBlock := by
  rcases h.2 with ⟨rfl, _⟩ | ⟨g, cap, cur, rfl, _, hg, _⟩
  · exact .inl rfl
  · right
    intro hh
    rcases h'.2 with ⟨rfl, _⟩ | ⟨g', cap', cur', rfl, _, hg', _⟩
    · cases hh
    · have : g = g' := by simpa [Value.ownBlock] using hh
      rw [this, hg'] at hg
      simp at hg
      exact he hg.2.symm
theorem owns_nebox {w : World} {B e e' s n r : Nat} {v : Value} {xs : List Value} {cs : Array Value} (h : w.ownsRow B e s v n xs) (hr : w.heap[r]? = some (.cells cs e' (0, 0))) (he : e ≠ e') : v.ownBlock = none ∨ v.ownBlock ≠ some r := by
  rcases h.2 with ⟨rfl, _⟩ | ⟨g, cap, cur, rfl, _, hg, _⟩
  · exact .inl rfl
  · right
    intro hh
    have : g = r := by simpa [Value.ownBlock] using hh
    rw [this, hr] at hg
    simp at hg
    exact he hg.2.symm

/-- The terminals with their levels. -/
def rts (S : BS) : List (ByteArray × Int) := (List.range S.terms.length).map fun j => (S.terms.getD j ⟨#[]⟩, S.lev (j + 1))
theorem rts_length (S : BS) : (rts S).length = S.terms.length := by simp [rts]
theorem rts_at (S : BS) {j : Nat} (h : j < S.terms.length) : (rts S).getD j (⟨#[]⟩, 0) = (S.terms.getD j ⟨#[]⟩, S.lev (j + 1)) := by simp [rts, List.getD, h]

theorem none_ne {o row : Option Nat} (h : row = none) : o = none ∨ o ≠ row := by
  cases o with
  | none => exact .inl rfl
  | some g => right; rw [h]; simp
end Go.Proofs.Ytmkimeojcpadpaa

/-
  Term, Non and Start of the document's builder.
-/
namespace Go.Proofs.Ytmkimeojcpadpaa
open Go.RowKit

attribute [local go_sem] Oper.semAt_some

theorem numFrom_at (s : ByteArray) : ∀ (l : List ByteArray) (k m : Nat), k < l.length → (∀ j, j < k → l.getD j ⟨#[]⟩ ≠ s) → l.getD k ⟨#[]⟩ = s → numFrom l s m = k + m
  | [], k, m, hk, _, _ => by simp at hk
  | x :: r, 0, m, _, _, he => by
    have : x = s := by simpa using he
    unfold numFrom
    rw [if_pos (by rw [this])]
    simp
  | x :: r, k + 1, m, hk, h, he => by
    have h0 : x ≠ s := by have := h 0 (by omega); simpa using this
    unfold numFrom
    rw [if_neg (fun e => h0 (bytes_ext e)), numFrom_at s r k (m + 1) (by simpa using hk) (fun j hj => by have := h (j + 1) (by omega); simpa using this) (by simpa using he)]
    omega
theorem numOf_at {l : List ByteArray} {s : ByteArray} {k : Nat} (hk : k < l.length) (h : ∀ j, j < k → l.getD j ⟨#[]⟩ ≠ s) (he : l.getD k ⟨#[]⟩ = s) : numOf l s = k + 1 := by
  unfold numOf; rw [numFrom_at s l k 1 hk h he]
theorem numOf_none {l : List ByteArray} {s : ByteArray} (h : ∀ j, j < l.length → l.getD j ⟨#[]⟩ ≠ s) : numOf l s = 0 := numOf_zero fun hm => by
  obtain ⟨j, hj, e⟩ := List.getElem_of_mem hm
  exact h j hj (by simp [List.getD, hj, e])

theorem numbered_z0 {l : List ByteArray} {s : ByteArray} (h : numOf l s = 0) : numbered false l s = (l.length + 1, 0) := by simp [numbered, h]
theorem numbered_z1 {l : List ByteArray} {s : ByteArray} (h : numOf l s = 0) : numbered true l s = (0, 11) := by simp [numbered, h]
theorem rts_addT (S : BS) (s : ByteArray) : rts (S.addT s) = (rts S) ++ [(s, S.lev (S.terms.length + 1))] := by
  unfold rts BS.addT
  simp only [List.length_append, List.length_cons, List.length_nil, Nat.zero_add, List.range_succ, List.map_append]
  congr 1
  · apply List.map_congr_left
    intro j hj
    have hj' : j < S.terms.length := by simpa using hj
    simp [List.getD, List.getElem?_append_left hj']
  · simp [List.getD]

def BS.startA (S : BS) (h : Int) : Int × BS := if S.isN h then (0, { S with start := h }) else (1, S)
end Go.Proofs.Ytmkimeojcpadpaa

/-
  Grade of the document's builder.
-/
namespace Go.Proofs.Ytmkimeojcpadpaa
open Go.RowKit

attribute [local go_sem] Oper.semAt_some

theorem gradeGo_some {l : Int} : ∀ (hs : List Int) (ps : List PR), (∀ h ∈ hs, 0 ≤ h ∧ h < ps.length) → ∃ ps', gradeGo l ps hs = some ps' ∧ ps'.length = ps.length
  | [], ps, _ => ⟨ps, rfl, rfl⟩
  | a :: r, ps, h => by
    have hl : (setLev ps a.toNat l).length = ps.length := by simp [setLev]
    obtain ⟨ps', h1, h2⟩ := gradeGo_some (l := l) r (setLev ps a.toNat l) (fun x hx => by rw [hl]; exact h x (by simp [hx]))
    refine ⟨ps', ?_, by rw [h2, hl]⟩
    unfold gradeGo
    rw [if_pos (h a (by simp))]
    exact h1
theorem gradeGo_none {l : Int} : ∀ (hs : List Int) (ps : List PR), (∃ h ∈ hs, ¬ (0 ≤ h ∧ h < ps.length)) → gradeGo l ps hs = none
  | [], ps, h => by simp at h
  | a :: r, ps, h => by
    unfold gradeGo
    by_cases ha : 0 ≤ a ∧ a < ps.length
    · rw [if_pos ha]
      refine gradeGo_none r _ ?_
      obtain ⟨x, hx, hn⟩ := h
      rcases List.mem_cons.1 hx with e | hx
      · rw [e] at hn; exact absurd ha hn
      · exact ⟨x, hx, by rw [show (setLev ps a.toNat l).length = ps.length by simp [setLev]]; exact hn⟩
    · rw [if_neg ha]

theorem setLev_length (ps : List PR) (i : Nat) (l : Int) : (setLev ps i l).length = ps.length := by simp [setLev]
theorem gradeGo_len {l : Int} {hs : List Int} {ps ps' : List PR} (h : gradeGo l ps hs = some ps') : ps'.length = ps.length := (gradeGo_graded hs ps ps' (Graded.refl l ps) h).1

end Go.Proofs.Ytmkimeojcpadpaa

/-
  Level of the document's builder.
-/
namespace Go.Proofs.Ytmkimeojcpadpaa
open Go.RowKit

attribute [local go_sem] Oper.semAt_some

theorem levGo_good {S : BS} {K : Int} (hK : K ≠ 0) : ∀ (l : List Int) (lev lev' : Nat → Int), levGo S K lev l = some lev' → l.Nodup ∧ ∀ h ∈ l, S.isT h = true ∧ lev h.toNat = 0
  | [], _, _, _ => ⟨List.nodup_nil, by simp⟩
  | a :: r, lev, lev', h => by
    unfold levGo at h
    split at h
    · next hc =>
      obtain ⟨h1, h2⟩ := levGo_good hK r _ _ h
      have key : ∀ x ∈ r, x.toNat ≠ a.toNat := fun x hx e => by
        have := (h2 x hx).2
        rw [e] at this
        simp [updL] at this
        exact hK this
      refine ⟨List.nodup_cons.2 ⟨fun ha => key a ha rfl, h1⟩, fun x hx => ?_⟩
      rcases List.mem_cons.1 hx with rfl | hx
      · exact hc
      · have h3 := h2 x hx
        refine ⟨h3.1, ?_⟩
        have h4 := h3.2
        simp [updL, key x hx] at h4
        exact h4
    · cases h
theorem levGo_full {S : BS} {K : Int} : ∀ (l : List Int) (lev : Nat → Int), l.Nodup → (∀ h ∈ l, S.isT h = true ∧ lev h.toNat = 0) → levGo S K lev l = some fun j : Nat => if (j : Int) ∈ l then K else lev j
  | [], lev, _, _ => by simp [levGo]
  | a :: r, lev, hn, h => by
    rw [List.nodup_cons] at hn
    obtain ⟨h1, h2⟩ := h a (by simp)
    have ha := isT_iff.1 h1
    unfold levGo
    rw [if_pos ⟨h1, h2⟩, levGo_full r _ hn.2 (fun x hx => by
      obtain ⟨q1, q2⟩ := h x (by simp [hx])
      have hx' := isT_iff.1 q1
      refine ⟨q1, ?_⟩
      have hne : x.toNat ≠ a.toNat := fun e => hn.1 (by have : x = a := by omega
                                                        rw [← this]; exact hx)
      simp [updL, hne, q2])]
    congr 1
    funext j
    by_cases hj : (j : Int) ∈ r
    · simp [hj]
    · by_cases ej : (j : Int) = a
      · have : j = a.toNat := by omega
        rw [if_neg hj, if_pos (by simp [ej])]
        simp [updL, this]
      · have : j ≠ a.toNat := by omega
        rw [if_neg hj, if_neg (by simp [ej, hj])]
        simp [updL, this]

/-- A list's places: what Level asks of each. -/
def levAsk (S : BS) (hs : List Int) (j : Nat) : Prop := S.isT (hs.getD j 0) = true ∧ S.lev (hs.getD j 0).toNat = 0 ∧ ∀ m, m < j → hs.getD m 0 ≠ hs.getD j 0
theorem getD_mem_int {l : List Int} {k : Nat} (h : k < l.length) : l.getD k 0 ∈ l := by
  have : l.getD k 0 = l[k] := by simp [List.getD, h]
  rw [this]; exact List.getElem_mem _
theorem nodup_int (l : List Int) : l.Nodup ↔ ∀ i k, k < i → i < l.length → l.getD k 0 ≠ l.getD i 0 := by
  rw [List.nodup_iff_pairwise_ne, List.pairwise_iff_getElem]
  constructor
  · intro h i k hk hi
    have := h k i (by omega) hi hk
    simpa [List.getD, hi, show k < l.length by omega] using this
  · intro h i j hi hj hij
    have := h j i hij hj
    simpa [List.getD, hi, hj] using this
theorem levGo_ask {S : BS} {K : Int} (hK : K ≠ 0) (hs : List Int) : (∀ j, j < hs.length → levAsk S hs j) ↔ ∃ lev', levGo S K S.lev hs = some lev' := by
  constructor
  · intro h
    exact ⟨_, levGo_full hs S.lev ((nodup_int hs).2 fun i k hk hi => (h i hi).2.2 k hk) (fun x hx => by
      obtain ⟨j, hj, e⟩ := List.getElem_of_mem hx
      have := h j hj
      rw [← e, show hs[j] = hs.getD j 0 by simp [List.getD, hj]]
      exact ⟨this.1, this.2.1⟩)⟩
  · rintro ⟨lev', h⟩ j hj
    obtain ⟨h1, h2⟩ := levGo_good hK hs _ _ h
    exact ⟨(h2 _ (getD_mem_int hj)).1, (h2 _ (getD_mem_int hj)).2, fun m hm => (nodup_int hs).1 h1 j m hm hj⟩

/-- The levels, told of the first k. -/
def levTold (S : BS) (K : Int) (hs : List Int) (k : Nat) : Nat → Int := fun j => if (j : Int) ∈ hs.take k then K else S.lev j
def BS.tolds (S : BS) (side K : Int) (hs : List Int) (k : Nat) : BS := { S with lev := levTold S K hs k, sides := S.sides ++ [side] }
theorem tolds_zero (S : BS) (side K : Int) (hs : List Int) : S.tolds side K hs 0 = { S with sides := S.sides ++ [side] } := by
  unfold BS.tolds
  have : levTold S K hs 0 = S.lev := by funext j; simp [levTold]
  rw [this]
theorem levTold_succ {S : BS} {K : Int} {hs : List Int} {k : Nat} (hk : k < hs.length) (hp : 0 ≤ hs.getD k 0) : levTold S K hs (k + 1) = updL (levTold S K hs k) (hs.getD k 0).toNat K := by
  funext j
  unfold levTold updL
  rw [take_succ_at hk]
  generalize hs.getD k 0 = h at *
  generalize hs.take k = l at *
  by_cases e : j = h.toNat
  · rw [if_pos e, if_pos (List.mem_append.2 (.inr (List.mem_singleton.2 (by omega))))]
  · have he : ¬ (j : Int) = h := fun x => e (by omega)
    rw [if_neg e]
    show _ = (if (j : Int) ∈ l then K else S.lev j)
    by_cases hm : (j : Int) ∈ l
    · rw [if_pos (List.mem_append.2 (.inl hm)), if_pos hm]
    · rw [if_neg hm, if_neg (fun x => by
        rcases List.mem_append.1 x with x | x
        · exact hm x
        · exact he (List.mem_singleton.1 x))]
theorem level_done {S : BS} {side : Int} {hs : List Int} (hs1 : 1 ≤ side ∧ side ≤ 3) (hne : hs ≠ []) (h : ∀ j, j < hs.length → levAsk S hs j) : S.level side hs = ((S.sides.length : Int) + 1, 0, S.tolds side ((S.sides.length : Int) + 1) hs hs.length) := by
  unfold BS.level
  rw [if_pos ⟨hs1, hne⟩, levGo_full hs S.lev ((nodup_int hs).2 fun i k hk hi => (h i hi).2.2 k hk) (fun x hx => by
      obtain ⟨j, hj, e⟩ := List.getElem_of_mem hx
      have := h j hj
      rw [← e, show hs[j] = hs.getD j 0 by simp [List.getD, hj]]
      exact ⟨this.1, this.2.1⟩)]
  simp only
  unfold BS.addL BS.tolds levTold
  rw [List.take_length]
theorem level_not {S : BS} {side : Int} {hs : List Int} (h : ¬ ∀ j, j < hs.length → levAsk S hs j) : S.level side hs = (0, 1, S) := by
  unfold BS.level
  split
  · have : levGo S ((S.sides.length : Int) + 1) S.lev hs = none := by
      cases e : levGo S ((S.sides.length : Int) + 1) S.lev hs with
      | none => rfl
      | some lev' => exact absurd ((levGo_ask (by omega) hs).2 ⟨lev', e⟩) h
    rw [this]
  · rfl

theorem tmsL_set : ∀ (ts : List (ByteArray × Int)) (i : Nat) (K : Int), (tmsL ts).set (i * 2 + 1) (.int .i64 K) = tmsL (ts.set i ((ts.getD i (⟨#[]⟩, 0)).1, K))
  | [], i, K => by simp [tmsL]
  | t :: ts, 0, K => by simp [tmsL, tmL]
  | t :: ts, i + 1, K => by
    have ih := tmsL_set ts i K
    have e : tmsL (t :: ts) = tmL t.1 t.2 ++ tmsL ts := by simp [tmsL]
    have e2 : tmsL ((t :: ts).set (i + 1) (((t :: ts).getD (i + 1) (⟨#[]⟩, 0)).1, K)) = tmL t.1 t.2 ++ tmsL (ts.set i ((ts.getD i (⟨#[]⟩, 0)).1, K)) := by simp [tmsL]
    rw [e, e2, ← ih, List.set_append_right _ _ (by simp [tmL]; omega), show (i + 1) * 2 + 1 - (tmL t.1 t.2).length = i * 2 + 1 by simp [tmL]; omega]
theorem rts_upd (S : BS) (i : Nat) (K : Int) (hi : i < S.terms.length) : (rts S).set i (((rts S).getD i (⟨#[]⟩, 0)).1, K) = rts { S with lev := updL S.lev (i + 1) K } := by
  apply List.ext_getElem
  · simp [rts]
  · intro j h1 h2
    rw [List.getElem_set]
    by_cases e : i = j
    · subst e
      rw [if_pos rfl, rts_at S hi]
      simp [rts, updL]
    · rw [if_neg e]
      simp [rts, updL, show ¬ j = i from fun x => e x.symm]

end Go.Proofs.Ytmkimeojcpadpaa

/-
  Rule of the document's builder.
-/
namespace Go.Proofs.Ytmkimeojcpadpaa
open Go.RowKit Go.Maps Go.Shelf

attribute [local go_sem] Oper.semAt_some

theorem good_iff {S : BS} {l : List Int} : S.good l = true ↔ ∀ j, j < l.length → (S.isT (l.getD j 0) || S.isN (l.getD j 0)) = true := by
  unfold BS.good
  rw [List.all_eq_true]
  constructor
  · intro h j hj
    exact h _ (getD_mem_int hj)
  · intro h x hx
    obtain ⟨j, hj, e⟩ := List.getElem_of_mem hx
    have := h j hj
    rwa [show l.getD j 0 = x by simp [List.getD, hj, e]] at this

end Go.Proofs.Ytmkimeojcpadpaa

/-
  Rule of the document's builder, walked.
-/
namespace Go.Proofs.Ytmkimeojcpadpaa
open Go.RowKit Go.Maps Go.Shelf

attribute [local go_sem] Oper.semAt_some

end Go.Proofs.Ytmkimeojcpadpaa

/-
  Grammar of the document's builder: what is being made, step by step.
-/
namespace Go.Proofs.Ytmkimeojcpadpaa
open Go.RowKit Go.Maps Go.Shelf

/-- An append of a row wherever it lies, nil or not, within a region that draws its order. -/
theorem step_append_src {w : World} {ops : Array Oper} {o : Oper} {a : Act} {K : Act → World → Prop} {Q : Exit → Act → World → Prop} {E : Prop} (hg : o.guard = none) (s x : Operand) (t : TypeId)
    (ho : o.op = .call { callee := .builtin .append, args := #[s, x], argTypes := #[t, t] })
    (base : Nat) (e : TypeId) (i : TypeInfo) (z : Value) (size bytes : Nat) (ht : Try.prog.underlying t = some (.slice e)) (hi : Try.prog.info? e = some i) (hz : i.zero = some z)
    (hsize : i.size = size) (hby : i.bytes = bytes) (hzs : z.cells.size = size) (hsz : 0 < size)
    (v : Value) (n : Nat) (xs : List Value) (hs : a.eval s = v) (hown : w.ownsRow base e size v n xs)
    (xo : Option Addr) (m c : Nat) (news : List Value) (hx : a.eval x = .slice xo m c) (hnil : xo = none → m = 0 ∧ c = 0) (hl : news.length = m * size) (hnews : ∀ ad, xo = some ad → ∀ j u, news[j]? = some u → w.cell? (ad.add j) = some u) (h1 : ∀ u ∈ news, u.oneCell' = true)
    (h63 : n + m ≤ maxLen) (hbytes : (n + m) * bytes ≤ 140737488355328) (hbase : base ≤ w.heap.size)
    (h : ∀ v' w', w'.ownsRow base e size v' (n + m) (xs ++ news) → w.grownBy w' v.ownBlock → K (a.put o.dst v') w') :
    if Region.wanted o (yielded ops a.tmps) = true then Oper.wp Try.prog o a w K Q else E := by
  have hw : Region.wanted o (yielded ops a.tmps) = true := by simp [Region.wanted, hg]
  rw [if_pos hw]
  cases xo with
  | some ad => exact wp_append_own w s x t ho base e i z size bytes ht hi hz hsize hby hzs hsz v n xs hs hown ad m c news hx hl (hnews ad rfl) h1 h63 hbytes hbase fun v' w' h2 h3 _ => h v' w' h2 h3
  | none =>
    obtain ⟨rfl, rfl⟩ := hnil rfl
    have hn0 : news = [] := List.eq_nil_of_length_eq_zero (by simpa using hl)
    subst hn0
    have hrun := run_append_owned_none (P := Try.prog) (w := w) base t o.type e i size ht hi v n xs hown
    have hk := h v w (by simpa using hown) ⟨rfl, rfl, rfl, Nat.le_refl _, fun _ _ _ => rfl⟩
    unfold Oper.wp
    simp [execOp, ho, resolve, invoke, builtin, hs, hx, hrun, Result.andThen]
    exact hk

/-- The grammar that is being made: the result's cell, the places, the grammar's box and its lists; all behind Y. -/
structure GbAt (Y : World) (H : Nat) (wz : World) (vt vn vl vp : Value) (st : Int) (ts : List (ByteArray × Int)) (ns : List ByteArray) (lv : List Int) (N : Nat) (pl : Nat → Int) (ps : List PR) : Prop where
  hH : Y.heap.size + 2 ≤ H
  grown : Y.grownBy wz none
  res : wz.heap[Y.heap.size]? = some (.cells #[.slice none 0 0, .slice none 0 0, .slice none 0 0, .int .i64 0, .slice none 0 0] 27 (0, 0))
  place : wz.heap[Y.heap.size + 1]? = some (.cells ((List.range N).map fun i => Value.int .i64 (pl i)).toArray 3 (0, 0))
  box : wz.heap[H + 1]? = some (.cells #[vt, vn, vl, .int .i64 st, vp] 27 (0, 0))
  tr : wz.ownsRow (H) 57 2 vt ts.length (tmsL ts)
  nr : wz.ownsRow (H + 2) 9 1 vn ns.length (ns.map Value.string)
  lr : wz.ownsRow (H + 2) 3 1 vl lv.length (lv.map (Value.int .i64))
  pr : ∃ rs : List Value, rs.length = ps.length ∧ wz.ownsRow (H + 2) 45 3 vp ps.length ((ps.zip rs).flatMap fun x => prL x.1 x.2) ∧
    ∀ i, i < ps.length → wz.ownsRow (H + 2) 3 1 (rs.getD i undef) (ps.getD i ⟨0, [], 0⟩).right.length ((ps.getD i ⟨0, [], 0⟩).right.map (Value.int .i64))

section
variable {Y : World} {H : Nat} {wz w' : World} {vt vn vl vp : Value} {st : Int} {ts : List (ByteArray × Int)} {ns : List ByteArray} {lv : List Int} {N : Nat} {pl : Nat → Int} {ps : List PR}

theorem GbAt.lt (h : GbAt Y H wz vt vn vl vp st ts ns lv N pl ps) : H + 1 < wz.heap.size := (Array.getElem?_eq_some_iff.1 h.box).1
theorem GbAt.kept (h : GbAt Y H wz vt vn vl vp st ts ns lv N pl ps) (hg : wz.grownBy w' none) : GbAt Y H w' vt vn vl vp st ts ns lv N pl ps := by
  have hlt := h.lt
  have hH := h.hH
  obtain ⟨rs, e1, e2, e3⟩ := h.pr
  exact ⟨h.hH, grown_trans h.grown hg, (hg.block _ (by omega) (by simp)).trans h.res, (hg.block _ (by omega) (by simp)).trans h.place, (hg.block _ (by omega) (by simp)).trans h.box, h.tr.kept hg (none_ne rfl), h.nr.kept hg (none_ne rfl), h.lr.kept hg (none_ne rfl),
    rs, e1, e2.kept hg (none_ne rfl), fun i hi => (e3 i hi).kept hg (none_ne rfl)⟩
theorem GbAt.cells (h : GbAt Y H wz vt vn vl vp st ts ns lv N pl ps) : wz.cell? ⟨H + 1, 0, none⟩ = some vt ∧ wz.cell? ⟨H + 1, 1, none⟩ = some vn ∧ wz.cell? ⟨H + 1, 2, none⟩ = some vl ∧ wz.cell? ⟨H + 1, 3, none⟩ = some (.int .i64 st) ∧ wz.cell? ⟨H + 1, 4, none⟩ = some vp := by
  refine ⟨?_, ?_, ?_, ?_, ?_⟩ <;> rw [cell_of_row _ _ _ _ _ _ h.box] <;> rfl
theorem GbAt.free (h : GbAt Y H wz vt vn vl vp st ts ns lv N pl ps) (i : Nat) : wz.frozen? ⟨H + 1, i, none⟩ = false := frozen_of_row _ _ i _ _ h.box
theorem GbAt.placeAt (h : GbAt Y H wz vt vn vl vp st ts ns lv N pl ps) {i : Nat} (hi : i < N) : wz.cell? ⟨Y.heap.size + 1, i, none⟩ = some (.int .i64 (pl i)) ∧ wz.frozen? ⟨Y.heap.size + 1, i, none⟩ = false := by
  refine ⟨?_, frozen_of_row _ _ i _ _ h.place⟩
  rw [cell_of_row _ _ _ _ _ _ h.place]
  simp [hi]
theorem GbAt.resAt (h : GbAt Y H wz vt vn vl vp st ts ns lv N pl ps) : wz.cell? ⟨Y.heap.size, 0, none⟩ = some (.slice none 0 0) ∧ wz.cell? ⟨Y.heap.size, 1, none⟩ = some (.slice none 0 0) ∧ wz.cell? ⟨Y.heap.size, 2, none⟩ = some (.slice none 0 0) ∧ wz.cell? ⟨Y.heap.size, 3, none⟩ = some (.int .i64 0) ∧ wz.cell? ⟨Y.heap.size, 4, none⟩ = some (.slice none 0 0) := by
  refine ⟨?_, ?_, ?_, ?_, ?_⟩ <;> rw [cell_of_row _ _ _ _ _ _ h.res] <;> rfl
theorem GbAt.resFree (h : GbAt Y H wz vt vn vl vp st ts ns lv N pl ps) (i : Nat) : wz.frozen? ⟨Y.heap.size, i, none⟩ = false := frozen_of_row _ _ i _ _ h.res

/-- A row that has grown by one of its own kind, in its place or elsewhere. -/
theorem GbAt.grew (h : GbAt Y H wz vt vn vl vp st ts ns lv N pl ps) {v : Value} {B e s n : Nat} {xs : List Value} (hv : wz.ownsRow B e s v n xs) (hB : H ≤ B) (he : e ≠ 27) (hg : wz.grownBy w' v.ownBlock) :
    Y.grownBy w' none ∧ w'.heap[Y.heap.size]? = some (.cells #[.slice none 0 0, .slice none 0 0, .slice none 0 0, .int .i64 0, .slice none 0 0] 27 (0, 0)) ∧ w'.heap[Y.heap.size + 1]? = some (.cells ((List.range N).map fun i => Value.int .i64 (pl i)).toArray 3 (0, 0)) ∧ w'.heap[H + 1]? = some (.cells #[vt, vn, vl, .int .i64 st, vp] 27 (0, 0)) := by
  have hlt := h.lt
  have hH := h.hH
  have hne : ∀ q, v.ownBlock = some q → H ≤ q ∧ q ≠ H + 1 := fun q hq => by
    refine ⟨Nat.le_trans hB (hv.lt q hq).1, fun e1 => ?_⟩
    rcases owns_nebox hv h.box he with h1 | h1
    · rw [h1] at hq; cases hq
    · exact h1 (by rw [hq, e1])
  refine ⟨?_, (hg.block _ (by omega) (fun e1 => by have := hne _ e1.symm; omega)).trans h.res, (hg.block _ (by omega) (fun e1 => by have := hne _ e1.symm; omega)).trans h.place, (hg.block _ (by omega) (fun e1 => (hne _ e1.symm).2 rfl)).trans h.box⟩
  cases hq : v.ownBlock with
  | none => rw [hq] at hg; exact grown_trans h.grown hg
  | some q => rw [hq] at hg; exact grown_new h.grown hg (by have := (hne q hq).1; omega)

/-- A store into the box. -/
theorem GbAt.boxed {vt' vn' vl' vp' : Value} {st' : Int} {i : Nat} {u : Value} (hH : Y.heap.size + 2 ≤ H) (hG : Y.grownBy wz none) (hres : wz.heap[Y.heap.size]? = some (.cells #[.slice none 0 0, .slice none 0 0, .slice none 0 0, .int .i64 0, .slice none 0 0] 27 (0, 0))) (hpl : wz.heap[Y.heap.size + 1]? = some (.cells ((List.range N).map fun i => Value.int .i64 (pl i)).toArray 3 (0, 0)))
    (hbox : wz.heap[H + 1]? = some (.cells #[vt, vn, vl, .int .i64 st, vp] 27 (0, 0))) (hset : (#[vt, vn, vl, .int .i64 st, vp] : Array Value).setIfInBounds i u = #[vt', vn', vl', .int .i64 st', vp'])
    (tr : wz.ownsRow (H) 57 2 vt' ts.length (tmsL ts)) (nr : wz.ownsRow (H + 2) 9 1 vn' ns.length (ns.map Value.string)) (lr : wz.ownsRow (H + 2) 3 1 vl' lv.length (lv.map (Value.int .i64)))
    (rs : List Value) (e1 : rs.length = ps.length) (e2 : wz.ownsRow (H + 2) 45 3 vp' ps.length ((ps.zip rs).flatMap fun x => prL x.1 x.2)) (e3 : ∀ i, i < ps.length → wz.ownsRow (H + 2) 3 1 (rs.getD i undef) (ps.getD i ⟨0, [], 0⟩).right.length ((ps.getD i ⟨0, [], 0⟩).right.map (Value.int .i64))) :
    GbAt Y H (wz.setCell ⟨H + 1, i, none⟩ u) vt' vn' vl' vp' st' ts ns lv N pl ps := by
  have hst := grown_setCell (w := wz) (H + 1) i u
  have hlt : H + 1 < wz.heap.size := (Array.getElem?_eq_some_iff.1 hbox).1
  refine ⟨hH, grown_new hG hst (by omega), (hst.block _ (by omega) (by simp <;> omega)).trans hres, (hst.block _ (by omega) (by simp <;> omega)).trans hpl, by rw [heap_setCell_same wz _ _ _ _ _ hbox, hset], tr.kept hst (owns_nebox tr hbox (by decide)), nr.kept hst (owns_nebox nr hbox (by decide)), lr.kept hst (owns_nebox lr hbox (by decide)), rs, e1, e2.kept hst (owns_nebox e2 hbox (by decide)), fun j hj => (e3 j hj).kept hst (owns_nebox (e3 j hj) hbox (by decide))⟩

theorem base_ne {w : World} {B B' e e' s s' n n' : Nat} {v v' : Value} {xs xs' : List Value} (h : w.ownsRow B e s v n xs) (h' : w.ownsRow B' e' s' v' n' xs') (he : e ≠ e') : v.ownBlock = none ∨ v.ownBlock ≠ v'.ownBlock := owns_ne h h' he

/-- The terminals: the end marker, and the builder's. -/
theorem GbAt.setT {v' : Value} {ts' : List (ByteArray × Int)} (h : GbAt Y H wz vt vn vl vp st ts ns lv N pl ps) (hg : wz.grownBy w' vt.ownBlock) (ho : w'.ownsRow (H) 57 2 v' ts'.length (tmsL ts')) : GbAt Y H (w'.setCell ⟨H + 1, 0, none⟩ v') v' vn vl vp st ts' ns lv N pl ps := by
  obtain ⟨g1, g2, g3, g4⟩ := h.grew h.tr (Nat.le_refl _) (by decide) hg
  obtain ⟨rs, e1, e2, e3⟩ := h.pr
  exact GbAt.boxed h.hH g1 g2 g3 g4 rfl ho (h.nr.kept hg (owns_ne h.nr h.tr (by decide))) (h.lr.kept hg (owns_ne h.lr h.tr (by decide))) rs e1 (e2.kept hg (owns_ne e2 h.tr (by decide))) (fun i hi => (e3 i hi).kept hg (owns_ne (e3 i hi) h.tr (by decide)))
/-- The levels' sides: while there are no productions. -/
theorem GbAt.setL {v' : Value} {lv' : List Int} (h : GbAt Y H wz vt vn vl vp st ts ns lv N pl []) (hg : wz.grownBy w' vl.ownBlock) (ho : w'.ownsRow (H + 2) 3 1 v' lv'.length (lv'.map (Value.int .i64))) : GbAt Y H (w'.setCell ⟨H + 1, 2, none⟩ v') vt vn v' vp st ts ns lv' N pl [] := by
  obtain ⟨g1, g2, g3, g4⟩ := h.grew h.lr (by omega) (by decide) hg
  obtain ⟨rs, e1, e2, e3⟩ := h.pr
  exact GbAt.boxed h.hH g1 g2 g3 g4 rfl (h.tr.kept hg (owns_ne h.tr h.lr (by decide))) (h.nr.kept hg (owns_ne h.nr h.lr (by decide))) ho rs e1 (e2.kept hg (owns_ne e2 h.lr (by decide))) (fun i hi => by simp at hi)
/-- A nonterminal more. -/
theorem GbAt.pushN {v' : Value} {ns' : List ByteArray} (h : GbAt Y H wz vt vn vl vp st ts ns lv N pl ps) (hg : wz.grownBy w' vn.ownBlock) (ho : w'.ownsRow (H + 2) 9 1 v' ns'.length (ns'.map Value.string)) : GbAt Y H (w'.setCell ⟨H + 1, 1, none⟩ v') vt v' vl vp st ts ns' lv N pl ps := by
  obtain ⟨g1, g2, g3, g4⟩ := h.grew h.nr (by omega) (by decide) hg
  obtain ⟨rs, e1, e2, e3⟩ := h.pr
  exact GbAt.boxed h.hH g1 g2 g3 g4 rfl (h.tr.kept hg (owns_ne h.tr h.nr (by decide))) ho (h.lr.kept hg (owns_ne h.lr h.nr (by decide))) rs e1 (e2.kept hg (owns_ne e2 h.nr (by decide))) (fun i hi => (e3 i hi).kept hg (owns_ne (e3 i hi) h.nr (by decide)))
theorem GbAt.setStart {x : Int} (h : GbAt Y H wz vt vn vl vp st ts ns lv N pl ps) : GbAt Y H (wz.setCell ⟨H + 1, 3, none⟩ (.int .i64 x)) vt vn vl vp x ts ns lv N pl ps := by
  obtain ⟨rs, e1, e2, e3⟩ := h.pr
  exact GbAt.boxed h.hH h.grown h.res h.place h.box rfl h.tr h.nr h.lr rs e1 e2 e3
/-- A place. -/
theorem GbAt.setPlace {i : Nat} {x : Int} (h : GbAt Y H wz vt vn vl vp st ts ns lv N pl ps) : GbAt Y H (wz.setCell ⟨Y.heap.size + 1, i, none⟩ (.int .i64 x)) vt vn vl vp st ts ns lv N (updL pl i x) ps := by
  have hst := grown_setCell (w := wz) (Y.heap.size + 1) i (.int .i64 x)
  have hlt := h.lt
  have hH := h.hH
  have ne : ∀ {B e s n : Nat} {v : Value} {xs : List Value}, wz.ownsRow B e s v n xs → H ≤ B → v.ownBlock = none ∨ v.ownBlock ≠ some (Y.heap.size + 1) := fun {B e s n v xs} ho hB => by
    cases hv : v.ownBlock with
    | none => exact .inl rfl
    | some q => right; intro e1; have := (ho.lt q hv).1; simp at e1; omega
  obtain ⟨rs, e1, e2, e3⟩ := h.pr
  refine ⟨hH, grown_new h.grown hst (by omega), (hst.block _ (by omega) (by simp <;> omega)).trans h.res, ?_, (hst.block _ (by omega) (by simp <;> omega)).trans h.box, h.tr.kept hst (ne h.tr (Nat.le_refl _)), h.nr.kept hst (ne h.nr (by omega)), h.lr.kept hst (ne h.lr (by omega)), rs, e1, e2.kept hst (ne e2 (by omega)), fun j hj => (e3 j hj).kept hst (ne (e3 j hj) (by omega))⟩
  rw [heap_setCell_same wz _ _ _ _ _ h.place]
  congr 2
  apply Array.ext'
  rw [Array.toList_setIfInBounds]
  apply List.ext_getElem
  · simp
  · intro j h1 h2
    rw [List.getElem_set]
    by_cases e : i = j
    · subst e; simp [updL]
    · rw [if_neg e]; simp [updL, show ¬ j = i from fun x => e x.symm]
/-- A production more: its right side lies in a row of its own. -/
theorem GbAt.pushP {v' v : Value} {p : PR} (h : GbAt Y H wz vt vn vl vp st ts ns lv N pl ps) (hg : wz.grownBy w' vp.ownBlock) (hv : wz.ownsRow (H + 2) 3 1 v p.right.length (p.right.map (Value.int .i64)))
    (rs : List Value) (e1 : rs.length = ps.length) (e2 : wz.ownsRow (H + 2) 45 3 vp ps.length ((ps.zip rs).flatMap fun x => prL x.1 x.2)) (e3 : ∀ i, i < ps.length → wz.ownsRow (H + 2) 3 1 (rs.getD i undef) (ps.getD i ⟨0, [], 0⟩).right.length ((ps.getD i ⟨0, [], 0⟩).right.map (Value.int .i64)))
    (ho : w'.ownsRow (H + 2) 45 3 v' (ps.length + 1) (((ps.zip rs).flatMap fun x => prL x.1 x.2) ++ prL p v)) : GbAt Y H (w'.setCell ⟨H + 1, 4, none⟩ v') vt vn vl v' st ts ns lv N pl (ps ++ [p]) := by
  obtain ⟨g1, g2, g3, g4⟩ := h.grew e2 (by omega) (by decide) hg
  have e : (((ps ++ [p]).zip (rs ++ [v])).flatMap fun x => prL x.1 x.2) = ((ps.zip rs).flatMap fun x => prL x.1 x.2) ++ prL p v := by
    rw [List.zip_append e1.symm, List.flatMap_append]
    simp
  refine GbAt.boxed h.hH g1 g2 g3 g4 rfl (h.tr.kept hg (owns_ne h.tr e2 (by decide))) (h.nr.kept hg (owns_ne h.nr e2 (by decide))) (h.lr.kept hg (owns_ne h.lr e2 (by decide))) (rs ++ [v]) (by simp [e1]) (by rw [e, show (ps ++ [p]).length = ps.length + 1 by simp]; exact ho) (fun i hi => ?_)
  by_cases hi' : i < ps.length
  · have a1 : (rs ++ [v]).getD i undef = rs.getD i undef := by simp [List.getD, List.getElem?_append_left (show i < rs.length by omega)]
    have a2 : (ps ++ [p]).getD i ⟨0, [], 0⟩ = ps.getD i ⟨0, [], 0⟩ := by simp [List.getD, List.getElem?_append_left hi']
    rw [a1, a2]
    exact (e3 i hi').kept hg (owns_ne (e3 i hi') e2 (by decide))
  · have hie : i = ps.length := by simp at hi; omega
    have a1 : (rs ++ [v]).getD i undef = v := by simp [List.getD, hie, ← e1]
    have a2 : (ps ++ [p]).getD i ⟨0, [], 0⟩ = p := by simp [List.getD, hie]
    rw [a1, a2]
    exact hv.kept hg (owns_ne hv e2 (by decide))
end

/-- A production that is being made, in its box right behind Y. -/
structure PuAt (Y wz : World) (left : Int) (l : List Int) (lv : Int) (v : Value) : Prop where
  grown : Y.grownBy wz none
  box : wz.heap[Y.heap.size]? = some (.cells #[.int .i64 left, v, .int .i64 lv] 45 (0, 0))
  row : wz.ownsRow (Y.heap.size + 1) 3 1 v l.length (l.map (Value.int .i64))
theorem PuAt.lt {Y wz : World} {left lv : Int} {l : List Int} {v : Value} (h : PuAt Y wz left l lv v) : Y.heap.size < wz.heap.size := (Array.getElem?_eq_some_iff.1 h.box).1
theorem PuAt.kept {Y wz wx : World} {left lv : Int} {l : List Int} {v : Value} (h : PuAt Y wz left l lv v) (hg : wz.grownBy wx none) : PuAt Y wx left l lv v :=
  ⟨grown_trans h.grown hg, (hg.block _ h.lt (by simp)).trans h.box, h.row.kept hg (none_ne rfl)⟩
theorem PuAt.cells {Y wz : World} {left lv : Int} {l : List Int} {v : Value} (h : PuAt Y wz left l lv v) : wz.cell? ⟨Y.heap.size, 0, none⟩ = some (.int .i64 left) ∧ wz.cell? ⟨Y.heap.size, 1, none⟩ = some v ∧ wz.cell? ⟨Y.heap.size, 2, none⟩ = some (.int .i64 lv) := by
  refine ⟨?_, ?_, ?_⟩ <;> rw [cell_of_row _ _ _ _ _ _ h.box] <;> rfl
theorem PuAt.free {Y wz : World} {left lv : Int} {l : List Int} {v : Value} (h : PuAt Y wz left l lv v) (i : Nat) : wz.frozen? ⟨Y.heap.size, i, none⟩ = false := frozen_of_row _ _ i _ _ h.box
theorem PuAt.ne {Y wz : World} {left lv : Int} {l : List Int} {v : Value} (h : PuAt Y wz left l lv v) : v.ownBlock ≠ some Y.heap.size := fun e => by
  have := (h.row.lt _ e).1
  omega
/-- The row has grown, and lies elsewhere or in its place. -/
theorem PuAt.grew {Y wz w4 : World} {left lv : Int} {l : List Int} {v : Value} (h : PuAt Y wz left l lv v) (hg : wz.grownBy w4 v.ownBlock) : w4.heap[Y.heap.size]? = some (.cells #[.int .i64 left, v, .int .i64 lv] 45 (0, 0)) ∧ Y.grownBy w4 none := by
  refine ⟨(hg.block _ h.lt (fun e => h.ne e.symm)).trans h.box, ?_⟩
  cases hv : v.ownBlock with
  | none => rw [hv] at hg; exact grown_trans h.grown hg
  | some q => rw [hv] at hg; exact grown_new h.grown hg (by have := (h.row.lt q hv).1; omega)
theorem PuAt.push {Y wz w4 : World} {left lv x : Int} {l : List Int} {v v' : Value} (h : PuAt Y wz left l lv v) (hg : wz.grownBy w4 v.ownBlock) (ho : w4.ownsRow (Y.heap.size + 1) 3 1 v' (l.length + 1) (l.map (Value.int .i64) ++ [.int .i64 x])) : PuAt Y (w4.setCell ⟨Y.heap.size, 1, none⟩ v') left (l ++ [x]) lv v' := by
  obtain ⟨hb, hG⟩ := h.grew hg
  have hst := grown_setCell (w := w4) Y.heap.size 1 v'
  refine ⟨grown_new hG hst (Nat.le_refl _), by rw [heap_setCell_same w4 _ _ _ _ _ hb]; rfl, ?_⟩
  rw [show (l ++ [x]).length = l.length + 1 by simp, show (l ++ [x]).map (Value.int .i64) = l.map (Value.int .i64) ++ [.int .i64 x] by simp]
  refine ho.kept hst ?_
  cases hv : v'.ownBlock with
  | none => exact .inl rfl
  | some q => right; intro e; have := (ho.lt q hv).1; simp at e; omega
theorem PuAt.setLev {Y wz : World} {left lv z : Int} {l : List Int} {v : Value} (h : PuAt Y wz left l lv v) : PuAt Y (wz.setCell ⟨Y.heap.size, 2, none⟩ (.int .i64 z)) left l z v := by
  have hst := grown_setCell (w := wz) Y.heap.size 2 (.int .i64 z)
  refine ⟨grown_new h.grown hst (Nat.le_refl _), by rw [heap_setCell_same wz _ _ _ _ _ h.box]; rfl, h.row.kept hst ?_⟩
  cases hv : v.ownBlock with
  | none => exact .inl rfl
  | some q => right; intro e; have := (h.row.lt q hv).1; simp at e; omega

/-! ### Places and symbols -/
theorem sym_place {S : BS} {i : Nat} (hi : i ∈ ordOf S.prods) : (S.terms.length : Int) + symOf 1 (ordOf S.prods) i = S.sym i := by
  unfold BS.sym symOf
  rw [if_pos hi, if_pos hi]
  omega
/-- Numbers from 1 to n, no two alike, n at least: all of them. -/
theorem all_in {l : List Nat} {n : Nat} (hn : l.Nodup) (hr : ∀ i ∈ l, 1 ≤ i ∧ i ≤ n) (hl : n ≤ l.length) {i : Nat} (h1 : 1 ≤ i) (h2 : i ≤ n) : i ∈ l := by
  apply Classical.byContradiction
  intro hi
  have h := nodup_short (i :: l) ((List.range n).map (· + 1)) (List.nodup_cons.2 ⟨hi, hn⟩) (fun x hx => by
    have hx' : 1 ≤ x ∧ x ≤ n := by
      rcases List.mem_cons.1 hx with rfl | hx
      · exact ⟨h1, h2⟩
      · exact hr x hx
    exact List.mem_map.2 ⟨x - 1, List.mem_range.2 (by omega), by omega⟩)
  simp at h
  omega

end Go.Proofs.Ytmkimeojcpadpaa
