import Derived.Test.YthoamlahbnphkaaGreatQdbmccflpknai
import Derived.Test.YthoamlahbnphkaaGreatQdobafbmidlnl
import Derived.BigQuiet
import Derived.Test.YthoamlahbnphkaaGreatQbloibadcnhog
import Derived.Deep.MidRow
import Derived.Deep.WholeRow
import Derived.Test.YthoamlahbnphkaaGreatQkmieignlfdpa
import Derived.Sort.Grow
import Derived.Deep.RegionHeld3

/-
  A told grammar, as Valid takes it.
-/
namespace Go.Proofs.YthoamlahbnphkaaGreat
open Go.RowKit Go.Maps Go.Shelf

attribute [local go_sem] Oper.semAt_some

set_option maxRecDepth 100000 in
set_option maxHeartbeats 400000 in
theorem hasAdded_no (b off : Nat) (ta la pa : Option Addr) (tn nn ln pn tc nc lc pc : Nat) (st : Int) (s : ByteArray) (w : World) (hc : w.cell? ⟨b, off, none⟩ = some (.string s)) (h0 : 0 < nn) (hs : 0 < s.size) :
    Calls Tryz.prog 70 #[.agg #[.slice ta tn tc, .slice (some ⟨b, off, none⟩) nn nc, .slice la ln lc, .int .i64 st, .slice pa pn pc]] w fun e w' => e = .returned (.bool false) ∧ w.grownBy w' none := by
  have hc' : ∀ o, (w.alloc o).cell? ⟨b, off, none⟩ = some (.string s) := fun o => (World.grownBy_alloc w o none).cell hc (by simp)
  have hc2 : ∀ o, (w.alloc o).drew.cell? ⟨b, off, none⟩ = some (.string s) := fun o => hc' o
  have hd : decide (0 < (nn : Int)) = true := decide_eq_true (by omega)
  have hd' : decide (0 < nn) = true := decide_eq_true h0
  have hne : (s.toList == (ByteArray.mk #[]).toList) = false := by
    rw [Bool.eq_false_iff]
    intro h
    have := (toList_empty s).1 (by simpa using h)
    rw [this] at hs
    simp [ByteArray.size] at hs
  have hne2 : s.toList.isEmpty = false := by
    cases h : s.toList with
    | nil =>
      rw [ByteArray.toList_eq] at h
      have : s.size = 0 := by show s.data.size = 0; rw [← Array.length_toList, h]; rfl
      omega
    | cons x r => rfl
  clear hc hs
  go_enter Tryz.func70, Tryz.ntmps70
  go_wp2_with fail
  go_quiet (fail)
  go_wp2
  go_ret
  exact ⟨by first | rfl | simp, grown_trans (World.grownBy_alloc _ _ none) (grown_drewN _ _)⟩

theorem closed_no (b off : Nat) (ta la pa : Option Addr) (tn nn ln pn tc nc lc pc : Nat) (st : Int) (s : ByteArray) (w : World) (hc : w.cell? ⟨b, off, none⟩ = some (.string s)) (h0 : 0 < nn) (hs : 0 < s.size) :
    Calls Tryz.prog 44 #[.agg #[.slice ta tn tc, .slice (some ⟨b, off, none⟩) nn nc, .slice la ln lc, .int .i64 st, .slice pa pn pc]] w fun e w' => e = .returned (.bool false) ∧ w.grownBy w' none := by
  have HA : Hid (∀ o, Calls Tryz.prog 70 #[.agg #[.slice ta tn tc, .slice (some ⟨b, off, none⟩) nn nc, .slice la ln lc, .int .i64 st, .slice pa pn pc]] (w.alloc o) fun e w' => e = .returned (.bool false) ∧ (w.alloc o).grownBy w' none) := fun o => hasAdded_no b off ta la pa tn nn ln pn tc nc lc pc st s (w.alloc o) ((World.grownBy_alloc w o none).cell hc (by simp)) h0 hs
  clear hc h0 hs
  go_enter Tryz.func44, Tryz.ntmps44
  go_wp2_with fail
  refine (HA.out _).mono ?_
  rintro e w2 ⟨rfl, hg2⟩
  have HG2 : Hid (w.grownBy w2 none) := grown_trans (World.grownBy_alloc _ _ none) hg2
  clear hg2
  go_wp2_with fail
  go_ret
  exact ⟨rfl, HG2.out⟩

end Go.Proofs.YthoamlahbnphkaaGreat

namespace Go.Proofs.YthoamlahbnphkaaGreat
open Go.RowKit Go.Maps Go.Shelf

theorem tmsL_at : ∀ (ts : List (ByteArray × Int)) (k : Nat), k < ts.length → (tmsL ts)[k * 2]? = some (.string (ts.getD k (⟨#[]⟩, 0)).1) ∧ (tmsL ts)[k * 2 + 1]? = some (.int .i64 (ts.getD k (⟨#[]⟩, 0)).2)
  | [], k, hk => by simp at hk
  | t :: ts, 0, _ => by simp [tmsL, tmL]
  | t :: ts, k + 1, hk => by
    have h := tmsL_at ts k (by simpa using hk)
    have e : tmsL (t :: ts) = [Value.string t.1, .int .i64 t.2] ++ tmsL ts := by simp [tmsL, tmL]
    rw [e]
    constructor
    · rw [List.getElem?_append_right (by simp; omega)]
      have e2 : (k + 1) * 2 - [Value.string t.1, .int .i64 t.2].length = k * 2 := by simp; omega
      rw [e2, h.1]; simp
    · rw [List.getElem?_append_right (by simp; omega)]
      have e2 : (k + 1) * 2 + 1 - [Value.string t.1, .int .i64 t.2].length = k * 2 + 1 := by simp; omega
      rw [e2, h.2]; simp

theorem owns_termsAt {w : World} {B n c : Nat} {a : Option Addr} {ts : List (ByteArray × Int)} (h : w.ownsRow B 88 2 (.slice a n c) n (tmsL ts)) (hn : n = ts.length) : TermsAt w a ts ∧ n ≤ c := by
  have h' := h
  rcases h.2 with ⟨hv, h0⟩ | ⟨g, cap, cur, hv, _, _, hle, _⟩
  · exact ⟨.inl (List.eq_nil_of_length_eq_zero (by omega)), by omega⟩
  · simp at hv
    obtain ⟨rfl, rfl⟩ := hv
    refine ⟨.inr ⟨g, 0, rfl, fun i hi => ?_⟩, hle⟩
    obtain ⟨h1, h2⟩ := tmsL_at ts i hi
    rw [Nat.zero_add]
    exact ⟨owns_cell h' h1, owns_cell h' h2⟩

theorem owns_bounds {w : World} {B e s n c : Nat} {a : Option Addr} {xs : List Value} (h : w.ownsRow B e s (.slice a n c) n xs) : n ≤ c ∧ (a = none → n = 0 ∧ c = 0) := by
  rcases h.2 with ⟨hv, h0⟩ | ⟨g, cap, cur, hv, _, _, hle, _⟩
  · simp at hv
    obtain ⟨rfl, rfl, rfl⟩ := hv
    exact ⟨Nat.le_refl _, fun _ => ⟨rfl, rfl⟩⟩
  · simp at hv
    obtain ⟨rfl, rfl⟩ := hv
    exact ⟨hle, fun h => by cases h⟩

theorem GramNew.gat {w : World} {B : Nat} {G : GR} {ta na la pa : Option Addr} {tc nc lc pc : Nat} (h : GramNew w B G (.slice ta G.terms.length tc) (.slice na G.nons.length nc) (.slice la G.levels.length lc) (.slice pa G.prods.length pc))
    (h1 : G.terms.length ≤ 17592186044416) (h2 : G.nons.length ≤ 17592186044416) (h3 : G.levels.length ≤ 17592186044416) (h4 : G.prods.length ≤ 17592186044416) (h5 : ∀ i, i < G.prods.length → (G.prods.getD i ⟨0, [], 0⟩).right.length ≤ 17592186044416) :
    ∃ ra rc, GAt w ta na la pa tc nc lc pc G.terms G.nons G.levels G.prods.length (fun i => (G.prods.getD i ⟨0, [], 0⟩).left) (fun i => (G.prods.getD i ⟨0, [], 0⟩).right) ra rc (fun i => (G.prods.getD i ⟨0, [], 0⟩).level) := by
  obtain ⟨hT, htc⟩ := owns_termsAt h.terms rfl
  obtain ⟨hnc, hnn⟩ := owns_bounds h.nons
  obtain ⟨rg, hp, hr⟩ := h.prods
  obtain ⟨hpc, hpn⟩ := owns_bounds hp
  have hI : ∀ k, ∃ a c, k < G.prods.length → rg k = .slice a (G.prods.getD k ⟨0, [], 0⟩).right.length c ∧ IntsAt w a (G.prods.getD k ⟨0, [], 0⟩).right ∧ (a = none → c = 0) := fun k => by
    by_cases hk : k < G.prods.length
    · have h0 : IntsIn w (rg k) (G.prods.getD k ⟨0, [], 0⟩).right := owns_base (hr k hk)
      obtain ⟨a, c, hv', h6, _, h7⟩ := h0.at
      exact ⟨a, c, fun _ => ⟨hv', h6, fun h => (h7 h).2⟩⟩
    · exact ⟨none, 0, fun h => absurd h hk⟩
  refine ⟨fun k => Classical.choose (hI k), fun k => Classical.choose (Classical.choose_spec (hI k)), hT, StrsIn.strsAt (v := .slice na G.nons.length nc) (owns_base h.nons) rfl, owns_intsAt h.levels rfl, ?_, htc, hnc, hpc, hnn, hpn, h1, h2, h3, h4⟩
  by_cases h0 : G.prods.length = 0
  · exact .inl h0
  · rcases hp.2 with ⟨_, hz⟩ | ⟨g, cap, cur, hv, _⟩
    · exact absurd hz h0
    · simp at hv
      obtain ⟨rfl, rfl⟩ := hv
      refine .inr ⟨g, 0, rfl, fun k hk => ?_⟩
      obtain ⟨e1, e2, e3⟩ := Classical.choose_spec (Classical.choose_spec (hI k)) hk
      have c0 := prodRow_at (fun i => (G.prods.getD i ⟨0, [], 0⟩).left) rg (fun i => (G.prods.getD i ⟨0, [], 0⟩).level) G.prods.length k hk 0 (by omega)
      have c1 := prodRow_at (fun i => (G.prods.getD i ⟨0, [], 0⟩).left) rg (fun i => (G.prods.getD i ⟨0, [], 0⟩).level) G.prods.length k hk 1 (by omega)
      have c2 := prodRow_at (fun i => (G.prods.getD i ⟨0, [], 0⟩).left) rg (fun i => (G.prods.getD i ⟨0, [], 0⟩).level) G.prods.length k hk 2 (by omega)
      rw [e1] at c1
      rw [Nat.zero_add]
      exact ⟨owns_cell hp (by rw [Nat.add_zero] at c0; exact c0), owns_cell hp c1, owns_cell hp c2, e2, e3, h5 k hk⟩

end Go.Proofs.YthoamlahbnphkaaGreat

/-
  Level, walked.
-/
namespace Go.Proofs.YthoamlahbnphkaaGreat
open Go.RowKit

attribute [local go_sem] Oper.semAt_some

theorem owns_form {W : World} {B e z n : Nat} {v : Value} {xs : List Value} (h : W.ownsRow B e z v n xs) : ∃ a c, v = .slice a n c := by
  rcases h.2 with ⟨rfl, h0⟩ | ⟨g, cap, cur, rfl, _⟩
  · exact ⟨none, 0, by rw [h0]⟩
  · exact ⟨_, _, rfl⟩
end Go.Proofs.YthoamlahbnphkaaGreat

namespace Go.Proofs.YthoamlahbnphkaaGreat
open Go.RowKit

theorem nodup_short {α : Type} [DecidableEq α] : ∀ (l m : List α), l.Nodup → (∀ x ∈ l, x ∈ m) → l.length ≤ m.length
  | [], _, _, _ => Nat.zero_le _
  | a :: l, m, hn, hs => by
    rw [List.nodup_cons] at hn
    have ha := hs a (by simp)
    have h := nodup_short l (m.erase a) hn.2 (fun x hx => (List.mem_erase_of_ne (fun e => hn.1 (by rw [← e]; exact hx))).2 (hs x (by simp [hx])))
    rw [List.length_erase_of_mem ha] at h
    have : 0 < m.length := List.length_pos_of_mem ha
    simp only [List.length_cons]
    omega

def updL (f : Nat → Int) (i : Nat) (z : Int) : Nat → Int := fun j => if j = i then z else f j
/-- The terminals' levels, once a level is told of these; none: it is refused. -/
def levGo (S : BS) (L : Int) : (Nat → Int) → List Int → Option (Nat → Int)
  | lev, [] => some lev
  | lev, h :: r => if S.isT h = true ∧ lev h.toNat = 0 then levGo S L (updL lev h.toNat L) r else none
def BS.addL (S : BS) (lev : Nat → Int) (side : Int) : BS := { S with lev := lev, sides := S.sides ++ [side] }
def BS.level (S : BS) (side : Int) (terms : List Int) : Int × Int × BS :=
  if (1 ≤ side ∧ side ≤ 3) ∧ terms ≠ [] then
    match levGo S (S.sides.length + 1) S.lev terms with
    | some lev => (S.sides.length + 1, 0, S.addL lev side)
    | none => (0, 1, S)
  else (0, 1, S)

theorem isT_iff {S : BS} {h : Int} : S.isT h = true ↔ 0 < h ∧ h ≤ S.terms.length := by simp [BS.isT]
/-- What it leaves and what it turns. -/
theorem levGo_keeps {S : BS} {L : Int} (hL : L ≠ 0) : ∀ (terms : List Int) (lev lev' : Nat → Int), levGo S L lev terms = some lev' →
    (∀ i, lev i ≠ 0 → lev' i = lev i) ∧ (∀ i, lev' i = lev i ∨ (lev' i = L ∧ 1 ≤ i ∧ i ≤ S.terms.length)) ∧ (terms ≠ [] → ∃ i, 1 ≤ i ∧ i ≤ S.terms.length ∧ lev' i = L)
  | [], lev, lev', h => by
    cases h
    exact ⟨fun _ _ => rfl, fun _ => .inl rfl, fun h => absurd rfl h⟩
  | a :: r, lev, lev', h => by
    unfold levGo at h
    split at h
    · next hc =>
      obtain ⟨h1, h2⟩ := hc
      obtain ⟨t1, t2⟩ := isT_iff.1 h1
      obtain ⟨k1, k2, _⟩ := levGo_keeps hL r _ _ h
      have hat : lev' a.toNat = L := by
        rw [k1 a.toNat (by simp [updL, hL])]
        simp [updL]
      refine ⟨fun i hi => ?_, fun i => ?_, fun _ => ⟨a.toNat, by omega, by omega, hat⟩⟩
      · have hne : i ≠ a.toNat := fun e => hi (by rw [e]; exact h2)
        have hu : updL lev a.toNat L i = lev i := by simp [updL, hne]
        rw [k1 i (by rw [hu]; exact hi), hu]
      · by_cases e : i = a.toNat
        · right
          rw [e]
          exact ⟨hat, by omega, by omega⟩
        · have hu : updL lev a.toNat L i = lev i := by simp [updL, e]
          rcases k2 i with h3 | h3
          · left; rw [h3, hu]
          · exact .inr h3
    · cases h

theorem levels_le {S : BS} {lev : Nat → Int} {n : Nat} (has : ∀ i, i < n → ∃ h, 1 ≤ h ∧ h ≤ S.terms.length ∧ lev h = (i : Int) + 1) : n ≤ S.terms.length := by
  have hnd : ((List.range n).map fun i : Nat => (i : Int) + 1).Nodup := by
    rw [List.nodup_iff_pairwise_ne, List.pairwise_map]
    exact (List.nodup_range (n := n)).imp (fun h e => h (by omega))
  have h := nodup_short ((List.range n).map fun i : Nat => (i : Int) + 1) ((List.range S.terms.length).map fun j => lev (j + 1)) hnd (fun x hx => by
    obtain ⟨i, hi, rfl⟩ := List.mem_map.1 hx
    obtain ⟨h, h1, h2, h3⟩ := has i (List.mem_range.1 hi)
    exact List.mem_map.2 ⟨h - 1, List.mem_range.2 (by omega), by rw [show h - 1 + 1 = h by omega]; exact h3⟩)
  simpa using h

theorem BS.OK.addL {S : BS} (h : S.OK) {side : Int} {terms : List Int} {lev : Nat → Int} (hs : 1 ≤ side ∧ side ≤ 3) (ht : terms ≠ []) (hl : levGo S (S.sides.length + 1) S.lev terms = some lev) : (S.addL lev side).OK := by
  obtain ⟨k1, k2, k3⟩ := levGo_keeps (by omega) terms S.lev lev hl
  have hlen : (S.sides ++ [side]).length = S.sides.length + 1 := by simp
  have hhas : ∀ i, i < (S.sides ++ [side]).length → ∃ h, 1 ≤ h ∧ h ≤ S.terms.length ∧ lev h = (i : Int) + 1 := fun i hi => by
    rw [hlen] at hi
    by_cases e : i = S.sides.length
    · obtain ⟨j, j1, j2, j3⟩ := k3 ht
      exact ⟨j, j1, j2, by rw [j3, e]⟩
    · obtain ⟨j, j1, j2, j3⟩ := h.has i (by omega)
      exact ⟨j, j1, j2, by rw [k1 j (by rw [j3]; omega), j3]⟩
  have hle := levels_le hhas
  have hsy := h.syms
  refine { syms := h.syms, tnames := h.tnames, nnames := h.nnames, tnd := h.tnd, nnd := h.nnd, sides := by show (S.sides ++ [side]).length ≤ 64; omega, sdv := ?_, prods := h.prods, lev := ?_, lev0 := ?_, levT := ?_, has := hhas, pl := h.pl, pr := h.pr, plen := h.plen, pv := ?_, st := h.st }
  · intro x hx
    rcases List.mem_append.1 (show x ∈ S.sides ++ [side] from hx) with hx | hx
    · exact h.sdv x hx
    · rw [List.mem_singleton.1 hx]; exact hs
  · intro i
    show 0 ≤ lev i ∧ lev i ≤ ((S.sides ++ [side]).length : Int)
    have hi := h.lev i
    rw [hlen]
    rcases k2 i with e | ⟨e, _, _⟩
    · rw [e]; omega
    · rw [e]; omega
  · show lev 0 = 0
    rcases k2 0 with e | ⟨_, e, _⟩
    · rw [e]; exact h.lev0
    · omega
  · intro j hj
    show lev j = 0
    rcases k2 j with e | ⟨_, _, e⟩
    · rw [e]; exact h.levT j hj
    · have hj' : S.terms.length < j := hj
      omega
  · intro p hp
    have := h.pv p hp
    show 0 ≤ p.level ∧ p.level ≤ ((S.sides ++ [side]).length : Int)
    rw [hlen]
    omega
theorem BS.OK.level {S : BS} (h : S.OK) (side : Int) (terms : List Int) : (S.level side terms).2.2.OK := by
  unfold BS.level
  split
  · next hc =>
    split
    · next lev hl => exact h.addL hc.1 hc.2 hl
    · exact h
  · exact h

end Go.Proofs.YthoamlahbnphkaaGreat

namespace Go.Proofs.YthoamlahbnphkaaGreat
open Go.RowKit

attribute [local go_sem] Oper.semAt_some

/-- A row of the terminals' levels. -/
def IsLev (A : Array Value) (f : Nat → Int) : Prop := A.size = 65 ∧ ∀ i, i < 65 → A[i]? = some (.int .i64 (f i))
def levRow (f : Nat → Int) : List Value := (List.range 65).map fun i => .int .i64 (f i)
theorem levRow_is (f : Nat → Int) : IsLev (levRow f).toArray f := by
  refine ⟨by simp [levRow], fun i hi => ?_⟩
  simp [levRow, hi]
theorem wpList_store_new {P : Program} {ops : Array Oper} {rest : List Oper} {op : Oper} {a : Act} {w : World} {Q : Exit → Act → World → Prop} (hgd : op.guard = none) (ty : TypeId) (x y : Operand) (ho : op.op = .store ty x y)
    (c c' : Array Value) (hx : a.eval x = .pointer (some ⟨w.heap.size, 0, none⟩)) (hy : a.eval y = .agg c') (hi : (P.info? ty).map (·.size) = some c'.size) (hs : c.size = c'.size) (h1 : c'.all (·.oneCell') = true)
    (h : wpList P ops Q rest (a.put op.dst undef) (w.alloc (.cells c' ty))) : wpList P ops Q (op :: rest) a (w.alloc (.cells c ty)) :=
  wpList_plain hgd fun K hK => by
    have hst := run_storeAt_new (P := P) w ty c c' hi hs h1
    unfold Oper.wp execOp
    simp only [ho, hx, hy, Sem.run_bind, Sem.run_pure, hst, Result.andThen_ok]
    exact hK _ _ h
theorem levGo_app {S : BS} {L : Int} : ∀ (xs ys : List Int) (lev lev' : Nat → Int), levGo S L lev xs = some lev' → levGo S L lev (xs ++ ys) = levGo S L lev' ys
  | [], ys, lev, lev', h => by cases h; rfl
  | x :: xs, ys, lev, lev', h => by
    unfold levGo at h
    rw [List.cons_append]
    conv => lhs; unfold levGo
    split at h
    · next hc => rw [if_pos hc]; exact levGo_app xs ys _ _ h
    · cases h
theorem take_drop_at {l : List Int} {k : Nat} (h : k < l.length) : l = l.take k ++ l.getD k 0 :: l.drop (k + 1) := by
  have : l.getD k 0 = l[k] := by simp [List.getD, h]
  rw [this, ← List.drop_eq_getElem_cons h, List.take_append_drop]
theorem take_succ_at {l : List Int} {k : Nat} (h : k < l.length) : l.take (k + 1) = l.take k ++ [l.getD k 0] := by
  have : l.getD k 0 = l[k] := by simp [List.getD, h]
  rw [this, List.take_succ_eq_append_getElem h]
theorem IsLev.set {A : Array Value} {f : Nat → Int} (h : IsLev A f) (m : Nat) (L : Int) : IsLev (A.setIfInBounds m (.int .i64 L)) (updL f m L) := by
  refine ⟨by simp [h.1], fun i hi => ?_⟩
  by_cases e : i = m
  · subst e
    simp [updL, h.1, hi]
  · rw [Array.getElem?_setIfInBounds_ne (fun x => e x.symm), h.2 i hi]
    simp [updL, e]
def putL (c : Nat → Value) (o : Nat) (vs : List Value) : Nat → Value := fun i => if o ≤ i ∧ i < o + vs.length then vs.getD (i - o) undef else c i
theorem putL_out {c : Nat → Value} {o : Nat} {vs : List Value} {i : Nat} (h : i < o ∨ o + vs.length ≤ i) : putL c o vs i = c i := by unfold putL; rw [if_neg (by omega)]
theorem putL_in {c : Nat → Value} {o : Nat} {vs : List Value} {i : Nat} (h : i < vs.length) : putL c o vs (o + i) = vs.getD i undef := by unfold putL; rw [if_pos (by omega), Nat.add_sub_cancel_left]
theorem putL_cons (c : Nat → Value) (o : Nat) (v : Value) (vs : List Value) : putL c o (v :: vs) = putL (putC c o v) (o + 1) vs := by
  funext i
  by_cases h1 : i = o
  · subst h1
    rw [putL_out (c := putC c i v) (o := i + 1) (by omega), putC_same]
    unfold putL
    rw [if_pos (by simp)]
    simp
  · unfold putL
    simp only [List.length_cons]
    by_cases h2 : o + 1 ≤ i ∧ i < o + 1 + vs.length
    · rw [if_pos (by omega), if_pos h2, show i - o = (i - (o + 1)) + 1 by omega]
      rfl
    · rw [if_neg (by omega), if_neg h2, putC_other _ _ h1]
theorem grown_setCells {b : Nat} : ∀ (vs : List Value) (o : Nat) (w : World), w.grownBy (w.setCells b o vs) (some b)
  | [], _, _ => grown_refl _ _
  | v :: vs, o, _ => grown_trans (grown_setCell b o v) (grown_setCells vs (o + 1) _)
end Go.Proofs.YthoamlahbnphkaaGreat

/-
  Grade, walked.
-/
namespace Go.Proofs.YthoamlahbnphkaaGreat
open Go.RowKit

def setLev (ps : List PR) (i : Nat) (l : Int) : List PR := ps.set i { ps.getD i ⟨0, [], 0⟩ with level := l }
def gradeGo (l : Int) : List PR → List Int → Option (List PR)
  | ps, [] => some ps
  | ps, h :: r => if 0 ≤ h ∧ h < ps.length then gradeGo l (setLev ps h.toNat l) r else none
def BS.grade (S : BS) (l : Int) (hs : List Int) : Int × BS :=
  if 0 ≤ l ∧ l ≤ S.sides.length then
    match gradeGo l S.prods hs with
    | some ps => (0, { S with prods := ps })
    | none => (1, S)
  else (1, S)
/-- As it was, but for its level. -/
def Graded (l : Int) (ps ps' : List PR) : Prop := ps'.length = ps.length ∧ ∀ i, i < ps.length → (ps'.getD i ⟨0, [], 0⟩).left = (ps.getD i ⟨0, [], 0⟩).left ∧ (ps'.getD i ⟨0, [], 0⟩).right = (ps.getD i ⟨0, [], 0⟩).right ∧ ((ps'.getD i ⟨0, [], 0⟩).level = (ps.getD i ⟨0, [], 0⟩).level ∨ (ps'.getD i ⟨0, [], 0⟩).level = l)
theorem Graded.refl (l : Int) (ps : List PR) : Graded l ps ps := ⟨rfl, fun _ _ => ⟨rfl, rfl, .inl rfl⟩⟩
theorem Graded.set {l : Int} {ps ps' : List PR} (h : Graded l ps ps') {k : Nat} (hk : k < ps.length) : Graded l ps (setLev ps' k l) := by
  refine ⟨by simp [setLev, h.1], fun i hi => ?_⟩
  obtain ⟨h1, h2, h3⟩ := h.2 i hi
  have hi' : i < ps'.length := by rw [h.1]; exact hi
  by_cases e : i = k
  · subst e
    have : (setLev ps' i l).getD i ⟨0, [], 0⟩ = { ps'.getD i ⟨0, [], 0⟩ with level := l } := by simp [setLev, List.getD, hi']
    rw [this]
    exact ⟨h1, h2, .inr rfl⟩
  · have : (setLev ps' k l).getD i ⟨0, [], 0⟩ = ps'.getD i ⟨0, [], 0⟩ := by simp [setLev, List.getD, show ¬ k = i from fun x => e x.symm]
    rw [this]
    exact ⟨h1, h2, h3⟩
theorem gradeGo_graded {l : Int} {ps0 : List PR} : ∀ (hs : List Int) (ps ps' : List PR), Graded l ps0 ps → gradeGo l ps hs = some ps' → Graded l ps0 ps'
  | [], ps, ps', h, e => by cases e; exact h
  | a :: r, ps, ps', h, e => by
    unfold gradeGo at e
    split at e
    · next hc => exact gradeGo_graded r _ _ (h.set (by rw [← h.1]; omega)) e
    · cases e
theorem gradeGo_app {l : Int} : ∀ (xs ys : List Int) (ps ps' : List PR), gradeGo l ps xs = some ps' → gradeGo l ps (xs ++ ys) = gradeGo l ps' ys
  | [], ys, ps, ps', h => by cases h; rfl
  | x :: xs, ys, ps, ps', h => by
    unfold gradeGo at h
    rw [List.cons_append]
    conv => lhs; unfold gradeGo
    split at h
    · next hc => rw [if_pos hc]; exact gradeGo_app xs ys _ _ h
    · cases h
theorem Graded.mem {l : Int} {ps ps' : List PR} (h : Graded l ps ps') {p : PR} (hp : p ∈ ps') : ∃ q ∈ ps, p.left = q.left ∧ p.right = q.right ∧ (p.level = q.level ∨ p.level = l) := by
  obtain ⟨i, hi, rfl⟩ := List.getElem_of_mem hp
  have hi' : i < ps.length := by rw [← h.1]; exact hi
  have := h.2 i hi'
  rw [show ps'.getD i ⟨0, [], 0⟩ = ps'[i] by simp [List.getD, hi], show ps.getD i ⟨0, [], 0⟩ = ps[i] by simp [List.getD, hi']] at this
  exact ⟨ps[i], List.getElem_mem hi', this⟩
theorem BS.OK.graded {S : BS} (h : S.OK) {l : Int} {ps : List PR} (hl : 0 ≤ l ∧ l ≤ S.sides.length) (hg : Graded l S.prods ps) : ({ S with prods := ps } : BS).OK := by
  refine ⟨h.syms, h.tnames, h.nnames, h.tnd, h.nnd, h.sides, h.sdv, by show ps.length ≤ 96; rw [hg.1]; exact h.prods, h.lev, h.lev0, h.levT, h.has, fun p hp => ?_, fun p hp k hk => ?_, fun p hp => ?_, fun p hp => ?_, h.st⟩
  · obtain ⟨q, hq, e1, _, _⟩ := hg.mem hp
    rw [e1]
    exact h.pl q hq
  · obtain ⟨q, hq, _, e2, _⟩ := hg.mem hp
    rw [e2] at hk
    exact h.pr q hq k hk
  · obtain ⟨q, hq, _, e2, _⟩ := hg.mem hp
    rw [e2]
    exact h.plen q hq
  · obtain ⟨q, hq, _, _, e3⟩ := hg.mem hp
    have := h.pv q hq
    show 0 ≤ p.level ∧ p.level ≤ (S.sides.length : Int)
    rcases e3 with e3 | e3 <;> rw [e3] <;> omega
theorem flat_set (l : Int) : ∀ (ps : List PR) (rs : List Value) (i : Nat), rs.length = ps.length → i < ps.length → ((ps.zip rs).flatMap fun x => prL x.1 x.2).set (i * 3 + 2) (.int .i64 l) = ((setLev ps i l).zip rs).flatMap fun x => prL x.1 x.2
  | [], _, _, _, h => by simp at h
  | p :: ps, [], _, h, _ => by simp at h
  | p :: ps, r :: rs, 0, _, _ => by simp [setLev, prL]
  | p :: ps, r :: rs, i + 1, h1, h2 => by
    have ih := flat_set l ps rs i (by simpa using h1) (by simpa using h2)
    have e : setLev (p :: ps) (i + 1) l = p :: setLev ps i l := by simp [setLev]
    rw [e, List.zip_cons_cons, List.zip_cons_cons, List.flatMap_cons, List.flatMap_cons, ← ih]
    show (prL p r ++ _).set _ _ = _
    rw [List.set_append_right _ _ (by simp [prL]; omega), show (i + 1) * 3 + 2 - (prL p r).length = i * 3 + 2 by simp [prL]; omega]

end Go.Proofs.YthoamlahbnphkaaGreat

namespace Go.Proofs.YthoamlahbnphkaaGreat
open Go.RowKit

attribute [local go_sem] Oper.semAt_some

end Go.Proofs.YthoamlahbnphkaaGreat

/-
  The document's builder in memory: four lists of its own and the start symbol; what its steps leave.
-/
namespace Go.Proofs.YthoamlahbnphkaaGreat
open Go.RowKit

theorem owns_ne {w : World} {B B' e e' s s' n n' : Nat} {v v' : Value} {xs xs' : List Value} (h : w.ownsRow B e s v n xs) (h' : w.ownsRow B' e' s' v' n' xs') (he : e ≠ e') : v.ownBlock = none ∨ v.ownBlock ≠ v'.ownBlock := by
  rcases h.2 with ⟨rfl, _⟩ | ⟨g, cap, cur, rfl, _, hg, _⟩
  · exact .inl rfl
  · right
    intro hh
    rcases h'.2 with ⟨rfl, _⟩ | ⟨g', cap', cur', rfl, _, hg', _⟩
    · cases hh
    · have : g = g' := by simpa [Value.ownBlock] using hh
      rw [this, hg'] at hg
      simp at hg
      exact he hg.2.symm
theorem owns_nebox {w : World} {B e e' s n r : Nat} {v : Value} {xs : List Value} {cs : Array Value} (h : w.ownsRow B e s v n xs) (hr : w.heap[r]? = some (.cells cs e' (0, 0))) (he : e ≠ e') : v.ownBlock = none ∨ v.ownBlock ≠ some r := by
  rcases h.2 with ⟨rfl, _⟩ | ⟨g, cap, cur, rfl, _, hg, _⟩
  · exact .inl rfl
  · right
    intro hh
    have : g = r := by simpa [Value.ownBlock] using hh
    rw [this, hr] at hg
    simp at hg
    exact he hg.2.symm

/-- The terminals with their levels. -/
def rts (S : BS) : List (ByteArray × Int) := (List.range S.terms.length).map fun j => (S.terms.getD j ⟨#[]⟩, S.lev (j + 1))
theorem rts_length (S : BS) : (rts S).length = S.terms.length := by simp [rts]
theorem rts_at (S : BS) {j : Nat} (h : j < S.terms.length) : (rts S).getD j (⟨#[]⟩, 0) = (S.terms.getD j ⟨#[]⟩, S.lev (j + 1)) := by simp [rts, List.getD, h]

theorem none_ne {o row : Option Nat} (h : row = none) : o = none ∨ o ≠ row := by
  cases o with
  | none => exact .inl rfl
  | some g => right; rw [h]; simp
end Go.Proofs.YthoamlahbnphkaaGreat

/-
  lr0: items, in memory; the small functions.
-/
namespace Go.Proofs.YthoamlahbnphkaaGreat.J
open Go.RowKit Go.Maps Go.Shelf

attribute [local go_sem] Oper.semAt_some

/-- An item: a production and a dot. -/
abbrev It := Int × Int
def encIt (x : It) : List Value := [.int .i64 x.1, .int .i64 x.2]
/-- Items, as cells. -/
def itsV (l : List It) : List Value := l.flatMap encIt
theorem itsV_nil : itsV [] = [] := rfl
theorem itsV_cons (x : It) (l : List It) : itsV (x :: l) = .int .i64 x.1 :: .int .i64 x.2 :: itsV l := rfl
theorem itsV_append (l m : List It) : itsV (l ++ m) = itsV l ++ itsV m := by unfold itsV; rw [List.flatMap_append]
theorem itsV_length (l : List It) : (itsV l).length = l.length * 2 := by
  induction l with
  | nil => rfl
  | cons x l ih => rw [itsV_cons]; simp [ih]; omega
theorem itsV_at : ∀ (l : List It) (i : Nat), i < l.length → (itsV l)[i * 2]? = some (.int .i64 (l.getD i (0, 0)).1) ∧ (itsV l)[i * 2 + 1]? = some (.int .i64 (l.getD i (0, 0)).2)
  | [], i, h => absurd h (Nat.not_lt_zero _)
  | x :: l, 0, _ => ⟨rfl, rfl⟩
  | x :: l, i + 1, h => by
    have ih := itsV_at l i (by simpa using h)
    rw [itsV_cons, show (i + 1) * 2 = i * 2 + 1 + 1 by omega]
    simpa using ih
theorem itsV_one (l : List It) : ∀ u ∈ itsV l, u.oneCell' = true := by
  induction l with
  | nil => intro u h; cases h
  | cons x l ih =>
    intro u h
    rw [itsV_cons] at h
    simp only [List.mem_cons] at h
    rcases h with rfl | rfl | h
    · rfl
    · rfl
    · exact ih u h

/-- Items that can be read. -/
def ItsAt (X : World) (a : Option Addr) (l : List It) : Prop := l = [] ∨ ∃ b off, a = some ⟨b, off, none⟩ ∧ ∀ i, i < l.length → X.cell? ⟨b, off + i * 2, none⟩ = some (.int .i64 (l.getD i (0, 0)).1) ∧ X.cell? ⟨b, off + i * 2 + 1, none⟩ = some (.int .i64 (l.getD i (0, 0)).2)
theorem ItsAt.kept {X Y : World} {a : Option Addr} {l : List It} (h : ItsAt X a l) (hg : X.grownBy Y none) : ItsAt Y a l := by
  rcases h with h | ⟨b, off, e, h⟩
  · exact .inl h
  · exact .inr ⟨b, off, e, fun i hi => ⟨hg.cell (h i hi).1 (by simp), hg.cell (h i hi).2 (by simp)⟩⟩
theorem ItsAt.of {X : World} {B c : Nat} {a : Option Addr} {l : List It} (h : X.ownsRow B 69 2 (.slice a l.length c) l.length (itsV l)) : ItsAt X a l := by
  rcases h.2 with ⟨h', h2⟩ | ⟨g, cap, cur, hv, hB, hh, _, _, hs, ht⟩
  · left
    exact List.eq_nil_of_length_eq_zero h2
  · right
    simp only [Value.slice.injEq] at hv
    refine ⟨g, 0, hv.1, fun i hi => ?_⟩
    obtain ⟨h3, h4⟩ := itsV_at l i hi
    rw [← ht, List.getElem?_take, if_pos (by omega)] at h3 h4
    rw [Nat.zero_add, cell_of_row _ _ _ _ _ _ hh, cell_of_row _ _ _ _ _ _ hh]
    exact ⟨by simpa using h3, by simpa using h4⟩

/-- Is it an item of n productions? -/
def itB (n : Nat) (R : Nat → List Int) (x : It) : Bool := decide (0 ≤ x.1) && decide (x.1 < (n : Int)) && decide (0 ≤ x.2) && decide (x.2 ≤ ((R x.1.toNat).length : Int))
/-- The symbol behind an item's dot. -/
def aheadV (R : Nat → List Int) (x : It) : Int := if x.2 = ((R x.1.toNat).length : Int) then -1 else (R x.1.toNat).getD x.2.toNat 0

section
variable (ta na la pa : Option Addr) (tc nc lc pc : Nat) (ts : List (ByteArray × Int)) (ns : List ByteArray) (lv : List Int) (n : Nat) (L : Nat → Int) (R : Nat → List Int) (ra : Nat → Option Addr) (rc : Nat → Nat) (V : Nat → Int) (st : Int) (w : World) (tn nn ln : Nat)

theorem symbols_any (htn : tn ≤ 1000000) (hnn : nn ≤ 1000000) : Calls Tryz.prog 77 #[.agg #[.slice ta tn tc, .slice na nn nc, .slice la ln lc, .int .i64 st, .slice pa n pc]] w fun e y => e = .returned (.int .i64 ((tn : Int) + nn)) ∧ w.grownBy y none := by
  have HG0 : Hid (w.grownBy (w.alloc (.cells #[.slice ta tn tc, .slice na nn nc, .slice la ln lc, .int .i64 st, .slice pa n pc] 27)) none) := World.grownBy_alloc _ _ none
  go_enter Tryz.func77, Tryz.ntmps77
  go_wp2_with fail
  go_ret
  exact ⟨rfl, HG0.out⟩

set_option maxRecDepth 100000 in
set_option maxHeartbeats 1000000 in
theorem isItem_any (hP : ProdsAt w pa n L R ra rc V) (x : It) : Calls Tryz.prog 76 #[.agg #[.slice ta tn tc, .slice na nn nc, .slice la ln lc, .int .i64 st, .slice pa n pc], .agg #[.int .i64 x.1, .int .i64 x.2]] w fun e y => e = .returned (.bool (itB n R x)) ∧ w.grownBy y none := by
  obtain ⟨p, d⟩ := x
  simp only
  have HG0 : Hid (w.grownBy ((w.alloc (.cells #[.slice ta tn tc, .slice na nn nc, .slice la ln lc, .int .i64 st, .slice pa n pc] 27)).alloc (.cells #[.int .i64 p, .int .i64 d] 69)) none) := grown_trans (World.grownBy_alloc _ _ none) (World.grownBy_alloc _ _ none)
  by_cases h0 : 0 ≤ p
  · have d0 : decide (0 ≤ p) = true := decide_eq_true h0
    obtain ⟨k, rfl⟩ : ∃ k : Nat, p = (k : Int) := ⟨p.toNat, by omega⟩
    by_cases h1 : k < n
    · have d1 : decide (k < n) = true := decide_eq_true h1
      obtain ⟨bp, op, rfl, hp⟩ : ∃ bp op, pa = some ⟨bp, op, none⟩ ∧ w.cell? ⟨bp, op + k * 3 + 1, none⟩ = some (.slice (ra k) (R k).length (rc k)) := by
        rcases hP with h | ⟨bp, op, e, h⟩
        · omega
        · exact ⟨bp, op, e, (h k h1).2.1⟩
      have hk0 : (0 : Int) ≤ (k : Int) := by omega
      have hk1 : (k : Int) < (n : Int) := by omega
      obtain ⟨rl, hrl⟩ : ∃ r, r = (R k).length := ⟨_, rfl⟩
      rw [← hrl] at hp
      have p1 : ((w.alloc (.cells #[.slice ta tn tc, .slice na nn nc, .slice la ln lc, .int .i64 st, .slice (some ⟨bp, op, none⟩) n pc] 27)).alloc (.cells #[.int .i64 (k : Int), .int .i64 d] 69)).cell? ⟨bp, op + k * 3 + 1, none⟩ = some (.slice (ra k) rl (rc k)) := HG0.out.cell hp (by simp)
      by_cases h2 : 0 ≤ d
      · have d2 : decide (0 ≤ d) = true := decide_eq_true h2
        obtain ⟨j, rfl⟩ : ∃ j : Nat, d = (j : Int) := ⟨d.toNat, by omega⟩
        have HR : Hid (itB n R ((k : Int), (j : Int)) = decide (j ≤ rl)) := by
          show _ = _
          unfold itB
          simp only [Int.toNat_natCast, ← hrl]
          rw [d0, d2, decide_eq_true hk1]
          simp
        clear hrl hP hp
        by_cases h3 : j ≤ rl
        · have d3 : decide (j ≤ rl) = true := decide_eq_true h3
          go_enter Tryz.func76, Tryz.ntmps76
          go_wp2_with fail
          go_quiet (fail)
          go_wp2_with fail
          go_ret
          exact ⟨by rw [HR.out, d3]; rfl, grown_trans HG0.out (grown_drewN _ _)⟩
        · have d3 : decide (j ≤ rl) = false := decide_eq_false h3
          go_enter Tryz.func76, Tryz.ntmps76
          go_wp2_with fail
          go_quiet (fail)
          go_wp2_with fail
          go_ret
          exact ⟨by rw [HR.out, d3]; rfl, grown_trans HG0.out (grown_drewN _ _)⟩
      · have d2 : decide (0 ≤ d) = false := decide_eq_false h2
        have HR : Hid (itB n R ((k : Int), d) = false) := by show _ = _; unfold itB; simp only; rw [d2]; simp
        clear hrl hP hp p1
        go_enter Tryz.func76, Tryz.ntmps76
        go_wp2_with fail
        go_quiet (fail)
        go_wp2_with fail
        go_ret
        exact ⟨by rw [HR.out]; rfl, grown_trans HG0.out (grown_drewN _ _)⟩
    · have d1 : decide (k < n) = false := decide_eq_false h1
      have HR : Hid (itB n R ((k : Int), d) = false) := by show _ = _; unfold itB; simp only; rw [decide_eq_false (by omega : ¬ (k : Int) < (n : Int))]; simp
      clear hP
      go_enter Tryz.func76, Tryz.ntmps76
      go_wp2_with fail
      go_quiet (fail)
      go_wp2_with fail
      go_ret
      exact ⟨by rw [HR.out]; rfl, grown_trans HG0.out (grown_drewN _ _)⟩
  · have d0 : decide (0 ≤ p) = false := decide_eq_false h0
    have HR : Hid (itB n R (p, d) = false) := by show _ = _; unfold itB; simp only; rw [d0]; simp
    clear hP
    go_enter Tryz.func76, Tryz.ntmps76
    go_wp2_with fail
    go_quiet (fail)
    go_wp2_with fail
    go_ret
    exact ⟨by rw [HR.out]; rfl, grown_trans HG0.out (grown_drewN _ _)⟩

set_option maxRecDepth 100000 in
set_option maxHeartbeats 1000000 in
theorem ahead_any (hP : ProdsAt w pa n L R ra rc V) (x : It) (hx : itB n R x = true) : Calls Tryz.prog 78 #[.agg #[.slice ta tn tc, .slice na nn nc, .slice la ln lc, .int .i64 st, .slice pa n pc], .agg #[.int .i64 x.1, .int .i64 x.2]] w fun e y => e = .returned (.int .i64 (aheadV R x)) ∧ w.grownBy y none := by
  obtain ⟨p, d⟩ := x
  simp only
  have HG0 : Hid (w.grownBy ((w.alloc (.cells #[.slice ta tn tc, .slice na nn nc, .slice la ln lc, .int .i64 st, .slice pa n pc] 27)).alloc (.cells #[.int .i64 p, .int .i64 d] 69)) none) := grown_trans (World.grownBy_alloc _ _ none) (World.grownBy_alloc _ _ none)
  unfold itB at hx
  simp only [Bool.and_eq_true, decide_eq_true_eq] at hx
  obtain ⟨⟨⟨h0, h1⟩, h2⟩, h3⟩ := hx
  obtain ⟨k, rfl⟩ : ∃ k : Nat, p = (k : Int) := ⟨p.toNat, by omega⟩
  obtain ⟨j, rfl⟩ : ∃ j : Nat, d = (j : Int) := ⟨d.toNat, by omega⟩
  rw [Int.toNat_natCast] at h3
  have hkn : k < n := by omega
  obtain ⟨bp, op, rfl, hp, hI, hrb⟩ : ∃ bp op, pa = some ⟨bp, op, none⟩ ∧ w.cell? ⟨bp, op + k * 3 + 1, none⟩ = some (.slice (ra k) (R k).length (rc k)) ∧ IntsAt w (ra k) (R k) ∧ (R k).length ≤ 17592186044416 := by
    rcases hP with h | ⟨bp, op, e, h⟩
    · omega
    · exact ⟨bp, op, e, (h k hkn).2.1, (h k hkn).2.2.2.1, (h k hkn).2.2.2.2.2⟩
  have hk0 : (0 : Int) ≤ (k : Int) := by omega
  have hk1 : (k : Int) < (n : Int) := by omega
  obtain ⟨rl, hrl⟩ : ∃ r, r = (R k).length := ⟨_, rfl⟩
  rw [← hrl] at hp hrb h3
  have p1 : ((w.alloc (.cells #[.slice ta tn tc, .slice na nn nc, .slice la ln lc, .int .i64 st, .slice (some ⟨bp, op, none⟩) n pc] 27)).alloc (.cells #[.int .i64 (k : Int), .int .i64 (j : Int)] 69)).cell? ⟨bp, op + k * 3 + 1, none⟩ = some (.slice (ra k) rl (rc k)) := HG0.out.cell hp (by simp)
  by_cases he : j = rl
  · have hd : ((j : Int) == (rl : Int)) = true := beq_iff_eq.2 (by omega)
    have hd2 : (j == rl) = true := beq_iff_eq.2 he
    have HR : Hid (aheadV R ((k : Int), (j : Int)) = -1) := by
      show _ = _
      unfold aheadV
      rw [if_pos (by simp only [Int.toNat_natCast]; rw [← hrl]; omega)]
    clear hP hp hI hrl he h3
    go_enter Tryz.func78, Tryz.ntmps78
    go_wp2_with fail
    go_ret
    exact ⟨by rw [HR.out]; rfl, HG0.out⟩
  · have hjl : j < rl := by omega
    have hd : ((j : Int) == (rl : Int)) = false := beq_eq_false_iff_ne.2 (by omega)
    have hd2 : (j == rl) = false := beq_eq_false_iff_ne.2 he
    have hj0 : (0 : Int) ≤ (j : Int) := by omega
    have hj1 : (j : Int) < (rl : Int) := by omega
    obtain ⟨rb, ro, hrk, hc⟩ : ∃ rb ro, ra k = some ⟨rb, ro, none⟩ ∧ w.cell? ⟨rb, ro + j, none⟩ = some (.int .i64 ((R k).getD j 0)) := by
      rcases hI with h | ⟨b, off, e, h⟩
      · rw [hrl, h] at hjl; cases hjl
      · exact ⟨b, off, e, h j (by rw [← hrl]; exact hjl)⟩
    rw [hrk] at p1
    have c1 : ((w.alloc (.cells #[.slice ta tn tc, .slice na nn nc, .slice la ln lc, .int .i64 st, .slice (some ⟨bp, op, none⟩) n pc] 27)).alloc (.cells #[.int .i64 (k : Int), .int .i64 (j : Int)] 69)).cell? ⟨rb, ro + j, none⟩ = some (.int .i64 ((R k).getD j 0)) := HG0.out.cell hc (by simp)
    have HR : Hid (aheadV R ((k : Int), (j : Int)) = (R k).getD j 0) := by
      show _ = _
      unfold aheadV
      rw [if_neg (by simp only [Int.toNat_natCast]; rw [← hrl]; omega)]
      simp only [Int.toNat_natCast]
    obtain ⟨z, hz⟩ : ∃ z, z = (R k).getD j 0 := ⟨_, rfl⟩
    rw [← hz] at c1 HR
    clear hP hp hI hrl he hc hz hrk h3
    go_enter Tryz.func78, Tryz.ntmps78
    go_wp2_with fail
    go_ret
    exact ⟨by rw [HR.out]; rfl, HG0.out⟩
end

end Go.Proofs.YthoamlahbnphkaaGreat.J

/-
  lr0: items compared.
-/
namespace Go.Proofs.YthoamlahbnphkaaGreat.J
open Go.RowKit Go.Maps Go.Shelf

attribute [local go_sem] Oper.semAt_some

theorem calls_at {P : Program} {f : Nat} {args : Array Value} {w : World} {Q : Ending → World → Prop} (W : World) (h : w = W) (hc : Calls P f args W Q) : Calls P f args w Q := by rw [h]; exact hc

/-- How two numbers compare. -/
def cmpN (x y : Int) : Int := if x < y then -1 else if y < x then 1 else 0
/-- How two items compare: by Prod, then by Dot. -/
def cmpI (x y : It) : Int := if cmpN x.1 y.1 = 0 then cmpN x.2 y.2 else cmpN x.1 y.1

theorem isNaN_any (x : Int) (w : World) : Calls Tryz.prog 149 #[.int .i64 x] w fun e y => e = .returned (.bool false) ∧ y = w := by
  have hx : (x != x) = false := bne_self_eq_false _
  go_enter Tryz.func149, Tryz.ntmps149
  go_wp2_with fail
  go_ret
  exact ⟨rfl, rfl⟩

set_option maxRecDepth 100000 in
theorem compare_any (x y : Int) (w : World) : Calls Tryz.prog 118 #[.int .i64 x, .int .i64 y] w fun e w' => e = .returned (.int .i64 (cmpN x y)) ∧ w' = w := by
  have HN : Hid (∀ z, Calls Tryz.prog 149 #[.int .i64 z] w fun e y => e = .returned (.bool false) ∧ y = w) := fun z => isNaN_any z w
  by_cases h1 : x < y
  · have d1 : decide (x < y) = true := decide_eq_true h1
    have HR : Hid (cmpN x y = -1) := by show _ = _; unfold cmpN; rw [if_pos h1]
    go_enter Tryz.func118, Tryz.ntmps118
    go_wp2_with (first | (go_at_call 149; refine Calls.mono (HN.out _) ?_; rintro e w' ⟨rfl, rfl⟩) | fail)
    go_ret
    exact ⟨by rw [HR.out]; rfl, rfl⟩
  · have d1 : decide (x < y) = false := decide_eq_false h1
    by_cases h2 : y < x
    · have d2 : decide (y < x) = true := decide_eq_true h2
      have HR : Hid (cmpN x y = 1) := by show _ = _; unfold cmpN; rw [if_neg h1, if_pos h2]
      go_enter Tryz.func118, Tryz.ntmps118
      go_wp2_with (first | (go_at_call 149; refine Calls.mono (HN.out _) ?_; rintro e w' ⟨rfl, rfl⟩) | fail)
      go_ret
      exact ⟨by rw [HR.out]; rfl, rfl⟩
    · have d2 : decide (y < x) = false := decide_eq_false h2
      have HR : Hid (cmpN x y = 0) := by show _ = _; unfold cmpN; rw [if_neg h1, if_neg h2]
      go_enter Tryz.func118, Tryz.ntmps118
      go_wp2_with (first | (go_at_call 149; refine Calls.mono (HN.out _) ?_; rintro e w' ⟨rfl, rfl⟩) | fail)
      go_ret
      exact ⟨by rw [HR.out]; rfl, rfl⟩

set_option maxRecDepth 100000 in
theorem or_any (x y r : Int) (hr : r = if x = 0 then y else x) (b : Nat) (w : World) (h0 : w.cell? ⟨b, 0, none⟩ = some (.int .i64 x)) (h1 : w.cell? ⟨b, 1, none⟩ = some (.int .i64 y)) : Calls Tryz.prog 117 #[.slice (some ⟨b, 0, none⟩) 2 2] w fun e w' => e = .returned (.int .i64 r) ∧ w' = w := by
  have HRR : Hid (r = if x = 0 then y else x) := hr
  clear hr
  have H1 : Hid (w.cell? ⟨b, 0, none⟩ = some (.int .i64 x) ∧ w.cell? ⟨b, 1, none⟩ = some (.int .i64 y)) := ⟨h0, h1⟩
  clear h0 h1
  go_enter Tryz.func117, Tryz.ntmps117
  go_wp2_with fail
  go_loopg [8] 2 (fun gk v8 wr => ∃ j : Nat, j ≤ 2 ∧ gk = 2 - j ∧ v8 = .int .i64 j ∧ wr = w ∧ (0 < j → x = 0) ∧ (1 < j → y = 0))
  case atStart => exact ⟨0, by decide, rfl, rfl, rfl, fun h => absurd h (by decide), fun h => absurd h (by decide)⟩
  case round =>
    obtain ⟨j, hj, hgj, rfl, rfl, hx, hy⟩ := hrel
    have HX : Hid ((0 < j → x = 0) ∧ (1 < j → y = 0)) := ⟨hx, hy⟩
    have HGJ : Hid (gk = 2 - j) := hgj
    clear hx hy hgj
    obtain ⟨c0, c1⟩ := H1.out
    have hj3 : j = 0 ∨ j = 1 ∨ j = 2 := by omega
    rcases hj3 with rfl | rfl | rfl
    · by_cases e : x = 0
      · have d : (x != 0) = false := by rw [e]; rfl
        have HE : Hid (x = 0) := e
        clear e
        go_wp2_with fail
        go_roundg 1
        case measure => have := HGJ.out; omega
        case rel => exact ⟨1, by decide, rfl, rfl, rfl, fun _ => HE.out, fun h => absurd h (by decide)⟩
      · have d : (x != 0) = true := bne_iff_ne.2 e
        have HE : Hid (r = x) := HRR.out.trans (if_neg e)
        clear e
        go_wp2_with fail
        go_ret
        exact ⟨by rw [HE.out]; rfl, rfl⟩
    · have hx0 := HX.out.1 (by decide)
      by_cases e : y = 0
      · have d : (y != 0) = false := by rw [e]; rfl
        have HE : Hid (y = 0 ∧ x = 0) := ⟨e, hx0⟩
        clear e hx0
        go_wp2_with fail
        go_roundg 0
        case measure => have := HGJ.out; omega
        case rel => exact ⟨2, by decide, rfl, rfl, rfl, fun _ => HE.out.2, fun _ => HE.out.1⟩
      · have d : (y != 0) = true := bne_iff_ne.2 e
        have HE : Hid (r = y) := HRR.out.trans (if_pos hx0)
        clear e hx0
        go_wp2_with fail
        go_ret
        exact ⟨by rw [HE.out]; rfl, rfl⟩
    · have HE : Hid (r = 0) := HRR.out.trans (by rw [if_pos (HX.out.1 (by decide)), HX.out.2 (by decide)])
      go_wp2_with fail
      go_ret
      exact ⟨by rw [HE.out]; rfl, rfl⟩

set_option maxRecDepth 100000 in
set_option maxHeartbeats 1000000 in
theorem inOrder_any (x y : It) (w : World) : Calls Tryz.prog 81 #[.agg #[.int .i64 x.1, .int .i64 x.2], .agg #[.int .i64 y.1, .int .i64 y.2]] w fun e w' => e = .returned (.int .i64 (cmpI x y)) ∧ ∃ q os, w' = Go.Sort.grow (w.drewN q) os := by
  obtain ⟨p, d⟩ := x
  obtain ⟨p', d'⟩ := y
  simp only
  have HC : Hid (∀ a b X, Calls Tryz.prog 118 #[.int .i64 a, .int .i64 b] X fun e w' => e = .returned (.int .i64 (cmpN a b)) ∧ w' = X) := fun a b X => compare_any a b X
  obtain ⟨r, hr⟩ : ∃ r, r = cmpI (p, d) (p', d') := ⟨_, rfl⟩
  have HR : Hid (r = if cmpN p p' = 0 then cmpN d d' else cmpN p p') := hr
  rw [← hr]
  clear hr
  obtain ⟨c1, hc1⟩ : ∃ c, c = cmpN p p' := ⟨_, rfl⟩
  obtain ⟨c2, hc2⟩ : ∃ c, c = cmpN d d' := ⟨_, rfl⟩
  have HC1 : Hid (∀ X, Calls Tryz.prog 118 #[.int .i64 p, .int .i64 p'] X fun e w' => e = .returned (.int .i64 c1) ∧ w' = X) := fun X => by rw [hc1]; exact HC.out p p' X
  have HC2 : Hid (∀ X, Calls Tryz.prog 118 #[.int .i64 d, .int .i64 d'] X fun e w' => e = .returned (.int .i64 c2) ∧ w' = X) := fun X => by rw [hc2]; exact HC.out d d' X
  have HR2 : Hid (r = if c1 = 0 then c2 else c1) := by show _ = _; rw [HR.out, hc1, hc2]
  clear HC HR hc1 hc2
  obtain ⟨X, hX⟩ : ∃ X, X = (w.alloc (.cells #[.int .i64 p, .int .i64 d] 69)).alloc (.cells #[.int .i64 p', .int .i64 d'] 69) := ⟨_, rfl⟩
  have HXE : Hid (X = (w.alloc (.cells #[.int .i64 p, .int .i64 d] 69)).alloc (.cells #[.int .i64 p', .int .i64 d'] 69)) := hX
  have hb1 : X.heap[w.heap.size]? = some (.cells #[.int .i64 p, .int .i64 d] 69 (0, 0)) := by
    rw [hX]
    exact ((World.grownBy_alloc _ _ none).block w.heap.size (by simp) (by simp)).trans (heap_alloc_last w _)
  have hb2 : X.heap[w.heap.size + 1]? = some (.cells #[.int .i64 p', .int .i64 d'] 69 (0, 0)) := by
    rw [hX]
    have := heap_alloc_last (w.alloc (.cells #[.int .i64 p, .int .i64 d] 69)) (.cells #[.int .i64 p', .int .i64 d'] 69)
    rwa [World.size_alloc] at this
  have HK : Hid (∀ Y, X.grownBy Y none → (Y.cell? ⟨w.heap.size, 0, none⟩ = some (.int .i64 p) ∧ Y.cell? ⟨w.heap.size, 1, none⟩ = some (.int .i64 d)) ∧ Y.cell? ⟨w.heap.size + 1, 0, none⟩ = some (.int .i64 p') ∧ Y.cell? ⟨w.heap.size + 1, 1, none⟩ = some (.int .i64 d')) := fun Y hY => by
    have h1 := (hY.block _ (Array.getElem?_eq_some_iff.1 hb1).1 (by simp)).trans hb1
    have h2 := (hY.block _ (Array.getElem?_eq_some_iff.1 hb2).1 (by simp)).trans hb2
    refine ⟨⟨?_, ?_⟩, ?_, ?_⟩
    · rw [cell_of_row _ _ _ _ _ _ h1]; rfl
    · rw [cell_of_row _ _ _ _ _ _ h1]; rfl
    · rw [cell_of_row _ _ _ _ _ _ h2]; rfl
    · rw [cell_of_row _ _ _ _ _ _ h2]; rfl
  have HD : Hid (X.grownBy X.drew none) := grown_drewN X 1
  have HO : Hid (Calls Tryz.prog 117 #[.slice (some ⟨X.heap.size, 0, none⟩) 2 2] ((X.alloc (.cells #[.int .i64 c1, .int .i64 c2] 3)).drew) fun e w' => e = .returned (.int .i64 r) ∧ w' = (X.alloc (.cells #[.int .i64 c1, .int .i64 c2] 3)).drew) := by
    have hb : ((X.alloc (.cells #[.int .i64 c1, .int .i64 c2] 3)).drew).heap[X.heap.size]? = some (.cells #[.int .i64 c1, .int .i64 c2] 3 (0, 0)) := heap_alloc_last X _
    exact or_any c1 c2 r HR2.out X.heap.size _ (by rw [cell_of_row _ _ _ _ _ _ hb]; rfl) (by rw [cell_of_row _ _ _ _ _ _ hb]; rfl)
  have HA : Hid (X.grownBy (X.alloc (.cells #[.int .i64 c1, .int .i64 c2] 3)).drew none) := grown_trans (World.grownBy_alloc _ _ none) (grown_drewN _ 1)
  clear hX hb1 hb2
  go_enter Tryz.func81, Tryz.ntmps81
  go_wp2_with fail
  rw [← HXE.out]
  go_region_held3 (fun Y => (Y.cell? ⟨w.heap.size, 0, none⟩ = some (.int .i64 p) ∧ Y.cell? ⟨w.heap.size, 1, none⟩ = some (.int .i64 d)) ∧ Y.cell? ⟨w.heap.size + 1, 0, none⟩ = some (.int .i64 p') ∧ Y.cell? ⟨w.heap.size + 1, 1, none⟩ = some (.int .i64 d')) (first | exact HK.out _ HD.out | exact HK.out _ HA.out | go_keep)
    ((first
      | (go_at_call_of 118 p; refine Calls.mono (HC1.out _) ?_; rintro e w' ⟨rfl, rfl⟩)
      | (go_at_call_of 118 d; refine Calls.mono (HC2.out _) ?_; rintro e w' ⟨rfl, rfl⟩)
      | (go_at_call 117; refine calls_at ((X.alloc (.cells #[.int .i64 c1, .int .i64 c2] 3)).drew) (by with_reducible rfl) ?_; refine Calls.mono HO.out ?_; rintro e w' ⟨rfl, rfl⟩)
      | fail))
  all_goals go_wp2_with fail
  all_goals go_ret
  all_goals exact ⟨rfl, 1, _, by rw [HXE.out, Go.Sort.alloc_eq_grow, Go.Sort.alloc_eq_grow, Go.Sort.alloc_eq_grow, Go.Sort.grow_grow, Go.Sort.grow_grow]; rfl⟩

end Go.Proofs.YthoamlahbnphkaaGreat.J
