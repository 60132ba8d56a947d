import Derived.Test.YtjijagnpcmonbaaDoorQimbahkjdoimb
import Derived.Deep.RegionHeld3
import Derived.BigQuiet
import Derived.Test.YtjijagnpcmonbaaDoorQjhnfoklclfbd
import Derived.Test.YtjijagnpcmonbaaDoorQclllccldmchf
import Derived.Test.YtjijagnpcmonbaaDoorQboobcegjoggh
import Derived.Deep.RegionLaw
import Derived.Deep.DrawnRows
import Derived.Test.YtjijagnpcmonbaaDoorQdogogoehhlbo
import Derived.Test.YtjijagnpcmonbaaDoorQnnkknoimmiin

/-
  digraph: the law's reach: a worklist, pure; rows of marks, in memory.
-/
namespace Go.Proofs.YtjijagnpcmonbaaDoor.J
open Go.RowKit Go.Maps Go.Shelf D

/-- A worklist from node i: what is marked, what is still to be gone on from; node n is under way, k of its steps are done. -/
structure RcP (N : Nat) (E : Nat → List Nat) (i : Nat) (V : Nat → Bool) (W : List Nat) (U : List (Nat × Nat)) : Prop where
  beg : V i = true
  snd : ∀ x, V x = true → x < N ∧ Rch E i x
  nd : W.Nodup
  wrk : ∀ x ∈ W, V x = true
  und : ∀ u ∈ U, V u.1 = true ∧ ∀ y ∈ (E u.1).take u.2, V y = true
  fin : ∀ x, V x = true → x ∈ W ∨ x ∈ U.map Prod.fst ∨ ∀ y ∈ E x, V y = true
theorem RcP.start {N : Nat} {E : Nat → List Nat} {i : Nat} (hi : i < N) : RcP N E i (markT (fun _ => false) i) [i] [] := by
  have key : ∀ x, markT (fun _ => false) i x = true → x = i := fun x h => by
    unfold markT at h
    by_cases e : x = i
    · exact e
    · simp [e] at h
  refine ⟨by simp [markT], fun x h => ?_, List.pairwise_singleton _ _, fun x h => ?_, fun u h => (by cases h), fun x h => .inl ?_⟩
  · rw [key x h]; exact ⟨hi, .refl _⟩
  · rw [List.mem_singleton.1 h]; simp [markT]
  · rw [key x h]; exact List.mem_singleton.2 rfl
section
variable {N : Nat} {E : Nat → List Nat} {i : Nat} {V : Nat → Bool} {W : List Nat}
theorem RcP.pop {n : Nat} (h : RcP N E i V (W ++ [n]) []) : RcP N E i V W [(n, 0)] := by
  refine ⟨h.beg, h.snd, (List.nodup_append.1 h.nd).1, fun x hx => h.wrk x (List.mem_append_left _ hx), fun u hu => ?_, fun x hx => ?_⟩
  · rw [List.mem_singleton.1 hu]
    exact ⟨h.wrk n (List.mem_append_right _ (List.mem_singleton.2 rfl)), fun y hy => by simp at hy⟩
  · rcases h.fin x hx with h1 | h1 | h1
    · rcases List.mem_append.1 h1 with h2 | h2
      · exact .inl h2
      · exact .inr (.inl (by simpa using h2))
    · simp at h1
    · exact .inr (.inr h1)
theorem RcP.skip {n k : Nat} (h : RcP N E i V W [(n, k)]) (hk : k < (E n).length) (hm : V ((E n).getD k 0) = true) : RcP N E i V W [(n, k + 1)] := by
  refine ⟨h.beg, h.snd, h.nd, h.wrk, fun u hu => ?_, fun x hx => by simpa using h.fin x hx⟩
  rw [List.mem_singleton.1 hu]
  obtain ⟨h1, h2⟩ := h.und _ (List.mem_singleton.2 rfl)
  refine ⟨h1, fun y hy => ?_⟩
  rw [List.take_succ_eq_append_getElem hk] at hy
  rcases List.mem_append.1 hy with h3 | h3
  · exact h2 y h3
  · rw [List.mem_singleton.1 h3]
    rwa [List.getD_eq_getElem?_getD, List.getElem?_eq_getElem hk] at hm
theorem RcP.push {n k : Nat} (h : RcP N E i V W [(n, k)]) (hk : k < (E n).length) (hm : V ((E n).getD k 0) = false) (hN : (E n).getD k 0 < N) : RcP N E i (markT V ((E n).getD k 0)) (W ++ [(E n).getD k 0]) [(n, k + 1)] := by
  have hmem : (E n).getD k 0 ∈ E n := by rw [List.getD_eq_getElem?_getD, List.getElem?_eq_getElem hk]; exact List.getElem_mem hk
  have e3 : (E n)[k] = (E n).getD k 0 := by rw [List.getD_eq_getElem?_getD, List.getElem?_eq_getElem hk]; rfl
  obtain ⟨t, ht⟩ : ∃ t, t = (E n).getD k 0 := ⟨_, rfl⟩
  rw [← ht] at hm hN hmem e3 ⊢
  have up : ∀ x, V x = true → markT V t x = true := fun x hx => by unfold markT; split <;> simp [hx]
  have self : markT V t t = true := by simp [markT]
  obtain ⟨h1, h2⟩ := h.und _ (List.mem_singleton.2 rfl)
  refine ⟨up _ h.beg, fun x hx => ?_, ?_, fun x hx => ?_, fun u hu => ?_, fun x hx => ?_⟩
  · unfold markT at hx
    by_cases e : x = t
    · rw [e]; exact ⟨hN, (h.snd n h1).2.trans (.one hmem)⟩
    · rw [if_neg e] at hx; exact h.snd x hx
  · refine List.nodup_append.2 ⟨h.nd, List.pairwise_singleton _ _, fun a ha b hb e => ?_⟩
    have := h.wrk a ha
    rw [e, List.mem_singleton.1 hb, hm] at this
    cases this
  · rcases List.mem_append.1 hx with h3 | h3
    · exact up _ (h.wrk x h3)
    · rw [List.mem_singleton.1 h3]; exact self
  · rw [List.mem_singleton.1 hu]
    refine ⟨up _ h1, fun y hy => ?_⟩
    rw [List.take_succ_eq_append_getElem hk] at hy
    rcases List.mem_append.1 hy with h3 | h3
    · exact up _ (h2 y h3)
    · rw [List.mem_singleton.1 h3, e3]; exact self
  · by_cases e : x = t
    · exact .inl (List.mem_append_right _ (List.mem_singleton.2 e))
    · unfold markT at hx
      rw [if_neg e] at hx
      rcases h.fin x hx with h3 | h3 | h3
      · exact .inl (List.mem_append_left _ h3)
      · exact .inr (.inl (by simpa using h3))
      · exact .inr (.inr fun y hy => up _ (h3 y hy))
theorem RcP.next {n k : Nat} (h : RcP N E i V W [(n, k)]) (hk : (E n).length ≤ k) : RcP N E i V W [] := by
  obtain ⟨_, h2⟩ := h.und _ (List.mem_singleton.2 rfl)
  have e : (E n).take k = E n := List.take_of_length_le hk
  simp only at h2
  rw [e] at h2
  refine ⟨h.beg, h.snd, h.nd, h.wrk, fun u hu => (by cases hu), fun x hx => ?_⟩
  rcases h.fin x hx with h3 | h3 | h3
  · exact .inl h3
  · have e2 : x = n := by simpa using h3
    rw [e2]; exact .inr (.inr h2)
  · exact .inr (.inr h3)
theorem RcP.done (h : RcP N E i V [] []) (x : Nat) : V x = true ↔ Rch E i x := by
  refine ⟨fun hx => (h.snd x hx).2, fun hx => ?_⟩
  have key : ∀ a b, Rch E a b → V a = true → V b = true := fun a b hab => by
    induction hab with
    | refl _ => exact id
    | step h1 _ ih =>
      intro ha
      rcases h.fin _ ha with h3 | h3 | h3
      · cases h3
      · simp at h3
      · exact ih (h3 _ h1)
  exact key i x hx h.beg
theorem RcP.len {U : List (Nat × Nat)} (h : RcP N E i V W U) : W.length ≤ N := nodup_len N W h.nd fun x hx => (h.snd x (h.wrk x hx)).1
end

/-- Rows of marks: the first k are there. -/
structure RhP (X : World) (B rb N : Nat) (g : Nat → Nat) (R : Nat → Nat → Bool) (k : Nat) : Prop where
  row : ValAt X rb N 60 (fun i => if i < k then .slice (some ⟨g i, 0, none⟩) N N else .slice none 0 0)
  inn : ∀ i, i < k → ValAt X (g i) N 4 (fun j => .bool (R i j))
  inj : ∀ i j, i < k → j < k → i ≠ j → g i ≠ g j
  lo : B ≤ rb ∧ ∀ i, i < k → B ≤ g i
theorem valAt_ne {X : World} {a b n m : Nat} {t u : TypeId} {c d : Nat → Value} (h : ValAt X a n t c) (k : ValAt X b m u d) (hne : t ≠ u) : a ≠ b := ne_type h k hne
section
variable {X Y : World} {B rb N k : Nat} {g : Nat → Nat} {R : Nat → Nat → Bool}
theorem RhP.kept (h : RhP X B rb N g R k) (hg : X.grownBy Y none) : RhP Y B rb N g R k := ⟨h.row.kept hg, fun i hi => (h.inn i hi).kept hg, h.inj, h.lo⟩
theorem RhP.other {b n : Nat} {e : TypeId} {c : Nat → Value} (h : RhP X B rb N g R k) (hb : ValAt X b n e c) (he : e ≠ 60 ∧ e ≠ 4) (hg : X.grownBy Y (some b)) : RhP Y B rb N g R k :=
  ⟨h.row.at hg (valAt_ne h.row hb fun h => he.1 h.symm), fun i hi => (h.inn i hi).at hg (valAt_ne (h.inn i hi) hb fun h => he.2 h.symm), h.inj, h.lo⟩
theorem RhP.own {B' n : Nat} {v : Value} {xs : List Value} (h : RhP X B rb N g R k) (ho : X.ownsRow B' 3 1 v n xs) (hg : X.grownBy Y v.ownBlock) : RhP Y B rb N g R k :=
  ⟨box_row h.row ho (by decide) hg, fun i hi => box_row (h.inn i hi) ho (by decide) hg, h.inj, h.lo⟩
/-- A row more, with no marks. -/
theorem RhP.put {gb : Nat} (h : RhP X B rb N g R k) (hg : X.grownBy Y none) (hn : ValAt Y gb N 4 (fun _ => .bool false)) (hgb : X.heap.size ≤ gb) (hB : B ≤ X.heap.size) : RhP (Y.setCell ⟨rb, k, none⟩ (.slice (some ⟨gb, 0, none⟩) N N)) B rb N (upd g k gb) (updC R k (fun _ => false)) (k + 1) := by
  have hY := h.kept hg
  have hs : Y.grownBy (Y.setCell ⟨rb, k, none⟩ (.slice (some ⟨gb, 0, none⟩) N N)) (some rb) := grown_setCell _ _ _
  refine ⟨(hY.row.set k _).ext fun i _ => ?_, fun i hi => ?_, fun i j hi hj hne => ?_, h.lo.1, fun i hi => ?_⟩
  · unfold J.put
    by_cases e : i = k
    · subst e
      rw [if_pos rfl, if_pos (by omega), upd_same]
    · rw [if_neg e, upd_other _ _ e]
      show (if i < k then Value.slice (some ⟨g i, 0, none⟩) N N else .slice none 0 0) = _
      by_cases e2 : i < k
      · rw [if_pos e2, if_pos (by omega)]
      · rw [if_neg e2, if_neg (by omega)]
  · by_cases e : i = k
    · subst e
      rw [upd_same, updC_same]
      exact hn.at hs (valAt_ne hn hY.row (by decide))
    · rw [upd_other _ _ e, updC_other _ _ e]
      have h1 := hY.inn i (by omega)
      exact h1.at hs (valAt_ne h1 hY.row (by decide))
  · by_cases e : i = k
    · subst e
      have e2 : j ≠ i := fun h => hne h.symm
      rw [upd_same, upd_other _ _ e2]
      have h1 := (h.inn j (by omega)).lt
      omega
    · by_cases e2 : j = k
      · subst e2
        rw [upd_same, upd_other _ _ e]
        have h1 := (h.inn i (by omega)).lt
        omega
      · rw [upd_other _ _ e, upd_other _ _ e2]
        exact h.inj i j (by omega) (by omega) hne
  · by_cases e : i = k
    · subst e; rw [upd_same]; omega
    · rw [upd_other _ _ e]; exact h.lo.2 i (by omega)
theorem RhP.ext {R' : Nat → Nat → Bool} (h : RhP X B rb N g R k) (e : ∀ i, i < k → ∀ j, j < N → R i j = R' i j) : RhP X B rb N g R' k :=
  ⟨h.row, fun i hi => (h.inn i hi).ext fun j hj => by rw [e i hi j hj], h.inj, h.lo⟩
end

/-- What reach tells. -/
def RchTold (w : World) (N : Nat) (E : Nat → List Nat) (e : Ending) (y : World) : Prop := ∃ rb g R, e = .returned (.slice (some ⟨rb, 0, none⟩) N N) ∧ RhP y w.heap.size rb N g R N ∧ (∀ i, i < N → ∀ j, R i j = true ↔ Rch E i j) ∧ w.grownBy y none

end Go.Proofs.YtjijagnpcmonbaaDoor.J

/-
  digraph: the law's reach.
-/
namespace Go.Proofs.YtjijagnpcmonbaaDoor.J
open Go.RowKit Go.Maps Go.Shelf D

attribute [local go_sem] Oper.semAt_some

end Go.Proofs.YtjijagnpcmonbaaDoor.J

/-
  digraph: what DigraphLeast asks, pure, and of the document's sets.
-/
namespace Go.Proofs.YtjijagnpcmonbaaDoor.J
open Go.RowKit Go.Maps Go.Shelf D

/-- What the first k nodes have of those to which a way leads. -/
def accM (O : Nat → List Nat) (R : Nat → Bool) : Nat → Nat
  | 0 => 0
  | k + 1 => if R k = true then (B.addS 1024 (accM O R k) (intL (O k))).1 else accM O R k
theorem mask_ext {a b : Nat} (ha : a < 2 ^ 1024) (hb : b < 2 ^ 1024) (h : ∀ i, i < 1024 → (a.testBit i = true ↔ b.testBit i = true)) : a = b := by
  apply Nat.eq_of_testBit_eq
  intro i
  by_cases hi : i < 1024
  · have := h i hi
    cases h1 : a.testBit i with
    | true => rw [this.1 h1]
    | false =>
      cases h2 : b.testBit i with
      | true => rw [this.2 h2] at h1; cases h1
      | false => rfl
  · rw [bit_above ha hi, bit_above hb hi]

section
variable {n : Nat} {E : Nat → List Nat} {O : Nat → List Nat} {mk : Nat → Nat}
end
theorem radd_all (br bi m cap : Nat) (a : Option Addr) (l : List Int) (w : World) (hr : B.RefAt w br bi 1024 m) (hI : IntsAt w a l) (hne : l ≠ [] → ∀ rb ro, a = some ⟨rb, ro, none⟩ → rb ≠ bi) (hlen : l.length ≤ 17592186044416) :
    Calls Tryd.prog 27 #[.pointer (some ⟨br, 0, none⟩), .slice a l.length cap] w fun e w' => (∃ z, e = .returned (.int .i64 z)) ∧ B.RefAt w' br bi 1024 (B.addS 1024 m l).1 ∧ w.grownBy w' (some bi) := by
  by_cases hl : l = []
  · subst hl
    refine (B.radd_none br a cap w).mono ?_
    rintro e w' ⟨rfl, rfl⟩
    exact ⟨⟨_, rfl⟩, hr, grown_refl _ _⟩
  · obtain ⟨rb, ro, rfl, h⟩ := hI.resolve_left hl
    refine (B.radd_row br bi 1024 m rb ro cap l w hr (hne hl rb ro rfl) (by omega) h).mono ?_
    rintro e w' ⟨rfl, h1, h2⟩
    exact ⟨⟨_, rfl⟩, h1, but_grown h2⟩
theorem rof_all (a : Option Addr) (cap : Nat) (l : List Int) (w : World) (hI : IntsAt w a l) (hlen : l.length ≤ 17592186044416) :
    Calls Tryd.prog 26 #[.int .i64 1024, .slice a l.length cap] w fun e w' => ∃ br, e = .returned (.pointer (some ⟨br, 0, none⟩)) ∧ w.heap.size < br ∧ B.RefAt w' br w.heap.size 1024 (B.addS 1024 0 l).1 ∧ w.grownBy w' none := by
  have e1 : B.clampN 1024 = 1024 := by unfold B.clampN; omega
  refine (B.refOf_any 1024 a cap l w hI (by omega)).mono ?_
  rintro e w' ⟨br, rfl, h1, h2, h3⟩
  rw [e1] at h2
  exact ⟨br, rfl, h1, h2, below_grown h3⟩
/-- Rows of marks stay where a block below them turns. -/
theorem RhP.below {X Y : World} {B rb N k b : Nat} {g : Nat → Nat} {R : Nat → Nat → Bool} (h : RhP X B rb N g R k) (hg : X.grownBy Y (some b)) (hb : b < B) : RhP Y B rb N g R k :=
  ⟨h.row.at hg (by have := h.lo.1; omega), fun i hi => (h.inn i hi).at hg (by have := h.lo.2 i hi; omega), h.inj, h.lo⟩
/-- .. where a row that lies below them turns. -/
theorem RhP.low {X Y : World} {B rb N k : Nat} {g : Nat → Nat} {R : Nat → Nat → Bool} {v : Value} (h : RhP X B rb N g R k) (hg : X.grownBy Y v.ownBlock) (hl : ∀ b, v.ownBlock = some b → b < B) : RhP Y B rb N g R k := by
  cases hv : v.ownBlock with
  | none => rw [hv] at hg; exact h.kept hg
  | some b => rw [hv] at hg; exact h.below hg (hl b hv)
theorem CqP.low {X Y : World} {B : Nat} {ka : Option Addr} {kc K : Nat} {Q : Nat → List Nat} {ua : Nat → Option Addr} {uc : Nat → Nat} {v : Value} (h : CqP X B ka kc K Q ua uc) (hg : X.grownBy Y v.ownBlock) (hl : ∀ b, v.ownBlock = some b → b < B) : CqP Y B ka kc K Q ua uc := by
  cases hv : v.ownBlock with
  | none => rw [hv] at hg; exact h.kept hg
  | some b => rw [hv] at hg; exact h.below hg (hl b hv)

end Go.Proofs.YtjijagnpcmonbaaDoor.J

/-
  digraph: the law's lent, of lists wherever they lie.
-/
namespace Go.Proofs.YtjijagnpcmonbaaDoor.J
open Go.RowKit Go.Maps Go.Shelf D

attribute [local go_sem] Oper.semAt_some

set_option maxRecDepth 100000 in
set_option maxHeartbeats 2000000 in
theorem dlent_w (w : World) (N : Nat) (la : Option Addr) (lc : Nat) (Q : Nat → List Int) (va : Nat → Option Addr) (vc : Nat → Nat) (hL : LwAt w la N Q va vc) (hnil : ∀ i, i < N → va i = none → (Q i).length = 0 ∧ vc i = 0) (hN : N ≤ 5864062014805) (hQ : ∀ i, i < N → (Q i).length ≤ 17592186044416) :
    Calls Tryd.prog 5 #[.slice la N lc] w fun e y => LentTold w N Q e y := by
  have HL := show Hid _ from hL
  have HNIL : Hid (∀ i, i < N → va i = none → (Q i).length = 0 ∧ vc i = 0) := hnil
  have HQ : Hid (∀ i, i < N → (Q i).length ≤ 17592186044416) := hQ
  obtain ⟨i0, hi0, hz0, hz1, hz2⟩ := info_parts infoInt
  obtain ⟨i1, hi1, hy0, hy1, hy2⟩ := info_parts infoRowsS
  clear hL hnil hQ
  go_enter Tryd.func5, Tryd.ntmps5
  go_wp2_with fail
  go_loopg [3, 4] N (fun gk v3 v4 wr => ∃ (k : Nat) (ka : Option Addr) (kc : Nat) (ua : Nat → Option Addr) (uc : Nat → Nat), k ≤ N ∧ gk = N - k ∧ v3 = .slice ka k kc ∧ v4 = .int .i64 k ∧ LtP wr w.heap.size ka kc k Q ua uc ∧ w.grownBy wr none)
  case atStart => exact ⟨0, none, 0, fun _ => none, fun _ => 0, Nat.zero_le _, rfl, rfl, rfl, ⟨World.ownsRow_nil _ _ _ _, fun j h => absurd h (Nat.not_lt_zero _)⟩, grown_refl _ _⟩
  case round =>
    obtain ⟨k, ka, kc, ua, uc, hk, hgk, rfl, rfl, hP, hg⟩ := hrel
    have HGK : Hid (gk = N - k) := hgk
    have HP := show Hid _ from hP
    have HG := show Hid _ from hg
    clear hgk hP hg
    by_cases hlt : k < N
    · have hkd : decide (k < N) = true := decide_eq_true hlt
      have hk0 : (0 : Int) ≤ (k : Int) := by omega
      have hk1 : (k : Int) < (N : Int) := by omega
      obtain ⟨lb, lo, rfl, c0⟩ : ∃ lb lo, la = some ⟨lb, lo, none⟩ ∧ w.cell? ⟨lb, lo + k, none⟩ = some (.slice (va k) (Q k).length (vc k)) := by
        rcases HL.out.1 with h | ⟨lb, lo, e, h⟩
        · omega
        · exact ⟨lb, lo, e, h k hlt⟩
      have c1 := HG.out.cell c0 (by simp)
      obtain ⟨a1, ha1⟩ : ∃ v, v = va k := ⟨_, rfl⟩
      obtain ⟨n1, hn1⟩ : ∃ v, v = (Q k).length := ⟨_, rfl⟩
      obtain ⟨cp1, hc1⟩ : ∃ v, v = vc k := ⟨_, rfl⟩
      rw [← ha1, ← hn1, ← hc1] at c1
      have c2 : ∀ o, (wr.alloc o).cell? ⟨lb, lo + k, none⟩ = some (.slice a1 n1 cp1) := fun o => (World.grownBy_alloc wr o none).cell c1 (by simp)
      have HN1 : Hid (n1 = (Q k).length) := hn1
      have hnb : n1 ≤ 17592186044416 := by rw [hn1]; exact HQ.out k hlt
      have HSR : Hid (∀ o, ∀ ad, a1 = some ad → ∀ j u, ((Q k).map (Value.int .i64))[j]? = some u → (wr.alloc o).cell? (ad.add j) = some u) := fun o => ints_src (by
        rw [ha1]
        exact (HL.out.2 k hlt).kept (grown_trans HG.out (World.grownBy_alloc _ _ none)))
      have HNL : Hid (a1 = none → n1 = 0 ∧ cp1 = 0) := by rw [ha1, hn1, hc1]; exact HNIL.out k hlt
      have HE0 : Hid ((wr.alloc (.cells #[] 3)).ownsRow w.heap.size 3 1 (.slice (some ⟨wr.heap.size, 0, none⟩) 0 0) 0 []) := ⟨rfl, .inr ⟨wr.heap.size, 0, #[], rfl, HG.out.size, heap_alloc_last wr _, Nat.le_refl _, Nat.zero_le _, rfl, rfl⟩⟩
      have HLL : Hid (((Q k).map (Value.int .i64)).length = n1 * 1) := by
        show _ = _
        rw [List.length_map, HN1.out, Nat.mul_one]
      have HSZ : Hid (∀ o, w.heap.size ≤ (wr.alloc o).heap.size) := fun o => Nat.le_trans HG.out.size (World.grownBy_alloc wr o none).size
      obtain ⟨xs, hxs⟩ : ∃ xs, xs = (Q k).map (Value.int .i64) := ⟨_, rfl⟩
      have HXS : Hid (xs = (Q k).map (Value.int .i64)) := hxs
      have HON : Hid (∀ u ∈ xs, u.oneCell' = true) := by rw [hxs]; exact ints_one _
      rw [← hxs] at HSR HLL
      clear c0 c1 ha1 hn1 hc1 hxs
      go_wp2_with (at_builtin; first
        | (refine wpList_append_srcW rfl (.tmp 12) (.tmp 16) 28 rfl w.heap.size 3 i0 (.int .i64 0) 1 8 Tryd.underlying28 hi0 hz0 hz1 hz2 rfl (by decide) (.slice (some ⟨wr.heap.size, 0, none⟩) 0 0) 0 [] rfl HE0.out a1 n1 cp1 xs rfl HNL.out HLL.out (HSR.out _) HON.out (by unfold maxLen; omega) (by omega) (HSZ.out _) ?_; intro v6 wA hoA hgA; rw [Nat.zero_add, List.nil_append] at hoA; obtain ⟨a6, c6, rfl⟩ := owns_slice hoA; have HGA : Hid (wr.grownBy wA none) := grown_new (World.grownBy_alloc _ _ none) hgA (Nat.le_refl _); have HRA : Hid (wA.ownsRow w.heap.size 3 1 (.slice a6 n1 c6) n1 xs) := hoA; have HPA := show Hid _ from (HP.out.kept HGA.out).kept (World.grownBy_alloc wA (.cells #[.slice a6 n1 c6] 28) none); have HNW : Hid (∀ j z, [Value.slice a6 n1 c6][j]? = some z → (wA.alloc (.cells #[.slice a6 n1 c6] 28)).cell? ((⟨wA.heap.size, 0, none⟩ : Addr).add j) = some z) := news_new wA _ _; have HS2 : Hid (w.heap.size ≤ (wA.alloc (.cells #[.slice a6 n1 c6] 28)).heap.size) := Nat.le_trans (Nat.le_trans HG.out.size HGA.out.size) (World.grownBy_alloc wA _ none).size; clear hoA hgA c2)
        | (refine wpList_append_srcW rfl (.tmp 11) (.tmp 18) 22 rfl w.heap.size 28 i1 (.slice none 0 0) 1 24 Tryd.underlying22 hi1 hy0 hy1 hy2 rfl (by decide) (.slice ka k kc) k (rowsZ k Q ua uc) rfl HPA.out.out (some ⟨wA.heap.size, 0, none⟩) 1 1 [.slice a6 n1 c6] rfl (fun h => by cases h) rfl (fun ad e => by cases e; exact HNW.out) (by simp [Value.oneCell']) (by unfold maxLen; omega) (by omega) HS2.out ?_; intro v7 wB hoB hgB; obtain ⟨ka7, kc7, rfl⟩ := owns_slice hoB; rw [HN1.out] at hoB; have HPB : Hid (LtP wB w.heap.size ka7 kc7 (k + 1) Q (updC ua k a6) (updC uc k c6)) := HPA.out.push (by rw [← HN1.out, ← HXS.out]; exact HRA.out.alloc _) hgB hoB; have HGB : Hid (w.grownBy wB none) := grown_row (grown_trans (grown_trans HG.out HGA.out) (World.grownBy_alloc _ _ none)) HPA.out.out (Nat.le_refl _) hgB; clear hoB hgB)
        | fail)
      go_roundg (N - (k + 1))
      case measure => have := HGK.out; omega
      case rel => exact ⟨k + 1, ka7, kc7, _, _, by omega, rfl, rfl, by go_num, HPB.out, HGB.out⟩
    · have hkn : N = k := by omega
      subst hkn
      have hkd : decide (N < N) = false := decide_eq_false (by omega)
      go_wp2_with fail
      go_ret
      exact ⟨ka, kc, ua, uc, rfl, HP.out, HG.out⟩

end Go.Proofs.YtjijagnpcmonbaaDoor.J

/-
  digraph: the document's walk.
-/
namespace Go.Proofs.YtjijagnpcmonbaaDoor.J
open Go.RowKit Go.Maps Go.Shelf D

attribute [local go_sem] Oper.semAt_some

theorem hidW {p : Prop} (h : p) : Hid p := h

/-- The three rows of a walk: the stack's nodes, how many of their steps are done, what is done with. -/
def wkQ (st : List (Nat × Nat)) (out : List Nat) : Nat → List Nat
  | 0 => (st.map Prod.fst).reverse
  | 1 => (st.map Prod.snd).reverse
  | _ => out
/-- A walk in memory. -/
structure WkAt (w X : World) (sb N : Nat) (S : Nat → Bool) (st : List (Nat × Nat)) (out : List Nat) (ua : Nat → Option Addr) (uc : Nat → Nat) : Prop where
  row : TrP X w.heap.size 3 (wkQ st out) ua uc
  mrk : ValAt X sb N 4 (fun i => .bool (S i))
  grw : w.grownBy X (some sb)

theorem WkAt.kept {w X Y : World} {sb N : Nat} {S : Nat → Bool} {st : List (Nat × Nat)} {out : List Nat} {ua : Nat → Option Addr} {uc : Nat → Nat} (h : WkAt w X sb N S st out ua uc) (hg : X.grownBy Y none) : WkAt w Y sb N S st out ua uc := ⟨h.row.kept hg, h.mrk.kept hg, grown_keepS h.grw hg⟩

/-- What a walk tells. -/
def WalkTold (w : World) (N : Nat) (E : Nat → List Nat) (frm sb : Nat) (S0 : Nat → Bool) (e : Ending) (y : World) : Prop := ∃ (oa : Option Addr) (oc : Nat) (S : Nat → Bool) (out : List Nat), e = .returned (.slice oa out.length oc) ∧ ((S0 frm = true ∧ out = [] ∧ S = S0) ∨ (S0 frm = false ∧ WdP N E frm S0 S out)) ∧ y.ownsRow w.heap.size 3 1 (.slice oa out.length oc) out.length (natV out) ∧ ValAt y sb N 4 (fun i => .bool (S i)) ∧ w.grownBy y (some sb)

set_option maxRecDepth 100000 in
set_option maxHeartbeats 4000000 in
theorem rwalk_any (w : World) (N : Nat) (ea : Option Addr) (ec : Nat) (E : Nat → List Nat) (eua : Nat → Option Addr) (euc : Nat → Nat) (hL : LwAt w ea N (fun i => intL (E i)) eua euc) (hN : N ≤ 5864062014805) (hEl : ∀ x, x < N → (E x).length ≤ 17592186044416) (hE : ∀ x, x < N → ∀ y ∈ E x, y < N) (sb sc : Nat) (S0 : Nat → Bool) (hS : ValAt w sb N 4 (fun i => .bool (S0 i))) (frm : Nat) (hf : frm < N) :
    Calls Tryd.prog 31 #[.slice ea N ec, .int .i64 (frm : Int), .slice (some ⟨sb, 0, none⟩) N sc] w fun e y => WalkTold w N E frm sb S0 e y := by
  have HLX : Hid (∀ X, w.grownBy X (some sb) → LwAt X ea N (fun i => intL (E i)) eua euc) := fun X hX => hL.marks hS hX
  have HEL : Hid (∀ x, x < N → (E x).length ≤ 17592186044416) := hEl
  have HEN : Hid (∀ x, x < N → ∀ y ∈ E x, y < N) := hE
  have HSB : Hid (sb < w.heap.size) := hS.lt
  have c0 := hS.cell frm hf
  have c1 := hS.free frm
  have hf0 : (0 : Int) ≤ (frm : Int) := by omega
  have hf1 : (frm : Int) < (N : Int) := by omega
  obtain ⟨i0, hi0, hz0, hz1, hz2⟩ := info_parts infoInt
  cases h0 : S0 frm with
  | true =>
    have HF : Hid (WalkTold w N E frm sb S0 (.returned (.slice none 0 0)) w) := ⟨none, 0, S0, [], rfl, .inl ⟨h0, rfl, rfl⟩, World.ownsRow_nil _ _ _ _, hS, grown_refl _ _⟩
    rw [h0] at c0
    clear hL hEl hE hS h0
    go_enter Tryd.func31, Tryd.ntmps31
    go_wp2_with fail
    go_ret
    exact HF.out
  | false =>
    have HW0 : Hid (WlP N E frm S0 (fun x => if x = frm then true else S0 x) [(frm, 0)] []) := WlP.start hf h0
    have HV1 : Hid (ValAt (w.setCell ⟨sb, frm, none⟩ (.bool true)) sb N 4 (fun i => .bool ((fun x => if x = frm then true else S0 x) i))) := (hS.set frm _).ext fun i _ => by
      unfold J.put
      by_cases e : i = frm
      · simp [e]
      · simp [e]
    have HG1 : Hid (w.grownBy (w.setCell ⟨sb, frm, none⟩ (.bool true)) (some sb)) := grown_setCell _ _ _
    obtain ⟨X1, hX1⟩ : ∃ X, X = w.setCell ⟨sb, frm, none⟩ (.bool true) := ⟨_, rfl⟩
    have hsz : X1.heap.size = w.heap.size := by rw [hX1]; simp
    rw [← hX1] at HV1 HG1
    have HK0 : Hid (WkAt w ((X1.alloc (.cells #[.int .i64 (frm : Int)] 3)).alloc (.cells #[.int .i64 0] 3)) sb N (fun x => if x = frm then true else S0 x) [(frm, 0)] [] (updC (updC (fun _ => none) 0 (some ⟨w.heap.size, 0, none⟩)) 1 (some ⟨w.heap.size + 1, 0, none⟩)) (updC (updC (fun _ => 0) 0 1) 1 1)) := by
      have ga := World.grownBy_alloc X1 (.cells #[.int .i64 (frm : Int)] 3) none
      have gb := World.grownBy_alloc (X1.alloc (.cells #[.int .i64 (frm : Int)] 3)) (.cells #[.int .i64 0] 3) none
      have o0 : (X1.alloc (.cells #[.int .i64 (frm : Int)] 3)).heap[w.heap.size]? = some (.cells #[.int .i64 (frm : Int)] 3 (0, 0)) := ga_new (by rw [hsz])
      have o1 : ((X1.alloc (.cells #[.int .i64 (frm : Int)] 3)).alloc (.cells #[.int .i64 0] 3)).heap[w.heap.size + 1]? = some (.cells #[.int .i64 0] 3 (0, 0)) := ga_new (by simp [hsz])
      refine ⟨⟨fun j hj => ?_, fun i j hi hj hne => ?_⟩, (HV1.out.kept ga).kept gb, ?_⟩
      · match j, hj with
        | 0, _ => exact ⟨rfl, .inr ⟨w.heap.size, 1, _, rfl, Nat.le_refl _, ga_old o0, Nat.le_refl _, by unfold maxLen; show 1 ≤ _; omega, rfl, rfl⟩⟩
        | 1, _ => exact ⟨rfl, .inr ⟨w.heap.size + 1, 1, _, rfl, Nat.le_succ _, o1, Nat.le_refl _, by unfold maxLen; show 1 ≤ _; omega, rfl, rfl⟩⟩
        | 2, _ => exact World.ownsRow_nil _ _ _ _
      · match i, hi, j, hj with
        | 0, _, 0, _ => exact absurd rfl hne
        | 0, _, 1, _ => exact .inr (by simp [updC, Value.ownBlock])
        | 0, _, 2, _ => exact .inr (by simp [updC, Value.ownBlock])
        | 1, _, 0, _ => exact .inr (by simp [updC, Value.ownBlock])
        | 1, _, 1, _ => exact absurd rfl hne
        | 1, _, 2, _ => exact .inr (by simp [updC, Value.ownBlock])
        | 2, _, _, _ => exact .inl (by simp [updC, Value.ownBlock])
      · exact grown_keepS HG1.out (grown_trans ga gb)
    have H00 : Hid (S0 frm = false) := h0
    have HX1 : Hid (X1 = w.setCell ⟨sb, frm, none⟩ (.bool true)) := hX1
    have HSZ : Hid (X1.heap.size = w.heap.size) := hsz
    rw [h0] at c0
    clear hL hEl hE hS h0 hX1 hsz HV1 HG1
    go_enter Tryd.func31, Tryd.ntmps31
    go_wp2_with fail
    rw [← HX1.out]
    clear c0 c1 HX1
    go_loopg [7, 8, 9] (wU E (fun x => if x = frm then true else S0 x) N + ((E frm).length + 1)) (fun gk v7 v8 v9 wr => ∃ (st : List (Nat × Nat)) (out : List Nat) (S : Nat → Bool) (ua : Nat → Option Addr) (uc : Nat → Nat) (m on : Nat), m = st.length ∧ on = out.length ∧ gk = wU E S N + wS E st ∧ v7 = .slice (ua 2) on (uc 2) ∧ v8 = .slice (ua 0) m (uc 0) ∧ v9 = .slice (ua 1) m (uc 1) ∧ WlP N E frm S0 S st out ∧ WkAt w wr sb N S st out ua uc)
    case atStart => exact ⟨[(frm, 0)], [], _, _, _, 1, 0, rfl, rfl, by unfold wS; simp, by simp [updC], by simp [updC], by simp [updC], HW0.out, HK0.out⟩
    case round =>
      clear HW0 HK0 HSZ
      obtain ⟨st, out, S, ua, uc, m, on, hm, hon, hgk, rfl, rfl, rfl, hW, hK⟩ := hrel
      have HGK : Hid (gk = wU E S N + wS E st) := hgk
      have HON := hidW hon
      have HW := hidW hW
      have HK := hidW hK
      clear hgk hon hW hK
      by_cases h0m : 0 < m
      · obtain ⟨u, c, st', rfl⟩ : ∃ u c st', st = (u, c) :: st' := by
          cases st with
          | nil => simp at hm; omega
          | cons f st' => exact ⟨f.1, f.2, st', rfl⟩
        obtain ⟨m', rfl⟩ : ∃ m', m = m' + 1 := ⟨m - 1, by omega⟩
        have hm' : m' = st'.length := by simpa using hm
        have HM := hidW hm'
        have hrow := HK.out.row
        have e0 : wkQ ((u, c) :: st') out 0 = (st'.map Prod.fst).reverse ++ [u] := by simp [wkQ]
        have e1 : wkQ ((u, c) :: st') out 1 = (st'.map Prod.snd).reverse ++ [c] := by simp [wkQ]
        have e2 : wkQ ((u, c) :: st') out 2 = out := rfl
        have r0 := hrow.inn 0 (by decide)
        have r1 := hrow.inn 1 (by decide)
        have r2 := hrow.inn 2 (by decide)
        rw [e0] at r0
        rw [e1] at r1
        rw [e2] at r2
        have l0 : ((st'.map Prod.fst).reverse ++ [u]).length = m' + 1 := by simp [hm']
        have l1 : ((st'.map Prod.snd).reverse ++ [c]).length = m' + 1 := by simp [hm']
        rw [l0] at r0
        rw [l1] at r1
        rw [← HON.out] at r2
        obtain ⟨nk, ncap, hnk, hnc⟩ := owns_at r0 (by omega)
        obtain ⟨xk, xcap, hxk, hxc⟩ := owns_at r1 (by omega)
        simp only [Value.slice.injEq] at hnk hxk
        have b0 := (owns_bounds r0).1
        have b1 := (owns_bounds r1).1
        have cn : wr.cell? ⟨nk, m', none⟩ = some (.int .i64 (u : Int)) := hnc m' _ (by rw [natV_append, List.getElem?_append_right (by rw [natV_len]; simp [hm']), natV_len]; simp [hm', natV])
        have cx : wr.cell? ⟨xk, m', none⟩ = some (.int .i64 (c : Int)) := hxc m' _ (by rw [natV_append, List.getElem?_append_right (by rw [natV_len]; simp [hm']), natV_len]; simp [hm', natV])
        have hlen : on + (m' + 1) ≤ N := by
          have h1 := nodup_len N (out ++ ((u, c) :: st').map Prod.fst) HW.out.nd fun x hx => (HW.out.new x (List.mem_append.1 hx)).2.1
          rw [List.length_append, List.length_map, List.length_cons, ← HON.out, ← hm'] at h1
          exact h1
        have hu := HW.out.new u (.inr (by simp))
        have huN := hu.2.1
        have hu0 : (0 : Int) ≤ (u : Int) := by omega
        have hu1 : (u : Int) < (N : Int) := by omega
        have hcl := (HW.out.cnt (u, c) (List.mem_cons_self ..)).1
        obtain ⟨ek, eo, hek, hec, hei⟩ : ∃ ek eo, ea = some ⟨ek, eo, none⟩ ∧ (∀ X, w.grownBy X (some sb) → X.cell? ⟨ek, eo + u, none⟩ = some (.slice (eua u) (E u).length (euc u))) ∧ ∀ X, w.grownBy X (some sb) → IntsAt X (eua u) (intL (E u)) := by
          have h1 := HLX.out w (grown_refl _ _)
          rcases h1.1 with h | ⟨ek, eo, e, h⟩
          · omega
          · refine ⟨ek, eo, e, fun X hX => ?_, fun X hX => (HLX.out X hX).2 u huN⟩
            rcases (HLX.out X hX).1 with h | ⟨ek2, eo2, e2, h⟩
            · omega
            · rw [e] at e2
              have e3 : ek = ek2 ∧ eo = eo2 := by simpa using e2
              obtain ⟨rfl, rfl⟩ := e3
              have := h u huN
              rwa [intL_length] at this
        subst hek
        obtain ⟨el, hel⟩ : ∃ v, v = (E u).length := ⟨_, rfl⟩
        obtain ⟨eau, heau⟩ : ∃ v, v = eua u := ⟨_, rfl⟩
        obtain ⟨ecu, hecu⟩ : ∃ v, v = euc u := ⟨_, rfl⟩
        rw [← hel, ← heau, ← hecu] at hec
        rw [← heau] at hei
        have hcl2 : c ≤ el := by rw [hel]; exact hcl
        have helb : el ≤ 17592186044416 := by rw [hel]; exact HEL.out u huN
        have HEE := hidW hel
        have HEC := hidW hec
        have HEI := hidW hei
        have ce := hec wr HK.out.grw
        have hmw : (m' : Int) ≤ (ncap : Int) := by rw [hnk.2.2] at b0; omega
        have hmx : (m' : Int) ≤ (xcap : Int) := by rw [hxk.2.2] at b1; omega
        have hm0 : (0 : Int) ≤ (m' : Int) := by omega
        have hmb : m' ≤ 5864062014805 := by omega
        have hmd : decide (0 < m' + 1) = true := decide_eq_true (by omega)
        rw [hnk.1, hnk.2.2, hxk.1, hxk.2.2]
        have HNK : Hid (ua 0 = some ⟨nk, 0, none⟩ ∧ uc 0 = ncap) := ⟨hnk.1, hnk.2.2⟩
        have HXK : Hid (ua 1 = some ⟨xk, 0, none⟩ ∧ uc 1 = xcap) := ⟨hxk.1, hxk.2.2⟩
        obtain ⟨oa, hoa⟩ : ∃ v, v = ua 2 := ⟨_, rfl⟩
        obtain ⟨oc, hoc⟩ : ∃ v, v = uc 2 := ⟨_, rfl⟩
        rw [← hoa, ← hoc]
        have HOA : Hid (ua 2 = oa ∧ uc 2 = oc) := ⟨hoa.symm, hoc.symm⟩
        have HE0 := hidW e0
        have HE1 := hidW e1
        have HL0 := hidW l0
        have HL1 := hidW l1
        clear hm hm' hrow e0 e1 e2 r0 r1 r2 hnc hxc b0 b1 hu hcl hel heau hecu hec hei hnk hxk hoa hoc l0 l1 h0m
        by_cases hce : c = el
        · subst hce
          have hcc : ((c : Int) == (c : Int)) = true := beq_self_eq_true _
          go_wp2_with fail
          go_quiet (fail)
          have hv1 := grown_drewN wr nq
          generalize wr.drewN nq = V1 at hv1 ⊢
          have HK1 := hidW (HK.out.kept hv1)
          clear hv1 cn cx ce
          have HRO : Hid (∀ o, (V1.alloc o).ownsRow w.heap.size 3 1 (.slice oa on oc) on (natV out)) := fun o => by
            have h1 := HK1.out.row.inn 2 (by decide)
            have e2 : wkQ ((u, c) :: st') out 2 = out := rfl
            rw [e2, ← HON.out, HOA.out.1, HOA.out.2] at h1
            exact h1.alloc _
          have HSZ2 : Hid (∀ o, w.heap.size ≤ (V1.alloc o).heap.size) := fun o => Nat.le_trans HK1.out.grw.size (World.grownBy_alloc V1 o none).size
          obtain ⟨xs, hxs⟩ : ∃ xs, xs = natV out := ⟨_, rfl⟩
          have HXS := hidW hxs
          rw [← hxs] at HRO
          clear hxs
          go_wp2_with (at_builtin; refine wpList_append_lies _ rfl (.tmp 43) (.tmp 45) 28 rfl w.heap.size 3 i0 (.int .i64 0) 1 8 Tryd.underlying28 hi0 hz0 hz1 hz2 rfl (by decide) (.slice oa on oc) on xs rfl (HRO.out _) ⟨V1.heap.size, 0, none⟩ 1 1 [.int .i64 (u : Int)] rfl rfl (World.news_of_block (heap_alloc_last V1 _)) (by simp [Value.oneCell']) (by decide) (by unfold maxLen; omega) (by omega) (HSZ2.out _) _ rfl ?_)
          intro g7 c7 V2 hoV hgV hat _
          have HW2 := hidW (HW.out.pop HEE.out)
          have HK2 : Hid (WkAt w V2 sb N S st' (out ++ [u]) (updC ua 2 (some ⟨g7, 0, none⟩)) (updC uc 2 c7)) := by
            have k1 := HK1.out.kept (World.grownBy_alloc V1 (.cells #[.int .i64 (u : Int)] 3) none)
            have ho1 := HRO.out (.cells #[.int .i64 (u : Int)] 3)
            have hg2 : (V1.alloc (.cells #[.int .i64 (u : Int)] 3)).grownBy V2 (Value.slice (ua 2) (wkQ ((u, c) :: st') out 2).length (uc 2)).ownBlock := by
              have e2 : wkQ ((u, c) :: st') out 2 = out := rfl
              rw [e2, ← HON.out, HOA.out.1, HOA.out.2]; exact hgV
            have h1 := k1.row.turn (f := 2) (L' := out ++ [u]) (m := on + 1) (c' := c7) (a' := some ⟨g7, 0, none⟩) (by decide) (by rw [List.length_append, ← HON.out]; rfl) hg2 (by rw [natV_append, ← HXS.out]; exact hoV) (fun g hg => by
              have e3 : g7 = g := by simpa [Value.ownBlock] using hg
              subst e3
              rcases hat with h | h
              · left
                have e2 : wkQ ((u, c) :: st') out 2 = out := rfl
                rw [e2, ← HON.out, HOA.out.1, HOA.out.2]; exact h
              · right
                have hz9 : (V1.alloc (.cells #[.int .i64 (u : Int)] 3)).heap.size = V1.heap.size + 1 := by simp
                omega)
            have h2 := (h1.cut (f := 0) (m := m') (by decide) (by rw [updC_other _ _ (by decide), HE0.out, HL0.out]; omega)).cut (f := 1) (m := m') (by decide) (by rw [updC_other _ _ (by decide), updC_other _ _ (by decide), HE1.out, HL1.out]; omega)
            refine ⟨h2.ext fun j hj => ?_, box_row k1.mrk ho1 (by decide) hgV, grown_rowS k1.grw ho1 (Nat.le_refl _) hgV⟩
            match j, hj with
            | 0, _ =>
              rw [updC_other _ _ (by decide), updC_same, updC_other _ _ (by decide), HE0.out, List.take_append_of_le_length (by simp [HM.out]), List.take_of_length_le (by simp [HM.out])]
              rfl
            | 1, _ =>
              rw [updC_same, updC_other _ _ (by decide), updC_other _ _ (by decide), HE1.out, List.take_append_of_le_length (by simp [HM.out]), List.take_of_length_le (by simp [HM.out])]
              rfl
            | 2, _ =>
              rw [updC_other _ _ (by decide), updC_other _ _ (by decide), updC_same]
              rfl
          have HMS : Hid (wU E S N + wS E st' < gk) := by
            have h1 := HGK.out
            have h2 : wS E ((u, c) :: st') = ((E u).length - c + 1) + wS E st' := by unfold wS; simp
            show _ < _
            omega
          have HN2 : Hid (on + 1 = (out ++ [u]).length) := by show _ = _; rw [List.length_append, ← HON.out]; rfl
          have HU2 : Hid (updC ua 2 (some ⟨g7, 0, none⟩) 0 = some ⟨nk, 0, none⟩ ∧ updC uc 2 c7 0 = ncap ∧ updC ua 2 (some ⟨g7, 0, none⟩) 1 = some ⟨xk, 0, none⟩ ∧ updC uc 2 c7 1 = xcap ∧ updC ua 2 (some ⟨g7, 0, none⟩) 2 = some ⟨g7, 0, none⟩ ∧ updC uc 2 c7 2 = c7) := ⟨by rw [updC_other _ _ (by decide)]; exact HNK.out.1, by rw [updC_other _ _ (by decide)]; exact HNK.out.2, by rw [updC_other _ _ (by decide)]; exact HXK.out.1, by rw [updC_other _ _ (by decide)]; exact HXK.out.2, updC_same _ _ _, updC_same _ _ _⟩
          clear hoV hgV hat
          go_wp2_with fail
          go_roundg (wU E S N + wS E st')
          all_goals first
            | exact (show ∃ (s2 : List (Nat × Nat)), _ from ⟨st', out ++ [u], S, _, _, m', on + 1, HM.out, HN2.out, rfl, by rw [HU2.out.2.2.2.2.1, HU2.out.2.2.2.2.2], by rw [HU2.out.1, HU2.out.2.1], by rw [HU2.out.2.2.1, HU2.out.2.2.2.1], HW2.out, HK2.out⟩)
            | exact HMS.out
        · have hce2 : c < el := by omega
          have hcc : ((c : Int) == (el : Int)) = false := beq_eq_false_iff_ne.2 (by omega)
          have hc0 : (0 : Int) ≤ (c : Int) := by omega
          have hc1 : (c : Int) < (el : Int) := by omega
          have hcE : c < (E u).length := by rw [← HEE.out]; exact hce2
          obtain ⟨fb, fo, hfa, hfe⟩ : ∃ fb fo, eau = some ⟨fb, fo, none⟩ ∧ ∀ X, w.grownBy X (some sb) → X.cell? ⟨fb, fo + c, none⟩ = some (.int .i64 (((E u).getD c 0 : Nat) : Int)) := by
            rcases HEI.out w (grown_refl _ _) with h1 | ⟨fb, fo, e, _⟩
            · have h2 := intL_length (E u)
              rw [h1] at h2
              simp at h2
              omega
            · refine ⟨fb, fo, e, fun X hX => ?_⟩
              rcases HEI.out X hX with h1 | ⟨fb2, fo2, e2, h1⟩
              · have h2 := intL_length (E u)
                rw [h1] at h2
                simp at h2
                omega
              · rw [e] at e2
                have e3 : fb = fb2 ∧ fo = fo2 := by simpa using e2
                obtain ⟨rfl, rfl⟩ := e3
                have h3 := h1 c (by rw [intL_length]; exact hcE)
                rw [intL_at] at h3
                exact h3
          subst hfa
          have htE : (E u).getD c 0 ∈ E u := by rw [List.getD_eq_getElem?_getD, List.getElem?_eq_getElem hcE]; exact List.getElem_mem hcE
          have htN := HEN.out u huN _ htE
          have HSK : Hid (S ((E u).getD c 0) = true → WlP N E frm S0 S ((u, c + 1) :: st') out) := fun h => HW.out.skip hcE h
          have HPU : Hid (S ((E u).getD c 0) = false → WlP N E frm S0 (markT S ((E u).getD c 0)) (((E u).getD c 0, 0) :: (u, c + 1) :: st') out) := fun h => HW.out.push hcE h htN
          obtain ⟨t, ht⟩ : ∃ v, v = (E u).getD c 0 := ⟨_, rfl⟩
          rw [← ht] at hfe htN HSK HPU
          have HFE := hidW hfe
          have ht0 : (0 : Int) ≤ (t : Int) := by omega
          have ht1 : (t : Int) < (N : Int) := by omega
          go_wp2_with fail
          go_quiet (fail)
          have hv1 := grown_drewN wr nq
          generalize wr.drewN nq = V1 at hv1 ⊢
          have HK1 := hidW (HK.out.kept hv1)
          have cx1 := hv1.cell cx (by simp)
          have ce1 := hv1.cell ce (by simp)
          have cf1 := hfe V1 (grown_keepS HK.out.grw hv1)
          clear hv1 cn cx ce htE ht hfe
          go_wp2_with fail
          go_quiet (fail)
          have hv2 := grown_drewN V1 nq
          generalize V1.drewN nq = V2 at hv2 ⊢
          have HK2 := hidW (HK1.out.kept hv2)
          have cx2 := hv2.cell cx1 (by simp)
          clear hv2 cx1 ce1 cf1
          have hr1 := HK2.out.row.inn 1 (by decide)
          rw [HE1.out, HL1.out, HXK.out.1, HXK.out.2] at hr1
          have fx2 : V2.frozen? ⟨xk, m', none⟩ = false := by
            rcases hr1.2 with ⟨h, _⟩ | ⟨g, cap, cur, hv, _, hh, _⟩
            · cases h
            · simp only [Value.slice.injEq, Option.some.injEq, Addr.mk.injEq, and_true] at hv
              rw [hv.1]; exact frozen_of_row _ _ _ _ _ hh
          have hs3 : V2.grownBy (V2.setCell ⟨xk, m', none⟩ (.int .i64 ((c : Int) + 1))) (some xk) := grown_setCell _ _ _
          have hxw : w.heap.size ≤ xk := (hr1.lt xk rfl).1
          have hT3 : TrP (V2.setCell ⟨xk, m', none⟩ (.int .i64 ((c : Int) + 1))) w.heap.size 3 (wkQ ((u, c + 1) :: st') out) ua uc := by
            have ho := owns_set (j := m') hr1 (.int .i64 ((c : Int) + 1))
            have e9 : (natV ((st'.map Prod.snd).reverse ++ [c])).set m' (.int .i64 ((c : Int) + 1)) = natV ((st'.map Prod.snd).reverse ++ [c + 1]) := by
              have hl : m' = (natV ((st'.map Prod.snd).reverse)).length := by rw [natV_len]; simp [HM.out]
              rw [natV_append, natV_append, List.set_append_right _ _ (by rw [← hl]; exact Nat.le_refl _), ← hl, Nat.sub_self]
              simp [natV]
            rw [e9] at ho
            have h1 := HK2.out.row.turn (f := 1) (L' := (st'.map Prod.snd).reverse ++ [c + 1]) (m := m' + 1) (c' := uc 1) (a' := ua 1) (by decide) (by simp [HM.out]) (by rw [HE1.out, HL1.out, HXK.out.1]; exact hs3) (by rw [HXK.out.1, HXK.out.2]; exact ho) (fun g hg => .inl (by rw [HE1.out, HL1.out]; exact hg))
            rw [updC_self, updC_self] at h1
            refine h1.ext fun j hj => ?_
            match j, hj with
            | 0, _ => rw [updC_other _ _ (by decide)]; simp [wkQ]
            | 1, _ => rw [updC_same]; simp [wkQ]
            | 2, _ => rw [updC_other _ _ (by decide)]; rfl
          have hV3 : ValAt (V2.setCell ⟨xk, m', none⟩ (.int .i64 ((c : Int) + 1))) sb N 4 (fun i => .bool (S i)) := HK2.out.mrk.at hs3 (by have := HSB.out; omega)
          have hG3 : w.grownBy (V2.setCell ⟨xk, m', none⟩ (.int .i64 ((c : Int) + 1))) (some sb) := grown_newS HK2.out.grw hs3 hxw
          have HK3 : Hid (WkAt w (V2.setCell ⟨xk, m', none⟩ (.int .i64 ((c : Int) + 1))) sb N S ((u, c + 1) :: st') out ua uc) := ⟨hT3, hV3, hG3⟩
          have cs3 := hV3.cell t htN
          have fs3 := hV3.free t
          have HWS : Hid (wS E ((u, c) :: st') = wS E ((u, c + 1) :: st') + 1) := by
            have h1 := HEE.out
            show wS E ((u, c) :: st') = wS E ((u, c + 1) :: st') + 1
            unfold wS
            simp only [List.map_cons, List.sum_cons]
            omega
          clear hr1 hs3 hT3 hV3 hG3 hcE
          cases hst : S t with
          | true =>
            have HW2 := hidW (HSK.out hst)
            rw [hst] at cs3
            have HMS : Hid (wU E S N + wS E ((u, c + 1) :: st') < gk) := by
              have h1 := HGK.out
              have h2 := HWS.out
              show _ < _
              omega
            have HMM : Hid (m' + 1 = ((u, c + 1) :: st').length) := by show _ = _; rw [List.length_cons, ← HM.out]
            clear hst
            go_wp2_with fail
            go_roundg (wU E S N + wS E ((u, c + 1) :: st'))
            all_goals first
              | exact (show ∃ (s2 : List (Nat × Nat)), _ from ⟨(u, c + 1) :: st', out, S, ua, uc, m' + 1, on, HMM.out, HON.out, rfl, by rw [HOA.out.1, HOA.out.2], by rw [HNK.out.1, HNK.out.2], by rw [HXK.out.1, HXK.out.2], HW2.out, HK3.out⟩)
              | exact HMS.out
          | false =>
            have HW2 := hidW (HPU.out hst)
            have HUM := hidW (wU_mark E S t hst N htN)
            rw [hst] at cs3
            obtain ⟨X3, hX3⟩ : ∃ X, X = V2.setCell ⟨xk, m', none⟩ (.int .i64 ((c : Int) + 1)) := ⟨_, rfl⟩
            have hK3 := HK3.out
            rw [← hX3] at hK3
            have hs4 : X3.grownBy (X3.setCell ⟨sb, t, none⟩ (.bool true)) (some sb) := grown_setCell _ _ _
            have HT4 := hidW (hK3.row.below hs4 HSB.out)
            have HV4 : Hid (ValAt (X3.setCell ⟨sb, t, none⟩ (.bool true)) sb N 4 (fun i => .bool (markT S t i))) := (hK3.mrk.set t _).ext fun i _ => by
              unfold J.put markT
              by_cases e : i = t
              · simp [e]
              · simp [e]
            have HG4 : Hid (w.grownBy (X3.setCell ⟨sb, t, none⟩ (.bool true)) (some sb)) := grown_trans hK3.grw hs4
            have HR4 : Hid (∀ o, ((X3.setCell ⟨sb, t, none⟩ (.bool true)).alloc o).ownsRow w.heap.size 3 1 (.slice (some ⟨nk, 0, none⟩) (m' + 1) ncap) (m' + 1) (natV ((st'.map Prod.fst).reverse ++ [u]))) := fun o => by
              have h1 := (HT4.out.kept (World.grownBy_alloc _ o none)).inn 0 (by decide)
              have e9 : wkQ ((u, c + 1) :: st') out 0 = (st'.map Prod.fst).reverse ++ [u] := by simp [wkQ]
              rw [e9, HL0.out, HNK.out.1, HNK.out.2] at h1
              exact h1
            have HSZ4 : Hid (∀ o, w.heap.size ≤ ((X3.setCell ⟨sb, t, none⟩ (.bool true)).alloc o).heap.size) := fun o => Nat.le_trans HG4.out.size (World.grownBy_alloc _ o none).size
            rw [hX3] at HT4 HV4 HG4 HR4 HSZ4
            obtain ⟨xs, hxs⟩ : ∃ xs, xs = natV ((st'.map Prod.fst).reverse ++ [u]) := ⟨_, rfl⟩
            have HXS := hidW hxs
            rw [← hxs] at HR4
            clear hxs hs4 hK3 hX3 hst
            have HNX : Hid (∀ j z, [Value.int .i64 (t : Int)][j]? = some z → (((V2.setCell ⟨xk, m', none⟩ (.int .i64 ((c : Int) + 1))).setCell ⟨sb, t, none⟩ (.bool true)).alloc (.cells #[.int .i64 (t : Int)] 3)).cell? ((⟨V2.heap.size, 0, none⟩ : Addr).add j) = some z) := World.news_of_block (ga_new (by simp))
            have HMS : Hid (wU E (markT S t) N + wS E ((t, 0) :: (u, c + 1) :: st') < gk) := by
              have h1 := HGK.out
              have h2 := HWS.out
              have h3 := HUM.out
              have h4 : wS E ((t, 0) :: (u, c + 1) :: st') = ((E t).length + 1) + wS E ((u, c + 1) :: st') := by unfold wS; simp only [List.map_cons, List.sum_cons]; omega
              show _ < _
              omega
            have HMM : Hid (m' + 1 + 1 = ((t, 0) :: (u, c + 1) :: st').length) := by show _ = _; rw [List.length_cons, List.length_cons, ← HM.out]
            clear HWS HUM HSK HPU HK3 HK2 HK1
            go_wp2_with (at_builtin; first
              | (refine wpList_append_lies _ rfl (.tmp 79) (.tmp 81) 28 rfl w.heap.size 3 i0 (.int .i64 0) 1 8 Tryd.underlying28 hi0 hz0 hz1 hz2 rfl (by decide) (.slice (some ⟨nk, 0, none⟩) (m' + 1) ncap) (m' + 1) xs rfl (HR4.out _) ⟨V2.heap.size, 0, none⟩ 1 1 [.int .i64 (t : Int)] rfl rfl HNX.out (by simp [Value.oneCell']) (by decide) (by unfold maxLen; omega) (by omega) (HSZ4.out _) _ rfl ?_)
              | fail)
            intro g7 c7 V5 hoV hgV hat _
            obtain ⟨X4, hX4⟩ : ∃ X, X = ((V2.setCell ⟨xk, m', none⟩ (.int .i64 ((c : Int) + 1))).setCell ⟨sb, t, none⟩ (.bool true)).alloc (.cells #[.int .i64 (t : Int)] 3) := ⟨_, rfl⟩
            have hz4 : X4.heap.size = V2.heap.size + 1 := by rw [hX4]; simp
            have HR4X := HR4.out (.cells #[.int .i64 (t : Int)] 3)
            have hT4 := HT4.out.kept (World.grownBy_alloc _ (.cells #[.int .i64 (t : Int)] 3) none)
            have hV4 := HV4.out.kept (World.grownBy_alloc _ (.cells #[.int .i64 (t : Int)] 3) none)
            have hG4 := grown_keepS HG4.out (World.grownBy_alloc _ (.cells #[.int .i64 (t : Int)] 3) none)
            rw [← hX4] at HR4X hT4 hV4 hG4 hgV
            have e90 : wkQ ((u, c + 1) :: st') out 0 = (st'.map Prod.fst).reverse ++ [u] := by simp [wkQ]
            have h5 := hT4.turn (f := 0) (L' := (st'.map Prod.fst).reverse ++ [u] ++ [t]) (m := m' + 1 + 1) (c' := c7) (a' := some ⟨g7, 0, none⟩) (by decide) (by simp [HM.out]) (by rw [e90, HL0.out, HNK.out.1, HNK.out.2]; exact hgV) (by rw [natV_append, ← HXS.out]; exact hoV) (fun g hg => by
              have e3 : g7 = g := by simpa [Value.ownBlock] using hg
              subst e3
              rcases hat with h | h
              · left; rw [e90, HL0.out, HNK.out.1, HNK.out.2]; exact h
              · right
                have h9 : g7 = V2.heap.size + 1 := by simpa using h
                omega)
            have HT5 := hidW h5
            have HV5 : Hid (ValAt V5 sb N 4 (fun i => .bool (markT S t i))) := box_row hV4 HR4X (by decide) hgV
            have HG5 : Hid (w.grownBy V5 (some sb)) := grown_rowS hG4 HR4X (Nat.le_refl _) hgV
            have HR5 : Hid (∀ o, (V5.alloc o).ownsRow w.heap.size 3 1 (.slice (some ⟨xk, 0, none⟩) (m' + 1) xcap) (m' + 1) (natV ((st'.map Prod.snd).reverse ++ [c + 1]))) := fun o => by
              have h1 := (HT5.out.kept (World.grownBy_alloc V5 o none)).inn 1 (by decide)
              have e9 : wkQ ((u, c + 1) :: st') out 1 = (st'.map Prod.snd).reverse ++ [c + 1] := by simp [wkQ]
              have el9 : ((st'.map Prod.snd).reverse ++ [c + 1]).length = m' + 1 := by simp [HM.out]
              rw [updC_other _ _ (by decide), updC_other _ _ (by decide), updC_other _ _ (by decide), e9, el9, HXK.out.1, HXK.out.2] at h1
              exact h1
            have HSZ5 : Hid (∀ o, w.heap.size ≤ (V5.alloc o).heap.size) := fun o => Nat.le_trans HG5.out.size (World.grownBy_alloc V5 o none).size
            obtain ⟨ys, hys⟩ : ∃ ys, ys = natV ((st'.map Prod.snd).reverse ++ [c + 1]) := ⟨_, rfl⟩
            have HYS := hidW hys
            rw [← hys] at HR5
            clear hoV hgV hat hX4 hz4 HR4X hT4 hV4 hG4 e90 h5 hys HNX HR4 HSZ4 HT4 HV4 HG4 cs3 fs3 fx2 cx2
            go_wp2_with (at_builtin; refine wpList_append_lies _ rfl (.tmp 83) (.tmp 84) 28 rfl w.heap.size 3 i0 (.int .i64 0) 1 8 Tryd.underlying28 hi0 hz0 hz1 hz2 rfl (by decide) (.slice (some ⟨xk, 0, none⟩) (m' + 1) xcap) (m' + 1) ys rfl (HR5.out _) ⟨V5.heap.size, 0, none⟩ 1 1 [.int .i64 0] rfl rfl (World.news_of_block (heap_alloc_last V5 _)) (by simp [Value.oneCell']) (by decide) (by unfold maxLen; omega) (by omega) (HSZ5.out _) _ rfl ?_)
            intro g8 c8 V6 hoV hgV hat _
            have hR5X := HR5.out (.cells #[.int .i64 0] 3)
            have hT5 := HT5.out.kept (World.grownBy_alloc V5 (.cells #[.int .i64 0] 3) none)
            have e91 : updC (wkQ ((u, c + 1) :: st') out) 0 ((st'.map Prod.fst).reverse ++ [u] ++ [t]) 1 = (st'.map Prod.snd).reverse ++ [c + 1] := by rw [updC_other _ _ (by decide)]; simp [wkQ]
            have el9 : ((st'.map Prod.snd).reverse ++ [c + 1]).length = m' + 1 := by simp [HM.out]
            have u1 : updC ua 0 (some ⟨g7, 0, none⟩) 1 = some ⟨xk, 0, none⟩ := by rw [updC_other _ _ (by decide)]; exact HXK.out.1
            have u2 : updC uc 0 c7 1 = xcap := by rw [updC_other _ _ (by decide)]; exact HXK.out.2
            have h6 := hT5.turn (f := 1) (L' := (st'.map Prod.snd).reverse ++ [c + 1] ++ [0]) (m := m' + 1 + 1) (c' := c8) (a' := some ⟨g8, 0, none⟩) (by decide) (by simp [HM.out]) (by rw [e91, el9, u1, u2]; exact hgV) (by rw [natV_append, ← HYS.out]; exact hoV) (fun g hg => by
              have e3 : g8 = g := by simpa [Value.ownBlock] using hg
              subst e3
              rcases hat with h | h
              · left; rw [e91, el9, u1, u2]; exact h
              · right
                have hz9 : (V5.alloc (.cells #[.int .i64 0] 3)).heap.size = V5.heap.size + 1 := by simp
                omega)
            have HK6 : Hid (WkAt w V6 sb N (markT S t) ((t, 0) :: (u, c + 1) :: st') out (updC (updC ua 0 (some ⟨g7, 0, none⟩)) 1 (some ⟨g8, 0, none⟩)) (updC (updC uc 0 c7) 1 c8)) := by
              refine ⟨h6.ext fun j hj => ?_, box_row (HV5.out.kept (World.grownBy_alloc V5 _ none)) hR5X (by decide) hgV, grown_rowS (grown_keepS HG5.out (World.grownBy_alloc V5 _ none)) hR5X (Nat.le_refl _) hgV⟩
              match j, hj with
              | 0, _ => rw [updC_other _ _ (by decide), updC_same]; simp [wkQ]
              | 1, _ => rw [updC_same]; simp [wkQ]
              | 2, _ => rw [updC_other _ _ (by decide), updC_other _ _ (by decide)]; rfl
            have HU6 : Hid (updC (updC ua 0 (some ⟨g7, 0, none⟩)) 1 (some ⟨g8, 0, none⟩) 0 = some ⟨g7, 0, none⟩ ∧ updC (updC uc 0 c7) 1 c8 0 = c7 ∧ updC (updC ua 0 (some ⟨g7, 0, none⟩)) 1 (some ⟨g8, 0, none⟩) 1 = some ⟨g8, 0, none⟩ ∧ updC (updC uc 0 c7) 1 c8 1 = c8 ∧ updC (updC ua 0 (some ⟨g7, 0, none⟩)) 1 (some ⟨g8, 0, none⟩) 2 = oa ∧ updC (updC uc 0 c7) 1 c8 2 = oc) := ⟨by rw [updC_other _ _ (by decide), updC_same], by rw [updC_other _ _ (by decide), updC_same], updC_same _ _ _, updC_same _ _ _, by rw [updC_other _ _ (by decide), updC_other _ _ (by decide)]; exact HOA.out.1, by rw [updC_other _ _ (by decide), updC_other _ _ (by decide)]; exact HOA.out.2⟩
            clear hoV hgV hat hR5X hT5 e91 el9 u1 u2 h6
            go_wp2_with fail
            go_roundg (wU E (markT S t) N + wS E ((t, 0) :: (u, c + 1) :: st'))
            all_goals first
              | exact (show ∃ (s2 : List (Nat × Nat)), _ from ⟨(t, 0) :: (u, c + 1) :: st', out, markT S t, _, _, m' + 1 + 1, on, HMM.out, HON.out, rfl, by rw [HU6.out.2.2.2.2.1, HU6.out.2.2.2.2.2], by rw [HU6.out.1, HU6.out.2.1], by rw [HU6.out.2.2.1, HU6.out.2.2.2.1], HW2.out, HK6.out⟩)
              | exact HMS.out
      · have hm0 : m = 0 := by omega
        subst hm0
        have hst : st = [] := List.eq_nil_of_length_eq_zero hm.symm
        subst hst
        have HF : Hid (WalkTold w N E frm sb S0 (.returned (.slice (ua 2) on (uc 2))) wr) := by
          have h1 := HK.out.row.inn 2 (by decide)
          have e2 : wkQ [] out 2 = out := rfl
          rw [e2] at h1
          refine ⟨ua 2, uc 2, S, out, by rw [← HON.out], .inr ⟨H00.out, HW.out.done⟩, h1, HK.out.mrk, HK.out.grw⟩
        clear hm h0m
        go_wp2_with fail
        go_ret
        exact HF.out

end Go.Proofs.YtjijagnpcmonbaaDoor.J

/-
  digraph: the document's parts.
-/
namespace Go.Proofs.YtjijagnpcmonbaaDoor.J
open Go.RowKit Go.Maps Go.Shelf D

attribute [local go_sem] Oper.semAt_some

theorem infoBoolQ : (Tryd.prog.info? 4).map (fun i => (i.zero, i.size, i.bytes)) = some (some (.bool false), 1, 1) := by kernel_rfl

/-- What parts tells: numbers of components. -/
def PartsTold (w : World) (N : Nat) (E : Nat → List Nat) (e : Ending) (y : World) : Prop := ∃ (nb c : Nat) (num : Nat → Nat) (S : Nat → Bool), e = .returned (.tuple #[.slice (some ⟨nb, 0, none⟩) N N, .int .i64 (c : Int)]) ∧ ValAt y nb N 3 (fun x => .int .i64 ((c : Int) - 1 - (num x : Int))) ∧ NbP N E S num c ∧ (∀ x, x < N → S x = true) ∧ c ≤ N ∧ w.heap.size ≤ nb ∧ w.grownBy y none

/-- The numbers, once the first k of those that were gathered have theirs. -/
def nuK (num : Nat → Nat) (c : Nat) (out : List Nat) (k : Nat) : Nat → Nat := fun x => if x ∈ out.take k then c else num x
theorem nuK_step (num : Nat → Nat) (c : Nat) (out : List Nat) (k : Nat) (hk : k < out.length) (x : Nat) : nuK num c out (k + 1) x = if x = out.getD k 0 then c else nuK num c out k x := by
  have e : out.getD k 0 = out[k] := by rw [List.getD_eq_getElem?_getD, List.getElem?_eq_getElem hk]; rfl
  unfold nuK
  rw [e, List.take_succ_eq_append_getElem hk]
  by_cases h : x = out[k]
  · rw [if_pos h, if_pos (List.mem_append_right _ (List.mem_singleton.2 h))]
  · rw [if_neg h]
    have : x ∈ out.take k ++ [out[k]] ↔ x ∈ out.take k := by
      rw [List.mem_append, List.mem_singleton]
      exact ⟨fun h1 => h1.resolve_right h, .inl⟩
    simp only [this]

set_option maxRecDepth 100000 in
set_option maxHeartbeats 8000000 in
theorem rparts_any (w : World) (N : Nat) (ea : Option Addr) (ec : Nat) (E F : Nat → List Nat) (eua : Nat → Option Addr) (euc : Nat → Nat) (hL : LwAt w ea N (fun i => intL (E i)) eua euc) (hN : N ≤ 1048576) (hEl : ∀ x, x < N → (E x).length ≤ 17592186044416) (hE : ∀ x, x < N → ∀ y ∈ E x, y < N) (hF : ∀ x y, x < N → y < N → (y ∈ E x ↔ x ∈ F y)) (hFN : ∀ x, x < N → ∀ y ∈ F x, y < N) (hFl : ∀ x, x < N → (F x).length ≤ 17592186044416) (hTu : ∀ X, w.grownBy X none → Calls Tryd.prog 32 #[.slice ea N ec] X fun e y => MadeTold X N F e y) :
    Calls Tryd.prog 19 #[.slice ea N ec] w fun e y => PartsTold w N E e y := by
  have HWK : Hid (∀ (X : World) (sb : Nat) (S : Nat → Bool) (i : Nat), w.grownBy X none → ValAt X sb N 4 (fun i => .bool (S i)) → i < N → Calls Tryd.prog 31 #[.slice ea N ec, .int .i64 (i : Int), .slice (some ⟨sb, 0, none⟩) N N] X fun e y => WalkTold X N E i sb S e y) := fun X sb S i hX hS hi => rwalk_any X N ea ec E eua euc (hL.kept hX) (by omega) hEl hE sb N S hS i hi
  have HWF : Hid (∀ (X : World) (kb : Nat) (ub : Nat → Option Addr) (cb : Nat → Nat) (sb : Nat) (S : Nat → Bool) (i : Nat), LsAt X (some ⟨kb, 0, none⟩) N (fun i => intL (F i)) ub cb → ValAt X sb N 4 (fun i => .bool (S i)) → i < N → Calls Tryd.prog 31 #[.slice (some ⟨kb, 0, none⟩) N N, .int .i64 (i : Int), .slice (some ⟨sb, 0, none⟩) N N] X fun e y => WalkTold X N F i sb S e y) := fun X kb ub cb sb S i hX hS hi => rwalk_any X N _ N F ub cb hX.lw (by omega) hFl hFN sb N S hS i hi
  have HTU : Hid (∀ X, w.grownBy X none → Calls Tryd.prog 32 #[.slice ea N ec] X fun e y => MadeTold X N F e y) := hTu
  have HE : Hid (∀ x, x < N → ∀ y ∈ E x, y < N) := hE
  have HF : Hid (∀ x y, x < N → y < N → (y ∈ E x ↔ x ∈ F y)) := hF
  have HFN : Hid (∀ x, x < N → ∀ y ∈ F x, y < N) := hFN
  obtain ⟨i0, hi0, hz0, hz1, hz2⟩ := info_parts infoInt
  obtain ⟨i2, hi2, hx0, hx1, hx2⟩ := info_parts infoBoolQ
  clear hL hEl hE hF hFN hFl hTu
  go_enter Tryd.func19, Tryd.ntmps19
  go_wp2_with (at_make; refine wpList_make_full _ rfl _ _ 60 rfl w.heap.size 4 i2 (.bool false) 1 Tryd.underlying60 hi2 hx0 hx1 .i64 .i64 _ _ N rfl rfl (by simp) (by simp) (by rw [hx2]; omega) (by unfold maxLen; omega) (by simp) ?_)
  intro w1 hown hgrow
  have hval : ValAt w1 w.heap.size N 4 (fun _ => .bool false) := made_rowK (B := w.heap.size) rfl (by simpa [Value.cells] using hown)
  obtain ⟨sb, hsb⟩ : ∃ b, b = w.heap.size := ⟨_, rfl⟩
  rw [← hsb] at hval
  rw [← hsb]
  have HSB : Hid (w.heap.size ≤ sb) := by show _ ≤ _; omega
  have HV0 := hidW hval
  have HG0 := hidW hgrow
  clear hown hgrow hval hsb
  go_wp2_with fail
  go_loopg [5, 6] N (fun gk v5 v6 wr => ∃ (i : Nat) (L : List Nat) (S : Nat → Bool) (la : Option Addr) (lc ln : Nat), i ≤ N ∧ gk = N - i ∧ v5 = .slice la ln lc ∧ v6 = .int .i64 i ∧ ln = L.length ∧ wr.ownsRow w.heap.size 3 1 (.slice la ln lc) ln (natV L) ∧ ValAt wr sb N 4 (fun i => .bool (S i)) ∧ OrP N E S L ∧ w.grownBy wr none ∧ ∀ x, x < i → S x = true)
  case atStart => exact ⟨0, [], fun _ => false, none, 0, 0, Nat.zero_le _, rfl, rfl, rfl, rfl, World.ownsRow_nil _ _ _ _, HV0.out, OrP.start, HG0.out, fun x h => absurd h (Nat.not_lt_zero _)⟩
  case round =>
    clear HV0 HG0
    obtain ⟨i, L, S, la, lc, ln, hi, hgk, rfl, rfl, hln, hO, hV, hP, hG, hA⟩ := hrel
    have HGK : Hid (gk = N - i) := hgk
    have HLN := hidW hln
    have HO := hidW hO
    have HV := hidW hV
    have HP := hidW hP
    have HG := hidW hG
    have HA := hidW hA
    have hlnb : ln ≤ N := by rw [hln]; exact nodup_len N L hP.nd hP.lt
    clear hgk hln hO hV hP hG hA
    by_cases hlt : i < N
    · have hid : decide (i < N) = true := decide_eq_true hlt
      have hi0' : (0 : Int) ≤ (i : Int) := by omega
      have hi1' : (i : Int) < (N : Int) := by omega
      have HC := show Hid _ from HWK.out wr sb S i HG.out HV.out hlt
      go_wp2_with fail
      refine Calls.mono HC.out ?_
      rintro e y ⟨oa, oc, S', out, rfl, hcase, ho, hv, hgy⟩
      have HOY := hidW (HO.out.kept hgy (own_ne_val HO.out HV.out (by decide)))
      have HGY : Hid (w.grownBy y none) := grown_new HG.out hgy HSB.out
      have HVY := hidW hv
      have hnew : OrP N E S' (L ++ out) ∧ S' i = true ∧ ∀ x, S x = true → S' x = true := by
        rcases hcase with ⟨h1, rfl, rfl⟩ | ⟨h1, h2⟩
        · exact ⟨by rw [List.append_nil]; exact HP.out, h1, fun _ h => h⟩
        · exact ⟨HP.out.more h2, (h2.see i).2 (.inr h2.fin), fun x h => (h2.see x).2 (.inl h)⟩
      have HP2 := hidW hnew.1
      have HA2 : Hid (∀ x, x < i + 1 → S' x = true) := fun x hx => by
        by_cases e : x = i
        · rw [e]; exact hnew.2.1
        · exact hnew.2.2 x (HA.out x (by omega))
      have hob := nodup_len N (L ++ out) hnew.1.nd hnew.1.lt
      rw [List.length_append, ← HLN.out] at hob
      have HNIL : Hid (oa = none → out.length = 0 ∧ oc = 0) := (owns_bounds ho).2
      have HSRC : Hid (∀ ad, oa = some ad → ∀ j u, (natV out)[j]? = some u → y.cell? (ad.add j) = some u) := fun ad had j u hu => by
        have h1 := owned_ints (l := intL out) (by rw [show (intL out).map (Value.int .i64) = natV out by unfold intL natV; rw [List.map_map]; rfl]; exact ho) (by rw [intL_length])
        have h2 := ints_src h1 ad had j u
        rw [show (intL out).map (Value.int .i64) = natV out by unfold intL natV; rw [List.map_map]; rfl] at h2
        exact h2 hu
      obtain ⟨on, hon⟩ : ∃ v, v = out.length := ⟨_, rfl⟩
      rw [← hon] at hob HNIL
      rw [← hon]
      have HON := hidW hon
      have HLL : Hid ((natV out).length = on * 1) := by show _ = _; rw [natV_len, hon, Nat.mul_one]
      have HON1 : Hid (∀ u ∈ natV out, u.oneCell' = true) := natV_one out
      obtain ⟨ys, hys⟩ : ∃ ys, ys = natV out := ⟨_, rfl⟩
      have HYS := hidW hys
      obtain ⟨xs, hxs⟩ : ∃ xs, xs = natV L := ⟨_, rfl⟩
      have HXS := hidW hxs
      rw [← hys] at HSRC HLL HON1
      rw [← hxs] at HOY
      clear hcase ho hv hgy hnew hon hys hxs HC
      go_wp2_with (at_builtin; refine wpList_append_srcW rfl (.tmp 23) (.tmp 27) 28 rfl w.heap.size 3 i0 (.int .i64 0) 1 8 Tryd.underlying28 hi0 hz0 hz1 hz2 rfl (by decide) (.slice la ln lc) ln xs rfl HOY.out oa on oc ys rfl HNIL.out HLL.out HSRC.out HON1.out (by unfold maxLen; omega) (by omega) HGY.out.size ?_; intro v6 wA hoA hgA; obtain ⟨a6, c6, rfl⟩ := owns_slice hoA)
      have HOA : Hid (wA.ownsRow w.heap.size 3 1 (.slice a6 (ln + on) c6) (ln + on) (natV (L ++ out))) := by rw [natV_append, ← HXS.out, ← HYS.out]; exact hoA
      have HVA : Hid (ValAt wA sb N 4 (fun i => .bool (S' i))) := box_row HVY.out HOY.out (by decide) hgA
      have HGA : Hid (w.grownBy wA none) := grown_row HGY.out HOY.out (Nat.le_refl _) hgA
      have HLA : Hid (ln + on = (L ++ out).length) := by show _ = _; rw [List.length_append, ← HLN.out, ← HON.out]
      clear hoA hgA
      go_wp2_with fail
      go_roundg (N - (i + 1))
      all_goals first
        | exact (show ∃ (i' : Nat), _ from ⟨i + 1, L ++ out, S', a6, c6, ln + on, by omega, rfl, rfl, by go_num, HLA.out, HOA.out, HVA.out, HP2.out, HGA.out, HA2.out⟩)
        | (have := HGK.out; omega)
    · have hin : N = i := by omega
      subst hin
      have hid : decide (N < N) = false := decide_eq_false (by omega)
      have HAL : Hid (∀ x, x < N → x ∈ L) := fun x hx => (HP.out.see x).1 (HA.out x hx)
      have HT1 := show Hid _ from HTU.out wr HG.out
      clear HGK hlt HA HV
      go_wp2_with fail
      refine Calls.mono HT1.out ?_
      rintro e w2 ⟨kb, ub, cb, rfl, hC, hg2⟩
      have HLF : Hid (∀ X, w2.grownBy X none → LsAt X (some ⟨kb, 0, none⟩) N (fun i => intL (F i)) ub cb) := fun X hX => (hC.kept hX).ls
      have HO2 := hidW (keep0 HO.out hg2)
      have HG2 := hidW (grown_trans HG.out hg2)
      clear hC hg2 HT1 HO HG
      go_wp2_with (at_make; first
        | (refine wpList_make_full _ rfl _ _ 60 rfl w2.heap.size 4 i2 (.bool false) 1 Tryd.underlying60 hi2 hx0 hx1 .i64 .i64 _ _ N rfl rfl (by simp) (by simp) (by rw [hx2]; omega) (by unfold maxLen; omega) (by simp) ?_; intro w3 hown3 hgrow3)
        | (refine wpList_make_full _ rfl _ _ 28 rfl w3.heap.size 3 i0 (.int .i64 0) 1 Tryd.underlying28 hi0 hz0 hz1 .i64 .i64 _ _ N rfl rfl (by simp) (by simp) (by rw [hz2]; omega) (by unfold maxLen; omega) (by simp) ?_; intro w4 hown4 hgrow4)
        | fail)
      have hval3 : ValAt w3 w2.heap.size N 4 (fun _ => .bool false) := made_rowK (B := w2.heap.size) rfl (by simpa [Value.cells] using hown3)
      have hval4 : ValAt w4 w3.heap.size N 3 (fun _ => .int .i64 0) := made_rowK (B := w3.heap.size) rfl (by simpa [Value.cells] using hown4)
      obtain ⟨sc, hsc⟩ : ∃ b, b = w2.heap.size := ⟨_, rfl⟩
      obtain ⟨nb, hnb⟩ : ∃ b, b = w3.heap.size := ⟨_, rfl⟩
      have hsn : sc < nb := by have := hval3.lt; omega
      rw [← hsc] at hval3
      rw [← hnb] at hval4
      rw [← hsc, ← hnb]
      have HV0 : Hid (ValAt w4 sc N 4 (fun i => .bool ((fun _ => false) i))) := hval3.kept hgrow4
      have HN0 : Hid (ValAt w4 nb N 3 (fun i => .int .i64 (((fun _ => 0) i : Nat) : Int))) := hval4
      have HG0 : Hid (w2.grownBy w4 none) := grown_trans hgrow3 hgrow4
      have HSN : Hid (w2.heap.size ≤ sc ∧ sc < nb) := ⟨by omega, hsn⟩
      have HLT0 : Hid (∀ p x, ln ≤ p → L[p]? = some x → (fun _ : Nat => false) x = true) := fun p x hp hx => by
        have := (List.getElem?_eq_some_iff.1 hx).1
        have := HLN.out
        omega
      clear hown3 hgrow3 hown4 hgrow4 hval3 hval4 hsc hnb hsn
      go_wp2_with fail
      go_loopg [9, 10] ln (fun gk v9 v10 wr => ∃ (m : Nat) (zv : Int) (S : Nat → Bool) (num : Nat → Nat) (c : Nat), m ≤ ln ∧ zv = (m : Int) - 1 ∧ gk = m ∧ v9 = .int .i64 c ∧ v10 = .int .i64 zv ∧ c + m ≤ ln ∧ ValAt wr sc N 4 (fun i => .bool (S i)) ∧ ValAt wr nb N 3 (fun i => .int .i64 (num i : Int)) ∧ NbP N E S num c ∧ (∀ p x, m ≤ p → L[p]? = some x → S x = true) ∧ w2.grownBy wr none)
      case atStart => exact ⟨ln, (ln : Int) - 1, fun _ => false, fun _ => 0, 0, Nat.le_refl _, rfl, rfl, rfl, by go_num, by omega, HV0.out, HN0.out, NbP.start, HLT0.out, HG0.out⟩
      case round =>
        clear HV0 HN0 HG0 HLT0
        obtain ⟨m, zv, S, num, c, hm, hzv, hgm, rfl, rfl, hcm, hV, hNu, hNb, hLt, hG⟩ := hrel
        have HGM : Hid (gk = m) := hgm
        have HZV : Hid (zv = (m : Int) - 1) := hzv
        have HV := hidW hV
        have HNU := hidW hNu
        have HNB := hidW hNb
        have HLT := hidW hLt
        have HG := hidW hG
        clear hgm hzv hV hNu hNb hLt hG
        by_cases hz0' : 0 ≤ zv
        · obtain ⟨m', rfl⟩ := Int.eq_ofNat_of_zero_le hz0'
          have hmm : m = m' + 1 := by have := HZV.out; omega
          subst hmm
          have hzd : decide ((0 : Int) ≤ (m' : Int)) = true := decide_eq_true (by omega)
          have hm0 : (0 : Int) ≤ (m' : Int) := by omega
          have hm1 : (m' : Int) < (ln : Int) := by omega
          have hmL : m' < L.length := by rw [← HLN.out]; omega
          have hOw := keep0 HO2.out HG.out
          obtain ⟨lb, lcap, hlb, hlc⟩ := owns_at hOw (by omega)
          simp only [Value.slice.injEq] at hlb
          obtain ⟨rfl, -, rfl⟩ := hlb
          have c0 : wr.cell? ⟨lb, m', none⟩ = some (.int .i64 ((L.getD m' 0 : Nat) : Int)) := hlc m' _ (natV_at L m' hmL)
          have hLm : L[m']? = some (L.getD m' 0) := by rw [List.getD_eq_getElem?_getD, List.getElem?_eq_getElem hmL]; rfl
          have hvN := HP.out.lt (L.getD m' 0) (List.mem_of_getElem? hLm)
          obtain ⟨v, hv⟩ : ∃ v, v = L.getD m' 0 := ⟨_, rfl⟩
          rw [← hv] at c0 hLm hvN
          have HLM := hidW hLm
          have hv0 : (0 : Int) ≤ (v : Int) := by omega
          have hv1 : (v : Int) < (N : Int) := by omega
          have HC := show Hid _ from HWF.out wr kb ub cb sc S v (HLF.out wr HG.out) HV.out hvN
          clear hOw hlc hv hLm hmL
          go_wp2_with fail
          refine Calls.mono HC.out ?_
          rintro e y ⟨oa, oc, S', out, rfl, hcase, ho, hvl, hgy⟩
          have HVY := hidW hvl
          have HGY : Hid (w2.grownBy y none) := grown_new HG.out hgy HSN.out.1
          have HNY : Hid (ValAt y nb N 3 (fun i => .int .i64 (nuK num c out 0 i : Int))) := (HNU.out.at hgy (by have := HSN.out.2; omega)).ext fun x _ => by unfold nuK; simp
          have HOO := hidW ho
          have hNW : Hid (nb < wr.heap.size) := HNU.out.lt
          have hcase2 : (out = [] ∧ S' = S ∧ S v = true) ∨ (0 < out.length ∧ (∀ x ∈ out, x < N) ∧ NbP N E S' (fun x => if x ∈ out then c else num x) (c + 1) ∧ S' v = true ∧ ∀ x, S x = true → S' x = true) := by
            rcases hcase with ⟨h1, h2, h3⟩ | ⟨h1, h2⟩
            · exact .inl ⟨h2, h3, h1⟩
            · refine .inr ⟨List.length_pos_of_mem h2.fin, fun x hx => (h2.new x hx).2.1, ?_, (h2.see v).2 (.inr h2.fin), fun x h => (h2.see x).2 (.inl h)⟩
              exact HNB.out.more HE.out HF.out HFN.out HP.out.nd HP.out.po HAL.out HLM.out hvN (fun p x hp hx => HLT.out p x (by omega) hx) h2
          have HCA := hidW hcase2
          have hoN : ∀ x ∈ out, x < N := fun x hx => by
            rcases hcase2 with ⟨h1, _⟩ | ⟨_, h1, _⟩
            · rw [h1] at hx; cases hx
            · exact h1 x hx
          have HON := hidW hoN
          have honb : out.length ≤ N := by
            rcases hcase with ⟨_, h2, _⟩ | ⟨_, h2⟩
            · rw [h2]; exact Nat.zero_le _
            · exact nodup_len N out h2.nd hoN
          obtain ⟨on, hon⟩ : ∃ v, v = out.length := ⟨_, rfl⟩
          have HONE := hidW hon
          rw [← hon] at honb
          rw [← hon]
          clear hcase ho hvl hgy hcase2 hoN hon HC c0 HNU HV HG
          go_wp2_with fail
          go_loopg [12] on (fun gk v12 wx => ∃ (k : Nat), k ≤ on ∧ gk = on - k ∧ v12 = .int .i64 k ∧ ValAt wx nb N 3 (fun i => .int .i64 (nuK num c out k i : Int)) ∧ y.grownBy wx (some nb))
          case atStart => exact ⟨0, Nat.zero_le _, rfl, rfl, HNY.out, grown_refl _ _⟩
          case round =>
            clear HNY
            obtain ⟨k, hk, hgk, rfl, hNk, hGk⟩ := hrel
            have HGJ : Hid (gk = on - k) := hgk
            have HNK := hidW hNk
            have HGK := hidW hGk
            clear hgk hNk hGk
            by_cases hlt : k < on
            · have hkd : decide (k < on) = true := decide_eq_true hlt
              have hk0 : (0 : Int) ≤ (k : Int) := by omega
              have hk1 : (k : Int) < (on : Int) := by omega
              have hko : k < out.length := by rw [← HONE.out]; exact hlt
              obtain ⟨gb, gcap, hgb, hgc⟩ := owns_at HOO.out (by omega)
              have hgw := (HOO.out.lt gb (by rw [hgb]; rfl)).1
              simp only [Value.slice.injEq] at hgb
              obtain ⟨hoa, -, -⟩ := hgb
              subst hoa
              have c1 := HGK.out.cell (hgc k _ (natV_at out k hko)) (by have := hNW.out; simp; omega)
              have hxN := HON.out (out.getD k 0) (by rw [List.getD_eq_getElem?_getD, List.getElem?_eq_getElem hko]; exact List.getElem_mem hko)
              have HST : Hid (∀ x, nuK num c out (k + 1) x = if x = out.getD k 0 then c else nuK num c out k x) := nuK_step num c out k hko
              obtain ⟨x, hx⟩ : ∃ v, v = out.getD k 0 := ⟨_, rfl⟩
              rw [← hx] at c1 hxN HST
              have hx0' : (0 : Int) ≤ (x : Int) := by omega
              have hx1' : (x : Int) < (N : Int) := by omega
              have c2 := HNK.out.cell x hxN
              have c3 := HNK.out.free x
              obtain ⟨ov, hov⟩ : ∃ v, v = nuK num c out k x := ⟨_, rfl⟩
              rw [← hov] at c2
              have HNN : Hid (ValAt (wr.setCell ⟨nb, x, none⟩ (.int .i64 (c : Int))) nb N 3 (fun i => .int .i64 (nuK num c out (k + 1) i : Int))) := (HNK.out.set x _).ext fun i _ => by
                unfold J.put
                rw [HST.out i]
                by_cases e : i = x
                · rw [if_pos e, if_pos e]
                · rw [if_neg e, if_neg e]
              have HGN : Hid (y.grownBy (wr.setCell ⟨nb, x, none⟩ (.int .i64 (c : Int))) (some nb)) := grown_trans HGK.out (grown_setCell _ _ _)
              clear hko hgc hgw hx hov
              go_wp2_with fail
              go_roundg (on - (k + 1))
              all_goals first
                | exact (show ∃ (k' : Nat), _ from ⟨k + 1, by omega, rfl, by go_num, HNN.out, HGN.out⟩)
                | (have := HGJ.out; omega)
            · have hkn : on = k := by omega
              subst hkn
              have hkd : decide (on < on) = false := decide_eq_false (by omega)
              have HNF : Hid (ValAt wr nb N 3 (fun i => .int .i64 (((fun x => if x ∈ out then c else num x) i : Nat) : Int))) := HNK.out.ext fun i _ => by
                unfold nuK
                rw [HONE.out, List.take_length]
              have HVF : Hid (ValAt wr sc N 4 (fun i => .bool (S' i))) := HVY.out.at HGK.out (by have := HSN.out.2; omega)
              have HGF : Hid (w2.grownBy wr none) := grown_new HGY.out HGK.out (by have h1 := HSN.out.1; have h2 := HSN.out.2; omega)
              by_cases hon0 : 0 < on
              · have hod : decide (0 < on) = true := decide_eq_true hon0
                obtain ⟨-, -, h3, h4, h5⟩ := HCA.out.resolve_left (fun h => by
                  have h6 := HONE.out
                  rw [h.1] at h6
                  simp at h6
                  omega)
                have HNB2 := hidW h3
                have HLT2 : Hid (∀ p x, m' ≤ p → L[p]? = some x → S' x = true) := fun p x hp hx => by
                  by_cases e : p = m'
                  · rw [e, HLM.out] at hx
                    rw [← Option.some.inj hx]; exact h4
                  · exact h5 x (HLT.out p x (by omega) hx)
                clear h3 h4 h5
                go_wp2_with fail
                go_roundg m'
                all_goals first
                  | exact (show ∃ (m2 : Nat), _ from ⟨m', (m' : Int) - 1, S', _, c + 1, by omega, rfl, rfl, by go_num, by go_num, by omega, HVF.out, HNF.out, HNB2.out, HLT2.out, HGF.out⟩)
                  | (have := HGM.out; omega)
              · have hon00 : on = 0 := by omega
                subst hon00
                obtain ⟨h1, h2, h3⟩ := HCA.out.resolve_right (fun h => by have := HONE.out; omega)
                have HNF2 : Hid (ValAt wr nb N 3 (fun i => .int .i64 (num i : Int))) := HNF.out.ext fun i _ => by rw [h1]; simp
                have HLT2 : Hid (∀ p x, m' ≤ p → L[p]? = some x → S x = true) := fun p x hp hx => by
                  by_cases e : p = m'
                  · rw [e, HLM.out] at hx
                    rw [← Option.some.inj hx]; exact h3
                  · exact HLT.out p x (by omega) hx
                have HVF2 : Hid (ValAt wr sc N 4 (fun i => .bool (S i))) := by rw [← h2]; exact HVF.out
                clear h1 h2 h3
                go_wp2_with fail
                go_roundg m'
                all_goals first
                  | exact (show ∃ (m2 : Nat), _ from ⟨m', (m' : Int) - 1, S, num, c, by omega, rfl, rfl, rfl, by go_num, by omega, HVF2.out, HNF2.out, HNB.out, HLT2.out, HGF.out⟩)
                  | (have := HGM.out; omega)
        · have hm0 : m = 0 := by have := HZV.out; omega
          subst hm0
          have hz1' : zv = -1 := by have := HZV.out; omega
          subst hz1'
          have HSA : Hid (∀ x, x < N → S x = true) := fun x hx => by
            obtain ⟨p, hp, e⟩ := List.getElem_of_mem (HAL.out x hx)
            exact HLT.out p x (Nat.zero_le _) (by rw [List.getElem?_eq_getElem hp, e])
          have hcN : c ≤ N := by omega
          have HNL : Hid (∀ x, x < N → num x < c) := fun x hx => (HNB.out.lt x (HSA.out x hx)).2
          have HN1 : Hid (ValAt wr nb N 3 (fun i => .int .i64 (if i < 0 then (c : Int) - 1 - (num i : Int) else (num i : Int)))) := HNU.out.ext fun i _ => by simp
          clear hz0' HGM HZV HLT HV HNU
          go_wp2_with fail
          go_loopg [13] N (fun gk v13 wx => ∃ (i : Nat), i ≤ N ∧ gk = N - i ∧ v13 = .int .i64 i ∧ ValAt wx nb N 3 (fun x => .int .i64 (if x < i then (c : Int) - 1 - (num x : Int) else (num x : Int))) ∧ w2.grownBy wx none)
          case atStart => exact ⟨0, Nat.zero_le _, rfl, rfl, HN1.out, HG.out⟩
          case round =>
            clear HN1 HG
            obtain ⟨i, hi, hgk, rfl, hNi, hG⟩ := hrel
            have HGK : Hid (gk = N - i) := hgk
            have HNI := hidW hNi
            have HG := hidW hG
            clear hgk hNi hG
            by_cases hlt : i < N
            · have hid : decide (i < N) = true := decide_eq_true hlt
              have hi0' : (0 : Int) ≤ (i : Int) := by omega
              have hi1' : (i : Int) < (N : Int) := by omega
              have c2 := HNI.out.cell i hlt
              rw [if_neg (Nat.lt_irrefl i)] at c2
              have c3 := HNI.out.free i
              have hnl := HNL.out i hlt
              obtain ⟨ov, hov⟩ : ∃ v, v = num i := ⟨_, rfl⟩
              have HOV := hidW hov
              rw [← hov] at c2 hnl
              have hww : IntKind.i64.wrap ((c : Int) - 1) = (c : Int) - 1 := by rw [IntKind.wrap_i64]; omega
              have HNN : Hid (ValAt (wr.setCell ⟨nb, i, none⟩ (.int .i64 ((c : Int) - 1 - (ov : Int)))) nb N 3 (fun x => .int .i64 (if x < i + 1 then (c : Int) - 1 - (num x : Int) else (num x : Int)))) := (HNI.out.set i _).ext fun x _ => by
                unfold J.put
                by_cases e : x = i
                · rw [if_pos e, if_pos (by omega), e, HOV.out]
                · rw [if_neg e]
                  show Value.int IntKind.i64 (if x < i then _ else _) = _
                  by_cases e2 : x < i
                  · rw [if_pos e2, if_pos (by omega)]
                  · rw [if_neg e2, if_neg (by omega)]
              have HGN : Hid (w2.grownBy (wr.setCell ⟨nb, i, none⟩ (.int .i64 ((c : Int) - 1 - (ov : Int)))) none) := grown_new HG.out (grown_setCell _ _ _) (by have h1 := HSN.out.1; have h2 := HSN.out.2; omega)
              clear hov
              go_wp2_with fail
              go_roundg (N - (i + 1))
              all_goals first
                | exact (show ∃ (i' : Nat), _ from ⟨i + 1, by omega, rfl, by go_num, HNN.out, HGN.out⟩)
                | (have := HGK.out; omega)
            · have hin : N = i := by omega
              subst hin
              have hid : decide (N < N) = false := decide_eq_false (by omega)
              have HNF : Hid (ValAt wr nb N 3 (fun x => .int .i64 ((c : Int) - 1 - (num x : Int)))) := HNI.out.ext fun x hx => by rw [if_pos hx]
              have HGF : Hid (w.grownBy wr none) := grown_trans HG2.out HG.out
              have HNB' : Hid (w.heap.size ≤ nb) := by have h1 := HSN.out.1; have h2 := HSN.out.2; have h3 := HG2.out.size; show _ ≤ _; omega
              go_wp2_with fail
              go_ret2
              exact ⟨nb, c, num, S, rfl, HNF.out, HNB.out, HSA.out, hcN, HNB'.out, HGF.out⟩

end Go.Proofs.YtjijagnpcmonbaaDoor.J

/-
  digraph: the document's Right.
-/
namespace Go.Proofs.YtjijagnpcmonbaaDoor.J
open Go.RowKit Go.Maps Go.Shelf

attribute [local go_sem] Oper.semAt_some

set_option maxRecDepth 100000 in
set_option maxHeartbeats 2000000 in
theorem rright_any (ea : Option Addr) (N ec : Nat) (Q : Nat → List Int) (ua : Nat → Option Addr) (uc : Nat → Nat) (w : World) (hL : LwAt w ea N Q ua uc) (hN : N ≤ 17592186044416) (hQ : ∀ i, i < N → (Q i).length ≤ 17592186044416) (r : Bool) (hr : r = true ↔ ∀ i, i < N → ∀ x ∈ Q i, 0 ≤ x ∧ x < (N : Int)) :
    Calls Tryd.prog 18 #[.slice ea N ec] w fun e y => e = .returned (.bool r) ∧ y = w := by
  have HL := show Hid _ from hL
  have HQ := show Hid _ from hQ
  have HR : Hid (r = true ↔ ∀ i, i < N → ∀ x ∈ Q i, 0 ≤ x ∧ x < (N : Int)) := hr
  clear hL hQ hr
  go_enter Tryd.func18, Tryd.ntmps18
  go_wp2_with fail
  go_loopg [3] N (fun gk v3 wr => ∃ (i : Nat), i ≤ N ∧ gk = N - i ∧ v3 = .int .i64 i ∧ wr = w ∧ ∀ j, j < i → ∀ x ∈ Q j, 0 ≤ x ∧ x < (N : Int))
  case atStart => exact ⟨0, Nat.zero_le _, rfl, rfl, rfl, fun j hj => absurd hj (Nat.not_lt_zero _)⟩
  case round =>
    obtain ⟨i, hi, hgk, rfl, hw, hA⟩ := hrel
    subst hw
    have HGK : Hid (gk = N - i) := hgk
    have HA : Hid (∀ j, j < i → ∀ x ∈ Q j, 0 ≤ x ∧ x < (N : Int)) := hA
    clear hgk hA
    by_cases hlt : i < N
    · have hid : decide (i < N) = true := decide_eq_true hlt
      have hi0 : (0 : Int) ≤ (i : Int) := by omega
      have hi1 : (i : Int) < (N : Int) := by omega
      obtain ⟨kb, ko, hkb, hke, hkI⟩ : ∃ kb ko, ea = some ⟨kb, ko, none⟩ ∧ wr.cell? ⟨kb, ko + i, none⟩ = some (.slice (ua i) (Q i).length (uc i)) ∧ IntsAt wr (ua i) (Q i) := by
        obtain ⟨h1, h2⟩ := HL.out
        rcases h1 with h1 | ⟨kb, ko, e, h1⟩
        · omega
        · exact ⟨kb, ko, e, h1 i hlt, h2 i hlt⟩
      subst hkb
      obtain ⟨m, hm⟩ : ∃ m, m = (Q i).length := ⟨_, rfl⟩
      obtain ⟨uai, huai⟩ : ∃ m, m = ua i := ⟨_, rfl⟩
      obtain ⟨uci, huci⟩ : ∃ m, m = uc i := ⟨_, rfl⟩
      rw [← hm, ← huai, ← huci] at hke
      rw [← huai] at hkI
      have HM : Hid (m = (Q i).length) := hm
      have hmb : m ≤ 17592186044416 := by rw [hm]; exact HQ.out i hlt
      have HKI := show Hid _ from hkI
      clear hm huai huci hkI
      go_wp2_with fail
      go_loopg [4] m (fun gk v4 wr' => ∃ (j : Nat), j ≤ m ∧ gk = m - j ∧ v4 = .int .i64 j ∧ wr' = wr ∧ ∀ k, k < j → 0 ≤ (Q i).getD k 0 ∧ (Q i).getD k 0 < (N : Int))
      case atStart => exact ⟨0, Nat.zero_le _, rfl, rfl, rfl, fun j hj => absurd hj (Nat.not_lt_zero _)⟩
      case round =>
        obtain ⟨j, hj, hgj, rfl, hw, hB⟩ := hrel
        subst hw
        have HGJ : Hid (gk = m - j) := hgj
        have HB : Hid (∀ k, k < j → 0 ≤ (Q i).getD k 0 ∧ (Q i).getD k 0 < (N : Int)) := hB
        clear hgj hB
        by_cases hjl : j < m
        · have hjd : decide (j < m) = true := decide_eq_true hjl
          have hj0 : (0 : Int) ≤ (j : Int) := by omega
          have hj1 : (j : Int) < (m : Int) := by omega
          have hjl2 : j < (Q i).length := by rw [← HM.out]; exact hjl
          obtain ⟨rb, ro, hrb, c0⟩ : ∃ rb ro, uai = some ⟨rb, ro, none⟩ ∧ wr.cell? ⟨rb, ro + j, none⟩ = some (.int .i64 ((Q i).getD j 0)) := by
            rcases HKI.out with h | ⟨rb, ro, e, h⟩
            · rw [h] at hjl2; cases hjl2
            · exact ⟨rb, ro, e, h j hjl2⟩
          subst hrb
          have hxm : (Q i).getD j 0 ∈ Q i := by rw [List.getD_eq_getElem?_getD, List.getElem?_eq_getElem hjl2]; exact List.getElem_mem hjl2
          obtain ⟨x, hx⟩ : ∃ x, x = (Q i).getD j 0 := ⟨_, rfl⟩
          have HX : Hid (x = (Q i).getD j 0) := hx
          rw [← hx] at c0 hxm
          clear hx
          by_cases h0 : x < 0
          · have hd0 : decide (x < 0) = true := decide_eq_true h0
            have HF : Hid (false = r) := by
              show _ = _
              cases hrr : r with
              | false => rfl
              | true => have := HR.out.1 hrr i hlt x hxm; omega
            clear h0 hxm
            go_wp2_with fail
            go_ret
            exact ⟨congrArg (fun b => Ending.returned (Value.bool b)) HF.out, rfl⟩
          · have hd0 : decide (x < 0) = false := decide_eq_false h0
            by_cases h1 : x < (N : Int)
            · have hd1 : decide ((N : Int) ≤ x) = false := decide_eq_false (by omega)
              have HB2 : Hid (∀ k, k < j + 1 → 0 ≤ (Q i).getD k 0 ∧ (Q i).getD k 0 < (N : Int)) := fun k hk => by
                by_cases e : k = j
                · rw [e, ← HX.out]; exact ⟨by omega, h1⟩
                · exact HB.out k (by omega)
              clear h0 h1 hxm
              go_wp2_with fail
              go_roundg (m - (j + 1))
              case measure => have := HGJ.out; omega
              case rel => exact ⟨j + 1, by omega, rfl, by go_num, rfl, HB2.out⟩
            · have hd1 : decide ((N : Int) ≤ x) = true := decide_eq_true (by omega)
              have HF : Hid (false = r) := by
                show _ = _
                cases hrr : r with
                | false => rfl
                | true => have := HR.out.1 hrr i hlt x hxm; omega
              clear h0 h1 hxm
              go_wp2_with fail
              go_ret
              exact ⟨congrArg (fun b => Ending.returned (Value.bool b)) HF.out, rfl⟩
        · have hjm : m = j := by omega
          subst hjm
          have hjd : decide (m < m) = false := decide_eq_false (by omega)
          have HA2 : Hid (∀ j, j < i + 1 → ∀ x ∈ Q j, 0 ≤ x ∧ x < (N : Int)) := fun j hj x hx => by
            by_cases e : j = i
            · subst e
              obtain ⟨k, hk, e2⟩ := List.getElem_of_mem hx
              have := HB.out k (by rw [HM.out]; exact hk)
              rw [List.getD_eq_getElem?_getD, List.getElem?_eq_getElem hk, e2] at this
              exact this
            · exact HA.out j (by omega) x hx
          go_wp2_with fail
          go_roundg (N - (i + 1))
          case measure => have := HGK.out; omega
          case rel => exact ⟨i + 1, by omega, rfl, by go_num, rfl, HA2.out⟩
    · have hin : N = i := by omega
      subst hin
      have hid : decide (N < N) = false := decide_eq_false (by omega)
      have HF : Hid (true = r) := (HR.out.2 HA.out).symm
      go_wp2_with fail
      go_ret
      exact ⟨congrArg (fun b => Ending.returned (Value.bool b)) HF.out, rfl⟩

end Go.Proofs.YtjijagnpcmonbaaDoor.J

/-
  digraph: the document's Components: a node is laid to its component: a region as a declaration of its own (printed by tools/d_rcreg.py).
-/
namespace Go.Proofs.YtjijagnpcmonbaaDoor.J
open Go.RowKit Go.Maps Go.Shelf D

attribute [local go_sem] Oper.semAt_some
attribute [local go_sem ↓] Go.wp_at_zero Go.wp_at_succ

noncomputable def rcR : Code := ((Tryd.f7.body.map (regionsJ 12)).getD []).getD 0 .skip

end Go.Proofs.YtjijagnpcmonbaaDoor.J

/-
  digraph: the document's Components.
-/
namespace Go.Proofs.YtjijagnpcmonbaaDoor.J
open Go.RowKit Go.Maps Go.Shelf D

attribute [local go_sem] Oper.semAt_some

end Go.Proofs.YtjijagnpcmonbaaDoor.J
