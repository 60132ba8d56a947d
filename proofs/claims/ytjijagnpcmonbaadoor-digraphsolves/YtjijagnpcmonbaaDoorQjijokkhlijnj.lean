import Derived.Test.YtjijagnpcmonbaaDoorQhjaphfjdidgb
import Derived.Test.YtjijagnpcmonbaaDoorQfiikppghldig
import Derived.LaidEqlPtr
import Derived.Test.YtjijagnpcmonbaaDoorQdogogoehhlbo
import Derived.Test.YtjijagnpcmonbaaDoorQnnmihbhjdhoa
import Derived.Test.YtjijagnpcmonbaaDoorQboobcegjoggh
import Derived.Deep.RegionHeld3

/-
  digraph: shares.
-/
namespace Go.Proofs.YtjijagnpcmonbaaDoor.J
open Go.RowKit Go.Maps Go.Shelf D

attribute [local go_sem] Oper.semAt_some

theorem infoShare : (Tryd.prog.info? 46).map (fun i => (i.zero, i.size, i.bytes)) = some (some (.agg #[.pointer none, .pointer none]), 2, 16) := by kernel_rfl

theorem neq_of_eql {P : Program} {w : World} {tp : TypeId} {p q : Option Addr} {b : Bool} (h : (binOp .eql tp (.pointer p) (.pointer q)).run P w = .ok (.bool b) w) : (binOp .neq tp (.pointer p) (.pointer q)).run P w = .ok (.bool (!b)) w := by
  simp only [binOp] at h ⊢
  cases hr : (Op.equal tp (.pointer p) (.pointer q)).run P w with
  | ok v w' =>
    simp [hr] at h ⊢
    exact h
  | halt x w' => simp [hr] at h

set_option maxRecDepth 100000 in
set_option maxHeartbeats 1000000 in
theorem givesAnew_any (w : World) (s t k : Nat) (ps : Value) (h : w.heap[s]? = some (.cells #[ps, .pointer (some ⟨t, 0, none⟩)] 46 (0, 0))) (ht : ∃ cs ty, w.heap[t]? = some (.cells cs ty (0, 0))) (hk : ∃ cs ty, w.heap[k]? = some (.cells cs ty (0, 0))) (r : Bool) (hr : r = true ↔ t ≠ k) :
    Calls Tryd.prog 23 #[.pointer (some ⟨s, 0, none⟩), .pointer (some ⟨k, 0, none⟩)] w fun e y => e = .returned (.bool r) ∧ y = w.setCell ⟨s, 1, none⟩ (.pointer (some ⟨k, 0, none⟩)) := by
  have c1 : w.cell? ⟨s, 1, none⟩ = some (.pointer (some ⟨t, 0, none⟩)) := by rw [cell_of_row _ _ _ _ _ _ h]; rfl
  have f1 : w.frozen? ⟨s, 1, none⟩ = false := frozen_of_row _ _ _ _ _ h
  have hq : (binOp .neq 42 (.pointer (some ⟨t, 0, none⟩)) (.pointer (some ⟨k, 0, none⟩))).run Tryd.prog w = .ok (.bool r) w := by
    obtain ⟨i0, hi0, hz0, hz1, hz2⟩ := info_parts infoShare
    by_cases e : t = k
    · subst e
      have e2 : r = false := by cases r with
        | false => rfl
        | true => exact absurd rfl (hr.1 rfl)
      rw [e2]
      exact neq_of_eql (run_eql_ptr_same w _ Tryd.underlying42 hi0)
    · have e2 : r = true := hr.2 e
      obtain ⟨c1, t1, h1⟩ := ht
      obtain ⟨c2, t2, h2⟩ := hk
      rw [e2]
      exact neq_of_eql (run_eql_ptr_other w Tryd.underlying42 hi0 (by rw [hz1]; decide) (fun h => e (congrArg Addr.block h)) h1 h2)
  clear h ht hk hr
  go_enter Tryd.func23, Tryd.ntmps23
  go_wp2_with fail
  go_ret
  exact ⟨rfl, rfl⟩

/-- What newShare tells. -/
def NewTold (w : World) (e : Ending) (y : World) : Prop := ∃ s b, e = .returned (.pointer (some ⟨s, 0, none⟩)) ∧ y.heap[s]? = some (.cells #[.pointer (some ⟨b, 0, none⟩), .pointer (some ⟨s, 0, none⟩)] 46 (0, 0)) ∧ B.SetM y (some ⟨b, 0, none⟩) 1024 0 ∧ w.heap.size ≤ b ∧ w.heap.size ≤ s ∧ w.grownBy y none

set_option maxRecDepth 100000 in
set_option maxHeartbeats 1000000 in
theorem newShare_any (w : World) : Calls Tryd.prog 21 #[] w fun e y => NewTold w e y := by
  have HOF := show Hid _ from B.of_any 1024 none 0 [] w (.inl rfl) (by decide)
  go_enter Tryd.func21, Tryd.ntmps21
  go_wp2_with fail
  refine Calls.mono HOF.out ?_
  rintro e w1 ⟨rfl, hs, hb⟩
  have e1 : B.clampN 1024 = 1024 := by unfold B.clampN; omega
  have e2 : ∀ n, (B.addS n 0 []).1 = 0 := fun _ => rfl
  rw [e2, e1] at hs
  have HS : Hid (B.SetM w1 (some ⟨w.heap.size, 0, none⟩) 1024 0) := hs
  clear e1 e2
  have HG : Hid (w.grownBy w1 none) := below_grown hb
  clear hs hb HOF
  go_wp2_with fail
  go_ret
  refine ⟨w1.heap.size, w.heap.size, rfl, heap_alloc_last w1 _, HS.out.keep (grown_below0 (World.grownBy_alloc _ _ none)), Nat.le_refl _, HG.out.size, grown_trans HG.out (World.grownBy_alloc _ _ none)⟩

end Go.Proofs.YtjijagnpcmonbaaDoor.J

/-
  digraph: the shares of what was handed over, in memory.
-/
namespace Go.Proofs.YtjijagnpcmonbaaDoor.J
open Go.RowKit Go.Maps Go.Shelf D

/-- What Solve's taker leaves: blocks of other things than shares, their sets, and rows of these. -/
structure KeepS (X Y : World) : Prop where
  size : X.heap.size ≤ Y.heap.size
  block : ∀ (k : Nat) (cs : Array Value) (t : TypeId), X.heap[k]? = some (.cells cs t (0, 0)) → t ≠ 42 → t ≠ 46 → t ≠ 67 → t ≠ 44 → Y.heap[k]? = some (.cells cs t (0, 0))
theorem KeepS.refl (X : World) : KeepS X X := ⟨Nat.le_refl _, fun _ _ _ h _ _ _ _ => h⟩
theorem KeepS.trans {X Y Z : World} (h : KeepS X Y) (k : KeepS Y Z) : KeepS X Z := ⟨Nat.le_trans h.size k.size, fun b cs t h1 h2 h3 h4 h5 => k.block b cs t (h.block b cs t h1 h2 h3 h4 h5) h2 h3 h4 h5⟩
theorem KeepS.none_ {X Y : World} (h : X.grownBy Y none) : KeepS X Y := ⟨h.size, fun _ _ _ h1 _ _ _ _ => box_kept h1 h⟩
theorem KeepS.one {X Y : World} {b : Nat} {cs : Array Value} {t : TypeId} (h : X.grownBy Y (some b)) (hb : X.heap[b]? = some (.cells cs t (0, 0))) (ht : t = 42 ∨ t = 46 ∨ t = 67 ∨ t = 44) : KeepS X Y :=
  ⟨h.size, fun k cs' t' h1 h2 h3 h4 h5 => (h.block k (Array.getElem?_eq_some_iff.1 h1).1 (by
    intro e
    have e2 : k = b := by simpa using e
    subst e2
    rw [hb] at h1
    simp only [Option.some.injEq, Obj.cells.injEq] at h1
    rw [← h1.2.1] at h2 h3 h4 h5
    rcases ht with h | h | h | h
    · exact h2 h
    · exact h3 h
    · exact h4 h
    · exact h5 h)).trans h1⟩
theorem KeepS.hand {X Y : World} (B : Nat) (h : KeepS X Y) : HKeep B X Y := ⟨h.size, fun k cs t h1 h2 => h.block k cs t h1 (by rcases h2 with rfl | rfl | ⟨rfl, _⟩ <;> decide) (by rcases h2 with rfl | rfl | ⟨rfl, _⟩ <;> decide) (by rcases h2 with rfl | rfl | ⟨rfl, _⟩ <;> decide) (by rcases h2 with rfl | rfl | ⟨rfl, _⟩ <;> decide)⟩

/-- A share in memory: its set, and to which it gave last. -/
structure ShAt (X : World) (lo s b t m : Nat) : Prop where
  cel : X.heap[s]? = some (.cells #[.pointer (some ⟨b, 0, none⟩), .pointer (some ⟨t, 0, none⟩)] 46 (0, 0))
  set : B.SetM X (some ⟨b, 0, none⟩) 1024 m
  tak : ∃ cs, X.heap[t]? = some (.cells cs 46 (0, 0))
  los : lo ≤ s ∧ lo ≤ b
/-- The shares of what was handed over. -/
structure SiAt (w X : World) (N p1 sm p2 p3 : Nat) (oa ea : Option Addr) (oc ec : Nat) (C : Nat → Bool) (sh bs tk mk : Nat → Nat) : Prop where
  grown : w.grownBy X none
  b1 : X.heap[p1]? = some (.cells #[.slice (some ⟨sm, 0, none⟩) N N] 41 (0, 0))
  b2 : X.heap[p2]? = some (.cells #[.slice oa N oc] 22 (0, 0))
  b3 : X.heap[p3]? = some (.cells #[.slice ea N ec] 22 (0, 0))
  val : ValAt X sm N 42 (fun i => if C i = true then .pointer (some ⟨sh i, 0, none⟩) else .pointer none)
  lo : w.heap.size ≤ sm
  each : ∀ x, x < N → C x = true → ShAt X w.heap.size (sh x) (bs (sh x)) (tk (sh x)) (mk (sh x))

theorem setM_block {X Y : World} {b m : Nat} (h : B.SetM X (some ⟨b, 0, none⟩) 1024 m) (hk : ∀ cs, X.heap[b]? = some (.cells cs 67 (0, 0)) → Y.heap[b]? = some (.cells cs 67 (0, 0))) : B.SetM Y (some ⟨b, 0, none⟩) 1024 m := by
  obtain ⟨h1, h2, h3⟩ := h
  refine ⟨h1, h2, ?_⟩
  rcases h3 with h3 | ⟨b', e, h4⟩
  · exact .inl h3
  · have e2 : b' = b := by simpa using e.symm
    subst e2
    exact .inr ⟨b', rfl, hk _ h4⟩
theorem ShAt.skept {X Y : World} {B' lo s b t m : Nat} (h : ShAt X lo s b t m) (hk : SKeep B' X Y) : ShAt Y lo s b t m := by
  have key : ∀ {k : Nat} {cs : Array Value} {t : TypeId}, X.heap[k]? = some (.cells cs t (0, 0)) → t ≠ 57 → t ≠ 78 → t ≠ 3 → Y.heap[k]? = some (.cells cs t (0, 0)) := fun {k cs t} h1 h2 h3 h4 => (hk.block k (Array.getElem?_eq_some_iff.1 h1).1 (.inr ⟨cs, t, _, h1, h2, h3, h4⟩)).trans h1
  obtain ⟨cs, hcs⟩ := h.tak
  exact ⟨key h.cel (by decide) (by decide) (by decide), setM_block h.set fun _ h1 => key h1 (by decide) (by decide) (by decide), ⟨cs, key hcs (by decide) (by decide) (by decide)⟩, h.los⟩
theorem SiAt.skept {w X Y : World} {N p1 sm p2 p3 B' : Nat} {oa ea : Option Addr} {oc ec : Nat} {C : Nat → Bool} {sh bs tk mk : Nat → Nat} (h : SiAt w X N p1 sm p2 p3 oa ea oc ec C sh bs tk mk) (hB : w.heap.size ≤ B') (hk : SKeep B' X Y) : SiAt w Y N p1 sm p2 p3 oa ea oc ec C sh bs tk mk := by
  have key : ∀ {k : Nat} {cs : Array Value} {t : TypeId}, X.heap[k]? = some (.cells cs t (0, 0)) → t ≠ 57 → t ≠ 78 → t ≠ 3 → Y.heap[k]? = some (.cells cs t (0, 0)) := fun {k cs t} h1 h2 h3 h4 => (hk.block k (Array.getElem?_eq_some_iff.1 h1).1 (.inr ⟨cs, t, _, h1, h2, h3, h4⟩)).trans h1
  exact ⟨hk.grown h.grown hB, key h.b1 (by decide) (by decide) (by decide), key h.b2 (by decide) (by decide) (by decide), key h.b3 (by decide) (by decide) (by decide), key h.val (by decide) (by decide) (by decide), h.lo, fun x hx hC => (h.each x hx hC).skept hk⟩

end Go.Proofs.YtjijagnpcmonbaaDoor.J

/-
  digraph: numbers added to a set, and sets united, in the words of Solve.
-/
namespace Go.Proofs.YtjijagnpcmonbaaDoor.J
open Go.RowKit Go.Maps Go.Shelf D

theorem but_grown {b : Nat} {w w' : World} (h : B.But b w w') : w.grownBy w' (some b) := ⟨h.os, h.tape, h.output, h.size, fun k hk hne => h.block k hk (by simpa using hne)⟩

theorem add_all (b m cap : Nat) (a : Option Addr) (l : List Int) (w : World) (hS : B.SetM w (some ⟨b, 0, none⟩) 1024 m) (hI : IntsAt w a l) (hne : l ≠ [] → ∀ rb ro, a = some ⟨rb, ro, none⟩ → rb ≠ b) (hlen : l.length ≤ 17592186044416) :
    Calls Tryd.prog 22 #[.pointer (some ⟨b, 0, none⟩), .slice a l.length cap] w fun e w' => (∃ z, e = .returned (.int .i64 z)) ∧ B.SetM w' (some ⟨b, 0, none⟩) 1024 (B.addS 1024 m l).1 ∧ w.grownBy w' (some b) := by
  by_cases hl : l = []
  · subst hl
    refine (B.add_none a cap (some ⟨b, 0, none⟩) w).mono ?_
    rintro e w' ⟨rfl, rfl⟩
    exact ⟨⟨_, rfl⟩, hS, grown_refl _ _⟩
  · obtain ⟨rb, ro, e, h⟩ := hI.resolve_left hl
    subst e
    refine (B.add_row b 1024 m rb ro cap l w hS.1 hS.2.1 (SetM_row hS) (hne hl rb ro rfl) (by omega) h).mono ?_
    rintro e w' ⟨rfl, h1, h2, h3⟩
    exact ⟨⟨_, rfl⟩, ⟨hS.1, h2, .inr ⟨b, rfl, h1⟩⟩, but_grown h3⟩

/-- Sets, as they are handed to Union. -/
def uL (L : List (Nat × Nat)) : List (Option Addr × Nat) := L.map fun e => (some ⟨e.1, 0, none⟩, e.2)
theorem uS_bit (n j : Nat) : ∀ (L : List (Nat × Nat)) (m : Nat), (∀ e ∈ L, e.2 < 2 ^ n) → ((B.uS n m (uL L)).testBit j = true ↔ (m.testBit j = true ∨ ∃ e ∈ L, e.2.testBit j = true))
  | [], m, _ => by unfold B.uS uL; simp
  | e :: L, m, h => by
    have ih := uS_bit n j L (m ||| (e.2 &&& (2 ^ n - 1))) fun x hx => h x (List.mem_cons_of_mem _ hx)
    have e1 : B.uS n m (uL (e :: L)) = B.uS n (m ||| (e.2 &&& (2 ^ n - 1))) (uL L) := rfl
    have e2 : e.2 &&& (2 ^ n - 1) = e.2 := by rw [Nat.and_two_pow_sub_one_eq_mod]; exact Nat.mod_eq_of_lt (h e (List.mem_cons_self ..))
    rw [e1, ih, e2, Nat.testBit_or, Bool.or_eq_true]
    constructor
    · rintro ((h1 | h1) | ⟨x, hx, h1⟩)
      · exact .inl h1
      · exact .inr ⟨e, List.mem_cons_self .., h1⟩
      · exact .inr ⟨x, List.mem_cons_of_mem _ hx, h1⟩
    · rintro (h1 | ⟨x, hx, h1⟩)
      · exact .inl (.inl h1)
      · rcases List.mem_cons.1 hx with rfl | hx
        · exact .inl (.inr h1)
        · exact .inr ⟨x, hx, h1⟩

theorem union_all (b m cap : Nat) (a : Option Addr) (L : List (Nat × Nat)) (w : World) (hS : B.SetM w (some ⟨b, 0, none⟩) 1024 m) (hc : L = [] ∨ ∃ bl off, a = some ⟨bl, off, none⟩ ∧ bl ≠ b ∧ bl < w.heap.size ∧ ∀ i, i < L.length → w.cell? ⟨bl, off + i, none⟩ = some (.pointer (some ⟨(L.getD i (0, 0)).1, 0, none⟩))) (ho : ∀ e ∈ L, e.1 ≠ b ∧ B.SetM w (some ⟨e.1, 0, none⟩) 1024 e.2) (hlen : L.length ≤ 17592186044416) :
    Calls Tryd.prog 24 #[.pointer (some ⟨b, 0, none⟩), .slice a L.length cap] w fun e w' => (∃ z, e = .returned (.int .i64 z)) ∧ B.SetM w' (some ⟨b, 0, none⟩) 1024 (B.uS 1024 m (uL L)) ∧ w.grownBy w' (some b) := by
  rcases hc with h | ⟨bl, off, e, hne, hbl, h⟩
  · subst h
    refine (B.union_none b 1024 m B.cnt a cap w (SetM_row hS) hS.1 hS.2.1 B.countIs cnt_le).mono ?_
    rintro e w' ⟨rfl, hb⟩
    exact ⟨⟨_, rfl⟩, hS.keep hb, grown_but _ (below_grown hb)⟩
  · subst e
    have hll : (uL L).length = L.length := by unfold uL; simp
    have hg : ∀ i, i < L.length → (uL L).getD i (none, 0) = (some ⟨(L.getD i (0, 0)).1, 0, none⟩, (L.getD i (0, 0)).2) := fun i hi => by
      unfold uL
      rw [List.getD_eq_getElem?_getD, List.getElem?_map, List.getElem?_eq_getElem hi, List.getD_eq_getElem?_getD, List.getElem?_eq_getElem hi]
      rfl
    have hu := B.union_core b 1024 m bl off cap B.cnt (uL L) w B.countIs cnt_le hS.1 hS.2.1 (SetM_row hS) hne (by rw [hll]; omega) hbl (fun i hi => by
      rw [hll] at hi
      rw [hg i hi]
      exact h i hi) (fun i hi => by
      rw [hll] at hi
      rw [hg i hi]
      have hm : L.getD i (0, 0) ∈ L := by rw [List.getD_eq_getElem?_getD, List.getElem?_eq_getElem hi]; exact List.getElem_mem hi
      obtain ⟨h1, h2⟩ := ho _ hm
      exact .inr ⟨fun e => h1 (congrArg Addr.block (Option.some.inj e)), 1024, h2⟩)
    rw [hll] at hu
    refine hu.mono ?_
    rintro e w' ⟨rfl, h1, h3⟩
    exact ⟨⟨_, rfl⟩, ⟨hS.1, B.uS_lt 1024 m (uL L) hS.2.1, .inr ⟨b, rfl, h1⟩⟩, but_grown h3⟩

end Go.Proofs.YtjijagnpcmonbaaDoor.J

/-
  digraph: while Solve's taker is at work.
-/
namespace Go.Proofs.YtjijagnpcmonbaaDoor.J
open Go.RowKit Go.Maps Go.Shelf D

/-- The shares, with a new one: nodes of D have it already. -/
structure SnAt (w X : World) (N p1 sm p2 p3 : Nat) (oa ea : Option Addr) (oc ec : Nat) (C : Nat → Bool) (sh bs tk mk : Nat → Nat) (s b m : Nat) (D : Nat → Bool) : Prop where
  grown : w.grownBy X none
  b1 : X.heap[p1]? = some (.cells #[.slice (some ⟨sm, 0, none⟩) N N] 41 (0, 0))
  b2 : X.heap[p2]? = some (.cells #[.slice oa N oc] 22 (0, 0))
  b3 : X.heap[p3]? = some (.cells #[.slice ea N ec] 22 (0, 0))
  val : ValAt X sm N 42 (fun i => if D i = true then .pointer (some ⟨s, 0, none⟩) else if C i = true then .pointer (some ⟨sh i, 0, none⟩) else .pointer none)
  lo : w.heap.size ≤ sm
  each : ∀ x, x < N → C x = true → ShAt X w.heap.size (sh x) (bs (sh x)) (tk (sh x)) (mk (sh x))
  new : ShAt X w.heap.size s b s m
  apart : ∀ x, x < N → C x = true → sh x ≠ s ∧ bs (sh x) ≠ b

/-- A share stays where another block turns. -/
theorem ShAt.beside {X Y : World} {lo s b t m k : Nat} {cs : Array Value} {ty : TypeId} (h : ShAt X lo s b t m) (hg : X.grownBy Y (some k)) (hk : X.heap[k]? = some (.cells cs ty (0, 0))) (hty : ty ≠ 46 ∧ (ty ≠ 67 ∨ b ≠ k)) : ShAt Y lo s b t m := by
  have key : ∀ {j : Nat} {cs' : Array Value} {t' : TypeId}, X.heap[j]? = some (.cells cs' t' (0, 0)) → j ≠ k → Y.heap[j]? = some (.cells cs' t' (0, 0)) := fun {j cs' t'} h1 h2 => (hg.block j (Array.getElem?_eq_some_iff.1 h1).1 (by simpa using h2)).trans h1
  obtain ⟨cs2, hcs2⟩ := h.tak
  refine ⟨key h.cel (ne_type h.cel hk fun e => hty.1 e.symm), setM_block h.set fun cs3 h3 => key h3 ?_, ⟨cs2, key hcs2 (ne_type hcs2 hk fun e => hty.1 e.symm)⟩, h.los⟩
  rcases hty.2 with h4 | h4
  · exact ne_type h3 hk fun e => h4 e.symm
  · exact h4

section
variable {w X Y : World} {N p1 sm p2 p3 : Nat} {oa ea : Option Addr} {oc ec : Nat} {C : Nat → Bool} {sh bs tk mk : Nat → Nat} {s b m : Nat} {D : Nat → Bool}
theorem SnAt.kept (h : SnAt w X N p1 sm p2 p3 oa ea oc ec C sh bs tk mk s b m D) (hg : X.grownBy Y none) : SnAt w Y N p1 sm p2 p3 oa ea oc ec C sh bs tk mk s b m D := by
  have sk : ∀ {s b t m : Nat}, ShAt X w.heap.size s b t m → ShAt Y w.heap.size s b t m := fun h1 => h1.skept (B' := 0) (.none_ hg)
  exact ⟨grown_trans h.grown hg, box_kept h.b1 hg, box_kept h.b2 hg, box_kept h.b3 hg, h.val.kept hg, h.lo, fun x hx hC => sk (h.each x hx hC), sk h.new, h.apart⟩
/-- A new share beside the old ones. -/
theorem SiAt.fresh (h : SiAt w X N p1 sm p2 p3 oa ea oc ec C sh bs tk mk) (hg : X.grownBy Y none) (hn : ShAt Y X.heap.size s b s 0) : SnAt w Y N p1 sm p2 p3 oa ea oc ec C sh bs tk mk s b 0 (fun _ => false) := by
  have sk : ∀ {s b t m : Nat}, ShAt X w.heap.size s b t m → ShAt Y w.heap.size s b t m := fun h1 => h1.skept (B' := 0) (.none_ hg)
  refine ⟨grown_trans h.grown hg, box_kept h.b1 hg, box_kept h.b2 hg, box_kept h.b3 hg, (h.val.kept hg).ext fun i _ => by simp, h.lo, fun x hx hC => sk (h.each x hx hC), ⟨hn.cel, hn.set, hn.tak, Nat.le_trans h.grown.size hn.los.1, Nat.le_trans h.grown.size hn.los.2⟩, fun x hx hC => ?_⟩
  have h1 := h.each x hx hC
  have h2 := (Array.getElem?_eq_some_iff.1 h1.cel).1
  have h3 := (Array.getElem?_eq_some_iff.1 (SetM_row h1.set)).1
  have h4 := hn.los
  exact ⟨by omega, by omega⟩
/-- A node has the new share. -/
theorem SnAt.put {x : Nat} (h : SnAt w X N p1 sm p2 p3 oa ea oc ec C sh bs tk mk s b m D) : SnAt w (X.setCell ⟨sm, x, none⟩ (.pointer (some ⟨s, 0, none⟩))) N p1 sm p2 p3 oa ea oc ec C sh bs tk mk s b m (markT D x) ∧ KeepS X (X.setCell ⟨sm, x, none⟩ (.pointer (some ⟨s, 0, none⟩))) := by
  have hG : X.grownBy (X.setCell ⟨sm, x, none⟩ (.pointer (some ⟨s, 0, none⟩))) (some sm) := grown_setCell _ _ _
  refine ⟨⟨grown_new h.grown hG h.lo, set_ne h.b1 (ne_type h.b1 h.val (by decide)), set_ne h.b2 (ne_type h.b2 h.val (by decide)), set_ne h.b3 (ne_type h.b3 h.val (by decide)), (h.val.set x _).ext fun i _ => ?_, h.lo, fun y hy hC => (h.each y hy hC).beside hG h.val ⟨by decide, .inl (by decide)⟩, h.new.beside hG h.val ⟨by decide, .inl (by decide)⟩, h.apart⟩, .one hG h.val (.inl rfl)⟩
  unfold J.put markT
  by_cases e : i = x
  · simp [e]
  · simp [e]
/-- Numbers come to the new share's set. -/
theorem SnAt.more {m' : Nat} (h : SnAt w X N p1 sm p2 p3 oa ea oc ec C sh bs tk mk s b m D) (hg : X.grownBy Y (some b)) (hS : B.SetM Y (some ⟨b, 0, none⟩) 1024 m') : SnAt w Y N p1 sm p2 p3 oa ea oc ec C sh bs tk mk s b m' D ∧ KeepS X Y := by
  have hb := SetM_row h.new.set
  have key : ∀ {j : Nat} {cs' : Array Value} {t' : TypeId}, X.heap[j]? = some (.cells cs' t' (0, 0)) → t' ≠ 67 → Y.heap[j]? = some (.cells cs' t' (0, 0)) := fun {j cs' t'} h1 h2 => (hg.block j (Array.getElem?_eq_some_iff.1 h1).1 (by simpa using ne_type h1 hb h2)).trans h1
  obtain ⟨cs2, hcs2⟩ := h.new.tak
  exact ⟨⟨grown_new h.grown hg h.new.los.2, key h.b1 (by decide), key h.b2 (by decide), key h.b3 (by decide), key h.val (by decide), h.lo, fun x hx hC => (h.each x hx hC).beside hg hb ⟨by decide, .inr (h.apart x hx hC).2⟩, ⟨key h.new.cel (by decide), hS, ⟨cs2, key hcs2 (by decide)⟩, h.new.los⟩, h.apart⟩, .one hg hb (.inr (.inr (.inl rfl)))⟩
/-- An old share gave to the new one. -/
theorem SnAt.gave {x : Nat} (h : SnAt w X N p1 sm p2 p3 oa ea oc ec C sh bs tk mk s b m D) (hx : x < N) (hC : C x = true) : SnAt w (X.setCell ⟨sh x, 1, none⟩ (.pointer (some ⟨s, 0, none⟩))) N p1 sm p2 p3 oa ea oc ec C sh bs (upd tk (sh x) s) mk s b m D ∧ KeepS X (X.setCell ⟨sh x, 1, none⟩ (.pointer (some ⟨s, 0, none⟩))) := by
  have hX := h.each x hx hC
  have hG : X.grownBy (X.setCell ⟨sh x, 1, none⟩ (.pointer (some ⟨s, 0, none⟩))) (some (sh x)) := grown_setCell _ _ _
  have key : ∀ {j : Nat} {cs' : Array Value} {t' : TypeId}, X.heap[j]? = some (.cells cs' t' (0, 0)) → t' ≠ 46 → (X.setCell ⟨sh x, 1, none⟩ (.pointer (some ⟨s, 0, none⟩))).heap[j]? = some (.cells cs' t' (0, 0)) := fun h1 h2 => set_ne h1 (ne_type h1 hX.cel h2)
  have hnow : (X.setCell ⟨sh x, 1, none⟩ (.pointer (some ⟨s, 0, none⟩))).heap[sh x]? = some (.cells #[.pointer (some ⟨bs (sh x), 0, none⟩), .pointer (some ⟨s, 0, none⟩)] 46 (0, 0)) := by
    rw [heap_setCell_same _ _ _ _ _ _ hX.cel]; rfl
  have hsn : s ≠ sh x := fun e => (h.apart x hx hC).1 e.symm
  have hnew := set_ne (x := 1) (v := .pointer (some ⟨s, 0, none⟩)) h.new.cel hsn
  have tak : ∀ {t : Nat}, (∃ cs, X.heap[t]? = some (.cells cs 46 (0, 0))) → ∃ cs, (X.setCell ⟨sh x, 1, none⟩ (.pointer (some ⟨s, 0, none⟩))).heap[t]? = some (.cells cs 46 (0, 0)) := fun {t} ⟨cs, hcs⟩ => by
    by_cases e : t = sh x
    · rw [e]; exact ⟨_, hnow⟩
    · exact ⟨cs, set_ne hcs e⟩
  refine ⟨⟨grown_new h.grown hG hX.los.1, key h.b1 (by decide), key h.b2 (by decide), key h.b3 (by decide), key h.val (by decide), h.lo, fun y hy hCy => ?_, ⟨hnew, setM_block h.new.set fun _ h1 => key h1 (by decide), ⟨_, hnew⟩, h.new.los⟩, h.apart⟩, .one hG hX.cel (.inr (.inl rfl))⟩
  have hY := h.each y hy hCy
  by_cases e : sh y = sh x
  · rw [e] at hY ⊢
    rw [upd_same]
    exact ⟨hnow, setM_block hY.set fun _ h1 => key h1 (by decide), ⟨_, hnew⟩, hY.los⟩
  · rw [upd_other _ _ e]
    exact ⟨set_ne hY.cel e, setM_block hY.set fun _ h1 => key h1 (by decide), tak hY.tak, hY.los⟩
/-- The new share gives to itself: nothing turns. -/
theorem SnAt.self (h : SnAt w X N p1 sm p2 p3 oa ea oc ec C sh bs tk mk s b m D) : SnAt w (X.setCell ⟨s, 1, none⟩ (.pointer (some ⟨s, 0, none⟩))) N p1 sm p2 p3 oa ea oc ec C sh bs tk mk s b m D ∧ KeepS X (X.setCell ⟨s, 1, none⟩ (.pointer (some ⟨s, 0, none⟩))) := by
  have hG : X.grownBy (X.setCell ⟨s, 1, none⟩ (.pointer (some ⟨s, 0, none⟩))) (some s) := grown_setCell _ _ _
  have hnow : (X.setCell ⟨s, 1, none⟩ (.pointer (some ⟨s, 0, none⟩))).heap[s]? = some (.cells #[.pointer (some ⟨b, 0, none⟩), .pointer (some ⟨s, 0, none⟩)] 46 (0, 0)) := by
    rw [heap_setCell_same _ _ _ _ _ _ h.new.cel]; rfl
  have all : ∀ {j : Nat} {cs' : Array Value} {t' : TypeId}, X.heap[j]? = some (.cells cs' t' (0, 0)) → (X.setCell ⟨s, 1, none⟩ (.pointer (some ⟨s, 0, none⟩))).heap[j]? = some (.cells cs' t' (0, 0)) := fun {j cs' t'} h1 => by
    by_cases e : j = s
    · subst e
      rw [hnow, ← h1, h.new.cel]
    · exact set_ne h1 e
  have sk : ∀ {s' b' t' m' : Nat}, ShAt X w.heap.size s' b' t' m' → ShAt (X.setCell ⟨s, 1, none⟩ (.pointer (some ⟨s, 0, none⟩))) w.heap.size s' b' t' m' := fun h1 => by
    obtain ⟨cs, hcs⟩ := h1.tak
    exact ⟨all h1.cel, setM_block h1.set fun _ h2 => all h2, ⟨cs, all hcs⟩, h1.los⟩
  exact ⟨⟨grown_new h.grown hG h.new.los.1, all h.b1, all h.b2, all h.b3, all h.val, h.lo, fun x hx hC => sk (h.each x hx hC), sk h.new, h.apart⟩, .one hG h.new.cel (.inr (.inl rfl))⟩
end

end Go.Proofs.YtjijagnpcmonbaaDoor.J

/-
  digraph: the sets that are to be given, as a row of their own beside the shares.
-/
namespace Go.Proofs.YtjijagnpcmonbaaDoor.J
open Go.RowKit Go.Maps Go.Shelf D

/-- Sets, as cells. -/
def gvV (bs : Nat → Nat) (G : List Nat) : List Value := G.map fun σ => .pointer (some ⟨bs σ, 0, none⟩)
theorem gvV_append (bs : Nat → Nat) (G : List Nat) (σ : Nat) : gvV bs (G ++ [σ]) = gvV bs G ++ [.pointer (some ⟨bs σ, 0, none⟩)] := by unfold gvV; simp

section
variable {w X Y : World} {N p1 sm p2 p3 : Nat} {oa ea : Option Addr} {oc ec : Nat} {C : Nat → Bool} {sh bs tk mk : Nat → Nat} {s b m : Nat} {D : Nat → Bool}
/-- The shares stay where a row of sets turns. -/
theorem SnAt.row {B n : Nat} {v : Value} {xs : List Value} (h : SnAt w X N p1 sm p2 p3 oa ea oc ec C sh bs tk mk s b m D) (ho : X.ownsRow B 44 1 v n xs) (hB : w.heap.size ≤ B) (hg : X.grownBy Y v.ownBlock) : SnAt w Y N p1 sm p2 p3 oa ea oc ec C sh bs tk mk s b m D ∧ KeepS X Y := by
  rcases ho.2 with ⟨rfl, _⟩ | ⟨g, cap, cur, rfl, hb, hh, _⟩
  · exact ⟨h.kept hg, .none_ hg⟩
  · have key : ∀ {j : Nat} {cs' : Array Value} {t' : TypeId}, X.heap[j]? = some (.cells cs' t' (0, 0)) → t' ≠ 44 → Y.heap[j]? = some (.cells cs' t' (0, 0)) := fun {j cs' t'} h1 h2 => (hg.block j (Array.getElem?_eq_some_iff.1 h1).1 (by
      intro e
      have e2 : j = g := by simpa [Value.ownBlock] using e
      exact ne_type h1 hh h2 e2)).trans h1
    have sk : ∀ {s b t m : Nat}, ShAt X w.heap.size s b t m → ShAt Y w.heap.size s b t m := fun h1 => by
      obtain ⟨cs, hcs⟩ := h1.tak
      exact ⟨key h1.cel (by decide), setM_block h1.set fun _ h2 => key h2 (by decide), ⟨cs, key hcs (by decide)⟩, h1.los⟩
    exact ⟨⟨grown_new h.grown hg (Nat.le_trans hB hb), key h.b1 (by decide), key h.b2 (by decide), key h.b3 (by decide), key h.val (by decide), h.lo, fun x hx hC => sk (h.each x hx hC), sk h.new, h.apart⟩, .one hg hh (.inr (.inr (.inr rfl)))⟩
end
/-- A row of sets stays where a share turns. -/
theorem row_share {X : World} {B n k x : Nat} {v u : Value} {xs : List Value} {cs : Array Value} (ho : X.ownsRow B 44 1 v n xs) (hk : X.heap[k]? = some (.cells cs 46 (0, 0))) : (X.setCell ⟨k, x, none⟩ u).ownsRow B 44 1 v n xs := by
  refine ho.kept (grown_setCell _ _ _) ?_
  rcases ho.2 with ⟨rfl, _⟩ | ⟨g, cap, cur, rfl, hb, hh, _⟩
  · exact .inl rfl
  · refine .inr fun e => ?_
    have e2 : g = k := by simpa [Value.ownBlock] using e
    exact ne_type hh hk (by decide) e2

/-- As many shares as nodes at most. -/
theorem shares_len (N : Nat) (sh : Nat → Nat) (G : List Nat) (hn : G.Nodup) (h : ∀ σ ∈ G, ∃ t, t < N ∧ sh t = σ) : G.length ≤ N := by
  have hf : ∃ f : Nat → Nat, ∀ σ ∈ G, f σ < N ∧ sh (f σ) = σ := by
    classical
    refine ⟨fun σ => if hσ : σ ∈ G then (h σ hσ).choose else 0, fun σ hσ => ?_⟩
    simp only [dif_pos hσ]
    exact (h σ hσ).choose_spec
  obtain ⟨f, hf⟩ := hf
  have h1 := nodup_len N (G.map f) (by
    unfold List.Nodup at hn ⊢
    exact List.pairwise_map.2 (hn.imp_of_mem fun {x y} hx hy hxy e => hxy (by
      rw [← (hf _ hx).2, ← (hf _ hy).2, e]))) (fun x hx => by
    obtain ⟨σ, h2, rfl⟩ := List.mem_map.1 hx
    exact (hf σ h2).1)
  rwa [List.length_map] at h1

end Go.Proofs.YtjijagnpcmonbaaDoor.J

/-
  digraph: what Solve does with each component.
-/
namespace Go.Proofs.YtjijagnpcmonbaaDoor.J
open Go.RowKit Go.Maps Go.Shelf D

attribute [local go_sem] Oper.semAt_some

/-- The mask of the first k nodes' own numbers. -/
def ownM (own : Nat → List Int) (c : List Nat) : Nat → Nat
  | 0 => 0
  | k + 1 => (B.addS 1024 (ownM own c k) (own (c.getD k 0))).1
theorem ownM_bit (own : Nat → List Int) (c : List Nat) (j : Nat) (hj : j < 1024) : ∀ k, k ≤ c.length → ((ownM own c k).testBit j = true ↔ ∃ x ∈ c.take k, (j : Int) ∈ own x)
  | 0, _ => by simp [ownM]
  | k + 1, h => by
    have hk : k < c.length := by omega
    have e : c.getD k 0 = c[k] := by rw [List.getD_eq_getElem?_getD, List.getElem?_eq_getElem hk]; rfl
    unfold ownM
    rw [addS_bit, Bool.or_eq_true, ownM_bit own c j hj k (by omega), List.take_succ_eq_append_getElem hk, e]
    simp only [hj, decide_true, Bool.true_and, List.contains_iff_mem, List.mem_append, List.mem_singleton]
    constructor
    · rintro (⟨x, h1, h2⟩ | h2)
      · exact ⟨x, .inl h1, h2⟩
      · exact ⟨c[k], .inr rfl, h2⟩
    · rintro ⟨x, h1 | h1, h2⟩
      · exact .inl ⟨x, h1, h2⟩
      · subst h1; exact .inr h2
/-- Which nodes have the new share by then. -/
def doneD (c : List Nat) : Nat → (Nat → Bool)
  | 0 => fun _ => false
  | k + 1 => markT (doneD c k) (c.getD k 0)

theorem doneD_iff (c : List Nat) : ∀ k, k ≤ c.length → ∀ x, doneD c k x = true ↔ x ∈ c.take k
  | 0, _, x => by simp [doneD]
  | k + 1, h, x => by
    have hk : k < c.length := by omega
    have e : c.getD k 0 = c[k] := by rw [List.getD_eq_getElem?_getD, List.getElem?_eq_getElem hk]; rfl
    unfold doneD markT
    rw [e, List.take_succ_eq_append_getElem hk, List.mem_append, List.mem_singleton]
    by_cases e1 : x = c[k]
    · simp [e1]
    · rw [if_neg e1, doneD_iff c k (by omega)]
      simp [e1]
/-- To what the first k nodes lead, and the next one by its first j steps. -/
def prc (E : Nat → List Nat) (c : List Nat) (k j : Nat) : List Nat := (c.take k).flatMap E ++ (E (c.getD k 0)).take j
theorem prc_step (E : Nat → List Nat) (c : List Nat) (k j : Nat) (hj : j < (E (c.getD k 0)).length) : prc E c k (j + 1) = prc E c k j ++ [(E (c.getD k 0)).getD j 0] := by
  unfold prc
  have e : (E (c.getD k 0)).getD j 0 = (E (c.getD k 0))[j] := by rw [List.getD_eq_getElem?_getD, List.getElem?_eq_getElem hj]; rfl
  rw [e, List.take_succ_eq_append_getElem hj, List.append_assoc]
theorem prc_next (E : Nat → List Nat) (c : List Nat) (k : Nat) (hk : k < c.length) : prc E c (k + 1) 0 = prc E c k (E (c.getD k 0)).length := by
  unfold prc
  have e : c.getD k 0 = c[k] := by rw [List.getD_eq_getElem?_getD, List.getElem?_eq_getElem hk]; rfl
  rw [List.take_succ_eq_append_getElem hk, List.flatMap_append, e, List.take_length]
  simp
/-- What is to be given: the shares of what was led to. -/
structure GvP (N : Nat) (C : Nat → Bool) (sh tkv : Nat → Nat) (s : Nat) (G P : List Nat) : Prop where
  nd : G.Nodup
  tak : ∀ x, x < N → C x = true → (tkv (sh x) = s ↔ sh x ∈ G)
  frm : ∀ σ ∈ G, ∃ t ∈ P, t < N ∧ C t = true ∧ sh t = σ
  all : ∀ t ∈ P, t < N → C t = true → sh t ∈ G
theorem GvP.skip {N : Nat} {C : Nat → Bool} {sh tkv : Nat → Nat} {s t : Nat} {G P : List Nat} (h : GvP N C sh tkv s G P) (ht : C t = true → sh t ∈ G) : GvP N C sh tkv s G (P ++ [t]) :=
  ⟨h.nd, h.tak, fun σ hσ => by obtain ⟨t', h1, h2⟩ := h.frm σ hσ; exact ⟨t', List.mem_append_left _ h1, h2⟩, fun t' ht' hN hC => by
    rcases List.mem_append.1 ht' with h1 | h1
    · exact h.all t' h1 hN hC
    · rw [List.mem_singleton.1 h1] at hC ⊢; exact ht hC⟩
theorem GvP.same {N : Nat} {C : Nat → Bool} {sh tkv : Nat → Nat} {s t : Nat} {G P : List Nat} (h : GvP N C sh tkv s G P) (hG : sh t ∈ G) : GvP N C sh (upd tkv (sh t) s) s G (P ++ [t]) := by
  have h1 := h.skip (t := t) fun _ => hG
  refine ⟨h1.nd, fun x hx hC => ?_, h1.frm, h1.all⟩
  by_cases e : sh x = sh t
  · rw [e, upd_same]; simp [hG]
  · rw [upd_other _ _ e]; exact h.tak x hx hC
theorem GvP.give {N : Nat} {C : Nat → Bool} {sh tkv : Nat → Nat} {s t : Nat} {G P : List Nat} (h : GvP N C sh tkv s G P) (ht : t < N) (hC : C t = true) (hn : tkv (sh t) ≠ s) : GvP N C sh (upd tkv (sh t) s) s (G ++ [sh t]) (P ++ [t]) := by
  have hnG : sh t ∉ G := fun e => hn ((h.tak t ht hC).2 e)
  refine ⟨List.nodup_append.2 ⟨h.nd, List.pairwise_singleton _ _, fun a ha b hb e => hnG (by rw [← List.mem_singleton.1 hb, ← e]; exact ha)⟩, fun x hx hCx => ?_, fun σ hσ => ?_, fun t' ht' hN hCt => ?_⟩
  · by_cases e : sh x = sh t
    · rw [e, upd_same]; simp
    · rw [upd_other _ _ e, h.tak x hx hCx]; simp [e]
  · rcases List.mem_append.1 hσ with h1 | h1
    · obtain ⟨t', h2, h3⟩ := h.frm σ h1; exact ⟨t', List.mem_append_left _ h2, h3⟩
    · exact ⟨t, List.mem_append_right _ (List.mem_singleton.2 rfl), ht, hC, (List.mem_singleton.1 h1).symm⟩
  · rcases List.mem_append.1 ht' with h1 | h1
    · exact List.mem_append_left _ (h.all t' h1 hN hCt)
    · rw [List.mem_singleton.1 h1]; exact List.mem_append_right _ (List.mem_singleton.2 rfl)

theorem prc_all (E : Nat → List Nat) (c : List Nat) (t : Nat) : t ∈ prc E c c.length 0 ↔ ∃ z ∈ c, t ∈ E z := by
  unfold prc
  rw [List.take_length]
  simp [List.mem_flatMap]
theorem SnAt.fin {w X : World} {N p1 sm p2 p3 : Nat} {oa ea : Option Addr} {oc ec : Nat} {C : Nat → Bool} {sh bs tk mk : Nat → Nat} {s b m : Nat} {D : Nat → Bool} (h : SnAt w X N p1 sm p2 p3 oa ea oc ec C sh bs tk mk s b m D) {c : List Nat} (hD : ∀ x, D x = true ↔ x ∈ c) : SiAt w X N p1 sm p2 p3 oa ea oc ec (addC C c) (fun x => if D x = true then s else sh x) (upd bs s b) (upd tk s s) (upd mk s m) := by
  refine ⟨h.grown, h.b1, h.b2, h.b3, h.val.ext fun i _ => ?_, h.lo, fun x hx hC => ?_⟩
  · by_cases e : D i = true
    · have : addC C c i = true := (addC_iff _ _ _).2 (.inr ((hD i).1 e))
      simp only [e, this, if_true]
    · have : addC C c i = C i := by
        unfold addC
        have : ¬ i ∈ c := fun h => e ((hD i).2 h)
        simp [this]
      simp only [this, if_neg e]
  · by_cases e : D x = true
    · simp only [e, if_true]
      rw [upd_same, upd_same, upd_same]
      exact h.new
    · have hCx : C x = true := by
        rcases (addC_iff _ _ _).1 hC with h1 | h1
        · exact h1
        · exact absurd ((hD x).2 h1) e
      simp only [if_neg e]
      have hne := (h.apart x hx hCx).1
      rw [upd_other _ _ hne, upd_other _ _ hne, upd_other _ _ hne]
      exact h.each x hx hCx
theorem GvP.start {N : Nat} {C : Nat → Bool} {sh tk : Nat → Nat} {s : Nat} (h : ∀ x, x < N → C x = true → tk (sh x) ≠ s) : GvP N C sh tk s [] [] :=
  ⟨List.Pairwise.nil, fun x hx hC => ⟨fun e => absurd e (h x hx hC), fun e => (by cases e)⟩, fun _ h => (by cases h), fun _ h => (by cases h)⟩

theorem bit_aboveN {M n q : Nat} (h : M < 2 ^ n) (hq : n ≤ q) : M.testBit q = false :=
  Nat.testBit_lt_two_pow (Nat.lt_of_lt_of_le h (Nat.pow_le_pow_right (by decide) hq))
theorem bit_above {M q : Nat} (h : M < 2 ^ 1024) (hq : ¬ q < 1024) : M.testBit q = false := bit_aboveN h (Nat.le_of_not_lt hq)

theorem infoSetP : (Tryd.prog.info? 44).map (fun i => (i.zero, i.size, i.bytes)) = some (some (.pointer none), 1, 8) := by kernel_rfl

set_option maxRecDepth 100000 in
set_option maxHeartbeats 4000000 in
theorem solveF_any (w X : World) (N p1 sm p2 p3 Bq : Nat) (oa ea : Option Addr) (oc ec : Nat) (C : Nat → Bool) (sh bs tk mk : Nat → Nat) (h : SiAt w X N p1 sm p2 p3 oa ea oc ec C sh bs tk mk) (E : Nat → List Nat) (own : Nat → List Int) (oua eua : Nat → Option Addr) (ouc euc : Nat → Nat) (hO : LsAt w oa N own oua ouc) (hEd : LsAt w ea N (fun i => intL (E i)) eua euc) (hN : N ≤ 5864062014805) (hol : ∀ x, x < N → (own x).length ≤ 17592186044416) (hel : ∀ x, x < N → (E x).length ≤ 17592186044416) (hEN : ∀ x, x < N → ∀ y ∈ E x, y < N) (hob : ∀ x, x < N → ∀ v ∈ own x, 0 ≤ v ∧ v < 1024)
    (c : List Nat) (hc : CompP N E C c) (a : Option Addr) (cap : Nat) (hI : IntsAt X a (intL c)) (hab : ∀ rb ro, a = some ⟨rb, ro, none⟩ → ∃ cs, X.heap[rb]? = some (.cells cs 3 (0, 0))) :
    Calls Tryd.prog 20 #[.slice a c.length cap, .pointer (some ⟨p1, 0, none⟩), .pointer (some ⟨p2, 0, none⟩), .pointer (some ⟨p3, 0, none⟩)] X fun e y => e = .returned (.tuple #[]) ∧ (∃ sh' bs' tk' mk' M, SiAt w y N p1 sm p2 p3 oa ea oc ec (addC C c) sh' bs' tk' mk' ∧ (∀ x, x < N → addC C c x = true → mk' (sh' x) = if x ∈ c then M else mk (sh x)) ∧ ∀ b, M.testBit b = true ↔ ((∃ x ∈ c, (b : Int) ∈ own x) ∨ ∃ z ∈ c, ∃ t ∈ E z, C t = true ∧ (mk (sh t)).testBit b = true)) ∧ HKeep Bq X y := by
  have HC := show Hid _ from hc
  have HSI := show Hid _ from h
  have HO : Hid (LsAt w oa N own oua ouc) := hO
  have HED : Hid (LsAt w ea N (fun i => intL (E i)) eua euc) := hEd
  have HOL := show Hid _ from hol
  have HEL := show Hid _ from hel
  have HEN : Hid (∀ x, x < N → ∀ y ∈ E x, y < N) := hEN
  have HOB : Hid (∀ x, x < N → ∀ v ∈ own x, 0 ≤ v ∧ v < 1024) := hob
  obtain ⟨i0, hi0, hz0, hz1, hz2⟩ := info_parts infoSetP
  have HIA : Hid (IntsAt X a (intL c)) := hI
  obtain ⟨n, hn⟩ : ∃ n, n = c.length := ⟨_, rfl⟩
  have HNC : Hid (n = c.length) := hn
  have hnb : n ≤ 5864062014805 := by
    have := nodup_len N c hc.nd fun x hx => (hc.lt x hx).1
    omega
  have HCE : Hid (∀ Z, KeepS X Z → ∃ rb ro, a = some ⟨rb, ro, none⟩ ∧ ∀ i, i < n → Z.cell? ⟨rb, ro + i, none⟩ = some (.int .i64 ((c.getD i 0 : Nat) : Int))) := fun Z hZ => by
    rcases hI with h1 | ⟨rb, ro, e, h1⟩
    · have h2 := intL_length c
      rw [h1] at h2
      exact absurd (List.eq_nil_of_length_eq_zero h2.symm) hc.ne
    · obtain ⟨cs, hcs⟩ := hab rb ro e
      refine ⟨rb, ro, e, fun i hi => ?_⟩
      have h3 := h1 i (by rw [intL_length, ← hn]; exact hi)
      rw [intL_at] at h3
      have h4 := hZ.block rb cs _ hcs (by decide) (by decide) (by decide) (by decide)
      rw [World.cell?_of_block (a := ⟨rb, ro + i, none⟩) (h4.trans hcs.symm)]
      exact h3
  rw [← hn]
  clear h hO hEd hol hel hc hI hn hab hEN hob
  go_enter Tryd.func20, Tryd.ntmps20
  go_wp2_with fail
  refine Calls.mono (newShare_any X) ?_
  rintro e X1 ⟨s, b, rfl, h1, h2, h3, h4, h5⟩
  have HSN : Hid (SnAt w X1 N p1 sm p2 p3 oa ea oc ec C sh bs tk mk s b 0 (fun _ => false)) := HSI.out.fresh h5 ⟨h1, h2, ⟨_, h1⟩, h4, h3⟩
  have HK1 : Hid (KeepS X X1) := .none_ h5
  have HSS : Hid (X.heap.size ≤ s) := h4
  clear h1 h2 h3 h4 h5
  go_wp2_with fail
  go_loopg [16] n (fun gk v16 wr => ∃ (k : Nat), k ≤ n ∧ gk = n - k ∧ v16 = .int .i64 k ∧ KeepS X wr ∧ SnAt w wr N p1 sm p2 p3 oa ea oc ec C sh bs tk mk s b (ownM own c k) (doneD c k))
  case atStart => exact ⟨0, Nat.zero_le _, rfl, rfl, HK1.out, HSN.out⟩
  case round =>
    obtain ⟨k, hk, hgk, rfl, hK, hS⟩ := hrel
    have HGK : Hid (gk = n - k) := hgk
    have HK : Hid (KeepS X wr) := hK
    have HS := show Hid _ from hS
    clear hgk hK hS HK1 HSN
    by_cases hlt : k < n
    · have hkd : decide (k < n) = true := decide_eq_true hlt
      have hk0 : (0 : Int) ≤ (k : Int) := by omega
      have hk1 : (k : Int) < (n : Int) := by omega
      have hkc : k < c.length := by rw [← HNC.out]; exact hlt
      obtain ⟨rb, ro, rfl, hce⟩ := HCE.out wr HK.out
      have c0 := hce k hlt
      have hxN := (HC.out.lt _ (show c.getD k 0 ∈ c by rw [List.getD_eq_getElem?_getD, List.getElem?_eq_getElem hkc]; exact List.getElem_mem hkc)).1
      obtain ⟨x, hx⟩ : ∃ x, x = c.getD k 0 := ⟨_, rfl⟩
      have HX : Hid (x = c.getD k 0) := hx
      rw [← hx] at c0 hxN
      have hx0 : (0 : Int) ≤ (x : Int) := by omega
      have hx1 : (x : Int) < (N : Int) := by omega
      have d1 : wr.cell? ⟨p1, 0, none⟩ = some (.slice (some ⟨sm, 0, none⟩) N N) := by rw [cell_of_row _ _ _ _ _ _ HS.out.b1]; rfl
      have zl := HS.out.val.cell x hxN
      have zf := HS.out.val.free x
      obtain ⟨ov, hov⟩ : ∃ v : Value, v = (if doneD c k x = true then .pointer (some ⟨s, 0, none⟩) else if C x = true then .pointer (some ⟨sh x, 0, none⟩) else .pointer none) := ⟨_, rfl⟩
      rw [← hov] at zl
      obtain ⟨X2, hX2⟩ : ∃ Y, Y = wr.setCell ⟨sm, x, none⟩ (.pointer (some ⟨s, 0, none⟩)) := ⟨_, rfl⟩
      obtain ⟨hS2, hK2⟩ := HS.out.put (x := x)
      rw [← hX2] at hS2 hK2
      have HS2 := show Hid _ from hS2
      have HK2 : Hid (KeepS X X2) := HK.out.trans hK2
      have HX2 : Hid (X2 = wr.setCell ⟨sm, x, none⟩ (.pointer (some ⟨s, 0, none⟩))) := hX2
      clear hx hov hce hkc hS2 hK2 hX2
      go_wp2_with fail
      rw [← HX2.out]
      clear HX2 d1 zl zf c0
      obtain ⟨ok, hok, hoe, hoI⟩ : ∃ ok, oa = some ⟨ok, 0, none⟩ ∧ w.cell? ⟨ok, x, none⟩ = some (.slice (oua x) (own x).length (ouc x)) ∧ IntsAt w (oua x) (own x) := by
        obtain ⟨h1, h2⟩ := HO.out
        rcases h1 with h1 | ⟨ok, e, h1⟩
        · omega
        · exact ⟨ok, e, h1 x hxN, h2 x hxN⟩
      subst hok
      obtain ⟨oax, hoax⟩ : ∃ v, v = oua x := ⟨_, rfl⟩
      obtain ⟨ocx, hocx⟩ : ∃ v, v = ouc x := ⟨_, rfl⟩
      obtain ⟨ol, hol⟩ : ∃ v, v = (own x).length := ⟨_, rfl⟩
      rw [← hoax, ← hocx, ← hol] at hoe
      rw [← hoax] at hoI
      have HKC : Hid (∀ Z, SnAt w Z N p1 sm p2 p3 (some ⟨ok, 0, none⟩) ea oc ec C sh bs tk mk s b (ownM own c k) (markT (doneD c k) x) → Z.cell? ⟨s, 0, none⟩ = some (.pointer (some ⟨b, 0, none⟩)) ∧ Z.cell? ⟨p2, 0, none⟩ = some (.slice (some ⟨ok, 0, none⟩) N oc) ∧ Z.cell? ⟨ok, x, none⟩ = some (.slice oax ol ocx)) := fun Z hZ => ⟨by rw [cell_of_row _ _ _ _ _ _ hZ.new.cel]; rfl, by rw [cell_of_row _ _ _ _ _ _ hZ.b2]; rfl, hZ.grown.cell hoe (by simp)⟩
      have HS3 := show Hid _ from HS2.out.kept (grown_drewN X2 1)
      have HAD : Hid (Calls Tryd.prog 22 #[.pointer (some ⟨b, 0, none⟩), .slice oax ol ocx] X2.drew fun e w' => (∃ z, e = .returned (.int .i64 z)) ∧ B.SetM w' (some ⟨b, 0, none⟩) 1024 (B.addS 1024 (ownM own c k) (own x)).1 ∧ X2.drew.grownBy w' (some b)) := by
        have h1 := add_all b (ownM own c k) ocx oax (own x) X2.drew HS3.out.new.set (hoI.kept HS3.out.grown) (fun hne rb' ro' e => by
          obtain ⟨rb2, ro2, e2, h2⟩ := hoI.resolve_left hne
          rw [e] at e2
          have e3 : rb' = rb2 := by simp at e2; exact e2.1
          have h3 := World.block_lt_of_cell? w _ (h2 0 (by cases hw : own x with
            | nil => exact absurd hw hne
            | cons _ _ => simp))
          have h4 := HS3.out.new.los.2
          simp only at h3
          omega) (HOL.out x hxN)
        rw [← hol] at h1
        exact h1
      have HKA := show Hid _ from HKC.out _ HS2.out
      have HKB := show Hid _ from HKC.out _ HS3.out
      have HOE : Hid (w.cell? ⟨ok, x, none⟩ = some (.slice oax ol ocx)) := hoe
      clear hoax hocx hol hoe hoI
      go_region_held3 (fun Z => Z.cell? ⟨s, 0, none⟩ = some (.pointer (some ⟨b, 0, none⟩)) ∧ Z.cell? ⟨p2, 0, none⟩ = some (.slice (some ⟨ok, 0, none⟩) N oc) ∧ Z.cell? ⟨ok, x, none⟩ = some (.slice oax ol ocx)) (first | exact HKA.out | exact HKB.out | exact HKD.out | go_keep)
        ((first
          | (go_at_call 22; refine calls_at X2.drew (by with_reducible rfl) ?_; refine Calls.mono HAD.out ?_; rintro e w4 ⟨⟨z4, rfl⟩, hs4, hg4⟩; have HM4 := show Hid _ from HS3.out.more hg4 hs4; have HKD : Hid (w4.cell? ⟨s, 0, none⟩ = some (.pointer (some ⟨b, 0, none⟩)) ∧ w4.cell? ⟨p2, 0, none⟩ = some (.slice (some ⟨ok, 0, none⟩) N oc) ∧ w4.cell? ⟨ok, x, none⟩ = some (.slice oax ol ocx)) := ⟨by rw [cell_of_row _ _ _ _ _ _ HM4.out.1.new.cel]; rfl, by rw [cell_of_row _ _ _ _ _ _ HM4.out.1.b2]; rfl, HM4.out.1.grown.cell HOE.out (by simp)⟩; clear hs4 hg4)
          | fail))
      all_goals go_wp2_with fail
      all_goals go_roundg (n - (k + 1))
      case measure => have := HGK.out; omega
      case rel => exact ⟨k + 1, by omega, rfl, by go_num, HK2.out.trans ((KeepS.none_ (grown_drewN _ 1)).trans HM4.out.2), by unfold ownM doneD; rw [← HX.out]; exact HM4.out.1⟩
    · have hkn : k = n := by omega
      subst hkn
      have hkd : decide (k < k) = false := decide_eq_false (by omega)
      obtain ⟨D, hD⟩ : ∃ D, D = doneD c k := ⟨_, rfl⟩
      obtain ⟨M0, hM0⟩ : ∃ M, M = ownM own c k := ⟨_, rfl⟩
      have HM0 : Hid (M0 = ownM own c k) := hM0
      have HD : Hid (∀ x, D x = true ↔ x ∈ c) := fun x => by
        rw [hD, doneD_iff c k (by rw [HNC.out]; exact Nat.le_refl _), HNC.out, List.take_length]
      rw [← hD, ← hM0] at HS
      have HG0 : Hid (GvP N C sh tk s [] (prc E c 0 0)) := by
        have e : prc E c 0 0 = [] := by simp [prc]
        rw [e]
        refine .start fun x hx hC e2 => ?_
        obtain ⟨cs, h1⟩ := (HSI.out.each x hx hC).tak
        have h2 := (Array.getElem?_eq_some_iff.1 h1).1
        have h3 := HSS.out
        omega
      clear hD hM0 HGK hlt
      go_wp2_with fail
      go_loopg [8, 36] k (fun gk v8 v36 wr => ∃ (i : Nat) (G : List Nat) (gn : Nat) (tkv : Nat → Nat) (ga : Option Addr) (gc : Nat), i ≤ k ∧ gk = k - i ∧ v36 = .int .i64 i ∧ v8 = .slice ga gn gc ∧ gn = G.length ∧ KeepS X wr ∧ SnAt w wr N p1 sm p2 p3 oa ea oc ec C sh bs tkv mk s b M0 D ∧ wr.ownsRow X.heap.size 44 1 (.slice ga gn gc) gn (gvV bs G) ∧ GvP N C sh tkv s G (prc E c i 0))
      case atStart => exact ⟨0, [], 0, tk, none, 0, Nat.zero_le _, rfl, rfl, rfl, rfl, HK.out, HS.out, World.ownsRow_nil _ _ _ _, HG0.out⟩
      case round =>
        obtain ⟨i, G, gn, tkv, ga, gc, hi, hgk, rfl, rfl, hgn, hK, hS, hO, hG⟩ := hrel
        have HGK : Hid (gk = k - i) := hgk
        have HGN : Hid (gn = G.length) := hgn
        have HK2 : Hid (KeepS X wr) := hK
        have HS2 := show Hid _ from hS
        have HO2 : Hid (wr.ownsRow X.heap.size 44 1 (.slice ga gn gc) gn (gvV bs G)) := hO
        have HG2 := show Hid _ from hG
        clear hgk hgn hK hS hO hG HK HS HG0
        by_cases hlt : i < k
        · have hid : decide (i < k) = true := decide_eq_true hlt
          have hi0' : (0 : Int) ≤ (i : Int) := by omega
          have hi1' : (i : Int) < (k : Int) := by omega
          have hkc : i < c.length := by rw [← HNC.out]; exact hlt
          obtain ⟨rb, ro, rfl, hce⟩ := HCE.out wr HK2.out
          have c0 := hce i hlt
          have hxc : c.getD i 0 ∈ c := by rw [List.getD_eq_getElem?_getD, List.getElem?_eq_getElem hkc]; exact List.getElem_mem hkc
          have hxN := (HC.out.lt _ hxc).1
          obtain ⟨x, hx⟩ : ∃ x, x = c.getD i 0 := ⟨_, rfl⟩
          have HX : Hid (x = c.getD i 0) := hx
          have HXC : Hid (x ∈ c) := by rw [hx]; exact hxc
          rw [← hx] at c0 hxN
          have hx0 : (0 : Int) ≤ (x : Int) := by omega
          have hx1 : (x : Int) < (N : Int) := by omega
          obtain ⟨ek, rfl, hee, heI⟩ : ∃ ek, ea = some ⟨ek, 0, none⟩ ∧ w.cell? ⟨ek, x, none⟩ = some (.slice (eua x) (intL (E x)).length (euc x)) ∧ IntsAt w (eua x) (intL (E x)) := by
            obtain ⟨h1, h2⟩ := HED.out
            rcases h1 with h1 | ⟨ok, e, h1⟩
            · omega
            · exact ⟨ok, e, h1 x hxN, h2 x hxN⟩
          obtain ⟨eax, heax⟩ : ∃ v, v = eua x := ⟨_, rfl⟩
          obtain ⟨ecx, hecx⟩ : ∃ v, v = euc x := ⟨_, rfl⟩
          obtain ⟨el, hel⟩ : ∃ v, v = (E x).length := ⟨_, rfl⟩
          rw [intL_length, ← heax, ← hecx, ← hel] at hee
          rw [← heax] at heI
          have HEI : Hid (IntsAt w eax (intL (E x))) := heI
          have HEE : Hid (el = (E x).length) := hel
          have helb : el ≤ 17592186044416 := by rw [hel]; exact HEL.out x hxN
          have d3 : wr.cell? ⟨p3, 0, none⟩ = some (.slice (some ⟨ek, 0, none⟩) N ec) := by rw [cell_of_row _ _ _ _ _ _ HS2.out.b3]; rfl
          have ee := HS2.out.grown.cell hee (by simp)
          clear hx hce hkc hxc heax hecx hel hee heI
          go_wp2_with fail
          clear d3 ee c0
          go_loopg [8, 45] el (fun gk v8 v45 wr => ∃ (j : Nat) (G : List Nat) (gn : Nat) (tkv : Nat → Nat) (ga : Option Addr) (gc : Nat), j ≤ el ∧ gk = el - j ∧ v45 = .int .i64 j ∧ v8 = .slice ga gn gc ∧ gn = G.length ∧ KeepS X wr ∧ SnAt w wr N p1 sm p2 p3 oa (some ⟨ek, 0, none⟩) oc ec C sh bs tkv mk s b M0 D ∧ wr.ownsRow X.heap.size 44 1 (.slice ga gn gc) gn (gvV bs G) ∧ GvP N C sh tkv s G (prc E c i j))
          case atStart => exact ⟨0, G, gn, tkv, ga, gc, Nat.zero_le _, rfl, rfl, rfl, HGN.out, HK2.out, HS2.out, HO2.out, HG2.out⟩
          case round =>
            clear HK2 HS2 HO2 HG2 HGN
            obtain ⟨j, G, gn, tkv, ga, gc, hj, hgj, rfl, rfl, hgn, hK, hS, hO, hG⟩ := hrel
            have HGJ : Hid (gk = el - j) := hgj
            have HGN : Hid (gn = G.length) := hgn
            have HK2 : Hid (KeepS X wr) := hK
            have HS2 := show Hid _ from hS
            have HO2 : Hid (wr.ownsRow X.heap.size 44 1 (.slice ga gn gc) gn (gvV bs G)) := hO
            have HG2 := show Hid _ from hG
            clear hgj hgn hK hS hO hG
            by_cases hltj : j < el
            · have hjd : decide (j < el) = true := decide_eq_true hltj
              have hj0 : (0 : Int) ≤ (j : Int) := by omega
              have hj1 : (j : Int) < (el : Int) := by omega
              have hjE : j < (E x).length := by rw [← HEE.out]; exact hltj
              obtain ⟨fb, fo, rfl, hfe⟩ : ∃ fb fo, eax = some ⟨fb, fo, none⟩ ∧ wr.cell? ⟨fb, fo + j, none⟩ = some (.int .i64 (((E x).getD j 0 : Nat) : Int)) := by
                rcases HEI.out with h1 | ⟨fb, fo, e, h1⟩
                · have h2 := intL_length (E x)
                  rw [h1] at h2
                  simp at h2
                  omega
                · refine ⟨fb, fo, e, ?_⟩
                  have h3 := h1 j (by rw [intL_length]; exact hjE)
                  rw [intL_at] at h3
                  exact HS2.out.grown.cell h3 (by simp)
              have htE : (E x).getD j 0 ∈ E x := by rw [List.getD_eq_getElem?_getD, List.getElem?_eq_getElem hjE]; exact List.getElem_mem hjE
              have HPN : Hid (prc E c i (j + 1) = prc E c i j ++ [(E x).getD j 0]) := by
                have := prc_step E c i j (by rw [← HX.out]; exact hjE)
                rw [← HX.out] at this
                exact this
              obtain ⟨t, ht⟩ : ∃ t, t = (E x).getD j 0 := ⟨_, rfl⟩
              rw [← ht] at hfe htE HPN
              have htN : t < N := HEN.out x hxN t htE
              have ht0 : (0 : Int) ≤ (t : Int) := by omega
              have ht1 : (t : Int) < (N : Int) := by omega
              have d1 : wr.cell? ⟨p1, 0, none⟩ = some (.slice (some ⟨sm, 0, none⟩) N N) := by rw [cell_of_row _ _ _ _ _ _ HS2.out.b1]; rfl
              have zl := HS2.out.val.cell t htN
              by_cases hDt : t ∈ c
              · rw [if_pos ((HD.out t).2 hDt)] at zl
                have HGA := show Hid _ from givesAnew_any wr s s s _ HS2.out.new.cel (HS2.out.new.tak.imp fun _ h => ⟨_, h⟩) (HS2.out.new.tak.imp fun _ h => ⟨_, h⟩) false (by simp)
                have hf := HS2.out.self
                have HS3 := show Hid _ from hf.1
                have HK3 := show Hid _ from HK2.out.trans hf.2
                have HO3 := show Hid _ from row_share (x := 1) (u := .pointer (some ⟨s, 0, none⟩)) HO2.out HS2.out.new.cel
                have HG3 : Hid (GvP N C sh tkv s G (prc E c i (j + 1))) := by
                  show GvP _ _ _ _ _ _ _
                  rw [HPN.out]
                  exact HG2.out.skip fun h => by rw [(HC.out.lt t hDt).2] at h; cases h
                clear hf ht htE hjE hDt
                go_wp2_with fail
                refine Calls.mono HGA.out ?_
                rintro e w4 ⟨rfl, hw4⟩
                rw [← hw4] at HS3 HK3 HO3
                clear hw4 HGA
                go_wp2_with fail
                go_roundg (el - (j + 1))
                all_goals first
                  | exact (show ∃ (j' : Nat) (G' : List Nat), _ from ⟨j + 1, G, gn, tkv, ga, gc, by omega, rfl, by go_num, rfl, HGN.out, HK3.out, HS3.out, HO3.out, HG3.out⟩)
                  | (have := HGJ.out; omega)
              · have hCt : C t = true := (HC.out.out x HXC.out t htE).resolve_left hDt
                have hDf : ¬ D t = true := fun h => hDt ((HD.out t).1 h)
                rw [if_neg hDf, if_pos hCt] at zl
                have hsh := HS2.out.each t htN hCt
                have hf := HS2.out.gave htN hCt
                have HS3 := show Hid _ from hf.1
                have HK3 := show Hid _ from HK2.out.trans hf.2
                have HO3 := show Hid _ from row_share (x := 1) (u := .pointer (some ⟨s, 0, none⟩)) HO2.out hsh.cel
                by_cases htk : tkv (sh t) = s
                · have HGA := show Hid _ from givesAnew_any wr (sh t) (tkv (sh t)) s _ hsh.cel (hsh.tak.imp fun _ h => ⟨_, h⟩) (HS2.out.new.tak.imp fun _ h => ⟨_, h⟩) false (by simp [htk])
                  have HG3 : Hid (GvP N C sh (upd tkv (sh t) s) s G (prc E c i (j + 1))) := by
                    show GvP _ _ _ _ _ _ _
                    rw [HPN.out]
                    exact HG2.out.same ((HG2.out.tak t htN hCt).1 htk)
                  clear hf ht htE hjE hDt hDf hsh htk hCt
                  go_wp2_with fail
                  refine Calls.mono HGA.out ?_
                  rintro e w4 ⟨rfl, hw4⟩
                  rw [← hw4] at HS3 HK3 HO3
                  clear hw4 HGA
                  go_wp2_with fail
                  go_roundg (el - (j + 1))
                  all_goals first
                    | exact (show ∃ (j' : Nat) (G' : List Nat), _ from ⟨j + 1, G, gn, _, ga, gc, by omega, rfl, by go_num, rfl, HGN.out, HK3.out, HS3.out, HO3.out, HG3.out⟩)
                    | (have := HGJ.out; omega)
                · have HGA := show Hid _ from givesAnew_any wr (sh t) (tkv (sh t)) s _ hsh.cel (hsh.tak.imp fun _ h => ⟨_, h⟩) (HS2.out.new.tak.imp fun _ h => ⟨_, h⟩) true (by simp [htk])
                  have HG3 : Hid (GvP N C sh (upd tkv (sh t) s) s (G ++ [sh t]) (prc E c i (j + 1))) := by
                    show GvP _ _ _ _ _ _ _
                    rw [HPN.out]
                    exact HG2.out.give htN hCt htk
                  have hgb : gn ≤ 5864062014805 := by
                    rw [HGN.out]
                    have := shares_len N sh G HG2.out.nd fun σ hσ => by
                      obtain ⟨t', _, h2, _, h4⟩ := HG2.out.frm σ hσ
                      exact ⟨t', h2, h4⟩
                    omega
                  have HSX : Hid (X.heap.size ≤ wr.heap.size) := HK2.out.size
                  obtain ⟨st, hst⟩ : ∃ v, v = sh t := ⟨_, rfl⟩
                  have HST : Hid (st = sh t) := hst
                  have HCT : Hid (C t = true) := hCt
                  have HDF : Hid (¬ D t = true) := hDf
                  rw [← hst] at HGA HS3 HK3 HO3 HG3 zl
                  clear hf ht htE hjE hDt hDf hsh htk hCt hst
                  go_wp2_with fail
                  refine Calls.mono HGA.out ?_
                  rintro e w4 ⟨rfl, hw4⟩
                  rw [← hw4] at HS3 HK3 HO3
                  have HS4 := show Hid _ from HS3.out
                  have HK4 : Hid (KeepS X w4) := HK3.out
                  have HO4 : Hid (w4.ownsRow X.heap.size 44 1 (.slice ga gn gc) gn (gvV bs G)) := HO3.out
                  clear hw4 HGA HS3 HK3 HO3 d1 zl hfe
                  have d1 : w4.cell? ⟨p1, 0, none⟩ = some (.slice (some ⟨sm, 0, none⟩) N N) := by rw [cell_of_row _ _ _ _ _ _ HS4.out.b1]; rfl
                  have zl := HS4.out.val.cell t htN
                  rw [if_neg HDF.out, if_pos HCT.out, ← HST.out] at zl
                  have z0 : w4.cell? ⟨st, 0, none⟩ = some (.pointer (some ⟨bs st, 0, none⟩)) := by
                    have h1 := (HS4.out.each t htN HCT.out).cel
                    rw [← HST.out] at h1
                    rw [cell_of_row _ _ _ _ _ _ h1]; rfl
                  have hX4 : X.heap.size ≤ w4.heap.size := HK4.out.size
                  obtain ⟨bst, hbst⟩ : ∃ v, v = bs st := ⟨_, rfl⟩
                  have HBST : Hid (bst = bs st) := hbst
                  rw [← hbst] at z0
                  have HOA : Hid (∀ o, (w4.alloc o).ownsRow X.heap.size 44 1 (.slice ga gn gc) gn (gvV bs G)) := fun o => HO4.out.alloc _
                  obtain ⟨xs, hxs⟩ : ∃ xs, xs = gvV bs G := ⟨_, rfl⟩
                  have HXS : Hid (xs = gvV bs G) := hxs
                  rw [← hxs] at HOA
                  clear hbst hxs
                  go_wp2_with (at_builtin; refine wpList_append_lies _ rfl (.tmp 55) (.tmp 63) 48 rfl X.heap.size 44 i0 (.pointer none) 1 8 Tryd.underlying48 hi0 hz0 hz1 hz2 rfl (by decide) (.slice ga gn gc) gn xs rfl (HOA.out _) ⟨w4.heap.size, 0, none⟩ 1 1 [.pointer (some ⟨bst, 0, none⟩)] rfl rfl (World.news_of_block (heap_alloc_last w4 _)) (by simp [Value.oneCell']) (by decide) (by unfold maxLen; omega) (by omega) (by simp; omega) _ rfl ?_)
                  intro g7 c7 V hoV hgV _ _
                  have hf := (HS4.out.kept (World.grownBy_alloc _ _ none)).row (HOA.out _) (Nat.le_trans HSI.out.grown.size (Nat.le_refl _)) hgV
                  have HS5 := show Hid _ from hf.1
                  have HK5 : Hid (KeepS X V) := (HK4.out.trans (.none_ (World.grownBy_alloc _ _ none))).trans hf.2
                  have HO5 : Hid (V.ownsRow X.heap.size 44 1 (.slice (some ⟨g7, 0, none⟩) (gn + 1) c7) (gn + 1) (gvV bs (G ++ [st]))) := by
                    have h1 := hoV
                    rw [HXS.out, HBST.out] at h1
                    rw [gvV_append]
                    exact h1
                  have HGN5 : Hid (gn + 1 = (G ++ [st]).length) := by
                    show _ = _
                    rw [List.length_append, ← HGN.out]; rfl
                  clear hoV hgV hf d1 zl z0 HOA HO4 HS4
                  go_wp2_with fail
                  go_roundg (el - (j + 1))
                  all_goals first
                    | exact (show ∃ (j' : Nat) (G' : List Nat), _ from ⟨j + 1, G ++ [st], gn + 1, _, some ⟨g7, 0, none⟩, c7, by omega, rfl, by go_num, rfl, HGN5.out, HK5.out, HS5.out, HO5.out, HG3.out⟩)
                    | (have := HGJ.out; omega)
            · have hjn : el = j := by omega
              subst hjn
              have hjd : decide (el < el) = false := decide_eq_false (by omega)
              have HG3 : Hid (GvP N C sh tkv s G (prc E c (i + 1) 0)) := by
                show GvP _ _ _ _ _ _ _
                rw [prc_next E c i (by rw [← HNC.out]; exact hlt), ← HX.out, ← HEE.out]
                exact HG2.out
              go_wp2_with fail
              go_roundg (k - (i + 1))
              all_goals first
                | exact (show ∃ (i' : Nat) (G' : List Nat), _ from ⟨i + 1, G, gn, tkv, ga, gc, by omega, rfl, by go_num, rfl, HGN.out, HK2.out, HS2.out, HO2.out, HG3.out⟩)
                | (have := HGK.out; omega)
        · have hin : i = k := by omega
          subst hin
          have hid : decide (i < i) = false := decide_eq_false (by omega)
          have hgb : G.length ≤ 5864062014805 := by
            have := shares_len N sh G HG2.out.nd fun σ hσ => by
              obtain ⟨t', _, h2, _, h4⟩ := HG2.out.frm σ hσ
              exact ⟨t', h2, h4⟩
            omega
          have z0 : wr.cell? ⟨s, 0, none⟩ = some (.pointer (some ⟨b, 0, none⟩)) := by rw [cell_of_row _ _ _ _ _ _ HS2.out.new.cel]; rfl
          have HUN : Hid (Calls Tryd.prog 24 #[.pointer (some ⟨b, 0, none⟩), .slice ga gn gc] wr fun e w' => (∃ z, e = .returned (.int .i64 z)) ∧ B.SetM w' (some ⟨b, 0, none⟩) 1024 (B.uS 1024 M0 (uL (G.map fun σ => (bs σ, mk σ)))) ∧ wr.grownBy w' (some b)) := by
            have h1 := union_all b M0 gc ga (G.map fun σ => (bs σ, mk σ)) wr HS2.out.new.set (by
              by_cases e : G = []
              · left; rw [e]; rfl
              · right
                have hl : 0 < G.length := List.length_pos_iff.2 e
                rcases HO2.out.2 with ⟨_, h2⟩ | ⟨g, cap, cur, hv, hB, hh, _⟩
                · have := HGN.out; omega
                · simp only [Value.slice.injEq] at hv
                  refine ⟨g, 0, hv.1, ?_, (Array.getElem?_eq_some_iff.1 hh).1, fun q hq => ?_⟩
                  · exact ne_type hh (SetM_row HS2.out.new.set) (by decide)
                  · rw [List.length_map] at hq
                    have h3 := HO2.out.cells (g := g) (by rw [hv.1]; rfl) (j := q) (u := .pointer (some ⟨bs G[q], 0, none⟩)) (by unfold gvV; rw [List.getElem?_map, List.getElem?_eq_getElem hq]; rfl)
                    have e4 : ((G.map fun σ => (bs σ, mk σ)).getD q (0, 0)).1 = bs G[q] := by rw [List.getD_eq_getElem?_getD, List.getElem?_map, List.getElem?_eq_getElem hq]; rfl
                    rw [e4]
                    have e5 : (⟨g, 0, none⟩ : Addr).add q = ⟨g, 0 + q, none⟩ := by
                      by_cases h0 : q = 0
                      · simp [Addr.add, h0]
                      · simp [Addr.add, h0]
                    rw [← e5]
                    exact h3) (fun e he => by
              obtain ⟨σ, h2, rfl⟩ := List.mem_map.1 he
              obtain ⟨t', _, h3, h4, h5⟩ := HG2.out.frm σ h2
              rw [← h5]
              exact ⟨(HS2.out.apart t' h3 h4).2, (HS2.out.each t' h3 h4).set⟩) (by rw [List.length_map]; omega)
            rw [List.length_map, ← HGN.out] at h1
            exact h1
          go_wp2_with fail
          refine Calls.mono HUN.out ?_
          rintro e w4 ⟨⟨z4, rfl⟩, hs4, hg4⟩
          have hm := HS2.out.more hg4 hs4
          have HF := show Hid _ from hm.1.fin HD.out
          have HKF : Hid (KeepS X w4) := HK2.out.trans hm.2
          have HM4 := show Hid _ from hs4
          clear hm hs4 hg4 HUN z0
          go_wp2_with fail
          refine bodyPost_end (v := .tuple #[]) (by simp [results, Tryd.results20]) rfl ?_
          refine ⟨rfl, ⟨_, _, _, _, B.uS 1024 M0 (uL (G.map fun σ => (bs σ, mk σ))), HF.out, fun x hx hCx => ?_, fun q => ?_⟩, HKF.out.hand _⟩
          · by_cases e : x ∈ c
            · rw [if_pos e]
              simp only [if_pos ((HD.out x).2 e)]
              rw [upd_same]
            · rw [if_neg e]
              have hCx2 : C x = true := by
                rcases (addC_iff _ _ _).1 hCx with h1 | h1
                · exact h1
                · exact absurd h1 e
              simp only [if_neg (fun h => e ((HD.out x).1 h))]
              rw [upd_other _ _ (HS2.out.apart x hx hCx2).1]
          · have hlt2 : ∀ e ∈ (G.map fun σ => (bs σ, mk σ)), e.2 < 2 ^ 1024 := fun e he => by
              obtain ⟨σ, h2, rfl⟩ := List.mem_map.1 he
              obtain ⟨t', _, h3, h4, h5⟩ := HG2.out.frm σ h2
              rw [← h5]
              exact (HS2.out.each t' h3 h4).set.2.1
            rw [uS_bit 1024 q _ M0 hlt2]
            have hMb : M0.testBit q = true ↔ ∃ x ∈ c, (q : Int) ∈ own x := by
              by_cases hq : q < 1024
              · have h1 := ownM_bit own c q hq i (by rw [HNC.out]; exact Nat.le_refl _)
                rw [HNC.out, List.take_length, ← HNC.out, ← HM0.out] at h1
                exact h1
              · have h1 : M0.testBit q = false := bit_above HS2.out.new.set.2.1 hq
                rw [h1]
                refine ⟨fun h => (by cases h), fun ⟨x, hx, h⟩ => ?_⟩
                have := HOB.out x (HC.out.lt x hx).1 _ h
                omega
            rw [hMb]
            have hall := prc_all E c
            rw [← HNC.out] at hall
            constructor
            · rintro (h1 | ⟨e, he, h1⟩)
              · exact .inl h1
              · obtain ⟨σ, h2, rfl⟩ := List.mem_map.1 he
                obtain ⟨t', h6, h3, h4, h5⟩ := HG2.out.frm σ h2
                obtain ⟨z, hz, ht⟩ := (hall t').1 h6
                exact .inr ⟨z, hz, t', ht, h4, by rw [h5]; exact h1⟩
            · rintro (h1 | ⟨z, hz, t', ht, h4, h1⟩)
              · exact .inl h1
              · refine .inr ⟨(bs (sh t'), mk (sh t')), List.mem_map.2 ⟨sh t', HG2.out.all t' ((hall t').2 ⟨z, hz, ht⟩) (HEN.out z (HC.out.lt z hz).1 t' ht) h4, rfl⟩, h1⟩

end Go.Proofs.YtjijagnpcmonbaaDoor.J
