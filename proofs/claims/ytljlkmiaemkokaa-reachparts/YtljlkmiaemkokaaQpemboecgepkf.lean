import Derived.Test.YtljlkmiaemkokaaQapiailhmmgjh
import Derived.Test.YtljlkmiaemkokaaQojkbcmcinfbi
import Derived.Test.YtljlkmiaemkokaaQdclampaolkdo

/-
  reach: the law's spoil: it writes the lists of a grammar, and nothing else.
-/
namespace Go.Proofs.Ytljlkmiaemkokaa
open Go.RowKit Go.Maps Go.Shelf

attribute [local go_sem] Oper.semAt_some

/-- Of what was there, blocks from lo on below hi alone may have turned. -/
structure Outside (lo hi : Nat) (X Y : World) : Prop where
  os : Y.os = X.os
  tape : Y.tape = X.tape
  output : Y.output = X.output
  size : X.heap.size ≤ Y.heap.size
  block : ∀ j, j < X.heap.size → (j < lo ∨ hi ≤ j) → Y.heap[j]? = X.heap[j]?
theorem Outside.kept {lo hi : Nat} {X Y Z : World} (h : Outside lo hi X Y) (hg : Y.grownBy Z none) : Outside lo hi X Z :=
  ⟨hg.os.trans h.os, hg.tape.trans h.tape, hg.output.trans h.output, Nat.le_trans h.size hg.size, fun j hj ho => (hg.block j (Nat.lt_of_lt_of_le hj h.size) (by simp)).trans (h.block j hj ho)⟩
theorem Outside.at {lo hi b : Nat} {X Y Z : World} (h : Outside lo hi X Y) (hg : Y.grownBy Z (some b)) (h1 : lo ≤ b) (h2 : b < hi) : Outside lo hi X Z :=
  ⟨hg.os.trans h.os, hg.tape.trans h.tape, hg.output.trans h.output, Nat.le_trans h.size hg.size, fun j hj ho => (hg.block j (Nat.lt_of_lt_of_le hj h.size) (by simp; omega)).trans (h.block j hj ho)⟩
theorem Outside.grown {lo hi : Nat} {w X Y : World} (h : Outside lo hi X Y) (hw : w.grownBy X none) (hl : w.heap.size ≤ lo) : w.grownBy Y none :=
  ⟨h.os.trans hw.os, h.tape.trans hw.tape, h.output.trans hw.output, Nat.le_trans hw.size h.size, fun j hj _ => (h.block j (Nat.lt_of_lt_of_le hj hw.size) (.inl (by omega))).trans (hw.block j hj (by simp))⟩

theorem block_set {X : World} {g b o : Nat} {v : Value} {cur : Array Value} {t : TypeId} (h : X.heap[g]? = some (.cells cur t (0, 0))) : ∃ cur', (X.setCell ⟨b, o, none⟩ v).heap[g]? = some (.cells cur' t (0, 0)) ∧ cur'.size = cur.size ∧ (g ≠ b → cur' = cur) ∧ ∀ j, j ≠ o → cur'[j]? = cur[j]? := by
  by_cases e : g = b
  · subst e
    exact ⟨cur.setIfInBounds o v, heap_setCell_same X g o _ _ v h, by simp, fun h => absurd rfl h, fun j hj => by rw [Array.getElem?_setIfInBounds, if_neg (fun e => hj e.symm)]⟩
  · exact ⟨cur, ((grown_setCell (w := X) b o v).block g (Array.getElem?_eq_some_iff.1 h).1 (by simpa using e)).trans h, rfl, fun _ => rfl, fun _ _ => rfl⟩

/-- A row that may be written, from lo on below hi. -/
def WrAt (X : World) (lo hi : Nat) (a : Option Addr) (n s : Nat) (t : TypeId) : Prop := n = 0 ∨ ∃ g cur, a = some ⟨g, 0, none⟩ ∧ lo ≤ g ∧ g < hi ∧ X.heap[g]? = some (.cells cur t (0, 0)) ∧ n * s ≤ cur.size
theorem WrAt.kept {X Y : World} {lo hi n s : Nat} {a : Option Addr} {t : TypeId} (h : WrAt X lo hi a n s t) (hg : X.grownBy Y none) : WrAt Y lo hi a n s t := by
  rcases h with h | ⟨g, cur, e, h1, h2, h3, h4⟩
  · exact .inl h
  · exact .inr ⟨g, cur, e, h1, h2, (boxKept h3 hg).out, h4⟩
theorem WrAt.set {X : World} {lo hi n s b o : Nat} {a : Option Addr} {t : TypeId} {v : Value} (h : WrAt X lo hi a n s t) : WrAt (X.setCell ⟨b, o, none⟩ v) lo hi a n s t := by
  rcases h with h | ⟨g, cur, e, h1, h2, h3, h4⟩
  · exact .inl h
  · obtain ⟨cur', k1, k2, _⟩ := block_set (b := b) (o := o) (v := v) h3
    exact .inr ⟨g, cur', e, h1, h2, k1, by omega⟩
theorem WrAt.cell {X : World} {g : Nat} {cur : Array Value} {t : TypeId} (h : X.heap[g]? = some (.cells cur t (0, 0))) (j : Nat) (hj : j < cur.size) : ∃ v, X.cell? ⟨g, j, none⟩ = some v ∧ X.frozen? ⟨g, j, none⟩ = false :=
  ⟨cur[j], by rw [cell_of_row _ _ _ _ _ _ h]; exact Array.getElem?_eq_getElem hj, frozen_of_row _ _ _ _ _ h⟩

/-- The lists of a grammar, as spoil takes them: the first k productions are gone. -/
structure SpAt (X : World) (lo hi : Nat) (ta na la pa : Option Addr) (tn nn ln n k : Nat) (ra : Nat → Option Addr) (rl rc : Nat → Nat) : Prop where
  t : WrAt X lo hi ta tn 2 57
  s : WrAt X lo hi na nn 1 9
  l : WrAt X lo hi la ln 1 3
  p : n = 0 ∨ ∃ g cur, pa = some ⟨g, 0, none⟩ ∧ lo ≤ g ∧ g < hi ∧ X.heap[g]? = some (.cells cur 45 (0, 0)) ∧ n * 3 ≤ cur.size ∧ ∀ i, k ≤ i → i < n → cur[i * 3 + 1]? = some (.slice (ra i) (rl i) (rc i))
  r : ∀ i, i < n → WrAt X lo hi (ra i) (rl i) 1 3
section
variable {X Y : World} {lo hi : Nat} {ta na la pa : Option Addr} {tn nn ln n k : Nat} {ra : Nat → Option Addr} {rl rc : Nat → Nat}
theorem SpAt.kept (h : SpAt X lo hi ta na la pa tn nn ln n k ra rl rc) (hg : X.grownBy Y none) : SpAt Y lo hi ta na la pa tn nn ln n k ra rl rc := by
  refine ⟨h.t.kept hg, h.s.kept hg, h.l.kept hg, ?_, fun i hi => (h.r i hi).kept hg⟩
  rcases h.p with h | ⟨g, cur, e, h1, h2, h3, h4, h5⟩
  · exact .inl h
  · exact .inr ⟨g, cur, e, h1, h2, (boxKept h3 hg).out, h4, h5⟩
/-- A cell of another kind is written. -/
theorem SpAt.set {b o : Nat} {v : Value} {cb : Array Value} {t : TypeId} (h : SpAt X lo hi ta na la pa tn nn ln n k ra rl rc) (hb : X.heap[b]? = some (.cells cb t (0, 0))) (ht : t ≠ 45) : SpAt (X.setCell ⟨b, o, none⟩ v) lo hi ta na la pa tn nn ln n k ra rl rc := by
  refine ⟨h.t.set, h.s.set, h.l.set, ?_, fun i hi => (h.r i hi).set⟩
  rcases h.p with h | ⟨g, cur, e, h1, h2, h3, h4, h5⟩
  · exact .inl h
  · have hne : g ≠ b := by
      rintro rfl
      rw [h3] at hb
      simp at hb
      exact ht hb.2.symm
    obtain ⟨cur', k1, k2, k3, _⟩ := block_set (b := b) (o := o) (v := v) h3
    rw [k3 hne] at k1
    exact .inr ⟨g, cur, e, h1, h2, k1, h4, h5⟩
/-- A production is written over. -/
theorem SpAt.setP {g : Nat} {v0 v1 v2 : Value} (h : SpAt X lo hi ta na la (some ⟨g, 0, none⟩) tn nn ln n k ra rl rc) : SpAt (((X.setCell ⟨g, k * 3, none⟩ v0).setCell ⟨g, k * 3 + 1, none⟩ v1).setCell ⟨g, k * 3 + 2, none⟩ v2) lo hi ta na la (some ⟨g, 0, none⟩) tn nn ln n (k + 1) ra rl rc := by
  refine ⟨h.t.set.set.set, h.s.set.set.set, h.l.set.set.set, ?_, fun i hi => (h.r i hi).set.set.set⟩
  rcases h.p with h | ⟨g', cur, e, h1, h2, h3, h4, h5⟩
  · exact .inl h
  · obtain ⟨c1, k1, s1, _, j1⟩ := block_set (b := g) (o := k * 3) (v := v0) h3
    obtain ⟨c2, k2, s2, _, j2⟩ := block_set (b := g) (o := k * 3 + 1) (v := v1) k1
    obtain ⟨c3, k3, s3, _, j3⟩ := block_set (b := g) (o := k * 3 + 2) (v := v2) k2
    refine .inr ⟨g', c3, e, h1, h2, k3, by omega, fun i hi hin => ?_⟩
    rw [j3 _ (by omega), j2 _ (by omega), j1 _ (by omega)]
    exact h5 i (by omega) hin
end

/-- While a grammar is spoilt: its box. -/
structure SoAt (w X : World) (gv : Array Value) (lo hi : Nat) (ta na la pa : Option Addr) (tn nn ln n k : Nat) (ra : Nat → Option Addr) (rl rc : Nat → Nat) : Prop where
  out : Outside lo hi w X
  box : X.heap[w.heap.size]? = some (.cells gv 27 (0, 0))
  sp : SpAt X lo hi ta na la pa tn nn ln n k ra rl rc
section
variable {w X : World} {gv : Array Value} {lo hi : Nat} {ta na la pa : Option Addr} {tn nn ln n k : Nat} {ra : Nat → Option Addr} {rl rc : Nat → Nat}
theorem SoAt.g (h : SoAt w X gv lo hi ta na la pa tn nn ln n k ra rl rc) (j : Nat) (v : Value) (hv : gv[j]? = some v) : X.cell? ⟨w.heap.size, j, none⟩ = some v := by rw [cell_of_row _ _ _ _ _ _ h.box]; exact hv
theorem SoAt.set {b o : Nat} {v : Value} {cb : Array Value} {t : TypeId} (h : SoAt w X gv lo hi ta na la pa tn nn ln n k ra rl rc) (hw : hi ≤ w.heap.size) (h1 : lo ≤ b) (h2 : b < hi) (hb : X.heap[b]? = some (.cells cb t (0, 0))) (ht : t ≠ 45) : SoAt w (X.setCell ⟨b, o, none⟩ v) gv lo hi ta na la pa tn nn ln n k ra rl rc :=
  have hg := grown_setCell (w := X) b o v
  ⟨h.out.at hg h1 h2, (hg.block _ (Array.getElem?_eq_some_iff.1 h.box).1 (by simp; omega)).trans h.box, h.sp.set hb ht⟩
theorem SoAt.setP {g : Nat} {v0 v1 v2 : Value} (h : SoAt w X gv lo hi ta na la (some ⟨g, 0, none⟩) tn nn ln n k ra rl rc) (hw : hi ≤ w.heap.size) (h1 : lo ≤ g) (h2 : g < hi) : SoAt w (((X.setCell ⟨g, k * 3, none⟩ v0).setCell ⟨g, k * 3 + 1, none⟩ v1).setCell ⟨g, k * 3 + 2, none⟩ v2) gv lo hi ta na la (some ⟨g, 0, none⟩) tn nn ln n (k + 1) ra rl rc :=
  have hg : X.grownBy (((X.setCell ⟨g, k * 3, none⟩ v0).setCell ⟨g, k * 3 + 1, none⟩ v1).setCell ⟨g, k * 3 + 2, none⟩ v2) (some g) := grown_two (grown_two (grown_setCell _ _ _) (grown_setCell _ _ _)) (grown_setCell _ _ _)
  ⟨h.out.at hg h1 h2, (hg.block _ (Array.getElem?_eq_some_iff.1 h.box).1 (by simp; omega)).trans h.box, h.sp.setP⟩
end

set_option maxRecDepth 100000 in
set_option maxHeartbeats 1000000 in
theorem spoil_any (ta na la pa : Option Addr) (tn nn ln n tc nc lc pc lo hi : Nat) (st : Int) (ra : Nat → Option Addr) (rl rc : Nat → Nat) (w : World) (hS : SpAt w lo hi ta na la pa tn nn ln n 0 ra rl rc) (hw : hi ≤ w.heap.size) (b1 : tn ≤ 17592186044416) (b2 : nn ≤ 17592186044416) (b3 : ln ≤ 17592186044416) (b4 : n ≤ 17592186044416) (b5 : ∀ i, i < n → rl i ≤ 17592186044416) :
    Calls Try.prog 19 #[.agg #[.slice ta tn tc, .slice na nn nc, .slice la ln lc, .int .i64 st, .slice pa n pc]] w fun e w' => e = .returned (.tuple #[]) ∧ Outside lo hi w w' := by
  have HS0 : Hid (SoAt w (w.alloc (.cells #[.slice ta tn tc, .slice na nn nc, .slice la ln lc, .int .i64 st, .slice pa n pc] 27)) #[.slice ta tn tc, .slice na nn nc, .slice la ln lc, .int .i64 st, .slice pa n pc] lo hi ta na la pa tn nn ln n 0 ra rl rc) :=
    ⟨Outside.kept ⟨rfl, rfl, rfl, Nat.le_refl _, fun _ _ _ => rfl⟩ (World.grownBy_alloc _ _ none), heap_alloc_last w _, hS.kept (World.grownBy_alloc _ _ none)⟩
  have HB5 : Hid (∀ i, i < n → rl i ≤ 17592186044416) := b5
  clear hS b5
  go_enter Try.func19, Try.ntmps19
  go_wp2_with fail
  go_loopg [2] tn (fun gk i wr => ∃ k : Nat, k ≤ tn ∧ gk = tn - k ∧ i = .int .i64 k ∧ SoAt w wr #[.slice ta tn tc, .slice na nn nc, .slice la ln lc, .int .i64 st, .slice pa n pc] lo hi ta na la pa tn nn ln n 0 ra rl rc)
  case atStart => exact ⟨0, Nat.zero_le _, rfl, rfl, HS0.out⟩
  case round =>
    obtain ⟨k, hk, hgk, rfl, hO⟩ := hrel
    have HGK : Hid (gk = tn - k) := hgk
    have HO : Hid (SoAt w wr #[.slice ta tn tc, .slice na nn nc, .slice la ln lc, .int .i64 st, .slice pa n pc] lo hi ta na la pa tn nn ln n 0 ra rl rc) := hO
    have g0 := hO.g 0 _ rfl
    clear hgk hO HS0
    by_cases hlt : k < tn
    · obtain ⟨g, cur, rfl, h1, h2, h3, h4⟩ : ∃ g cur, ta = some ⟨g, 0, none⟩ ∧ lo ≤ g ∧ g < hi ∧ wr.heap[g]? = some (.cells cur 57 (0, 0)) ∧ tn * 2 ≤ cur.size := by
        rcases HO.out.sp.t with h | h
        · omega
        · exact h
      obtain ⟨v0, c0, f0⟩ := WrAt.cell h3 (k * 2) (by omega)
      obtain ⟨v1, c1, f1⟩ := WrAt.cell h3 (k * 2 + 1) (by omega)
      obtain ⟨cur', hb', _⟩ := block_set (b := g) (o := k * 2) (v := .string ⟨#[63]⟩) h3
      have HN : Hid (SoAt w ((wr.setCell ⟨g, k * 2, none⟩ (.string ⟨#[63]⟩)).setCell ⟨g, k * 2 + 1, none⟩ (.int .i64 99)) #[.slice (some ⟨g, 0, none⟩) tn tc, .slice na nn nc, .slice la ln lc, .int .i64 st, .slice pa n pc] lo hi (some ⟨g, 0, none⟩) na la pa tn nn ln n 0 ra rl rc) := (HO.out.set hw h1 h2 h3 (by decide)).set hw h1 h2 hb' (by decide)
      have hk0 : (0 : Int) ≤ (k : Int) := by omega
      have hk1 : (k : Int) < (tn : Int) := by omega
      have hkd : decide (k < tn) = true := decide_eq_true hlt
      clear h3 h4 hb' h1 h2
      go_wp2_with fail
      go_roundg (tn - (k + 1))
      case measure => have := HGK.out; omega
      case rel => exact ⟨k + 1, by omega, rfl, by go_num, HN.out⟩
    · have hkn : tn = k := by omega
      subst hkn
      have hkd : decide (tn < tn) = false := decide_eq_false (by omega)
      clear HGK
      generalize wr = X1 at *
      go_wp2_with fail
      go_loopg [3] nn (fun gk i wr => ∃ k : Nat, k ≤ nn ∧ gk = nn - k ∧ i = .int .i64 k ∧ SoAt w wr #[.slice ta tn tc, .slice na nn nc, .slice la ln lc, .int .i64 st, .slice pa n pc] lo hi ta na la pa tn nn ln n 0 ra rl rc)
      case atStart => exact ⟨0, Nat.zero_le _, rfl, rfl, HO.out⟩
      case round =>
        obtain ⟨k, hk, hgk, rfl, hO⟩ := hrel
        have HGK : Hid (gk = nn - k) := hgk
        have HO2 : Hid (SoAt w wr #[.slice ta tn tc, .slice na nn nc, .slice la ln lc, .int .i64 st, .slice pa n pc] lo hi ta na la pa tn nn ln n 0 ra rl rc) := hO
        have g1 := hO.g 1 _ rfl
        clear hgk hO HO g0
        by_cases hlt : k < nn
        · obtain ⟨g, cur, rfl, h1, h2, h3, h4⟩ : ∃ g cur, na = some ⟨g, 0, none⟩ ∧ lo ≤ g ∧ g < hi ∧ wr.heap[g]? = some (.cells cur 9 (0, 0)) ∧ nn * 1 ≤ cur.size := by
            rcases HO2.out.sp.s with h | h
            · omega
            · exact h
          obtain ⟨v0, c0, f0⟩ := WrAt.cell h3 k (by omega)
          have HN := show Hid _ from HO2.out.set (o := k) (v := .string ⟨#[63]⟩) hw h1 h2 h3 (by decide)
          have hk0 : (0 : Int) ≤ (k : Int) := by omega
          have hk1 : (k : Int) < (nn : Int) := by omega
          have hkd : decide (k < nn) = true := decide_eq_true hlt
          clear h3 h4 h1 h2
          go_wp2_with fail
          go_roundg (nn - (k + 1))
          case measure => have := HGK.out; omega
          case rel => exact ⟨k + 1, by omega, rfl, by go_num, HN.out⟩
        · have hkn : nn = k := by omega
          subst hkn
          have hkd : decide (nn < nn) = false := decide_eq_false (by omega)
          clear HGK
          generalize wr = X2 at *
          go_wp2_with fail
          go_loopg [4] ln (fun gk i wr => ∃ k : Nat, k ≤ ln ∧ gk = ln - k ∧ i = .int .i64 k ∧ SoAt w wr #[.slice ta tn tc, .slice na nn nc, .slice la ln lc, .int .i64 st, .slice pa n pc] lo hi ta na la pa tn nn ln n 0 ra rl rc)
          case atStart => exact ⟨0, Nat.zero_le _, rfl, rfl, HO2.out⟩
          case round =>
            obtain ⟨k, hk, hgk, rfl, hO⟩ := hrel
            have HGK : Hid (gk = ln - k) := hgk
            have HO3 : Hid (SoAt w wr #[.slice ta tn tc, .slice na nn nc, .slice la ln lc, .int .i64 st, .slice pa n pc] lo hi ta na la pa tn nn ln n 0 ra rl rc) := hO
            have g2 := hO.g 2 _ rfl
            clear hgk hO HO2 g1
            by_cases hlt : k < ln
            · obtain ⟨g, cur, rfl, h1, h2, h3, h4⟩ : ∃ g cur, la = some ⟨g, 0, none⟩ ∧ lo ≤ g ∧ g < hi ∧ wr.heap[g]? = some (.cells cur 3 (0, 0)) ∧ ln * 1 ≤ cur.size := by
                rcases HO3.out.sp.l with h | h
                · omega
                · exact h
              obtain ⟨v0, c0, f0⟩ := WrAt.cell h3 k (by omega)
              have HN := show Hid _ from HO3.out.set (o := k) (v := .int .i64 77) hw h1 h2 h3 (by decide)
              have hk0 : (0 : Int) ≤ (k : Int) := by omega
              have hk1 : (k : Int) < (ln : Int) := by omega
              have hkd : decide (k < ln) = true := decide_eq_true hlt
              clear h3 h4 h1 h2
              go_wp2_with fail
              go_roundg (ln - (k + 1))
              case measure => have := HGK.out; omega
              case rel => exact ⟨k + 1, by omega, rfl, by go_num, HN.out⟩
            · have hkn : ln = k := by omega
              subst hkn
              have hkd : decide (ln < ln) = false := decide_eq_false (by omega)
              clear HGK
              generalize wr = X3 at *
              go_wp2_with fail
              go_loopg [5] n (fun gk i wr => ∃ k : Nat, k ≤ n ∧ gk = n - k ∧ i = .int .i64 k ∧ SoAt w wr #[.slice ta tn tc, .slice na nn nc, .slice la ln lc, .int .i64 st, .slice pa n pc] lo hi ta na la pa tn nn ln n k ra rl rc)
              case atStart => exact ⟨0, Nat.zero_le _, rfl, rfl, HO3.out⟩
              case round =>
                obtain ⟨k, hk, hgk, rfl, hO⟩ := hrel
                have HGK : Hid (gk = n - k) := hgk
                have HO4 : Hid (SoAt w wr #[.slice ta tn tc, .slice na nn nc, .slice la ln lc, .int .i64 st, .slice pa n pc] lo hi ta na la pa tn nn ln n k ra rl rc) := hO
                have g4 := hO.g 4 _ rfl
                clear hgk hO HO3 g2
                by_cases hlt : k < n
                · have hk0 : (0 : Int) ≤ (k : Int) := by omega
                  have hk1 : (k : Int) < (n : Int) := by omega
                  have hkd : decide (k < n) = true := decide_eq_true hlt
                  have hrl5 := HB5.out k hlt
                  obtain ⟨g, hg0⟩ : ∃ g, pa = some ⟨g, 0, none⟩ ∧ lo ≤ g ∧ g < hi := by
                    rcases HO4.out.sp.p with h | ⟨g, cur, e, h1, h2, _⟩
                    · omega
                    · exact ⟨g, e, h1, h2⟩
                  obtain ⟨rfl, h1, h2⟩ := hg0
                  have HP : Hid (∀ X, SpAt X lo hi ta na la (some ⟨g, 0, none⟩) tn nn ln n k ra rl rc → X.cell? ⟨g, k * 3 + 1, none⟩ = some (.slice (ra k) (rl k) (rc k)) ∧ (∃ v0, X.cell? ⟨g, k * 3, none⟩ = some v0) ∧ (∃ v2, X.cell? ⟨g, k * 3 + 2, none⟩ = some v2) ∧ ∀ j, X.frozen? ⟨g, j, none⟩ = false) := fun X hX => by
                    rcases hX.p with h | ⟨g', cur, e, _, _, h3, h4, h5⟩
                    · omega
                    · have : g = g' := by simpa using e
                      subst this
                      obtain ⟨v0, c0, _⟩ := WrAt.cell h3 (k * 3) (by omega)
                      obtain ⟨v2, c2, _⟩ := WrAt.cell h3 (k * 3 + 2) (by omega)
                      exact ⟨by rw [cell_of_row _ _ _ _ _ _ h3]; exact h5 k (Nat.le_refl _) hlt, ⟨v0, c0⟩, ⟨v2, c2⟩, fun j => frozen_of_row _ _ _ _ _ h3⟩
                  obtain ⟨r1, hr1⟩ : ∃ r1, r1 = ra k := ⟨_, rfl⟩
                  obtain ⟨r2, hr2⟩ : ∃ r2, r2 = rl k := ⟨_, rfl⟩
                  obtain ⟨r3, hr3⟩ : ∃ r3, r3 = rc k := ⟨_, rfl⟩
                  have HRW : Hid (∀ X, SpAt X lo hi ta na la (some ⟨g, 0, none⟩) tn nn ln n k ra rl rc → WrAt X lo hi r1 r2 1 3) := fun X hX => by rw [hr1, hr2]; exact hX.r k hlt
                  rw [← hr1, ← hr2, ← hr3] at HP
                  rw [← hr2] at hrl5
                  have p1 := (HP.out _ HO4.out.sp).1
                  clear hr1 hr2 hr3
                  generalize wr = X4 at *
                  go_wp2_with fail
                  go_loopg [6] r2 (fun gy i wr => ∃ j : Nat, j ≤ r2 ∧ gy = r2 - j ∧ i = .int .i64 j ∧ SoAt w wr #[.slice ta tn tc, .slice na nn nc, .slice la ln lc, .int .i64 st, .slice (some ⟨g, 0, none⟩) n pc] lo hi ta na la (some ⟨g, 0, none⟩) tn nn ln n k ra rl rc)
                  case atStart => exact ⟨0, Nat.zero_le _, rfl, rfl, HO4.out⟩
                  case round =>
                    obtain ⟨j, hj, hgy, rfl, hO⟩ := hrel
                    have HGY : Hid (gk = r2 - j) := hgy
                    have HO5 : Hid (SoAt w wr #[.slice ta tn tc, .slice na nn nc, .slice la ln lc, .int .i64 st, .slice (some ⟨g, 0, none⟩) n pc] lo hi ta na la (some ⟨g, 0, none⟩) tn nn ln n k ra rl rc) := hO
                    clear hgy hO HO4 g4 p1
                    have g4 := HO5.out.g 4 _ rfl
                    obtain ⟨p1, ⟨v0, p0⟩, ⟨v2, p2⟩, pf⟩ := HP.out _ HO5.out.sp
                    by_cases hjl : j < r2
                    · obtain ⟨q, cur, rfl, q1, q2, q3, q4⟩ : ∃ g cur, r1 = some ⟨g, 0, none⟩ ∧ lo ≤ g ∧ g < hi ∧ wr.heap[g]? = some (.cells cur 3 (0, 0)) ∧ r2 * 1 ≤ cur.size := by
                        rcases HRW.out _ HO5.out.sp with h | h
                        · omega
                        · exact h
                      obtain ⟨v1, c1, f1⟩ := WrAt.cell q3 j (by omega)
                      have HN := show Hid _ from HO5.out.set (o := j) (v := .int .i64 (-3)) hw q1 q2 q3 (by decide)
                      have hj0 : (0 : Int) ≤ (j : Int) := by omega
                      have hj1 : (j : Int) < (r2 : Int) := by omega
                      have hjd : decide (j < r2) = true := decide_eq_true hjl
                      clear q3 q4 q1 q2 p0 p2 pf
                      go_wp2_with fail
                      go_roundg (r2 - (j + 1))
                      case measure => have := HGY.out; omega
                      case rel => exact ⟨j + 1, by omega, rfl, by go_num, HN.out⟩
                    · have hjn : r2 = j := by omega
                      subst hjn
                      have hjd : decide (r2 < r2) = false := decide_eq_false (by omega)
                      have pf0 := pf (k * 3)
                      have pf1 := pf (k * 3 + 1)
                      have pf2 := pf (k * 3 + 2)
                      clear pf
                      go_wp2_with fail
                      go_roundg (n - (k + 1))
                      case measure => have := HGK.out; omega
                      case rel => exact ⟨k + 1, by omega, rfl, by go_num, HO5.out.setP hw h1 h2⟩
                · have hkn : n = k := by omega
                  subst hkn
                  have hkd2 : decide (n < n) = false := decide_eq_false (by omega)
                  go_wp2_with fail
                  refine bodyPost_end (results_none rfl _ _ _) rfl ?_
                  exact ⟨rfl, HO4.out.out⟩

end Go.Proofs.Ytljlkmiaemkokaa

/-
  reach, pure: the reduced grammar is closed.
-/
namespace Go.Proofs.Ytljlkmiaemkokaa
open Go.RowKit Go.Maps Go.Shelf

theorem cntU_succ (g : Nat → Bool) (k : Nat) : cntU g (k + 1) = cntU g k + (g k).toNat := by
  unfold cntU
  rw [List.range_succ, List.filter_append, List.length_append]
  cases h : g k <;> simp [h]
theorem cntU_mono (g : Nat → Bool) {i k : Nat} (h : i ≤ k) : cntU g i ≤ cntU g k := by
  induction k with
  | zero => have : i = 0 := by omega
            rw [this]; exact Nat.le_refl _
  | succ k ih =>
    by_cases e : i = k + 1
    · rw [e]; exact Nat.le_refl _
    · have := ih (by omega)
      rw [cntU_succ]; omega
theorem cntU_lt (g : Nat → Bool) {i k : Nat} (h : i < k) (hg : g i = true) : cntU g i < cntU g k := by
  have h1 := cntU_succ g i
  have h2 := cntU_mono g (show i + 1 ≤ k by omega)
  rw [hg] at h1
  simp at h1
  omega
theorem cntU_onto (g : Nat → Bool) (m : Nat) : ∀ k, m < cntU g k → ∃ i, i < k ∧ g i = true ∧ cntU g i = m
  | 0, h => by simp [cntU] at h
  | k + 1, h => by
    rw [cntU_succ] at h
    by_cases h2 : m < cntU g k
    · obtain ⟨i, h3, h4⟩ := cntU_onto g m k h2
      exact ⟨i, by omega, h4⟩
    · cases hg : g k with
      | false => rw [hg] at h; simp at h; omega
      | true => rw [hg] at h; simp at h; exact ⟨k, by omega, hg, by omega⟩

section
variable {tn nn n : Nat} {st : Int} {L : Nat → Int} {R : Nat → List Int} {cl : Bool} {F G : Nat → Bool}
theorem fitsB_mono {f g : Nat → Bool} (h : ∀ i, f i = true → g i = true) {l : List Int} (hf : fitsB tn f l = true) : fitsB tn g l = true := by
  rw [fitsB_iff] at hf ⊢
  exact fun x hx hxt => h _ (hf x hx hxt)
/-- What is productive has a production all of which is. -/
theorem MarksOf.has (h : MarksOf tn nn n st L R cl F G) : ∀ i, F i = true → ∃ j, j < n ∧ (L j - tn).toNat = i ∧ fitsB tn F (R j) = true := by
  refine h.f.inv (fun f => ∀ i, f i = true → ∃ j, j < n ∧ (L j - tn).toNat = i ∧ fitsB tn f (R j) = true) (fun k f hk hf i hi => ?_) (fun i hi => by cases hi)
  have hup : ∀ i, f i = true → stM tn L R k f i = true := fun i hi => by
    unfold stM mark
    split
    · show (if i = (L k - tn).toNat then true else f i) = true
      by_cases e : i = (L k - tn).toNat
      · rw [if_pos e]
      · rw [if_neg e]; exact hi
    · exact hi
  by_cases hfi : f i = true
  · obtain ⟨j, h1, h2, h3⟩ := hf i hfi
    exact ⟨j, h1, h2, fitsB_mono hup h3⟩
  · have hi2 := hi
    unfold stM at hi2
    split at hi2
    · rename_i hc
      unfold mark at hi2
      by_cases e : i = (L k - tn).toNat
      · unfold chM at hc
        rw [Bool.and_eq_true] at hc
        exact ⟨k, hk, e.symm, fitsB_mono hup hc.2⟩
      · rw [if_neg e] at hi2; exact absurd hi2 hfi
    · exact absurd hi2 hfi
/-- What is useful is productive. -/
theorem MarksOf.sub (h : MarksOf tn nn n st L R cl F G) (hadd : cl = true → F (st - tn).toNat = true → F 0 = true) : ∀ i, G i = true → F i = true := by
  refine h.g.inv (fun f => ∀ i, f i = true → F i = true) (fun k f hk hf i hi => ?_) (fun i hi => ?_)
  · unfold stD at hi
    split at hi
    · rename_i hg
      rw [Bool.or_eq_true] at hi
      rcases hi with hi | hi
      · exact hf i hi
      · unfold goD at hg
        rw [Bool.and_eq_true] at hg
        have hx : ((tn + i : Nat) : Int) ∈ R k := by simpa using hi
        have := (fitsB_iff tn F (R k)).1 hg.2 _ hx (by omega)
        have e : (((tn + i : Nat) : Int) - (tn : Int)).toNat = i := by omega
        rwa [e] at this
    · exact hf i hi
  · unfold startD at hi
    rw [Bool.and_eq_true] at hi
    obtain ⟨hp, hi⟩ := hi
    rw [Bool.or_eq_true, decide_eq_true_eq, Bool.and_eq_true, decide_eq_true_eq] at hi
    rcases hi with rfl | ⟨hc, rfl⟩
    · exact hp
    · exact hadd hc hp
/-- A rule that stays has useful symbols alone. -/
theorem MarksOf.closedU (h : MarksOf tn nn n st L R cl F G) (k : Nat) (hk : k < n) (hg : goD tn L R F k G = true) : ∀ x ∈ R k, (tn : Int) ≤ x → G (x - tn).toNat = true := by
  intro x hx hxt
  have hs := h.g.stay (fun k s hs => stD_same k s hs) k hk
  unfold chD at hs
  rw [hg, Bool.true_and, List.any_eq_false] at hs
  have h9 := hs x hx
  rw [decide_eq_true hxt, Bool.true_and, Bool.not_eq_true', Bool.not_eq_false] at h9
  exact h9
theorem MarksOf.start (h : MarksOf tn nn n st L R cl F G) (hp : F (st - tn).toNat = true) : G (st - tn).toNat = true := by
  refine h.g.inv (fun f => f (st - tn).toNat = true) (fun k f hk hf => ?_) ?_
  · unfold stD
    split
    · show (f _ || _) = true
      rw [hf]; rfl
    · exact hf
  · unfold startD
    rw [hp]; simp
end

theorem numTo_use {tn nn : Nat} {g : Nat → Bool} {x : Int} (h1 : (tn : Int) ≤ x) (h2 : x < ((tn + nn : Nat) : Int)) (hg : g (x - tn).toNat = true) : numTo tn g nn x.toNat = (tn : Int) + ((1 + cntU g (x - tn).toNat : Nat) : Int) := by
  unfold numTo
  have e : x.toNat - tn = (x - tn).toNat := by omega
  rw [if_neg (by omega), e, if_pos ⟨by omega, hg⟩]
theorem numTo_term {tn nn : Nat} {g : Nat → Bool} {x : Int} (h0 : 0 ≤ x) (h1 : x < (tn : Int)) : numTo tn g nn x.toNat = x := by
  unfold numTo
  rw [if_pos (by omega)]
  omega

theorem red_closed {ts : List (ByteArray × Int)} {ns : List ByteArray} {lv : List Int} {n : Nat} {L : Nat → Int} {R : Nat → List Int} {V : Nat → Int} {st : Int} {tn nn ln : Nat} (hlen : ts.length = tn ∧ ns.length = nn ∧ lv.length = ln) (hval : validOK ts ns lv st n L R V) {F G : Nat → Bool} (hM : MarksOf tn nn n st L R false F G) (hp : F (st - tn).toNat = true) (C : GR) (hC : C = redGR ts ns lv tn nn n st L R V G (fun k => goD tn L R F k G)) :
    closedOK C.terms C.nons C.levels C.start C.prods.length (fun i => (C.prods.getD i ⟨0, [], 0⟩).left) (fun i => (C.prods.getD i ⟨0, [], 0⟩).right) (fun i => (C.prods.getD i ⟨0, [], 0⟩).level) := by
  have hf := (fits_holds ts ns lv st n L R V).2 hval.1
  have hsub := hM.sub (fun h => by cases h)
  have hst := hM.start hp
  obtain ⟨hs1, hs2⟩ := hM.may.start
  have eT : C.terms = ts := by rw [hC]; rfl
  have eN : C.nons = namesTo G ns nn := by rw [hC]; rfl
  have eV : C.levels = lv := by rw [hC]; rfl
  have eS : C.start = numTo tn G nn st.toNat := by rw [hC]; rfl
  obtain ⟨ks, hks⟩ : ∃ ks, ks = (List.range n).filter fun k => goD tn L R F k G := ⟨_, rfl⟩
  have eP : C.prods = ⟨(tn : Int), [numTo tn G nn st.toNat], 0⟩ :: ks.map (prOf (numTo tn G nn) L R V) := by rw [hC, hks]; rfl
  have hks1 : ∀ k, k ∈ ks ↔ k < n ∧ goD tn L R F k G = true := fun k => by rw [hks]; simp
  have eNl : C.nons.length = 1 + cntU G nn := by rw [eN, namesTo_len]
  have hcn := cntU_le G nn
  have hn64 : nn ≤ 64 := by have := hf.nn; rw [hlen.2.1] at this; omega
  have hsy : (tn : Int) - 1 + nn ≤ 64 := by have := hf.syms; rw [hlen.1, hlen.2.1] at this; omega
  have eLen : C.prods.length = 1 + ks.length := by rw [eP]; simp; omega
  have hksl : ks.length ≤ n := by rw [hks]; have := List.length_filter_le (fun k => goD tn L R F k G) (List.range n); simpa using this
  have hat : ∀ i, i < ks.length → C.prods.getD (1 + i) ⟨0, [], 0⟩ = prOf (numTo tn G nn) L R V (ks.getD i 0) := fun i hi => by
    rw [eP, Nat.add_comm]
    simp [List.getD, hi]
  have hkm : ∀ i, i < ks.length → ks.getD i 0 < n ∧ goD tn L R F (ks.getD i 0) G = true := fun i hi => by
    refine (hks1 _).1 ?_
    rw [List.getD_eq_getElem?_getD, List.getElem?_eq_getElem hi, Option.getD_some]
    exact List.getElem_mem hi
  have hnum : ∀ k, k < n → goD tn L R F k G = true → numTo tn G nn (L k).toNat = (tn : Int) + ((1 + cntU G (L k - tn).toNat : Nat) : Int) ∧ cntU G (L k - tn).toNat < cntU G nn := fun k hk hg => by
    obtain ⟨h1, h2⟩ := hM.may.left k hk
    unfold goD at hg
    rw [Bool.and_eq_true] at hg
    exact ⟨numTo_use h1 h2 hg.1, cntU_lt G (by omega) hg.1⟩
  have hstay : ∀ i, i < nn → G i = true → ∃ k ∈ ks, (L k - tn).toNat = i := fun i _ hi => by
    obtain ⟨j, h1, h2, h3⟩ := hM.has i (hsub i hi)
    refine ⟨j, (hks1 j).2 ⟨h1, ?_⟩, h2⟩
    unfold goD
    rw [h2, hi, h3]; rfl
  have hks0 : 0 < ks.length := by
    obtain ⟨k, hk, _⟩ := hstay (st - tn).toNat (by omega) hst
    exact List.length_pos_of_mem hk
  have hsn := numTo_use (nn := nn) hs1 hs2 hst
  have hsl := cntU_lt G (show (st - tn).toNat < nn by omega) hst
  refine ⟨⟨by rw [eNl]; omega, by rw [eN]; rfl, by rw [eLen]; omega, ?_, ?_, ?_⟩, ⟨by rw [eNl]; omega, by rw [eT, hlen.1]; exact hM.may.tmax, by rw [eLen]; have := hf.pn; omega, by rw [eLen]; omega, by rw [eV]; exact hf.ln, by rw [eT, eNl, hlen.1]; omega, ?_, ?_, ?_, ?_, ?_, ?_⟩⟩
  · show (C.prods.getD 0 _).left = _
    rw [eP, eT, hlen.1]; rfl
  · show (C.prods.getD 0 _).right = _
    rw [eP, eS]; rfl
  · show (C.prods.getD 0 _).level = _
    rw [eP]; rfl
  · rw [eT, eV]; exact hf.terms
  · rw [eT, eV]; exact hf.levels
  · refine (nons1_idx C.nons).1 ?_
    rw [eN]
    have e1 : (namesTo G ns nn).drop 1 = ((List.range nn).filter G).map fun i => ns.getD i ⟨#[]⟩ := rfl
    rw [e1]
    obtain ⟨hn1, hn2⟩ := (nonsOK_idx ns).2 hf.nons
    constructor
    · intro s hs
      obtain ⟨i, hi, rfl⟩ := List.mem_map.1 hs
      have hi2 : i < nn := by have := (List.mem_filter.1 hi).1; simpa using this
      refine hn1 _ ?_
      rw [List.getD_eq_getElem?_getD, List.getElem?_eq_getElem (by omega), Option.getD_some]
      exact List.getElem_mem _
    · unfold List.Nodup
      rw [List.pairwise_map]
      have hpw : List.Pairwise (fun a b => a < b ∧ b < nn) ((List.range nn).filter G) := by
        refine List.Pairwise.filter _ ?_
        rw [List.pairwise_iff_getElem]
        intro i j hi hj hij
        simp at hi hj ⊢
        omega
      refine hpw.imp ?_
      intro a b hab
      exact (nodup_idx ⟨#[]⟩ ns).1 hn2 b a hab.1 (by rw [hlen.2.1]; exact hab.2)
  · intro i hi1 hi2
    rw [eLen] at hi2
    obtain ⟨j, rfl⟩ : ∃ j, i = 1 + j := ⟨i - 1, by omega⟩
    have hj : j < ks.length := by omega
    obtain ⟨hk, hg⟩ := hkm j hj
    obtain ⟨e1, e2⟩ := hnum _ hk hg
    show prodOK _ _ _ 1 (C.prods.getD (1 + j) _).left (C.prods.getD (1 + j) _).right (C.prods.getD (1 + j) _).level
    rw [hat j hj, eT, eNl, eV, hlen.1]
    have hpo := hf.prods _ (Nat.zero_le _) hk
    refine ⟨?_, hpo.2.1, ?_⟩
    · show isNonI tn _ 1 (numTo tn G nn (L (ks.getD j 0)).toNat)
      rw [e1]
      unfold isNonI
      omega
    · intro y hy
      obtain ⟨x, hx, rfl⟩ := List.mem_map.1 hy
      obtain ⟨x1, x2⟩ := hM.may.right _ hk x hx
      by_cases hxt : x < (tn : Int)
      · rw [numTo_term (by omega) hxt]
        exact .inl ⟨x1, hxt⟩
      · have hgx := hM.closedU _ hk hg x hx (by omega)
        rw [numTo_use (by omega) x2 hgx]
        have := cntU_lt G (show (x - tn).toNat < nn by omega) hgx
        refine .inr ?_
        unfold isNonI
        omega
  · rw [eLen, eNl, show 1 + ks.length - 1 = ks.length by omega]
    have hmem : ∀ x, x ∈ leftsTo (fun i => (C.prods.getD (1 + i) ⟨0, [], 0⟩).left) ks.length ↔ ∃ m, m < cntU G nn ∧ x = (tn : Int) + ((1 + m : Nat) : Int) := fun x => by
      rw [leftsTo_mem]
      constructor
      · rintro ⟨i, hi, rfl⟩
        obtain ⟨hk, hg⟩ := hkm i hi
        obtain ⟨e1, e2⟩ := hnum _ hk hg
        refine ⟨_, e2, ?_⟩
        show (C.prods.getD (1 + i) _).left = _
        rw [hat i hi]
        exact e1
      · rintro ⟨m, hm, rfl⟩
        obtain ⟨i, hi, hgi, rfl⟩ := cntU_onto G m nn hm
        obtain ⟨k, hk, hki⟩ := hstay i hi hgi
        obtain ⟨j, hj, hjk⟩ := List.getElem_of_mem hk
        refine ⟨j, hj, ?_⟩
        show (C.prods.getD (1 + j) _).left = _
        rw [hat j hj]
        have e : ks.getD j 0 = k := by rw [List.getD_eq_getElem?_getD, List.getElem?_eq_getElem hj, Option.getD_some, hjk]
        rw [e]
        obtain ⟨hkn, hg⟩ := (hks1 k).1 hk
        have := (hnum k hkn hg).1
        rw [hki] at this
        exact this
    have h1 := nodup_short' (leftsTo (fun i => (C.prods.getD (1 + i) ⟨0, [], 0⟩).left) ks.length) ((List.range (cntU G nn)).map fun m => (tn : Int) + ((1 + m : Nat) : Int)) (leftsTo_nodup _ _) (fun x hx => by
      obtain ⟨m, hm, rfl⟩ := (hmem x).1 hx
      exact List.mem_map.2 ⟨m, by simpa using hm, rfl⟩)
    have h2 := nodup_short' ((List.range (cntU G nn)).map fun m => (tn : Int) + ((1 + m : Nat) : Int)) (leftsTo (fun i => (C.prods.getD (1 + i) ⟨0, [], 0⟩).left) ks.length) (by
      unfold List.Nodup
      rw [List.pairwise_map, List.pairwise_iff_getElem]
      intro i j hi hj hij
      simp
      omega) (fun x hx => by
      obtain ⟨m, hm, rfl⟩ := List.mem_map.1 hx
      exact (hmem _).2 ⟨m, by simpa using hm, rfl⟩)
    rw [List.length_map, List.length_range] at h1 h2
    omega
  · rw [eT, eNl, eS, hlen.1, hsn]
    unfold isNonI
    omega

end Go.Proofs.Ytljlkmiaemkokaa

/-
  reach: Reduce and the document's Reduce, told in one form; what stays when a grammar is spoilt.
-/
namespace Go.Proofs.Ytljlkmiaemkokaa
open Go.RowKit Go.Maps Go.Shelf

attribute [local go_sem] Oper.semAt_some

section
variable (ta na la pa : Option Addr) (tc nc lc pc : Nat) (ts : List (ByteArray × Int)) (ns : List ByteArray) (lv : List Int) (n : Nat) (L : Nat → Int) (R : Nat → List Int) (ra : Nat → Option Addr) (rc : Nat → Nat) (V : Nat → Int) (st : Int) (w : World) (tn nn ln : Nat) (hlen : ts.length = tn ∧ ns.length = nn ∧ lv.length = ln) (hG : GAt w ta na la pa tc nc lc pc ts ns lv n L R ra rc V)
include hlen hG

set_option maxRecDepth 100000 in
theorem rreduce_bad (hts : ∀ t ∈ ts, t.1.size ≤ 140737488355328) (hns : ∀ s ∈ ns, s.size ≤ 140737488355328) (h1 : ¬ validOK ts ns lv st n L R V) :
    Calls Try.prog 17 #[.agg #[.slice ta tn tc, .slice na nn nc, .slice la ln lc, .int .i64 st, .slice pa n pc]] w fun e y => e = .returned (.tuple #[.agg #[.slice none 0 0, .slice none 0 0, .slice none 0 0, .int .i64 0, .slice none 0 0], .int .i64 1]) ∧ w.grownBy y none := by
  obtain ⟨rC, hC⟩ := boolOf (closedOK ts ns lv st n L R V)
  have HV : Hid (∀ Y, w.grownBy Y none → Calls Try.prog 20 #[.agg #[.slice ta tn tc, .slice na nn nc, .slice la ln lc, .int .i64 st, .slice pa n pc]] Y fun e w' => e = .returned (.bool false) ∧ Y.grownBy w' none) := fun Y hY => (rvc ta na la pa tc nc lc pc ts ns lv n L R ra rc V st w tn nn ln hlen hG hts hns Y hY false rC (by simp [h1]) hC).1
  have b1 := heap_alloc_last w (.cells #[.slice ta tn tc, .slice na nn nc, .slice la ln lc, .int .i64 st, .slice pa n pc] 27)
  have b2 := heap_alloc_last (w.alloc (.cells #[.slice ta tn tc, .slice na nn nc, .slice la ln lc, .int .i64 st, .slice pa n pc] 27)) (.cells #[.slice none 0 0, .slice none 0 0, .slice none 0 0, .int .i64 0, .slice none 0 0] 27)
  rw [World.size_alloc] at b2
  have HB2 := show Hid _ from b2
  have HG0 : Hid (w.grownBy ((w.alloc (.cells #[.slice ta tn tc, .slice na nn nc, .slice la ln lc, .int .i64 st, .slice pa n pc] 27)).alloc (.cells #[.slice none 0 0, .slice none 0 0, .slice none 0 0, .int .i64 0, .slice none 0 0] 27)) none) := grown_trans (World.grownBy_alloc _ _ none) (World.grownBy_alloc _ _ none)
  have k0 : ((w.alloc (.cells #[.slice ta tn tc, .slice na nn nc, .slice la ln lc, .int .i64 st, .slice pa n pc] 27)).alloc (.cells #[.slice none 0 0, .slice none 0 0, .slice none 0 0, .int .i64 0, .slice none 0 0] 27)).heap[w.heap.size]? = some (.cells #[.slice ta tn tc, .slice na nn nc, .slice la ln lc, .int .i64 st, .slice pa n pc] 27 (0, 0)) := (boxKept b1 (World.grownBy_alloc _ _ none)).out
  obtain ⟨m0, m1, m2, m3, m4⟩ := PhAt.cells (w := w) ⟨HG0.out, k0⟩
  clear hG hlen h1 b1 b2 k0 hts hns hC
  go_enter Try.func17, Try.ntmps17
  go_wp2_with fail
  refine Calls.mono (HV.out _ HG0.out) ?_
  rintro e w1 ⟨rfl, hg1⟩
  have HB3 := boxKept HB2.out hg1
  have HG1 : Hid (w.grownBy w1 none) := grown_trans HG0.out hg1
  obtain ⟨s0, s1, s2, s3, s4⟩ : w1.cell? ⟨w.heap.size + 1, 0, none⟩ = some (.slice none 0 0) ∧ w1.cell? ⟨w.heap.size + 1, 1, none⟩ = some (.slice none 0 0) ∧ w1.cell? ⟨w.heap.size + 1, 2, none⟩ = some (.slice none 0 0) ∧ w1.cell? ⟨w.heap.size + 1, 3, none⟩ = some (.int .i64 0) ∧ w1.cell? ⟨w.heap.size + 1, 4, none⟩ = some (.slice none 0 0) := by
    refine ⟨?_, ?_, ?_, ?_, ?_⟩ <;> rw [cell_of_row _ _ _ _ _ _ HB3.out] <;> rfl
  have sf : ∀ j, w1.frozen? ⟨w.heap.size + 1, j, none⟩ = false := fun j => frozen_of_row _ _ _ _ _ HB3.out
  have HST := show Hid _ from set5_grown w1 (w.heap.size + 1) (.slice none 0 0) (.slice none 0 0) (.slice none 0 0) (.int .i64 0) (.slice none 0 0)
  have HF3 := show Hid _ from set5_heap HB3.out (.slice none 0 0) (.slice none 0 0) (.slice none 0 0) (.int .i64 0) (.slice none 0 0)
  clear hg1 m0 m1 m2 m3 m4
  go_wp2_with fail
  refine bodyPost_ret (v := .tuple #[.agg #[.slice none 0 0, .slice none 0 0, .slice none 0 0, .int .i64 0, .slice none 0 0], .int .i64 1]) (results_rreduce _ _ (w.heap.size + 1) _ _ rfl rfl HF3.out rfl) rfl ⟨rfl, grown_at HG1.out HST.out (by omega)⟩
end

/-- The grammar that both give, and the code. -/
def redC (ts : List (ByteArray × Int)) (ns : List ByteArray) (lv : List Int) (tn nn n : Nat) (st : Int) (L : Nat → Int) (R : Nat → List Int) (V : Nat → Int) (F G : Nat → Bool) (rV : Bool) : GR := if rV = true ∧ F (st - tn).toNat = true then redGR ts ns lv tn nn n st L R V G (fun k => goD tn L R F k G) else ⟨[], [], [], 0, []⟩
def redE (tn : Nat) (st : Int) (F : Nat → Bool) (rV : Bool) : Int := if rV = true then (if F (st - tn).toNat = true then 0 else 12) else 1

/-- The answer of each. -/
def CTold (ec : Int) (C : GR) (X : World) (e : Ending) (y : World) : Prop := ∃ ta na la pa tc nc lc pc, e = .returned (.tuple #[.agg #[.slice ta C.terms.length tc, .slice na C.nons.length nc, .slice la C.levels.length lc, .int .i64 C.start, .slice pa C.prods.length pc], .int .i64 ec]) ∧ GramNew y X.heap.size C (.slice ta C.terms.length tc) (.slice na C.nons.length nc) (.slice la C.levels.length lc) (.slice pa C.prods.length pc) ∧ X.grownBy y none
theorem CTold.mk' {ec s : Int} {C : GR} {X y : World} {vt vn vl vp : Value} (hs : s = C.start) (hN : GramNew y X.heap.size C vt vn vl vp) (hg : X.grownBy y none) : CTold ec C X (.returned (.tuple #[.agg #[vt, vn, vl, .int .i64 s, vp], .int .i64 ec])) y := by
  obtain ⟨a1, c1, rfl⟩ := owns_slice hN.terms
  obtain ⟨a2, c2, rfl⟩ := owns_slice hN.nons
  obtain ⟨a3, c3, rfl⟩ := owns_slice hN.levels
  obtain ⟨rg, h4, _⟩ := hN.prods
  obtain ⟨a4, c4, rfl⟩ := owns_slice h4
  subst hs
  exact ⟨a1, a2, a3, a4, c1, c2, c3, c4, rfl, hN, hg⟩
theorem gram_nil (y : World) (B : Nat) : GramNew y B ⟨[], [], [], 0, []⟩ (.slice none 0 0) (.slice none 0 0) (.slice none 0 0) (.slice none 0 0) :=
  ⟨World.ownsRow_nil _ _ _ _, World.ownsRow_nil _ _ _ _, World.ownsRow_nil _ _ _ _, ⟨fun _ => undef, World.ownsRow_nil _ _ _ _, fun i hi => absurd hi (Nat.not_lt_zero i)⟩⟩
theorem redC_bad {ts : List (ByteArray × Int)} {ns : List ByteArray} {lv : List Int} {tn nn n : Nat} {st : Int} {L : Nat → Int} {R : Nat → List Int} {V : Nat → Int} {F G : Nat → Bool} : redC ts ns lv tn nn n st L R V F G false = ⟨[], [], [], 0, []⟩ := if_neg (fun h => by cases h.1)
theorem redC_none {ts : List (ByteArray × Int)} {ns : List ByteArray} {lv : List Int} {tn nn n : Nat} {st : Int} {L : Nat → Int} {R : Nat → List Int} {V : Nat → Int} {F G : Nat → Bool} {rV : Bool} (h : F (st - tn).toNat = false) : redC ts ns lv tn nn n st L R V F G rV = ⟨[], [], [], 0, []⟩ := if_neg (fun h' => by rw [h] at h'; cases h'.2)
theorem redC_ok {ts : List (ByteArray × Int)} {ns : List ByteArray} {lv : List Int} {tn nn n : Nat} {st : Int} {L : Nat → Int} {R : Nat → List Int} {V : Nat → Int} {F G : Nat → Bool} (h : F (st - tn).toNat = true) : redC ts ns lv tn nn n st L R V F G true = redGR ts ns lv tn nn n st L R V G (fun k => goD tn L R F k G) := if_pos ⟨rfl, h⟩
theorem redE_none {tn : Nat} {st : Int} {F : Nat → Bool} (h : F (st - tn).toNat = false) : redE tn st F true = 12 := by unfold redE; rw [if_pos rfl, h]; rfl
theorem redE_ok {tn : Nat} {st : Int} {F : Nat → Bool} (h : F (st - tn).toNat = true) : redE tn st F true = 0 := by unfold redE; rw [if_pos rfl, h]; rfl

section
variable (ta na la pa : Option Addr) (tc nc lc pc : Nat) (ts : List (ByteArray × Int)) (ns : List ByteArray) (lv : List Int) (n : Nat) (L : Nat → Int) (R : Nat → List Int) (ra : Nat → Option Addr) (rc : Nat → Nat) (V : Nat → Int) (st : Int) (w : World) (tn nn ln : Nat) (hlen : ts.length = tn ∧ ns.length = nn ∧ lv.length = ln) (hG : GAt w ta na la pa tc nc lc pc ts ns lv n L R ra rc V) (hnt : ta = none → tn = 0 ∧ tc = 0) (hnl : la = none → ln = 0 ∧ lc = 0) (rV : Bool) (hV : rV = true ↔ validOK ts ns lv st n L R V) (F G : Nat → Bool) (hM : rV = true → MarksOf tn nn n st L R false F G)
include hlen hG hnt hnl hV hM

theorem rreduce_any (hts : ∀ t ∈ ts, t.1.size ≤ 140737488355328) (hns : ∀ s ∈ ns, s.size ≤ 140737488355328) :
    Calls Try.prog 17 #[.agg #[.slice ta tn tc, .slice na nn nc, .slice la ln lc, .int .i64 st, .slice pa n pc]] w fun e y => CTold (redE tn st F rV) (redC ts ns lv tn nn n st L R V F G rV) w e y := by
  cases rV with
  | false =>
    refine (rreduce_bad ta na la pa tc nc lc pc ts ns lv n L R ra rc V st w tn nn ln hlen hG hts hns (fun h => by cases hV.2 h)).mono ?_
    rintro e y ⟨rfl, hg⟩
    rw [redC_bad]
    exact .mk' rfl (gram_nil _ _) hg
  | true =>
    refine (rreduce_ok ta na la pa tc nc lc pc ts ns lv n L R ra rc V st w tn nn ln hlen hG hnt hnl hts hns (hV.1 rfl) F G (hM rfl)).mono ?_
    rintro e y ⟨hg, ⟨hF, rfl⟩ | ⟨hF, vt, vn, vl, vp, rfl, hN⟩⟩
    · rw [redC_none hF, redE_none hF]
      exact .mk' rfl (gram_nil _ _) hg
    · rw [redC_ok hF, redE_ok hF]
      exact .mk' rfl hN hg
theorem reduce_any :
    Calls Try.prog 16 #[.agg #[.slice ta tn tc, .slice na nn nc, .slice la ln lc, .int .i64 st, .slice pa n pc]] w fun e y => CTold (redE tn st F rV) (redC ts ns lv tn nn n st L R V F G rV) w e y := by
  cases rV with
  | false =>
    refine (reduce_bad ta na la pa tc nc lc pc ts ns lv n L R ra rc V st w tn nn ln hlen hG (fun h => by cases hV.2 h)).mono ?_
    rintro e y ⟨rfl, hg⟩
    rw [redC_bad]
    exact .mk' rfl (gram_nil _ _) hg
  | true =>
    refine (reduce_ok ta na la pa tc nc lc pc ts ns lv n L R ra rc V st w tn nn ln hlen hG hnt hnl (hV.1 rfl)).mono ?_
    rintro e y ⟨f, u, hD, hg, hc⟩
    have hM' := hM rfl
    obtain rfl := hM'.f_eq hD.marks
    have hU := hM'.u_eq hD.used
    rcases hc with ⟨hF, rfl⟩ | ⟨hF, vt, vn, vl, vp, rfl, hN⟩
    · rw [redC_none hF, redE_none hF]
      exact .mk' rfl (gram_nil _ _) hg
    · have e1 : redGR ts ns lv tn nn n st L R V (fun i => u.testBit (tn + i)) (fun k => goU tn L R f k u) = redGR ts ns lv tn nn n st L R V G (fun k => goD tn L R f k G) := redGR_same hU fun k hk => by
        have hl := hM'.may.left k hk
        unfold goU goD B.hasB
        have a1 : decide ((0 : Int) ≤ L k) = true := decide_eq_true (by omega)
        have a2 : (L k).toNat = tn + (L k - tn).toNat := by omega
        rw [a1, Bool.true_and, a2, hU _ (by omega)]
      rw [redC_ok hF, redE_ok hF, ← e1]
      exact .mk' rfl hN hg
end

/-- The bounds of what both give. -/
structure CBound (C : GR) : Prop where
  t : C.terms.length ≤ 17592186044416
  s : C.nons.length ≤ 17592186044416
  l : C.levels.length ≤ 17592186044416
  p : C.prods.length ≤ 17592186044416
  r : ∀ i, i < C.prods.length → (C.prods.getD i ⟨0, [], 0⟩).right.length ≤ 17592186044416
theorem redC_bound {ts : List (ByteArray × Int)} {ns : List ByteArray} {lv : List Int} {tn nn ln n : Nat} {st : Int} {L : Nat → Int} {R : Nat → List Int} {V : Nat → Int} {F G : Nat → Bool} {rV : Bool} (hlen : ts.length = tn ∧ ns.length = nn ∧ lv.length = ln) (hV : rV = true ↔ validOK ts ns lv st n L R V) (hM : rV = true → MarksOf tn nn n st L R false F G) (hR : ∀ k, k < n → (R k).length ≤ 17592186044416) : CBound (redC ts ns lv tn nn n st L R V F G rV) := by
  by_cases h : rV = true ∧ F (st - tn).toNat = true
  · obtain ⟨rfl, hF⟩ := h
    have hc := (red_closed hlen (hV.1 rfl) (hM rfl) hF _ rfl).2
    rw [redC_ok hF]
    refine ⟨by have := hc.tn; omega, by have := hc.nn; omega, by have := hc.ln; omega, by have := hc.pn; omega, fun i hi => ?_⟩
    have e0 : (redGR ts ns lv tn nn n st L R V G (fun k => goD tn L R F k G)).prods = prodsTo tn (numTo tn G nn) st L R V (fun k => goD tn L R F k G) n := rfl
    rw [e0] at hi ⊢
    rw [List.getD_eq_getElem?_getD, List.getElem?_eq_getElem hi]
    have hm := List.getElem_mem hi
    generalize (prodsTo tn (numTo tn G nn) st L R V (fun k => goD tn L R F k G) n)[i] = x at hm
    unfold prodsTo at hm
    rcases List.mem_cons.1 hm with rfl | hm
    · simp
    · obtain ⟨j, hj, rfl⟩ := List.mem_map.1 hm
      have := hR j (by have := (List.mem_filter.1 hj).1; simpa using this)
      simpa [prOf] using this
  · have e : redC ts ns lv tn nn n st L R V F G rV = ⟨[], [], [], 0, []⟩ := if_neg h
    rw [e]
    exact ⟨by simp, by simp, by simp, by simp, fun i hi => absurd hi (Nat.not_lt_zero i)⟩

section
variable {X Y : World} {B hi lo e s n cap : Nat} {a : Option Addr} {v : Value} {xs : List Value} {C : GR}
theorem owns_wr (h : X.ownsRow B e s (.slice a n cap) n xs) : WrAt X B X.heap.size a n s e := by
  rcases h.2 with ⟨_, h⟩ | ⟨g, cap', cur, he, h1, h2, h3, _, h5, _⟩
  · exact .inl h
  · simp at he
    exact .inr ⟨g, cur, he.1, h1, (Array.getElem?_eq_some_iff.1 h2).1, h2, by rw [h5]; exact Nat.mul_le_mul_right _ h3⟩
theorem owns_out (h : X.ownsRow B e s v n xs) (ho : Outside lo hi X Y) (hB : hi ≤ B) : Y.ownsRow B e s v n xs := by
  refine ⟨h.1, ?_⟩
  rcases h.2 with h | ⟨g, cap', cur, he, h1, h2, h3⟩
  · exact .inl h
  · exact .inr ⟨g, cap', cur, he, h1, (ho.block g (Array.getElem?_eq_some_iff.1 h2).1 (.inr (by omega))).trans h2, h3⟩
theorem GramNew.out {vt vn vl vp : Value} (h : GramNew X B C vt vn vl vp) (ho : Outside lo hi X Y) (hB : hi ≤ B) : GramNew Y B C vt vn vl vp := by
  obtain ⟨rg, h1, h2⟩ := h.prods
  exact ⟨owns_out h.terms ho hB, owns_out h.nons ho hB, owns_out h.levels ho hB, rg, owns_out h1 ho hB, fun i hi => owns_out (h2 i hi) ho hB⟩
/-- A grammar of one's own may be spoilt. -/
theorem GramNew.sp {ta na la pa : Option Addr} {tc nc lc pc : Nat} (h : GramNew X B C (.slice ta C.terms.length tc) (.slice na C.nons.length nc) (.slice la C.levels.length lc) (.slice pa C.prods.length pc)) : ∃ ra rc, SpAt X B X.heap.size ta na la pa C.terms.length C.nons.length C.levels.length C.prods.length 0 ra (fun i => (C.prods.getD i ⟨0, [], 0⟩).right.length) rc := by
  obtain ⟨rg, hp, hr⟩ := h.prods
  have hI : ∀ k, ∃ a c, k < C.prods.length → rg k = .slice a (C.prods.getD k ⟨0, [], 0⟩).right.length c := fun k => by
    by_cases hk : k < C.prods.length
    · obtain ⟨a, c, e⟩ := owns_slice (hr k hk)
      exact ⟨a, c, fun _ => e⟩
    · exact ⟨none, 0, fun h => absurd h hk⟩
  refine ⟨fun k => Classical.choose (hI k), fun k => Classical.choose (Classical.choose_spec (hI k)), owns_wr h.terms, owns_wr h.nons, owns_wr h.levels, ?_, fun i hi => ?_⟩
  · rcases hp.2 with ⟨_, h⟩ | ⟨g, cap', cur, he, h1, h2, h3, _, h5, h6⟩
    · exact .inl h
    · simp at he
      refine .inr ⟨g, cur, he.1, h1, (Array.getElem?_eq_some_iff.1 h2).1, h2, by rw [h5]; exact Nat.mul_le_mul_right _ h3, fun i _ hi => ?_⟩
      have e1 := prodRow_at (fun i => (C.prods.getD i ⟨0, [], 0⟩).left) rg (fun i => (C.prods.getD i ⟨0, [], 0⟩).level) C.prods.length i hi 1 (by omega)
      rw [← h6, List.getElem?_take, if_pos (by omega)] at e1
      rw [← Array.getElem?_toList, e1]
      show some (rg i) = _
      rw [← Classical.choose_spec (Classical.choose_spec (hI i)) hi]
  · have e := Classical.choose_spec (Classical.choose_spec (hI i)) hi
    have h0 := hr i hi
    rw [e] at h0
    exact owns_wr h0
end

end Go.Proofs.Ytljlkmiaemkokaa
