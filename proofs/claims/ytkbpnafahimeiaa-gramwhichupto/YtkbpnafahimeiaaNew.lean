/-
  New; a builder that nobody made; what a nil one answers; whether a handle is one.
-/
import Derived.Test.YtkbpnafahimeiaaTerm
namespace Go.Proofs.Ytkbpnafahimeiaa
open Go.RowKit Go.Maps

def BS.zero : BS := { terms := [], nons := [], lev := fun _ => 0, sides := [], prods := [], start := 0 }
/-- The cells of an empty builder. -/
def zeroC (i : Nat) : Value := if i = 0 ∨ i = 2 then .map none else if i = 1 ∨ i = 3 ∨ i = 69 ∨ i = 70 then .slice none 0 0 else .int .i64 0

theorem zero_ok : BS.zero.OK :=
  ⟨by decide, fun _ h => (by cases h), fun _ h => (by cases h), List.nodup_nil, List.nodup_nil, by decide, fun _ h => (by cases h), by decide, fun _ => ⟨Int.le_refl _, Int.le_refl _⟩, rfl, fun _ _ => rfl, fun i hi => (by simp [BS.zero] at hi), fun _ h => (by cases h), fun _ h => (by cases h), fun _ h => (by cases h), fun _ h => (by cases h), .inl rfl⟩
theorem zero_cells (w : World) : BCells w BS.zero zeroC :=
  ⟨.inl ⟨rfl, rfl⟩, World.ownsRow_nil _ _ _ _, .inl ⟨rfl, rfl⟩, World.ownsRow_nil _ _ _ _, fun i hi => by
    have h1 : ¬ (4 + i = 0 ∨ 4 + i = 2) := by omega
    have h2 : ¬ (4 + i = 1 ∨ 4 + i = 3 ∨ 4 + i = 69 ∨ 4 + i = 70) := by omega
    show zeroC (4 + i) = _
    unfold zeroC
    rw [if_neg h1, if_neg h2]; rfl, World.ownsRow_nil _ _ _ _, ⟨[], rfl, World.ownsRow_nil _ _ _ _, fun i hi => by simp [BS.zero] at hi⟩, rfl, fun _ _ => trivial, fun _ _ _ _ => trivial, fun _ _ _ _ _ _ _ _ => trivial⟩
theorem zero_at (w : World) : BAt (w.alloc (.cells ((List.range 72).map zeroC).toArray 69)) w.heap.size BS.zero :=
  ⟨zero_ok, zeroC, heap_alloc_last w _, zero_cells _⟩

theorem builtB : Try.zeroCells69 = ((List.range 72).map zeroC).toArray := by kernel_rfl
theorem infoB : (Try.prog.info? 69).map (·.size) = some 72 := by kernel_rfl

set_option maxRecDepth 100000 in
theorem new_any (w : World) : Calls Try.prog 7 #[] w fun e w' => e = .returned (.pointer (some ⟨w.heap.size, 0, none⟩)) ∧ BAt w' w.heap.size BS.zero ∧ w.grownBy w' none := by
  have hz := zero_at w
  rw [← builtB] at hz
  have HZ : Hid (BAt (w.alloc (.cells Try.zeroCells69 69)) w.heap.size BS.zero) := hz
  clear hz
  go_enter Try.func7, Try.ntmps7
  go_wp2_with fail
  go_ret
  exact ⟨rfl, HZ.out, World.grownBy_alloc w _ none⟩

theorem isNon_any (b n cap : Nat) (h : Int) (a : Option Addr) (w : World) (hc : w.cell? ⟨b, 3, none⟩ = some (.slice a n cap)) (hn : n ≤ 64) :
    Calls Try.prog 51 #[.pointer (some ⟨b, 2, none⟩), .int .i64 h] w fun e w' => e = .returned (.bool (decide (h < 0) && decide (-(n : Int) ≤ h))) ∧ w' = w := by
  have hs := size_any b 2 n cap a w hc
  by_cases h0 : h < 0
  · have hd : decide (h < 0) = true := decide_eq_true h0
    clear hc
    go_enter Try.func51, Try.ntmps51
    go_wp2_with (go_at_call 44; refine hs.mono ?_; rintro e w' ⟨rfl, rfl⟩)
    go_ret
    exact ⟨by simp [h0], rfl⟩
  · have hd : decide (h < 0) = false := decide_eq_false h0
    clear hc
    go_enter Try.func51, Try.ntmps51
    go_wp2_with fail
    go_ret
    exact ⟨by simp, rfl⟩

theorem isTerm_any (b n cap : Nat) (h : Int) (a : Option Addr) (w : World) (hc : w.cell? ⟨b, 1, none⟩ = some (.slice a n cap)) :
    Calls Try.prog 52 #[.pointer (some ⟨b, 0, none⟩), .int .i64 h] w fun e w' => e = .returned (.bool (decide (0 < h) && decide (h ≤ n))) ∧ w' = w := by
  have hs := size_any b 0 n cap a w hc
  by_cases h0 : 0 < h
  · have hd : decide (0 < h) = true := decide_eq_true h0
    clear hc
    go_enter Try.func52, Try.ntmps52
    go_wp2_with (go_at_call 44; refine hs.mono ?_; rintro e w' ⟨rfl, rfl⟩)
    go_ret
    exact ⟨by simp [h0], rfl⟩
  · have hd : decide (0 < h) = false := decide_eq_false h0
    clear hc
    go_enter Try.func52, Try.ntmps52
    go_wp2_with fail
    go_ret
    exact ⟨by simp, rfl⟩

def BS.isN (S : BS) (h : Int) : Bool := decide (h < 0) && decide (-(S.nons.length : Int) ≤ h)
def BS.isT (S : BS) (h : Int) : Bool := decide (0 < h) && decide (h ≤ S.terms.length)

theorem isN_at (b : Nat) (S : BS) (h : Int) (w : World) (hB : BAt w b S) : Calls Try.prog 51 #[.pointer (some ⟨b, 2, none⟩), .int .i64 h] w fun e w' => e = .returned (.bool (S.isN h)) ∧ w' = w := by
  obtain ⟨hok, c, hr, hc⟩ := hB
  obtain ⟨a2, c2, hv2, _⟩ := hc.nl.form
  have hc3 := hr.cell 3 (by omega)
  rw [hv2] at hc3
  exact isNon_any b _ c2 h a2 w hc3 (by have := hok.syms; omega)
theorem isT_at (b : Nat) (S : BS) (h : Int) (w : World) (hB : BAt w b S) : Calls Try.prog 52 #[.pointer (some ⟨b, 0, none⟩), .int .i64 h] w fun e w' => e = .returned (.bool (S.isT h)) ∧ w' = w := by
  obtain ⟨hok, c, hr, hc⟩ := hB
  obtain ⟨a2, c2, hv2, _⟩ := hc.tl.form
  have hc1 := hr.cell 1 (by omega)
  rw [hv2] at hc1
  exact isTerm_any b _ c2 h a2 w hc1

/-! ### Start, Sizes; nil -/
theorem start_at (b : Nat) (S : BS) (h : Int) (w : World) (hB : BAt w b S) :
    Calls Try.prog 26 #[.pointer (some ⟨b, 0, none⟩), .int .i64 h] w fun e w' => e = .returned (.int .i64 (if S.isN h then 0 else 1)) ∧ BAt w' b (if S.isN h then { S with start := h } else S) ∧ w.grownBy w' (some b) := by
  have hn := isN_at b S h w hB
  cases hi : S.isN h with
  | false =>
    rw [hi] at hn
    have HB : Hid (BAt w b S) := hB
    clear hB
    simp only [Bool.false_eq_true, if_false]
    go_enter Try.func26, Try.ntmps26
    go_wp2_with (go_at_call 51; refine hn.mono ?_; rintro e w' ⟨rfl, rfl⟩)
    go_ret
    exact ⟨rfl, HB.out, grown_refl _ _⟩
  | true =>
    rw [hi] at hn
    have hfin : BAt (w.setCell ⟨b, 71, none⟩ (.int .i64 h)) b { S with start := h } := by
      obtain ⟨hok, c, hr, hc⟩ := hB
      have hk := hc.kept (grown_setCell b 71 (.int .i64 h)) hr.apart
      exact ⟨⟨hok.syms, hok.tnames, hok.nnames, hok.tnd, hok.nnd, hok.sides, hok.sdv, hok.prods, hok.lev, hok.lev0, hok.levT, hok.has, hok.pl, hok.pr, hok.plen, hok.pv, .inr (by simp [BS.isN] at hi; exact ⟨hi.2, hi.1⟩)⟩, _, hr.set 71 (.int .i64 h) (by omega), by rw [putC_other _ _ (by omega)]; exact hk.tm, by rw [putC_other _ _ (by omega)]; exact hk.tl, by rw [putC_other _ _ (by omega)]; exact hk.nm, by rw [putC_other _ _ (by omega)]; exact hk.nl,
        fun i hi => by rw [putC_other _ _ (by omega)]; exact hk.lv i hi, by rw [putC_other _ _ (by omega)]; exact hk.sd, by rw [putC_other _ _ (by omega)]; exact hk.pr, by rw [putC_same], foot_of hc.ft hc.pr (grown_setCell b 71 (.int .i64 h)) hr.apart rfl rfl (putC_other _ _ (by omega)) (fun i hi => .inl (putC_other _ _ (by omega)))⟩
    have hcell : ∃ v, w.cell? ⟨b, 71, none⟩ = some v := by obtain ⟨_, c, hr, _⟩ := hB; exact ⟨_, hr.cell 71 (by omega)⟩
    have hfz : w.frozen? ⟨b, 71, none⟩ = false := by obtain ⟨_, c, hr, _⟩ := hB; exact hr.free 71
    obtain ⟨v0, hcell⟩ := hcell
    have HB : Hid (BAt (w.setCell ⟨b, 71, none⟩ (.int .i64 h)) b { S with start := h }) := hfin
    clear hB hfin
    simp only [if_true]
    go_enter Try.func26, Try.ntmps26
    go_wp2_with (go_at_call 51; refine hn.mono ?_; rintro e w' ⟨rfl, rfl⟩)
    go_ret
    exact ⟨rfl, HB.out, grown_setCell _ _ _⟩

theorem sizes_nil (w : World) : Calls Try.prog 19 #[.pointer none] w fun e w' => e = .returned (.tuple #[.int .i64 0, .int .i64 0, .int .i64 0, .int .i64 0]) ∧ w' = w := by
  go_enter Try.func19, Try.ntmps19
  go_wp2_with fail
  refine bodyPost_ret (v := .tuple #[.int .i64 0, .int .i64 0, .int .i64 0, .int .i64 0]) (by simp [results, Try.results19, go_sem]) rfl ⟨rfl, rfl⟩
theorem rule_nil (l : Int) (v : Value) (w : World) : Calls Try.prog 23 #[.pointer none, .int .i64 l, v] w fun e w' => e = .returned (.tuple #[.int .i64 0, .int .i64 1]) ∧ w' = w := by
  go_enter Try.func23, Try.ntmps23
  go_wp2_with fail
  go_ret2
  exact ⟨rfl, rfl⟩
theorem grade_nil (l : Int) (v : Value) (w : World) : Calls Try.prog 60 #[.pointer none, .int .i64 l, v] w fun e w' => e = .returned (.int .i64 1) ∧ w' = w := by
  go_enter Try.func60, Try.ntmps60
  go_wp2_with fail
  go_ret
  exact ⟨rfl, rfl⟩

/-- A grammar's five cells. -/
def gramC (t n l p : Value) (st : Int) : Array Value := #[t, n, l, .int .i64 st, p]
theorem infoG : (Try.prog.info? 42).map (·.size) = some 5 := by kernel_rfl

theorem grammar_nil (w : World) : Calls Try.prog 20 #[.pointer none] w fun e w' => e = .returned (.tuple #[.agg (gramC (.slice none 0 0) (.slice none 0 0) (.slice none 0 0) (.slice none 0 0) 0), .int .i64 1]) ∧ w.grownBy w' none := by
  go_enter Try.func20, Try.ntmps20
  go_wp2_with fail
  refine bodyPost_ret (v := .tuple #[.agg (gramC (.slice none 0 0) (.slice none 0 0) (.slice none 0 0) (.slice none 0 0) 0), .int .i64 1]) (by simp [results, Try.results20, go_sem, gramC]) rfl ⟨rfl, World.grownBy_alloc w _ none⟩

end Go.Proofs.Ytkbpnafahimeiaa
