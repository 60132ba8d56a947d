/-
  A range over a function that keeps memory of its own: what the statement does, out of what one round does.
-/
import Derived.Test.YtpjckjggmcijjabDoorSIter
namespace Go.Proofs.YtpjckjggmcijjabDoor
open Go.RowKit

/-- A step of the statement's own book-keeping: a block from B on that holds no cells is turned. -/
def Book (B : Nat) (A A' : World) : Prop := ∃ l o o', B ≤ l ∧ A.heap[l]? = some o ∧ o.isCells = false ∧ A' = A.putObj l o'
/-- What is no cells and lies from B on stays. -/
def Side (B : Nat) (A A' : World) : Prop := A.heap.size ≤ A'.heap.size ∧ ∀ k o, B ≤ k → A.heap[k]? = some o → o.isCells = false → A'.heap[k]? = some o
theorem Side.refl (B : Nat) (A : World) : Side B A A := ⟨Nat.le_refl _, fun _ _ _ h _ => h⟩
theorem Side.trans {B : Nat} {X Y Z : World} (h : Side B X Y) (k : Side B Y Z) : Side B X Z := ⟨Nat.le_trans h.1 k.1, fun i o hB hi ho => k.2 i o hB (h.2 i o hB hi ho) ho⟩

/-- How a round may end. -/
def RoundEnds {α : Type} (B : Nat) (Kp : World → World → Prop) (I : List α → World → Prop) (Ix : Code → List α → World → Prop) (xs : List α) (W : World) : Exit → Act → World → Prop
  | .normal, _, W' => Side B W W' ∧ Kp W W' ∧ I xs W'
  | .ret, _, W' => Side B W W' ∧ Ix .ret xs W'
  | .exit id, _, W' => Side B W W' ∧ Ix (.exit id) xs W'
  | _, _, _ => False

theorem range_law {α : Type} {P : Program} {g : Operand} {ps : Array Tmp} {assign body : Code} {Q : Exit → Act → World → Prop} {a : Act} {w : World} {n : Nat} (gf : FuncId) (args : Nat → Array Value)
    (hres : ∀ (l : Nat) (W : World), ∃ d, (resolve a.eval (rangeCall g l) 0).run P W = .ok d W ∧ (invoke d.target d.args).run P W = .ok (.enter gf (args l)) W)
    (encs : α → Array Value) (hps : ∀ x, (encs x).size = ps.size) (Mv Kp : World → World → Prop) (Ok : List α → Prop) (S : List α → World → Prop) (I : List α → World → Prop) (Ix : Code → List α → World → Prop)
    (hbook : ∀ {A B : World}, Book w.heap.size A B → (∀ pre, I pre A → I pre B) ∧ (∀ c pre, Ix c pre A → Ix c pre B) ∧ (∀ xs, S xs A → S xs B) ∧ Kp A B)
    (hnew : ∀ o, ∀ {A : World}, ∀ pre, I pre A → I pre (A.alloc o)) (hKt : ∀ {A B C : World}, Kp A B → Kp B C → Kp A C)
    (hmI : ∀ pre A B, I pre A → Mv A B → I pre B) (hmX : ∀ c pre A B, Ix c pre A → Mv A B → Ix c pre B) (hmS : ∀ A B, Mv A B → ∀ k o, w.heap.size ≤ k → k ≤ w.heap.size + 1 → A.heap[k]? = some o → o.isCells = false → B.heap[k]? = some o)
    (hit : ∀ (J Jx : List α → World → Prop) (W : World), w.grownBy W none → W.heap.size = w.heap.size + 2 → (∀ pre A B, J pre A → Mv A B → J pre B) → (∀ pre A B, Jx pre A → Mv A B → Jx pre B) →
      (∀ pre x A, J pre A → Ok (pre ++ [x]) → YieldAt Fence.wide (n - 1 - 1) P (w.heap.size + 1) (encs x) A fun e B => (e = .returned (.bool true) ∧ J (pre ++ [x]) B ∧ Kp A B) ∨ (e = .returned (.bool false) ∧ Jx (pre ++ [x]) B)) →
      J [] W → CallsIn Fence.wide (n - 1) P gf (args (w.heap.size + 1)) W fun e W' => (∃ v, e = .returned v) ∧ ((∃ xs, S xs W' ∧ J xs W') ∨ (∃ pre, Jx pre W')))
    (h0 : I [] w)
    (hround : ∀ (pre : List α) (x : α) (W : World), I pre W → Ok (pre ++ [x]) →
      assign.wpIn (Fence.wide.inRound (w.heap.size + 1)) (n - 1 - 1) P (Exit.then (fun a₁ W₁ => Side w.heap.size W W₁ ∧ Kp W W₁ ∧ I pre W₁ ∧ ∀ W₂, Book w.heap.size W₁ W₂ → I pre W₂ → body.wpIn (Fence.wide.inRound (w.heap.size + 1)) (n - 1 - 1) P (RoundEnds w.heap.size Kp I Ix (pre ++ [x]) W₂) a₁ W₂) (fun _ _ _ => False))
        { tmps := (ps.zip (encs x)).foldl (fun t (p, v) => t.setIfInBounds p v) a.tmps, defers := [] } W)
    (hdone : ∀ (xs : List α) (W : World), S xs W → I xs W → W.heap[w.heap.size]? = some (.deferred (some [])) → Q .normal { a with defers := { target := .collected w.heap.size, args := #[] } :: a.defers } W)
    (hstop : ∀ (c : Code) (pre : List α) (W : World), Ix c pre W → W.heap[w.heap.size]? = some (.deferred (some [])) → c.wpIn Fence.wide n P Q { a with defers := { target := .collected w.heap.size, args := #[] } :: a.defers } W) :
    (Code.rangeFunc g ps assign body).wpIn Fence.wide n P Q a w := by
  refine wpIn_rangeFunc fun fn hfn => ?_
  obtain ⟨rec, hrec⟩ : ∃ rec : LoopState → Option Code → Loop, rec = fun st pe => { state := st, pending := pe, fn, tmps := a.tmps, params := ps, assign, body, defers := w.heap.size } := ⟨_, rfl⟩
  have hrdy : (rec .ready none).state = .ready := by rw [hrec]
  have hent : (Instr.enterLoop fn a.tmps ps assign body Fence.wide.round).run P w = .ok (w.heap.size + 1, [{ target := .collected w.heap.size, args := #[] }]) ((w.alloc (.deferred (some []))).alloc (.loop (rec .ready none))) := by
    rw [hrec]; exact run_enterLoop_outer _ _ _ _ _
  obtain ⟨W1, hW1⟩ : ∃ W1, (w.alloc (.deferred (some []))).alloc (.loop (rec .ready none)) = W1 := ⟨_, rfl⟩
  rw [hW1] at hent
  have hg1 : w.grownBy W1 none := by rw [← hW1]; exact grown_trans (World.grownBy_alloc _ _ none) (World.grownBy_alloc _ _ none)
  have hs1 : W1.heap.size = w.heap.size + 2 := by rw [← hW1, World.size_alloc, World.size_alloc]
  have hl1 : W1.heap[w.heap.size + 1]? = some (.loop (rec .ready none)) := by
    rw [← hW1]; have := World.alloc_heap_new (w.alloc (.deferred (some []))) (.loop (rec .ready none)); rwa [World.size_alloc] at this
  have hd1 : W1.heap[w.heap.size]? = some (.deferred (some [])) := by
    rw [← hW1]; exact ((World.grownBy_alloc _ _ none).block _ (by simp) (by simp)).trans (World.alloc_heap_new w _)
  have hi1 : I [] W1 := by rw [← hW1]; exact hnew _ _ (hnew _ _ h0)
  obtain ⟨d, hr1, hv1⟩ := hres (w.heap.size + 1) W1
  refine ⟨w.heap.size + 1, _, W1, d, W1, gf, args (w.heap.size + 1), W1, hent, hr1, fun _ _ => trivial, hv1, fun h => (by cases h), ?_⟩
  refine (hit (fun pre W => I pre W ∧ W.heap[w.heap.size + 1]? = some (.loop (rec .ready none)) ∧ W.heap[w.heap.size]? = some (.deferred (some [])))
    (fun pre W => ∃ c, Ix c pre W ∧ W.heap[w.heap.size + 1]? = some (.loop (rec .done (some c))) ∧ W.heap[w.heap.size]? = some (.deferred (some []))) W1 hg1 hs1
    (fun pre A B h hm => ⟨hmI _ _ _ h.1 hm, hmS A B hm _ _ (by omega) (by omega) h.2.1 rfl, hmS A B hm _ _ (by omega) (by omega) h.2.2 rfl⟩)
    (fun pre A B ⟨c, h1, h2, h3⟩ hm => ⟨c, hmX _ _ _ _ h1 hm, hmS A B hm _ _ (by omega) (by omega) h2 rfl, hmS A B hm _ _ (by omega) (by omega) h3 rfl⟩) ?round ⟨hi1, hl1, hd1⟩).mono ?after
  case round =>
    rintro pre x A ⟨hi, hl, hd⟩ hok
    have hy := run_yield (P := P) (args := encs x) hl (by rw [hrec]; exact hps x)
    rw [hrec] at hy
    refine ⟨fn, _, assign, body, hy, roundIn_of_wpIn hfn (wpIn_mono (hround pre x A hi hok) ?_)⟩
    intro e a1 A1 he
    cases e with
    | normal =>
      obtain ⟨hsd, hkp, hi', hbody⟩ := he
      have hl' := hsd.2 _ _ (by omega) hl rfl
      have hd' := hsd.2 _ _ (Nat.le_refl _) hd rfl
      have hbusy : Book w.heap.size A1 (A1.putObj (w.heap.size + 1) (.loop { rec .ready none with state := .busy })) := ⟨_, _, _, by omega, hl', rfl, rfl⟩
      refine ⟨_, run_beginRound hl' hrdy, ?_⟩
      obtain ⟨b1, _, _, b3⟩ := hbook hbusy
      refine wpIn_mono (hbody _ hbusy (b1 _ hi')) ?_
      have hlt : w.heap.size + 1 < A1.heap.size := (Array.getElem?_eq_some_iff.1 hl').1
      have hl2 : (A1.putObj (w.heap.size + 1) (.loop { rec .ready none with state := .busy })).heap[w.heap.size + 1]? = some (.loop { rec .ready none with state := .busy }) := World.putObj_heap_same hlt
      have hd2 : (A1.putObj (w.heap.size + 1) (.loop { rec .ready none with state := .busy })).heap[w.heap.size]? = some (.deferred (some [])) := (World.putObj_heap_other (by omega)).trans hd'
      generalize A1.putObj (w.heap.size + 1) (.loop { rec .ready none with state := .busy }) = A2 at *
      intro e2 a3 A3 he2
      have fin : ∀ jump : Option Code, Side w.heap.size A2 A3 → ∃ A4, (Instr.endRound (w.heap.size + 1) jump).run P A3 = .ok (.bool jump.isNone) A4 ∧ Book w.heap.size A3 A4 ∧ A4.heap[w.heap.size + 1]? = some (.loop (rec (if jump.isNone then .ready else .done) jump)) ∧ A4.heap[w.heap.size]? = some (.deferred (some [])) := fun jump hs => by
        have hl3 := hs.2 _ _ (by omega) hl2 rfl
        have hd3 := hs.2 _ _ (Nat.le_refl _) hd2 rfl
        have hr := run_endRound (P := P) jump hl3
        have er : ({ { rec LoopState.ready none with state := LoopState.busy } with state := if jump.isNone then LoopState.ready else LoopState.done, pending := jump } : Loop) = rec (if jump.isNone then .ready else .done) jump := by rw [hrec]
        rw [er] at hr
        exact ⟨_, hr, ⟨_, _, _, by omega, hl3, rfl, rfl⟩, World.putObj_heap_same (Array.getElem?_eq_some_iff.1 hl3).1, (World.putObj_heap_other (by omega)).trans hd3⟩
      cases e2 with
      | normal =>
        obtain ⟨hs2, hk2, hi2⟩ := he2
        obtain ⟨A4, hr4, hb4, hl4, hd4⟩ := fin none hs2
        obtain ⟨c1, _, _, c3⟩ := hbook hb4
        exact ⟨_, _, hr4, .inl ⟨rfl, ⟨c1 _ hi2, hl4, hd4⟩, hKt hkp (hKt b3 (hKt hk2 c3))⟩⟩
      | ret =>
        obtain ⟨hs2, hi2⟩ := he2
        obtain ⟨A4, hr4, hb4, hl4, hd4⟩ := fin (some .ret) hs2
        exact ⟨_, _, hr4, .inr ⟨rfl, .ret, (hbook hb4).2.1 _ _ hi2, hl4, hd4⟩⟩
      | exit id =>
        obtain ⟨hs2, hi2⟩ := he2
        obtain ⟨A4, hr4, hb4, hl4, hd4⟩ := fin (some (.exit id)) hs2
        exact ⟨_, _, hr4, .inr ⟨rfl, .exit id, (hbook hb4).2.1 _ _ hi2, hl4, hd4⟩⟩
      | goto t => exact he2.elim
      | panic ch => exact he2.elim
      | outgrown => exact he2.elim
    | exit id => exact he.elim
    | goto t => exact he.elim
    | ret => exact he.elim
    | panic ch => exact he.elim
    | outgrown => exact he.elim
  case after =>
    rintro e W2 ⟨⟨v, rfl⟩, (⟨xs, hS, hi, hl, hd⟩ | ⟨pre, c, hi, hl, hd⟩)⟩
    · obtain ⟨W3, hr, hb, hd3⟩ : ∃ W3, (Instr.endLoop (w.heap.size + 1)).run P W2 = .ok (rec .ready none).pending W3 ∧ Book w.heap.size W2 W3 ∧ W3.heap[w.heap.size]? = some (.deferred (some [])) :=
        ⟨_, run_endLoop (P := P) hl (by rw [hrec]; simp), ⟨_, _, _, by omega, hl, rfl, rfl⟩, (World.putObj_heap_other (by omega)).trans hd⟩
      obtain ⟨c1, _, c2, _⟩ := hbook hb
      have ep : (rec LoopState.ready none).pending = none := by rw [hrec]
      rw [ep] at hr
      exact ⟨none, _, hr, hdone xs _ (c2 _ hS) (c1 _ hi) hd3⟩
    · obtain ⟨W3, hr, hb, hd3⟩ : ∃ W3, (Instr.endLoop (w.heap.size + 1)).run P W2 = .ok (rec .done (some c)).pending W3 ∧ Book w.heap.size W2 W3 ∧ W3.heap[w.heap.size]? = some (.deferred (some [])) :=
        ⟨_, run_endLoop (P := P) hl (by rw [hrec]; simp), ⟨_, _, _, by omega, hl, rfl, rfl⟩, (World.putObj_heap_other (by omega)).trans hd⟩
      have ep : (rec LoopState.done (some c)).pending = some c := by rw [hrec]
      rw [ep] at hr
      exact ⟨some c, _, hr, hstop c pre _ ((hbook hb).2.1 _ _ hi) hd3⟩

end Go.Proofs.YtpjckjggmcijjabDoor
