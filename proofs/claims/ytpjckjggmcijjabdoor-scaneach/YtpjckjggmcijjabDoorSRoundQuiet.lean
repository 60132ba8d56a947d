/-
  A region that draws its order and only reads, within a round of a range over a function: one walk of the text's order serves.
-/
import Derived.Test.YtpjckjggmcijjabDoorSPick
import Derived.Sort.QuietIn
namespace Go.Proofs.YtpjckjggmcijjabDoor
open Go.RowKit Go.Shelf

def Oper.plainB (o : Oper) : Bool := match o.op with | .defer _ => false | _ => true
theorem plainB_spec {o : Oper} (h : Oper.plainB o = true) (c : Call) : o.op ≠ .defer c := fun e => by
  unfold Oper.plainB at h
  rw [e] at h
  cases h

section
variable {F : Fence} {n : Nat} {P : Program} {ops : Array Oper} {md : Region.Mode} {C : World → Prop}

theorem op_round {i : Nat} {a : Act} {K : Act → Prop} {K' : Act → World → Prop} {Q' : Exit → Act → World → Prop} {w : World} (hpl : ops.toList.all Oper.plainB = true) (hC : C w) (h : ∀ a w', C w' → K a → K' a w')
    (hh : qOpIn F n P ops C i K a) : wpOpIn F n P ops Q' i K' a w := by
  unfold qOpIn at hh
  unfold wpOpIn
  split
  · rename_i ho; simp only [ho] at hh; exact h _ _ hC hh
  · rename_i o ho
    simp only [ho] at hh
    obtain ⟨ha, hh⟩ := hh
    split
    · rename_i hw
      simp only [hw, if_true] at hh
      obtain ⟨v, h1, h2⟩ := hh
      have h3 := h1 w hC
      have hp : Oper.plainB o = true := List.all_eq_true.1 hpl o (by
        have := Array.mem_of_getElem? ho
        simpa using this)
      unfold Oper.quietAtIn at h3
      unfold Oper.wpIn
      refine ⟨ha w hC, ?_⟩
      rw [Oper.semAt_eq _ _ _ (plainB_spec hp)]
      generalize (execOp a.eval o).run P w = r at *
      cases r with
      | halt x w' => exact h3.elim
      | ok x w' =>
        cases x
        case value u =>
          obtain ⟨e1, e2⟩ := h3
          subst e1 e2
          exact h _ _ hC h2
        case skip =>
          obtain ⟨e1, e2⟩ := h3
          subst e1 e2
          exact h _ _ hC h2
        case enter f args =>
          obtain ⟨e1, hd, hc⟩ := h3
          subst e1
          exact ⟨hd, hc.mono fun e w'' ⟨he, hw''⟩ => by subst he; exact h _ _ hw'' h2⟩
        all_goals exact h3.elim
    · rename_i hw; simp only [hw] at hh; exact ⟨ha w hC, h _ _ hC hh⟩

theorem any_round {Q : Act → Prop} {Q' : Exit → Act → World → Prop} (hpl : ops.toList.all Oper.plainB = true) (hQ : ∀ a w, C w → Q a → Q' .normal a w) : ∀ (fuel : Nat) (listed : Array Bool) (a : Act) (w : World), C w →
    wpAnyQIn F n P md ops C Q fuel listed a → wpAnyIn F n P md ops Q' fuel listed a w
  | 0, _, _, _, hw, h => ⟨h.1, hQ _ _ hw h.2⟩
  | fuel + 1, _, _, _, hw, h => ⟨fun h0 => hQ _ _ hw (h.1 h0), fun i hi => op_round hpl hw (fun a' w' hw' => any_round hpl hQ fuel _ a' w' hw') (h.2 i hi)⟩

theorem region_round {id : Nat} {Q : Exit → Act → World → Prop} {a : Act} {w : World} {l : List Oper} (hpl : l.all Oper.plainB = true) (hm : P.follows .mixedOrders = true) (hB : Region.lexB .any l.toArray = true)
    (h : wpQuietIn F n P l.toArray (fun w' => ∃ n, w' = w.drewN n) (fun a' => ∀ w', (∃ n, w' = w.drewN n) → Q .normal a' w') l a) : (Code.region id l.toArray true).wpIn F n P Q a w := by
  simp only [Region.lexB, Bool.and_eq_true] at hB
  refine wpIn_region_any hm (any_round (C := fun w' => ∃ n, w' = w.drewN n) (Q := fun a' => ∀ w', (∃ n, w' = w.drewN n) → Q .normal a' w') (by simpa using hpl) (fun _ w' hw' h => h w' hw') _ _ _ _ ⟨1, rfl⟩ ?_)
  have := wpAnyQIn_lex (F := F) (n := n) (C := fun w' => ∃ n, w' = w.drewN n) (md := .any) hB.1 l.toArray.toList 0 (Array.replicate l.toArray.size false) a (by simp) (by simpa using hB.2) (by simpa using h)
  simpa using this
end

end Go.Proofs.YtpjckjggmcijjabDoor
