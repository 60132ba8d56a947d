import Derived.Test.YtckgjolaoifgkaaRows
import Derived.Test.YtckgjolaoifgkaaQhpegkbahfogc
import Derived.Test.YtckgjolaoifgkaaQgmcdkbchphne

/-
  trans: what the laws' theorems share.
-/
namespace Go.Proofs.Ytckgjolaoifgkaa.J
open Go.ChangeShapes Go.WideShapes Go.ChangeAt Go.RowKit Go.Deep

theorem own : ownKnob Try.prog.godebug = none := by kernel_rfl
theorem laidOut : laidOutB Try.prog = true := by kernel_rfl

end Go.Proofs.Ytckgjolaoifgkaa.J

/-
  trans: the law TransTwice, for every input that is not too great.
-/
namespace Go.Proofs.Ytckgjolaoifgkaa.J
open Go.RowKit Go.Maps Go.Shelf

theorem EsOK.way {ks : List (List It)} {es : List (List (Nat × Nat))} (h : EsOK ks es) : ∀ (r : List Int) (q : Nat), q < ks.length → ∀ v, wayF es (some (q : Int)) r = some v → ∃ p : Nat, v = (p : Int) ∧ p < ks.length
  | [], q, hq, v, hv => ⟨q, by cases hv; rfl, hq⟩
  | s :: r, q, hq, v, hv => by
    have hv' : wayF es (leadA es ((q : Int), s)) r = some v := hv
    cases hl : leadA es ((q : Int), s) with
    | none => rw [hl, wayF_none] at hv'; cases hv'
    | some u =>
      rw [hl] at hv'
      have h1 := h.lead hl
      obtain ⟨t, rfl⟩ : ∃ t : Nat, u = (t : Int) := ⟨u.toNat, by omega⟩
      exact EsOK.way h r t (by omega) v hv'

theorem twice_core (ta na la pa : Option Addr) (tc nc lc pc : Nat) (ts : List (ByteArray × Int)) (ns : List ByteArray) (lv : List Int) (n : Nat) (L : Nat → Int) (R : Nat → List Int) (ra : Nat → Option Addr) (rc : Nat → Nat) (V : Nat → Int) (st : Int) (w : World) (tn nn ln : Nat) (hlen : ts.length = tn ∧ ns.length = nn ∧ lv.length = ln) (hG : GAt w ta na la pa tc nc lc pc ts ns lv n L R ra rc V) (z : Int) (oa wa : Option Addr) (oc wc : Nat) (one two : List Int) (h1 : IntsAt w oa one) (h2 : IntsAt w wa two) (n1 : oa = none → one.length = 0 ∧ oc = 0) (n2 : wa = none → two.length = 0 ∧ wc = 0) (hb1 : one.length ≤ 1048576) (hb2 : two.length ≤ 1048576) :
    Calls Try.prog 3 #[.agg #[.slice ta tn tc, .slice na nn nc, .slice la ln lc, .int .i64 st, .slice pa n pc], .int .i64 z, .agg #[.slice oa one.length oc, .slice wa two.length wc]] w fun e w' => e = .returned (.bool true) ∧ w.grownBy w' none := by
  have hb3 : (one ++ two).length ≤ 1099511627776000 := by rw [List.length_append]; omega
  have bad : ∀ ec : Int, ec = 1 ∨ ec = 11 → OfBad ta na la pa tc nc lc pc n st w tn nn ln ec → Calls Try.prog 3 #[.agg #[.slice ta tn tc, .slice na nn nc, .slice la ln lc, .int .i64 st, .slice pa n pc], .int .i64 z, .agg #[.slice oa one.length oc, .slice wa two.length wc]] w fun e w' => e = .returned (.bool true) ∧ w.grownBy w' none := fun ec hec hO =>
    twice_err ta na la pa tc nc lc pc n st w tn nn ln z oa wa oc wc one two h1 h2 n1 n2 hb1 hb2 ec ec (by omega) (by omega) (fun X hX => walkX_bad ta na la pa tc nc lc pc n st X tn nn ln ec hec (fun Y hY => hO Y (grown_trans hX hY)) z oa one.length oc) (fun X a' c' hX _ => walkX_bad ta na la pa tc nc lc pc n st X tn nn ln ec hec (fun Y hY => hO Y (grown_trans hX hY)) z a' (one ++ two).length c')
  by_cases hc : closedOK ts ns lv st n L R V
  · have hM : MayOK tn nn n st L R true := by obtain ⟨rfl, rfl, rfl⟩ := hlen; exact mayOK_closed hc
    cases hau : autoF (GG tn n L R) (tn + nn) 256 with
    | none => exact bad 11 (.inr rfl) (ofBad11 ta na la pa tc nc lc pc ts ns lv n L R ra rc V st w tn nn ln hlen hG hc hau)
    | some p =>
      obtain ⟨ks, es⟩ := p
      obtain ⟨hO, hE⟩ := ofOk ta na la pa tc nc lc pc ts ns lv n L R ra rc V st w tn nn ln hlen hG hc hau
      have arg := fun (X : World) (hX : w.grownBy X none) (f : Int) (a' : Option Addr) (c' : Nat) (row : List Int) (hI : IntsAt X a' row) (hb : row.length ≤ 1099511627776000) (hbad : f < 0 ∨ (ks.length : Int) ≤ f ∨ ∃ x ∈ row, noB (tn + nn) x = true) => walkX_arg ta na la pa tc nc lc pc n st X tn nn ln ks es hM.tmax hM.nmax (fun Y hY => hO Y (grown_trans hX hY)) f a' c' row hI hb hbad
      have good := fun (X : World) (hX : w.grownBy X none) (q : Nat) (hq : q < ks.length) (a' : Option Addr) (c' : Nat) (row : List Int) (hI : IntsAt X a' row) (hb : row.length ≤ 1099511627776000) (hgood : ∀ x ∈ row, noB (tn + nn) x = false) => walkX_ok ta na la pa tc nc lc pc n st X tn nn ln ks es hM.tmax hM.nmax hE.le hE.ok (fun Y hY => hO Y (grown_trans hX hY)) q hq a' c' row hI hb hgood
      have dich : ∀ row : List Int, (∀ x ∈ row, noB (tn + nn) x = false) ∨ ∃ x ∈ row, noB (tn + nn) x = true := fun row => by
        by_cases h : ∃ x ∈ row, noB (tn + nn) x = true
        · exact .inr h
        · refine .inl fun x hx => ?_
          cases hb : noB (tn + nn) x with
          | false => rfl
          | true => exact absurd ⟨x, hx, hb⟩ h
      have err1 : (z < 0 ∨ (ks.length : Int) ≤ z ∨ ∃ x ∈ one, noB (tn + nn) x = true) → Calls Try.prog 3 #[.agg #[.slice ta tn tc, .slice na nn nc, .slice la ln lc, .int .i64 st, .slice pa n pc], .int .i64 z, .agg #[.slice oa one.length oc, .slice wa two.length wc]] w fun e w' => e = .returned (.bool true) ∧ w.grownBy w' none := fun hbad =>
        twice_err ta na la pa tc nc lc pc n st w tn nn ln z oa wa oc wc one two h1 h2 n1 n2 hb1 hb2 1 1 (by omega) (by omega) (fun X hX => arg X hX z oa oc one (h1.kept hX) (by omega) hbad) (fun X a' c' hX hI => arg X hX z a' c' (one ++ two) hI hb3 (by
          rcases hbad with h | h | ⟨x, hx, h⟩
          · exact .inl h
          · exact .inr (.inl h)
          · exact .inr (.inr ⟨x, List.mem_append.2 (.inl hx), h⟩)))
      by_cases hz : 0 ≤ z ∧ z < (ks.length : Int)
      · obtain ⟨q, rfl⟩ : ∃ q : Nat, z = (q : Int) := ⟨z.toNat, by omega⟩
        have hq : q < ks.length := by omega
        rcases dich one with ho | ho
        · cases hw : wayF es (some (q : Int)) one with
          | none =>
            have g1 := fun X hX => good X hX q hq oa oc one (h1.kept hX) (by omega) ho
            rw [hw] at g1
            rcases dich two with ht | ht
            · have g2 := fun X a' c' hX hI => good X hX q hq a' c' (one ++ two) hI hb3 (fun x hx => (List.mem_append.1 hx).elim (ho x) (ht x))
              rw [wayF_append, hw, wayF_none] at g2
              exact twice_lost0 ta na la pa tc nc lc pc n st w tn nn ln (q : Int) oa wa oc wc one two h1 h2 n1 n2 hb1 hb2 g1 g2
            · exact twice_lost1 ta na la pa tc nc lc pc n st w tn nn ln (q : Int) oa wa oc wc one two h1 h2 n1 n2 hb1 hb2 g1 (fun X a' c' hX hI => arg X hX (q : Int) a' c' (one ++ two) hI hb3 (.inr (.inr (by obtain ⟨x, hx, h⟩ := ht; exact ⟨x, List.mem_append.2 (.inr hx), h⟩))))
          | some v =>
            obtain ⟨p, rfl, hp⟩ := hE.way one q hq v hw
            have g1 := fun X hX => good X hX q hq oa oc one (h1.kept hX) (by omega) ho
            rw [hw] at g1
            rcases dich two with ht | ht
            · have g2 := fun X a' c' hX hI => good X hX q hq a' c' (one ++ two) hI hb3 (fun x hx => (List.mem_append.1 hx).elim (ho x) (ht x))
              rw [wayF_append, hw] at g2
              exact twice_there ta na la pa tc nc lc pc n st w tn nn ln (q : Int) oa wa oc wc one two h1 h2 n1 n2 hb1 hb2 p _ 0 g1 g2 (fun X hX => good X hX p hp wa wc two (h2.kept hX) (by omega) ht)
            · exact twice_there ta na la pa tc nc lc pc n st w tn nn ln (q : Int) oa wa oc wc one two h1 h2 n1 n2 hb1 hb2 p 0 1 g1 (fun X a' c' hX hI => arg X hX (q : Int) a' c' (one ++ two) hI hb3 (.inr (.inr (by obtain ⟨x, hx, h⟩ := ht; exact ⟨x, List.mem_append.2 (.inr hx), h⟩)))) (fun X hX => arg X hX (p : Int) wa wc two (h2.kept hX) (by omega) (.inr (.inr ht)))
        · exact err1 (.inr (.inr ho))
      · exact err1 (by omega)
  · exact bad 1 (.inl rfl) (ofBad1 ta na la pa tc nc lc pc ts ns lv n L R ra rc V st w tn nn ln hlen hG hc)

end Go.Proofs.Ytckgjolaoifgkaa.J
