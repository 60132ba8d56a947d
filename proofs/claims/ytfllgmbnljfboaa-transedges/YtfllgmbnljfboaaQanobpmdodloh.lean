import Derived.Test.YtfllgmbnljfboaaRows
import Derived.Test.YtfllgmbnljfboaaQhobaepnbbiko
import Derived.Test.YtfllgmbnljfboaaQnpmfgjpklmba

/-
  trans: what the laws' theorems share.
-/
namespace Go.Proofs.Ytfllgmbnljfboaa.J
open Go.ChangeShapes Go.WideShapes Go.ChangeAt Go.RowKit Go.Deep

theorem own : ownKnob Try.prog.godebug = none := by kernel_rfl
theorem laidOut : laidOutB Try.prog = true := by kernel_rfl

end Go.Proofs.Ytfllgmbnljfboaa.J

/-
  trans: the law TransEdges, for every input.
-/
namespace Go.Proofs.Ytfllgmbnljfboaa.J
open Go.RowKit Go.Maps Go.Shelf

theorem tedges_core (ta na la pa : Option Addr) (tc nc lc pc : Nat) (ts : List (ByteArray × Int)) (ns : List ByteArray) (lv : List Int) (n : Nat) (L : Nat → Int) (R : Nat → List Int) (ra : Nat → Option Addr) (rc : Nat → Nat) (V : Nat → Int) (st : Int) (w : World) (tn nn ln : Nat) (hlen : ts.length = tn ∧ ns.length = nn ∧ lv.length = ln) (hG : GAt w ta na la pa tc nc lc pc ts ns lv n L R ra rc V) : Calls Try.prog 6 #[.agg #[.slice ta tn tc, .slice na nn nc, .slice la ln lc, .int .i64 st, .slice pa n pc]] w fun e w' => e = .returned (.bool true) ∧ w.grownBy w' none := by
  by_cases hc : closedOK ts ns lv st n L R V
  · have hM : MayOK tn nn n st L R true := by obtain ⟨rfl, rfl, rfl⟩ := hlen; exact mayOK_closed hc
    cases hau : autoF (GG tn n L R) (tn + nn) 256 with
    | none => exact tedges_bad ta na la pa tc nc lc pc n st w tn nn ln 11 (.inr rfl) (ofBad11 ta na la pa tc nc lc pc ts ns lv n L R ra rc V st w tn nn ln hlen hG hc hau) (build_none ta na la pa tc nc lc pc ts ns lv n L R ra rc V st w tn nn ln hlen hG hc hau)
    | some p =>
      obtain ⟨ks, es⟩ := p
      obtain ⟨hO, hE⟩ := ofOk ta na la pa tc nc lc pc ts ns lv n L R ra rc V st w tn nn ln hlen hG hc hau
      exact tedges_ok ta na la pa tc nc lc pc n st w tn nn ln (askN es) hM.tmax hM.nmax ks es hE (fun q hq x hx => ((autF hM.p0 hau).snd q hq x hx).1) hO (build_some ta na la pa tc nc lc pc ts ns lv n L R ra rc V st w tn nn ln hlen hG hc hau)
  · exact tedges_bad ta na la pa tc nc lc pc n st w tn nn ln 1 (.inl rfl) (ofBad1 ta na la pa tc nc lc pc ts ns lv n L R ra rc V st w tn nn ln hlen hG hc) (fun X hX => buildBad ta na la pa tc nc lc pc ts ns lv n L R ra rc V st X tn nn ln hlen (hG.kept hX) hc)

end Go.Proofs.Ytfllgmbnljfboaa.J
