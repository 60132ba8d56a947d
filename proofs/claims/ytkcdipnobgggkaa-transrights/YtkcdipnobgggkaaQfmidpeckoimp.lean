/-
  trans: the law TransRights, for every input.
-/
import Derived.Test.YtkcdipnobgggkaaQcofonigfblag
namespace Go.Proofs.Ytkcdipnobgggkaa.J
open Go.RowKit Go.Maps Go.Shelf Go.ChangeShapes Go.WideShapes Go.ChangeAt Go.Deep

theorem calls_exR {P : Program} {f : FuncId} {args : Array Value} {w : World} {R : Ending → World → Prop} (h : Calls P f args w R) : ∃ e y, R e y := by
  obtain ⟨e, y, _, h1, _⟩ := h []
  exact ⟨e, y, h1⟩
theorem good_sym {S : Nat} {x : Int} (h : 0 ≤ x) (h2 : x < (S : Int)) : noB S x = false := by
  unfold noB
  rw [decide_eq_true ⟨h, h2⟩]; rfl

theorem rights_core (ta na la pa : Option Addr) (tc nc lc pc : Nat) (ts : List (ByteArray × Int)) (ns : List ByteArray) (lv : List Int) (n : Nat) (L : Nat → Int) (R : Nat → List Int) (ra : Nat → Option Addr) (rc : Nat → Nat) (V : Nat → Int) (st : Int) (w : World) (tn nn ln : Nat) (hlen : ts.length = tn ∧ ns.length = nn ∧ lv.length = ln) (hG : GAt w ta na la pa tc nc lc pc ts ns lv n L R ra rc V) (z : Int) (hz : -9223372036854775808 ≤ z ∧ z ≤ 9223372036854775807) : Calls Try.prog 5 #[.agg #[.slice ta tn tc, .slice na nn nc, .slice la ln lc, .int .i64 st, .slice pa n pc], .int .i64 z] w fun e w' => e = .returned (.bool true) ∧ w.grownBy w' none := by
  by_cases hc : closedOK ts ns lv st n L R V
  · have hM : MayOK tn nn n st L R true := by obtain ⟨rfl, rfl, rfl⟩ := hlen; exact mayOK_closed hc
    cases hau : autoF (GG tn n L R) (tn + nn) 256 with
    | none => exact rights_bad ta na la pa tc nc lc pc n st w tn nn ln z 11 (.inr rfl) (ofBad11 ta na la pa tc nc lc pc ts ns lv n L R ra rc V st w tn nn ln hlen hG hc hau) (build_none ta na la pa tc nc lc pc ts ns lv n L R ra rc V st w tn nn ln hlen hG hc hau)
    | some p =>
      obtain ⟨ks, es⟩ := p
      obtain ⟨hO, hE⟩ := ofOk ta na la pa tc nc lc pc ts ns lv n L R ra rc V st w tn nn ln hlen hG hc hau
      have hA := autF hM.p0 hau
      have hB := build_some ta na la pa tc nc lc pc ts ns lv n L R ra rc V st w tn nn ln hlen hG hc hau
      have hkl : ∀ q, q < ks.length → (ks.getD q []).length ≤ 3341001 := fun q hq => (hA.kok.each q hq).len (by have := hA.kok.le; omega)
      have hNo : ∀ k, k < n → ∀ x ∈ R k, x ≠ (tn : Int) := by rw [← hlen.1]; exact no_added hc
      have hCl : ∀ q, q < ks.length → IsClo tn n L R (ks.getD q []) (CLo tn n L R (ks.getD q [])) ∧ (CLo tn n L R (ks.getD q [])).length ≤ (ks.getD q []).length + 13000 := fun q hq => by
        obtain ⟨_, y, sa, sc, kv, ev, _, hAP, hg⟩ := calls_exR (hB w (grown_refl _ _))
        obtain ⟨a, c, _, hI, hn⟩ := hAP.kerAt hq
        obtain ⟨_, _, l, h1, h2, _⟩ := calls_exR (closureOk ta na la pa tc nc lc pc ts ns lv n L R ra rc V st y tn nn ln hlen (hG.kept hg) a c (ks.getD q []) hI (by have := hkl q hq; omega) hn hc (hA.kok.each q hq).1)
        rw [CLo_eq h1 h2]
        exact ⟨h1, h2⟩
      have hCL : ∀ X a' c' q, w.grownBy X none → q < ks.length → ItsAt X a' (ks.getD q []) → (a' = none → (ks.getD q []).length = 0 ∧ c' = 0) → Calls Try.prog 15 #[.agg #[.slice ta tn tc, .slice na nn nc, .slice la ln lc, .int .i64 st, .slice pa n pc], .slice a' (ks.getD q []).length c'] X fun e y => ItsErr (CLo tn n L R (ks.getD q [])) 0 X e y := fun X a' c' q hX hq hI hn => by
        refine (closureOk ta na la pa tc nc lc pc ts ns lv n L R ra rc V st X tn nn ln hlen (hG.kept hX) a' c' (ks.getD q []) hI (by have := hkl q hq; omega) hn hc (hA.kok.each q hq).1).mono ?_
        rintro e y ⟨l, h1, h2, he⟩
        rw [CLo_eq h1 h2]
        exact he
      have hCLb : ∀ q, q < ks.length → (CLo tn n L R (ks.getD q [])).length ≤ 3354001 := fun q hq => by
        have h1 := (hCl q hq).2
        have h2 := hkl q hq
        omega
      have hWR : ∀ qn, qn < ks.length → ∀ P, P < n → ((P : Int), (0 : Int)) ∈ CLo tn n L R (ks.getD qn []) → ∃ t : Nat, t < ks.length ∧ ((P : Int), ((R P).length : Int)) ∈ CLo tn n L R (ks.getD t []) ∧ ∀ X, w.grownBy X none → Calls Try.prog 10 #[.agg #[.slice ta tn tc, .slice na nn nc, .slice la ln lc, .int .i64 st, .slice pa n pc], .int .i64 (qn : Int), .slice (ra P) (R P).length (rc P)] X fun e y => e = .returned (.tuple #[.int .i64 (t : Int), .int .i64 0]) ∧ X.grownBy y none := fun qn hqn P hP hx => by
        obtain ⟨t, h1, h2, h3⟩ := right_way hA hM.right (fun q hq => (hCl q hq).1) hqn hP hx (R P).length (Nat.le_refl _)
        rw [List.take_length] at h2
        refine ⟨t, h1, h3, fun X hX => ?_⟩
        rcases prods_kept hG.prods hX with h0 | ⟨bp, op, _, h4⟩
        · omega
        · have h := walkX_ok ta na la pa tc nc lc pc n st X tn nn ln ks es hM.tmax hM.nmax hE.le hE.ok (fun Y hY => hO Y (grown_trans hX hY)) qn hqn (ra P) (rc P) (R P) (h4 P hP).2.2.2.1 (by have := (h4 P hP).2.2.2.2.2; omega) (fun x hx => good_sym (by have := (hM.right P hP x hx).1; omega) (hM.right P hP x hx).2)
          rw [h2] at h
          exact h
      have hWL : ∀ qn, qn < ks.length → ∀ P, P < n → ((P : Int), (0 : Int)) ∈ CLo tn n L R (ks.getD qn []) → ∃ v : Int, (decide (v < 0) = ((P : Int) == 0)) ∧ ∀ X b, w.grownBy X none → IntsAt X (some ⟨b, 0, none⟩) [L P] → Calls Try.prog 10 #[.agg #[.slice ta tn tc, .slice na nn nc, .slice la ln lc, .int .i64 st, .slice pa n pc], .int .i64 (qn : Int), .slice (some ⟨b, 0, none⟩) 1 1] X fun e y => e = .returned (.tuple #[.int .i64 v, .int .i64 0]) ∧ X.grownBy y none := fun qn hqn P hP hx => by
        have hw : ∀ X b, w.grownBy X none → IntsAt X (some ⟨b, 0, none⟩) [L P] → Calls Try.prog 10 #[.agg #[.slice ta tn tc, .slice na nn nc, .slice la ln lc, .int .i64 st, .slice pa n pc], .int .i64 (qn : Int), .slice (some ⟨b, 0, none⟩) 1 1] X fun e y => e = .returned (.tuple #[.int .i64 (wayV (leadA es ((qn : Int), L P))), .int .i64 0]) ∧ X.grownBy y none := fun X b hX hI =>
          walkX_ok ta na la pa tc nc lc pc n st X tn nn ln ks es hM.tmax hM.nmax hE.le hE.ok (fun Y hY => hO Y (grown_trans hX hY)) qn hqn (some ⟨b, 0, none⟩) 1 [L P] hI (by simp) (fun x hx => by
            rw [List.mem_singleton.1 hx]
            exact good_sym (by have := (hM.left P hP).1; omega) (hM.left P hP).2)
        by_cases h0 : P = 0
        · subst h0
          refine ⟨-1, rfl, fun X b hX hI => ?_⟩
          have h := hw X b hX hI
          rw [(hM.added rfl).1, left_none hA hNo hqn] at h
          exact h
        · obtain ⟨t, _, h2⟩ := left_edge hA (fun q hq => begun_state hM.p0 hau hq) (fun q hq => (hCl q hq).1) hM.left hqn hP h0 hx
          refine ⟨(t : Int), by rw [decide_eq_false (by omega), beq_eq_false_iff_ne.2 (by omega)], fun X b hX hI => ?_⟩
          have h := hw X b hX hI
          rw [h2] at h
          exact h
      have key : ∀ zn : Nat, zn % ks.length < ks.length := fun zn => Nat.mod_lt _ hA.pos
      by_cases h0 : 0 ≤ z
      · obtain ⟨zn, rfl⟩ : ∃ zn : Nat, z = (zn : Int) := ⟨z.toNat, by omega⟩
        exact rights_pos ta na la pa tc nc lc pc n L R ra rc V st w tn nn ln (zn : Int) ks.length (askN es) (zn % ks.length) zn rfl (by omega) ks (elF es) (fun q => CLo tn n L R (ks.getD q [])) rfl (key zn) rfl hG.prods hCLb (CLo_item (hA.kok.each _ (key zn)).1) hB hCL (hWR _ (key zn)) (hWL _ (key zn))
      · obtain ⟨zn, rfl⟩ : ∃ zn : Nat, z = -(zn : Int) - 1 := ⟨(-(z + 1)).toNat, by omega⟩
        exact rights_neg ta na la pa tc nc lc pc n L R ra rc V st w tn nn ln _ ks.length (askN es) (zn % ks.length) zn rfl (by omega) ks (elF es) (fun q => CLo tn n L R (ks.getD q [])) rfl (key zn) rfl hG.prods hCLb (CLo_item (hA.kok.each _ (key zn)).1) hB hCL (hWR _ (key zn)) (hWL _ (key zn))
  · exact rights_bad ta na la pa tc nc lc pc n st w tn nn ln z 1 (.inl rfl) (ofBad1 ta na la pa tc nc lc pc ts ns lv n L R ra rc V st w tn nn ln hlen hG hc) (fun X hX => buildBad ta na la pa tc nc lc pc ts ns lv n L R ra rc V st X tn nn ln hlen (hG.kept hX) hc)

set_option maxRecDepth 100000 in
theorem open_int {H : Type} {enc : TypeId × Value → H} {W : World} {base : Nat} {v : Value} {d : DataW H} {p : List MemPlace} (hv : Value.okWide Try.prog W .any base 3 v) (h : DataW.Trod enc Try.prog W 0 (fun _ => true) true 3 v d p) : ∃ z, v = .int .i64 z ∧ (Lit.int .i64 z).wf = true := by
  obtain ⟨z, rfl⟩ := okWide_int Try.underlying3 hv
  obtain ⟨fuel, hf⟩ := h
  have hf' : DataW.trod enc Try.prog W 0 (fun _ => true) true fuel 3 [.int .i64 z] = some (d, p) := hf
  obtain ⟨z', e, h2⟩ := DataW.trod_int Try.underlying3 hf'
  simp only [List.cons.injEq, Value.int.injEq, and_true, true_and] at e
  subst e
  exact ⟨z, rfl, h2.2⟩

end Go.Proofs.Ytkcdipnobgggkaa.J
