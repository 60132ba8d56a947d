/-
  relate: what includes hands out of one way.
-/
import Derived.Test.YthoamlahbnphkaaGreatQbfdkoiaoanfi
import Derived.Test.YthoamlahbnphkaaGreatQpjcdbnfabgmf
import Derived.Deep.RegionHeld3
namespace Go.Proofs.YthoamlahbnphkaaGreat.J
open Go.RowKit Go.Maps Go.Shelf

attribute [local go_sem] Oper.semAt_some

theorem foldQ_cons (Q : Nat → List Int) (p : Nat × Int) (l : List (Nat × Int)) : foldQ Q (p :: l) = foldQ (updL Q p.1 (addL (Q p.1) p.2)) l := rfl
theorem prods_at {w : World} {a : Option Addr} {n : Nat} {L : Nat → Int} {R : Nat → List Int} {ra : Nat → Option Addr} {rc : Nat → Nat} {V : Nat → Int} (h : ProdsAt w a n L R ra rc V) (hn : 0 < n) : ∃ b off, a = some ⟨b, off, none⟩ ∧ ∀ k, k < n → w.cell? ⟨b, off + k * 3, none⟩ = some (.int .i64 (L k)) ∧ w.cell? ⟨b, off + k * 3 + 1, none⟩ = some (.slice (ra k) (R k).length (rc k)) ∧ w.cell? ⟨b, off + k * 3 + 2, none⟩ = some (.int .i64 (V k)) ∧ IntsAt w (ra k) (R k) := by
  rcases h with h | ⟨b, off, e, h⟩
  · omega
  · exact ⟨b, off, e, fun k hk => ⟨(h k hk).1, (h k hk).2.1, (h k hk).2.2.1, (h k hk).2.2.2.1⟩⟩

section
variable (ta na la pa sa xa l1 m1 : Option Addr) (tc nc lc pc sc xc lc1 mc1 : Nat) (n N T nb : Nat) (st : Int) (w : World) (tn nn ln : Nat)

set_option maxRecDepth 100000 in
set_option maxHeartbeats 4000000 in
theorem uincf_any (P : World) (B S bx kb ab hb tb : Nat) (ks : List (List It)) (es : List (List (Nat × Nat))) (kv ev : Nat → Value) (tl : List It) (F : Nat → Bool) (lb mb : Nat → Nat) (L : Nat → Int) (R : Nat → List Int) (ra : Nat → Option Addr) (rc : Nat → Nat) (V : Nat → Int) (hK : RlOK N T S tn nn ks es tl)
    (hR : RaAt B P nb nn S (.slice sa N sc) (.slice xa T xc) (.slice l1 N lc1) (.slice m1 N mc1) ks es kv ev tl F lb mb) (hPr : ProdsAt P pa n L R ra rc V) (k p q m : Nat) (hk : k < T) (hp : p < n) (hn : n ≤ 1000) (hm : m = (R p).length) (hm4 : m ≤ 10000) (hrow : ∀ x ∈ R p, 0 ≤ x ∧ x < (S : Int)) (hst : ∀ i, stF es q (R p) i < N)
    (hab : w.heap[ab]? = some (.cells #[.slice ta tn tc, .slice na nn nc, .slice la ln lc, .int .i64 st, .slice pa n pc, .slice (some ⟨nb, 0, none⟩) nn nn, .slice sa N sc, .slice xa T xc, .slice l1 N lc1, .slice m1 N mc1] 81 (0, 0))) (hhb : w.heap[hb]? = some (.cells #[.func (.func 57) #[] #[.pointer (some ⟨bx, 0, none⟩)]] 116 (0, 0)))
    (Q : Nat → List Int) (hQ : ∀ f, (Q f).length + m ≤ 10000000) (hL : LqT P w bx kb T Q tb (m + 1) (fun i => .int .i64 (stF es q (R p) i : Int))) :
    Calls Tryz.prog 60 #[.int .i64 (k : Int), .int .i64 (p : Int), .slice (some ⟨tb, 0, none⟩) (m + 1) (m + 1), .pointer (some ⟨ab, 0, none⟩), .pointer (some ⟨hb, 0, none⟩)] w fun e y => e = .returned (.tuple #[]) ∧ KeepH w y ∧ LqT P y bx kb T (foldQ Q (inW tl tn F (stF es q (R p)) (R p) (k : Int) m)) tb (m + 1) (fun i => .int .i64 (stF es q (R p) i : Int)) := by
  have HR : Hid (∀ X, P.grownBy X none → RaAt B X nb nn S (.slice sa N sc) (.slice xa T xc) (.slice l1 N lc1) (.slice m1 N mc1) ks es kv ev tl F lb mb) := fun X hX => hR.kept hX
  have HK := show Hid _ from hK
  have hnn := hK.hnn
  have HQ := show Hid _ from hQ
  have HL := show Hid _ from hL
  have HM := show Hid _ from hm
  have HRW := show Hid _ from hrow
  have HST := show Hid _ from hst
  have HHB := show Hid _ from hhb
  obtain ⟨pb, po, rfl, hps⟩ := prods_at hPr (by omega)
  obtain ⟨_, p1, _, pI⟩ := hps p hp
  rw [← hm] at p1
  have q1 : w.cell? ⟨pb, po + p * 3 + 1, none⟩ = some (.slice (ra p) m (rc p)) := hL.grown.cell p1 (by simp)
  have HRI : Hid (∀ X, P.grownBy X none → IntsAt X (ra p) (R p)) := fun X hX => pI.kept hX
  have a4 : w.cell? ⟨ab, 4, none⟩ = some (.slice (some ⟨pb, po, none⟩) n pc) := (av_cells hab).2.2.2.2.1
  obtain ⟨cs, hcs⟩ : ∃ cs : Array Value, cs = #[.slice ta tn tc, .slice na nn nc, .slice la ln lc, .int .i64 st, .slice (some ⟨pb, po, none⟩) n pc, .slice (some ⟨nb, 0, none⟩) nn nn, .slice sa N sc, .slice xa T xc, .slice l1 N lc1, .slice m1 N mc1] := ⟨_, rfl⟩
  rw [← hcs] at hab
  have HAB := show Hid _ from hab
  have HCS := show Hid _ from hcs
  obtain ⟨rap, hrap⟩ : ∃ x, x = ra p := ⟨_, rfl⟩
  obtain ⟨rcp, hrcp⟩ : ∃ x, x = rc p := ⟨_, rfl⟩
  rw [← hrap, ← hrcp] at q1
  rw [← hrap] at HRI
  have hp0 : (0 : Int) ≤ (p : Int) := by omega
  have hp1 : (p : Int) < (n : Int) := by omega
  have hmw : IntKind.i64.wrap ((m : Int) - 1) = (m : Int) - 1 := by rw [IntKind.wrap_i64]; omega
  clear hR hK hQ hL hm hrow hst hhb hab hcs hps p1 pI hPr hrap hrcp
  go_enter Tryz.func60, Tryz.ntmps60
  go_wp2_with fail
  go_loopg [9] m (fun gk v9 wr => ∃ (j : Nat), j ≤ m ∧ gk = j ∧ v9 = .int .i64 ((j : Int) - 1) ∧ KeepH w wr ∧ ∃ Qn, LqT P wr bx kb T Qn tb (m + 1) (fun i => .int .i64 (stF es q (R p) i : Int)) ∧ foldQ Qn (inW tl tn F (stF es q (R p)) (R p) (k : Int) j) = foldQ Q (inW tl tn F (stF es q (R p)) (R p) (k : Int) m) ∧ ∀ f, (Qn f).length + j ≤ 10000000)
  case atStart => exact ⟨m, Nat.le_refl _, rfl, rfl, .refl _, Q, HL.out, rfl, HQ.out⟩
  case round =>
    obtain ⟨j, hj, hgj, rfl, hkeep, Qn, hLn, hfn, hQn⟩ := hrel
    have HGJ : Hid (gk = j) := hgj
    have HKE : Hid (KeepH w wr) := hkeep
    have HLN : Hid (LqT P wr bx kb T Qn tb (m + 1) (fun i => .int .i64 (stF es q (R p) i : Int))) := hLn
    have HFN : Hid (foldQ Qn (inW tl tn F (stF es q (R p)) (R p) (k : Int) j) = foldQ Q (inW tl tn F (stF es q (R p)) (R p) (k : Int) m)) := hfn
    have HQN : Hid (∀ f, (Qn f).length + j ≤ 10000000) := hQn
    clear hgj hkeep hLn hfn hQn q1 a4 HL HQ
    generalize wr = Y at *
    have hA : (fun x => Y.grownBy x none) Y.drew := grown_drewN Y 1
    haveI hne : Nonempty (WBox (fun x => Y.grownBy x none)) := ⟨⟨_, hA⟩⟩
    have HABY : Hid (Y.heap[ab]? = some (.cells cs 81 (0, 0))) := HKE.out.at HAB.out (by decide) (by decide)
    have HHBY : Hid (Y.heap[hb]? = some (.cells #[.func (.func 57) #[] #[.pointer (some ⟨bx, 0, none⟩)]] 116 (0, 0))) := HKE.out.at HHB.out (by decide) (by decide)
    cases j with
    | zero =>
      have hd : decide ((0 : Int) ≤ (0 : Int) - 1) = false := by decide
      go_wp2_with fail
      refine wp_region_class (p := fun x => Y.grownBy x none) (by kernel_rfl) (by kernel_rfl) hA ?_
      repeat (go_big_quiet_step (fail))
      refine wpQuiet_nil ?_
      rintro _ ⟨s, rfl⟩
      go_wp2_with fail
      refine bodyPost_end (v := .tuple #[]) (by simp [results, Tryz.results60]) rfl ?_
      refine ⟨rfl, HKE.out.trans (.none_ s.ok), ?_⟩
      rw [← HFN.out]
      exact HLN.out.kept s.ok
    | succ j =>
      have e9 : ((j + 1 : Nat) : Int) - 1 = (j : Int) := by omega
      rw [e9]
      clear e9
      have hjl : j < (R p).length := by rw [← HM.out]; omega
      obtain ⟨sy, hsy⟩ : ∃ s : Nat, (R p).getD j 0 = (s : Int) := ⟨((R p).getD j 0).toNat, by have := HRW.out _ (getD_in (d := 0) hjl); omega⟩
      have hsyS : sy < S := by have := HRW.out _ (getD_in (d := 0) hjl); omega
      obtain ⟨rb, ro, rfl, hr0⟩ : ∃ rb ro, rap = some ⟨rb, ro, none⟩ ∧ ∀ X, P.grownBy X none → X.cell? ⟨rb, ro + j, none⟩ = some (.int .i64 (sy : Int)) := by
        rcases HRI.out P (grown_refl _ _) with h | ⟨rb, ro, e, h⟩
        · rw [h] at hjl; exact absurd hjl (by simp)
        · exact ⟨rb, ro, e, fun X hX => by rw [← hsy]; exact hX.cell (h j hjl) (by simp)⟩
      have HR0 := show Hid _ from hr0
      have HPY : Hid (P.grownBy Y none) := HLN.out.grown
      have HAC : Hid (∀ X, Y.grownBy X none → X.cell? ⟨ab, 0, none⟩ = some (.slice ta tn tc) ∧ X.cell? ⟨ab, 1, none⟩ = some (.slice na nn nc) ∧ X.cell? ⟨ab, 2, none⟩ = some (.slice la ln lc) ∧ X.cell? ⟨ab, 3, none⟩ = some (.int .i64 st) ∧ X.cell? ⟨ab, 4, none⟩ = some (.slice (some ⟨pb, po, none⟩) n pc) ∧ X.cell? ⟨ab, 5, none⟩ = some (.slice (some ⟨nb, 0, none⟩) nn nn) ∧ X.cell? ⟨ab, 6, none⟩ = some (.slice sa N sc) ∧ X.cell? ⟨ab, 7, none⟩ = some (.slice xa T xc) ∧ X.cell? ⟨ab, 8, none⟩ = some (.slice l1 N lc1) ∧ X.cell? ⟨ab, 9, none⟩ = some (.slice m1 N mc1)) := fun X hX => av_cells (by have h := box_kept HABY.out hX; rw [HCS.out] at h; exact h)
      have g0 := fun s : WBox (fun x => Y.grownBy x none) => (HAC.out s.w s.ok).1
      have g1 := fun s : WBox (fun x => Y.grownBy x none) => (HAC.out s.w s.ok).2.1
      have g2 := fun s : WBox (fun x => Y.grownBy x none) => (HAC.out s.w s.ok).2.2.1
      have g3 := fun s : WBox (fun x => Y.grownBy x none) => (HAC.out s.w s.ok).2.2.2.1
      have g4 := fun s : WBox (fun x => Y.grownBy x none) => (HAC.out s.w s.ok).2.2.2.2.1
      have g5 := fun s : WBox (fun x => Y.grownBy x none) => (HAC.out s.w s.ok).2.2.2.2.2.1
      have g6 := fun s : WBox (fun x => Y.grownBy x none) => (HAC.out s.w s.ok).2.2.2.2.2.2.1
      have g7 := fun s : WBox (fun x => Y.grownBy x none) => (HAC.out s.w s.ok).2.2.2.2.2.2.2.1
      have g8 := fun s : WBox (fun x => Y.grownBy x none) => (HAC.out s.w s.ok).2.2.2.2.2.2.2.2.1
      have g9 := fun s : WBox (fun x => Y.grownBy x none) => (HAC.out s.w s.ok).2.2.2.2.2.2.2.2.2
      have r0 := fun s : WBox (fun x => Y.grownBy x none) => HR0.out s.w (grown_trans HPY.out s.ok)
      obtain ⟨bt, hbt⟩ : ∃ b, b = decide ((sy : Int) < (tn : Int)) := ⟨_, rfl⟩
      have HBT := show Hid _ from hbt
      have K1 : Hid (∀ s : WBox (fun x => Y.grownBy x none), Calls Tryz.prog 61 #[.agg #[.slice ta tn tc, .slice na nn nc, .slice la ln lc, .int .i64 st, .slice (some ⟨pb, po, none⟩) n pc, .slice (some ⟨nb, 0, none⟩) nn nn, .slice sa N sc, .slice xa T xc, .slice l1 N lc1, .slice m1 N mc1], .int .i64 (sy : Int)] s.w fun e w' => e = .returned (.bool bt) ∧ ∃ s' : WBox (fun x => Y.grownBy x none), w' = s'.w) := fun s => calls_class ((uisTerm_any _ _ _ _ _ _ _ _ _ _ _ _ _ _ _ _ _ _ _ _ _ s.w _ _ _ (sy : Int) bt HBT.out).mono fun e w' h => ⟨h.1, grown_trans s.ok h.2⟩)
      have hj0 : (0 : Int) ≤ (j : Int) := by omega
      have hj1 : (j : Int) < (m : Int) := by omega
      have hjd : decide ((0 : Int) ≤ (j : Int)) = true := decide_eq_true hj0
      have HSY := show Hid _ from hsy
      clear hbt hr0 hsy
      go_wp2_with fail
      refine wp_region_class (p := fun x => Y.grownBy x none) (by kernel_rfl) (by kernel_rfl) hA ?_
      repeat (go_big_quiet_step (first | (go_at_call 61; rename_i s; with_reducible exact K1.out s)))
      refine wpQuiet_nil ?_
      rintro _ ⟨s, rfl⟩
      cases bt with
      | true =>
        have HIN : Hid (inW tl tn F (stF es q (R p)) (R p) (k : Int) (j + 1) = []) := by
          show _ = _
          rw [inW, if_pos (by rw [HSY.out]; exact of_decide_eq_true HBT.out.symm)]
        clear g0 g1 g2 g3 g4 g5 g6 g7 g8 g9 r0
        go_wp2_with fail
        refine bodyPost_end (v := .tuple #[]) (by simp [results, Tryz.results60]) rfl ?_
        refine ⟨rfl, HKE.out.trans (.none_ s.ok), ?_⟩
        rw [← HFN.out, HIN.out]
        exact HLN.out.kept s.ok
      | false =>
        clear g0 g1 g2 g3 g4 g5 g6 g7 g8 g9 r0
        have HGZ : Hid (Y.grownBy s.w none) := s.ok
        generalize s.w = Z at HGZ ⊢
        have HLZ : Hid (LqT P Z bx kb T Qn tb (m + 1) (fun i => .int .i64 (stF es q (R p) i : Int))) := HLN.out.kept HGZ.out
        have HAZ : Hid (Z.heap[ab]? = some (.cells cs 81 (0, 0))) := box_kept HABY.out HGZ.out
        have HHZ : Hid (Z.heap[hb]? = some (.cells #[.func (.func 57) #[] #[.pointer (some ⟨bx, 0, none⟩)]] 116 (0, 0))) := box_kept HHBY.out HGZ.out
        have HKZ : Hid (KeepH w Z) := HKE.out.trans (.none_ HGZ.out)
        obtain ⟨su, hsu⟩ : ∃ x, x = stF es q (R p) j := ⟨_, rfl⟩
        have hsuN : su < N := by rw [hsu]; exact HST.out j
        have hT0 : 0 < tl.length := by rw [← HK.out.hT]; omega
        obtain ⟨f, hf⟩ : ∃ f : Nat, nmF tl su sy = (f : Int) := ⟨(nmF tl su sy).toNat, by have := nmF_range hT0 su sy; omega⟩
        have hfT : f < T := by have h := nmF_range hT0 su sy; rw [hf, ← HK.out.hT] at h; omega
        obtain ⟨mg, rfl, _, _⟩ := (HR.out Z HLZ.out.grown).nmc HK.out hsuN hsyS
        have HNM : Hid (∀ X, P.grownBy X none → X.cell? ⟨mg, su, none⟩ = some (.slice (some ⟨mb su, 0, none⟩) S S) ∧ X.cell? ⟨mb su, sy, none⟩ = some (.int .i64 (f : Int))) := fun X hX => by
          obtain ⟨mg', h1, h2, h3⟩ := (HR.out X hX).nmc HK.out hsuN hsyS
          simp only [Option.some.injEq, Addr.mk.injEq, and_true] at h1
          rw [h1, ← hf]
          exact ⟨h2, h3⟩
        have HSX : Hid (∀ X : World, X.heap[ab]? = some (.cells cs 81 (0, 0)) → X.heap[hb]? = some (.cells #[.func (.func 57) #[] #[.pointer (some ⟨bx, 0, none⟩)]] 116 (0, 0)) → ∀ Qx, LqT P X bx kb T Qx tb (m + 1) (fun i => .int .i64 (stF es q (R p) i : Int)) → X.cell? ⟨hb, 0, none⟩ = some (.func (.func 57) #[] #[.pointer (some ⟨bx, 0, none⟩)]) ∧ X.cell? ⟨ab, 9, none⟩ = some (.slice (some ⟨mg, 0, none⟩) N mc1) ∧ X.cell? ⟨tb, j, none⟩ = some (.int .i64 (su : Int)) ∧ X.cell? ⟨rb, ro + j, none⟩ = some (.int .i64 (sy : Int)) ∧ X.cell? ⟨mg, su, none⟩ = some (.slice (some ⟨mb su, 0, none⟩) S S) ∧ X.cell? ⟨mb su, sy, none⟩ = some (.int .i64 (f : Int))) := fun X h1 h2 Qx h3 => by
          rw [HCS.out] at h1
          obtain ⟨h4, h5⟩ := HNM.out X h3.grown
          refine ⟨by rw [cell_of_row _ _ _ _ _ _ h2]; rfl, (av_cells h1).2.2.2.2.2.2.2.2.2, ?_, HR0.out X h3.grown, h4, h5⟩
          have h6 := h3.val.cell j (by omega)
          rw [hsu]
          exact h6
        have HKS : Hid (Z.cell? ⟨hb, 0, none⟩ = some (.func (.func 57) #[] #[.pointer (some ⟨bx, 0, none⟩)]) ∧ Z.cell? ⟨ab, 9, none⟩ = some (.slice (some ⟨mg, 0, none⟩) N mc1) ∧ Z.cell? ⟨tb, j, none⟩ = some (.int .i64 (su : Int)) ∧ Z.cell? ⟨rb, ro + j, none⟩ = some (.int .i64 (sy : Int)) ∧ Z.cell? ⟨mg, su, none⟩ = some (.slice (some ⟨mb su, 0, none⟩) S S) ∧ Z.cell? ⟨mb su, sy, none⟩ = some (.int .i64 (f : Int))) := HSX.out Z HAZ.out HHZ.out _ HLZ.out
        have HHA : Hid (Calls Tryz.prog 57 #[.int .i64 (f : Int), .int .i64 (k : Int), .pointer (some ⟨bx, 0, none⟩)] Z.drew fun e y => HandToldT P bx kb T tb (m + 1) (fun i => .int .i64 (stF es q (R p) i : Int)) Qn f (k : Int) Z.drew e y) := handT_any P Z.drew bx kb T tb (m + 1) _ Qn (HLZ.out.kept (grown_drewN Z 1)) f (k : Int) hfT (by have := HQN.out f; omega)
        have HAZ' : Hid (Z.drew.heap[ab]? = some (.cells cs 81 (0, 0))) := box_kept HAZ.out (grown_drewN Z 1)
        have HHZ' : Hid (Z.drew.heap[hb]? = some (.cells #[.func (.func 57) #[] #[.pointer (some ⟨bx, 0, none⟩)]] 116 (0, 0))) := box_kept HHZ.out (grown_drewN Z 1)
        have HKZ' : Hid (KeepH w Z.drew) := HKZ.out.trans (.none_ (grown_drewN Z 1))
        have HINC : Hid (inW tl tn F (stF es q (R p)) (R p) (k : Int) (j + 1) = (f, (k : Int)) :: (if F (sy - tn) then inW tl tn F (stF es q (R p)) (R p) (k : Int) j else [])) := by
          show _ = _
          rw [inW, HSY.out, if_neg (of_decide_eq_false HBT.out.symm), Int.toNat_natCast, ← hsu, hf, Int.toNat_natCast]
        have hsy0 : (0 : Int) ≤ (sy : Int) := by omega
        have hsy1 : (sy : Int) < (S : Int) := by omega
        have hsu0 : (0 : Int) ≤ (su : Int) := by omega
        have hsu1 : (su : Int) < (N : Int) := by omega
        have hj2 : (j : Int) < (m : Int) + 1 := by omega
        have hj3 : (j : Int) < ((m + 1 : Nat) : Int) := by omega
        clear hsu hf hT0 hA hne HAC K1
        go_wp2_with fail
        go_region_held3 (fun x' => x'.cell? ⟨hb, 0, none⟩ = some (.func (.func 57) #[] #[.pointer (some ⟨bx, 0, none⟩)]) ∧ x'.cell? ⟨ab, 9, none⟩ = some (.slice (some ⟨mg, 0, none⟩) N mc1) ∧ x'.cell? ⟨tb, j, none⟩ = some (.int .i64 (su : Int)) ∧ x'.cell? ⟨rb, ro + j, none⟩ = some (.int .i64 (sy : Int)) ∧ x'.cell? ⟨mg, su, none⟩ = some (.slice (some ⟨mb su, 0, none⟩) S S) ∧ x'.cell? ⟨mb su, sy, none⟩ = some (.int .i64 (f : Int))) (first | exact HKS.out | exact HKT.out | go_keep)
          ((first
            | (go_at_call 57; refine calls_at Z.drew (by with_reducible rfl) ?_; refine Calls.mono HHA.out ?_; rintro e w4 ⟨rfl, hk4, hl4⟩; have HA4 : Hid (w4.heap[ab]? = some (.cells cs 81 (0, 0))) := hk4.at HAZ'.out (by decide) (by decide); have HH4 : Hid (w4.heap[hb]? = some (.cells #[.func (.func 57) #[] #[.pointer (some ⟨bx, 0, none⟩)]] 116 (0, 0))) := hk4.at HHZ'.out (by decide) (by decide); have HL4 : Hid (LqT P w4 bx kb T (updL Qn f (addL (Qn f) (k : Int))) tb (m + 1) (fun i => .int .i64 (stF es q (R p) i : Int))) := hl4; have HK4 : Hid (KeepH w w4) := HKZ'.out.trans hk4; have HKT : Hid (w4.cell? ⟨hb, 0, none⟩ = some (.func (.func 57) #[] #[.pointer (some ⟨bx, 0, none⟩)]) ∧ w4.cell? ⟨ab, 9, none⟩ = some (.slice (some ⟨mg, 0, none⟩) N mc1) ∧ w4.cell? ⟨tb, j, none⟩ = some (.int .i64 (su : Int)) ∧ w4.cell? ⟨rb, ro + j, none⟩ = some (.int .i64 (sy : Int)) ∧ w4.cell? ⟨mg, su, none⟩ = some (.slice (some ⟨mb su, 0, none⟩) S S) ∧ w4.cell? ⟨mb su, sy, none⟩ = some (.int .i64 (f : Int))) := HSX.out w4 HA4.out HH4.out _ HL4.out; clear hk4 hl4)
            | fail))
        clear HKS HHA HAZ HHZ HKZ HAZ' HHZ' HKZ' HLZ HKT HSX
        have hA : (fun x => w4.grownBy x none) w4.drew := grown_drewN w4 1
        haveI hne : Nonempty (WBox (fun x => w4.grownBy x none)) := ⟨⟨_, hA⟩⟩
        have HAC4 : Hid (∀ X, w4.grownBy X none → X.cell? ⟨ab, 0, none⟩ = some (.slice ta tn tc) ∧ X.cell? ⟨ab, 1, none⟩ = some (.slice na nn nc) ∧ X.cell? ⟨ab, 2, none⟩ = some (.slice la ln lc) ∧ X.cell? ⟨ab, 3, none⟩ = some (.int .i64 st) ∧ X.cell? ⟨ab, 4, none⟩ = some (.slice (some ⟨pb, po, none⟩) n pc) ∧ X.cell? ⟨ab, 5, none⟩ = some (.slice (some ⟨nb, 0, none⟩) nn nn) ∧ X.cell? ⟨ab, 6, none⟩ = some (.slice sa N sc) ∧ X.cell? ⟨ab, 7, none⟩ = some (.slice xa T xc) ∧ X.cell? ⟨ab, 8, none⟩ = some (.slice l1 N lc1) ∧ X.cell? ⟨ab, 9, none⟩ = some (.slice (some ⟨mg, 0, none⟩) N mc1)) := fun X hX => av_cells (by have h := box_kept HA4.out hX; rw [HCS.out] at h; exact h)
        have g0 := fun s : WBox (fun x => w4.grownBy x none) => (HAC4.out s.w s.ok).1
        have g1 := fun s : WBox (fun x => w4.grownBy x none) => (HAC4.out s.w s.ok).2.1
        have g2 := fun s : WBox (fun x => w4.grownBy x none) => (HAC4.out s.w s.ok).2.2.1
        have g3 := fun s : WBox (fun x => w4.grownBy x none) => (HAC4.out s.w s.ok).2.2.2.1
        have g4 := fun s : WBox (fun x => w4.grownBy x none) => (HAC4.out s.w s.ok).2.2.2.2.1
        have g5 := fun s : WBox (fun x => w4.grownBy x none) => (HAC4.out s.w s.ok).2.2.2.2.2.1
        have g6 := fun s : WBox (fun x => w4.grownBy x none) => (HAC4.out s.w s.ok).2.2.2.2.2.2.1
        have g7 := fun s : WBox (fun x => w4.grownBy x none) => (HAC4.out s.w s.ok).2.2.2.2.2.2.2.1
        have g8 := fun s : WBox (fun x => w4.grownBy x none) => (HAC4.out s.w s.ok).2.2.2.2.2.2.2.2.1
        have g9 := fun s : WBox (fun x => w4.grownBy x none) => (HAC4.out s.w s.ok).2.2.2.2.2.2.2.2.2
        have r0 := fun s : WBox (fun x => w4.grownBy x none) => HR0.out s.w (grown_trans HL4.out.grown s.ok)
        obtain ⟨bv, hbv⟩ : ∃ b, b = (decide (tn ≤ sy) && F (sy - tn)) := ⟨_, rfl⟩
        have HBV := show Hid _ from hbv
        have K2 : Hid (∀ s : WBox (fun x => w4.grownBy x none), Calls Tryz.prog 58 #[.agg #[.slice ta tn tc, .slice na nn nc, .slice la ln lc, .int .i64 st, .slice (some ⟨pb, po, none⟩) n pc, .slice (some ⟨nb, 0, none⟩) nn nn, .slice sa N sc, .slice xa T xc, .slice l1 N lc1, .slice (some ⟨mg, 0, none⟩) N mc1], .int .i64 (sy : Int)] s.w fun e w' => e = .returned (.bool bv) ∧ ∃ s' : WBox (fun x => w4.grownBy x none), w' = s'.w) := fun s => calls_class ((uvan_any _ _ _ _ _ _ _ _ _ _ _ _ _ _ _ _ _ _ _ _ _ s.w _ _ _ F ((HR.out s.w (grown_trans HL4.out.grown s.ok)).nul) hnn sy (by rw [← HK.out.hS]; exact hsyS) bv HBV.out).mono fun e w' h => ⟨h.1, grown_trans s.ok h.2⟩)
        clear hbv
        go_wp2_with fail
        refine wp_region_class (p := fun x => w4.grownBy x none) (by kernel_rfl) (by kernel_rfl) hA ?_
        repeat (go_big_quiet_step (first | (go_at_call 58; rename_i s; with_reducible exact K2.out s)))
        refine wpQuiet_nil ?_
        rintro _ ⟨s4, rfl⟩
        clear g0 g1 g2 g3 g4 g5 g6 g7 g8 g9 r0 K2 HAC4
        cases bv with
        | false =>
          have HFI : Hid (F (sy - tn) = false) := by
            show _ = _
            have h := HBV.out
            rw [decide_eq_true (by have := of_decide_eq_false HBT.out.symm; omega), Bool.true_and] at h
            exact h.symm
          go_wp2_with fail
          refine bodyPost_ret (v := .tuple #[]) (by simp [results, Tryz.results60]) rfl ?_
          refine ⟨rfl, HK4.out.trans (.none_ s4.ok), ?_⟩
          rw [← HFN.out, HINC.out, HFI.out, foldQ_cons]
          exact HL4.out.kept s4.ok
        | true =>
          have HFI : Hid (F (sy - tn) = true) := by
            show _ = _
            have h := HBV.out
            rw [decide_eq_true (by have := of_decide_eq_false HBT.out.symm; omega), Bool.true_and] at h
            exact h.symm
          have hjw : IntKind.i64.wrap ((j : Int) - 1) = (j : Int) - 1 := by rw [IntKind.wrap_i64]; omega
          go_wp2_with fail
          go_roundg j
          all_goals first
            | (refine (show ∃ (j' : Nat), _ from ⟨j, by omega, rfl, by go_num, HK4.out.trans (.none_ s4.ok), updL Qn f (addL (Qn f) (k : Int)), HL4.out.kept s4.ok, ?_, fun f' => ?_⟩)
               · rw [← HFN.out, HINC.out, HFI.out, foldQ_cons]; rfl
               · have h1 := HQN.out f'
                 have h2 := HQN.out f
                 by_cases e : f' = f
                 · rw [e, updL_same]; have := addL_len (Qn f) (k : Int); omega
                 · rw [updL_other _ _ e]; omega)
            | (have := HGJ.out; omega)
end

end Go.Proofs.YthoamlahbnphkaaGreat.J
