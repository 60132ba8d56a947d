import Derived.Test.YtapahpljmcaahaaQhbfoknhjkobd
import Derived.Test.YtapahpljmcaahaaQnamobcfoomno
import Derived.Test.YtapahpljmcaahaaQmbeneijiciel
import Derived.ProofKit
import Derived.OpenShut
import Derived.SliceStrings
import Derived.Deep.Slices
import Derived.SizedLaws
import Derived.Test.YtapahpljmcaahaaRows
import Derived.Test.YtapahpljmcaahaaQeapmpnlfgojj

/-
  lr0: the document's Same, of two automata that are the same.
-/
namespace Go.Proofs.Ytapahpljmcaahaa.J
open Go.RowKit Go.Maps Go.Shelf

attribute [local go_sem] Oper.semAt_some

theorem neq_edge (p d p' d' : Int) (w : World) : (binOp .neq 61 (.agg #[.int .i64 p, .int .i64 d]) (.agg #[.int .i64 p', .int .i64 d'])).run Try.prog w = .ok (.bool (!(p == p' && d == d'))) w := by
  have u3 := Try.underlying3
  have a3 := Try.isAgg3
  have z3 := Try.sizeOf3
  have hS : Try.prog.underlying 61 = some (.struct (Try.prog.fieldsOf 61)) := by kernel_rfl
  have hp : Try.prog.stoodInHeld 61 = false := by kernel_rfl
  rw [run_neq_struct, show (10000 : Nat) = 9999 + 1 from rfl, run_equalIn_agg w 9999 61 _ _ hS hp]
  simp only [Program.fieldsOf, Try.underlying61]
  go_simp
  by_cases h1 : p = p' <;> by_cases h2 : d = d' <;> simp [h1, h2]

set_option maxRecDepth 100000 in
set_option maxHeartbeats 4000000 in
theorem sameAuto_any (sa sb : Option Addr) (sc sd : Nat) (ask nI : Int) (w : World) (B B' : Nat) (ks : List (List It)) (el : Nat → List It) (kv ev kv' ev' : Nat → Value) (hA : AutP B w (.slice sa ks.length sc) ks el kv ev) (hB : AutP B' w (.slice sb ks.length sd) ks el kv' ev') (hks : ks.length ≤ 256) (hkb : ∀ i, i < ks.length → (ks.getD i []).length ≤ 1099511627776000) (heb : ∀ i, i < ks.length → (el i).length ≤ 1000) :
    Calls Try.prog 9 #[.agg #[.slice sa ks.length sc, .int .i64 ask, .int .i64 nI], .agg #[.slice sb ks.length sd, .int .i64 ask, .int .i64 nI]] w fun e y => e = .returned (.bool true) ∧ w.grownBy y none := by
  obtain ⟨N, hN⟩ : ∃ n, n = ks.length := ⟨_, rfl⟩
  have HN : Hid (N = ks.length) := hN
  have HA : Hid (∀ Y, w.grownBy Y none → AutP B Y (.slice sa N sc) ks el kv ev) := fun Y hY => by rw [hN]; exact hA.kept hY
  have HB : Hid (∀ Y, w.grownBy Y none → AutP B' Y (.slice sb N sd) ks el kv' ev') := fun Y hY => by rw [hN]; exact hB.kept hY
  have HKB : Hid (∀ i, i < N → (ks.getD i []).length ≤ 1099511627776000) := by rw [hN]; exact hkb
  have HEB : Hid (∀ i, i < N → (el i).length ≤ 1000) := by rw [hN]; exact heb
  have HG0 : Hid (w.grownBy ((w.alloc (.cells #[.slice sa N sc, .int .i64 ask, .int .i64 nI] 32)).alloc (.cells #[.slice sb N sd, .int .i64 ask, .int .i64 nI] 32)) none) := grown_trans (World.grownBy_alloc _ _ none) (World.grownBy_alloc _ _ none)
  have HBA : Hid (((w.alloc (.cells #[.slice sa N sc, .int .i64 ask, .int .i64 nI] 32)).alloc (.cells #[.slice sb N sd, .int .i64 ask, .int .i64 nI] 32)).heap[w.heap.size]? = some (.cells #[.slice sa N sc, .int .i64 ask, .int .i64 nI] 32 (0, 0))) := box_kept (heap_alloc_last w _) (World.grownBy_alloc _ _ none)
  have HBB : Hid (((w.alloc (.cells #[.slice sa N sc, .int .i64 ask, .int .i64 nI] 32)).alloc (.cells #[.slice sb N sd, .int .i64 ask, .int .i64 nI] 32)).heap[w.heap.size + 1]? = some (.cells #[.slice sb N sd, .int .i64 ask, .int .i64 nI] 32 (0, 0))) := by
    have h := heap_alloc_last (w.alloc (.cells #[.slice sa N sc, .int .i64 ask, .int .i64 nI] 32)) (.cells #[.slice sb N sd, .int .i64 ask, .int .i64 nI] 32)
    rw [World.size_alloc] at h; exact h
  rw [← hN] at hks
  rw [← hN]
  have hq1 : (ask != ask) = false := bne_self_eq_false _
  have hq2 : (nI != nI) = false := bne_self_eq_false _
  have hq3 : ((N : Int) != (N : Int)) = false := bne_self_eq_false _
  have hq4 : (N != N) = false := bne_self_eq_false _
  have hnq := neq_edge
  clear hA hB hkb heb hN
  go_enter Try.func9, Try.ntmps9
  go_wp2_with fail
  obtain ⟨W, hW⟩ : ∃ W, W = (w.alloc (.cells #[.slice sa N sc, .int .i64 ask, .int .i64 nI] 32)).alloc (.cells #[.slice sb N sd, .int .i64 ask, .int .i64 nI] 32) := ⟨_, rfl⟩
  rw [← hW] at HG0 HBA HBB ⊢
  clear hW
  go_loopg [5] N (fun gk v5 wr => ∃ i : Nat, i ≤ N ∧ gk = N - i ∧ v5 = .int .i64 i ∧ W.grownBy wr none)
  case atStart => exact ⟨0, Nat.zero_le _, rfl, rfl, grown_refl _ _⟩
  case round =>
    obtain ⟨i, hi, hgi, rfl, hg⟩ := hrel
    have HGI : Hid (gk = N - i) := hgi
    have HG : Hid (W.grownBy wr none) := hg
    have y0 : wr.cell? ⟨w.heap.size, 0, none⟩ = some (.slice sa N sc) := by rw [cell_of_row _ _ _ _ _ _ (box_kept HBA.out hg)]; rfl
    clear hgi hg
    by_cases hlt : i < N
    · have hid : decide (i < N) = true := decide_eq_true hlt
      have hi0 : (0 : Int) ≤ (i : Int) := by omega
      have hi1 : (i : Int) < (N : Int) := by omega
      have hil : i < ks.length := by rw [← HN.out]; exact hlt
      have hAw := HA.out wr (grown_trans HG0.out HG.out)
      have hBw := HB.out wr (grown_trans HG0.out HG.out)
      rw [HN.out] at hAw hBw
      obtain ⟨ga, ca, ha0, r0, r1⟩ := hAw.st hil
      obtain ⟨gb, cb, hb0, r2, r3⟩ := hBw.st hil
      simp only [Value.slice.injEq] at ha0 hb0
      obtain ⟨rfl, _, rfl⟩ := ha0
      obtain ⟨rfl, _, rfl⟩ := hb0
      obtain ⟨ka, kc, hk1, hk2, _⟩ := hAw.kerAt hil
      obtain ⟨kb, kd, hk3, hk4, _⟩ := hBw.kerAt hil
      obtain ⟨ea, ec, he1, he2⟩ := hAw.edgAt hil
      obtain ⟨eb, ed, he3, he4⟩ := hBw.edgAt hil
      rw [hk1] at r0
      rw [he1] at r1
      rw [hk3] at r2
      rw [he3] at r3
      obtain ⟨K, hK⟩ : ∃ k, k = (ks.getD i []).length := ⟨_, rfl⟩
      obtain ⟨E, hE⟩ : ∃ k, k = (el i).length := ⟨_, rfl⟩
      have HE : Hid (E = (el i).length) := hE
      have hEb : E ≤ 1000 := by rw [hE]; exact HEB.out i hlt
      have HSM : Hid (∀ Y, wr.grownBy Y none → Calls Try.prog 13 #[.slice ka K kc, .slice kb K kd] Y fun e y => e = .returned (.bool true) ∧ Y.grownBy y none) := fun Y hY => by
        rw [hK]
        exact sameItems_any ka kb kc kd _ _ Y (hk2.kept hY) (hk4.kept hY) (HKB.out i hlt) (HKB.out i hlt) true ⟨fun _ => rfl, fun _ => rfl⟩
      have HEA : Hid (∀ Y, wr.grownBy Y none → ItsAt Y ea (el i) ∧ ItsAt Y eb (el i)) := fun Y hY => ⟨he2.kept hY, he4.kept hY⟩
      rw [← hK] at r0 r2
      rw [← hE] at r1 r3
      obtain ⟨T1, hT1⟩ : ∃ T, T = wr.alloc (.cells #[.slice ka K kc, .slice ea E ec] 43) := ⟨_, rfl⟩
      obtain ⟨T2, hT2⟩ : ∃ T, T = T1.alloc (.cells #[.slice kb K kd, .slice eb E ed] 43) := ⟨_, rfl⟩
      have HT1 : Hid (T1 = wr.alloc (.cells #[.slice ka K kc, .slice ea E ec] 43)) := hT1
      have HT2 : Hid (T2 = T1.alloc (.cells #[.slice kb K kd, .slice eb E ed] 43)) := hT2
      have g1 : wr.grownBy T1 none := by rw [hT1]; exact World.grownBy_alloc _ _ none
      have g2 : T1.grownBy T2 none := by rw [hT2]; exact World.grownBy_alloc _ _ none
      have HG2 : Hid (wr.grownBy T2 none) := grown_trans g1 g2
      have HX1 : Hid (T2.heap[wr.heap.size]? = some (.cells #[.slice ka K kc, .slice ea E ec] 43 (0, 0))) := by
        refine box_kept ?_ g2
        rw [hT1]; exact heap_alloc_last wr _
      have HX2 : Hid (T2.heap[wr.heap.size + 1]? = some (.cells #[.slice kb K kd, .slice eb E ed] 43 (0, 0))) := by
        have h := heap_alloc_last T1 (.cells #[.slice kb K kd, .slice eb E ed] 43)
        rw [hT2]
        have e : T1.heap.size = wr.heap.size + 1 := by rw [hT1, World.size_alloc]
        rw [e] at h; exact h
      have z0 : T1.cell? ⟨w.heap.size + 1, 0, none⟩ = some (.slice (some ⟨gb, 0, none⟩) N sd) := by rw [cell_of_row _ _ _ _ _ _ (box_kept HBB.out (grown_trans HG.out g1))]; rfl
      have z2 := g1.cell r2 (by simp)
      have z3 := g1.cell r3 (by simp)
      have x0 : T2.cell? ⟨wr.heap.size, 0, none⟩ = some (.slice ka K kc) := by rw [cell_of_row _ _ _ _ _ _ HX1.out]; rfl
      have x1 : T2.cell? ⟨wr.heap.size + 1, 0, none⟩ = some (.slice kb K kd) := by rw [cell_of_row _ _ _ _ _ _ HX2.out]; rfl
      rw [hT1] at z0 z2 z3
      rw [hT2, hT1] at x0 x1
      clear hAw hBw hk1 hk2 hk3 hk4 he1 he2 he3 he4 hK hE hil hT1 hT2 g1 g2 r2 r3
      go_wp2_with fail
      rw [← HT1.out, ← HT2.out]
      refine Calls.mono (HSM.out _ HG2.out) ?_
      rintro e w5 ⟨rfl, hg5⟩
      have HG5 : Hid (wr.grownBy w5 none) := grown_trans HG2.out hg5
      have HX5 : Hid (∀ Y, w5.grownBy Y none → Y.cell? ⟨wr.heap.size, 1, none⟩ = some (.slice ea E ec) ∧ Y.cell? ⟨wr.heap.size + 1, 1, none⟩ = some (.slice eb E ed)) := fun Y hY => ⟨by rw [cell_of_row _ _ _ _ _ _ (box_kept HX1.out (grown_trans hg5 hY))]; rfl, by rw [cell_of_row _ _ _ _ _ _ (box_kept HX2.out (grown_trans hg5 hY))]; rfl⟩
      obtain ⟨b0, b1⟩ := HX5.out w5 (grown_refl _ _)
      have hee : ((E : Int) != (E : Int)) = false := bne_self_eq_false _
      have hee2 : (E != E) = false := bne_self_eq_false _
      clear hg5 y0 r0 r1 z0 z2 z3 x0 x1
      generalize wr = W0 at *
      go_wp2_with fail
      clear b0 b1
      go_loopg [9] E (fun gk v9 wr => ∃ j : Nat, j ≤ E ∧ gk = E - j ∧ v9 = .int .i64 j ∧ w5.grownBy wr none)
      case atStart => exact ⟨0, Nat.zero_le _, rfl, rfl, grown_refl _ _⟩
      case round =>
        obtain ⟨j, hj, hgj, rfl, hg⟩ := hrel
        have HGJ : Hid (gk = E - j) := hgj
        have HGR : Hid (w5.grownBy wr none) := hg
        clear hgj hg
        obtain ⟨b0, b1⟩ := HX5.out wr HGR.out
        by_cases hjt : j < E
        · have hjd : decide (j < E) = true := decide_eq_true hjt
          have hj0 : (0 : Int) ≤ (j : Int) := by omega
          have hj1 : (j : Int) < (E : Int) := by omega
          have hjl : j < (el i).length := by rw [← HE.out]; exact hjt
          obtain ⟨h1, h2⟩ := HEA.out wr (grown_trans HG5.out HGR.out)
          obtain ⟨ab, ao, rfl, c0, c1⟩ := h1.cellAt hjl
          obtain ⟨bb, bo, rfl, c2, c3⟩ := h2.cellAt hjl
          obtain ⟨x, hx⟩ : ∃ x, x = (el i).getD j (0, 0) := ⟨_, rfl⟩
          rw [← hx] at c0 c1 c2 c3
          obtain ⟨p, d⟩ := x
          simp only at c0 c1 c2 c3
          have hpp : (p == p) = true := beq_self_eq_true _
          have hdd : (d == d) = true := beq_self_eq_true _
          clear h1 h2 hx hjl
          go_wp2_with fail
          go_quiet (fail)
          go_wp2_with fail
          go_roundg (E - (j + 1))
          case measure => have := HGJ.out; omega
          case rel => exact ⟨j + 1, by omega, rfl, by go_num, by first | exact HGR.out | exact grown_trans HGR.out (grown_drewN _ _)⟩
        · have hjE : E = j := by omega
          subst hjE
          have hjd : decide (E < E) = false := decide_eq_false (by omega)
          go_wp2_with fail
          go_roundg (N - (i + 1))
          case measure => have := HGI.out; omega
          case rel => exact ⟨i + 1, by omega, rfl, by go_num, grown_trans HG.out (grown_trans HG5.out HGR.out)⟩
    · have hiN : N = i := by omega
      subst hiN
      have hid : decide (N < N) = false := decide_eq_false (by omega)
      go_wp2_with fail
      go_ret
      exact ⟨rfl, grown_trans HG0.out HG.out⟩

end Go.Proofs.Ytapahpljmcaahaa.J

/-
  lr0: the law's awake.
-/
namespace Go.Proofs.Ytapahpljmcaahaa.J
open Go.RowKit Go.Maps Go.Shelf

attribute [local go_sem] Oper.semAt_some

theorem k_gg : autoF (GG 3 3 kL kR) 5 256 = some (kKs, kEs) := by
  have h : ∀ k ∈ kKs, IsClo 3 3 kL kR k (CLo 3 3 kL kR k) := fun k hk => by
    have h1 := k_clo k hk
    rw [CLo_eq h1 (by
      simp only [kKs, List.mem_cons, List.not_mem_nil, or_false] at hk
      rcases hk with rfl | rfl | rfl | rfl | rfl <;> decide)]
    exact h1
  exact k_auto h

theorem k_item : ∀ x ∈ [((0 : Int), (0 : Int))], itB 3 kR x = true := by intro x hx; rw [List.mem_singleton.1 hx]; rfl
theorem k_build {w1 X : World} {b1 b2 b6 : Nat} {ra : Nat → Option Addr} {rc : Nat → Nat} (hG1 : GAt w1 (some ⟨b1, 0, none⟩) (some ⟨b2, 0, none⟩) none (some ⟨b6, 0, none⟩) 3 2 0 3 kTs kNs [] 3 kL kR ra rc (fun _ => 0)) (hX : w1.grownBy X none) : Calls Try.prog 8 #[.agg #[.slice (some ⟨b1, 0, none⟩) 3 3, .slice (some ⟨b2, 0, none⟩) 2 2, .slice none 0 0, .int .i64 4, .slice (some ⟨b6, 0, none⟩) 3 3]] X fun e y => ∃ sa sc, e = .returned (.tuple #[.agg #[.slice sa 5 sc, .int .i64 5, .int .i64 5], .int .i64 0]) ∧ X.grownBy y none := by
  refine (buildOk _ _ _ _ _ _ _ _ kTs kNs [] 3 kL kR ra rc (fun _ => 0) 4 X 3 2 0 ⟨rfl, rfl, rfl⟩ (hG1.kept hX) k_closed).mono ?_
  rintro e y (⟨ks, es, sa, sc, kv, ev, hau, rfl, _, hg⟩ | ⟨hau, _⟩)
  · have h := k_gg.symm.trans hau
    simp only [Option.some.injEq, Prod.mk.injEq] at h
    obtain ⟨rfl, rfl⟩ := h
    exact ⟨sa, sc, rfl, hg⟩
  · have h := k_gg.symm.trans hau
    cases h
theorem k_clos {w1 X : World} {b1 b2 b6 : Nat} {ra : Nat → Option Addr} {rc : Nat → Nat} (hG1 : GAt w1 (some ⟨b1, 0, none⟩) (some ⟨b2, 0, none⟩) none (some ⟨b6, 0, none⟩) 3 2 0 3 kTs kNs [] 3 kL kR ra rc (fun _ => 0)) (hX : w1.grownBy X none) (b : Nat) (hI : ItsAt X (some ⟨b, 0, none⟩) [(0, 0)]) : Calls Try.prog 16 #[.agg #[.slice (some ⟨b1, 0, none⟩) 3 3, .slice (some ⟨b2, 0, none⟩) 2 2, .slice none 0 0, .int .i64 4, .slice (some ⟨b6, 0, none⟩) 3 3], .slice (some ⟨b, 0, none⟩) 1 1] X fun e y => ∃ a c, e = .returned (.tuple #[.slice a 3 c, .int .i64 0]) ∧ X.grownBy y none := by
  refine (closureOk _ _ _ _ _ _ _ _ kTs kNs [] 3 kL kR ra rc (fun _ => 0) 4 X 3 2 0 ⟨rfl, rfl, rfl⟩ (hG1.kept hX) (some ⟨b, 0, none⟩) 1 [(0, 0)] hI (by decide) (fun h => by cases h) k_closed k_item).mono ?_
  rintro e y ⟨l, hl, _, a, c, rfl, _, hg⟩
  have h := hl.unique (k_clo [(0, 0)] (by simp [kKs]))
  subst h
  exact ⟨a, c, rfl, hg⟩
theorem k_goto {w1 X : World} {b1 b2 b6 : Nat} {ra : Nat → Option Addr} {rc : Nat → Nat} (hG1 : GAt w1 (some ⟨b1, 0, none⟩) (some ⟨b2, 0, none⟩) none (some ⟨b6, 0, none⟩) 3 2 0 3 kTs kNs [] 3 kL kR ra rc (fun _ => 0)) (hX : w1.grownBy X none) (b : Nat) (hI : ItsAt X (some ⟨b, 0, none⟩) [(0, 0)]) : Calls Try.prog 17 #[.agg #[.slice (some ⟨b1, 0, none⟩) 3 3, .slice (some ⟨b2, 0, none⟩) 2 2, .slice none 0 0, .int .i64 4, .slice (some ⟨b6, 0, none⟩) 3 3], .int .i64 4, .slice (some ⟨b, 0, none⟩) 1 1] X fun e y => ∃ g c, e = .returned (.tuple #[.slice (some ⟨g, 0, none⟩) 2 c, .int .i64 0]) ∧ y.cell? ⟨g, 2, none⟩ = some (.int .i64 1) ∧ y.cell? ⟨g, 3, none⟩ = some (.int .i64 1) ∧ X.grownBy y none := by
  refine (gotoOk _ _ _ _ _ _ _ _ kTs kNs [] 3 kL kR ra rc (fun _ => 0) 4 X 3 2 0 ⟨rfl, rfl, rfl⟩ (hG1.kept hX) (some ⟨b, 0, none⟩) 1 [(0, 0)] hI (by decide) (fun h => by cases h) 4 (by decide) k_closed k_item).mono ?_
  rintro e y ⟨l, hl, _, a, c, rfl, ho, hg⟩
  have h := hl.unique (k_clo [(0, 0)] (by simp [kKs]))
  subst h
  have hk : kerT kR (kCl [(0, 0)]) ((4 : Nat) : Int) = [(0, 1), (1, 1)] := by decide
  rw [hk] at ho ⊢
  obtain ⟨g, c2, he, hcell⟩ := owns_at ho (by decide)
  simp only [Value.slice.injEq] at he
  obtain ⟨rfl, _, rfl⟩ := he
  exact ⟨g, c, rfl, hcell 2 _ rfl, hcell 3 _ rfl, hg⟩
theorem k_its (X : World) : ItsAt (X.alloc (.cells #[.int .i64 0, .int .i64 0] 49)) (some ⟨X.heap.size, 0, none⟩) [(0, 0)] := .inr ⟨X.heap.size, 0, rfl, fun i hi => by
  have h2 : i = 0 := by simp at hi; omega
  subst h2
  exact ⟨by rw [cell_of_row _ _ _ _ _ _ (heap_alloc_last X _)]; rfl, by rw [cell_of_row _ _ _ _ _ _ (heap_alloc_last X _)]; rfl⟩⟩

set_option maxRecDepth 100000 in
set_option maxHeartbeats 2000000 in
theorem awake_any (w : World) : Calls Try.prog 5 #[] w fun e w' => e = .returned (.bool true) ∧ w.grownBy w' none := by
  have hE : ∀ X : World, (binOp .eql 49 (.agg #[.int .i64 1, .int .i64 1]) (.agg #[.int .i64 1, .int .i64 1])).run Try.prog X = .ok (.bool true) X := fun X => eq_item 1 1 1 1 X
  go_enter Try.func5, Try.ntmps5
  go_wp2_with fail
  refine Calls.mono (small_any w) ?_
  rintro e w1 ⟨b1, b2, b6, ra, rc, rfl, hG1, hg1⟩
  have HG1 : Hid (GAt w1 (some ⟨b1, 0, none⟩) (some ⟨b2, 0, none⟩) none (some ⟨b6, 0, none⟩) 3 2 0 3 kTs kNs [] 3 kL kR ra rc (fun _ => 0)) := hG1
  obtain ⟨gb, hgb⟩ : ∃ gb, gb = w1.heap.size := ⟨_, rfl⟩
  obtain ⟨X1, hX1⟩ : ∃ X1, X1 = w1.alloc (.cells #[.slice (some ⟨b1, 0, none⟩) 3 3, .slice (some ⟨b2, 0, none⟩) 2 2, .slice none 0 0, .int .i64 4, .slice (some ⟨b6, 0, none⟩) 3 3] 27) := ⟨_, rfl⟩
  have HP1 : Hid (PhAt w1 X1 gb #[.slice (some ⟨b1, 0, none⟩) 3 3, .slice (some ⟨b2, 0, none⟩) 2 2, .slice none 0 0, .int .i64 4, .slice (some ⟨b6, 0, none⟩) 3 3]) := ⟨by rw [hX1]; exact World.grownBy_alloc _ _ none, by rw [hX1, hgb]; exact heap_alloc_last w1 _⟩
  have HGW : Hid (w.grownBy w1 none) := hg1
  have HXE := show Hid _ from hX1
  have HGE := show Hid _ from hgb
  clear hG1 hg1 hX1 hgb
  go_wp2_with fail
  rw [← HXE.out, ← HGE.out]
  refine Calls.mono (k_build HG1.out HP1.out.grown) ?_
  rintro e w2 ⟨sa, sc, rfl, hg2⟩
  have HP2 : Hid (PhAt w1 (w2.alloc (.cells #[.slice sa 5 sc, .int .i64 5, .int .i64 5] 32)) gb #[.slice (some ⟨b1, 0, none⟩) 3 3, .slice (some ⟨b2, 0, none⟩) 2 2, .slice none 0 0, .int .i64 4, .slice (some ⟨b6, 0, none⟩) 3 3]) := HP1.out.kept (grown_trans hg2 (World.grownBy_alloc _ _ none))
  clear hg2 HP1 HXE HGE
  obtain ⟨k0, k1, k2, k3, k4⟩ := HP2.out.cells
  obtain ⟨ab, hab⟩ : ∃ b, b = w2.heap.size := ⟨_, rfl⟩
  have HAB : Hid ((w2.alloc (.cells #[.slice sa 5 sc, .int .i64 5, .int .i64 5] 32)).heap[ab]? = some (.cells #[.slice sa 5 sc, .int .i64 5, .int .i64 5] 32 (0, 0))) := by rw [hab]; exact heap_alloc_last w2 _
  have HAE := show Hid _ from hab
  clear hab
  have HCL := show Hid _ from k_clos HG1.out (grown_trans HP2.out.grown (World.grownBy_alloc _ (.cells #[.int .i64 0, .int .i64 0] 49) none)) _ (k_its (w2.alloc (.cells #[.slice sa 5 sc, .int .i64 5, .int .i64 5] 32)))
  rw [World.size_alloc] at HCL
  go_wp2_with fail
  refine Calls.mono HCL.out ?_
  rintro e w3 ⟨a3, c3, rfl, hg3⟩
  have HP3 : Hid (PhAt w1 w3 gb #[.slice (some ⟨b1, 0, none⟩) 3 3, .slice (some ⟨b2, 0, none⟩) 2 2, .slice none 0 0, .int .i64 4, .slice (some ⟨b6, 0, none⟩) 3 3]) := HP2.out.kept (grown_trans (World.grownBy_alloc _ _ none) hg3)
  have HA3 : Hid (w3.heap[ab]? = some (.cells #[.slice sa 5 sc, .int .i64 5, .int .i64 5] 32 (0, 0))) := box_kept HAB.out (grown_trans (World.grownBy_alloc _ _ none) hg3)
  rw [← HAE.out]
  clear hg3 HP2 HAB HCL HAE k0 k1 k2 k3 k4
  obtain ⟨k0, k1, k2, k3, k4⟩ := HP3.out.cells
  have HGO := show Hid _ from k_goto HG1.out (grown_trans HP3.out.grown (World.grownBy_alloc _ (.cells #[.int .i64 0, .int .i64 0] 49) none)) _ (k_its w3)
  go_wp2_with fail
  refine Calls.mono HGO.out ?_
  rintro e w4 ⟨g4, c4, rfl, r0, r1, hg4⟩
  have HA4 : Hid (w4.heap[ab]? = some (.cells #[.slice sa 5 sc, .int .i64 5, .int .i64 5] 32 (0, 0))) := box_kept HA3.out (grown_trans (World.grownBy_alloc _ _ none) hg4)
  have HG4 : Hid (w.grownBy w4 none) := grown_trans HGW.out (grown_trans HP3.out.grown (grown_trans (World.grownBy_alloc _ _ none) hg4))
  have q0 := cell_of_row w4 ab 0 _ _ _ HA4.out
  have q1 := cell_of_row w4 ab 1 _ _ _ HA4.out
  have q2 := cell_of_row w4 ab 2 _ _ _ HA4.out
  simp only [List.getElem?_toArray, List.getElem?_cons_zero, List.getElem?_cons_succ] at q0 q1 q2
  clear hg4 HA3 HP3 HGO k0 k1 k2 k3 k4 HG1 HGW
  go_wp2_with fail
  go_ret
  exact ⟨rfl, HG4.out⟩

end Go.Proofs.Ytapahpljmcaahaa.J

/-
  A grammar that came in, as the walks take it.
-/
namespace Go.Proofs.Ytapahpljmcaahaa
open Go.ChangeShapes Go.WideShapes Go.ChangeAt Go.RowKit Go.Deep

theorem cellsInt : Try.prog.cellsOf 3 = 1 := by kernel_rfl
theorem cellsStr : Try.prog.cellsOf 9 = 1 := by kernel_rfl
theorem cellsInts : Try.prog.cellsOf 24 = 1 := by kernel_rfl
theorem cellsTerm : Try.prog.cellsOf 67 = 2 := by kernel_rfl
theorem cellsProd : Try.prog.cellsOf 55 = 3 := by kernel_rfl
theorem cellsTerms : Try.prog.cellsOf 22 = 1 := by kernel_rfl
theorem cellsStrs : Try.prog.cellsOf 23 = 1 := by kernel_rfl
theorem cellsProds : Try.prog.cellsOf 25 = 1 := by kernel_rfl
theorem cellsGram : Try.prog.cellsOf 27 = 5 := by kernel_rfl
theorem bytesInt : Try.prog.bytesOf 3 = 8 := by kernel_rfl
theorem bytesStr : Try.prog.bytesOf 9 = 16 := by kernel_rfl
theorem bytesTerm : Try.prog.bytesOf 67 = 24 := by kernel_rfl
theorem bytesProd : Try.prog.bytesOf 55 = 40 := by kernel_rfl

theorem weights_mem_all {H : Type} {P : Program} {e : TypeId} {d : DataW H} : ∀ {l : List (DataW H)}, d ∈ l → ∀ n ∈ d.weights P e, n ∈ DataW.weightsAll P e l
  | d0 :: l, hd, n, hn => by
    simp only [DataW.weightsAll, List.mem_append]
    rcases List.mem_cons.1 hd with rfl | h
    · exact .inl hn
    · exact .inr (weights_mem_all h n hn)

theorem ints_of_open {W : World} {x : Addr} {len cap : Nat} {zs : List Int} (hl : len ≤ cap) (hz : zs.length = cap) (hc : ∀ i, i < zs.length → W.cell? (x.add i) = some (.int .i64 (zs.getD i 0))) :
    IntsAt W (some x) (zs.take len) := by
  by_cases h0 : len = 0
  · subst h0; exact .inl (by simp)
  · obtain ⟨b, off, spot⟩ := x
    have h1 := hc 0 (by omega)
    have hs : spot = none := by simpa [Addr.add] using World.cell?_spot h1
    subst hs
    refine .inr ⟨b, off, rfl, fun i hi => ?_⟩
    have hi' : i < len := by simp at hi; omega
    have h2 := hc i (by omega)
    rw [Addr.add_mid] at h2
    rw [h2]
    congr 2
    simp [List.getD, hi']
theorem strs_of_open {W : World} {x : Addr} {len cap : Nat} {zs : List ByteArray} (hl : len ≤ cap) (hz : zs.length = cap) (hc : ∀ i, i < zs.length → W.cell? (x.add i) = some (.string (zs.getD i ByteArray.empty))) :
    StrsAt W (some x) (zs.take len) := by
  by_cases h0 : len = 0
  · subst h0; exact .inl (by simp)
  · obtain ⟨b, off, spot⟩ := x
    have h1 := hc 0 (by omega)
    have hs : spot = none := by simpa [Addr.add] using World.cell?_spot h1
    subst hs
    refine .inr ⟨b, off, rfl, fun i hi => ?_⟩
    have hi' : i < len := by simp at hi; omega
    have h2 := hc i (by omega)
    rw [Addr.add_mid] at h2
    rw [h2]
    congr 2
    have hi2 : i < zs.length := by omega
    simp [List.getD, hi', hi2]

section
variable {H : Type} {enc : TypeId × Value → H} {W : World} {fuel : Nat} {cs : List Value} {x : DataW H × List MemPlace}

theorem open_ints_in (h : DataW.trod enc Try.prog W 0 (fun _ => true) true fuel 24 cs = some x) (hw : ∀ n ∈ x.1.weights Try.prog 24, n ≤ reachBytes) :
    ∃ (a : Option Addr) (l : List Int) (c : Nat), cs = [.slice a l.length c] ∧ IntsAt W a l ∧ l.length ≤ 17592186044416 ∧ l.length ≤ c ∧ (a = none → l.length = 0 ∧ c = 0) ∧ ∀ z ∈ l, (Lit.int .i64 z).wf = true := by
  rcases open_ints Try.underlying24 Try.underlying3 cellsInt h with ⟨hcs, _⟩ | ⟨y, l, c, zs, hcs, _, hl, hm, hz, hx, hcell, hwz⟩
  · exact ⟨none, [], 0, hcs, .inl rfl, by decide, Nat.le_refl _, fun _ => ⟨rfl, rfl⟩, by simp⟩
  · have hz' : zs.length = c := by simpa using hz
    have hlen : (zs.take l).length = l := by rw [List.length_take]; omega
    refine ⟨some y, zs.take l, c, by rw [hlen]; exact hcs, ints_of_open hl hz' hcell, ?_, by rw [hlen]; exact hl, (fun h => by cases h), fun z hz => hwz z (List.mem_of_mem_take hz)⟩
    have := hw ((lits (H := H) .i64 (zs.take l)).length * 8 + (lits (H := H) .i64 (zs.drop l)).length * 8) (by rw [hx]; simp [DataW.weights, Try.underlying24, bytesInt, Nat.add_mul])
    simp only [lits, List.length_map, List.length_take, List.length_drop, reachBytes] at this
    rw [hlen]
    omega

theorem open_strs_in (h : DataW.trod enc Try.prog W 0 (fun _ => true) true fuel 23 cs = some x) (hw : ∀ n ∈ x.1.weights Try.prog 23, n ≤ reachBytes) :
    ∃ (a : Option Addr) (l : List ByteArray) (c : Nat), cs = [.slice a l.length c] ∧ StrsAt W a l ∧ l.length ≤ 8796093022208 ∧ l.length ≤ c ∧ (a = none → l.length = 0 ∧ c = 0) ∧ ∀ s ∈ l, s.size ≤ 140737488355328 := by
  rcases open_strings Try.underlying23 Try.underlying9 cellsStr h with ⟨hcs, _⟩ | ⟨y, l, c, zs, hcs, _, hl, hm, hz, hx, hcell, hwz⟩
  · exact ⟨none, [], 0, hcs, .inl rfl, by decide, Nat.le_refl _, fun _ => ⟨rfl, rfl⟩, by simp⟩
  · have hz' : zs.length = c := by simpa using hz
    have hlen : (zs.take l).length = l := by rw [List.length_take]; omega
    refine ⟨some y, zs.take l, c, by rw [hlen]; exact hcs, strs_of_open hl hz' hcell, ?_, by rw [hlen]; exact hl, (fun h => by cases h), fun s hs => ?_⟩
    rotate_left
    · have := hw s.data.toList.length (by
        rw [hx]
        simp only [DataW.weights, Try.underlying23, List.mem_cons, List.mem_append]
        exact .inr (.inl (weights_mem_all (List.mem_map.2 ⟨s, hs, rfl⟩) _ (by simp [DataW.weights]))))
      have e : s.data.toList.length = s.size := by simp
      unfold reachBytes at this
      omega
    have := hw ((strs (H := H) (zs.take l)).length * 16 + (strs (H := H) (zs.drop l)).length * 16) (by rw [hx]; simp [DataW.weights, Try.underlying23, bytesStr, Nat.add_mul])
    simp only [strs, List.length_map, List.length_take, List.length_drop, reachBytes] at this
    rw [hlen]
    omega

set_option maxRecDepth 100000 in
theorem open_terms_in (h : DataW.trod enc Try.prog W 0 (fun _ => true) true fuel 22 cs = some x) (hw : ∀ n ∈ x.1.weights Try.prog 22, n ≤ reachBytes) :
    ∃ (a : Option Addr) (l : List (ByteArray × Int)) (c : Nat), cs = [.slice a l.length c] ∧ TermsAt W a l ∧ l.length ≤ 5864062014805 ∧ l.length ≤ c ∧ (a = none → l.length = 0 ∧ c = 0) ∧ ∀ t ∈ l, (Lit.int .i64 t.2).wf = true ∧ t.1.size ≤ 140737488355328 := by
  rcases open_slice Try.underlying22 h with ⟨hcs, _⟩ | ⟨ad, len, cap, m, n, D, Pl, hcs, _, hl, hm, hmm, hx, heach⟩
  · exact ⟨none, [], 0, hcs, .inl rfl, by decide, Nat.le_refl _, fun _ => ⟨rfl, rfl⟩, by simp⟩
  · simp only [if_true] at hmm
    subst hx
    rw [cellsTerm] at heach
    have hlen : len ≤ 5864062014805 := by
      have := hw (((List.range len).map D).length * 24 + ((List.range (m - len)).map fun j => D (len + j)).length * 24) (by simp [DataW.weights, Try.underlying22, bytesTerm, Nat.add_mul])
      simp only [List.length_map, List.length_range, reachBytes] at this
      omega
    have each : ∀ i, i < len → ∃ t : ByteArray × Int, ∃ b off, ad = ⟨b, off, none⟩ ∧ W.cell? ⟨b, off + i * 2, none⟩ = some (.string t.1) ∧ W.cell? ⟨b, off + i * 2 + 1, none⟩ = some (.int .i64 t.2) ∧ (Lit.int .i64 t.2).wf = true ∧ t.1.size ≤ 140737488355328 := by
      intro i hi
      obtain ⟨cs', h1, h2⟩ := heach i (by omega)
      obtain ⟨_, hcl, hcell⟩ := World.cells?_some h1
      obtain ⟨xs, k, hk, hxy, _, hxl, hfs⟩ := DataW.trod_struct Try.underlying67 h2
      match xs, hxl, cs', hcl with
      | [y0, y1], _, [v0, v1], _ =>
        have g0 := hfs 0 _ rfl
        have g1 := hfs 1 _ rfl
        simp [cellsInt, cellsStr] at g0 g1
        simp only [Prod.mk.injEq] at hxy
        obtain ⟨s0, e0, ed0, _⟩ := DataW.trod_string Try.underlying9 g0
        have hsz : s0.size ≤ 140737488355328 := by
          have := hw s0.data.toList.length (by
            simp only [DataW.weights, Try.underlying22, List.mem_cons, List.mem_append]
            refine .inr (.inl (weights_mem_all (List.mem_map.2 ⟨i, List.mem_range.2 hi, rfl⟩) _ ?_))
            rw [hxy.1]
            simp only [DataW.weights, Try.underlying67]
            refine DataW.weights_mem_each (j := 0) (t := 9) (d := y0.1) rfl rfl _ ?_
            rw [show y0.1 = .lit (.string s0.data.toList) from congrArg Prod.fst ed0]
            simp [DataW.weights])
          have e : s0.data.toList.length = s0.size := by simp
          unfold reachBytes at this
          omega
        obtain ⟨z1, e1, _, w1⟩ := DataW.trod_int Try.underlying3 g1
        simp only [List.cons.injEq, and_true] at e0 e1
        subst e0 e1
        have c0 := hcell 0 (by omega)
        have c1 := hcell 1 (by omega)
        rw [Deep.add_add] at c0 c1
        obtain ⟨b, off, spot⟩ := ad
        have hs : spot = none := by
          obtain ⟨cs0, h10, _⟩ := heach 0 (by omega)
          obtain ⟨_, hcl0, hcell0⟩ := World.cells?_some h10
          have q0 := hcell0 0 (by omega)
          rw [List.getElem?_eq_getElem (by omega)] at q0
          simpa [Addr.add] using World.cell?_spot q0
        subst hs
        rw [add_plain] at c0 c1
        exact ⟨(s0, z1), b, off, rfl, by simpa using c0, by simpa [Nat.add_assoc] using c1, w1, hsz⟩
    obtain ⟨S, hS⟩ := choose_lt (α := ByteArray × Int) each
    have hg : ∀ i, i < len → ((List.range len).map S).getD i (⟨#[]⟩, 0) = S i := fun i hi => by simp [List.getD, hi]
    refine ⟨some ad, (List.range len).map S, cap, by simpa using hcs, ?_, by simpa using hlen, by simpa using hl, fun h => (by cases h), fun t ht => ?_⟩
    · by_cases h0 : len = 0
      · subst h0; exact .inl (by simp)
      · obtain ⟨b, off, rfl, _⟩ := hS 0 (by omega)
        refine .inr ⟨b, off, rfl, fun i hi => ?_⟩
        have hi' : i < len := by simpa using hi
        obtain ⟨b', off', e, r1, r2, _⟩ := hS i hi'
        simp only [Addr.mk.injEq, and_true] at e
        obtain ⟨rfl, rfl⟩ := e
        rw [hg i hi']
        exact ⟨r1, r2⟩
    · obtain ⟨i, hi, rfl⟩ := List.mem_map.1 ht
      obtain ⟨_, _, _, _, _, hwf⟩ := hS i (by simpa using hi)
      exact hwf

set_option maxRecDepth 100000 in
theorem open_prods_in (h : DataW.trod enc Try.prog W 0 (fun _ => true) true fuel 25 cs = some x) (hw : ∀ n ∈ x.1.weights Try.prog 25, n ≤ reachBytes) :
    ∃ (a : Option Addr) (n c : Nat) (L V : Nat → Int) (R : Nat → List Int) (ra : Nat → Option Addr) (rc : Nat → Nat), cs = [.slice a n c] ∧ ProdsAt W a n L R ra rc V ∧ n ≤ 3518437208883 ∧ n ≤ c ∧ (a = none → n = 0 ∧ c = 0) ∧ ∀ i, i < n → (R i).length ≤ rc i ∧ (Lit.int .i64 (L i)).wf = true ∧ (Lit.int .i64 (V i)).wf = true ∧ ∀ z ∈ R i, (Lit.int .i64 z).wf = true := by
  rcases open_slice Try.underlying25 h with ⟨hcs, _⟩ | ⟨ad, len, cap, m, n, D, Pl, hcs, _, hl, hm, hmm, hx, heach⟩
  · exact ⟨none, 0, 0, fun _ => 0, fun _ => 0, fun _ => [], fun _ => none, fun _ => 0, hcs, .inl rfl, by decide, Nat.le_refl _, fun _ => ⟨rfl, rfl⟩, fun i hi => absurd hi (Nat.not_lt_zero i)⟩
  · simp only [if_true] at hmm
    subst hx
    rw [cellsProd] at heach
    have hlen : len ≤ 3518437208883 := by
      have := hw (((List.range len).map D).length * 40 + ((List.range (m - len)).map fun j => D (len + j)).length * 40) (by simp [DataW.weights, Try.underlying25, bytesProd, Nat.add_mul])
      simp only [List.length_map, List.length_range, reachBytes] at this
      omega
    have each : ∀ i, i < len → ∃ t : Int × Int × List Int × Option Addr × Nat, ∃ b off, ad = ⟨b, off, none⟩ ∧ (W.cell? ⟨b, off + i * 3, none⟩ = some (.int .i64 t.1) ∧ W.cell? ⟨b, off + i * 3 + 1, none⟩ = some (.slice t.2.2.2.1 t.2.2.1.length t.2.2.2.2) ∧ W.cell? ⟨b, off + i * 3 + 2, none⟩ = some (.int .i64 t.2.1) ∧ IntsAt W t.2.2.2.1 t.2.2.1 ∧ (t.2.2.2.1 = none → t.2.2.2.2 = 0) ∧ t.2.2.1.length ≤ 17592186044416) ∧
        t.2.2.1.length ≤ t.2.2.2.2 ∧ (Lit.int .i64 t.1).wf = true ∧ (Lit.int .i64 t.2.1).wf = true ∧ ∀ z ∈ t.2.2.1, (Lit.int .i64 z).wf = true := by
      intro i hi
      obtain ⟨cs', h1, h2⟩ := heach i (by omega)
      obtain ⟨_, hcl, hcell⟩ := World.cells?_some h1
      obtain ⟨xs, k, hk, hxy, _, hxl, hfs⟩ := DataW.trod_struct Try.underlying55 h2
      have hDw : ∀ n ∈ (D i).weights Try.prog 55, n ≤ reachBytes := fun q hq => hw q (by
        simp only [DataW.weights, Try.underlying25, List.mem_cons, List.mem_append]
        exact .inr (.inl (weights_mem_all (List.mem_map.2 ⟨i, List.mem_range.2 hi, rfl⟩) q hq)))
      match xs, hxl, cs', hcl with
      | [y0, y1, y2], _, [v0, v1, v2], _ =>
        have g0 := hfs 0 _ rfl
        have g1 := hfs 1 _ rfl
        have g2 := hfs 2 _ rfl
        simp [cellsInt, cellsInts] at g0 g1 g2
        simp only [Prod.mk.injEq] at hxy
        have hw1 : ∀ n ∈ y1.1.weights Try.prog 24, n ≤ reachBytes := fun q hq => hDw q (by
          rw [hxy.1]
          simp only [DataW.weights, Try.underlying55]
          exact DataW.weights_mem_each (j := 1) (t := 24) (d := y1.1) rfl rfl q hq)
        obtain ⟨z0, e0, _, w0⟩ := DataW.trod_int Try.underlying3 g0
        obtain ⟨la, l, lc, e1, hints, hll, hlc, hnil, hwl⟩ := open_ints_in g1 hw1
        obtain ⟨z2, e2, _, w2⟩ := DataW.trod_int Try.underlying3 g2
        simp only [List.cons.injEq, and_true] at e0 e1 e2
        subst e0 e1 e2
        have c0 := hcell 0 (by omega)
        have c1 := hcell 1 (by omega)
        have c2 := hcell 2 (by omega)
        rw [Deep.add_add] at c0 c1 c2
        obtain ⟨b, off, spot⟩ := ad
        have hs : spot = none := by
          obtain ⟨cs0, h10, _⟩ := heach 0 (by omega)
          obtain ⟨_, hcl0, hcell0⟩ := World.cells?_some h10
          have q0 := hcell0 0 (by omega)
          rw [List.getElem?_eq_getElem (by omega)] at q0
          simpa [Addr.add] using World.cell?_spot q0
        subst hs
        rw [add_plain] at c0 c1 c2
        exact ⟨(z0, z2, l, la, lc), b, off, rfl, ⟨by simpa using c0, by simpa [Nat.add_assoc] using c1, by simpa [Nat.add_assoc] using c2, hints, fun h => (hnil h).2, hll⟩, hlc, w0, w2, hwl⟩
    obtain ⟨S, hS⟩ := choose_lt (α := Int × Int × List Int × Option Addr × Nat) each
    refine ⟨some ad, len, cap, fun i => (S i).1, fun i => (S i).2.1, fun i => (S i).2.2.1, fun i => (S i).2.2.2.1, fun i => (S i).2.2.2.2, hcs, ?_, hlen, hl, fun h => (by cases h), fun i hi => ?_⟩
    · by_cases h0 : len = 0
      · exact .inl h0
      · obtain ⟨b, off, rfl, _⟩ := hS 0 (by omega)
        refine .inr ⟨b, off, rfl, fun i hi => ?_⟩
        obtain ⟨b', off', e, r, _⟩ := hS i hi
        simp only [Addr.mk.injEq, and_true] at e
        obtain ⟨rfl, rfl⟩ := e
        exact r
    · obtain ⟨_, _, _, _, r⟩ := hS i hi
      exact r

/-- What else is known of a grammar that came in. -/
structure GIn (ta la : Option Addr) (tc lc : Nat) (ts : List (ByteArray × Int)) (lv : List Int) (n : Nat) (L : Nat → Int) (R : Nat → List Int) (rc : Nat → Nat) (V : Nat → Int) (st : Int) (ns : List ByteArray) : Prop where
  tn : ts.length ≤ 5864062014805
  nn : ns.length ≤ 8796093022208
  pn : n ≤ 3518437208883
  tnil : ta = none → ts.length = 0 ∧ tc = 0
  lnil : la = none → lv.length = 0 ∧ lc = 0
  lcap : lv.length ≤ lc
  rcap : ∀ i, i < n → (R i).length ≤ rc i
  lvl : ∀ t ∈ ts, (Lit.int .i64 t.2).wf = true ∧ t.1.size ≤ 140737488355328
  nsz : ∀ s ∈ ns, s.size ≤ 140737488355328
  lvw : ∀ z ∈ lv, (Lit.int .i64 z).wf = true
  stw : (Lit.int .i64 st).wf = true
  prw : ∀ i, i < n → (Lit.int .i64 (L i)).wf = true ∧ (Lit.int .i64 (V i)).wf = true ∧ ∀ z ∈ R i, (Lit.int .i64 z).wf = true

set_option maxRecDepth 100000 in
theorem open_gram {base : Nat} {v : Value} {d : DataW H} {p : List MemPlace} (hv : Value.okWide Try.prog W .any base 27 v) (h : DataW.Trod enc Try.prog W 0 (fun _ => true) true 27 v d p) (hw : ∀ n ∈ d.weights Try.prog 27, n ≤ reachBytes) :
    ∃ ta na la pa tc nc lc pc ts ns lv n L R ra rc V st, v = .agg #[.slice ta ts.length tc, .slice na ns.length nc, .slice la lv.length lc, .int .i64 st, .slice pa n pc] ∧ GAt W ta na la pa tc nc lc pc ts ns lv n L R ra rc V ∧ GIn ta la tc lc ts lv n L R rc V st ns := by
  obtain ⟨cs, rfl, hsz⟩ := okWide_struct Try.underlying27 hv
  obtain ⟨fuel, hf⟩ := h
  obtain ⟨xs, k, hk, hxy, hcl, hxl, hfs⟩ := DataW.trod_struct Try.underlying27 hf
  rw [cellsGram] at hsz
  obtain ⟨l, rfl⟩ : ∃ l : List Value, cs = l.toArray := ⟨cs.toList, by simp⟩
  simp only [Value.cells] at hfs hcl
  have hl : l.length = 5 := by simpa using hsz
  match xs, hxl, l, hl with
  | [y0, y1, y2, y3, y4], _, [v0, v1, v2, v3, v4], _ =>
    have g0 := hfs 0 _ rfl
    have g1 := hfs 1 _ rfl
    have g2 := hfs 2 _ rfl
    have g3 := hfs 3 _ rfl
    have g4 := hfs 4 _ rfl
    simp [cellsInt, cellsInts, cellsTerms, cellsStrs, cellsProds] at g0 g1 g2 g3 g4
    simp only [Prod.mk.injEq] at hxy
    have hwj : ∀ (j : Nat) (t : TypeId) (y : DataW H × List MemPlace), ((Try.prog.fieldsOf 27).toList.map (·.type))[j]? = some t → ([y0, y1, y2, y3, y4].map (·.1))[j]? = some y.1 → ∀ n ∈ y.1.weights Try.prog t, n ≤ reachBytes := fun j t y h1 h2 q hq => hw q (by
      rw [hxy.1]
      simp only [DataW.weights, Try.underlying27]
      simp only [Program.fieldsOf, Try.underlying27] at h1
      exact DataW.weights_mem_each (j := j) (t := t) (d := y.1) h1 h2 q hq)
    have hw0 := hwj 0 22 y0 (by kernel_rfl) rfl
    have hw1 := hwj 1 23 y1 (by kernel_rfl) rfl
    have hw2 := hwj 2 24 y2 (by kernel_rfl) rfl
    have hw4 := hwj 4 25 y4 (by kernel_rfl) rfl
    obtain ⟨ta, ts, tc, e0, hT, hTl, hTc, hTn, hTw⟩ := open_terms_in g0 hw0
    obtain ⟨na, ns, nc, e1, hN, hNl, hNc, hNn, hNs⟩ := open_strs_in g1 hw1
    obtain ⟨la, lv, lc, e2, hL, hLl, hLc, hLn, hLw⟩ := open_ints_in g2 hw2
    obtain ⟨st, e3, _, w3⟩ := DataW.trod_int Try.underlying3 g3
    obtain ⟨pa, n, pc, L, V, R, ra, rc, e4, hP, hPl, hPc, hPn, hPw⟩ := open_prods_in g4 hw4
    simp only [List.cons.injEq, and_true] at e0 e1 e2 e3 e4
    subst e0 e1 e2 e3 e4
    exact ⟨ta, na, la, pa, tc, nc, lc, pc, ts, ns, lv, n, L, R, ra, rc, V, st, rfl, ⟨hT, hN, hL, hP, hTc, hNc, hPc, hNn, hPn, by omega, by omega, by omega, by omega⟩, hTl, hNl, hPl, hTn, hLn, hLc, fun i hi => (hPw i hi).1, hTw, hNs, hLw, w3, fun i hi => (hPw i hi).2⟩
end

end Go.Proofs.Ytapahpljmcaahaa

/-
  lr0: what the laws' theorems share.
-/
namespace Go.Proofs.Ytapahpljmcaahaa.J
open Go.ChangeShapes Go.WideShapes Go.ChangeAt Go.RowKit Go.Deep

theorem own : ownKnob Try.prog.godebug = none := by kernel_rfl
theorem laidOut : laidOutB Try.prog = true := by kernel_rfl
theorem bytesItem : Try.prog.bytesOf 49 = 16 := by kernel_rfl

section
variable {H : Type} {enc : TypeId × Value → H} {W : World} {fuel : Nat} {cs : List Value} {x : DataW H × List MemPlace}

set_option maxRecDepth 100000 in
theorem open_its_in (h : DataW.trod enc Try.prog W 0 (fun _ => true) true fuel 40 cs = some x) (hw : ∀ n ∈ x.1.weights Try.prog 40, n ≤ reachBytes) :
    ∃ (a : Option Addr) (l : List It) (c : Nat), cs = [.slice a l.length c] ∧ ItsAt W a l ∧ l.length ≤ 8796093022208 ∧ l.length ≤ c ∧ (a = none → l.length = 0 ∧ c = 0) ∧ ∀ t ∈ l, I64 t := by
  rcases open_slice Try.underlying40 h with ⟨hcs, _⟩ | ⟨ad, len, cap, m, n, D, Pl, hcs, _, hl, hm, hmm, hx, heach⟩
  · exact ⟨none, [], 0, hcs, .inl rfl, by decide, Nat.le_refl _, fun _ => ⟨rfl, rfl⟩, by simp⟩
  · simp only [if_true] at hmm
    subst hx
    rw [cellsItem] at heach
    have hlen : len ≤ 8796093022208 := by
      have := hw (((List.range len).map D).length * 16 + ((List.range (m - len)).map fun j => D (len + j)).length * 16) (by simp [DataW.weights, Try.underlying40, bytesItem, Nat.add_mul])
      simp only [List.length_map, List.length_range, reachBytes] at this
      omega
    have each : ∀ i, i < len → ∃ t : It, ∃ b off, ad = ⟨b, off, none⟩ ∧ W.cell? ⟨b, off + i * 2, none⟩ = some (.int .i64 t.1) ∧ W.cell? ⟨b, off + i * 2 + 1, none⟩ = some (.int .i64 t.2) ∧ I64 t := by
      intro i hi
      obtain ⟨cs', h1, h2⟩ := heach i (by omega)
      obtain ⟨_, hcl, hcell⟩ := World.cells?_some h1
      obtain ⟨xs, k, hk, hxy, _, hxl, hfs⟩ := DataW.trod_struct Try.underlying49 h2
      match xs, hxl, cs', hcl with
      | [y0, y1], _, [v0, v1], _ =>
        have g0 := hfs 0 _ rfl
        have g1 := hfs 1 _ rfl
        simp [cellsInt] at g0 g1
        obtain ⟨s0, e0, _, w0⟩ := DataW.trod_int Try.underlying3 g0
        obtain ⟨z1, e1, _, w1⟩ := DataW.trod_int Try.underlying3 g1
        simp only [List.cons.injEq, and_true] at e0 e1
        subst e0 e1
        have c0 := hcell 0 (by omega)
        have c1 := hcell 1 (by omega)
        rw [Deep.add_add] at c0 c1
        obtain ⟨b, off, spot⟩ := ad
        have hs : spot = none := by
          obtain ⟨cs0, h10, _⟩ := heach 0 (by omega)
          obtain ⟨_, hcl0, hcell0⟩ := World.cells?_some h10
          have q0 := hcell0 0 (by omega)
          rw [List.getElem?_eq_getElem (by omega)] at q0
          simpa [Addr.add] using World.cell?_spot q0
        subst hs
        rw [add_plain] at c0 c1
        exact ⟨(s0, z1), b, off, rfl, by simpa using c0, by simpa [Nat.add_assoc] using c1, w0, w1⟩
    obtain ⟨S, hS⟩ := choose_lt (α := It) each
    have hg : ∀ i, i < len → ((List.range len).map S).getD i (0, 0) = S i := fun i hi => by simp [List.getD, hi]
    refine ⟨some ad, (List.range len).map S, cap, by simpa using hcs, ?_, by simpa using hlen, by simpa using hl, fun h => (by cases h), fun t ht => ?_⟩
    · by_cases h0 : len = 0
      · subst h0; exact .inl (by simp)
      · obtain ⟨b, off, rfl, _⟩ := hS 0 (by omega)
        refine .inr ⟨b, off, rfl, fun i hi => ?_⟩
        have hi' : i < len := by simpa using hi
        obtain ⟨b', off', e, r1, r2, _⟩ := hS i hi'
        simp only [Addr.mk.injEq, and_true] at e
        obtain ⟨rfl, rfl⟩ := e
        rw [hg i hi']
        exact ⟨r1, r2⟩
    · obtain ⟨i, hi, rfl⟩ := List.mem_map.1 ht
      obtain ⟨_, _, _, _, _, hwf⟩ := hS i (by simpa using hi)
      exact hwf

end

set_option maxRecDepth 100000 in
theorem open_int {H : Type} {enc : TypeId × Value → H} {W : World} {base : Nat} {v : Value} {d : DataW H} {p : List MemPlace} (hv : Value.okWide Try.prog W .any base 3 v) (h : DataW.Trod enc Try.prog W 0 (fun _ => true) true 3 v d p) : ∃ z, v = .int .i64 z ∧ (Lit.int .i64 z).wf = true := by
  obtain ⟨z, rfl⟩ := okWide_int Try.underlying3 hv
  obtain ⟨fuel, hf⟩ := h
  have hf' : DataW.trod enc Try.prog W 0 (fun _ => true) true fuel 3 [.int .i64 z] = some (d, p) := hf
  obtain ⟨z', e, h2⟩ := DataW.trod_int Try.underlying3 hf'
  simp only [List.cons.injEq, Value.int.injEq, and_true, true_and] at e
  subst e
  exact ⟨z, rfl, h2.2⟩

set_option maxRecDepth 100000 in
theorem open_its {H : Type} {enc : TypeId × Value → H} {W : World} {base : Nat} {v : Value} {d : DataW H} {p : List MemPlace} (hv : Value.okWide Try.prog W .any base 40 v) (h : DataW.Trod enc Try.prog W 0 (fun _ => true) true 40 v d p) (hw : ∀ n ∈ d.weights Try.prog 40, n ≤ reachBytes) : ∃ a l c, v = .slice a (List.length l) c ∧ ItsAt W a l ∧ l.length ≤ 8796093022208 ∧ l.length ≤ c ∧ (a = none → l.length = 0 ∧ c = 0) ∧ ∀ t ∈ l, I64 t := by
  obtain ⟨a, len, cap, rfl⟩ := okWide_slice Try.underlying40 hv
  obtain ⟨fuel, hf⟩ := h
  have hf' : DataW.trod enc Try.prog W 0 (fun _ => true) true fuel 40 [.slice a len cap] = some (d, p) := hf
  obtain ⟨a', l, c, e, hI, hl⟩ := open_its_in hf' hw
  simp only [List.cons.injEq, Value.slice.injEq, and_true] at e
  obtain ⟨rfl, rfl, rfl⟩ := e
  exact ⟨a, l, cap, rfl, hI, hl⟩

end Go.Proofs.Ytapahpljmcaahaa.J
