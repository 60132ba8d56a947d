import Derived.Test.YtapahpljmcaahaaQoejddmfaiflh
import Derived.BigQuiet

/-
  lr0: the search of the law Lr0Interns, walked.
-/
namespace Go.Proofs.Ytapahpljmcaahaa.J
open Go.RowKit Go.Maps Go.Shelf

attribute [local go_sem] Oper.semAt_some

theorem box_apart {X Y : World} {b r : Nat} {cs cs' : Array Value} {t t' : TypeId} (h : X.heap[b]? = some (.cells cs t (0, 0))) (hr : X.heap[r]? = some (.cells cs' t' (0, 0))) (ht : t ≠ t') (hg : X.grownBy Y (some r)) : Y.heap[b]? = some (.cells cs t (0, 0)) := by
  refine (hg.block b (Array.getElem?_eq_some_iff.1 h).1 ?_).trans h
  intro e
  have e2 : b = r := by simpa using e
  subst e2
  rw [h] at hr
  simp only [Option.some.injEq, Obj.cells.injEq] at hr
  exact ht hr.2.1

section
variable (ta na la : Option Addr) (tc nc lc pc : Nat) (n : Nat) (L : Nat → Int) (R : Nat → List Int) (ra : Nat → Option Addr) (rc : Nat → Nat) (V : Nat → Int) (st : Int) (w : World) (tn nn ln : Nat) (bp op sb sc N : Nat) (ask nI : Int)
set_option maxRecDepth 100000 in
set_option maxHeartbeats 8000000 in
theorem reachedJ_any (htn : tn ≤ 65) (hnn : nn ≤ 65)
    (hpr : ∀ k, k < n → ∀ X, w.grownBy X none → X.cell? ⟨bp, op + k * 3 + 1, none⟩ = some (.slice (ra k) (R k).length (rc k)) ∧ IntsAt X (ra k) (R k)) (hRb : ∀ k, k < n → (R k).length ≤ 17592186044416)
    (ks : List (List It)) (es : List (List (Nat × Nat))) (hN256 : N ≤ 256) (hpos : 0 < N) (sy : Nat → Int)
    (hst : ∀ q, q < N → ∃ ea ec ka kc, ∀ Y, w.grownBy Y none → (Y.cell? ⟨sb, q * 2 + 1, none⟩ = some (.slice ea (es.getD q []).length ec) ∧ ItsAt Y ea (elF es q)) ∧ Y.cell? ⟨sb, q * 2, none⟩ = some (.slice ka (ks.getD q []).length kc) ∧ ItsAt Y ka (ks.getD q []))
    (hEl : ∀ q, (es.getD q []).length ≤ 130) (hkl : ∀ q, q < N → (ks.getD q []).length ≤ 10000000)
    (hed : ∀ q, q < N → ∀ s t, (s, t) ∈ es.getD q [] → 0 < s ∧ s < tn + nn ∧ 0 < t ∧ t < N ∧ sy t = (s : Int))
    (hke : ∀ q, 0 < q → q < N → ∀ x ∈ ks.getD q [], itB n R x = true ∧ 1 ≤ x.2 ∧ (R x.1.toNat).getD (x.2 - 1).toNat 0 = sy q)
    (hnew : ∀ t, 0 < t → t < N → ∃ p, p < t ∧ ∃ x ∈ es.getD p [], x.2 = t) :
    Calls Try.prog 14 #[.agg #[.slice ta tn tc, .slice na nn nc, .slice la ln lc, .int .i64 st, .slice (some ⟨bp, op, none⟩) n pc], .agg #[.slice (some ⟨sb, 0, none⟩) N sc, .int .i64 ask, .int .i64 nI]] w fun e y => ∃ ib : Nat, e = .returned (.tuple #[.slice (some ⟨ib, 0, none⟩) N N, .bool true]) ∧ ValAt y ib N 4 (fun _ => .bool true) ∧ w.grownBy y none := by
  obtain ⟨S, hS⟩ : ∃ S, S = tn + nn := ⟨_, rfl⟩
  have HSY : Hid (∀ X, Calls Try.prog 19 #[.agg #[.slice ta tn tc, .slice na nn nc, .slice la ln lc, .int .i64 st, .slice (some ⟨bp, op, none⟩) n pc]] X fun e y => e = .returned (.int .i64 (S : Int)) ∧ X.grownBy y none) := fun X => by
    refine (Go.Proofs.Ytapahpljmcaahaa.symbols_any ta na la (some ⟨bp, op, none⟩) tn nn ln n tc nc lc pc st X (by omega) (by omega)).mono ?_
    rintro e y ⟨rfl, hg⟩
    exact ⟨by rw [hS, Int.natCast_add], hg⟩
  have HPR := show Hid _ from hpr
  have HRB := show Hid _ from hRb
  have HST0 := show Hid _ from hst
  have HEL := show Hid _ from hEl
  have HKL := show Hid _ from hkl
  have HKE := show Hid _ from hke
  have HNW := show Hid _ from hnew
  have HED : Hid (∀ q i s t, q < N → i < (es.getD q []).length → (es.getD q []).getD i (0, 0) = (s, t) → 0 < s ∧ s < S ∧ 0 < t ∧ t < N ∧ sy t = (s : Int)) := fun q i s t hq hi hx => by
    rw [hS]
    refine hed q hq s t ?_
    rw [← hx]
    clear hx
    generalize es.getD q [] = l at hi ⊢
    rw [List.getD_eq_getElem?_getD, List.getElem?_eq_getElem hi]; exact List.getElem_mem hi
  have HX0 : Hid (PhAt w ((w.alloc (.cells #[.slice ta tn tc, .slice na nn nc, .slice la ln lc, .int .i64 st, .slice (some ⟨bp, op, none⟩) n pc] 27)).alloc (.cells #[.slice (some ⟨sb, 0, none⟩) N sc, .int .i64 ask, .int .i64 nI] 32)) w.heap.size #[.slice ta tn tc, .slice na nn nc, .slice la ln lc, .int .i64 st, .slice (some ⟨bp, op, none⟩) n pc]) := PhAt.kept ⟨World.grownBy_alloc _ _ none, heap_alloc_last w _⟩ (World.grownBy_alloc _ _ none)
  have HB0 : Hid (((w.alloc (.cells #[.slice ta tn tc, .slice na nn nc, .slice la ln lc, .int .i64 st, .slice (some ⟨bp, op, none⟩) n pc] 27)).alloc (.cells #[.slice (some ⟨sb, 0, none⟩) N sc, .int .i64 ask, .int .i64 nI] 32)).heap[w.heap.size + 1]? = some (.cells #[.slice (some ⟨sb, 0, none⟩) N sc, .int .i64 ask, .int .i64 nI] 32 (0, 0))) := by
    have h := heap_alloc_last (w.alloc (.cells #[.slice ta tn tc, .slice na nn nc, .slice la ln lc, .int .i64 st, .slice (some ⟨bp, op, none⟩) n pc] 27)) (.cells #[.slice (some ⟨sb, 0, none⟩) N sc, .int .i64 ask, .int .i64 nI] 32)
    rw [World.size_alloc] at h; exact h
  obtain ⟨i4, hi4, hx0, hx1, hx2⟩ := info_parts infoBool
  obtain ⟨i5, hi5, hw0, hw1, hw2⟩ := info_parts infoInt
  obtain ⟨W, hW⟩ : ∃ W, W = ((w.alloc (.cells #[.slice ta tn tc, .slice na nn nc, .slice la ln lc, .int .i64 st, .slice (some ⟨bp, op, none⟩) n pc] 27)).alloc (.cells #[.slice (some ⟨sb, 0, none⟩) N sc, .int .i64 ask, .int .i64 nI] 32)) := ⟨_, rfl⟩
  have HWE := show Hid _ from hW
  rw [← hW] at HX0 HB0
  have HCE : Hid (∀ Y, W.grownBy Y none → Y.cell? ⟨w.heap.size + 1, 0, none⟩ = some (.slice (some ⟨sb, 0, none⟩) N sc)) := fun Y hY => by rw [cell_of_row _ _ _ _ _ _ (box_kept HB0.out hY)]; rfl
  have y0 := HCE.out W (grown_refl _ _)
  rw [hW] at y0
  have hp1 : (0 : Int) < (N : Int) := by omega
  clear hpr hRb hst hEl hkl hed hke hnew hS hW
  go_enter Try.func14, Try.ntmps14
  go_wp2_with (at_make; rw [← HWE.out]; refine wpList_make_full _ rfl _ _ 45 rfl W.heap.size 4 i4 (.bool false) 1 Try.underlying45 hi4 hx0 hx1 .i64 .i64 _ _ N rfl rfl (by simp) (by simp) (by rw [hx2]; omega) (by unfold maxLen; omega) (by simp) ?_)
  intro w3 hown3 hgr3
  have hval3 : ValAt w3 W.heap.size N 4 (fun _ => .bool false) := made_rowK (B := W.heap.size) rfl (by simpa [Value.cells] using hown3)
  obtain ⟨ib, hib⟩ : ∃ b, b = W.heap.size := ⟨_, rfl⟩
  rw [← hib] at hval3
  try rw [← hib]
  have HG3 : Hid (W.grownBy w3 none) := hgr3
  have HV3 : Hid (ValAt w3 ib N 4 (fun _ => .bool false)) := hval3
  have HIB : Hid (W.heap.size ≤ ib) := by show _ ≤ _; omega
  clear hown3 hgr3 hval3 hib y0
  have y0 := HCE.out w3 HG3.out
  go_wp2_with (at_make; refine wpList_make_full _ rfl _ _ 24 rfl w3.heap.size 3 i5 (.int .i64 0) 1 Try.underlying24 hi5 hw0 hw1 .i64 .i64 _ _ N rfl rfl (by simp) (by simp) (by rw [hw2]; omega) (by unfold maxLen; omega) (by simp) ?_)
  intro w4 hown4 hgr4
  have hval4 : ValAt w4 w3.heap.size N 3 (fun _ => .int .i64 0) := made_rowK (B := w3.heap.size) rfl (by simpa [Value.cells] using hown4)
  obtain ⟨bb, hbb⟩ : ∃ b, b = w3.heap.size := ⟨_, rfl⟩
  rw [← hbb] at hval4
  try rw [← hbb]
  have HR4 : Hid (RbAt W (w4.alloc (.cells #[.int .i64 0] 3)) ib bb N (fun _ => false) (fun _ => 0) (some ⟨w4.heap.size, 0, none⟩) 1 (natJ [0])) := by
    have g4 := grown_trans HG3.out hgr4
    refine ⟨grown_trans g4 (World.grownBy_alloc _ _ none), (HV3.out.kept hgr4).kept (World.grownBy_alloc _ _ none), hval4.kept (World.grownBy_alloc _ _ none), ⟨Nat.le_refl _, fun _ => ⟨w4.heap.size, 0, _, rfl, g4.size, heap_alloc_last w4 _, Nat.le_refl _, fun j hj => ?_⟩⟩, fun _ g off e => ?_, HIB.out, by have := HG3.out.size; omega⟩
    · have hj0 : j = 0 := by simpa [natJ] using hj
      subst hj0; rfl
    · simp only [Option.some.injEq, Addr.mk.injEq] at e
      have := hval4.lt
      omega
  have HBY : Hid ((fun _ => (0 : Int)) = byF sy (markJ (fun _ => false) 0)) := funext fun u => by
    unfold byF markJ
    by_cases e : u = 0
    · rw [if_pos e]
    · rw [if_neg e, if_neg e]; rfl
  have HR5 : Hid (RbAt W ((w4.alloc (.cells #[.int .i64 0] 3)).setCell ⟨ib, 0, none⟩ (.bool true)) ib bb N (markJ (fun _ => false) 0) (byF sy (markJ (fun _ => false) 0)) (some ⟨w4.heap.size, 0, none⟩) 1 (natJ [0])) := by
    rw [← HBY.out]
    exact HR4.out.mark 0
  have m0 := HR4.out.iv.cell 0 hpos
  have mf := HR4.out.iv.free 0
  clear hown4 hgr4 hval4 hbb HR4 y0 HBY
  go_wp2_with fail
  obtain ⟨qb, hqb⟩ : ∃ b, b = w4.heap.size := ⟨_, rfl⟩
  obtain ⟨X5, hX5⟩ : ∃ X, X = (w4.alloc (.cells #[.int .i64 0] 3)).setCell ⟨ib, 0, none⟩ (.bool true) := ⟨_, rfl⟩
  rw [← hX5, ← hqb] at HR5
  try rw [← hX5]
  try rw [← hqb]
  have HS0 : Hid (SrJ es N (markJ (fun _ => false) 0) [0] N 0) := SrJ.start hpos
  obtain ⟨M0, hM0⟩ : ∃ m, m = 1 + (N - cntJ (markJ (fun _ => false) 0) N) := ⟨_, rfl⟩
  have HM0 : Hid (M0 = 1 + (N - cntJ (markJ (fun _ => false) 0) N)) := hM0
  clear hX5 hqb hM0 m0 mf HV3 HG3 HIB HWE
  go_loopg [8, 9] M0 (fun gk v8 v9 wr => ∃ (k cap : Nat) (a : Option Addr) (inn : Nat → Bool) (todo : List Nat), v8 = .slice a k cap ∧ v9 = .bool true ∧ k = todo.length ∧ gk = k + (N - cntJ inn N) ∧ gk ≤ N + 1 ∧ SrJ es N inn todo N 0 ∧ RbAt W wr ib bb N inn (byF sy inn) a cap (natJ todo))
  case atStart => exact ⟨1, 1, _, _, [0], rfl, rfl, rfl, HM0.out, by have := HM0.out; omega, HS0.out, HR5.out⟩
  case round =>
    obtain ⟨k, cap, a, inn, todo, rfl, rfl, hk, hgk, hgb, hSr, hRc⟩ := hrel
    have HGB : Hid (gk ≤ N + 1) := hgb
    have HGK : Hid (gk = k + (N - cntJ inn N)) := hgk
    have HSR : Hid (SrJ es N inn todo N 0) := hSr
    have HRC : Hid (RbAt W wr ib bb N inn (byF sy inn) a cap (natJ todo)) := hRc
    have HK : Hid (k = todo.length) := hk
    have hkN : k ≤ 257 := by omega
    clear hgk hgb hSr hRc HS0 HR5 HM0
    cases todo with
    | cons q0 rest =>
      have hq0 := HSR.out.todoIn q0 List.mem_cons_self
      have hq0N : q0 < N := hq0.1
      obtain ⟨g, off, rfl, hcz⟩ := HRC.out.que.head
      have hk1 : 1 ≤ k := by rw [hk]; simp
      have hkc : k ≤ cap := by have := HRC.out.que.1; rw [natJ_len] at this; omega
      have hkd : decide (0 < k) = true := decide_eq_true (by omega)
      have hkd2 : decide ((0 : Int) < (k : Int)) = true := decide_eq_true (by omega)
      have hki : (1 : Int) ≤ (k : Int) := by omega
      have hki2 : (0 : Int) < (k : Int) := by omega
      obtain ⟨k2, hk2⟩ : ∃ k2, k = k2 + 1 := ⟨k - 1, by omega⟩
      have HK2 : Hid (k2 = rest.length) := by have := HK.out; simp at this; show _ = _; omega
      have HSP : Hid (SrJ es N inn rest q0 0) := HSR.out.pop
      obtain ⟨ea, ec, _, _, hst⟩ := HST0.out q0 hq0N
      obtain ⟨E, hE⟩ : ∃ E, E = (es.getD q0 []).length := ⟨_, rfl⟩
      have HE : Hid (E = (es.getD q0 []).length) := hE
      have hEb : E ≤ 130 := by rw [hE]; exact HEL.out q0
      have HST : Hid (∀ Y, W.grownBy Y none → Y.cell? ⟨sb, q0 * 2 + 1, none⟩ = some (.slice ea E ec) ∧ ItsAt Y ea (elF es q0)) := fun Y hY => by rw [hE]; exact (hst Y (grown_trans HX0.out.grown hY)).1
      obtain ⟨M1, hM1⟩ : ∃ m, m = k2 + (N - cntJ inn N) := ⟨_, rfl⟩
      have HM1 : Hid (M1 = k2 + (N - cntJ inn N)) := hM1
      have HGK1 : Hid (gk = M1 + 1) := by have h1 := HGK.out; show _ = _; omega
      have hq00 : (0 : Int) ≤ (q0 : Int) := by omega
      have hq01 : (q0 : Int) < (N : Int) := by omega
      have hM1b : M1 ≤ N := by have h1 := HGB.out; have h2 := HGK1.out; omega
      generalize hwr : wr = W0 at *
      clear hwr hk hq0 hst hE hM1 hkd HGK HK HSR
      subst hk2
      by_cases hcp : cap = 1
      case' pos =>
        have HT : Hid (RbAt W W0 ib bb N inn (byF sy inn) (some ⟨g, off, none⟩) 0 (natJ rest)) := by
          have := HRC.out.pop (some ⟨g, off, none⟩) (fun h => by omega)
          rwa [hcp] at this
        subst hcp
        obtain rfl : k2 = 0 := by omega
        go_wp2_with fail
      case' neg =>
        have hcp1 : 1 < cap := by omega
        have HT : Hid (RbAt W W0 ib bb N inn (byF sy inn) (some ⟨g, off + 1, none⟩) (cap - 1) (natJ rest)) := HRC.out.pop _ (fun _ => rfl)
        have hcd : decide (1 < cap) = true := decide_eq_true hcp1
        go_wp2_with fail
      all_goals
        clear HRC hcz
        go_loopg [8, 9, 11] E (fun gi v8 v9 v11 wr => ∃ (i k cap : Nat) (a : Option Addr) (inn : Nat → Bool) (todo : List Nat), i ≤ E ∧ gi = E - i ∧ v8 = .slice a k cap ∧ v9 = .bool true ∧ v11 = .int .i64 i ∧ k = todo.length ∧ k + (N - cntJ inn N) = M1 ∧ SrJ es N inn todo q0 i ∧ RbAt W wr ib bb N inn (byF sy inn) a cap (natJ todo))
        case atStart => exact ⟨0, _, _, _, _, rest, Nat.zero_le _, rfl, rfl, rfl, rfl, HK2.out, HM1.out.symm, HSP.out, HT.out⟩
        case round =>
          obtain ⟨i, k, cap, a, inn, todo, hi, hgi, rfl, rfl, rfl, hk, hms, hSr, hRc⟩ := hrel
          have HGI : Hid (gk = E - i) := hgi
          have HK : Hid (k = todo.length) := hk
          have HMS : Hid (k + (N - cntJ inn N) = M1) := hms
          have HSR : Hid (SrJ es N inn todo q0 i) := hSr
          have HRC : Hid (RbAt W wr ib bb N inn (byF sy inn) a cap (natJ todo)) := hRc
          have hkb : k ≤ 257 := by omega
          clear hgi hk hms hSr hRc HT HSP HM1 HK2
          have y0 := HCE.out wr HRC.out.grown
          have s0 := (HST.out wr HRC.out.grown).1
          by_cases hlt : i < E
          · have hid : decide (i < E) = true := decide_eq_true hlt
            have hi0 : (0 : Int) ≤ (i : Int) := by omega
            have hi1 : (i : Int) < (E : Int) := by omega
            have hil : i < (es.getD q0 []).length := by rw [← HE.out]; exact hlt
            obtain ⟨eb0, eo, hea, e0, e1⟩ := (HST.out wr HRC.out.grown).2.cellAt (i := i) (by rw [elF_len]; exact hil)
            subst hea
            rw [(elF_at hil).2] at e0 e1
            obtain ⟨x, hx⟩ : ∃ x, x = (es.getD q0 []).getD i (0, 0) := ⟨_, rfl⟩
            rw [← hx] at e0 e1
            obtain ⟨s, t⟩ := x
            simp only at e0 e1
            have HX : Hid ((es.getD q0 []).getD i (0, 0) = (s, t)) := hx.symm
            obtain ⟨hs0, hsS, ht0, htN, hsy⟩ := HED.out q0 i s t hq0N hil hx.symm
            have HSYT : Hid (sy t = (s : Int)) := hsy
            obtain ⟨eb, heb⟩ : ∃ b, b = wr.heap.size := ⟨_, rfl⟩
            have HEB : Hid (eb = wr.heap.size) := heb
            obtain ⟨Y0, hY0⟩ : ∃ Y, Y = wr.alloc (.cells #[.int .i64 (s : Int), .int .i64 (t : Int)] 61) := ⟨_, rfl⟩
            have HY0 : Hid (Y0 = wr.alloc (.cells #[.int .i64 (s : Int), .int .i64 (t : Int)] 61)) := hY0
            have hgY : wr.grownBy Y0 none := by rw [hY0]; exact World.grownBy_alloc _ _ none
            have HBX : Hid (Y0.heap[eb]? = some (.cells #[.int .i64 (s : Int), .int .i64 (t : Int)] 61 (0, 0))) := by rw [hY0, heb]; exact heap_alloc_last wr _
            have HRY : Hid (RbAt W Y0 ib bb N inn (byF sy inn) a cap (natJ todo)) := HRC.out.kept hgY
            have hA : Y0.grownBy Y0.drew none := grown_drewN _ 1
            haveI hne : Nonempty (WBox (fun y => Y0.grownBy y none)) := ⟨⟨_, hA⟩⟩
            have g0 := fun z : WBox (fun y => Y0.grownBy y none) => (HX0.out.kept (grown_trans HRY.out.grown z.ok)).cells.1
            have g1 := fun z : WBox (fun y => Y0.grownBy y none) => (HX0.out.kept (grown_trans HRY.out.grown z.ok)).cells.2.1
            have g2 := fun z : WBox (fun y => Y0.grownBy y none) => (HX0.out.kept (grown_trans HRY.out.grown z.ok)).cells.2.2.1
            have g3 := fun z : WBox (fun y => Y0.grownBy y none) => (HX0.out.kept (grown_trans HRY.out.grown z.ok)).cells.2.2.2.1
            have g4 := fun z : WBox (fun y => Y0.grownBy y none) => (HX0.out.kept (grown_trans HRY.out.grown z.ok)).cells.2.2.2.2
            have g5 := fun z : WBox (fun y => Y0.grownBy y none) => HCE.out z.w (grown_trans HRY.out.grown z.ok)
            have b0 : ∀ z : WBox (fun y => Y0.grownBy y none), z.w.cell? ⟨eb, 0, none⟩ = some (.int .i64 (s : Int)) := fun z => by rw [cell_of_row _ _ _ _ _ _ (box_kept HBX.out z.ok)]; rfl
            have b1 : ∀ z : WBox (fun y => Y0.grownBy y none), z.w.cell? ⟨eb, 1, none⟩ = some (.int .i64 (t : Int)) := fun z => by rw [cell_of_row _ _ _ _ _ _ (box_kept HBX.out z.ok)]; rfl
            have K1 : Hid (∀ z : WBox (fun y => Y0.grownBy y none), Calls Try.prog 19 #[.agg #[.slice ta tn tc, .slice na nn nc, .slice la ln lc, .int .i64 st, .slice (some ⟨bp, op, none⟩) n pc]] z.w fun e w' => e = .returned (.int .i64 (S : Int)) ∧ ∃ z' : WBox (fun y => Y0.grownBy y none), w' = z'.w) := fun z => calls_class ((HSY.out z.w).mono fun e w' h => ⟨h.1, grown_trans z.ok h.2⟩)
            have t0 : (0 : Int) ≤ (t : Int) := by omega
            have t1 : (t : Int) < (N : Int) := by omega
            have d1 : decide ((t : Int) < 1) = false := decide_eq_false (by omega)
            have d1n : decide (t < 1) = false := decide_eq_false (by omega)
            have d2 : decide ((N : Int) ≤ (t : Int)) = false := decide_eq_false (by omega)
            have d2n : decide (N ≤ t) = false := decide_eq_false (by omega)
            have d3 : decide ((s : Int) < 1) = false := decide_eq_false (by omega)
            have d3n : decide (s < 1) = false := decide_eq_false (by omega)
            have d4 : decide ((S : Int) ≤ (s : Int)) = false := decide_eq_false (by omega)
            have d4n : decide (S ≤ s) = false := decide_eq_false (by omega)
            have d5 : ((s : Int) == 0) = false := beq_eq_false_iff_ne.2 (by omega)
            have d5n : (s == 0) = false := beq_eq_false_iff_ne.2 (by omega)
            have d6 : ((s : Int) == (s : Int)) = true := beq_self_eq_true _
            have d6n : (s == s) = true := beq_self_eq_true _
            have d7 : (t == 0) = false := beq_eq_false_iff_ne.2 (by omega)
            have HT0 : Hid (0 < t) := ht0
            obtain ⟨bt, hbt⟩ : ∃ b, b = inn t := ⟨_, rfl⟩
            have HBT : Hid (bt = inn t) := hbt
            clear hx hil hsy hY0 hgY hbt heb
            go_wp2_with fail
            rw [← HY0.out, ← HEB.out]
            refine wp_region_class (p := fun y => Y0.grownBy y none) (by kernel_rfl) (by kernel_rfl) hA ?_
            repeat (go_big_quiet_step (first | (go_at_call 19; rename_i z; with_reducible exact K1.out z)))
            refine wpQuiet_nil ?_
            rintro _ ⟨z, rfl⟩
            have hok := z.ok
            clear g0 g1 g2 g3 g4 g5 b0 b1 K1 hA
            generalize z.w = Y1 at *
            have HR1 : Hid (RbAt W Y1 ib bb N inn (byF sy inn) a cap (natJ todo)) := HRY.out.kept hok
            have HBX1 : Hid (Y1.heap[eb]? = some (.cells #[.int .i64 (s : Int), .int .i64 (t : Int)] 61 (0, 0))) := box_kept HBX.out hok
            clear hok y0 s0 e0 e1
            have b0 : Y1.cell? ⟨eb, 0, none⟩ = some (.int .i64 (s : Int)) := by rw [cell_of_row _ _ _ _ _ _ HBX1.out]; rfl
            have b1 : Y1.cell? ⟨eb, 1, none⟩ = some (.int .i64 (t : Int)) := by rw [cell_of_row _ _ _ _ _ _ HBX1.out]; rfl
            have n0 := HR1.out.bv.cell t htN
            cases bt with
            | true =>
              have HIT : Hid (inn t = true) := HBT.out.symm
              have HBE : Hid (byF sy inn t = (s : Int)) := by
                show _ = _
                unfold byF
                rw [if_neg (by have := HT0.out; omega), if_pos HBT.out.symm]; exact HSYT.out
              have HSK : Hid (SrJ es N inn todo q0 (i + 1)) := HSR.out.skip (by rw [HX.out]; exact HBT.out.symm)
              have HSM : Hid ((fun u => if u = t then (s : Int) else byF sy inn u) = byF sy inn) := by
                show _ = _
                rw [← HSYT.out]
                exact byF_same HT0.out HBT.out.symm
              rw [HBE.out] at n0
              clear HBT
              go_wp2_with fail
              go_quiet (fail)
              obtain ⟨V1, hV1⟩ : ∃ V, V = Y1.drewN nq := ⟨_, rfl⟩
              have hRV : RbAt W V1 ib bb N inn (byF sy inn) a cap (natJ todo) := by rw [hV1]; exact HR1.out.kept (grown_drewN _ _)
              have hBV : V1.heap[eb]? = some (.cells #[.int .i64 (s : Int), .int .i64 (t : Int)] 61 (0, 0)) := by rw [hV1]; exact box_kept HBX1.out (grown_drewN _ _)
              rw [← hV1]
              clear b0 b1 n0
              have b0 : V1.cell? ⟨eb, 0, none⟩ = some (.int .i64 (s : Int)) := by rw [cell_of_row _ _ _ _ _ _ hBV]; rfl
              have b1 : V1.cell? ⟨eb, 1, none⟩ = some (.int .i64 (t : Int)) := by rw [cell_of_row _ _ _ _ _ _ hBV]; rfl
              have n0 := hRV.bv.cell t htN
              rw [HBE.out] at n0
              have nf := hRV.bv.free t
              have hR2 := hRV.setBy t (s : Int)
              have hB2 : (V1.setCell ⟨bb, t, none⟩ (.int .i64 (s : Int))).heap[eb]? = some (.cells #[.int .i64 (s : Int), .int .i64 (t : Int)] 61 (0, 0)) := box_apart hBV hRV.bv (by decide) (grown_setCell _ _ _)
              have b2 : (V1.setCell ⟨bb, t, none⟩ (.int .i64 (s : Int))).cell? ⟨eb, 1, none⟩ = some (.int .i64 (t : Int)) := by rw [cell_of_row _ _ _ _ _ _ hB2]; rfl
              have i2 : (V1.setCell ⟨bb, t, none⟩ (.int .i64 (s : Int))).cell? ⟨ib, t, none⟩ = some (.bool true) := by
                have h := hR2.iv.cell t htN
                rw [HIT.out] at h
                exact h
              rw [HSM.out] at hR2
              have HR2 : Hid (RbAt W (V1.setCell ⟨bb, t, none⟩ (.int .i64 (s : Int))) ib bb N inn (byF sy inn) a cap (natJ todo)) := hR2
              clear hRV hBV hB2 hR2 hV1
              go_wp2_with fail
              go_roundg (E - (i + 1))
              case measure => have := HGI.out; omega
              case rel => exact ⟨i + 1, k, cap, a, inn, todo, by omega, rfl, rfl, rfl, by go_num, HK.out, HMS.out, HSK.out, HR2.out⟩
            | false =>
              have HIT : Hid (inn t = false) := HBT.out.symm
              have HBE : Hid (byF sy inn t = 0) := by
                show _ = _
                unfold byF
                rw [if_neg (by have := HT0.out; omega), if_neg (by rw [HIT.out]; decide)]
              have HSA : Hid (SrJ es N (markJ inn t) (todo ++ [t]) q0 (i + 1)) := HSR.out.add HX.out htN
              have HSM : Hid ((fun u => if u = t then (s : Int) else byF sy inn u) = byF sy (markJ inn t)) := by
                show _ = _
                rw [← HSYT.out]
                exact byF_mark HT0.out
              have HMS1 : Hid (k + 1 + (N - cntJ (markJ inn t) N) = M1) := by
                have h1 := cntJ_mark HIT.out N htN
                have h2 := cntJ_le (markJ inn t) N
                have h3 := HMS.out
                show _ = _
                omega
              rw [HBE.out] at n0
              clear HBT
              go_wp2_with fail
              go_quiet (fail)
              obtain ⟨V1, hV1⟩ : ∃ V, V = Y1.drewN nq := ⟨_, rfl⟩
              have hRV : RbAt W V1 ib bb N inn (byF sy inn) a cap (natJ todo) := by rw [hV1]; exact HR1.out.kept (grown_drewN _ _)
              have hBV : V1.heap[eb]? = some (.cells #[.int .i64 (s : Int), .int .i64 (t : Int)] 61 (0, 0)) := by rw [hV1]; exact box_kept HBX1.out (grown_drewN _ _)
              rw [← hV1]
              clear b0 b1 n0
              have b0 : V1.cell? ⟨eb, 0, none⟩ = some (.int .i64 (s : Int)) := by rw [cell_of_row _ _ _ _ _ _ hBV]; rfl
              have b1 : V1.cell? ⟨eb, 1, none⟩ = some (.int .i64 (t : Int)) := by rw [cell_of_row _ _ _ _ _ _ hBV]; rfl
              have n0 := hRV.bv.cell t htN
              rw [HBE.out] at n0
              have nf := hRV.bv.free t
              have hR2 := hRV.setBy t (s : Int)
              have hB2 : (V1.setCell ⟨bb, t, none⟩ (.int .i64 (s : Int))).heap[eb]? = some (.cells #[.int .i64 (s : Int), .int .i64 (t : Int)] 61 (0, 0)) := box_apart hBV hRV.bv (by decide) (grown_setCell _ _ _)
              have b2 : (V1.setCell ⟨bb, t, none⟩ (.int .i64 (s : Int))).cell? ⟨eb, 1, none⟩ = some (.int .i64 (t : Int)) := by rw [cell_of_row _ _ _ _ _ _ hB2]; rfl
              have i2 : (V1.setCell ⟨bb, t, none⟩ (.int .i64 (s : Int))).cell? ⟨ib, t, none⟩ = some (.bool false) := by
                have h := hR2.iv.cell t htN
                rw [HIT.out] at h
                exact h
              rw [HSM.out] at hR2
              have hR3 := hR2.mark t
              have hB3 : ((V1.setCell ⟨bb, t, none⟩ (.int .i64 (s : Int))).setCell ⟨ib, t, none⟩ (.bool true)).heap[eb]? = some (.cells #[.int .i64 (s : Int), .int .i64 (t : Int)] 61 (0, 0)) := box_apart hB2 hR2.iv (by decide) (grown_setCell _ _ _)
              have if2 := hR2.iv.free t
              obtain ⟨V3, hV3⟩ : ∃ V, V = (V1.setCell ⟨bb, t, none⟩ (.int .i64 (s : Int))).setCell ⟨ib, t, none⟩ (.bool true) := ⟨_, rfl⟩
              have HV3 := show Hid _ from hV3
              have b3 : V3.cell? ⟨eb, 1, none⟩ = some (.int .i64 (t : Int)) := by rw [hV3, cell_of_row _ _ _ _ _ _ hB3]; rfl
              have HSE : Hid (V3.heap.size = V1.heap.size) := by
                show _ = _
                rw [hV3]; simp
              rw [← hV3] at hR3
              rw [hV3] at b3
              have HR3 : Hid (RbAt W V3 ib bb N (markJ inn t) (byF sy (markJ inn t)) a cap (natJ todo)) := hR3
              have HQA : Hid (QueAt (V3.alloc (.cells #[.int .i64 (t : Int)] 3)) W.heap.size a cap (natJ todo)) := (hR3.kept (World.grownBy_alloc V3 (.cells #[.int .i64 (t : Int)] 3) none)).que
              have HSZ : Hid (W.heap.size ≤ (V3.alloc (.cells #[.int .i64 (t : Int)] 3)).heap.size) := (hR3.kept (World.grownBy_alloc V3 (.cells #[.int .i64 (t : Int)] 3) none)).grown.size
              have HNC : Hid ((V3.alloc (.cells #[.int .i64 (t : Int)] 3)).cell? ⟨V1.heap.size, 0, none⟩ = some (.int .i64 (t : Int))) := by
                show _ = _
                rw [← HSE.out, cell_of_row _ _ _ _ _ _ (heap_alloc_last V3 _)]; rfl
              clear hRV hBV hB2 hR2 hR3 hB3 hV3 hV1
              go_wp2_with (at_builtin; rw [← HV3.out]; refine wpList_append_que _ rfl (.tmp 114) (.tmp 117) 24 rfl W.heap.size i5 Try.underlying24 hi5 hw0 hw1 hw2 a k cap (natJ todo) rfl (by rw [natJ_len]; exact HK.out) HQA.out HSZ.out V1.heap.size (t : Int) 1 rfl HNC.out (by omega) ?_)
              intro a8 cap8 w8 hq8 hg8
              have HR8 : Hid (RbAt W w8 ib bb N (markJ inn t) (byF sy (markJ inn t)) a8 cap8 (natJ (todo ++ [t]))) := by
                show RbAt _ _ _ _ _ _ _ _ _ _
                rw [natJ_snoc]
                exact (HR3.out.kept (World.grownBy_alloc V3 (.cells #[.int .i64 (t : Int)] 3) none)).push hq8 hg8
              clear hq8 hg8 HQA HSZ HNC b0 b1 b2 b3 i2 n0 nf if2
              go_wp2_with fail
              go_roundg (E - (i + 1))
              case measure => have := HGI.out; omega
              case rel => exact ⟨i + 1, k + 1, cap8, a8, _, todo ++ [t], by omega, rfl, rfl, rfl, by go_num, by rw [List.length_append, ← HK.out]; rfl, HMS1.out, HSA.out, HR8.out⟩
          · have hiE : E = i := by omega
            subst hiE
            have hid : decide (E < E) = false := decide_eq_false (by omega)
            have HSL : Hid (SrJ es N inn todo N 0) := HSR.out.left (by rw [← HE.out]; exact Nat.le_refl _)
            go_wp2_with fail
            go_roundg M1
            case measure => have := HGK1.out; omega
            case rel => exact ⟨k, cap, a, inn, todo, rfl, rfl, HK.out, HMS.out.symm, by omega, HSL.out, HRC.out⟩
    | nil =>
      obtain rfl : k = 0 := by rw [hk]; rfl
      have HALL : Hid (∀ t, t < N → inn t = true) := fun t ht => HSR.out.all HNW.out (t + 1) t (Nat.lt_succ_self _) ht
      have HIV : Hid (∀ Y, wr.grownBy Y none → ValAt Y ib N 4 (fun _ => .bool true)) := fun Y hY => (HRC.out.kept hY).iv.ext fun i hi => by rw [HALL.out i hi]
      have HBV : Hid (∀ Y q, wr.grownBy Y none → 0 < q → q < N → Y.cell? ⟨bb, q, none⟩ = some (.int .i64 (sy q))) := fun Y q hY h1 h2 => by
        have h := (HRC.out.kept hY).bv.cell q h2
        unfold byF at h
        rw [if_neg (by omega), if_pos (HALL.out q h2)] at h
        exact h
      have HGW : Hid (W.grownBy wr none) := HRC.out.grown
      generalize wr = W0 at *
      clear hk HK HGK HGB HSR HRC HALL
      go_wp2_with fail
      go_loopg [9, 13] (N - 1) (fun gk v9 v13 wr => ∃ q : Nat, 1 ≤ q ∧ q ≤ N ∧ gk = N - q ∧ v9 = .bool true ∧ v13 = .int .i64 q ∧ W0.grownBy wr none)
      case atStart => exact ⟨1, Nat.le_refl _, by omega, rfl, rfl, rfl, grown_refl _ _⟩
      case round =>
        obtain ⟨q, hq1, hq, hgq, rfl, rfl, hg⟩ := hrel
        have HGQ : Hid (gk = N - q) := hgq
        have HG : Hid (W0.grownBy wr none) := hg
        have y0 := HCE.out wr (grown_trans HGW.out hg)
        clear hgq hg
        by_cases hlt : q < N
        · have hqd : decide (q < N) = true := decide_eq_true hlt
          have hq0' : (0 : Int) ≤ (q : Int) := by omega
          have hq1' : (q : Int) < (N : Int) := by omega
          obtain ⟨_, _, ka, kc, hst⟩ := HST0.out q hlt
          obtain ⟨K, hK⟩ : ∃ K, K = (ks.getD q []).length := ⟨_, rfl⟩
          have HK : Hid (K = (ks.getD q []).length) := hK
          have hKb : K ≤ 10000000 := by rw [hK]; exact HKL.out q hlt
          have HKC : Hid (∀ Y, W0.grownBy Y none → Y.cell? ⟨sb, q * 2, none⟩ = some (.slice ka K kc) ∧ ItsAt Y ka (ks.getD q [])) := fun Y hY => by rw [hK]; exact (hst Y (grown_trans HX0.out.grown (grown_trans HGW.out hY))).2
          have HKI := show Hid _ from HKE.out q (by omega) hlt
          obtain ⟨sq, hsq⟩ : ∃ v, v = sy q := ⟨_, rfl⟩
          have HBQ : Hid (∀ Y, W0.grownBy Y none → Y.cell? ⟨bb, q, none⟩ = some (.int .i64 sq)) := fun Y hY => by rw [hsq]; exact HBV.out Y q hY (by omega) hlt
          rw [← hsq] at HKI
          clear hst hK hsq
          generalize wr = W1 at *
          go_wp2_with fail
          clear y0
          go_loopg [9, 14] K (fun gk v9 v14 wr => ∃ j : Nat, j ≤ K ∧ gk = K - j ∧ v9 = .bool true ∧ v14 = .int .i64 j ∧ W0.grownBy wr none)
          case atStart => exact ⟨0, Nat.zero_le _, rfl, rfl, rfl, HG.out⟩
          case round =>
            obtain ⟨j, hj, hgj, rfl, rfl, hg⟩ := hrel
            have HGJ : Hid (gk = K - j) := hgj
            have HGR : Hid (W0.grownBy wr none) := hg
            have y0 := HCE.out wr (grown_trans HGW.out hg)
            obtain ⟨r0, hit⟩ := HKC.out wr hg
            clear hgj hg
            by_cases hjt : j < K
            · have hjd : decide (j < K) = true := decide_eq_true hjt
              have hj0 : (0 : Int) ≤ (j : Int) := by omega
              have hj1 : (j : Int) < (K : Int) := by omega
              have hjl : j < (ks.getD q []).length := by rw [← HK.out]; exact hjt
              obtain ⟨kb, ko, hka, e0, e1⟩ := hit.cellAt hjl
              subst hka
              have hmem : (ks.getD q []).getD j (0, 0) ∈ ks.getD q [] := by
                clear e0 e1
                generalize ks.getD q [] = l at hjl ⊢
                rw [List.getD_eq_getElem?_getD, List.getElem?_eq_getElem hjl]; exact List.getElem_mem hjl
              obtain ⟨hib, hx1, hxs⟩ := HKI.out _ hmem
              obtain ⟨x, hx⟩ : ∃ x, x = (ks.getD q []).getD j (0, 0) := ⟨_, rfl⟩
              rw [← hx] at e0 e1 hib hx1 hxs
              obtain ⟨p, d⟩ := x
              unfold itB at hib
              simp only [Bool.and_eq_true, decide_eq_true_eq] at hib
              simp only at e0 e1 hx1 hxs
              obtain ⟨⟨⟨a1, a2⟩, a3⟩, a4⟩ := hib
              obtain ⟨pn, rfl⟩ : ∃ pn : Nat, p = (pn : Int) := ⟨p.toNat, by omega⟩
              obtain ⟨dn, rfl⟩ : ∃ dn : Nat, d = (dn : Int) := ⟨d.toNat, by omega⟩
              rw [Int.toNat_natCast] at a4 hxs
              have hpn : pn < n := by omega
              obtain ⟨d1, hd1⟩ : ∃ d1 : Nat, d1 = dn - 1 := ⟨_, rfl⟩
              have hdt : ((dn : Int) - 1).toNat = d1 := by omega
              rw [hdt] at hxs
              obtain ⟨rl, hrl⟩ : ∃ r, r = (R pn).length := ⟨_, rfl⟩
              have hrlb : rl ≤ 17592186044416 := by rw [hrl]; exact HRB.out pn hpn
              have hd1l : d1 < rl := by omega
              have HPC : Hid (∀ Y, W0.grownBy Y none → Y.cell? ⟨bp, op + pn * 3 + 1, none⟩ = some (.slice (ra pn) rl (rc pn)) ∧ IntsAt Y (ra pn) (R pn)) := fun Y hY => by rw [hrl]; exact HPR.out pn hpn Y (grown_trans HX0.out.grown (grown_trans HGW.out hY))
              obtain ⟨rb, ro, hra⟩ : ∃ rb ro, ra pn = some ⟨rb, ro, none⟩ := by
                rcases (HPC.out wr HGR.out).2 with h | ⟨b, off, e, h⟩
                · rw [h] at hrl; simp at hrl; omega
                · exact ⟨b, off, e⟩
              have HRC9 : Hid (∀ Y, W0.grownBy Y none → Y.cell? ⟨bp, op + pn * 3 + 1, none⟩ = some (.slice (some ⟨rb, ro, none⟩) rl (rc pn)) ∧ Y.cell? ⟨rb, ro + d1, none⟩ = some (.int .i64 sq)) := fun Y hY => by
                obtain ⟨h1, h2⟩ := HPC.out Y hY
                rw [hra] at h1 h2
                refine ⟨h1, ?_⟩
                rcases h2 with h | ⟨b, off, e, h⟩
                · rw [h] at hrl; simp at hrl; omega
                · cases e
                  rw [h d1 (by omega), hxs]
              obtain ⟨eb, heb⟩ : ∃ b, b = wr.heap.size := ⟨_, rfl⟩
              have HEB : Hid (eb = wr.heap.size) := heb
              obtain ⟨Y0, hY0⟩ : ∃ Y, Y = wr.alloc (.cells #[.int .i64 (pn : Int), .int .i64 (dn : Int)] 49) := ⟨_, rfl⟩
              have HY0 : Hid (Y0 = wr.alloc (.cells #[.int .i64 (pn : Int), .int .i64 (dn : Int)] 49)) := hY0
              have hgY : wr.grownBy Y0 none := by rw [hY0]; exact World.grownBy_alloc _ _ none
              have HGY : Hid (W0.grownBy Y0 none) := grown_trans HGR.out hgY
              have HBX : Hid (Y0.heap[eb]? = some (.cells #[.int .i64 (pn : Int), .int .i64 (dn : Int)] 49 (0, 0))) := by rw [hY0, heb]; exact heap_alloc_last wr _
              have HFC : Hid (∀ Y, Y0.grownBy Y none → Y.cell? ⟨eb, 0, none⟩ = some (.int .i64 (pn : Int)) ∧ Y.cell? ⟨eb, 1, none⟩ = some (.int .i64 (dn : Int)) ∧ Y.cell? ⟨w.heap.size, 4, none⟩ = some (.slice (some ⟨bp, op, none⟩) n pc) ∧ Y.cell? ⟨bp, op + pn * 3 + 1, none⟩ = some (.slice (some ⟨rb, ro, none⟩) rl (rc pn)) ∧ Y.cell? ⟨rb, ro + d1, none⟩ = some (.int .i64 sq) ∧ Y.cell? ⟨bb, q, none⟩ = some (.int .i64 sq)) := fun Y hY => by
                have h := box_kept HBX.out hY
                obtain ⟨h1, h2⟩ := HRC9.out Y (grown_trans HGY.out hY)
                exact ⟨by rw [cell_of_row _ _ _ _ _ _ h]; rfl, by rw [cell_of_row _ _ _ _ _ _ h]; rfl, (HX0.out.kept (grown_trans HGW.out (grown_trans HGY.out hY))).cells.2.2.2.2, h1, h2, HBQ.out Y (grown_trans HGY.out hY)⟩
              have p0 : (0 : Int) ≤ (pn : Int) := by omega
              have p1 : (pn : Int) < (n : Int) := by omega
              have d1a : decide ((pn : Int) < 0) = false := decide_eq_false (by omega)
              have d2a : decide ((n : Int) ≤ (pn : Int)) = false := decide_eq_false (by omega)
              have d2n : decide (n ≤ pn) = false := decide_eq_false (by omega)
              have d3a : decide ((dn : Int) < 1) = false := decide_eq_false (by omega)
              have d3n : decide (dn < 1) = false := decide_eq_false (by omega)
              have d4a : decide ((rl : Int) < (dn : Int)) = false := decide_eq_false (by omega)
              have d4n : decide (rl < dn) = false := decide_eq_false (by omega)
              have hsb : (dn : Int) - 1 = (d1 : Int) := by omega
              have hwd : IntKind.i64.wrap (d1 : Int) = (d1 : Int) := by rw [IntKind.wrap_i64]; omega
              have hd0 : (0 : Int) ≤ (d1 : Int) := by omega
              have hdl : (d1 : Int) < (rl : Int) := by omega
              have hss : (sq == sq) = true := beq_self_eq_true _
              clear hx hjl hmem hx1 hxs a1 a2 a3 a4 hd1 hdt hrl hra hY0 heb HPC hit
              go_wp2_with fail
              rw [← HY0.out, ← HEB.out]
              obtain ⟨f0, f1, f2, f3, f4, f5⟩ := HFC.out Y0 (grown_refl _ _)
              go_quiet (fail)
              obtain ⟨V1, hV1⟩ : ∃ V, V = Y0.drewN nq := ⟨_, rfl⟩
              have HGV : Hid (Y0.grownBy V1 none) := by rw [hV1]; exact grown_drewN _ _
              rw [← hV1]
              clear f0 f1 f2 f3 f4 f5 hV1
              obtain ⟨f0, f1, f2, f3, f4, f5⟩ := HFC.out V1 HGV.out
              go_wp2_with fail
              go_quiet (fail)
              go_wp2_with fail
              go_roundg (K - (j + 1))
              case measure => have := HGJ.out; omega
              case rel => exact ⟨j + 1, by omega, rfl, rfl, by go_num, by first | exact grown_trans HGY.out HGV.out | exact grown_trans HGY.out (grown_trans HGV.out (grown_drewN _ _))⟩
            · have hjK : K = j := by omega
              subst hjK
              have hjd : decide (K < K) = false := decide_eq_false (by omega)
              go_wp2_with fail
              go_roundg (N - (q + 1))
              case measure => have := HGQ.out; omega
              case rel => exact ⟨q + 1, by omega, by omega, rfl, rfl, by go_num, HGR.out⟩
        · have hqN : N = q := by omega
          subst hqN
          have hqd : decide (N < N) = false := decide_eq_false (by omega)
          go_wp2_with fail
          go_ret2
          exact ⟨ib, rfl, HIV.out _ HG.out, grown_trans HX0.out.grown (grown_trans HGW.out HG.out)⟩
end

end Go.Proofs.Ytapahpljmcaahaa.J

/-
  lr0: the law's awake.
-/
namespace Go.Proofs.Ytapahpljmcaahaa.J
open Go.RowKit Go.Maps Go.Shelf

attribute [local go_sem] Oper.semAt_some

theorem k_gg : autoF (GG 3 3 kL kR) 5 256 = some (kKs, kEs) := by
  have h : ∀ k ∈ kKs, IsClo 3 3 kL kR k (CLo 3 3 kL kR k) := fun k hk => by
    have h1 := k_clo k hk
    rw [CLo_eq h1 (by
      simp only [kKs, List.mem_cons, List.not_mem_nil, or_false] at hk
      rcases hk with rfl | rfl | rfl | rfl | rfl <;> decide)]
    exact h1
  exact k_auto h

theorem k_item : ∀ x ∈ [((0 : Int), (0 : Int))], itB 3 kR x = true := by intro x hx; rw [List.mem_singleton.1 hx]; rfl
theorem k_build {w1 X : World} {b1 b2 b6 : Nat} {ra : Nat → Option Addr} {rc : Nat → Nat} (hG1 : GAt w1 (some ⟨b1, 0, none⟩) (some ⟨b2, 0, none⟩) none (some ⟨b6, 0, none⟩) 3 2 0 3 kTs kNs [] 3 kL kR ra rc (fun _ => 0)) (hX : w1.grownBy X none) : Calls Try.prog 8 #[.agg #[.slice (some ⟨b1, 0, none⟩) 3 3, .slice (some ⟨b2, 0, none⟩) 2 2, .slice none 0 0, .int .i64 4, .slice (some ⟨b6, 0, none⟩) 3 3]] X fun e y => ∃ sa sc, e = .returned (.tuple #[.agg #[.slice sa 5 sc, .int .i64 5, .int .i64 5], .int .i64 0]) ∧ X.grownBy y none := by
  refine (buildOk _ _ _ _ _ _ _ _ kTs kNs [] 3 kL kR ra rc (fun _ => 0) 4 X 3 2 0 ⟨rfl, rfl, rfl⟩ (hG1.kept hX) k_closed).mono ?_
  rintro e y (⟨ks, es, sa, sc, kv, ev, hau, rfl, _, hg⟩ | ⟨hau, _⟩)
  · have h := k_gg.symm.trans hau
    simp only [Option.some.injEq, Prod.mk.injEq] at h
    obtain ⟨rfl, rfl⟩ := h
    exact ⟨sa, sc, rfl, hg⟩
  · have h := k_gg.symm.trans hau
    cases h
theorem k_clos {w1 X : World} {b1 b2 b6 : Nat} {ra : Nat → Option Addr} {rc : Nat → Nat} (hG1 : GAt w1 (some ⟨b1, 0, none⟩) (some ⟨b2, 0, none⟩) none (some ⟨b6, 0, none⟩) 3 2 0 3 kTs kNs [] 3 kL kR ra rc (fun _ => 0)) (hX : w1.grownBy X none) (b : Nat) (hI : ItsAt X (some ⟨b, 0, none⟩) [(0, 0)]) : Calls Try.prog 16 #[.agg #[.slice (some ⟨b1, 0, none⟩) 3 3, .slice (some ⟨b2, 0, none⟩) 2 2, .slice none 0 0, .int .i64 4, .slice (some ⟨b6, 0, none⟩) 3 3], .slice (some ⟨b, 0, none⟩) 1 1] X fun e y => ∃ a c, e = .returned (.tuple #[.slice a 3 c, .int .i64 0]) ∧ X.grownBy y none := by
  refine (closureOk _ _ _ _ _ _ _ _ kTs kNs [] 3 kL kR ra rc (fun _ => 0) 4 X 3 2 0 ⟨rfl, rfl, rfl⟩ (hG1.kept hX) (some ⟨b, 0, none⟩) 1 [(0, 0)] hI (by decide) (fun h => by cases h) k_closed k_item).mono ?_
  rintro e y ⟨l, hl, _, a, c, rfl, _, hg⟩
  have h := hl.unique (k_clo [(0, 0)] (by simp [kKs]))
  subst h
  exact ⟨a, c, rfl, hg⟩
theorem k_goto {w1 X : World} {b1 b2 b6 : Nat} {ra : Nat → Option Addr} {rc : Nat → Nat} (hG1 : GAt w1 (some ⟨b1, 0, none⟩) (some ⟨b2, 0, none⟩) none (some ⟨b6, 0, none⟩) 3 2 0 3 kTs kNs [] 3 kL kR ra rc (fun _ => 0)) (hX : w1.grownBy X none) (b : Nat) (hI : ItsAt X (some ⟨b, 0, none⟩) [(0, 0)]) : Calls Try.prog 17 #[.agg #[.slice (some ⟨b1, 0, none⟩) 3 3, .slice (some ⟨b2, 0, none⟩) 2 2, .slice none 0 0, .int .i64 4, .slice (some ⟨b6, 0, none⟩) 3 3], .int .i64 4, .slice (some ⟨b, 0, none⟩) 1 1] X fun e y => ∃ g c, e = .returned (.tuple #[.slice (some ⟨g, 0, none⟩) 2 c, .int .i64 0]) ∧ y.cell? ⟨g, 2, none⟩ = some (.int .i64 1) ∧ y.cell? ⟨g, 3, none⟩ = some (.int .i64 1) ∧ X.grownBy y none := by
  refine (gotoOk _ _ _ _ _ _ _ _ kTs kNs [] 3 kL kR ra rc (fun _ => 0) 4 X 3 2 0 ⟨rfl, rfl, rfl⟩ (hG1.kept hX) (some ⟨b, 0, none⟩) 1 [(0, 0)] hI (by decide) (fun h => by cases h) 4 (by decide) k_closed k_item).mono ?_
  rintro e y ⟨l, hl, _, a, c, rfl, ho, hg⟩
  have h := hl.unique (k_clo [(0, 0)] (by simp [kKs]))
  subst h
  have hk : kerT kR (kCl [(0, 0)]) ((4 : Nat) : Int) = [(0, 1), (1, 1)] := by decide
  rw [hk] at ho ⊢
  obtain ⟨g, c2, he, hcell⟩ := owns_at ho (by decide)
  simp only [Value.slice.injEq] at he
  obtain ⟨rfl, _, rfl⟩ := he
  exact ⟨g, c, rfl, hcell 2 _ rfl, hcell 3 _ rfl, hg⟩
theorem k_its (X : World) : ItsAt (X.alloc (.cells #[.int .i64 0, .int .i64 0] 49)) (some ⟨X.heap.size, 0, none⟩) [(0, 0)] := .inr ⟨X.heap.size, 0, rfl, fun i hi => by
  have h2 : i = 0 := by simp at hi; omega
  subst h2
  exact ⟨by rw [cell_of_row _ _ _ _ _ _ (heap_alloc_last X _)]; rfl, by rw [cell_of_row _ _ _ _ _ _ (heap_alloc_last X _)]; rfl⟩⟩

set_option maxRecDepth 100000 in
set_option maxHeartbeats 2000000 in
theorem awake_any (w : World) : Calls Try.prog 5 #[] w fun e w' => e = .returned (.bool true) ∧ w.grownBy w' none := by
  have hE : ∀ X : World, (binOp .eql 49 (.agg #[.int .i64 1, .int .i64 1]) (.agg #[.int .i64 1, .int .i64 1])).run Try.prog X = .ok (.bool true) X := fun X => eq_item 1 1 1 1 X
  go_enter Try.func5, Try.ntmps5
  go_wp2_with fail
  refine Calls.mono (small_any w) ?_
  rintro e w1 ⟨b1, b2, b6, ra, rc, rfl, hG1, hg1⟩
  have HG1 : Hid (GAt w1 (some ⟨b1, 0, none⟩) (some ⟨b2, 0, none⟩) none (some ⟨b6, 0, none⟩) 3 2 0 3 kTs kNs [] 3 kL kR ra rc (fun _ => 0)) := hG1
  obtain ⟨gb, hgb⟩ : ∃ gb, gb = w1.heap.size := ⟨_, rfl⟩
  obtain ⟨X1, hX1⟩ : ∃ X1, X1 = w1.alloc (.cells #[.slice (some ⟨b1, 0, none⟩) 3 3, .slice (some ⟨b2, 0, none⟩) 2 2, .slice none 0 0, .int .i64 4, .slice (some ⟨b6, 0, none⟩) 3 3] 27) := ⟨_, rfl⟩
  have HP1 : Hid (PhAt w1 X1 gb #[.slice (some ⟨b1, 0, none⟩) 3 3, .slice (some ⟨b2, 0, none⟩) 2 2, .slice none 0 0, .int .i64 4, .slice (some ⟨b6, 0, none⟩) 3 3]) := ⟨by rw [hX1]; exact World.grownBy_alloc _ _ none, by rw [hX1, hgb]; exact heap_alloc_last w1 _⟩
  have HGW : Hid (w.grownBy w1 none) := hg1
  have HXE := show Hid _ from hX1
  have HGE := show Hid _ from hgb
  clear hG1 hg1 hX1 hgb
  go_wp2_with fail
  rw [← HXE.out, ← HGE.out]
  refine Calls.mono (k_build HG1.out HP1.out.grown) ?_
  rintro e w2 ⟨sa, sc, rfl, hg2⟩
  have HP2 : Hid (PhAt w1 (w2.alloc (.cells #[.slice sa 5 sc, .int .i64 5, .int .i64 5] 32)) gb #[.slice (some ⟨b1, 0, none⟩) 3 3, .slice (some ⟨b2, 0, none⟩) 2 2, .slice none 0 0, .int .i64 4, .slice (some ⟨b6, 0, none⟩) 3 3]) := HP1.out.kept (grown_trans hg2 (World.grownBy_alloc _ _ none))
  clear hg2 HP1 HXE HGE
  obtain ⟨k0, k1, k2, k3, k4⟩ := HP2.out.cells
  obtain ⟨ab, hab⟩ : ∃ b, b = w2.heap.size := ⟨_, rfl⟩
  have HAB : Hid ((w2.alloc (.cells #[.slice sa 5 sc, .int .i64 5, .int .i64 5] 32)).heap[ab]? = some (.cells #[.slice sa 5 sc, .int .i64 5, .int .i64 5] 32 (0, 0))) := by rw [hab]; exact heap_alloc_last w2 _
  have HAE := show Hid _ from hab
  clear hab
  have HCL := show Hid _ from k_clos HG1.out (grown_trans HP2.out.grown (World.grownBy_alloc _ (.cells #[.int .i64 0, .int .i64 0] 49) none)) _ (k_its (w2.alloc (.cells #[.slice sa 5 sc, .int .i64 5, .int .i64 5] 32)))
  rw [World.size_alloc] at HCL
  go_wp2_with fail
  refine Calls.mono HCL.out ?_
  rintro e w3 ⟨a3, c3, rfl, hg3⟩
  have HP3 : Hid (PhAt w1 w3 gb #[.slice (some ⟨b1, 0, none⟩) 3 3, .slice (some ⟨b2, 0, none⟩) 2 2, .slice none 0 0, .int .i64 4, .slice (some ⟨b6, 0, none⟩) 3 3]) := HP2.out.kept (grown_trans (World.grownBy_alloc _ _ none) hg3)
  have HA3 : Hid (w3.heap[ab]? = some (.cells #[.slice sa 5 sc, .int .i64 5, .int .i64 5] 32 (0, 0))) := box_kept HAB.out (grown_trans (World.grownBy_alloc _ _ none) hg3)
  rw [← HAE.out]
  clear hg3 HP2 HAB HCL HAE k0 k1 k2 k3 k4
  obtain ⟨k0, k1, k2, k3, k4⟩ := HP3.out.cells
  have HGO := show Hid _ from k_goto HG1.out (grown_trans HP3.out.grown (World.grownBy_alloc _ (.cells #[.int .i64 0, .int .i64 0] 49) none)) _ (k_its w3)
  go_wp2_with fail
  refine Calls.mono HGO.out ?_
  rintro e w4 ⟨g4, c4, rfl, r0, r1, hg4⟩
  have HA4 : Hid (w4.heap[ab]? = some (.cells #[.slice sa 5 sc, .int .i64 5, .int .i64 5] 32 (0, 0))) := box_kept HA3.out (grown_trans (World.grownBy_alloc _ _ none) hg4)
  have HG4 : Hid (w.grownBy w4 none) := grown_trans HGW.out (grown_trans HP3.out.grown (grown_trans (World.grownBy_alloc _ _ none) hg4))
  have q0 := cell_of_row w4 ab 0 _ _ _ HA4.out
  have q1 := cell_of_row w4 ab 1 _ _ _ HA4.out
  have q2 := cell_of_row w4 ab 2 _ _ _ HA4.out
  simp only [List.getElem?_toArray, List.getElem?_cons_zero, List.getElem?_cons_succ] at q0 q1 q2
  clear hg4 HA3 HP3 HGO k0 k1 k2 k3 k4 HG1 HGW
  go_wp2_with fail
  go_ret
  exact ⟨rfl, HG4.out⟩

end Go.Proofs.Ytapahpljmcaahaa.J
