import Derived.Test.YthoamlahbnphkaaGreatQlgpgjabchlle
import Derived.Test.YthoamlahbnphkaaGreatQbipomdhdkheb

/-
  relate: backs.
-/
namespace Go.Proofs.YthoamlahbnphkaaGreat.J
open Go.RowKit Go.Maps Go.Shelf

attribute [local go_sem] Oper.semAt_some

theorem infoIntss : (Tryz.prog.info? 30).map (fun i => (i.zero, i.size, i.bytes)) = some (some (.slice none 0 0), 1, 24) := by kernel_rfl
theorem infoBack : (Tryz.prog.info? 40).map (fun i => (i.zero, i.size, i.bytes)) = some (some (.agg #[.int .i64 0, .int .i64 0, .slice none 0 0]), 3, 40) := by kernel_rfl
theorem mk_rows (u : World) {i0 : TypeInfo} (hi0 : Tryz.prog.info? 24 = some i0) (hz0 : i0.zero = some (.slice none 0 0)) (hz1 : i0.size = 1) (hz2 : i0.bytes = 24) {S : Nat} (hS : S ≤ 1000) : (Instr.makeSlice 30 (.int .i64 (S : Int)) (.int .i64 (S : Int))).run Tryz.prog u = .ok (.slice (some ⟨u.heap.size, 0, none⟩) S S) (u.alloc (.cells (madeCells #[.slice none 0 0] S) 24)) := by
  have h := run_make (P := Tryz.prog) u 30 24 i0 (.slice none 0 0) Tryz.underlying30 hi0 hz0 .i64 .i64 (S : Int) (S : Int) (by omega) (Int.le_refl _) (by rw [hz2]; omega) (by omega)
  rw [h]
  simp [hz1, Value.cells]
theorem mk_valR {Y : World} {b S : Nat} (h : Y.heap[b]? = some (.cells (madeCells #[.slice none 0 0] S) 24 (0, 0))) : ValAt Y b S 24 (fun _ => .slice none 0 0) := by
  unfold ValAt
  rw [h]
  congr 2
  apply Array.ext'
  rw [toList_madeCells_one, List.map_const', List.length_range]

/-- The rows of lists, i of them made. -/
structure LmP (P X : World) (bx kb N n i : Nat) (rb : Nat → Nat) : Prop where
  grown : P.grownBy X none
  box : X.heap[bx]? = some (.cells #[.slice (some ⟨kb, 0, none⟩) N N] 119 (0, 0))
  out : ValAt X kb N 30 (fun s => if s < i then .slice (some ⟨rb s, 0, none⟩) n n else .slice none 0 0)
  val : ∀ s, s < i → ValAt X (rb s) n 24 (fun _ => .slice none 0 0)
  inj : ∀ s s', s < i → s' < i → rb s = rb s' → s = s'
  lo : P.heap.size ≤ bx ∧ P.heap.size ≤ kb ∧ ∀ s, s < i → P.heap.size ≤ rb s
section
variable {P X Y : World} {bx kb N n i : Nat} {rb : Nat → Nat}
theorem LmP.kept (h : LmP P X bx kb N n i rb) (hg : X.grownBy Y none) : LmP P Y bx kb N n i rb :=
  ⟨grown_trans h.grown hg, box_kept h.box hg, h.out.kept hg, fun s hs => (h.val s hs).kept hg, h.inj, h.lo⟩
theorem LmP.step (h : LmP P X bx kb N n i rb) (hg : X.grownBy Y none) {g : Nat} (hn : X.heap.size ≤ g) (hv : ValAt Y g n 24 (fun _ => .slice none 0 0)) : LmP P (Y.setCell ⟨kb, i, none⟩ (.slice (some ⟨g, 0, none⟩) n n)) bx kb N n (i + 1) (updL rb i g) := by
  have h1 := h.kept hg
  have hss : Y.grownBy (Y.setCell ⟨kb, i, none⟩ (.slice (some ⟨g, 0, none⟩) n n)) (some kb) := grown_setCell _ _ _
  have hne : ∀ {b : Nat} {cs : Array Value} {t : TypeId}, Y.heap[b]? = some (.cells cs t (0, 0)) → t ≠ 30 → b ≠ kb := fun {b cs t} h2 h3 e => by
    have h4 := h1.out
    unfold ValAt at h4
    rw [e, h4] at h2
    simp only [Option.some.injEq, Obj.cells.injEq] at h2
    exact h3 h2.2.1.symm
  have hgp : P.heap.size ≤ g := Nat.le_trans h.grown.size hn
  refine ⟨grown_new h1.grown hss h1.lo.2.1, (hss.block bx (Array.getElem?_eq_some_iff.1 h1.box).1 (by have := hne h1.box (by decide); simpa using this)).trans h1.box, ?_, fun s hs => ?_, fun s s' hs hs' e => ?_, h1.lo.1, h1.lo.2.1, fun s hs => ?_⟩
  · refine (h1.out.set i _).ext fun s _ => ?_
    unfold put
    by_cases e : s = i
    · subst e
      rw [if_pos rfl, if_pos (Nat.lt_succ_self _), updL_same]
    · rw [if_neg e, updL_other _ _ e]
      show (if s < i then Value.slice (some ⟨rb s, 0, none⟩) n n else Value.slice none 0 0) = _
      by_cases e2 : s < i
      · rw [if_pos e2, if_pos (by omega)]
      · rw [if_neg e2, if_neg (by omega)]
  · by_cases e : s = i
    · subst e
      rw [updL_same]
      exact hv.at hss (hne hv (by decide))
    · rw [updL_other _ _ e]
      exact (h1.val s (by omega)).at hss (hne (h1.val s (by omega)) (by decide))
  · by_cases e1 : s = i
    · by_cases e2 : s' = i
      · rw [e1, e2]
      · rw [e1, updL_same, updL_other _ _ e2] at e
        have := (h.val s' (by omega)).lt
        omega
    · by_cases e2 : s' = i
      · rw [e2, updL_same, updL_other _ _ e1] at e
        have := (h.val s (by omega)).lt
        omega
      · rw [updL_other _ _ e1, updL_other _ _ e2] at e
        exact h.inj s s' (by omega) (by omega) e
  · by_cases e : s = i
    · subst e; rw [updL_same]; exact hgp
    · rw [updL_other _ _ e]; exact h.lo.2.2 s (by omega)
theorem LmP.done (h : LmP P X bx kb N n N rb) : LbP P X bx kb N n (fun _ => []) rb (fun _ => none) (fun _ => 0) :=
  ⟨h.grown, h.box, h.out.ext fun s hs => by rw [if_pos hs], fun s hs => h.val s hs, fun _ _ => World.ownsRow_nil _ _ _ _, fun _ _ _ _ _ => .inl rfl, h.inj, h.lo⟩
end
/-- A row of another type grows. -/
theorem LbP.row {P X Y : World} {bx kb N n : Nat} {Q : Nat → List Int} {rb : Nat → Nat} {ua : Nat → Option Addr} {uc : Nat → Nat} (h : LbP P X bx kb N n Q rb ua uc) {B m : Nat} {v : Value} {xs : List Value} (ho : X.ownsRow B 40 3 v m xs) (hB : P.heap.size ≤ B) (hg : X.grownBy Y v.ownBlock) : LbP P Y bx kb N n Q rb ua uc :=
  ⟨grown_owned h.grown ho hB hg, box_row h.box ho (by decide) hg, box_row h.out ho (by decide) hg, fun s hs => box_row (h.val s hs) ho (by decide) hg, fun k hk => (h.own k hk).kept hg (owns_ne (h.own k hk) ho (by decide)), h.sep, h.inj, h.lo⟩

/-- The completed productions of a state, those below j. -/
def bkJ (Q : Nat → List Int) (n s : Nat) : Nat → List (Nat × Nat)
  | 0 => []
  | j + 1 => bkJ Q n s j ++ (if Q (s * n + j) = [] then [] else [(s, j)])
/-- .. of the states below i. -/
def bkI (Q : Nat → List Int) (n : Nat) : Nat → List (Nat × Nat)
  | 0 => []
  | i + 1 => bkI Q n i ++ bkJ Q n i n
/-- Their cells. -/
def bkV (n : Nat) (Q : Nat → List Int) (ua : Nat → Option Addr) (uc : Nat → Nat) (l : List (Nat × Nat)) : List Value := l.flatMap fun x => [.int .i64 (x.1 : Int), .int .i64 (x.2 : Int), .slice (ua (x.1 * n + x.2)) (Q (x.1 * n + x.2)).length (uc (x.1 * n + x.2))]
theorem bkV_snoc (n : Nat) (Q : Nat → List Int) (ua : Nat → Option Addr) (uc : Nat → Nat) (l : List (Nat × Nat)) (s j : Nat) : bkV n Q ua uc (l ++ [(s, j)]) = bkV n Q ua uc l ++ [.int .i64 (s : Int), .int .i64 (j : Int), .slice (ua (s * n + j)) (Q (s * n + j)).length (uc (s * n + j))] := by
  unfold bkV
  rw [List.flatMap_append]
  rfl
theorem bkJ_len (Q : Nat → List Int) (n s : Nat) : ∀ j, (bkJ Q n s j).length ≤ j
  | 0 => Nat.le_refl _
  | j + 1 => by
    have := bkJ_len Q n s j
    rw [bkJ, List.length_append]
    split
    · simp; omega
    · simp; omega
theorem bkI_len (Q : Nat → List Int) (n : Nat) : ∀ i, (bkI Q n i).length ≤ i * n
  | 0 => Nat.zero_le _
  | i + 1 => by
    have h1 := bkI_len Q n i
    have h2 := bkJ_len Q n i n
    rw [bkI, List.length_append, Nat.succ_mul]
    omega
/-- What backs tells. -/
def BacksTold (N n : Nat) (Q : Nat → List Int) (w : World) (e : Ending) (y : World) : Prop := ∃ a c bx kb rb ua uc, e = .returned (.slice a (bkI Q n N).length c) ∧ LbP w y bx kb N n Q rb ua uc ∧ y.ownsRow w.heap.size 40 3 (.slice a (bkI Q n N).length c) (bkI Q n N).length (bkV n Q ua uc (bkI Q n N))

section
variable (ta na la pa sa xa l1 m1 : Option Addr) (tc nc lc pc sc xc lc1 mc1 : Nat) (n N T nb : Nat) (st : Int) (w : World) (tn nn ln : Nat)

set_option maxRecDepth 100000 in
set_option maxHeartbeats 4000000 in
theorem ubacks_any (Q : Nat → List Int) (hN : N ≤ 256) (hn : n ≤ 1000)
    (hLB : ∀ X bx kb rb, LbP w X bx kb N n (fun _ => []) rb (fun _ => none) (fun _ => 0) → Calls Tryz.prog 62 #[.agg #[.slice ta tn tc, .slice na nn nc, .slice la ln lc, .int .i64 st, .slice pa n pc, .slice (some ⟨nb, 0, none⟩) nn nn, .slice sa N sc, .slice xa T xc, .slice l1 N lc1, .slice m1 N mc1], .func (.func 63) #[] #[.pointer (some ⟨bx, 0, none⟩)]] X fun e y => e = .returned (.tuple #[]) ∧ ∃ ua uc, LbP w y bx kb N n Q rb ua uc) :
    Calls Tryz.prog 34 #[.agg #[.slice ta tn tc, .slice na nn nc, .slice la ln lc, .int .i64 st, .slice pa n pc, .slice (some ⟨nb, 0, none⟩) nn nn, .slice sa N sc, .slice xa T xc, .slice l1 N lc1, .slice m1 N mc1]] w fun e y => BacksTold N n Q w e y := by
  have HLB := show Hid _ from hLB
  have HX0 : Hid ((w.alloc (.cells #[.slice ta tn tc, .slice na nn nc, .slice la ln lc, .int .i64 st, .slice pa n pc, .slice (some ⟨nb, 0, none⟩) nn nn, .slice sa N sc, .slice xa T xc, .slice l1 N lc1, .slice m1 N mc1] 81)).heap[w.heap.size]? = some (.cells #[.slice ta tn tc, .slice na nn nc, .slice la ln lc, .int .i64 st, .slice pa n pc, .slice (some ⟨nb, 0, none⟩) nn nn, .slice sa N sc, .slice xa T xc, .slice l1 N lc1, .slice m1 N mc1] 81 (0, 0))) := heap_alloc_last w _
  have c6 : (w.alloc (.cells #[.slice ta tn tc, .slice na nn nc, .slice la ln lc, .int .i64 st, .slice pa n pc, .slice (some ⟨nb, 0, none⟩) nn nn, .slice sa N sc, .slice xa T xc, .slice l1 N lc1, .slice m1 N mc1] 81)).cell? ⟨w.heap.size, 6, none⟩ = some (.slice sa N sc) := by rw [cell_of_row _ _ _ _ _ _ HX0.out]; rfl
  obtain ⟨i1, hq1, hu0, hu1, hu2⟩ := info_parts infoIntss
  obtain ⟨i2, hp1, hv0, hv1, hv2⟩ := info_parts infoInts
  obtain ⟨i3, hr1, hw0, hw1, hw2⟩ := info_parts infoBack
  clear hLB
  go_enter Tryz.func34, Tryz.ntmps34
  go_wp2_with (at_make; refine wpList_make_full _ rfl _ _ 119 rfl w.heap.size 30 i1 (.slice none 0 0) 1 Tryz.underlying119 hq1 hu0 hu1 .i64 .i64 _ _ N rfl rfl (by omega) (by omega) (by rw [hu2]; omega) (by unfold maxLen; omega) (by simp) ?_)
  intro W1 hown hgrow
  have hval : ValAt W1 (w.heap.size + 1) N 30 (fun _ => .slice none 0 0) := made_rowK (B := w.heap.size) rfl (by simpa [Value.cells] using hown)
  have hg1 : w.grownBy W1 none := grown_trans (World.grownBy_alloc _ _ none) hgrow
  have hgb : W1.grownBy (W1.alloc (.cells #[.slice (some ⟨w.heap.size + 1, 0, none⟩) N N] 119)) none := World.grownBy_alloc _ _ none
  have HB1 : Hid ((W1.alloc (.cells #[.slice (some ⟨w.heap.size + 1, 0, none⟩) N N] 119)).heap[w.heap.size]? = some (.cells #[.slice ta tn tc, .slice na nn nc, .slice la ln lc, .int .i64 st, .slice pa n pc, .slice (some ⟨nb, 0, none⟩) nn nn, .slice sa N sc, .slice xa T xc, .slice l1 N lc1, .slice m1 N mc1] 81 (0, 0))) := box_kept (box_kept HX0.out hgrow) hgb
  have HLM : Hid (LmP w (W1.alloc (.cells #[.slice (some ⟨w.heap.size + 1, 0, none⟩) N N] 119)) W1.heap.size (w.heap.size + 1) N n 0 (fun _ => 0)) :=
    ⟨grown_trans hg1 hgb, heap_alloc_last W1 _, (hval.kept hgb).ext fun s _ => by rw [if_neg (Nat.not_lt_zero _)], fun s hs => absurd hs (Nat.not_lt_zero _), fun s _ hs => absurd hs (Nat.not_lt_zero _), hg1.size, by omega, fun s hs => absurd hs (Nat.not_lt_zero _)⟩
  clear hown hgrow hval HX0 c6 hg1 hgb
  go_wp2_with fail
  generalize W1.alloc (.cells #[.slice (some ⟨w.heap.size + 1, 0, none⟩) N N] 119) = W2 at HB1 HLM ⊢
  obtain ⟨bx, hbx⟩ : ∃ b, b = W1.heap.size := ⟨_, rfl⟩
  rw [← hbx] at HLM ⊢
  obtain ⟨kb, hkb⟩ : ∃ b, b = w.heap.size + 1 := ⟨_, rfl⟩
  rw [← hkb] at HLM ⊢
  obtain ⟨ab, hab⟩ : ∃ b, b = w.heap.size := ⟨_, rfl⟩
  rw [← hab] at HB1 ⊢
  clear hbx hkb hab
  go_loopg [16] N (fun gk v16 wr => ∃ (i : Nat) (rb : Nat → Nat), i ≤ N ∧ gk = N - i ∧ v16 = .int .i64 i ∧ wr.heap[ab]? = some (.cells #[.slice ta tn tc, .slice na nn nc, .slice la ln lc, .int .i64 st, .slice pa n pc, .slice (some ⟨nb, 0, none⟩) nn nn, .slice sa N sc, .slice xa T xc, .slice l1 N lc1, .slice m1 N mc1] 81 (0, 0)) ∧ LmP w wr bx kb N n i rb)
  case atStart => exact ⟨0, _, Nat.zero_le _, rfl, rfl, HB1.out, HLM.out⟩
  case round =>
    obtain ⟨i, rb, hi, hgi, rfl, hb, hl⟩ := hrel
    have HGI : Hid (gk = N - i) := hgi
    have HB : Hid (wr.heap[ab]? = some (.cells #[.slice ta tn tc, .slice na nn nc, .slice la ln lc, .int .i64 st, .slice pa n pc, .slice (some ⟨nb, 0, none⟩) nn nn, .slice sa N sc, .slice xa T xc, .slice l1 N lc1, .slice m1 N mc1] 81 (0, 0))) := hb
    have HL : Hid (LmP w wr bx kb N n i rb) := hl
    clear hgi hb hl HB1 HLM
    generalize wr = Y at *
    by_cases hlt : i < N
    · have hid : decide (i < N) = true := decide_eq_true hlt
      have hi0 : (0 : Int) ≤ (i : Int) := by omega
      have hi1 : (i : Int) < (N : Int) := by omega
      have b0 : Y.cell? ⟨bx, 0, none⟩ = some (.slice (some ⟨kb, 0, none⟩) N N) := by rw [cell_of_row _ _ _ _ _ _ HL.out.box]; rfl
      have b1 : Y.cell? ⟨ab, 4, none⟩ = some (.slice pa n pc) := (av_cells HB.out).2.2.2.2.1
      have b2 := HL.out.out.cell i hlt
      rw [if_neg (Nat.lt_irrefl _)] at b2
      have b3 := HL.out.out.free i
      have m0 : ∀ o, (Y.alloc o).cell? ⟨bx, 0, none⟩ = some (.slice (some ⟨kb, 0, none⟩) N N) := fun o => (World.grownBy_alloc _ o none).cell b0 (by simp)
      have m1' : ∀ o, (Y.alloc o).cell? ⟨ab, 4, none⟩ = some (.slice pa n pc) := fun o => (World.grownBy_alloc _ o none).cell b1 (by simp)
      have m2 : ∀ o, (Y.alloc o).cell? ⟨kb, i, none⟩ = some (.slice none 0 0) := fun o => (World.grownBy_alloc _ o none).cell b2 (by simp)
      have m3 : ∀ o, (Y.alloc o).frozen? ⟨kb, i, none⟩ = false := fun o => (HL.out.kept (World.grownBy_alloc _ o none)).out.free i
      have hmk : ∀ u : World, (Instr.makeSlice 30 (.int .i64 (n : Int)) (.int .i64 (n : Int))).run Tryz.prog u = .ok (.slice (some ⟨u.heap.size, 0, none⟩) n n) (u.alloc (.cells (madeCells #[.slice none 0 0] n) 24)) := fun u => mk_rows u hp1 hv0 hv1 hv2 hn
      have HST : Hid (LmP w ((Y.alloc (.cells (madeCells #[.slice none 0 0] n) 24)).setCell ⟨kb, i, none⟩ (.slice (some ⟨Y.heap.size, 0, none⟩) n n)) bx kb N n (i + 1) (updL rb i Y.heap.size)) := HL.out.step (World.grownBy_alloc _ _ none) (Nat.le_refl _) (mk_valR (heap_alloc_last Y _))
      have HBS : Hid (((Y.alloc (.cells (madeCells #[.slice none 0 0] n) 24)).setCell ⟨kb, i, none⟩ (.slice (some ⟨Y.heap.size, 0, none⟩) n n)).heap[ab]? = some (.cells #[.slice ta tn tc, .slice na nn nc, .slice la ln lc, .int .i64 st, .slice pa n pc, .slice (some ⟨nb, 0, none⟩) nn nn, .slice sa N sc, .slice xa T xc, .slice l1 N lc1, .slice m1 N mc1] 81 (0, 0))) := by
        have h1 := box_kept HB.out (World.grownBy_alloc Y (.cells (madeCells #[.slice none 0 0] n) 24) none)
        refine ((grown_setCell kb i _).block ab (Array.getElem?_eq_some_iff.1 h1).1 ?_).trans h1
        intro e
        have e2 : ab = kb := by simpa using e
        have h2 := (HL.out.kept (World.grownBy_alloc Y (.cells (madeCells #[.slice none 0 0] n) 24) none)).out
        unfold ValAt at h2
        rw [e2, h2] at h1
        simp only [Option.some.injEq, Obj.cells.injEq] at h1
        exact absurd h1.2.1 (by decide)
      have hiw : IntKind.i64.wrap ((i : Int) + 1) = (i : Int) + 1 := by rw [IntKind.wrap_i64]; omega
      clear HB HL
      go_wp2_with fail
      go_region_law (fail)
      all_goals go_wp2_with fail
      all_goals go_roundg (N - (i + 1))
      all_goals first
        | exact (show ∃ (i' : Nat) (rb' : Nat → Nat), _ from ⟨i + 1, updL rb i Y.heap.size, by omega, rfl, by go_num, box_kept HBS.out (grown_drewN _ _), HST.out.kept (grown_drewN _ _)⟩)
        | (have := HGI.out; omega)
    · have hiN : N = i := by omega
      subst hiN
      have hid : decide (N < N) = false := decide_eq_false (by omega)
      have HLQ : Hid (LbP w Y bx kb N n (fun _ => []) rb (fun _ => none) (fun _ => 0)) := HL.out.done
      obtain ⟨a0, a1, a2, a3, a4, a5, a6, a7, a8, a9⟩ := av_cells HB.out
      clear HB HL
      go_wp2_with fail
      refine Calls.mono (HLB.out _ _ _ _ HLQ.out) ?_
      rintro e w3 ⟨rfl, ua, uc, hl3⟩
      have HL3 : Hid (LbP w w3 bx kb N n Q rb ua uc) := hl3
      have b0 : w3.cell? ⟨bx, 0, none⟩ = some (.slice (some ⟨kb, 0, none⟩) N N) := by rw [cell_of_row _ _ _ _ _ _ hl3.box]; rfl
      clear hl3 HLQ a0 a1 a2 a3 a4 a5 a6 a7 a8 a9 HLB
      go_wp2_with fail
      clear b0
      have hNn : N * n ≤ 256000 := Nat.mul_le_mul hN hn
      go_loopg [5, 33] N (fun gk v5 v33 wr => ∃ (i M : Nat) (a : Option Addr) (c : Nat), i ≤ N ∧ gk = N - i ∧ v33 = .int .i64 i ∧ v5 = .slice a M c ∧ M = (bkI Q n i).length ∧ LbP w wr bx kb N n Q rb ua uc ∧ wr.ownsRow w.heap.size 40 3 (.slice a M c) M (bkV n Q ua uc (bkI Q n i)))
      case atStart => exact ⟨0, 0, none, 0, Nat.zero_le _, rfl, rfl, rfl, rfl, HL3.out, World.ownsRow_nil _ _ _ _⟩
      case round =>
        obtain ⟨i, M, a, c, hi, hgi, rfl, rfl, hM, hl, ho⟩ := hrel
        have HGI : Hid (gk = N - i) := hgi
        have HM := show Hid _ from hM
        have HL : Hid (LbP w wr bx kb N n Q rb ua uc) := hl
        have HO : Hid (wr.ownsRow w.heap.size 40 3 (.slice a M c) M (bkV n Q ua uc (bkI Q n i))) := ho
        clear hgi hM hl ho HL3
        generalize wr = Y at *
        by_cases hlt : i < N
        · have hid : decide (i < N) = true := decide_eq_true hlt
          have hi0 : (0 : Int) ≤ (i : Int) := by omega
          have hi1 : (i : Int) < (N : Int) := by omega
          have d0 := HL.out.out.cell i hlt
          go_wp2_with fail
          clear d0
          go_loopg [5, 40] n (fun gk v5 v40 wr => ∃ (j M : Nat) (a : Option Addr) (c : Nat), j ≤ n ∧ gk = n - j ∧ v40 = .int .i64 j ∧ v5 = .slice a M c ∧ M = (bkI Q n i ++ bkJ Q n i j).length ∧ LbP w wr bx kb N n Q rb ua uc ∧ wr.ownsRow w.heap.size 40 3 (.slice a M c) M (bkV n Q ua uc (bkI Q n i ++ bkJ Q n i j)))
          case atStart => exact ⟨0, M, a, c, Nat.zero_le _, rfl, rfl, rfl, by rw [bkJ, List.append_nil]; exact HM.out, HL.out, by rw [bkJ, List.append_nil]; exact HO.out⟩
          case round =>
            obtain ⟨j, M2, a2, c2, hj, hgj, rfl, rfl, hM2, hl2, ho2⟩ := hrel
            have HGJ : Hid (gk = n - j) := hgj
            have HM2 := show Hid _ from hM2
            have HL2 : Hid (LbP w wr bx kb N n Q rb ua uc) := hl2
            have HO2 : Hid (wr.ownsRow w.heap.size 40 3 (.slice a2 M2 c2) M2 (bkV n Q ua uc (bkI Q n i ++ bkJ Q n i j))) := ho2
            have hMB : M2 ≤ 300000 := by
              have h1 := bkI_len Q n i
              have h2 := bkJ_len Q n i j
              have h3 : i * n ≤ N * n := Nat.mul_le_mul_right n hi
              rw [hM2, List.length_append]
              omega
            clear hgj hM2 hl2 ho2 HL HO
            generalize wr = X at *
            by_cases hltj : j < n
            · have hjd : decide (j < n) = true := decide_eq_true hltj
              have hj0 : (0 : Int) ≤ (j : Int) := by omega
              have hj1 : (j : Int) < (n : Int) := by omega
              have d1 := (HL2.out.val i hlt).cell j hltj
              obtain ⟨f, hf⟩ : ∃ f, f = i * n + j := ⟨_, rfl⟩
              rw [← hf] at d1
              obtain ⟨fa, hfa⟩ : ∃ x, x = ua f := ⟨_, rfl⟩
              obtain ⟨fc, hfc⟩ : ∃ x, x = uc f := ⟨_, rfl⟩
              obtain ⟨qn, hqn⟩ : ∃ x, x = (Q f).length := ⟨_, rfl⟩
              rw [← hfa, ← hfc, ← hqn] at d1
              have hjw : IntKind.i64.wrap ((j : Int) + 1) = (j : Int) + 1 := by rw [IntKind.wrap_i64]; omega
              by_cases hq0 : qn = 0
              · have hQE : Q f = [] := List.length_eq_zero_iff.1 (by rw [← hqn]; exact hq0)
                have HJ : Hid (bkJ Q n i (j + 1) = bkJ Q n i j) := by
                  show _ = _
                  rw [bkJ, ← hf, if_pos hQE, List.append_nil]
                have hqd : decide (0 < qn) = false := decide_eq_false (by omega)
                clear hf hfa hfc hqn hq0 hQE
                go_wp2_with fail
                go_roundg (n - (j + 1))
                all_goals first
                  | exact (show ∃ (j' M' : Nat) (a' : Option Addr) (c' : Nat), _ from ⟨j + 1, M2, a2, c2, by omega, rfl, by go_num, rfl, by rw [HJ.out]; exact HM2.out, HL2.out, by rw [HJ.out]; exact HO2.out⟩)
                  | (have := HGJ.out; omega)
              · have hQE : Q f ≠ [] := fun h => hq0 (by rw [hqn, h]; rfl)
                have HJ : Hid (bkJ Q n i (j + 1) = bkJ Q n i j ++ [(i, j)]) := by
                  show _ = _
                  rw [bkJ, ← hf, if_neg hQE]
                have HV : Hid (bkV n Q ua uc (bkI Q n i ++ bkJ Q n i (j + 1)) = bkV n Q ua uc (bkI Q n i ++ bkJ Q n i j) ++ [.int .i64 (i : Int), .int .i64 (j : Int), .slice fa qn fc]) := by
                  show _ = _
                  rw [HJ.out, ← List.append_assoc, bkV_snoc, ← hf, ← hfa, ← hfc, ← hqn]
                have hqd : decide (0 < qn) = true := decide_eq_true (by omega)
                have HOA : Hid (∀ o, (X.alloc o).ownsRow w.heap.size 40 3 (.slice a2 M2 c2) M2 (bkV n Q ua uc (bkI Q n i ++ bkJ Q n i j))) := fun o => HO2.out.alloc _
                have HLA : Hid (∀ o, LbP w (X.alloc o) bx kb N n Q rb ua uc) := fun o => HL2.out.kept (World.grownBy_alloc _ _ none)
                have hsz := HL2.out.grown.size
                clear hf hfa hfc hqn hq0 hQE
                obtain ⟨xs, hxs⟩ : ∃ xs, xs = bkV n Q ua uc (bkI Q n i ++ bkJ Q n i j) := ⟨_, rfl⟩
                have HXS := show Hid _ from hxs
                rw [← hxs] at HOA HV
                clear hxs
                go_wp2_with (at_builtin; refine wpList_append_lies _ rfl (.tmp 48) (.tmp 53) 34 rfl w.heap.size 40 i3 (.agg #[.int .i64 0, .int .i64 0, .slice none 0 0]) 3 40 Tryz.underlying34 hr1 hw0 hw1 hw2 rfl (by decide) (.slice a2 M2 c2) M2 xs rfl (HOA.out _) ⟨X.heap.size, 0, none⟩ 1 1 [.int .i64 (i : Int), .int .i64 (j : Int), .slice fa qn fc] rfl rfl (World.news_of_block (heap_alloc_last X _)) (by simp [Value.oneCell']) (by decide) (by unfold maxLen; omega) (by omega) (by simp; omega) _ rfl ?_)
                intro g7 c7 V hoV hgV _ _
                have HOV : Hid (V.ownsRow w.heap.size 40 3 (.slice (some ⟨g7, 0, none⟩) (M2 + 1) c7) (M2 + 1) (bkV n Q ua uc (bkI Q n i ++ bkJ Q n i (j + 1)))) := by
                  rw [HV.out]; exact hoV
                have HLV : Hid (LbP w V bx kb N n Q rb ua uc) := (HLA.out _).row (HOA.out _) (Nat.le_refl _) hgV
                have HMV : Hid (M2 + 1 = (bkI Q n i ++ bkJ Q n i (j + 1)).length) := by
                  show _ = _
                  rw [HJ.out, ← List.append_assoc, List.length_append, ← HM2.out]; rfl
                clear hoV hgV d1
                go_wp2_with fail
                go_roundg (n - (j + 1))
                all_goals first
                  | exact (show ∃ (j' M' : Nat) (a' : Option Addr) (c' : Nat), _ from ⟨j + 1, M2 + 1, some ⟨g7, 0, none⟩, c7, by omega, rfl, by go_num, rfl, HMV.out, HLV.out, HOV.out⟩)
                  | (have := HGJ.out; omega)
            · have hjn : n = j := by omega
              have hjd : decide (j < n) = false := decide_eq_false hltj
              have hiw : IntKind.i64.wrap ((i : Int) + 1) = (i : Int) + 1 := by rw [IntKind.wrap_i64]; omega
              have HJ : Hid (bkI Q n (i + 1) = bkI Q n i ++ bkJ Q n i j) := by
                show _ = _
                rw [bkI, ← hjn]
              clear hjn
              go_wp2_with fail
              go_roundg (N - (i + 1))
              all_goals first
                | exact (show ∃ (i' M' : Nat) (a' : Option Addr) (c' : Nat), _ from ⟨i + 1, M2, a2, c2, by omega, rfl, by go_num, rfl, by rw [HJ.out]; exact HM2.out, HL2.out, by rw [HJ.out]; exact HO2.out⟩)
                | (have := HGI.out; omega)
        · have hiN : N = i := by omega
          subst hiN
          have hid : decide (N < N) = false := decide_eq_false (by omega)
          go_wp2_with fail
          go_ret
          exact ⟨a, c, bx, kb, rb, ua, uc, by rw [← HM.out]; rfl, HL.out, by rw [← HM.out]; exact HO.out⟩
end

end Go.Proofs.YthoamlahbnphkaaGreat.J

/-
  relate: Reads, Includes, Lookback, whatever automatonOf tells.
-/
namespace Go.Proofs.YthoamlahbnphkaaGreat.J
open Go.RowKit Go.Maps Go.Shelf

attribute [local go_sem] Oper.semAt_some

/-- What Reads and Includes tell. -/
def RelTold (T : Nat) (Q : Nat → List Int) (w : World) (e : Ending) (y : World) : Prop := ∃ P kb bx ua uc, w.grownBy P none ∧ e = .returned (.tuple #[.slice (some ⟨kb, 0, none⟩) T T, .int .i64 0]) ∧ LqP P y bx kb T Q ua uc
/-- What Lookback tells. -/
def BkTold (N n : Nat) (Q : Nat → List Int) (w : World) (e : Ending) (y : World) : Prop := ∃ P a c bx kb rb ua uc, w.grownBy P none ∧ e = .returned (.tuple #[.slice a (bkI Q n N).length c, .int .i64 0]) ∧ LbP P y bx kb N n Q rb ua uc ∧ y.ownsRow P.heap.size 40 3 (.slice a (bkI Q n N).length c) (bkI Q n N).length (bkV n Q ua uc (bkI Q n N))

section
variable (ta na la pa : Option Addr) (tc nc lc pc : Nat) (n : Nat) (st : Int) (w : World) (tn nn ln : Nat)

set_option maxRecDepth 100000 in
set_option maxHeartbeats 1000000 in
theorem ureads_bad (err : Int) (herr : err = 1 ∨ err = 11) (hOf : ∀ X, w.grownBy X none → Calls Tryz.prog 30 #[.agg #[.slice ta tn tc, .slice na nn nc, .slice la ln lc, .int .i64 st, .slice pa n pc]] X fun e y => e = .returned (.tuple #[.agg #[.slice none 0 0, .slice none 0 0, .slice none 0 0, .int .i64 0, .slice none 0 0, .slice none 0 0, .slice none 0 0, .slice none 0 0, .slice none 0 0, .slice none 0 0], .int .i64 err]) ∧ X.grownBy y none) : Calls Tryz.prog 12 #[.agg #[.slice ta tn tc, .slice na nn nc, .slice la ln lc, .int .i64 st, .slice pa n pc]] w fun e y => e = .returned (.tuple #[.slice none 0 0, .int .i64 err]) ∧ w.grownBy y none := by
  have HOF := show Hid _ from hOf
  have HG0 : Hid (w.grownBy (w.alloc (.cells #[.slice ta tn tc, .slice na nn nc, .slice la ln lc, .int .i64 st, .slice pa n pc] 27)) none) := World.grownBy_alloc _ _ none
  have hex : (err != 0) = true := by rcases herr with h | h <;> rw [h] <;> decide
  clear hOf herr
  go_enter Tryz.func12, Tryz.ntmps12
  go_wp2_with fail
  refine Calls.mono (HOF.out _ HG0.out) ?_
  rintro e w1 ⟨rfl, hg1⟩
  have HG1 : Hid (∀ o, w.grownBy (w1.alloc o) none) := fun o => grown_trans HG0.out (grown_trans hg1 (World.grownBy_alloc _ _ none))
  clear hg1
  go_wp2_with fail
  go_ret2
  exact ⟨rfl, HG1.out _⟩

set_option maxRecDepth 100000 in
set_option maxHeartbeats 1000000 in
theorem ureads_ok (ks : List (List It)) (es : List (List (Nat × Nat))) (tl : List It) (F : Nat → Bool) (hK : RlOK ks.length tl.length (tn + nn) tn nn ks es tl)
    (hOf : ∀ X, w.grownBy X none → Calls Tryz.prog 30 #[.agg #[.slice ta tn tc, .slice na nn nc, .slice la ln lc, .int .i64 st, .slice pa n pc]] X fun e y => UofTold ta na la pa tc nc lc pc n st tn nn ln ks es tl F X e y) : Calls Tryz.prog 12 #[.agg #[.slice ta tn tc, .slice na nn nc, .slice la ln lc, .int .i64 st, .slice pa n pc]] w fun e y => RelTold tl.length (foldQ (fun _ => []) (rdT es tl tn F tl.length)) w e y := by
  have HOF := show Hid _ from hOf
  have HG0 : Hid (w.grownBy (w.alloc (.cells #[.slice ta tn tc, .slice na nn nc, .slice la ln lc, .int .i64 st, .slice pa n pc] 27)) none) := World.grownBy_alloc _ _ none
  have HK := show Hid _ from hK
  clear hOf hK
  go_enter Tryz.func12, Tryz.ntmps12
  go_wp2_with fail
  refine Calls.mono (HOF.out _ HG0.out) ?_
  rintro e w1 ⟨nb, sa, xa, l1, m1, sc, xc, lc1, mc1, kv, ev, lb, mb, rfl, hR, hg1⟩
  obtain ⟨N, hN⟩ : ∃ N, N = ks.length := ⟨_, rfl⟩
  obtain ⟨T, hT⟩ : ∃ T, T = tl.length := ⟨_, rfl⟩
  rw [← hN, ← hT] at hR HK ⊢
  have HN := show Hid _ from hN
  have HT := show Hid _ from hT
  clear hN hT
  obtain ⟨W, hW⟩ : ∃ W, W = w1.alloc (.cells #[.slice ta tn tc, .slice na nn nc, .slice la ln lc, .int .i64 st, .slice pa n pc, .slice (some ⟨nb, 0, none⟩) nn nn, .slice sa N sc, .slice xa T xc, .slice l1 N lc1, .slice m1 N mc1] 81) := ⟨_, rfl⟩
  have hgW : w1.grownBy W none := by rw [hW]; exact World.grownBy_alloc _ _ none
  have hbW : W.heap[w1.heap.size]? = some (.cells #[.slice ta tn tc, .slice na nn nc, .slice la ln lc, .int .i64 st, .slice pa n pc, .slice (some ⟨nb, 0, none⟩) nn nn, .slice sa N sc, .slice xa T xc, .slice l1 N lc1, .slice m1 N mc1] 81 (0, 0)) := by rw [hW]; exact heap_alloc_last w1 _
  have HGW : Hid (w.grownBy W none) := grown_trans HG0.out (grown_trans hg1 hgW)
  have HRW : Hid (RaAt (w.alloc (.cells #[.slice ta tn tc, .slice na nn nc, .slice la ln lc, .int .i64 st, .slice pa n pc] 27)).heap.size W nb nn (tn + nn) (.slice sa N sc) (.slice xa T xc) (.slice l1 N lc1) (.slice m1 N mc1) ks es kv ev tl F lb mb) := hR.kept hgW
  have HCL : Hid (Calls Tryz.prog 31 #[.agg #[.slice ta tn tc, .slice na nn nc, .slice la ln lc, .int .i64 st, .slice pa n pc, .slice (some ⟨nb, 0, none⟩) nn nn, .slice sa N sc, .slice xa T xc, .slice l1 N lc1, .slice m1 N mc1], .func (.func 32) #[.agg #[.slice ta tn tc, .slice na nn nc, .slice la ln lc, .int .i64 st, .slice pa n pc, .slice (some ⟨nb, 0, none⟩) nn nn, .slice sa N sc, .slice xa T xc, .slice l1 N lc1, .slice m1 N mc1]] #[]] W fun e y => ListsTold T (foldQ (fun _ => []) (rdT es tl tn F T)) W e y) :=
    ulists_rd ta na la pa sa xa l1 m1 tc nc lc pc sc xc lc1 mc1 n N T nb st W tn nn ln _ HK.out.t40 fun X bx kb hl => uread_any ta na la pa sa xa l1 m1 tc nc lc pc sc xc lc1 mc1 n N T nb st X tn nn ln W _ (tn + nn) bx kb ks es kv ev tl F lb mb HK.out HRW.out (fun _ => []) (fun _ => Nat.zero_le _) ⟨_, _, hl⟩
  obtain ⟨a0, a1, a2, a3, a4, a5, a6, a7, a8, a9⟩ := av_cells hbW
  rw [hW] at a0 a1 a2 a3 a4 a5 a6 a7 a8 a9
  have HWE := show Hid _ from hW
  clear hR hgW hbW hg1 hW HOF HG0
  go_wp2_with fail
  rw [← HWE.out]
  refine Calls.mono HCL.out ?_
  rintro e y ⟨kb, bx, ua, uc, rfl, hL⟩
  have HL := show Hid _ from hL
  clear hL HCL HRW  a0 a1 a2 a3 a4 a5 a6 a7 a8 a9
  go_wp2_with fail
  go_ret2
  have e1 := HT.out
  subst e1
  exact ⟨W, kb, bx, ua, uc, HGW.out, rfl, HL.out⟩

set_option maxRecDepth 100000 in
set_option maxHeartbeats 1000000 in
theorem uincludes_bad (err : Int) (herr : err = 1 ∨ err = 11) (hOf : ∀ X, w.grownBy X none → Calls Tryz.prog 30 #[.agg #[.slice ta tn tc, .slice na nn nc, .slice la ln lc, .int .i64 st, .slice pa n pc]] X fun e y => e = .returned (.tuple #[.agg #[.slice none 0 0, .slice none 0 0, .slice none 0 0, .int .i64 0, .slice none 0 0, .slice none 0 0, .slice none 0 0, .slice none 0 0, .slice none 0 0, .slice none 0 0], .int .i64 err]) ∧ X.grownBy y none) : Calls Tryz.prog 13 #[.agg #[.slice ta tn tc, .slice na nn nc, .slice la ln lc, .int .i64 st, .slice pa n pc]] w fun e y => e = .returned (.tuple #[.slice none 0 0, .int .i64 err]) ∧ w.grownBy y none := by
  have HOF := show Hid _ from hOf
  have HG0 : Hid (w.grownBy (w.alloc (.cells #[.slice ta tn tc, .slice na nn nc, .slice la ln lc, .int .i64 st, .slice pa n pc] 27)) none) := World.grownBy_alloc _ _ none
  have hex : (err != 0) = true := by rcases herr with h | h <;> rw [h] <;> decide
  clear hOf herr
  go_enter Tryz.func13, Tryz.ntmps13
  go_wp2_with fail
  refine Calls.mono (HOF.out _ HG0.out) ?_
  rintro e w1 ⟨rfl, hg1⟩
  have HG1 : Hid (∀ o, w.grownBy (w1.alloc o) none) := fun o => grown_trans HG0.out (grown_trans hg1 (World.grownBy_alloc _ _ none))
  clear hg1
  go_wp2_with fail
  go_ret2
  exact ⟨rfl, HG1.out _⟩

set_option maxRecDepth 100000 in
set_option maxHeartbeats 1000000 in
theorem uincludes_ok (ks : List (List It)) (es : List (List (Nat × Nat))) (tl : List It) (F : Nat → Bool) (L : Nat → Int) (R : Nat → List Int) (ra : Nat → Option Addr) (rc : Nat → Nat) (V : Nat → Int) (hK : RlOK ks.length tl.length (tn + nn) tn nn ks es tl) (hPr : ProdsAt w pa n L R ra rc V) (hn : n ≤ 1000) (hrow : RowsOK n tl.length (tn + nn) tl L R)
    (hOf : ∀ X, w.grownBy X none → Calls Tryz.prog 30 #[.agg #[.slice ta tn tc, .slice na nn nc, .slice la ln lc, .int .i64 st, .slice pa n pc]] X fun e y => UofTold ta na la pa tc nc lc pc n st tn nn ln ks es tl F X e y) : Calls Tryz.prog 13 #[.agg #[.slice ta tn tc, .slice na nn nc, .slice la ln lc, .int .i64 st, .slice pa n pc]] w fun e y => RelTold tl.length (foldQ (fun _ => []) (inT es tl tn F n L R tl.length)) w e y := by
  have HOF := show Hid _ from hOf
  have HG0 : Hid (w.grownBy (w.alloc (.cells #[.slice ta tn tc, .slice na nn nc, .slice la ln lc, .int .i64 st, .slice pa n pc] 27)) none) := World.grownBy_alloc _ _ none
  have HPR : Hid (∀ X, w.grownBy X none → ProdsAt X pa n L R ra rc V) := fun X hX => hPr.kept hX
  have HK := show Hid _ from hK
  have HROW := show Hid _ from hrow
  clear hOf hPr hK hrow
  go_enter Tryz.func13, Tryz.ntmps13
  go_wp2_with fail
  refine Calls.mono (HOF.out _ HG0.out) ?_
  rintro e w1 ⟨nb, sa, xa, l1, m1, sc, xc, lc1, mc1, kv, ev, lb, mb, rfl, hR, hg1⟩
  obtain ⟨N, hN⟩ : ∃ N, N = ks.length := ⟨_, rfl⟩
  obtain ⟨T, hT⟩ : ∃ T, T = tl.length := ⟨_, rfl⟩
  rw [← hN, ← hT] at hR HK ⊢
  rw [← hT] at HROW
  have HN := show Hid _ from hN
  have HT := show Hid _ from hT
  clear hN hT
  obtain ⟨W, hW⟩ : ∃ W, W = w1.alloc (.cells #[.slice ta tn tc, .slice na nn nc, .slice la ln lc, .int .i64 st, .slice pa n pc, .slice (some ⟨nb, 0, none⟩) nn nn, .slice sa N sc, .slice xa T xc, .slice l1 N lc1, .slice m1 N mc1] 81) := ⟨_, rfl⟩
  have hgW : w1.grownBy W none := by rw [hW]; exact World.grownBy_alloc _ _ none
  have hbW : W.heap[w1.heap.size]? = some (.cells #[.slice ta tn tc, .slice na nn nc, .slice la ln lc, .int .i64 st, .slice pa n pc, .slice (some ⟨nb, 0, none⟩) nn nn, .slice sa N sc, .slice xa T xc, .slice l1 N lc1, .slice m1 N mc1] 81 (0, 0)) := by rw [hW]; exact heap_alloc_last w1 _
  have HGW : Hid (w.grownBy W none) := grown_trans HG0.out (grown_trans hg1 hgW)
  have HRW : Hid (RaAt (w.alloc (.cells #[.slice ta tn tc, .slice na nn nc, .slice la ln lc, .int .i64 st, .slice pa n pc] 27)).heap.size W nb nn (tn + nn) (.slice sa N sc) (.slice xa T xc) (.slice l1 N lc1) (.slice m1 N mc1) ks es kv ev tl F lb mb) := hR.kept hgW
  have HPW : Hid (ProdsAt W pa n L R ra rc V) := HPR.out W HGW.out
  have HCL : Hid (Calls Tryz.prog 31 #[.agg #[.slice ta tn tc, .slice na nn nc, .slice la ln lc, .int .i64 st, .slice pa n pc, .slice (some ⟨nb, 0, none⟩) nn nn, .slice sa N sc, .slice xa T xc, .slice l1 N lc1, .slice m1 N mc1], .func (.func 33) #[.agg #[.slice ta tn tc, .slice na nn nc, .slice la ln lc, .int .i64 st, .slice pa n pc, .slice (some ⟨nb, 0, none⟩) nn nn, .slice sa N sc, .slice xa T xc, .slice l1 N lc1, .slice m1 N mc1]] #[]] W fun e y => ListsTold T (foldQ (fun _ => []) (inT es tl tn F n L R T)) W e y) :=
    ulists_inc ta na la pa sa xa l1 m1 tc nc lc pc sc xc lc1 mc1 n N T nb st W tn nn ln _ HK.out.t40 fun X bx kb hl => uinc_any ta na la pa sa xa l1 m1 tc nc lc pc sc xc lc1 mc1 n N T nb st X tn nn ln W _ (tn + nn) bx kb ks es kv ev tl F lb mb L R ra rc V HK.out HRW.out HPW.out hn HROW.out ⟨_, _, hl⟩
  obtain ⟨a0, a1, a2, a3, a4, a5, a6, a7, a8, a9⟩ := av_cells hbW
  rw [hW] at a0 a1 a2 a3 a4 a5 a6 a7 a8 a9
  have HWE := show Hid _ from hW
  clear hR hgW hbW hg1 hW HPR HOF HG0
  go_wp2_with fail
  rw [← HWE.out]
  refine Calls.mono HCL.out ?_
  rintro e y ⟨kb, bx, ua, uc, rfl, hL⟩
  have HL := show Hid _ from hL
  clear hL HCL HRW HPW a0 a1 a2 a3 a4 a5 a6 a7 a8 a9
  go_wp2_with fail
  go_ret2
  have e1 := HT.out
  subst e1
  exact ⟨W, kb, bx, ua, uc, HGW.out, rfl, HL.out⟩

set_option maxRecDepth 100000 in
set_option maxHeartbeats 1000000 in
theorem ulookback_bad (err : Int) (herr : err = 1 ∨ err = 11) (hOf : ∀ X, w.grownBy X none → Calls Tryz.prog 30 #[.agg #[.slice ta tn tc, .slice na nn nc, .slice la ln lc, .int .i64 st, .slice pa n pc]] X fun e y => e = .returned (.tuple #[.agg #[.slice none 0 0, .slice none 0 0, .slice none 0 0, .int .i64 0, .slice none 0 0, .slice none 0 0, .slice none 0 0, .slice none 0 0, .slice none 0 0, .slice none 0 0], .int .i64 err]) ∧ X.grownBy y none) : Calls Tryz.prog 14 #[.agg #[.slice ta tn tc, .slice na nn nc, .slice la ln lc, .int .i64 st, .slice pa n pc]] w fun e y => e = .returned (.tuple #[.slice none 0 0, .int .i64 err]) ∧ w.grownBy y none := by
  have HOF := show Hid _ from hOf
  have HG0 : Hid (w.grownBy (w.alloc (.cells #[.slice ta tn tc, .slice na nn nc, .slice la ln lc, .int .i64 st, .slice pa n pc] 27)) none) := World.grownBy_alloc _ _ none
  have hex : (err != 0) = true := by rcases herr with h | h <;> rw [h] <;> decide
  clear hOf herr
  go_enter Tryz.func14, Tryz.ntmps14
  go_wp2_with fail
  refine Calls.mono (HOF.out _ HG0.out) ?_
  rintro e w1 ⟨rfl, hg1⟩
  have HG1 : Hid (∀ o, w.grownBy (w1.alloc o) none) := fun o => grown_trans HG0.out (grown_trans hg1 (World.grownBy_alloc _ _ none))
  clear hg1
  go_wp2_with fail
  go_ret2
  exact ⟨rfl, HG1.out _⟩

set_option maxRecDepth 100000 in
set_option maxHeartbeats 1000000 in
theorem ulookback_ok (ks : List (List It)) (es : List (List (Nat × Nat))) (tl : List It) (F : Nat → Bool) (L : Nat → Int) (R : Nat → List Int) (ra : Nat → Option Addr) (rc : Nat → Nat) (V : Nat → Int) (hK : RlOK ks.length tl.length (tn + nn) tn nn ks es tl) (hPr : ProdsAt w pa n L R ra rc V) (hn : n ≤ 1000) (hrow : RowsOK n tl.length (tn + nn) tl L R)
    (hOf : ∀ X, w.grownBy X none → Calls Tryz.prog 30 #[.agg #[.slice ta tn tc, .slice na nn nc, .slice la ln lc, .int .i64 st, .slice pa n pc]] X fun e y => UofTold ta na la pa tc nc lc pc n st tn nn ln ks es tl F X e y) : Calls Tryz.prog 14 #[.agg #[.slice ta tn tc, .slice na nn nc, .slice la ln lc, .int .i64 st, .slice pa n pc]] w fun e y => BkTold ks.length n (foldA (lbT es tl n L R tl.length)) w e y := by
  have HOF := show Hid _ from hOf
  have HG0 : Hid (w.grownBy (w.alloc (.cells #[.slice ta tn tc, .slice na nn nc, .slice la ln lc, .int .i64 st, .slice pa n pc] 27)) none) := World.grownBy_alloc _ _ none
  have HPR : Hid (∀ X, w.grownBy X none → ProdsAt X pa n L R ra rc V) := fun X hX => hPr.kept hX
  have HK := show Hid _ from hK
  have HROW := show Hid _ from hrow
  clear hOf hPr hK hrow
  go_enter Tryz.func14, Tryz.ntmps14
  go_wp2_with fail
  refine Calls.mono (HOF.out _ HG0.out) ?_
  rintro e w1 ⟨nb, sa, xa, l1, m1, sc, xc, lc1, mc1, kv, ev, lb, mb, rfl, hR, hg1⟩
  obtain ⟨N, hN⟩ : ∃ N, N = ks.length := ⟨_, rfl⟩
  obtain ⟨T, hT⟩ : ∃ T, T = tl.length := ⟨_, rfl⟩
  rw [← hN, ← hT] at hR HK ⊢
  rw [← hT] at HROW
  have HN := show Hid _ from hN
  have HT := show Hid _ from hT
  clear hN hT
  obtain ⟨W, hW⟩ : ∃ W, W = w1.alloc (.cells #[.slice ta tn tc, .slice na nn nc, .slice la ln lc, .int .i64 st, .slice pa n pc, .slice (some ⟨nb, 0, none⟩) nn nn, .slice sa N sc, .slice xa T xc, .slice l1 N lc1, .slice m1 N mc1] 81) := ⟨_, rfl⟩
  have hgW : w1.grownBy W none := by rw [hW]; exact World.grownBy_alloc _ _ none
  have hbW : W.heap[w1.heap.size]? = some (.cells #[.slice ta tn tc, .slice na nn nc, .slice la ln lc, .int .i64 st, .slice pa n pc, .slice (some ⟨nb, 0, none⟩) nn nn, .slice sa N sc, .slice xa T xc, .slice l1 N lc1, .slice m1 N mc1] 81 (0, 0)) := by rw [hW]; exact heap_alloc_last w1 _
  have HGW : Hid (w.grownBy W none) := grown_trans HG0.out (grown_trans hg1 hgW)
  have HRW : Hid (RaAt (w.alloc (.cells #[.slice ta tn tc, .slice na nn nc, .slice la ln lc, .int .i64 st, .slice pa n pc] 27)).heap.size W nb nn (tn + nn) (.slice sa N sc) (.slice xa T xc) (.slice l1 N lc1) (.slice m1 N mc1) ks es kv ev tl F lb mb) := hR.kept hgW
  have HPW : Hid (ProdsAt W pa n L R ra rc V) := HPR.out W HGW.out
  have HCL : Hid (Calls Tryz.prog 34 #[.agg #[.slice ta tn tc, .slice na nn nc, .slice la ln lc, .int .i64 st, .slice pa n pc, .slice (some ⟨nb, 0, none⟩) nn nn, .slice sa N sc, .slice xa T xc, .slice l1 N lc1, .slice m1 N mc1]] W fun e y => BacksTold N n (foldA (lbT es tl n L R T)) W e y) :=
    ubacks_any ta na la pa sa xa l1 m1 tc nc lc pc sc xc lc1 mc1 n N T nb st W tn nn ln _ HK.out.n256 hn fun X bx kb rb hl => ulb_any ta na la pa sa xa l1 m1 tc nc lc pc sc xc lc1 mc1 n N T nb st X tn nn ln W _ (tn + nn) bx kb ks es kv ev tl F lb mb L R ra rc V HK.out HRW.out HPW.out hn HROW.out rb ⟨_, _, hl⟩
  obtain ⟨a0, a1, a2, a3, a4, a5, a6, a7, a8, a9⟩ := av_cells hbW
  rw [hW] at a0 a1 a2 a3 a4 a5 a6 a7 a8 a9
  have HWE := show Hid _ from hW
  clear hR hgW hbW hg1 hW HPR HOF HG0
  go_wp2_with fail
  rw [← HWE.out]
  refine Calls.mono HCL.out ?_
  rintro e y ⟨a, c, bx, kb, rb, ua, uc, rfl, hL, ho⟩
  have HL := show Hid _ from hL
  have HO := show Hid _ from ho
  clear hL ho HCL HRW HPW a0 a1 a2 a3 a4 a5 a6 a7 a8 a9
  go_wp2_with fail
  go_ret2
  have e1 := HT.out
  subst e1
  have e2 := HN.out
  subst e2
  exact ⟨W, a, c, bx, kb, rb, ua, uc, HGW.out, rfl, HL.out, HO.out⟩
end

end Go.Proofs.YthoamlahbnphkaaGreat.J

/-
  relate: the rows that are gone over are short.
-/
namespace Go.Proofs.YthoamlahbnphkaaGreat.J
open Go.RowKit Go.Maps Go.Shelf

/-- No dot of a kernel stands further than its state's number. -/
def PD (n : Nat) (R : Nat → List Int) (j : Nat) (k : List It) : Prop := PJ n R j k ∧ ∀ x ∈ k, x.2 ≤ (j : Int)
theorem CLo_dot {tn n : Nat} {L : Nat → Int} {R : Nat → List Int} {k : List It} {j : Int} (hj : 0 ≤ j) (hk : ∀ x ∈ k, x.2 ≤ j) : ∀ x ∈ CLo tn n L R k, x.2 ≤ j := by
  unfold CLo
  by_cases hh : ∃ l, IsClo tn n L R k l ∧ l.length ≤ k.length + 13000
  · rw [dif_pos hh]
    have h1 := Classical.choose_spec hh
    exact fun x hx => ((h1.1.mem x).1 hx) (fun y => y.2 ≤ j) hk (fun y m _ _ _ _ => hj)
  · rw [dif_neg hh]
    exact fun x hx => absurd hx (by simp)
theorem PD.GG {tn n : Nat} {L : Nat → Int} {R : Nat → List Int} {i m : Nat} {k : List It} (s : Nat) (h : PD n R i k) (hm : i < m) : PD n R m (GG tn n L R k s) := by
  refine ⟨h.1.GG s hm, fun x hx => ?_⟩
  obtain ⟨y, hy, _, rfl⟩ := mem_GG.1 hx
  have := CLo_dot (by omega) h.2 y hy
  simp only
  omega
theorem dot_le {tn nn n : Nat} {L : Nat → Int} {R : Nat → List Int} (hn0 : 0 < n) {ks : List (List It)} {es : List (List (Nat × Nat))} (h : autoF (GG tn n L R) (tn + nn) 256 = some (ks, es)) {q : Nat} (hq : q < ks.length) : ∀ x ∈ ks.getD q [], x.2 ≤ (q : Int) :=
  ((autoOK (P := PD n R) ⟨⟨fun x hx => by
    rw [List.mem_singleton.1 hx]
    unfold itB
    simp only [Bool.and_eq_true, decide_eq_true_eq]
    exact ⟨⟨⟨by omega, by omega⟩, by omega⟩, by omega⟩, by simp⟩, fun x hx => by rw [List.mem_singleton.1 hx]; exact Int.le_refl _⟩ (fun _ _ _ s hp hm => hp.GG s hm) 256 h).kok.each q hq).2
/-- A production that is begun has a short row. -/
theorem row_short {tn nn n : Nat} {L : Nat → Int} {R : Nat → List Int} {ks : List (List It)} {es : List (List (Nat × Nat))} (hn0 : 0 < n) (hau : autoF (GG tn n L R) (tn + nn) 256 = some (ks, es)) (h : AutF (GG tn n L R) n R (tn + nn) ks es) (hR : ∀ k, k < n → ∀ x ∈ R k, (0 : Int) < x ∧ x < ((tn + nn : Nat) : Int)) (hCl : ∀ q, q < ks.length → IsClo tn n L R (ks.getD q []) (CLo tn n L R (ks.getD q []))) {q P : Nat} (hq : q < ks.length) (hP : P < n) (hx : ((P : Int), (0 : Int)) ∈ CLo tn n L R (ks.getD q [])) : (R P).length ≤ 256 := by
  by_cases e : (R P).length = 0
  · omega
  · obtain ⟨h1, h2, h3⟩ := right_st h hR hCl hq hP hx ((R P).length - 1) (by omega)
    obtain ⟨u, h4, h5, h6⟩ := goes_on h hR h1 hP (by omega) h3
    have h7 := dot_le hn0 hau h4 _ h6
    have h8 := h.kok.le
    simp only at h7
    omega

end Go.Proofs.YthoamlahbnphkaaGreat.J
