import Derived.Test.YtjijagnpcmonbaaDoorRows
import Derived.Test.YtjijagnpcmonbaaDoorQiaindmhbojla
import Derived.Test.YtjijagnpcmonbaaDoorQbknnffblbpmh
import Derived.Test.YtjijagnpcmonbaaDoorQimbahkjdoimb
import Derived.Test.YtjijagnpcmonbaaDoorQboobcegjoggh
import Derived.Lib.LaidTab
import Derived.ProofKit
import Derived.LaidMore
import Derived.OpenShut
import Derived.SizedLaws
import Derived.Stop.Joined
import Derived.MakeChecks
import Derived.Test.YtjijagnpcmonbaaDoorQkfmhdlodinkl
import Derived.Test.YtjijagnpcmonbaaDoorQpjemmihcbhnb
import Derived.Test.YtjijagnpcmonbaaDoorQimlljckliihg
import Derived.Deep.RegionHeld3
import Derived.BigQuiet

/-
  digraph: what the laws' proofs share: the library's table out of the row's condition; raw steps among the arguments.
-/
namespace Go.Proofs.YtjijagnpcmonbaaDoor.J
open Go.ChangeShapes Go.WideShapes Go.ChangeAt Go.RowKit Go.Deep

theorem own : ownKnob Tryd.prog.godebug = none := by kernel_rfl
theorem laidOut : laidOutB Tryd.prog = true := by kernel_rfl
/-- The name of the library's table. -/
def tabName : String := Rows.digraphPartsRow.named.headD ""
theorem gTab : Tryd.prog.globalNamed tabName = some 0 := by kernel_rfl
theorem tTab : (Tryd.prog.globals[0]?).map (·.type) = some 83 := by kernel_rfl
theorem cells5 : Tryd.prog.cellsOf 5 = 1 := by kernel_rfl
theorem cells75 : Tryd.prog.cellsOf 83 = 64 := by kernel_rfl

/-- What the rows list. -/
def laid1 : List (String × DataW Unit) := [(tabName, Rows.laid_math_bits_deBruijn64tab)]

theorem tab_is : (Rows.laid_math_bits_deBruijn64tab : DataW Unit) = Lib.tabData .u8 (Lib.deBruijn64tab.map (fun z : Nat => (z : Int))) := by kernel_rfl

theorem tab_of_laid {W : World} (h : laidMetH Tryd.prog laid1 W) : B.Tab W := by
  rw [MakeChecks.laidMetH_plain _ _ _ (by kernel_rfl)] at h
  unfold laid1 at h
  rw [tab_is] at h
  have ht := Lib.tabIs_of_head gTab tTab Tryd.underlying83 Tryd.underlying5 cells5 cells75 h
  intro j hj
  have hl : j < Lib.deBruijn64tab.length := hj
  have hj' : j < (Lib.deBruijn64tab.map (fun z : Nat => (z : Int))).length := by rw [List.length_map]; exact hl
  have := ht.cell gTab j hj'
  rw [this]
  simp [List.getD, hl]

theorem heap_pos {W : World} (h : B.Tab W) : 0 < W.heap.size := World.block_lt_of_cell? W _ (h 0 (by decide))

theorem int_bounds {n : Int} (h : (Lit.int .i64 n).wf = true) : -9223372036854775808 ≤ n ∧ n ≤ 9223372036854775807 := by
  simp only [Lit.wf, Bool.and_eq_true, decide_eq_true_eq] at h
  exact h
section
variable {H : Type} {enc : TypeId × Value → H} {W : World} {fuel : Nat} {cs : List Value} {x : DataW H × List MemPlace}

end

set_option maxRecDepth 100000 in
theorem open_int {H : Type} {enc : TypeId × Value → H} {W : World} {base : Nat} {v : Value} {d : DataW H} {p : List MemPlace} (hv : Value.okWide Tryd.prog W .any base 3 v) (h : DataW.Trod enc Tryd.prog W 0 (fun _ => true) true 3 v d p) : ∃ z, v = .int .i64 z ∧ (Lit.int .i64 z).wf = true := by
  obtain ⟨z, rfl⟩ := okWide_int Tryd.underlying3 hv
  obtain ⟨fuel, hf⟩ := h
  have hf' : DataW.trod enc Tryd.prog W 0 (fun _ => true) true fuel 3 [.int .i64 z] = some (d, p) := hf
  obtain ⟨z', e, h2⟩ := DataW.trod_int Tryd.underlying3 hf'
  simp only [List.cons.injEq, Value.int.injEq, and_true, true_and] at e
  subst e
  exact ⟨z, rfl, h2.2⟩

end Go.Proofs.YtjijagnpcmonbaaDoor.J

/-
  digraph: lists of numbers among the arguments, opened, with their sizes.
-/
namespace Go.Proofs.YtjijagnpcmonbaaDoor.J
open Go.ChangeShapes Go.WideShapes Go.ChangeAt Go.RowKit Go.Deep

theorem cellsIntL : Tryd.prog.cellsOf 3 = 1 := by kernel_rfl
theorem cellsIntsL : Tryd.prog.cellsOf 28 = 1 := by kernel_rfl

theorem ints_of_openL {W : World} {x : Addr} {len cap : Nat} {zs : List Int} (hl : len ≤ cap) (hz : zs.length = cap) (hc : ∀ i, i < zs.length → W.cell? (x.add i) = some (.int .i64 (zs.getD i 0))) :
    IntsAt W (some x) (zs.take len) := by
  by_cases h0 : len = 0
  · subst h0; exact .inl (by simp)
  · obtain ⟨b, off, spot⟩ := x
    have h1 := hc 0 (by omega)
    have hs : spot = none := by simpa [Addr.add] using World.cell?_spot h1
    subst hs
    refine .inr ⟨b, off, rfl, fun i hi => ?_⟩
    have hi' : i < len := by simp at hi; omega
    have h2 := hc i (by omega)
    rw [Addr.add_mid] at h2
    rw [h2]
    congr 2
    simp [List.getD, hi']

/-- How many numbers the first n lists have. -/
def sumZ (Q : Nat → List Int) : Nat → Nat
  | 0 => 0
  | i + 1 => sumZ Q i + (Q i).length
theorem sumZ_mono (Q : Nat → List Int) {i n : Nat} (h : i ≤ n) : sumZ Q i ≤ sumZ Q n := by
  induction n with
  | zero => have : i = 0 := by omega
            rw [this]; exact Nat.le_refl _
  | succ n ih =>
    by_cases e : i = n + 1
    · rw [e]; exact Nat.le_refl _
    · have := ih (by omega)
      show _ ≤ sumZ Q n + _
      omega
theorem sumZ_one (Q : Nat → List Int) {i n : Nat} (h : i < n) : (Q i).length ≤ sumZ Q n := by
  have h1 := sumZ_mono Q (show i + 1 ≤ n by omega)
  have h2 : sumZ Q (i + 1) = sumZ Q i + (Q i).length := rfl
  omega

section
variable {H : Type} {enc : TypeId × Value → H} {W : World}

theorem bulk_rows {D : Nat → DataW H} {Q : Nat → List Int} : ∀ (n : Nat), (∀ i, i < n → (Q i).length + 1 ≤ Rows.uptoBulk (D i)) → ∀ k, k ≤ n → sumZ Q k + k ≤ Rows.uptoBulkAll ((List.range k).map D)
  | n, h, 0, _ => Nat.zero_le _
  | n, h, k + 1, hk => by
    have ih := bulk_rows n h k (by omega)
    have h1 := h k (by omega)
    rw [List.range_succ, List.map_append]
    have key : ∀ (l r : List (DataW H)), Rows.uptoBulkAll (l ++ r) = Rows.uptoBulkAll l + Rows.uptoBulkAll r := by
      intro l r
      induction l with
      | nil => simp [Rows.uptoBulkAll]
      | cons d l ih2 => simp only [List.cons_append, Rows.uptoBulkAll, ih2]; omega
    rw [key]
    have h2 : Rows.uptoBulkAll (List.map D [k]) = Rows.uptoBulk (D k) := by simp [Rows.uptoBulkAll]
    rw [h2]
    have h3 : sumZ Q (k + 1) = sumZ Q k + (Q k).length := rfl
    omega

set_option maxRecDepth 100000 in
/-- Lists of numbers among the arguments. -/
theorem open_lists {a : Option Addr} {len cap : Nat} {d : DataW H} {p : List MemPlace} (h : DataW.Trod enc Tryd.prog W 0 (fun _ => true) true 22 (.slice a len cap) d p) :
    ∃ (Q : Nat → List Int) (ua : Nat → Option Addr) (uc : Nat → Nat), LwAt W a len Q ua uc ∧ (∀ i, i < len → ua i = none → (Q i).length = 0 ∧ uc i = 0) ∧ sumZ Q len + len ≤ Rows.uptoBulk d := by
  obtain ⟨fuel, hf⟩ := h
  have hf' : DataW.trod enc Tryd.prog W 0 (fun _ => true) true fuel 22 [.slice a len cap] = some (d, p) := by simpa [Value.cells] using hf
  rcases open_slice Tryd.underlying22 hf' with ⟨hcs, _⟩ | ⟨ad, l, c, m, n, D, Pl, hcs, _, hl, hm, hmm, hx, heach⟩
  · simp at hcs
    obtain ⟨rfl, rfl, rfl⟩ := hcs
    exact ⟨fun _ => [], fun _ => none, fun _ => 0, ⟨.inl rfl, fun i hi => absurd hi (Nat.not_lt_zero _)⟩, fun i hi => absurd hi (Nat.not_lt_zero _), Nat.zero_le _⟩
  · simp only [if_true] at hmm
    simp at hcs
    obtain ⟨rfl, rfl, rfl⟩ := hcs
    rw [cellsIntsL] at heach
    have each : ∀ i, i < len → ∃ t : List Int × Option Addr × Nat, ∃ b off, ad = ⟨b, off, none⟩ ∧ W.cell? ⟨b, off + i, none⟩ = some (.slice t.2.1 t.1.length t.2.2) ∧ IntsAt W t.2.1 t.1 ∧ (t.2.1 = none → t.1.length = 0 ∧ t.2.2 = 0) ∧ t.1.length + 1 ≤ Rows.uptoBulk (D i) := by
      intro i hi
      obtain ⟨cs', h1, h2⟩ := heach i (by omega)
      obtain ⟨_, hcl, hcell⟩ := World.cells?_some h1
      have c0 := hcell 0 (by omega)
      rw [Deep.add_add] at c0
      obtain ⟨b, off, spot⟩ := ad
      have hs : spot = none := by
        obtain ⟨cs0, h10, _⟩ := heach 0 (by omega)
        obtain ⟨_, hcl0, hcell0⟩ := World.cells?_some h10
        have q0 := hcell0 0 (by omega)
        rw [List.getElem?_eq_getElem (by omega)] at q0
        simpa [Addr.add] using World.cell?_spot q0
      subst hs
      rw [add_plain] at c0
      match cs', hcl with
      | [v0], _ =>
        rcases open_ints Tryd.underlying28 Tryd.underlying3 cellsIntL h2 with ⟨hcs2, _⟩ | ⟨y, l2, c2, zs, hcs2, _, hl2, hm2, hz2, hx2, hcell2, hwz⟩
        · simp at hcs2
          subst hcs2
          refine ⟨([], none, 0), b, off, rfl, by simpa using c0, .inl rfl, fun _ => ⟨rfl, rfl⟩, bulk_one _⟩
        · simp at hcs2
          subst hcs2
          have hz' : zs.length = c2 := by simpa using hz2
          have hlt : (zs.take l2).length = l2 := by simp; omega
          have hbk := ints_bulk (x := (D i, Pl i)) (a := some y) (len := l2) (cap := c2) h2
          refine ⟨(zs.take l2, some y, c2), b, off, rfl, ?_, ints_of_openL hl2 hz' hcell2, fun h => (by cases h), ?_⟩
          · show W.cell? _ = some (.slice (some y) (zs.take l2).length c2)
            rw [hlt]; simpa using c0
          · show (zs.take l2).length + 1 ≤ _
            have h5 := open_ints Tryd.underlying28 Tryd.underlying3 cellsIntL h2
            rw [hlt]
            simp only [Prod.mk.injEq] at hx2
            rw [hx2.1]
            have := bulk_slice (lits (H := H) .i64 (zs.take l2)) (lits (H := H) .i64 (zs.drop l2))
            simp only [lits, List.length_map, List.length_take] at this
            simp only [lits]
            omega
    obtain ⟨S, hS⟩ := choose_lt (α := List Int × Option Addr × Nat) each
    refine ⟨fun i => (S i).1, fun i => (S i).2.1, fun i => (S i).2.2, ⟨?_, fun i hi => ?_⟩, fun i hi => ?_, ?_⟩
    · by_cases h0 : len = 0
      · exact .inl h0
      · obtain ⟨b, off, rfl, _⟩ := hS 0 (by omega)
        refine .inr ⟨b, off, rfl, fun i hi => ?_⟩
        obtain ⟨b', off', e, r1, _⟩ := hS i hi
        simp only [Addr.mk.injEq, and_true] at e
        obtain ⟨rfl, rfl⟩ := e
        exact r1
    · obtain ⟨_, _, _, _, r2, _⟩ := hS i hi
      exact r2
    · obtain ⟨_, _, _, _, _, r3, _⟩ := hS i hi
      exact r3
    · have h1 := bulk_rows (D := D) (Q := fun i => (S i).1) len (fun i hi => by
        obtain ⟨_, _, _, _, _, _, r4⟩ := hS i hi
        exact r4) len (Nat.le_refl _)
      simp only [Prod.mk.injEq] at hx
      rw [hx.1]
      unfold Rows.uptoBulk
      omega
end

end Go.Proofs.YtjijagnpcmonbaaDoor.J

/-
  digraph: the law DigraphParts, walked.
-/
namespace Go.Proofs.YtjijagnpcmonbaaDoor.J
open Go.RowKit Go.Maps Go.Shelf D

attribute [local go_sem] Oper.semAt_some

/-- Lists that were told, or none. -/
def CmpOut (K : Nat) (P : Nat → List Nat) (ec : Int) (X : World) (e : Ending) (y : World) : Prop := ∃ (ka : Option Addr) (kc : Nat) (ua : Nat → Option Addr) (uc : Nat → Nat), e = .returned (.tuple #[.slice ka K kc, .int .i64 ec]) ∧ CqP y X.heap.size ka kc K P ua uc ∧ X.grownBy y none
theorem CmpOut.none (ec : Int) (X y : World) (hg : X.grownBy y Option.none) : CmpOut 0 (fun _ => []) ec X (.returned (.tuple #[.slice Option.none 0 0, .int .i64 ec])) y := ⟨Option.none, 0, fun _ => Option.none, fun _ => 0, rfl, CqP.nil _ _ _ _ _, hg⟩

end Go.Proofs.YtjijagnpcmonbaaDoor.J

/-
  digraph: the law DigraphSolves, walked.
-/
namespace Go.Proofs.YtjijagnpcmonbaaDoor.J
open Go.RowKit Go.Maps Go.Shelf D

attribute [local go_sem] Oper.semAt_some

/-- Lists of which one is spoilt: the others are as they were; what lies below y stays. -/
structure SkC (y X : World) (hi lk K k : Nat) (P : Nat → List Nat) (ua : Nat → Option Addr) (uc : Nat → Nat) (cur : Array Value) : Prop where
  grown : y.grownBy X none
  ob : X.heap[lk]? = some (.cells cur 28 (0, 0))
  oc : ∀ j, j ≠ k → j < K → cur[j]? = some (.slice (ua j) (P j).length (uc j))
  rows : ∀ j, j ≠ k → j < K → X.ownsRow y.heap.size 3 1 (.slice (ua j) (P j).length (uc j)) (P j).length (natV (P j))
  sep : ∀ j, j ≠ k → j < K → (Value.slice (ua j) (P j).length (uc j)).ownBlock = none ∨ (Value.slice (ua j) (P j).length (uc j)).ownBlock ≠ (Value.slice (ua k) (P k).length (uc k)).ownBlock
  lo : y.heap.size ≤ lk ∧ lk < hi
section
variable {y X Y : World} {hi lk K k : Nat} {P : Nat → List Nat} {ua : Nat → Option Addr} {uc : Nat → Nat} {cur : Array Value}
theorem SkC.kept (h : SkC y X hi lk K k P ua uc cur) (hg : X.grownBy Y none) : SkC y Y hi lk K k P ua uc cur :=
  ⟨grown_trans h.grown hg, box_kept h.ob hg, h.oc, fun j h1 h2 => keep0 (h.rows j h1 h2) hg, h.sep, h.lo⟩
theorem SkC.cell {j : Nat} (h : SkC y X hi lk K k P ua uc cur) (h1 : j ≠ k) (h2 : j < K) : X.cell? ⟨lk, j, none⟩ = some (.slice (ua j) (P j).length (uc j)) := by
  rw [cell_of_row _ _ _ _ _ _ h.ob]; exact h.oc j h1 h2
theorem SkC.free (h : SkC y X hi lk K k P ua uc cur) (o : Nat) : X.frozen? ⟨lk, o, none⟩ = false := frozen_of_row _ _ _ _ _ h.ob
/-- The spoilt list's block is turned. -/
theorem SkC.turn {g : Nat} {cs : Array Value} (h : SkC y X hi lk K k P ua uc cur) (hv : (Value.slice (ua k) (P k).length (uc k)).ownBlock = some g) (hg : X.grownBy Y (some g)) (hb : X.heap[g]? = some (.cells cs 3 (0, 0))) (hB : y.heap.size ≤ g) : SkC y Y hi lk K k P ua uc cur :=
  ⟨grown_new h.grown hg hB, spoil_other h.ob hb (by decide) hg, h.oc, fun j a1 a2 => (h.rows j a1 a2).kept hg (by
    rcases h.sep j a1 a2 with h1 | h1
    · exact .inl h1
    · rw [hv] at h1; exact .inr h1), h.sep, h.lo⟩
theorem SkC.more {n : Nat} {xs : List Value} (h : SkC y X hi lk K k P ua uc cur) (ho : X.ownsRow y.heap.size 3 1 (.slice (ua k) (P k).length (uc k)) n xs) (hg : X.grownBy Y (Value.slice (ua k) (P k).length (uc k)).ownBlock) : SkC y Y hi lk K k P ua uc cur := by
  rcases ho.2 with ⟨h1, _⟩ | ⟨g, cap, c2, h1, hB, hh, _⟩
  · rw [h1] at hg
    exact h.kept hg
  · have hv : (Value.slice (ua k) (P k).length (uc k)).ownBlock = some g := by rw [h1]; rfl
    rw [hv] at hg
    exact h.turn hv hg hh hB
theorem SkC.set {u : Value} (h : SkC y X hi lk K k P ua uc cur) : SkC y (X.setCell ⟨lk, k, none⟩ u) hi lk K k P ua uc (cur.setIfInBounds k u) := by
  have g1 : X.grownBy (X.setCell ⟨lk, k, none⟩ u) (some lk) := grown_setCell _ _ _
  refine ⟨grown_new h.grown g1 h.lo.1, heap_setCell_same _ _ _ _ _ _ h.ob, fun j a1 a2 => ?_, fun j a1 a2 => (h.rows j a1 a2).kept g1 ?_, h.sep, h.lo⟩
  · rw [Array.getElem?_setIfInBounds_ne (fun e2 => a1 e2.symm)]
    exact h.oc j a1 a2
  · rcases (h.rows j a1 a2).2 with ⟨h1, _⟩ | ⟨g, cap, c2, h1, hB, hh, _⟩
    · rw [h1]; exact .inl rfl
    · refine .inr fun e => ?_
      rw [h1] at e
      have e2 : g = lk := by simpa [Value.ownBlock] using e
      subst e2
      rw [h.ob] at hh
      have e3 : (28 : TypeId) = 3 := by
        have := Option.some.inj hh
        simp only [Obj.cells.injEq] at this
        exact this.2.1
      exact absurd e3 (by decide)
theorem CqP.sk {kc : Nat} (h : CqP X y.heap.size (some ⟨lk, 0, none⟩) kc K P ua uc) (hk : k < K) (hg : y.grownBy X none) : (∃ cur, SkC y X X.heap.size lk K k P ua uc cur ∧ cur[k]? = some (.slice (ua k) (P k).length (uc k))) ∧ Like1 X y.heap.size (.slice (ua k) (P k).length (uc k)) (P k).length ∧ ∀ g, (Value.slice (ua k) (P k).length (uc k)).ownBlock = some g → g < X.heap.size := by
  obtain ⟨cur, hs⟩ := h.sp hg
  exact ⟨⟨cur, ⟨hs.grown, hs.ob, fun j _ hj => hs.oc j trivial hj, fun j _ hj => h.inn j hj, fun j h1 hj => h.sep j k hj hk h1, hs.lo⟩, hs.oc k trivial hk⟩, hs.rows k trivial hk, hs.hi k trivial hk⟩
end

set_option maxRecDepth 100000 in
set_option maxHeartbeats 8000000 in
theorem solvesL_any (w : World) (N : Nat) (a : Option Addr) (c : Nat) (Qe : Nat → List Int) (va : Nat → Option Addr) (vc : Nat → Nat) (hL : LwAt w a N Qe va vc) (hnil : ∀ i, i < N → va i = none → (Qe i).length = 0 ∧ vc i = 0) (hN : N ≤ 1048576) (hQ : ∀ i, i < N → (Qe i).length ≤ 17592186044416)
    (M : Nat) (oa : Option Addr) (oc : Nat) (own : Nat → List Int) (xa : Nat → Option Addr) (xc : Nat → Nat) (hO : LwAt w oa M own xa xc) (honil : ∀ i, i < M → xa i = none → (own i).length = 0 ∧ xc i = 0) (hM : M ≤ 1048576) (hol : ∀ i, i < M → (own i).length ≤ 17592186044416)
    (at_ : Int) (hat : -9223372036854775808 ≤ at_ ∧ at_ ≤ 9223372036854775807)
    (K : Nat) (P : Nat → List Nat) (ec : Int) (hK : K ≤ 1048576) (hP : ∀ j, j < K → (P j).length ≤ 1048576)
    (hCI : ∀ X la lc ua uc ma mc ub ud, w.grownBy X none → LsAt X la N Qe ua uc → LsAt X ma M own ub ud → Calls Tryd.prog 10 #[.slice la N lc, .slice ma M mc] X fun e y => CmpOut K P ec X e y)
    (hRC : ∀ X, w.grownBy X none → Calls Tryd.prog 11 #[.slice a N c, .slice oa M oc] X fun e y => CmpOut K P ec X e y)
    (hT : B.Tab w) (h0 : 0 < w.heap.size) :
    Calls Tryd.prog 4 #[.slice a N c, .slice oa M oc, .int .i64 at_] w fun e w' => e = .returned (.bool true) ∧ w.grownBy w' none := by
  have HCI := hidW hCI
  have HRC := hidW hRC
  have HAW : Hid (∀ X, w.grownBy X none → Calls Tryd.prog 9 #[] X fun e w' => e = .returned (.bool true) ∧ X.grownBy w' none) := fun X hX => dawake_any X (tab_kept hT hX) (Nat.lt_of_lt_of_le h0 hX.size)
  have HLE := show Hid _ from dlent_w w N a c Qe va vc hL hnil (by omega) hQ
  have HLO : Hid (∀ X, w.grownBy X none → Calls Tryd.prog 5 #[.slice oa M oc] X fun e y => LentTold X M own e y) := fun X hX => dlent_w X M oa oc own xa xc (hO.kept hX) honil (by omega) hol
  have HPL := hidW hP
  have HPK : Hid (∀ (X : World) (n : Nat), n ≤ 1048576 → 0 < n → Calls Tryd.prog 12 #[.int .i64 at_, .int .i64 (n : Int)] X fun e w' => e = .returned (.int .i64 ((pickN at_ n : Nat) : Int)) ∧ w' = X) := by
    intro X n h1 h2
    have h3 : n ≤ 1048577 := by omega
    exact dpick_any at_ hat.1 hat.2 n h2 h3 X
  have HSL : Hid (∀ X a1 c1 a2 c2 u1 k1 u2 k2, LwAt X a1 K (fun j => intL (P j)) u1 k1 → LwAt X a2 K (fun j => intL (P j)) u2 k2 → Calls Tryd.prog 8 #[.slice a1 K c1, .slice a2 K c2] X fun e y => e = .returned (.bool true) ∧ X.grownBy y none) := fun X a1 c1 a2 c2 u1 k1 u2 k2 g1 g2 => lists_w a1 a2 c1 c2 K _ u1 u2 k1 k2 X g1 g2 hK (fun i hi => by rw [intL_length]; have := hP i hi; omega)
  have HSE : Hid (∀ X a1 c1 u1 k1, w.grownBy X none → LwAt X a1 N Qe u1 k1 → Calls Tryd.prog 8 #[.slice a1 N c1, .slice a N c] X fun e y => e = .returned (.bool true) ∧ X.grownBy y none) := fun X a1 c1 u1 k1 hX g1 => lists_w a1 a c1 c N _ u1 va k1 vc X g1 (hL.kept hX) hN hQ
  have HSO : Hid (∀ X a1 c1 u1 k1, w.grownBy X none → LwAt X a1 M own u1 k1 → Calls Tryd.prog 8 #[.slice a1 M c1, .slice oa M oc] X fun e y => e = .returned (.bool true) ∧ X.grownBy y none) := fun X a1 c1 u1 k1 hX g1 => lists_w a1 oa c1 oc M _ u1 xa k1 xc X g1 (hO.kept hX) hM hol
  have hee : (ec != ec) = false := bne_self_eq_false _
  have hee2 : (ec == ec) = true := beq_self_eq_true _
  obtain ⟨i0, hi0, hz0, hz1, hz2⟩ := info_parts infoInt
  clear hCI hRC hL hnil hQ hP hT h0 hO honil hol hat
  go_enter Tryd.func4, Tryd.ntmps4
  go_wp2_with fail
  refine Calls.mono HLE.out ?_
  rintro e wa ⟨la, lc, lua, luc, rfl, hLt, hg1⟩
  have HLA := hidW hLt
  have HGA := hidW hg1
  have HO1 := show Hid _ from HLO.out wa hg1
  clear hLt hg1 HLE HLO
  go_wp2_with fail
  refine Calls.mono HO1.out ?_
  rintro e w1 ⟨ma, mc, mua, muc, rfl, hMt, hg2⟩
  have HG1 := hidW (grown_trans HGA.out hg2)
  have HIN : Hid (∀ X, w1.grownBy X none → LsAt X la N Qe lua luc ∧ LsAt X ma M own mua muc) := fun X hX => ⟨(HLA.out.kept (grown_trans hg2 hX)).ls, (hMt.kept hX).ls⟩
  have HC1 := show Hid _ from HCI.out w1 la lc lua luc ma mc mua muc HG1.out (HIN.out w1 (grown_refl _ _)).1 (HIN.out w1 (grown_refl _ _)).2
  clear hMt hg2 HGA HO1 HLA
  go_wp2_with fail
  refine Calls.mono HC1.out ?_
  rintro e w2 ⟨ka, kc, kua, kuc, rfl, hC2, hg2⟩
  have HG2 := hidW hg2
  have HC2 := hidW hC2
  have HR2 := show Hid _ from HRC.out w2 (grown_trans HG1.out hg2)
  clear hC2 hg2 HC1
  go_wp2_with fail
  refine Calls.mono HR2.out ?_
  rintro e w3 ⟨ra, rc, rua, ruc, rfl, hC3, hg3⟩
  have HG3 : Hid (w1.grownBy w3 none) := grown_trans HG2.out hg3
  have HCR := hidW hC3
  have HC3 := hidW (HC2.out.kept hg3)
  have HG23 := hidW hg3
  have HC4 := show Hid _ from HSL.out w3 ka kc ra rc kua kuc rua ruc (HC3.out.ls.lw) (HCR.out.ls.lw)
  clear hC3 hg3 HR2
  go_wp2_with fail
  refine Calls.mono HC4.out ?_
  rintro e w4 ⟨rfl, hg4⟩
  have HG4 : Hid (w1.grownBy w4 none) := grown_trans HG3.out hg4
  have HCR4 := hidW (HCR.out.kept hg4)
  have HG24 : Hid (w2.grownBy w4 none) := grown_trans HG23.out hg4
  clear hg4 HC4 HC3 HCR HG23
  by_cases hK0 : 0 < K
  · have hKd : decide ((0 : Int) < (K : Int)) = true := decide_eq_true (by omega)
    have hKd2 : decide (0 < K) = true := decide_eq_true hK0
    have HP4 := show Hid _ from HPK.out w4 K hK hK0
    have hkK := pickN_lt at_ hK0
    obtain ⟨k, hk⟩ : ∃ v, v = pickN at_ K := ⟨_, rfl⟩
    rw [← hk] at HP4 hkK
    obtain ⟨lk, lcap, hlk, -⟩ := owns_at HC2.out.out hK0
    simp only [Value.slice.injEq] at hlk
    obtain ⟨rfl, -, rfl⟩ := hlk
    obtain ⟨⟨cur, hs, hck⟩, hlike, hhi⟩ := HC2.out.sk hkK HG2.out
    have HS0 := hidW (hs.kept HG24.out)
    have HL0 := hidW (hlike.sized (.ofG HG24.out))
    have HHI := hidW hhi
    have HCK := hidW hck
    clear hk hs hlike hhi hck
    go_wp2_with fail
    refine Calls.mono HP4.out ?_
    rintro e wP ⟨rfl, hwP⟩
    have hwP' := hwP.symm
    subst hwP'
    clear hwP HP4
    obtain ⟨D, hD⟩ : ∃ d, d = (P k).length := ⟨_, rfl⟩
    have hDb : D ≤ 1048576 := by rw [hD]; exact HPL.out k hkK
    obtain ⟨uk, huk⟩ : ∃ u, u = kua k := ⟨_, rfl⟩
    obtain ⟨ck, hck⟩ : ∃ u, u = kuc k := ⟨_, rfl⟩
    have HVE : Hid ((Value.slice (kua k) (P k).length (kuc k)) = .slice uk D ck) := by show _ = _; rw [hD, huk, hck]
    rw [HVE.out] at HL0 HHI HCK
    rw [← hD] at HL0
    have HKC : Hid (∀ X, SkC w1 X w2.heap.size lk K k P kua kuc cur → X.cell? ⟨lk, k, none⟩ = some (.slice uk D ck)) := fun X h => by
      rw [cell_of_row _ _ _ _ _ _ h.ob]; exact HCK.out
    have hk0 : (0 : Int) ≤ (k : Int) := by omega
    have hk1 : (k : Int) < (K : Int) := by omega
    have c0 := HKC.out _ HS0.out
    clear hD huk hck HCK
    go_wp2_with fail
    go_loopg [14] D (fun gk v14 wr => ∃ j : Nat, j ≤ D ∧ gk = D - j ∧ v14 = .int .i64 j ∧ SkC w1 wr w2.heap.size lk K k P kua kuc cur ∧ Like1 wr w1.heap.size (.slice uk D ck) D ∧ CqP wr w2.heap.size ra rc K P rua ruc)
    case atStart => exact ⟨0, Nat.zero_le _, rfl, rfl, HS0.out, HL0.out, HCR4.out⟩
    case round =>
      clear HS0 HL0 HCR4 c0
      obtain ⟨j, hj, hgj, rfl, hS, hlk, hR⟩ := hrel
      have HGJ : Hid (gk = D - j) := hgj
      have HS := hidW hS
      have HR := hidW hR
      have c0 := HKC.out _ hS
      clear hgj hS hR
      by_cases hjt : j < D
      · have hjd : decide (j < D) = true := decide_eq_true hjt
        have hj0 : (0 : Int) ≤ (j : Int) := by omega
        have hj1 : (j : Int) < (D : Int) := by omega
        have HLL := hidW hlk
        obtain ⟨g, c', u0, gcur, he, hBg, e0, ef, hblk⟩ := hlk.at hjt
        simp only [Value.slice.injEq] at he
        obtain ⟨rfl, _, rfl⟩ := he
        have HN2 : Hid (SkC w1 (wr.setCell ⟨g, j, none⟩ (.int .i64 (-1))) w2.heap.size lk K k P kua kuc cur) := HS.out.turn (by rw [HVE.out]; rfl) (grown_setCell _ _ _) hblk hBg
        have HR2 : Hid (CqP (wr.setCell ⟨g, j, none⟩ (.int .i64 (-1))) w2.heap.size ra rc K P rua ruc) := HR.out.below (grown_setCell _ _ _) (HHI.out g rfl)
        have HL2 : Hid (Like1 (wr.setCell ⟨g, j, none⟩ (.int .i64 (-1))) w1.heap.size (.slice (some ⟨g, 0, none⟩) D ck) D) := HLL.out.sized (.set _ _ _ _)
        clear hlk hBg hblk HLL
        go_wp2_with fail
        go_roundg (D - (j + 1))
        all_goals first
          | exact (show ∃ (j' : Nat), _ from ⟨j + 1, by omega, rfl, by go_num, HN2.out, HL2.out, HR2.out⟩)
          | (have := HGJ.out; omega)
      · have hjD : D = j := by omega
        subst hjD
        have hjd : decide (D < D) = false := decide_eq_false (by omega)
        obtain ⟨xs, hxs⟩ := hlk
        have HXS := hidW hxs
        have HSZ : Hid (w1.heap.size ≤ (wr.alloc (.cells #[.int .i64 (-2), .int .i64 (-2), .int .i64 (-2)] 3)).heap.size) := (HS.out.kept (World.grownBy_alloc wr (.cells #[.int .i64 (-2), .int .i64 (-2), .int .i64 (-2)] 3) none)).grown.size
        have c1 : ∀ o, (wr.alloc o).cell? ⟨lk, k, none⟩ = some (.slice uk D ck) := fun o => (World.grownBy_alloc _ o none).cell c0 (by simp)
        clear hxs
        go_wp2_with (
          at_builtin
          refine wpList_append_like _ rfl (.tmp 68) (.tmp 69) 28 rfl w1.heap.size 3 i0 (.int .i64 0) 1 8 Tryd.underlying28 hi0 hz0 hz1 hz2 rfl (by decide) (.slice uk D ck) D xs rfl (keep0 HXS.out (World.grownBy_alloc wr (.cells #[.int .i64 (-2), .int .i64 (-2), .int .i64 (-2)] 3) none)) ⟨wr.heap.size, 0, none⟩ 3 3 [.int .i64 (-2), .int .i64 (-2), .int .i64 (-2)] rfl rfl (World.news_of_block (heap_alloc_last wr _)) (by simp [Value.oneCell']) (by unfold maxLen; omega) (by omega) HSZ.out ?_
          intro a9 c9 wC hgC hsC
          have HVS := hidW ((HS.out.kept (World.grownBy_alloc wr (.cells #[.int .i64 (-2), .int .i64 (-2), .int .i64 (-2)] 3) none)).more (by rw [HVE.out]; exact keep0 HXS.out (World.grownBy_alloc wr (.cells #[.int .i64 (-2), .int .i64 (-2), .int .i64 (-2)] 3) none)) (by rw [HVE.out]; exact hgC))
          have f0 := HKC.out _ HVS.out
          have f1 := HVS.out.free k
          have HN3 := hidW (HVS.out.set (u := .slice a9 (D + 3) c9))
          have HR3 : Hid (CqP (wC.setCell ⟨lk, k, none⟩ (.slice a9 (D + 3) c9)) w2.heap.size ra rc K P rua ruc) := ((HR.out.kept (World.grownBy_alloc wr (.cells #[.int .i64 (-2), .int .i64 (-2), .int .i64 (-2)] 3) none)).low hgC HHI.out).below (grown_setCell _ _ _) HVS.out.lo.2
          clear hgC hsC)
        obtain ⟨cur2, hcur2⟩ : ∃ v, v = cur.setIfInBounds k (.slice a9 (D + 3) c9) := ⟨_, rfl⟩
        rw [← hcur2] at HN3
        obtain ⟨wD, hwD⟩ : ∃ v, v = wC.setCell ⟨lk, k, none⟩ (.slice a9 (D + 3) c9) := ⟨_, rfl⟩
        rw [← hwD] at HN3 HR3
        rw [← hwD]
        clear hcur2 hwD f0 f1 HVS c0 c1
        go_loopg [15] K (fun gk v15 wr => ∃ i : Nat, i ≤ K ∧ gk = K - i ∧ v15 = .int .i64 i ∧ SkC w1 wr w2.heap.size lk K k P kua kuc cur2 ∧ CqP wr w2.heap.size ra rc K P rua ruc)
        case atStart => exact ⟨0, Nat.zero_le _, rfl, rfl, HN3.out, HR3.out⟩
        case round =>
          clear HN3 HR3
          obtain ⟨i, hi, hgk, rfl, hS, hR⟩ := hrel
          have HGK : Hid (gk = K - i) := hgk
          have HS := hidW hS
          have HR := hidW hR
          clear hgk hS hR
          by_cases hlt : i < K
          · have hid : decide (i < K) = true := decide_eq_true hlt
            have hi0' : (0 : Int) ≤ (i : Int) := by omega
            have hi1' : (i : Int) < (K : Int) := by omega
            by_cases hik : i = k
            · subst hik
              have hnn : ((i : Int) != (i : Int)) = false := bne_self_eq_false _
              go_wp2_with fail
              go_quiet (fail)
              go_wp2_with fail
              go_roundg (K - (i + 1))
              all_goals first
                | exact (show ∃ (i' : Nat), _ from ⟨i + 1, by omega, rfl, by go_num, HS.out.kept (grown_drewN _ _), HR.out.kept (grown_drewN _ _)⟩)
                | (have := HGK.out; omega)
            · have hnn : ((i : Int) != (k : Int)) = true := by rw [bne_iff_ne]; omega
              have c1 := HS.out.cell hik hlt
              obtain ⟨rk, rcap, hrk, hrc⟩ := owns_at HR.out.out hK0
              simp only [Value.slice.injEq] at hrk
              obtain ⟨rfl, -, rfl⟩ := hrk
              have c2 := hrc i _ (rowsC_at P rua ruc hlt)
              have e0 : natV (P i) = (intL (P i)).map (Value.int .i64) := by unfold intL natV; rw [List.map_map]; rfl
              have hI1 : IntsAt wr (kua i) (intL (P i)) := owned_ints (by rw [← e0]; exact HS.out.rows i hik hlt) (by rw [intL_length])
              have hI2 : IntsAt wr (rua i) (intL (P i)) := owned_ints (by rw [← e0]; exact HR.out.inn i hlt) (by rw [intL_length])
              have HIS : Hid (∀ X, wr.grownBy X none → Calls Tryd.prog 13 #[.slice (kua i) (P i).length (kuc i), .slice (rua i) (P i).length (ruc i)] X fun e y => e = .returned (.bool true) ∧ X.grownBy y none) := fun X hX => by
                have h1 := ints_same (kua i) (rua i) (kuc i) (ruc i) (intL (P i)) X (hI1.kept hX) (hI2.kept hX) (by rw [intL_length]; have := HPL.out i hlt; omega)
                rw [intL_length] at h1
                exact h1
              obtain ⟨pn, hpn⟩ : ∃ v, v = (P i).length := ⟨_, rfl⟩
              obtain ⟨p1, hp1⟩ : ∃ v, v = kua i := ⟨_, rfl⟩
              obtain ⟨p2, hp2⟩ : ∃ v, v = kuc i := ⟨_, rfl⟩
              obtain ⟨p3, hp3⟩ : ∃ v, v = rua i := ⟨_, rfl⟩
              obtain ⟨p4, hp4⟩ : ∃ v, v = ruc i := ⟨_, rfl⟩
              rw [← hpn, ← hp1, ← hp2] at c1
              rw [← hpn, ← hp3, ← hp4] at c2
              rw [← hpn, ← hp1, ← hp2, ← hp3, ← hp4] at HIS
              clear hrc e0 hI1 hI2 hpn hp1 hp2 hp3 hp4
              go_wp2_with fail
              have HUP : Hid (wr.grownBy wr.drew none) := grown_drewN wr 1
              have HKS : Hid (∀ X, wr.grownBy X none → X.cell? ⟨lk, i, none⟩ = some (.slice p1 pn p2) ∧ X.cell? ⟨rk, i, none⟩ = some (.slice p3 pn p4)) := fun X hX => ⟨hX.cell c1 (by simp), hX.cell c2 (by simp)⟩
              go_region_held3 (fun X => X.cell? ⟨lk, i, none⟩ = some (.slice p1 pn p2) ∧ X.cell? ⟨rk, i, none⟩ = some (.slice p3 pn p4)) (first | exact HKS.out _ HUP.out | exact HKS.out _ HGI.out | go_keep)
                ((first
                  | (go_at_call 13; refine Calls.mono (HIS.out _ HUP.out) ?_; rintro e w5 ⟨rfl, hg5⟩; have HGI : Hid (wr.grownBy w5 none) := grown_trans HUP.out hg5; clear hg5)
                  | fail))
              have HSN := hidW (HS.out.kept HGI.out)
              have HRN := hidW (HR.out.kept HGI.out)
              clear c1 c2 HIS
              go_wp2_with fail
              go_roundg (K - (i + 1))
              all_goals first
                | exact (show ∃ (i' : Nat), _ from ⟨i + 1, by omega, rfl, by go_num, HSN.out, HRN.out⟩)
                | (have := HGK.out; omega)
          · have hin : K = i := by omega
            subst hin
            have hid : decide (K < K) = false := decide_eq_false (by omega)
            have HG := hidW HS.out.grown
            clear hlt HGK
            have HC6 := show Hid _ from HCI.out wr la lc lua luc ma mc mua muc (grown_trans HG1.out HG.out) (HIN.out wr HG.out).1 (HIN.out wr HG.out).2
            go_wp2_with fail
            refine Calls.mono HC6.out ?_
            rintro e w5 ⟨ka2, kc2, kua2, kuc2, rfl, hC6, hg6⟩
            have HG5 : Hid (w1.grownBy w5 none) := grown_trans HG.out hg6
            have HC7 := show Hid _ from HSL.out w5 ka2 kc2 ra rc kua2 kuc2 rua ruc (hC6.ls.lw) ((HR.out.kept hg6).ls.lw)
            clear hC6 hg6 HC6
            go_wp2_with fail
            refine Calls.mono HC7.out ?_
            rintro e w6 ⟨rfl, hg7⟩
            have HG6 : Hid (w1.grownBy w6 none) := grown_trans HG5.out hg7
            have HC8 := show Hid _ from HSE.out w6 la lc lua luc (grown_trans HG1.out HG6.out) ((HIN.out w6 HG6.out).1.lw)
            clear hg7 HC7 HG5
            go_wp2_with fail
            refine Calls.mono HC8.out ?_
            rintro e w7 ⟨rfl, hg8⟩
            have HG7 : Hid (w1.grownBy w7 none) := grown_trans HG6.out hg8
            have HC9 := show Hid _ from HSO.out w7 ma mc mua muc (grown_trans HG1.out HG7.out) ((HIN.out w7 HG7.out).2.lw)
            clear hg8 HC8 HG6
            go_wp2_with fail
            refine Calls.mono HC9.out ?_
            rintro e w8 ⟨rfl, hg9⟩
            have HG8 : Hid (w.grownBy w8 none) := grown_trans HG1.out (grown_trans HG7.out hg9)
            have HA8 := show Hid _ from HAW.out w8 HG8.out
            clear hg9 HC9 HG7
            go_wp2_with fail
            refine Calls.mono HA8.out ?_
            rintro e w9 ⟨rfl, hgA⟩
            have HG9 : Hid (w.grownBy w9 none) := grown_trans HG8.out hgA
            clear hgA HA8
            go_wp2_with fail
            go_ret
            exact ⟨rfl, HG9.out⟩
  · have hK00 : K = 0 := by omega
    subst hK00
    have hKd : decide ((0 : Int) < ((0 : Nat) : Int)) = false := rfl
    have hKd2 : decide (0 < 0) = false := rfl
    have HG := HG4
    have HR := HCR4
    clear hK0 HG4 HCR4 HC2 HG2 HG24
    go_wp2_with fail
    have HC6 := show Hid _ from HCI.out w4 la lc lua luc ma mc mua muc (grown_trans HG1.out HG.out) (HIN.out w4 HG.out).1 (HIN.out w4 HG.out).2
    go_wp2_with fail
    refine Calls.mono HC6.out ?_
    rintro e w5 ⟨ka2, kc2, kua2, kuc2, rfl, hC6, hg6⟩
    have HG5 : Hid (w1.grownBy w5 none) := grown_trans HG.out hg6
    have HC7 := show Hid _ from HSL.out w5 ka2 kc2 ra rc kua2 kuc2 rua ruc (hC6.ls.lw) ((HR.out.kept hg6).ls.lw)
    clear hC6 hg6 HC6
    go_wp2_with fail
    refine Calls.mono HC7.out ?_
    rintro e w6 ⟨rfl, hg7⟩
    have HG6 : Hid (w1.grownBy w6 none) := grown_trans HG5.out hg7
    have HC8 := show Hid _ from HSE.out w6 la lc lua luc (grown_trans HG1.out HG6.out) ((HIN.out w6 HG6.out).1.lw)
    clear hg7 HC7 HG5
    go_wp2_with fail
    refine Calls.mono HC8.out ?_
    rintro e w7 ⟨rfl, hg8⟩
    have HG7 : Hid (w1.grownBy w7 none) := grown_trans HG6.out hg8
    have HC9 := show Hid _ from HSO.out w7 ma mc mua muc (grown_trans HG1.out HG7.out) ((HIN.out w7 HG7.out).2.lw)
    clear hg8 HC8 HG6
    go_wp2_with fail
    refine Calls.mono HC9.out ?_
    rintro e w8 ⟨rfl, hg9⟩
    have HG8 : Hid (w.grownBy w8 none) := grown_trans HG1.out (grown_trans HG7.out hg9)
    have HA8 := show Hid _ from HAW.out w8 HG8.out
    clear hg9 HC9 HG7
    go_wp2_with fail
    refine Calls.mono HA8.out ?_
    rintro e w9 ⟨rfl, hgA⟩
    have HG9 : Hid (w.grownBy w9 none) := grown_trans HG8.out hgA
    clear hgA HA8
    go_wp2_with fail
    go_ret
    exact ⟨rfl, HG9.out⟩

end Go.Proofs.YtjijagnpcmonbaaDoor.J

/-
  digraph: DigraphParts: its core, of any lists.
-/
namespace Go.Proofs.YtjijagnpcmonbaaDoor.J
open Go.RowKit Go.Maps Go.Shelf D

theorem LwAt.ext {X : World} {a : Option Addr} {N : Nat} {Q Q' : Nat → List Int} {ua : Nat → Option Addr} {uc : Nat → Nat} (h : LwAt X a N Q ua uc) (e : ∀ i, i < N → Q i = Q' i) : LwAt X a N Q' ua uc :=
  ⟨h.1.imp id fun ⟨k, o, e1, h1⟩ => ⟨k, o, e1, fun i hi => by rw [← e i hi]; exact h1 i hi⟩, fun i hi => by rw [← e i hi]; exact h.2 i hi⟩
/-- Numbers at or above zero as such. -/
def natsOf (Q : Nat → List Int) : Nat → List Nat := fun i => (Q i).map Int.toNat
theorem natsOf_eq {l : List Int} (h : ∀ x ∈ l, 0 ≤ x) : intL (l.map Int.toNat) = l := by
  unfold intL
  rw [List.map_map]
  conv => rhs; rw [← List.map_id l]
  refine List.map_congr_left fun x hx => ?_
  have := h x hx
  simp only [Function.comp_apply, id]
  omega
theorem sumL_nats (Q : Nat → List Int) : ∀ n, sumL (natsOf Q) n = sumZ Q n
  | 0 => rfl
  | n + 1 => by
    show sumL (natsOf Q) n + _ = sumZ Q n + _
    rw [sumL_nats Q n]
    simp [natsOf]
/-- The document's parts of any relation of bounded size. -/
theorem rparts_all (w : World) (N : Nat) (a : Option Addr) (c : Nat) (Q : Nat → List Int) (va : Nat → Option Addr) (vc : Nat → Nat) (hL : LwAt w a N Q va vc) (hb : sumZ Q N + N ≤ 1048576) (hR : ∀ i, i < N → ∀ x ∈ Q i, 0 ≤ x ∧ x < (N : Int)) :
    LwAt w a N (fun i => intL (natsOf Q i)) va vc ∧ (∀ x, x < N → ∀ y ∈ natsOf Q x, y < N) ∧ (∀ x, x < N → (natsOf Q x).length ≤ 17592186044416) ∧ Calls Tryd.prog 19 #[.slice a N c] w fun e y => PartsTold w N (natsOf Q) e y := by
  have hE : ∀ x, x < N → ∀ y ∈ natsOf Q x, y < N := fun x hx y hy => by
    obtain ⟨z, hz, rfl⟩ := List.mem_map.1 hy
    have := hR x hx z hz
    omega
  have hl : ∀ x, x < N → (natsOf Q x).length ≤ 17592186044416 := fun x hx => by
    have h1 := sumZ_one Q hx
    have h2 : (natsOf Q x).length = (Q x).length := by simp [natsOf]
    omega
  have hL' : ∀ X, w.grownBy X none → LwAt X a N (fun i => intL (natsOf Q i)) va vc := fun X hX => (hL.kept hX).ext fun i hi => (natsOf_eq fun x hx => (hR i hi x hx).1).symm
  have hs : sumL (natsOf Q) N ≤ 1048576 := by rw [sumL_nats]; omega
  refine ⟨hL' w (grown_refl _ _), hE, hl, ?_⟩
  refine rparts_any w N a c (natsOf Q) (tnR (natsOf Q) N) va vc (hL' w (grown_refl _ _)) (by omega) hl hE (fun x y hx _ => ?_) (fun x _ y hy => ?_) (fun x _ => ?_) (fun X hX => rturn_any X N a c (natsOf Q) va vc (hL' X hX) (by omega) hs hE)
  · rw [tnR_mem]
    exact ⟨fun h => ⟨hx, h⟩, And.right⟩
  · exact ((tnR_mem _ _ _ _).1 hy).1
  · have := tnR_len (natsOf Q) x N
    omega

end Go.Proofs.YtjijagnpcmonbaaDoor.J

/-
  digraph: DigraphSolves: its core, of any lists.
-/
namespace Go.Proofs.YtjijagnpcmonbaaDoor.J
open Go.RowKit Go.Maps Go.Shelf D

theorem mask_of (Pd : Nat → Prop) (h : ∀ b, Pd b → b < 1024) : ∃ m, m < 2 ^ 1024 ∧ ∀ b, m.testBit b = true ↔ Pd b := by
  classical
  refine ⟨(B.addS 1024 0 (intL ((List.range 1024).filter fun b => decide (Pd b)))).1, B.addS_lt 1024 _ _ (Nat.two_pow_pos 1024), fun b => ?_⟩
  rw [addS_bit, Nat.zero_testBit, Bool.false_or, Bool.and_eq_true, decide_eq_true_eq, List.contains_iff_mem]
  unfold intL
  rw [List.mem_map]
  constructor
  · rintro ⟨_, x, hx, e⟩
    have e2 : x = b := by omega
    rw [← e2]
    exact of_decide_eq_true (List.mem_filter.1 hx).2
  · intro hb
    exact ⟨h b hb, b, List.mem_filter.2 ⟨List.mem_range.2 (h b hb), decide_eq_true hb⟩, rfl⟩
theorem masks_of (N : Nat) (Pd : Nat → Nat → Prop) (h : ∀ x, x < N → ∀ b, Pd x b → b < 1024) : ∃ mk : Nat → Nat, ∀ x, x < N → mk x < 2 ^ 1024 ∧ ∀ b, (mk x).testBit b = true ↔ Pd x b := by
  classical
  refine ⟨fun x => if hx : x < N then (mask_of (Pd x) (h x hx)).choose else 0, fun x hx => ?_⟩
  simp only [dif_pos hx]
  exact (mask_of (Pd x) (h x hx)).choose_spec

theorem solves_core (w : World) (N : Nat) (a : Option Addr) (c : Nat) (Q : Nat → List Int) (va : Nat → Option Addr) (vc : Nat → Nat) (hL : LwAt w a N Q va vc) (hnil : ∀ i, i < N → va i = none → (Q i).length = 0 ∧ vc i = 0) (hb : sumZ Q N + N ≤ 1048576)
    (M : Nat) (oa : Option Addr) (oc : Nat) (own : Nat → List Int) (xa : Nat → Option Addr) (xc : Nat → Nat) (hO : LwAt w oa M own xa xc) (honil : ∀ i, i < M → xa i = none → (own i).length = 0 ∧ xc i = 0) (hob : sumZ own M + M ≤ 1048576)
    (at_ : Int) (hat : -9223372036854775808 ≤ at_ ∧ at_ ≤ 9223372036854775807) (hT : B.Tab w) (h0 : 0 < w.heap.size) :
    Calls Tryd.prog 4 #[.slice a N c, .slice oa M oc, .int .i64 at_] w fun e w' => e = .returned (.bool true) ∧ w.grownBy w' none := by
  have hl : ∀ i, i < N → (Q i).length ≤ 17592186044416 := fun i hi => by have := sumZ_one Q hi; omega
  have hol : ∀ i, i < M → (own i).length ≤ 17592186044416 := fun i hi => by have := sumZ_one own hi; omega
  by_cases hR : (∀ i, i < N → ∀ x ∈ Q i, 0 ≤ x ∧ x < (N : Int)) ∧ M = N ∧ ∀ i, i < M → ∀ v ∈ own i, 0 ≤ v ∧ v < 1024
  · obtain ⟨hR, rfl, hov⟩ := hR
    obtain ⟨_, hE, hEl, _⟩ := rparts_all w M a c Q va vc hL hb hR
    obtain ⟨mk, hmk⟩ := masks_of M (Gets (natsOf Q) own) (fun x hx b hg => by
      obtain ⟨y, h1, h2⟩ := hg
      have := hov y (rch_lt hE h1 hx) _ h2
      omega)
    have key : ∀ X e y, SolTold M (natsOf Q) own X e y → CmpOut M (fun x => memN (mk x)) 0 X e y := fun X e y h => by
      obtain ⟨rb, mk', ua, uc, rfl, hm', hC, hg⟩ := h
      refine ⟨_, _, ua, uc, rfl, hC.ext fun x hx => ?_, hg⟩
      have : mk' x = mk x := mask_ext (hm' x hx).1 (hmk x hx).1 fun i _ => ((hm' x hx).2 i).trans ((hmk x hx).2 i).symm
      rw [this]
    have hnats : ∀ i, i < M → Q i = intL (natsOf Q i) := fun i hi => (natsOf_eq fun x hx => (hR i hi x hx).1).symm
    refine solvesL_any w M a c Q va vc hL hnil (by omega) hl M oa oc own xa xc hO honil (by omega) hol at_ hat M (fun x => memN (mk x)) 0 (by omega) (fun j _ => by have := memN_len (mk j); omega) (fun X la lc ua uc ma mc ub ud hX hLs hMs => ?_) (fun X hX => ?_) hT h0
    · exact (sol_ok X M la ma lc mc (natsOf Q) own ua ub uc ud (hLs.ext fun i hi => ⟨hnats i hi, rfl, rfl⟩) hMs (by omega) hEl hol hE hov (tab_kept hT hX) (Nat.lt_of_lt_of_le h0 hX.size)).mono fun e y h => key X e y h
    · refine (rsolve_ok X M a oa c oc (natsOf Q) own va xa vc xc ((hL.kept hX).ext hnats) (hO.kept hX) (by omega) hEl hol hE hov (fun X' hX' => ?_)).mono fun e y h => key X e y h
      exact (rparts_all X' M a c Q va vc (hL.kept (grown_trans hX hX')) hb hR).2.2.2
  · have hbad : SolBad N M Q own := by
      by_cases h1 : ∀ i, i < N → ∀ x ∈ Q i, 0 ≤ x ∧ x < (N : Int)
      · by_cases h2 : M = N
        · exact .inr (.inr fun h3 => hR ⟨h1, h2, h3⟩)
        · exact .inr (.inl h2)
      · exact .inl h1
    refine solvesL_any w N a c Q va vc hL hnil (by omega) hl M oa oc own xa xc hO honil (by omega) hol at_ hat 0 (fun _ => []) 1 (by omega) (fun j h => absurd h (Nat.not_lt_zero _)) (fun X la lc ua uc ma mc ub ud hX hLs hMs => ?_) (fun X hX => ?_) hT h0
    · refine (sol_bad X N M la ma lc mc Q own ua ub uc ud hLs hMs (by omega) (by omega) hl hol hbad).mono ?_
      rintro e y ⟨rfl, hg⟩
      exact CmpOut.none 1 _ _ hg
    · refine (rsolve_bad X N M a oa c oc Q own va xa vc xc (hL.kept hX) (hO.kept hX) (by omega) (by omega) hl hol hbad).mono ?_
      rintro e y ⟨rfl, rfl⟩
      exact CmpOut.none 1 _ _ (grown_refl _ _)

end Go.Proofs.YtjijagnpcmonbaaDoor.J
