import Derived.Test.YtgmljpkenipgjaaQgjimidgjjnjb
import Derived.Test.YtgmljpkenipgjaaQbcofglccpmfn
import Derived.Test.YtgmljpkenipgjaaQlmljjcjnkfdh
import Derived.Deep.RegionLaw
import Derived.Deep.DrawnRows
import Derived.Deep.RegionHeld3
import Derived.BigQuiet
import Derived.Test.YtgmljpkenipgjaaQdcipjfgilapl

/-
  pack: the document's Lay: owners and values grow: a loop as a declaration of its own (printed by tools/pk_grow.py).
-/
namespace Go.Proofs.Ytgmljpkenipgjaa.J
open Go.RowKit Go.Maps Go.Shelf Pk

attribute [local go_sem] Oper.semAt_some
attribute [local go_sem ↓] Go.wp_at_zero Go.wp_at_succ

/-- Bases, values, owners, by their places in the box. -/
def lyQ (bs va ow : List Int) : Nat → List Int := fun j => if j = 0 then bs else if j = 1 then va else ow
theorem lyQ_0 (bs va ow bs' : List Int) : upZ (lyQ bs va ow) 0 bs' = lyQ bs' va ow := by
  funext j; unfold upZ lyQ; by_cases h : j = 0
  · subst h; rfl
  · rw [if_neg h, if_neg h, if_neg h]
theorem LyAt.ext {w X : World} {rb : Nat} {Q Q' : Nat → List Int} {ua : Nat → Option Addr} {uc : Nat → Nat} (h : LyAt w X rb Q ua uc) (e : ∀ j, j < 3 → Q j = Q' j) : LyAt w X rb Q' ua uc :=
  ⟨h.grown, h.res, by rw [← e 0 (by decide), ← e 1 (by decide), ← e 2 (by decide)]; exact h.box, h.rows.ext e, h.lo⟩
/-- An edge in a box. -/
def EdAt (X : World) (xb : Nat) (p : Nat) (tv : Int) : Prop := X.heap[xb]? = some (.cells #[.int .i64 (p : Int), .int .i64 tv] 60 (0, 0))
theorem EdAt.kept {X Y : World} {xb p : Nat} {tv : Int} (h : EdAt X xb p tv) (hg : X.grownBy Y none) : EdAt Y xb p tv := box_kept h hg
theorem infoIntP : (Try.prog.info? 3).map (fun i => (i.zero, i.size, i.bytes)) = some (some (.int .i64 0), 1, 8) := by kernel_rfl

/-- A row of the box turns, and the box is told: the edge stays. -/
theorem EdAt.turn {w X Y : World} {rb xb p f : Nat} {tv : Int} {v : Value} {Q : Nat → List Int} {ua : Nat → Option Addr} {uc : Nat → Nat} (h : EdAt X xb p tv) (hL : LyAt w X rb Q ua uc) (hf : f < 3) (hg : X.grownBy Y (Value.slice (ua f) (Q f).length (uc f)).ownBlock) : EdAt (Y.setCell ⟨rb, f, none⟩ v) xb p tv := by
  have h1 : EdAt Y xb p tv := hL.boxes hf h (by decide) hg
  have h2 := hL.boxes hf hL.box (by decide) hg
  have gs : Y.grownBy (Y.setCell ⟨rb, f, none⟩ v) (some rb) := grown_setCell _ _ _
  refine ((gs.block xb (Array.getElem?_eq_some_iff.1 h1).1 ?_).trans h1)
  intro e
  have e3 : rb = xb := Eq.symm (by simpa using e)
  subst e3
  unfold EdAt at h1
  rw [h2] at h1
  simp at h1

/-- A number is appended to a row, and the box is told. -/
theorem LyAt.app {w X Z : World} {rb xb p f m g c' : Nat} {tv v : Int} {Q : Nat → List Int} {ua : Nat → Option Addr} {uc : Nat → Nat} (h : LyAt w X rb Q ua uc) (hx : EdAt X xb p tv) (hf : f < 3) (hm : (Q f).length = m)
    (hZ : X.grownBy Z (Value.slice (ua f) m (uc f)).ownBlock) (ho : Z.ownsRow w.heap.size 3 1 (.slice (some ⟨g, 0, none⟩) (m + 1) c') (m + 1) (zV (Q f) ++ [.int .i64 v])) (hat : (Value.slice (ua f) m (uc f)).ownBlock = some g ∨ g = X.heap.size) :
    (Z.cell? ⟨rb, f, none⟩ = some (.slice (ua f) m (uc f)) ∧ Z.frozen? ⟨rb, f, none⟩ = false) ∧ LyAt w (Z.setCell ⟨rb, f, none⟩ (.slice (some ⟨g, 0, none⟩) (m + 1) c')) rb (upZ Q f (Q f ++ [v])) (upZ ua f (some ⟨g, 0, none⟩)) (upZ uc f c') ∧ EdAt (Z.setCell ⟨rb, f, none⟩ (.slice (some ⟨g, 0, none⟩) (m + 1) c')) xb p tv := by
  subst hm
  have hbx := h.boxes hf h.box (by decide) hZ
  have hzz : zV (Q f ++ [v]) = zV (Q f) ++ [.int .i64 v] := by rw [zV_append]; rfl
  have hT := h.turn (m := (Q f).length + 1) (a' := some ⟨g, 0, none⟩) (c' := c') (L' := Q f ++ [v]) hf (by rw [List.length_append]; rfl) hZ (by rw [hzz]; exact ho) (fun g2 hg2 => by
    have e2 : g = g2 := by simpa [Value.ownBlock] using hg2
    subst e2
    rcases hat with h | h
    · exact .inl h
    · exact .inr (by omega))
  refine ⟨⟨?_, frozen_of_row _ _ _ _ _ hbx⟩, hT, hx.turn h hf hZ⟩
  rw [cell_of_row _ _ _ _ _ _ hbx]
  match f, hf with
  | 0, _ => rfl
  | 1, _ => rfl
  | 2, _ => rfl

noncomputable def pkR26 : Code := ((Try.f11.body.map (regionsJ 26)).getD []).getD 0 .skip
noncomputable def pkGrow : Code := ((Try.f11.body.map loopsJ).getD []).getD 5 .skip

end Go.Proofs.Ytgmljpkenipgjaa.J

/-
  pack: the document's Lay: the edges of a row are laid: a loop as a declaration of its own (printed by tools/pk_k.py).
-/
namespace Go.Proofs.Ytgmljpkenipgjaa.J
open Go.RowKit Go.Maps Go.Shelf Pk

attribute [local go_sem] Oper.semAt_some

noncomputable def pkR28 : Code := ((Try.f11.body.map (regionsJ 28)).getD []).getD 0 .skip
theorem EdAt.put {w X : World} {rb xb p f g q : Nat} {tv v : Int} {Q : Nat → List Int} {ua : Nat → Option Addr} {uc : Nat → Nat} (h : EdAt X xb p tv) (hL : LyAt w X rb Q ua uc) (hf : f < 3) (ha : ua f = some ⟨g, 0, none⟩) : EdAt (X.setCell ⟨g, q, none⟩ (.int .i64 v)) xb p tv :=
  hL.boxes hf h (by decide) (by rw [ha]; exact grown_setCell _ _ _)
theorem LyAt.at {w X : World} {rb f q : Nat} {Q : Nat → List Int} {ua : Nat → Option Addr} {uc : Nat → Nat} (h : LyAt w X rb Q ua uc) (hf : f < 3) (hq : q < (Q f).length) : ∃ g, ua f = some ⟨g, 0, none⟩ ∧ X.cell? ⟨g, q, none⟩ = some (.int .i64 ((Q f).getD q 0)) ∧ X.frozen? ⟨g, q, none⟩ = false := by
  have h0 := h.rows.inn f hf
  obtain ⟨g, c, hv, hc⟩ := owns_at h0 (by omega)
  simp only [Value.slice.injEq] at hv
  refine ⟨g, hv.1, hc q _ (zV_at hq), ?_⟩
  rw [hv.1] at h0
  exact owns_free h0 q
noncomputable def pkK : Code := ((Try.f11.body.map loopsJ).getD []).getD 4 .skip

end Go.Proofs.Ytgmljpkenipgjaa.J

/-
  pack: the document's Lay asks whether a base fits: a region as a declaration of its own (printed by tools/pk_r17.py).
-/
namespace Go.Proofs.Ytgmljpkenipgjaa.J
open Go.RowKit Go.Maps Go.Shelf Pk

attribute [local go_sem] Oper.semAt_some

noncomputable def pkR17 : Code := ((Try.f11.body.map (regionsJ 17)).getD []).getD 0 .skip

end Go.Proofs.Ytgmljpkenipgjaa.J

/-
  pack: the document's Lay: the rows of n edges are laid: a loop as a declaration of its own (printed by tools/pk_i.py).
-/
namespace Go.Proofs.Ytgmljpkenipgjaa.J
open Go.RowKit Go.Maps Go.Shelf Pk

attribute [local go_sem] Oper.semAt_some

/-- What is laid, in its box. -/
def lyS (s : St) : Nat → List Int := lyQ s.bs s.va s.ow
noncomputable def pkI : Code := ((Try.f11.body.map loopsJ).getD []).getD 2 .skip

end Go.Proofs.Ytgmljpkenipgjaa.J

/-
  pack: the document's Lay, whole.
-/
namespace Go.Proofs.Ytgmljpkenipgjaa.J
open Go.RowKit Go.Maps Go.Shelf Pk

attribute [local go_sem] Oper.semAt_some

noncomputable def pkR8 : Code := ((Try.f11.body.map (regionsJ 8)).getD []).getD 0 .skip
/-- Rows of edges in memory. -/
def RsAt (X : World) (a : Option Addr) (N : Nat) (R : Nat → List It) (la : Nat → Option Addr) (lc : Nat → Nat) : Prop := (N = 0 ∨ ∃ ra ro, a = some ⟨ra, ro, none⟩ ∧ ∀ i, i < N → X.cell? ⟨ra, ro + i, none⟩ = some (.slice (la i) (R i).length (lc i))) ∧ ∀ i, i < N → ItsAt X (la i) (R i)
theorem RsAt.kept {X Y : World} {a : Option Addr} {N : Nat} {R : Nat → List It} {la : Nat → Option Addr} {lc : Nat → Nat} (h : RsAt X a N R la lc) (hg : X.grownBy Y none) : RsAt Y a N R la lc := by
  refine ⟨?_, fun i hi => (h.2 i hi).kept hg⟩
  rcases h.1 with h | ⟨ra, ro, e, h1⟩
  · exact .inl h
  · exact .inr ⟨ra, ro, e, fun i hi => hg.cell (h1 i hi) (by simp)⟩
/-- May the rows be laid? -/
def MayLay (N : Nat) (R : Nat → List It) : Prop := N ≤ 256 ∧ ∀ i, i < N → IsRow (R i)
/-- What Lay tells. -/
def LayTold (N : Nat) (R : Nat → List It) (w : World) (e : Ending) (y : World) : Prop := (¬ MayLay N R ∧ e = .returned (.tuple #[.agg #[.slice none 0 0, .slice none 0 0, .slice none 0 0], .int .i64 1]) ∧ w.grownBy y none) ∨ (MayLay N R ∧ ∃ (ua : Nat → Option Addr) (uc : Nat → Nat), e = .returned (.tuple #[.agg #[.slice (ua 0) (lay R N).bs.length (uc 0), .slice (ua 1) (lay R N).va.length (uc 1), .slice (ua 2) (lay R N).ow.length (uc 2)], .int .i64 0]) ∧ TrZ y w.heap.size 3 (lyS (lay R N)) ua uc ∧ w.grownBy y none)

theorem ly_set3 {y : World} {b : Nat} {a0 a1 a2 : Value} {t : TypeId} (h : y.heap[b]? = some (.cells #[a0, a1, a2] t (0, 0))) (u0 u1 u2 : Value) : (((y.setCell ⟨b, 0, none⟩ u0).setCell ⟨b, 1, none⟩ u1).setCell ⟨b, 2, none⟩ u2).heap[b]? = some (.cells #[u0, u1, u2] t (0, 0)) := by
  have h1 := heap_setCell_same _ _ 0 _ _ u0 h
  have h2 := heap_setCell_same _ _ 1 _ _ u1 h1
  have h3 := heap_setCell_same _ _ 2 _ _ u2 h2
  exact h3
theorem zs_owns {X : World} {B rb n : Nat} (h : ValAt X rb n 3 (fun _ => .int .i64 0)) (hB : B ≤ rb) (hn : n ≤ maxLen) : X.ownsRow B 3 1 (.slice (some ⟨rb, 0, none⟩) n n) n (zV (List.replicate n 0)) := by
  refine ⟨by rw [zV_length, List.length_replicate, Nat.mul_one], .inr ⟨rb, n, _, rfl, hB, h, Nat.le_refl _, hn, by simp, ?_⟩⟩
  rw [Nat.mul_one, List.take_of_length_le (by simp)]
  unfold zV
  rw [List.map_replicate]
  simp [List.map_const']
theorem ly_start {w V : World} {bb N : Nat} (hg : w.grownBy V none) (hr : V.heap[w.heap.size]? = some (.cells #[.slice none 0 0, .slice none 0 0, .slice none 0 0] 26 (0, 0))) (hb : ValAt V bb N 3 (fun _ => .int .i64 0)) (hlo : w.heap.size < bb) (hN : N ≤ 256) (R : Nat → List It) :
    LyAt w (V.alloc (.cells #[.slice (some ⟨bb, 0, none⟩) N N, .slice none 0 0, .slice none 0 0] 26)) V.heap.size (lyS (layD R N 0)) (fun j => if j = 0 then some ⟨bb, 0, none⟩ else none) (fun j => if j = 0 then N else 0) := by
  have ga := World.grownBy_alloc V (.cells #[.slice (some ⟨bb, 0, none⟩) N N, .slice none 0 0, .slice none 0 0] 26) none
  have hl : (List.replicate N (0 : Int)).length = N := List.length_replicate
  have h0 : lyS (layD R N 0) = lyQ (List.replicate N 0) [] [] := rfl
  refine ⟨grown_trans hg ga, box_kept hr ga, ?_, ⟨fun j hj => ?_, fun i j hi hj hne => ?_⟩, ?_⟩
  · have h1 := heap_alloc_last V (.cells #[.slice (some ⟨bb, 0, none⟩) N N, .slice none 0 0, .slice none 0 0] 26)
    have e : (lyS (layD R N 0) 0).length = N := hl
    rw [e]
    exact h1
  · match j, hj with
    | 0, _ =>
      have h1 := zs_owns hb (Nat.le_of_lt hlo) (by unfold maxLen; omega)
      have h2 := keep0 h1 ga
      have e : (lyS (layD R N 0) 0).length = N := hl
      rw [e]
      exact h2
    | 1, _ => exact World.ownsRow_nil _ _ _ _
    | 2, _ => exact World.ownsRow_nil _ _ _ _
  · match i, hi, j, hj with
    | 0, _, 0, _ => exact absurd rfl hne
    | 0, _, 1, _ => exact .inr (by simp [Value.ownBlock])
    | 0, _, 2, _ => exact .inr (by simp [Value.ownBlock])
    | 1, _, _, _ => exact .inl (by simp [Value.ownBlock])
    | 2, _, _, _ => exact .inl (by simp [Value.ownBlock])
  · have := hb.lt
    omega
theorem ly_rows {w X : World} {rb : Nat} {Q : Nat → List Int} {ua : Nat → Option Addr} {uc : Nat → Nat} (h : LyAt w X rb Q ua uc) (u0 u1 u2 : Value) : TrZ (((X.setCell ⟨w.heap.size, 0, none⟩ u0).setCell ⟨w.heap.size, 1, none⟩ u1).setCell ⟨w.heap.size, 2, none⟩ u2) w.heap.size 3 Q ua uc := by
  have h1 := heap_setCell_same _ _ 0 _ _ u0 h.res
  have h2 := heap_setCell_same _ _ 1 _ _ u1 h1
  exact ((h.rows.beside h.res (by decide) (grown_setCell _ _ _)).beside h1 (by decide) (grown_setCell _ _ _)).beside h2 (by decide) (grown_setCell _ _ _)
theorem ly_end {w y : World} (h : w.grownBy y none) : Hid (∀ u0 u1 u2, w.grownBy (((y.setCell ⟨w.heap.size, 0, none⟩ u0).setCell ⟨w.heap.size, 1, none⟩ u1).setCell ⟨w.heap.size, 2, none⟩ u2) none) := fun u0 u1 u2 => grown_new (grown_new (grown_new h (grown_setCell _ _ _) (by omega)) (grown_setCell _ _ _) (by omega)) (grown_setCell _ _ _) (by omega)
end Go.Proofs.Ytgmljpkenipgjaa.J

/-
  pack: the numbers of rows, those with more edges first.
-/
namespace Go.Proofs.Ytgmljpkenipgjaa.J
open Go.RowKit Go.Maps Go.Shelf Go.Sort Pk

attribute [local go_sem] Oper.semAt_some

set_option maxRecDepth 100000 in
theorem byCmp_any (xb ra ro N c x y : Nat) (R : Nat → List It) (la : Nat → Option Addr) (lc : Nat → Nat) (X : World) (hb : X.cell? ⟨xb, 0, none⟩ = some (.slice (some ⟨ra, ro, none⟩) N c)) (hx : X.cell? ⟨ra, ro + x, none⟩ = some (.slice (la x) (R x).length (lc x))) (hy : X.cell? ⟨ra, ro + y, none⟩ = some (.slice (la y) (R y).length (lc y))) (hxN : x < N) (hyN : y < N) :
    Calls Try.prog 54 #[.int .i64 (x : Int), .int .i64 (y : Int), .pointer (some ⟨xb, 0, none⟩)] X fun e z => e = .returned (.int .i64 (cmp3 ((R y).length : Nat) ((R x).length : Nat))) ∧ ∃ q, z = X.drewN q := by
  have mixed : Try.prog.follows .mixedOrders = true := by kernel_rfl
  have j1 : (x : Int) < (N : Int) := by omega
  have j2 : (y : Int) < (N : Int) := by omega
  obtain ⟨lx, hlx⟩ : ∃ v, v = (R x).length := ⟨_, rfl⟩
  obtain ⟨ly, hly⟩ : ∃ v, v = (R y).length := ⟨_, rfl⟩
  rw [← hlx] at hx ⊢
  rw [← hly] at hy ⊢
  have HC : Hid (∀ n, Calls Try.prog 55 #[.int .i64 (ly : Int), .int .i64 (lx : Int)] (X.drewN n) fun e z => e = .returned (.int .i64 (cmp3 (ly : Nat) (lx : Nat))) ∧ ∃ q, z = (X.drewN n).drewN q) := fun n => (compare_any _ _ _).mono fun e z ⟨h1, h2⟩ => ⟨h1, 0, by rw [h2]; rfl⟩
  clear hlx hly hxN hyN
  go_enter Try.func54, Try.ntmps54
  go_wp2_with fail
  go_quiet_o (first | (go_at_call 55; refine Calls.quiet_of (HC.out _)))
  go_wp2_with fail
  go_ret
  exact ⟨rfl, nq, rfl⟩

theorem grownBy_sortedN {w : World} {g n : Nat} {os : Array Obj} (enc : Nat → Value) (d : Array Nat) : w.grownBy (grow (putRow enc (Sort.ahead w n) g 0 d) os) (some g) := by
  refine ⟨rfl, rfl, rfl, by simp, fun k hk hne => ?_⟩
  rw [heap_grow_old _ _ (by simpa using hk)]
  have : g ≠ k := fun e => hne (by rw [e])
  simp [putRow, mapBlock, Sort.ahead, Array.getElem?_modify, this]

/-- How a number of a row is told. -/
def encR (N : Nat) (n : Nat) : Value := .int .i64 (clN N n : Nat)
theorem encR_one (N : Nat) : OneCell (encR N) := fun _ => rfl

theorem clN_in {N n : Nat} (h : n < N) : encR N n = .int .i64 (n : Int) := by unfold encR; rw [clN_at h]
theorem holds_range {w : World} {nb N : Nat} (h : ValAt w nb N 3 (fun i => .int .i64 (i : Int))) : Holds (encR N) w nb 0 (Array.range N) := by
  intro i hi
  have hi' : i < N := by simpa using hi
  refine ⟨?_, h.free _⟩
  rw [range_get hi', Nat.zero_add, h.cell i hi', clN_in hi']
theorem sorted_val {w y : World} {nb N q : Nat} {d : Array Nat} {c : Nat → Value} (h : ValAt w nb N 3 c) (hs : d.size = N) (hd : ∀ i, i < N → d[i]! < N) (hy : y = (putRow (encR N) w nb 0 d).drewN q) : ValAt y nb N 3 (fun i => .int .i64 (d[i]! : Nat)) ∧ w.grownBy y (some nb) := by
  have e : y = grow (putRow (encR N) (Sort.ahead w q) nb 0 d) #[] := by rw [hy, grow_empty]; rfl
  refine ⟨?_, by rw [e]; exact grownBy_sortedN _ _⟩
  have hg : nb < w.heap.size := h.lt
  unfold ValAt at h ⊢
  rw [e, heap_grow_old _ _ (by simpa using hg)]
  have : (putRow (encR N) (Sort.ahead w q) nb 0 d).heap[nb]? = some (.cells (putCells (encR N) 0 d ((List.range N).map c).toArray) 3 (0, 0)) := by
    simp [putRow, mapBlock, Sort.ahead, Array.getElem?_modify, h, onCells]
  rw [this]
  congr 2
  apply Array.ext_getElem?
  intro i
  by_cases hi : i < N
  · have := clN_in (hd i hi)
    have e2 : d[i]! = d[i]'(by omega) := getElem!_pos _ _ _
    simp only [e2] at this
    simp [putCells, hi, hs, this]
  · simp [putCells, hi, hs]

/-- What byEdges tells. -/
def ByTold (N : Nat) (R : Nat → List It) (w : World) (e : Ending) (y : World) : Prop := ∃ nb, e = .returned (.slice (some ⟨nb, 0, none⟩) N N) ∧ w.heap.size ≤ nb ∧ ValAt y nb N 3 (fun i => .int .i64 ((ordA R N).getD i 0 : Nat)) ∧ w.grownBy y none

set_option maxRecDepth 100000 in
set_option maxHeartbeats 2000000 in
theorem byEdges_any (a : Option Addr) (N c : Nat) (R : Nat → List It) (la : Nat → Option Addr) (lc : Nat → Nat) (w : World) (hR : RsAt w a N R la lc) (hN : N ≤ 256) (hQ : ∀ i, i < N → (R i).length ≤ 256) :
    Calls Try.prog 41 #[.slice a N c] w fun e y => ByTold N R w e y := by
  obtain ⟨i0, hi0, hz0, hz1, hz2⟩ := info_parts infoIntP
  have HR : Hid (∀ X, w.grownBy X none → RsAt X a N R la lc) := fun X hX => hR.kept hX
  have HQ : Hid (∀ i, i < N → (R i).length ≤ 256) := hQ
  have hsz : (w.alloc (.cells #[.slice a N c] 22)).heap.size = w.heap.size + 1 := by simp
  have HX0 : Hid ((w.alloc (.cells #[.slice a N c] 22)).heap[w.heap.size]? = some (.cells #[.slice a N c] 22 (0, 0))) := heap_alloc_last w _
  have HG0 : Hid (w.grownBy (w.alloc (.cells #[.slice a N c] 22)) none) := World.grownBy_alloc _ _ none
  have HX1 := HX0.out
  have p0 : (w.alloc (.cells #[.slice a N c] 22)).cell? ⟨w.heap.size, 0, none⟩ = some (.slice a N c) := by rw [cell_of_row _ _ _ _ _ _ HX1]; rfl
  clear hR hQ HX1
  go_enter Try.func41, Try.ntmps41
  go_wp2_with (at_make; refine wpList_make_full _ rfl _ _ 24 rfl (w.alloc (.cells #[.slice a N c] 22)).heap.size 3 i0 (.int .i64 0) 1 Try.underlying24 hi0 hz0 hz1 .i64 .i64 _ _ N rfl rfl (by simp) (by simp) (by rw [hz2]; omega) (by unfold maxLen; omega) (by simp) ?_)
  intro w3 hown hgrow
  obtain ⟨nb, hnb⟩ : ∃ v, v = w.heap.size + 1 := ⟨_, rfl⟩
  rw [← hnb] at hown ⊢
  have hval : ValAt w3 nb N 3 (fun _ => .int .i64 0) := made_rowK (B := nb) rfl (by simpa [Value.cells, hnb] using hown)
  have HV : Hid (ValAt w3 nb N 3 (fun _ => .int .i64 0)) := hval
  have HX : Hid (w3.heap[w.heap.size]? = some (.cells #[.slice a N c] 22 (0, 0))) := box_kept HX0.out hgrow
  have HG : Hid (w.grownBy w3 none) := grown_trans HG0.out hgrow
  have HNB : Hid (nb = w.heap.size + 1) := hnb
  have p1 : w3.cell? ⟨w.heap.size, 0, none⟩ = some (.slice a N c) := hgrow.cell p0 (by simp)
  clear hval hown hgrow hsz HX0 HG0 p0 hnb
  go_wp2_with fail
  clear p1
  go_loopg [10] N (fun gk v wr => ∃ k : Nat, k ≤ N ∧ gk = N - k ∧ v = .int .i64 k ∧ ValAt wr nb N 3 (fun i => .int .i64 (if i < k then (i : Int) else 0)) ∧ wr.heap[w.heap.size]? = some (.cells #[.slice a N c] 22 (0, 0)) ∧ w.grownBy wr none)
  case atStart => exact ⟨0, Nat.zero_le _, rfl, rfl, HV.out.ext fun i _ => by simp, HX.out, HG.out⟩
  case round =>
    clear HV HX HG
    obtain ⟨k, hk, hgk, rfl, hv, hx, hg⟩ := hrel
    have HV : Hid (ValAt wr nb N 3 (fun i => .int .i64 (if i < k then (i : Int) else 0))) := hv
    have HX := show Hid _ from hx
    have HG := show Hid _ from hg
    by_cases hkn : k < N
    · have hkd : (k : Int) < (N : Int) := by omega
      have hk0 : (0 : Int) ≤ (k : Int) := by omega
      obtain ⟨z, hz⟩ : ∃ z, wr.cell? ⟨nb, k, none⟩ = some z := ⟨_, hv.cell k hkn⟩
      have hf := hv.free k
      clear hv hx hg
      go_wp2_with fail
      go_roundg (N - (k + 1))
      case measure => omega
      case rel =>
        have hnb := HNB.out
        refine ⟨k + 1, by omega, rfl, by go_num, ValAt.ext (ValAt.set HV.out k _) fun i hi => ?_, ?_, ?_⟩
        · unfold put
          by_cases e : i = k
          · subst e; simp
          · by_cases h : i < k
            · simp [e, h, show i < k + 1 by omega]
            · simp [e, h, show ¬ i < k + 1 by omega]
        · rw [heap_setCell_other _ _ _ _ (by show w.heap.size ≠ nb; omega)]
          exact HX.out
        · exact grown_new HG.out (grown_setCell _ _ _) (by omega)
    · have hkd : ¬ (k : Int) < (N : Int) := by omega
      have hkk : k = N := by omega
      subst hkk
      have HVV : Hid (ValAt wr nb k 3 (fun i => .int .i64 (i : Int))) := hv.ext fun i hi => by simp [hi]
      clear hv hx hg hgk
      have hnb := HNB.out
      have HS : Hid (Calls Try.prog 53 #[.slice (some ⟨nb, 0, none⟩) k k, .func (.func 54) #[] #[.pointer (some ⟨w.heap.size, 0, none⟩)]] wr fun e y => e = .returned (.tuple #[]) ∧ ValAt y nb k 3 (fun i => .int .i64 ((ordA R k).getD i 0 : Nat)) ∧ wr.grownBy y (some nb)) := by
        have hRw := HR.out wr HG.out
        by_cases h0 : k = 0
        · subst h0
          refine (sortStable_zero _ _ _ wr).mono ?_
          rintro e y ⟨rfl, rfl⟩
          exact ⟨rfl, HVV.out.ext fun i hi => absurd hi (by omega), grown_refl _ _⟩
        · obtain ⟨ra, ro, rfl, cr⟩ : ∃ ra ro, a = some ⟨ra, ro, none⟩ ∧ ∀ i, i < k → wr.cell? ⟨ra, ro + i, none⟩ = some (.slice (la i) (R i).length (lc i)) := by
            rcases hRw.1 with h | h
            · exact absurd h h0
            · exact h
          have eg : ∀ args w, (callFunc 54 args).run Try.prog w = .ok (.enter 54 args) w := enters_of Try.func54 (by kernel_rfl) rfl
          have hrane : ra ≠ nb := fun h => by
            have h1 := (HR.out w (grown_refl _ _)).1
            rcases h1 with h1 | ⟨ra', ro', e, h2⟩
            · exact h0 h1
            · simp only [Option.some.injEq, Addr.mk.injEq, and_true] at e
              have h3 := h2 0 (by omega)
              have : ra' < w.heap.size := World.block_lt_of_cell? _ _ h3
              omega
          have hcr : CmpReads Try.prog 54 #[.pointer (some ⟨w.heap.size, 0, none⟩)] (encR k) (cfE R k) nb 0 k wr := fun m os dk hdk x y => by
            have hgx : wr.grownBy (sortWorld (encR k) wr nb 0 m dk os) (some nb) := grownBy_sortedN _ _
            have hb : (sortWorld (encR k) wr nb 0 m dk os).cell? ⟨w.heap.size, 0, none⟩ = some (.slice (some ⟨ra, ro, none⟩) k c) := by
              refine hgx.cell (by rw [cell_of_row _ _ _ _ _ _ HX.out]; rfl) ?_
              simp; omega
            refine byCmp_any w.heap.size ra ro k c (clN k x) (clN k y) R la lc _ hb (hgx.cell (cr _ (clN_lt x (by omega))) ?_) (hgx.cell (cr _ (clN_lt y (by omega))) ?_) (clN_lt x (by omega)) (clN_lt y (by omega))
            · simpa using hrane
            · simpa using hrane
          have hc := sortStable_any (encR k) (encR_one k) (cfE R k) (cfE_swo R k) 54 #[.pointer (some ⟨w.heap.size, 0, none⟩)] eg wr nb 0 k k (Array.range k) hcr (holds_range HVV.out) (by simp) (by omega) (range_stb _ _)
          refine hc.mono ?_
          rintro e y ⟨rfl, d', hm, q', hy⟩
          have ho := sorted_ord R k d' HQ.out hm
          have hds : d'.size = k := by rw [hm.perm.1]; simp
          have hin : ∀ i, i < k → d'[i]! = (ordA R k).getD i 0 := fun i hi => by
            rw [← ho, getElem!_pos _ _ (by omega)]
            simp [List.getD_eq_getElem?_getD, show i < d'.size by omega]
          have hlt : ∀ i, i < k → d'[i]! < k := fun i hi => by
            have : d'[i]! ∈ ordA R k := by
              rw [← ho, getElem!_pos _ _ (by omega)]
              simp
            exact (ordA_mem R k _ HQ.out).1 this
          obtain ⟨v1, v2⟩ := sorted_val HVV.out hds hlt hy
          exact ⟨rfl, v1.ext fun i hi => by rw [hin i hi], v2⟩
      clear hnb
      go_wp2_with fail
      refine Calls.mono HS.out ?_
      rintro e y ⟨rfl, hv, hg⟩
      have HE : Hid (ByTold k R w (.returned (.slice (some ⟨nb, 0, none⟩) k k)) y) := ⟨nb, rfl, by have := HNB.out; omega, hv, grown_new HG.out hg (by have := HNB.out; omega)⟩
      clear hv hg
      go_wp2_with fail
      go_ret
      exact HE.out

end Go.Proofs.Ytgmljpkenipgjaa.J

/-
  pack: the program's isFree.
-/
namespace Go.Proofs.Ytgmljpkenipgjaa.J
open Go.RowKit Go.Maps Go.Shelf Go.Sort Pk

attribute [local go_sem] Oper.semAt_some

set_option maxRecDepth 100000 in
set_option maxHeartbeats 2000000 in
theorem isFree_any (v0 v1 : Value) (oa a : Option Addr) (oc c : Nat) (ow : List Int) (l : List It) (b : Nat) (w : World) (ho : IntsAt w oa ow) (hge : ∀ x ∈ ow, -1 ≤ x) (hl : ItsAt w a l) (hP : ∀ e ∈ l, 0 ≤ e.1 ∧ e.1 < 256) (hlen : l.length ≤ 17592186044416) (hol : ow.length ≤ 17592186044416) (hb : b ≤ 17592186044416) :
    Calls Try.prog 56 #[.agg #[v0, v1, .slice oa ow.length oc], .int .i64 (b : Int), .slice a l.length c] w fun e y => e = .returned (.bool (fitsB ow l b)) ∧ w.grownBy y none := by
  obtain ⟨n, hn⟩ : ∃ v, v = l.length := ⟨_, rfl⟩
  obtain ⟨m, hm⟩ : ∃ v, v = ow.length := ⟨_, rfl⟩
  have HN : Hid (n = l.length) := hn
  have HM : Hid (m = ow.length) := hm
  have HL : Hid (∀ X, w.grownBy X none → ItsAt X a l) := fun X hX => hl.kept hX
  have HO : Hid (∀ X, w.grownBy X none → IntsAt X oa ow) := fun X hX => ho.kept hX
  have HP : Hid (∀ e ∈ l, 0 ≤ e.1 ∧ e.1 < 256) := hP
  have HGE : Hid (∀ x ∈ ow, -1 ≤ x) := hge
  have HB : Hid (b ≤ 17592186044416 ∧ m ≤ 17592186044416) := ⟨hb, by omega⟩
  obtain ⟨r, hr⟩ : ∃ v, v = fitsB ow l b := ⟨_, rfl⟩
  have HR : Hid (r = fitsB ow l b) := hr
  rw [← hn] at hlen ⊢
  rw [← hm, ← hr]
  obtain ⟨X0, hX0⟩ : ∃ X, X = w.alloc (.cells #[v0, v1, .slice oa m oc] 26) := ⟨_, rfl⟩
  have HX0 : Hid (X0.heap[w.heap.size]? = some (.cells #[v0, v1, .slice oa m oc] 26 (0, 0))) := by show _ = _; rw [hX0]; exact heap_alloc_last w _
  have HG0 : Hid (w.grownBy X0 none) := by show w.grownBy X0 none; rw [hX0]; exact World.grownBy_alloc _ _ none
  obtain ⟨xb, hxb⟩ : ∃ v, v = w.heap.size := ⟨_, rfl⟩
  rw [← hxb] at HX0
  clear hn hl hm ho hP hr hb hol hge
  go_enter Try.func56, Try.ntmps56
  go_wp2_with fail
  rw [← hxb, ← hX0]
  clear hxb hX0
  go_loopg [12] n (fun gk v4 wr => ∃ (j : Nat), j ≤ n ∧ gk = n - j ∧ v4 = .int .i64 j ∧ fitsB ow (l.take j) b = true ∧ X0.grownBy wr none)
  case atStart => exact ⟨0, Nat.zero_le _, rfl, rfl, by simp [fitsB], grown_refl _ _⟩
  case round =>
    obtain ⟨j, hj, hgj, rfl, hrt, hg⟩ := hrel
    have HGJ : Hid (gk = n - j) := hgj
    have HG : Hid (X0.grownBy wr none) := hg
    have HGW : Hid (w.grownBy wr none) := grown_trans HG0.out hg
    have HRT : Hid (fitsB ow (l.take j) b = true) := hrt
    have pb : ∀ o', (wr.alloc o').cell? ⟨xb, 2, none⟩ = some (.slice oa m oc) := fun o' => (grown_trans hg (World.grownBy_alloc _ o' none)).cell (by rw [cell_of_row _ _ _ _ _ _ HX0.out]; rfl) (by simp)
    clear hgj hg hrt
    by_cases hjl : j < n
    · have hjl2 : j < l.length := by rw [← HN.out]; exact hjl
      obtain ⟨ab, ao, rfl, hc1, hc2⟩ : ∃ ab ao, a = some ⟨ab, ao, none⟩ ∧ wr.cell? ⟨ab, ao + j * 2, none⟩ = some (.int .i64 (l.getD j (0, 0)).1) ∧ wr.cell? ⟨ab, ao + j * 2 + 1, none⟩ = some (.int .i64 (l.getD j (0, 0)).2) := by
        rcases HL.out wr HGW.out with h | ⟨ab, ao, e, h⟩
        · rw [h] at hjl2; cases hjl2
        · exact ⟨ab, ao, e, (h j hjl2).1, (h j hjl2).2⟩
      obtain ⟨x, hx⟩ : ∃ x, x = (l.getD j (0, 0)).1 := ⟨_, rfl⟩
      obtain ⟨tv, htv⟩ : ∃ x, x = (l.getD j (0, 0)).2 := ⟨_, rfl⟩
      have HX : Hid (x = (l.getD j (0, 0)).1) := hx
      rw [← hx] at hc1
      rw [← htv] at hc2
      have hpx : 0 ≤ x ∧ x < 256 := by
        rw [hx]
        have : l.getD j (0, 0) ∈ l := by rw [List.getD_eq_getElem?_getD, List.getElem?_eq_getElem hjl2]; exact List.getElem_mem _
        exact HP.out _ this
      have HT : Hid (fitsB ow (l.take (j + 1)) b = !(decide (b + x.toNat < m) && decide (0 ≤ ow.getD (b + x.toNat) 0))) := by
        show _ = _
        rw [take_snoc hjl2, fitsB_append, HRT.out, Bool.true_and, fitsB_one, ← hx, HM.out]
      obtain ⟨p, rfl⟩ := Int.eq_ofNat_of_zero_le hpx.1
      have hj0 : (0 : Int) ≤ (j : Int) := by omega
      have hj1 : (j : Int) < (n : Int) := by omega
      have hjd : decide (j < n) = true := decide_eq_true hjl
      have hB := HB.out
      have hwr : IntKind.i64.wrap ((b : Int) + (p : Int)) = ((b + p : Nat) : Int) := by rw [IntKind.wrap_i64]; omega
      rw [Int.toNat_natCast] at HT
      clear hx htv
      by_cases k0 : b + p < m
      · have e0 : decide (((b + p : Nat) : Int) < (m : Int)) = true := decide_eq_true (by omega)
        have e0' : decide (b + p < m) = true := decide_eq_true k0
        have k0' : b + p < ow.length := by rw [← HM.out]; exact k0
        obtain ⟨ob, oo, rfl, hc3⟩ : ∃ ab ao, oa = some ⟨ab, ao, none⟩ ∧ ∀ o', (wr.alloc o').cell? ⟨ab, ao + (b + p), none⟩ = some (.int .i64 (ow.getD (b + p) 0)) := by
          rcases HO.out wr HGW.out with h | ⟨ab, ao, e, h⟩
          · rw [h] at k0'; cases k0'
          · exact ⟨ab, ao, e, fun o' => (World.grownBy_alloc _ o' none).cell (h _ k0') (by simp)⟩
        obtain ⟨v, hv⟩ : ∃ v, v = ow.getD (b + p) 0 := ⟨_, rfl⟩
        have hv1 : -1 ≤ v := by
          rw [hv]
          refine HGE.out _ ?_
          rw [List.getD_eq_getElem?_getD, List.getElem?_eq_getElem k0']
          exact List.getElem_mem _
        rw [← hv] at HT
        rw [e0'] at HT
        simp only [← hv] at hc3
        have hq0 : (0 : Int) ≤ ((b + p : Nat) : Int) := by omega
        have hq1 : ((b + p : Nat) : Int) < (m : Int) := by omega
        obtain ⟨q, hq⟩ : ∃ q, q = b + p := ⟨_, rfl⟩
        rw [← hq] at hwr e0 e0' hq0 hq1
        simp only [← hq] at hc3
        clear hv hB hpx k0 k0'
        by_cases k1 : 0 ≤ v
        · have e1 : decide (0 ≤ v) = true := decide_eq_true k1
          have e2 : ¬ v = -1 := by omega
          have e3 : (v == -1) = false := by simpa using e2
          have e4 : (v != -1) = true := by simpa using e2
          rw [e1] at HT
          have HF : Hid (false = r) := by show _ = _; rw [HR.out]; exact (fitsB_false HT.out).symm
          clear k1 hq hv1
          go_wp2_with fail
          go_ret
          exact ⟨congrArg (fun b => Ending.returned (Value.bool b)) HF.out, grown_trans HGW.out (World.grownBy_alloc _ _ none)⟩
        · have e1 : decide (0 ≤ v) = false := decide_eq_false k1
          have e2 : v = -1 := by omega
          subst e2
          rw [e1] at HT
          clear k1 hq hv1
          go_wp2_with fail
          go_roundg (n - (j + 1))
          case measure => have := HGJ.out; omega
          case rel => exact ⟨j + 1, by omega, rfl, by go_num, HT.out, grown_trans HG.out (World.grownBy_alloc _ _ none)⟩
      · have e0 : decide (((b + p : Nat) : Int) < (m : Int)) = false := decide_eq_false (by omega)
        have e0' : decide (b + p < m) = false := decide_eq_false k0
        rw [e0'] at HT
        obtain ⟨q, hq⟩ : ∃ q, q = b + p := ⟨_, rfl⟩
        rw [← hq] at hwr e0 e0'
        clear hB hpx k0 hq
        go_wp2_with fail
        go_roundg (n - (j + 1))
        case measure => have := HGJ.out; omega
        case rel => exact ⟨j + 1, by omega, rfl, by go_num, HT.out, grown_trans HG.out (World.grownBy_alloc _ _ none)⟩
    · have hjn : n = j := by omega
      subst hjn
      have hjd : decide (n < n) = false := decide_eq_false (by omega)
      have HF : Hid (true = r) := by
        show _ = _
        have h := HRT.out
        rw [HN.out, List.take_length] at h
        rw [HR.out, h]
      go_wp2_with fail
      go_ret
      exact ⟨congrArg (fun b => Ending.returned (Value.bool b)) HF.out, HGW.out⟩

end Go.Proofs.Ytgmljpkenipgjaa.J

/-
  pack: rows under way in the program's lay: the box is told later than its rows; a block that stays.
-/
namespace Go.Proofs.Ytgmljpkenipgjaa.J
open Go.RowKit Go.Maps Go.Shelf Pk

theorem hidP {p : Prop} (h : p) : Hid p := h
theorem heap_alloc_two (V : World) (o o' : Obj) : ((V.alloc o).alloc o').heap[V.heap.size]? = some o := (heap_alloc_old (V.alloc o) o' (by simp)).trans (heap_alloc_last V o)
theorem heap_alloc_snd (V : World) (o o' : Obj) : ((V.alloc o).alloc o').heap[V.heap.size + 1]? = some o' := by
  have h := heap_alloc_last (V.alloc o) o'
  have e : (V.alloc o).heap.size = V.heap.size + 1 := by simp
  rw [e] at h
  exact h
/-- A block that stays, beside the box and its rows. -/
structure PasAt (X : World) (rb nb : Nat) (o : Obj) (Q : Nat → List Int) (ua : Nat → Option Addr) (uc : Nat → Nat) : Prop where
  pas : X.heap[nb]? = some o
  pne : ∀ j, j < 3 → (Value.slice (ua j) (Q j).length (uc j)).ownBlock ≠ some nb
  pnr : nb ≠ rb
section
variable {w X Y : World} {rb xb nb p : Nat} {tv : Int} {o : Obj} {Q : Nat → List Int} {ua : Nat → Option Addr} {uc : Nat → Nat}
theorem PasAt.lt (h : PasAt X rb nb o Q ua uc) : nb < X.heap.size := (Array.getElem?_eq_some_iff.1 h.pas).1
theorem PasAt.kept (h : PasAt X rb nb o Q ua uc) (hg : X.grownBy Y none) : PasAt Y rb nb o Q ua uc := ⟨by rw [hg.block nb h.lt (by simp)]; exact h.pas, h.pne, h.pnr⟩
theorem PasAt.ext {Q' : Nat → List Int} (h : PasAt X rb nb o Q ua uc) (e : ∀ j, j < 3 → Q j = Q' j) : PasAt X rb nb o Q' ua uc := ⟨h.pas, fun j hj => by rw [← e j hj]; exact h.pne j hj, h.pnr⟩
theorem PasAt.box (h : PasAt X rb nb o Q ua uc) (f : Nat) (v : Value) : PasAt (X.setCell ⟨rb, f, none⟩ v) rb nb o Q ua uc := ⟨by rw [heap_setCell_other _ _ _ _ h.pnr]; exact h.pas, h.pne, h.pnr⟩
theorem PasAt.turn {f m c' : Nat} {a' : Option Addr} {L' : List Int} (h : PasAt X rb nb o Q ua uc) (hf : f < 3) (hm : m = L'.length) (hg : X.grownBy Y (Value.slice (ua f) (Q f).length (uc f)).ownBlock) (hat : ∀ g, (Value.slice a' m c').ownBlock = some g → (Value.slice (ua f) (Q f).length (uc f)).ownBlock = some g ∨ X.heap.size ≤ g) : PasAt Y rb nb o (upZ Q f L') (upZ ua f a') (upZ uc f c') := by
  subst hm
  refine ⟨by rw [hg.block nb h.lt fun e => h.pne f hf e.symm]; exact h.pas, fun j hj => ?_, h.pnr⟩
  by_cases e : j = f
  · subst e
    rw [upZ_same, upZ_same, upZ_same]
    intro h2
    rcases hat nb h2 with h3 | h3
    · exact h.pne j hj h3
    · have := h.lt
      omega
  · rw [upZ_other _ _ e, upZ_other _ _ e, upZ_other _ _ e]
    exact h.pne j hj
theorem PasAt.put {f g q : Nat} (h : PasAt X rb nb o Q ua uc) (hf : f < 3) (ha : ua f = some ⟨g, 0, none⟩) (v : Int) : PasAt (X.setCell ⟨g, q, none⟩ (.int .i64 v)) rb nb o (upZ Q f ((Q f).set q v)) ua uc := by
  have e : (Value.slice (ua f) (Q f).length (uc f)).ownBlock = some g := by rw [ha]; rfl
  have h2 := h.turn (Y := X.setCell ⟨g, q, none⟩ (.int .i64 v)) (L' := (Q f).set q v) (a' := some ⟨g, 0, none⟩) (c' := uc f) hf rfl (by rw [e]; exact grown_setCell _ _ _) (fun g2 hg2 => .inl (by rw [e]; simpa [Value.ownBlock] using hg2))
  have e1 : upZ ua f (some ⟨g, 0, none⟩) = ua := by rw [← ha]; exact upZ_self ua f
  have e2 : upZ uc f (uc f) = uc := upZ_self uc f
  rw [e1, e2] at h2
  exact h2
theorem TrZ.boxes {B b f : Nat} (h : TrZ X B 3 Q ua uc) (hf : f < 3) {cs : Array Value} {t : TypeId} (hb : X.heap[b]? = some (.cells cs t (0, 0))) (ht : t ≠ 3) (hg : X.grownBy Y (Value.slice (ua f) (Q f).length (uc f)).ownBlock) : Y.heap[b]? = some (.cells cs t (0, 0)) := by
  rw [hg.block b (Array.getElem?_eq_some_iff.1 hb).1 ?_]
  · exact hb
  · rcases (h.inn f hf).2 with ⟨hv, _⟩ | ⟨g, cap, cur, hv, _, hh, _⟩
    · rw [hv]; simp [Value.ownBlock]
    · rw [hv]
      intro e2
      have e3 : g = b := Eq.symm (by simpa [Value.ownBlock] using e2)
      subst e3
      rw [hb] at hh
      simp only [Option.some.injEq, Obj.cells.injEq] at hh
      exact ht hh.2.1
theorem TrZ.news {f : Nat} (h : TrZ X w.heap.size 3 Q ua uc) (hw : w.grownBy X none) (hf : f < 3) (hg : X.grownBy Y (Value.slice (ua f) (Q f).length (uc f)).ownBlock) : w.grownBy Y none := by
  cases hv : (Value.slice (ua f) (Q f).length (uc f)).ownBlock with
  | none => rw [hv] at hg; exact grown_trans hw hg
  | some g => rw [hv] at hg; exact grown_new hw hg ((h.inn f hf).lt g hv).1

/-- Rows under way, the box not yet told. -/
structure MiAt (w X : World) (rb xb nb : Nat) (bx : Array Value) (o : Obj) (p : Nat) (tv : Int) (Q : Nat → List Int) (ua : Nat → Option Addr) (uc : Nat → Nat) : Prop where
  grown : w.grownBy X none
  res : X.heap[w.heap.size]? = some (.cells #[.slice none 0 0, .slice none 0 0, .slice none 0 0] 26 (0, 0))
  box : X.heap[rb]? = some (.cells bx 26 (0, 0))
  rows : TrZ X w.heap.size 3 Q ua uc
  lo : w.heap.size < rb
  ed : EdAt X xb p tv
  pa : PasAt X rb nb o Q ua uc
variable {bx : Array Value}
theorem LyAt.mid (h : LyAt w X rb Q ua uc) (hx : EdAt X xb p tv) (hp : PasAt X rb nb o Q ua uc) : MiAt w X rb xb nb #[.slice (ua 0) (Q 0).length (uc 0), .slice (ua 1) (Q 1).length (uc 1), .slice (ua 2) (Q 2).length (uc 2)] o p tv Q ua uc := ⟨h.grown, h.res, h.box, h.rows, h.lo, hx, hp⟩
theorem MiAt.kept (h : MiAt w X rb xb nb bx o p tv Q ua uc) (hg : X.grownBy Y none) : MiAt w Y rb xb nb bx o p tv Q ua uc := ⟨grown_trans h.grown hg, box_kept h.res hg, box_kept h.box hg, h.rows.kept hg, h.lo, h.ed.kept hg, h.pa.kept hg⟩
theorem MiAt.turn {f m c' : Nat} {a' : Option Addr} {L' : List Int} (h : MiAt w X rb xb nb bx o p tv Q ua uc) (hf : f < 3) (hm : m = L'.length) (hg : X.grownBy Y (Value.slice (ua f) (Q f).length (uc f)).ownBlock) (ho : Y.ownsRow w.heap.size 3 1 (.slice a' m c') m (zV L')) (hat : ∀ g, (Value.slice a' m c').ownBlock = some g → (Value.slice (ua f) (Q f).length (uc f)).ownBlock = some g ∨ X.heap.size ≤ g) : MiAt w Y rb xb nb bx o p tv (upZ Q f L') (upZ ua f a') (upZ uc f c') :=
  ⟨h.rows.news h.grown hf hg, h.rows.boxes hf h.res (by decide) hg, h.rows.boxes hf h.box (by decide) hg, h.rows.turn hf hm hg ho hat, h.lo, h.rows.boxes hf h.ed (by decide) hg, h.pa.turn hf hm hg hat⟩
/-- A number is appended to a row; the box is told later. -/
theorem MiAt.app {f m g c' : Nat} {v : Int} (h : MiAt w X rb xb nb bx o p tv Q ua uc) (hf : f < 3) (hm : (Q f).length = m) (hZ : X.grownBy Y (Value.slice (ua f) m (uc f)).ownBlock) (ho : Y.ownsRow w.heap.size 3 1 (.slice (some ⟨g, 0, none⟩) (m + 1) c') (m + 1) (zV (Q f) ++ [.int .i64 v])) (hat : (Value.slice (ua f) m (uc f)).ownBlock = some g ∨ g = X.heap.size) :
    MiAt w Y rb xb nb bx o p tv (upZ Q f (Q f ++ [v])) (upZ ua f (some ⟨g, 0, none⟩)) (upZ uc f c') := by
  subst hm
  have hzz : zV (Q f ++ [v]) = zV (Q f) ++ [.int .i64 v] := by rw [zV_append]; rfl
  exact h.turn (m := (Q f).length + 1) (a' := some ⟨g, 0, none⟩) (c' := c') (L' := Q f ++ [v]) hf (by rw [List.length_append]; rfl) hZ (by rw [hzz]; exact ho) (fun g2 hg2 => by
    have e2 : g = g2 := by simpa [Value.ownBlock] using hg2
    subst e2
    rcases hat with h | h
    · exact .inl h
    · exact .inr (by omega))
/-- The box is told. -/
theorem MiAt.fin {s0 s1 s2 : Value} (h : MiAt w X rb xb nb #[s0, s1, s2] o p tv Q ua uc) (e0 : s0 = .slice (ua 0) (Q 0).length (uc 0)) :
    LyAt w ((X.setCell ⟨rb, 1, none⟩ (.slice (ua 1) (Q 1).length (uc 1))).setCell ⟨rb, 2, none⟩ (.slice (ua 2) (Q 2).length (uc 2))) rb Q ua uc ∧ EdAt ((X.setCell ⟨rb, 1, none⟩ (.slice (ua 1) (Q 1).length (uc 1))).setCell ⟨rb, 2, none⟩ (.slice (ua 2) (Q 2).length (uc 2))) xb p tv ∧ PasAt ((X.setCell ⟨rb, 1, none⟩ (.slice (ua 1) (Q 1).length (uc 1))).setCell ⟨rb, 2, none⟩ (.slice (ua 2) (Q 2).length (uc 2))) rb nb o Q ua uc := by
  subst e0
  have hb1 := heap_setCell_same _ _ 1 _ _ (.slice (ua 1) (Q 1).length (uc 1)) h.box
  have hb2 := heap_setCell_same _ _ 2 _ _ (.slice (ua 2) (Q 2).length (uc 2)) hb1
  have hlo := h.lo
  have hxb : xb ≠ rb := fun e => by
    have h1 := h.ed
    unfold EdAt at h1
    rw [e, h.box] at h1
    simp at h1
  refine ⟨⟨?_, ?_, hb2, ?_, hlo⟩, ?_, (h.pa.box 1 _).box 2 _⟩
  · exact grown_new (grown_new h.grown (grown_setCell _ _ _) (by omega)) (grown_setCell _ _ _) (by omega)
  · rw [heap_setCell_other _ _ _ _ (by show w.heap.size ≠ rb; omega), heap_setCell_other _ _ _ _ (by show w.heap.size ≠ rb; omega)]
    exact h.res
  · exact (h.rows.beside h.box (by decide) (grown_setCell _ _ _)).beside hb1 (by decide) (grown_setCell _ _ _)
  · unfold EdAt
    rw [heap_setCell_other _ _ _ _ hxb, heap_setCell_other _ _ _ _ hxb]
    exact h.ed

theorem MiAt.fst {m : Nat} (h : MiAt w X rb xb nb bx o p tv Q ua uc) (h1 : (Q 1).length = m) : ∀ Y, X.grownBy Y none → Y.ownsRow w.heap.size 3 1 (.slice (ua 1) m (uc 1)) m (zV (Q 1)) ∧ w.heap.size ≤ Y.heap.size := fun Y hY => by
  subst h1
  exact ⟨(h.kept hY).rows.inn 1 (by decide), (grown_trans h.grown hY).size⟩
/-- What is so once the first append is done, and once both are. -/
theorem MiAt.nxt {m : Nat} (h : MiAt w X rb xb nb #[.slice (ua 0) (Q 0).length (uc 0), .slice (ua 1) m (uc 1), .slice (ua 2) m (uc 2)] o p tv Q ua uc) (h1 : (Q 1).length = m) (h2 : (Q 2).length = m) :
    ∀ (Y Z : World) (g k : Nat), X.grownBy Y none → Y.grownBy Z (Value.slice (ua 1) m (uc 1)).ownBlock → Z.ownsRow w.heap.size 3 1 (.slice (some ⟨g, 0, none⟩) (m + 1) k) (m + 1) (zV (Q 1) ++ [.int .i64 0]) → ((Value.slice (ua 1) m (uc 1)).ownBlock = some g ∨ g = Y.heap.size) →
    (∀ Y, Z.grownBy Y none → Y.cell? ⟨rb, 2, none⟩ = some (.slice (ua 2) m (uc 2)) ∧ Y.ownsRow w.heap.size 3 1 (.slice (ua 2) m (uc 2)) m (zV (Q 2)) ∧ w.heap.size ≤ Y.heap.size) ∧
    (∀ (Y U : World) (g2 k2 : Nat), Z.grownBy Y none → Y.grownBy U (Value.slice (ua 2) m (uc 2)).ownBlock → U.ownsRow w.heap.size 3 1 (.slice (some ⟨g2, 0, none⟩) (m + 1) k2) (m + 1) (zV (Q 2) ++ [.int .i64 (-1)]) → ((Value.slice (ua 2) m (uc 2)).ownBlock = some g2 ∨ g2 = Y.heap.size) →
    U.cell? ⟨rb, 1, none⟩ = some (.slice (ua 1) m (uc 1)) ∧ U.frozen? ⟨rb, 1, none⟩ = false ∧ (U.setCell ⟨rb, 1, none⟩ (.slice (some ⟨g, 0, none⟩) (m + 1) k)).cell? ⟨rb, 2, none⟩ = some (.slice (ua 2) m (uc 2)) ∧ (U.setCell ⟨rb, 1, none⟩ (.slice (some ⟨g, 0, none⟩) (m + 1) k)).frozen? ⟨rb, 2, none⟩ = false ∧
    LyAt w ((U.setCell ⟨rb, 1, none⟩ (.slice (some ⟨g, 0, none⟩) (m + 1) k)).setCell ⟨rb, 2, none⟩ (.slice (some ⟨g2, 0, none⟩) (m + 1) k2)) rb (upZ (upZ Q 1 (Q 1 ++ [0])) 2 (Q 2 ++ [-1])) (upZ (upZ ua 1 (some ⟨g, 0, none⟩)) 2 (some ⟨g2, 0, none⟩)) (upZ (upZ uc 1 k) 2 k2) ∧
    EdAt ((U.setCell ⟨rb, 1, none⟩ (.slice (some ⟨g, 0, none⟩) (m + 1) k)).setCell ⟨rb, 2, none⟩ (.slice (some ⟨g2, 0, none⟩) (m + 1) k2)) xb p tv ∧
    PasAt ((U.setCell ⟨rb, 1, none⟩ (.slice (some ⟨g, 0, none⟩) (m + 1) k)).setCell ⟨rb, 2, none⟩ (.slice (some ⟨g2, 0, none⟩) (m + 1) k2)) rb nb o (upZ (upZ Q 1 (Q 1 ++ [0])) 2 (Q 2 ++ [-1])) (upZ (upZ ua 1 (some ⟨g, 0, none⟩)) 2 (some ⟨g2, 0, none⟩)) (upZ (upZ uc 1 k) 2 k2)) ∧
    ∀ b, X.heap.size ≤ b → b < Y.heap.size → Z.heap[b]? = Y.heap[b]? := by
  intro Y Z g k hY hZ ho hat
  have hz := (h.kept hY).app (f := 1) (by decide) h1 hZ ho hat
  have e2 : upZ Q 1 (Q 1 ++ [0]) 2 = Q 2 := upZ_other _ _ (by decide)
  have e3 : upZ ua 1 (some ⟨g, 0, none⟩) 2 = ua 2 := upZ_other _ _ (by decide)
  have e4 : upZ uc 1 k 2 = uc 2 := upZ_other _ _ (by decide)
  refine ⟨fun Y2 hY2 => ?_, fun Y2 U g2 k2 hY2 hU ho2 hat2 => ?_, fun b hb hby => hZ.block b hby fun e => ?_⟩
  · have hk := hz.kept hY2
    refine ⟨by rw [cell_of_row _ _ _ _ _ _ hk.box]; rfl, ?_, hk.grown.size⟩
    have h3 := hk.rows.inn 2 (by decide)
    rw [e2, e3, e4, h2] at h3
    exact h3
  · have hu := (hz.kept hY2).app (f := 2) (m := m) (v := -1) (by decide) (by rw [e2]; exact h2) (by rw [e3, e4]; exact hU) (by rw [e2]; exact ho2) (by rw [e3, e4]; exact hat2)
    rw [e2] at hu
    have hb1 := heap_setCell_same _ _ 1 _ _ (.slice (some ⟨g, 0, none⟩) (m + 1) k) hu.box
    refine ⟨by rw [cell_of_row _ _ _ _ _ _ hu.box]; rfl, frozen_of_row _ _ _ _ _ hu.box, by rw [cell_of_row _ _ _ _ _ _ hb1]; rfl, frozen_of_row _ _ _ _ _ hb1, ?_⟩
    have hf := MiAt.fin hu (by rfl)
    have l1 : (upZ (upZ Q 1 (Q 1 ++ [0])) 2 (Q 2 ++ [-1]) 1).length = m + 1 := by rw [upZ_other _ _ (by decide), upZ_same, List.length_append, h1]; rfl
    have l2 : (upZ (upZ Q 1 (Q 1 ++ [0])) 2 (Q 2 ++ [-1]) 2).length = m + 1 := by rw [upZ_same, List.length_append, h2]; rfl
    rw [l1, l2] at hf
    exact hf
  · have h3 := ((h.rows.inn 1 (by decide)).lt b (by rw [h1]; exact e.symm)).2
    omega
end

end Go.Proofs.Ytgmljpkenipgjaa.J

/-
  pack: the program's lay: a number more in two rows at once (printed by tools/pk_r9.py).
-/
namespace Go.Proofs.Ytgmljpkenipgjaa.J
open Go.RowKit Go.Maps Go.Shelf Pk

attribute [local go_sem] Oper.semAt_some
attribute [local go_sem ↓] Go.wp_at_zero Go.wp_at_succ

noncomputable def pgR9 : Code := ((Try.f42.body.map (regionsJ 9)).getD []).getD 0 .skip

set_option maxRecDepth 100000 in
set_option maxHeartbeats 8000000 in
theorem pg_r9 {K : Act → World → Prop} {w V : World} {rb xb nb m p : Nat} {tv : Int} {o : Obj} {Q : Nat → List Int} {ua : Nat → Option Addr} {uc : Nat → Nat}
    {v1 v2 v3 v4 v5 v6 v7 v8 v9 v10 v11 v12 v13 v14 v15 v16 v17 v18 v19 v20 v21 v22 v23 v24 v25 v26 v27 v28 v29 v30 v31 v32 v33 v34 v35 v36 v37 v38 v39 v40 v41 v42 v43 v44 v45 v46 v47 v48 v49 v50 v51 v52 v53 v54 v55 v56 v57 v58 v59 v60 v61 v62 v63 v64 v65 v66 v67 v68 v69 v70 v71 v72 v73 v74 v75 v76 : Value}
    (hM : MiAt w V rb xb nb #[.slice (ua 0) (Q 0).length (uc 0), .slice (ua 1) m (uc 1), .slice (ua 2) m (uc 2)] o p tv Q ua uc) (h1 : (Q 1).length = m) (h2 : (Q 2).length = m) (hm : m ≤ 134217728)
    (hexit : ∀ (U : World) (ua' : Nat → Option Addr) (uc' : Nat → Nat) (u43 u44 u45 u46 u47 u48 u49 u50 u51 u52 u53 u54 u55 u56 u57 u58 u59 u60 : Value), LyAt w U rb (upZ (upZ Q 1 (Q 1 ++ [0])) 2 (Q 2 ++ [-1])) ua' uc' → EdAt U xb p tv → PasAt U rb nb o (upZ (upZ Q 1 (Q 1 ++ [0])) 2 (Q 2 ++ [-1])) ua' uc' → K ⟨List.toArray (.pointer (some ⟨rb, 0, none⟩) :: v1 :: v2 :: v3 :: v4 :: v5 :: v6 :: v7 :: v8 :: v9 :: v10 :: v11 :: v12 :: v13 :: v14 :: v15 :: v16 :: v17 :: v18 :: v19 :: v20 :: v21 :: v22 :: v23 :: v24 :: v25 :: v26 :: v27 :: v28 :: v29 :: v30 :: v31 :: v32 :: v33 :: v34 :: v35 :: v36 :: v37 :: v38 :: v39 :: v40 :: v41 :: v42 :: u43 :: u44 :: u45 :: u46 :: u47 :: u48 :: u49 :: u50 :: u51 :: u52 :: u53 :: u54 :: u55 :: u56 :: u57 :: u58 :: u59 :: u60 :: v61 :: v62 :: v63 :: v64 :: v65 :: v66 :: v67 :: v68 :: v69 :: v70 :: v71 :: v72 :: v73 :: v74 :: v75 :: v76 :: []), []⟩ U) :
    Code.wp Try.prog pgR9 (OnEndJ K) ⟨List.toArray (.pointer (some ⟨rb, 0, none⟩) :: v1 :: v2 :: v3 :: v4 :: v5 :: v6 :: v7 :: v8 :: v9 :: v10 :: v11 :: v12 :: v13 :: v14 :: v15 :: v16 :: v17 :: v18 :: v19 :: v20 :: v21 :: v22 :: v23 :: v24 :: v25 :: v26 :: v27 :: v28 :: v29 :: v30 :: v31 :: v32 :: v33 :: v34 :: v35 :: v36 :: v37 :: v38 :: v39 :: v40 :: v41 :: v42 :: v43 :: v44 :: v45 :: v46 :: v47 :: v48 :: v49 :: v50 :: v51 :: v52 :: v53 :: v54 :: v55 :: v56 :: v57 :: v58 :: v59 :: v60 :: v61 :: v62 :: v63 :: v64 :: v65 :: v66 :: v67 :: v68 :: v69 :: v70 :: v71 :: v72 :: v73 :: v74 :: v75 :: v76 :: []), []⟩ V := by
  obtain ⟨i0, hi0, hz0, hz1, hz2⟩ := info_parts infoIntP
  have HA : Hid (∀ Y, V.grownBy Y none → Y.ownsRow w.heap.size 3 1 (.slice (ua 1) m (uc 1)) m (zV (Q 1)) ∧ w.heap.size ≤ Y.heap.size) := hM.fst h1
  have HB := hidP (hM.nxt h1 h2)
  obtain ⟨f1, hf1⟩ : ∃ v, v = ua 1 := ⟨_, rfl⟩
  obtain ⟨f2, hf2⟩ : ∃ v, v = ua 2 := ⟨_, rfl⟩
  obtain ⟨c1, hc1⟩ : ∃ v, v = uc 1 := ⟨_, rfl⟩
  obtain ⟨c2, hc2⟩ : ∃ v, v = uc 2 := ⟨_, rfl⟩
  have q1 : V.cell? ⟨rb, 1, none⟩ = some (.slice (ua 1) m (uc 1)) := by rw [cell_of_row _ _ _ _ _ _ hM.box]; rfl
  have q2 : V.cell? ⟨rb, 2, none⟩ = some (.slice (ua 2) m (uc 2)) := by rw [cell_of_row _ _ _ _ _ _ hM.box]; rfl
  obtain ⟨xs1, hxs1⟩ : ∃ v, v = zV (Q 1) := ⟨_, rfl⟩
  obtain ⟨xs2, hxs2⟩ : ∃ v, v = zV (Q 2) := ⟨_, rfl⟩
  rw [← hf1, ← hc1] at q1
  rw [← hf2, ← hc2] at q2
  rw [← hf1, ← hc1, ← hxs1] at HA
  rw [← hf1, ← hf2, ← hc1, ← hc2, ← hxs1, ← hxs2] at HB
  have HEX := hidP hexit
  have q1a : ∀ o', (V.alloc o').cell? ⟨rb, 1, none⟩ = some (.slice f1 m c1) := fun o' => (World.grownBy_alloc _ o' none).cell q1 (by simp)
  have q2a : ∀ o', (V.alloc o').cell? ⟨rb, 2, none⟩ = some (.slice f2 m c2) := fun o' => (World.grownBy_alloc _ o' none).cell q2 (by simp)
  have q1b : ∀ o' o'', ((V.alloc o').alloc o'').cell? ⟨rb, 1, none⟩ = some (.slice f1 m c1) := fun o' o'' => (World.grownBy_alloc _ o'' none).cell (q1a o') (by simp)
  have q2b : ∀ o' o'', ((V.alloc o').alloc o'').cell? ⟨rb, 2, none⟩ = some (.slice f2 m c2) := fun o' o'' => (World.grownBy_alloc _ o'' none).cell (q2a o') (by simp)
  clear hM hexit h1 h2 hf1 hf2 hc1 hc2 hxs1 hxs2
  conv => arg 2; whnf
  go_region_law (first
    | (refine step_append_liesW _ rfl (.tmp 48) (.tmp 49) 24 rfl w.heap.size 3 i0 (.int .i64 0) 1 8 Try.underlying24 hi0 hz0 hz1 hz2 rfl (by decide) (.slice f1 m c1) m xs1 (by first | (simp [Act.eval]; done) | simp [Act.eval, Act.put]) (HA.out _ (by repeat (first | exact grown_refl _ _ | refine grown_trans ?_ (grown_drewN _ _) | refine grown_trans ?_ (World.grownBy_alloc _ _ none)))).1 ⟨V.heap.size, 0, none⟩ 1 1 [.int .i64 0] (by simp [Act.eval]) rfl (World.news_of_block (by first | exact heap_alloc_last V _ | exact heap_alloc_two V _ _ | exact heap_alloc_snd V _ _)) (by simp [Value.oneCell']) (by decide) (by unfold maxLen; omega) (by omega) (HA.out _ (by repeat (first | exact grown_refl _ _ | refine grown_trans ?_ (grown_drewN _ _) | refine grown_trans ?_ (World.grownBy_alloc _ _ none)))).2 ?_; intro g9 k9 wB hoB hgB hatB; have HN := hidP (HB.out _ wB g9 k9 (by repeat (first | exact grown_refl _ _ | refine grown_trans ?_ (grown_drewN _ _) | refine grown_trans ?_ (World.grownBy_alloc _ _ none))) hgB hoB hatB); have z2 := (HN.out.1 wB (grown_refl _ _)).1; have z2a : ∀ o', (wB.alloc o').cell? ⟨rb, 2, none⟩ = some (.slice f2 m c2) := fun o' => (HN.out.1 _ (World.grownBy_alloc _ o' none)).1; clear hoB hgB hatB)
    | (refine step_append_liesW _ rfl (.tmp 48) (.tmp 49) 24 rfl w.heap.size 3 i0 (.int .i64 0) 1 8 Try.underlying24 hi0 hz0 hz1 hz2 rfl (by decide) (.slice f1 m c1) m xs1 (by first | (simp [Act.eval]; done) | simp [Act.eval, Act.put]) (HA.out _ (by repeat (first | exact grown_refl _ _ | refine grown_trans ?_ (grown_drewN _ _) | refine grown_trans ?_ (World.grownBy_alloc _ _ none)))).1 ⟨V.heap.size + 1, 0, none⟩ 1 1 [.int .i64 0] (by simp [Act.eval]) rfl (World.news_of_block (by first | exact heap_alloc_last V _ | exact heap_alloc_two V _ _ | exact heap_alloc_snd V _ _)) (by simp [Value.oneCell']) (by decide) (by unfold maxLen; omega) (by omega) (HA.out _ (by repeat (first | exact grown_refl _ _ | refine grown_trans ?_ (grown_drewN _ _) | refine grown_trans ?_ (World.grownBy_alloc _ _ none)))).2 ?_; intro g9 k9 wB hoB hgB hatB; have HN := hidP (HB.out _ wB g9 k9 (by repeat (first | exact grown_refl _ _ | refine grown_trans ?_ (grown_drewN _ _) | refine grown_trans ?_ (World.grownBy_alloc _ _ none))) hgB hoB hatB); have z2 := (HN.out.1 wB (grown_refl _ _)).1; have z2a : ∀ o', (wB.alloc o').cell? ⟨rb, 2, none⟩ = some (.slice f2 m c2) := fun o' => (HN.out.1 _ (World.grownBy_alloc _ o' none)).1; clear hoB hgB hatB)
    | (refine step_append_liesW _ rfl (.tmp 54) (.tmp 55) 24 rfl w.heap.size 3 i0 (.int .i64 0) 1 8 Try.underlying24 hi0 hz0 hz1 hz2 rfl (by decide) (.slice f2 m c2) m xs2 (by first | (simp [Act.eval]; done) | simp [Act.eval, Act.put]) (HN.out.1 _ (by repeat (first | exact grown_refl _ _ | refine grown_trans ?_ (grown_drewN _ _) | refine grown_trans ?_ (World.grownBy_alloc _ _ none)))).2.1 ⟨V.heap.size, 0, none⟩ 1 1 [.int .i64 (-1)] (by simp [Act.eval]) rfl (World.news_of_block (by first | exact heap_alloc_last wB _ | exact (HN.out.2.2 _ (Nat.le_refl _) (by first | (simp; done) | (simp; omega))).trans (heap_alloc_two V _ _) | exact (HN.out.2.2 _ (Nat.le_succ _) (by first | (simp; done) | (simp; omega))).trans (heap_alloc_snd V _ _))) (by simp [Value.oneCell']) (by decide) (by unfold maxLen; omega) (by omega) (HN.out.1 _ (by repeat (first | exact grown_refl _ _ | refine grown_trans ?_ (grown_drewN _ _) | refine grown_trans ?_ (World.grownBy_alloc _ _ none)))).2.2 ?_; intro g8 k8 wC hoC hgC hatC; obtain ⟨r1, r2, r3, r4, r5⟩ := HN.out.2.1 _ wC g8 k8 (by repeat (first | exact grown_refl _ _ | refine grown_trans ?_ (grown_drewN _ _) | refine grown_trans ?_ (World.grownBy_alloc _ _ none))) hgC hoC hatC; have HR5 := hidP r5; clear r5 hoC hgC hatC)
    | (refine step_append_liesW _ rfl (.tmp 54) (.tmp 55) 24 rfl w.heap.size 3 i0 (.int .i64 0) 1 8 Try.underlying24 hi0 hz0 hz1 hz2 rfl (by decide) (.slice f2 m c2) m xs2 (by first | (simp [Act.eval]; done) | simp [Act.eval, Act.put]) (HN.out.1 _ (by repeat (first | exact grown_refl _ _ | refine grown_trans ?_ (grown_drewN _ _) | refine grown_trans ?_ (World.grownBy_alloc _ _ none)))).2.1 ⟨V.heap.size + 1, 0, none⟩ 1 1 [.int .i64 (-1)] (by simp [Act.eval]) rfl (World.news_of_block (by first | exact heap_alloc_last wB _ | exact (HN.out.2.2 _ (Nat.le_refl _) (by first | (simp; done) | (simp; omega))).trans (heap_alloc_two V _ _) | exact (HN.out.2.2 _ (Nat.le_succ _) (by first | (simp; done) | (simp; omega))).trans (heap_alloc_snd V _ _))) (by simp [Value.oneCell']) (by decide) (by unfold maxLen; omega) (by omega) (HN.out.1 _ (by repeat (first | exact grown_refl _ _ | refine grown_trans ?_ (grown_drewN _ _) | refine grown_trans ?_ (World.grownBy_alloc _ _ none)))).2.2 ?_; intro g8 k8 wC hoC hgC hatC; obtain ⟨r1, r2, r3, r4, r5⟩ := HN.out.2.1 _ wC g8 k8 (by repeat (first | exact grown_refl _ _ | refine grown_trans ?_ (grown_drewN _ _) | refine grown_trans ?_ (World.grownBy_alloc _ _ none))) hgC hoC hatC; have HR5 := hidP r5; clear r5 hoC hgC hatC)
    | (refine step_append_liesW _ rfl (.tmp 54) (.tmp 55) 24 rfl w.heap.size 3 i0 (.int .i64 0) 1 8 Try.underlying24 hi0 hz0 hz1 hz2 rfl (by decide) (.slice f2 m c2) m xs2 (by first | (simp [Act.eval]; done) | simp [Act.eval, Act.put]) (HN.out.1 _ (by repeat (first | exact grown_refl _ _ | refine grown_trans ?_ (grown_drewN _ _) | refine grown_trans ?_ (World.grownBy_alloc _ _ none)))).2.1 ⟨wB.heap.size, 0, none⟩ 1 1 [.int .i64 (-1)] (by simp [Act.eval]) rfl (World.news_of_block (by first | exact heap_alloc_last wB _ | exact (HN.out.2.2 _ (Nat.le_refl _) (by first | (simp; done) | (simp; omega))).trans (heap_alloc_two V _ _) | exact (HN.out.2.2 _ (Nat.le_succ _) (by first | (simp; done) | (simp; omega))).trans (heap_alloc_snd V _ _))) (by simp [Value.oneCell']) (by decide) (by unfold maxLen; omega) (by omega) (HN.out.1 _ (by repeat (first | exact grown_refl _ _ | refine grown_trans ?_ (grown_drewN _ _) | refine grown_trans ?_ (World.grownBy_alloc _ _ none)))).2.2 ?_; intro g8 k8 wC hoC hgC hatC; obtain ⟨r1, r2, r3, r4, r5⟩ := HN.out.2.1 _ wC g8 k8 (by repeat (first | exact grown_refl _ _ | refine grown_trans ?_ (grown_drewN _ _) | refine grown_trans ?_ (World.grownBy_alloc _ _ none))) hgC hoC hatC; have HR5 := hidP r5; clear r5 hoC hgC hatC)
    | fail)
  all_goals exact HEX.out _ _ _ _ _ _ _ _ _ _ _ _ _ _ _ _ _ _ _ _ _ HR5.out.1 HR5.out.2.1 HR5.out.2.2

theorem pg_r9q {Q0 : Exit → Act → World → Prop} {w V : World} {rb xb nb m p : Nat} {tv : Int} {o : Obj} {Q : Nat → List Int} {ua : Nat → Option Addr} {uc : Nat → Nat}
    {v1 v2 v3 v4 v5 v6 v7 v8 v9 v10 v11 v12 v13 v14 v15 v16 v17 v18 v19 v20 v21 v22 v23 v24 v25 v26 v27 v28 v29 v30 v31 v32 v33 v34 v35 v36 v37 v38 v39 v40 v41 v42 v43 v44 v45 v46 v47 v48 v49 v50 v51 v52 v53 v54 v55 v56 v57 v58 v59 v60 v61 v62 v63 v64 v65 v66 v67 v68 v69 v70 v71 v72 v73 v74 v75 v76 : Value}
    (hM : MiAt w V rb xb nb #[.slice (ua 0) (Q 0).length (uc 0), .slice (ua 1) m (uc 1), .slice (ua 2) m (uc 2)] o p tv Q ua uc) (h1 : (Q 1).length = m) (h2 : (Q 2).length = m) (hm : m ≤ 134217728)
    (hexit : ∀ (U : World) (ua' : Nat → Option Addr) (uc' : Nat → Nat) (u43 u44 u45 u46 u47 u48 u49 u50 u51 u52 u53 u54 u55 u56 u57 u58 u59 u60 : Value), LyAt w U rb (upZ (upZ Q 1 (Q 1 ++ [0])) 2 (Q 2 ++ [-1])) ua' uc' → EdAt U xb p tv → PasAt U rb nb o (upZ (upZ Q 1 (Q 1 ++ [0])) 2 (Q 2 ++ [-1])) ua' uc' → Q0 .normal ⟨List.toArray (.pointer (some ⟨rb, 0, none⟩) :: v1 :: v2 :: v3 :: v4 :: v5 :: v6 :: v7 :: v8 :: v9 :: v10 :: v11 :: v12 :: v13 :: v14 :: v15 :: v16 :: v17 :: v18 :: v19 :: v20 :: v21 :: v22 :: v23 :: v24 :: v25 :: v26 :: v27 :: v28 :: v29 :: v30 :: v31 :: v32 :: v33 :: v34 :: v35 :: v36 :: v37 :: v38 :: v39 :: v40 :: v41 :: v42 :: u43 :: u44 :: u45 :: u46 :: u47 :: u48 :: u49 :: u50 :: u51 :: u52 :: u53 :: u54 :: u55 :: u56 :: u57 :: u58 :: u59 :: u60 :: v61 :: v62 :: v63 :: v64 :: v65 :: v66 :: v67 :: v68 :: v69 :: v70 :: v71 :: v72 :: v73 :: v74 :: v75 :: v76 :: []), []⟩ U) :
    Code.wp Try.prog pgR9 Q0 ⟨List.toArray (.pointer (some ⟨rb, 0, none⟩) :: v1 :: v2 :: v3 :: v4 :: v5 :: v6 :: v7 :: v8 :: v9 :: v10 :: v11 :: v12 :: v13 :: v14 :: v15 :: v16 :: v17 :: v18 :: v19 :: v20 :: v21 :: v22 :: v23 :: v24 :: v25 :: v26 :: v27 :: v28 :: v29 :: v30 :: v31 :: v32 :: v33 :: v34 :: v35 :: v36 :: v37 :: v38 :: v39 :: v40 :: v41 :: v42 :: v43 :: v44 :: v45 :: v46 :: v47 :: v48 :: v49 :: v50 :: v51 :: v52 :: v53 :: v54 :: v55 :: v56 :: v57 :: v58 :: v59 :: v60 :: v61 :: v62 :: v63 :: v64 :: v65 :: v66 :: v67 :: v68 :: v69 :: v70 :: v71 :: v72 :: v73 :: v74 :: v75 :: v76 :: []), []⟩ V :=
  wp_mono (pg_r9 (K := fun a w => Q0 .normal a w) hM h1 h2 hm hexit) fun e a w h => by
    cases e <;> first | exact h | exact h.elim

end Go.Proofs.Ytgmljpkenipgjaa.J

/-
  pack: the program's areRows.
-/
namespace Go.Proofs.Ytgmljpkenipgjaa.J
open Go.RowKit Go.Maps Go.Shelf Pk

attribute [local go_sem] Oper.semAt_some

set_option maxRecDepth 100000 in
set_option maxHeartbeats 2000000 in
theorem areRows_any (a : Option Addr) (N c : Nat) (R : Nat → List It) (la : Nat → Option Addr) (lc : Nat → Nat) (w : World) (hR : RsAt w a N R la lc) (hN : N ≤ 17592186044416) (hl : ∀ i, i < N → (R i).length ≤ 17592186044416) (r : Bool) (hr : r = true ↔ MayLay N R) :
    Calls Try.prog 28 #[.slice a N c] w fun e y => e = .returned (.bool r) ∧ w.grownBy y none := by
  have HR : Hid (∀ X, w.grownBy X none → RsAt X a N R la lc) := fun X hX => hR.kept hX
  have HLL : Hid (∀ i, i < N → (R i).length ≤ 17592186044416) := hl
  have HRR : Hid (r = true ↔ MayLay N R) := hr
  clear hR hl hr
  have HNO : Hid (¬ MayLay N R → false = r) := fun h => by
    cases hrr : r with
    | false => rfl
    | true => exact absurd (HRR.out.1 hrr) h
  by_cases hb : 256 < N
  · have d0 : decide ((256 : Int) < (N : Int)) = true := decide_eq_true (by omega)
    have d0' : decide (256 < N) = true := decide_eq_true hb
    have HF : Hid (false = r) := HNO.out fun h => by have := h.1; omega
    clear hb
    go_enter Try.func28, Try.ntmps28
    go_wp2_with fail
    go_ret
    exact ⟨congrArg (fun b => Ending.returned (Value.bool b)) HF.out, grown_refl _ _⟩
  · have d0 : decide ((256 : Int) < (N : Int)) = false := decide_eq_false (by omega)
    have d0' : decide (256 < N) = false := decide_eq_false hb
    have hN2 : N ≤ 256 := by omega
    clear hb
    go_enter Try.func28, Try.ntmps28
    go_wp2_with fail
    go_loopg [10] N (fun gk v4 wr => ∃ (k : Nat), k ≤ N ∧ gk = N - k ∧ v4 = .int .i64 k ∧ (∀ i, i < k → IsRow (R i)) ∧ w.grownBy wr none)
    case atStart => exact ⟨0, Nat.zero_le _, rfl, rfl, fun i hi => absurd hi (Nat.not_lt_zero _), grown_refl _ _⟩
    case round =>
      obtain ⟨k, hk, hgk, rfl, hrw, hg⟩ := hrel
      have HGK : Hid (gk = N - k) := hgk
      have HRW : Hid (∀ i, i < k → IsRow (R i)) := hrw
      have HG : Hid (w.grownBy wr none) := hg
      clear hgk hrw hg
      by_cases hkn : k < N
      · have hkd : decide ((k : Int) < (N : Int)) = true := decide_eq_true (by omega)
        have hkd' : decide (k < N) = true := decide_eq_true hkn
        have hk0 : (0 : Int) ≤ (k : Int) := by omega
        have hk1 : (k : Int) < (N : Int) := by omega
        have hRw := HR.out wr HG.out
        obtain ⟨ra, ro, rfl, cr⟩ : ∃ ra ro, a = some ⟨ra, ro, none⟩ ∧ wr.cell? ⟨ra, ro + k, none⟩ = some (.slice (la k) (R k).length (lc k)) := by
          rcases hRw.1 with h | ⟨ra, ro, e, h⟩
          · omega
          · exact ⟨ra, ro, e, h k hkn⟩
        obtain ⟨r2, hr2⟩ : ∃ r : Bool, r = true ↔ IsRow (R k) := by
          by_cases h : IsRow (R k)
          · exact ⟨true, by simp [h]⟩
          · exact ⟨false, by simp [h]⟩
        have HR2 : Hid (r2 = true ↔ IsRow (R k)) := hr2
        have HC : Hid (Calls Try.prog 40 #[.slice (la k) (R k).length (lc k)] wr fun e y => e = .returned (.bool r2) ∧ wr.grownBy y none) := isRow_any (la k) (lc k) (R k) wr (hRw.2 k hkn) (HLL.out k hkn) r2 hr2
        obtain ⟨ln, hln⟩ : ∃ v, v = (R k).length := ⟨_, rfl⟩
        rw [← hln] at cr HC
        clear hr2 hRw hln
        go_wp2_with fail
        refine Calls.mono HC.out ?_
        rintro e y ⟨rfl, hy⟩
        have HY : Hid (wr.grownBy y none) := hy
        clear hy HC cr
        cases r2 with
        | false =>
          have HF : Hid (false = r) := HNO.out fun h => absurd (HR2.out.2 (h.2 k hkn)) (by decide)
          go_wp2_with fail
          go_ret
          exact ⟨congrArg (fun b => Ending.returned (Value.bool b)) HF.out, grown_trans HG.out HY.out⟩
        | true =>
          have HRK : Hid (IsRow (R k)) := HR2.out.1 rfl
          go_wp2_with fail
          go_roundg (N - (k + 1))
          case measure => have := HGK.out; omega
          case rel =>
            refine ⟨k + 1, by omega, rfl, by go_num, fun i hi => ?_, grown_trans HG.out HY.out⟩
            by_cases e : i = k
            · subst e; exact HRK.out
            · exact HRW.out i (by omega)
      · have hkd : decide ((k : Int) < (N : Int)) = false := decide_eq_false (by omega)
        have hkd' : decide (k < N) = false := decide_eq_false hkn
        have hkk : k = N := by omega
        subst hkk
        have HF : Hid (true = r) := (HRR.out.2 ⟨hN2, HRW.out⟩).symm
        go_wp2_with fail
        go_ret
        exact ⟨congrArg (fun b => Ending.returned (Value.bool b)) HF.out, HG.out⟩

end Go.Proofs.Ytgmljpkenipgjaa.J

/-
  pack: the program's lay.
-/
namespace Go.Proofs.Ytgmljpkenipgjaa.J
open Go.RowKit Go.Maps Go.Shelf Pk

attribute [local go_sem] Oper.semAt_some

theorem pad_all {z x : Int} {l : List Int} {n : Nat} (h : x ∈ pad z l n) : x ∈ l ∨ x = z := by
  unfold pad at h
  rw [List.mem_append] at h
  rcases h with h | h
  · exact .inl h
  · exact .inr (List.eq_of_mem_replicate h)
/-- Owners are -1 or more. -/
theorem layR_ge (i b : Nat) : ∀ (l : List Ed) (s : List Int × List Int), (∀ x ∈ s.1, -1 ≤ x) → ∀ x ∈ (layR i b s l).1, -1 ≤ x
  | [], _, h => h
  | e :: l, s, h => by
    show ∀ x ∈ (layR i b (layE i b s e) l).1, -1 ≤ x
    refine layR_ge i b l _ fun x hx => ?_
    have h1 : x ∈ (pad (-1) s.1 (b + e.1.toNat + 1)).set (b + e.1.toNat) (i : Int) := hx
    rcases List.mem_or_eq_of_mem_set h1 with h2 | h2
    · rcases pad_all h2 with h3 | h3
      · exact h x h3
      · omega
    · omega

set_option maxRecDepth 100000 in
set_option maxHeartbeats 8000000 in
theorem layRow_any {w V : World} {rb nb i lc : Nat} {la : Option Addr} {o : Obj} {s : St} {ua0 : Nat → Option Addr} {uc0 : Nat → Nat} (l : List It) (hL : LyAt w V rb (lyS s) ua0 uc0) (hP : PasAt V rb nb o (lyS s) ua0 uc0) (hl : ∀ X, w.grownBy X none → ItsAt X la l) (hrow : IsRow l) (hlen : s.ow.length = s.va.length) (hol : s.ow.length ≤ 67108864 - 512) (hge : ∀ x ∈ s.ow, -1 ≤ x) (hi : i < s.bs.length) (hbs : s.bs.length ≤ 256) :
    Calls Try.prog 42 #[.pointer (some ⟨rb, 0, none⟩), .int .i64 (i : Int), .slice la l.length lc] V fun e y => e = .returned (.tuple #[]) ∧ ∃ ua uc, LyAt w y rb (lyS (layRow s i l)) ua uc ∧ PasAt y rb nb o (lyS (layRow s i l)) ua uc := by
  have HL0 : Hid (LyAt w V rb (lyS s) ua0 uc0) := hL
  have HP0 : Hid (PasAt V rb nb o (lyS s) ua0 uc0) := hP
  have HLI := hidP hl
  have HROW : Hid (IsRow l) := hrow
  have HE : Hid (s.ow.length = s.va.length) := hlen
  have HGE := hidP hge
  have HOL : Hid (s.ow.length ≤ 67108864 - 512) := hol
  have HI : Hid (i < s.bs.length ∧ s.bs.length ≤ 256) := ⟨hi, hbs⟩
  have hn2 : l.length ≤ 256 := hrow.1
  have hPP : ∀ e ∈ l, 0 ≤ e.1 ∧ e.1 < 256 := hrow.2.1
  have HPP := hidP hPP
  obtain ⟨n, hn⟩ : ∃ v, v = l.length := ⟨_, rfl⟩
  have HN : Hid (n = l.length) := hn
  rw [← hn] at hn2 ⊢
  have HFR : Hid (∀ (wr : World) (b : Nat), V.grownBy wr none → b ≤ s.ow.length → Calls Try.prog 56 #[.agg #[.slice (ua0 0) (lyS s 0).length (uc0 0), .slice (ua0 1) (lyS s 1).length (uc0 1), .slice (ua0 2) (lyS s 2).length (uc0 2)], .int .i64 (b : Int), .slice la n lc] wr fun e y => e = .returned (.bool (fitsB s.ow l b)) ∧ wr.grownBy y none) := fun wr b hg hb => by
    rw [hn]
    exact isFree_any _ _ (ua0 2) la (uc0 2) lc s.ow l b wr ((hL.kept hg).rows.ints (j := 2) (by decide)) hge (hl _ (grown_trans hL.grown hg)) hPP (by omega) (by omega) (by omega)
  have HPOS : Hid (∃ bb : Nat, bb = baseOf s.ow l) := ⟨_, rfl⟩
  clear hL hP hl hrow hlen hge hol hi hbs hPP hn
  obtain ⟨s0, hs0⟩ : ∃ v, v = Value.slice (ua0 0) (lyS s 0).length (uc0 0) := ⟨_, rfl⟩
  obtain ⟨s1, hs1⟩ : ∃ v, v = Value.slice (ua0 1) (lyS s 1).length (uc0 1) := ⟨_, rfl⟩
  obtain ⟨s2, hs2⟩ : ∃ v, v = Value.slice (ua0 2) (lyS s 2).length (uc0 2) := ⟨_, rfl⟩
  have HC : Hid (∀ X, V.grownBy X none → X.cell? ⟨rb, 0, none⟩ = some s0 ∧ X.cell? ⟨rb, 1, none⟩ = some s1 ∧ X.cell? ⟨rb, 2, none⟩ = some s2) := fun X hX => by
    rw [hs0, hs1, hs2]
    exact (HL0.out.kept hX).cell
  rw [← hs0, ← hs1, ← hs2] at HFR
  clear hs0 hs1 hs2
  go_enter Try.func42, Try.ntmps42
  go_wp2_with fail
  go_loopg [6] (s.ow.length + 1) (fun gk v6 wr => ∃ b : Nat, v6 = .int .i64 b ∧ b ≤ s.ow.length ∧ gk = s.ow.length + 1 - b ∧ Hid (∀ c, c < b → ¬ Fits s.ow l c) ∧ V.grownBy wr none)
  case atStart => exact ⟨0, rfl, Nat.zero_le _, rfl, fun c hc => absurd hc (by omega), grown_refl _ _⟩
  case round =>
    obtain ⟨b, rfl, hb, hgb, HLE, hg⟩ := hrel
    have HG : Hid (V.grownBy wr none) := hg
    have HGB : Hid (gk = s.ow.length + 1 - b) := hgb
    have HB : Hid (b ≤ s.ow.length) := hb
    obtain ⟨c0, c1, c2⟩ := HC.out wr hg
    have HCA := hidP (HFR.out wr b hg hb)
    have hb26 : b ≤ 67108864 - 512 := Nat.le_trans hb HOL.out
    clear hg hgb hb
    go_wp2_with fail
    refine Calls.mono HCA.out ?_
    rintro e y ⟨rfl, hy⟩
    have HY : Hid (V.grownBy y none) := grown_trans HG.out hy
    clear hy HCA c0 c1 c2
    cases hf : fitsB s.ow l b with
    | false =>
      go_wp2_with fail
      go_roundg (s.ow.length + 1 - (b + 1))
      case measure => have h1 := HGB.out; have h2 := HB.out; omega
      case rel =>
        have hnx := baseOf_next HLE.out hf
        exact ⟨b + 1, by go_num, base_le hnx, rfl, hnx, HY.out⟩
    | true =>
      have HBE : Hid (baseOf s.ow l = b) := baseOf_eq ((fitsB_iff _ _ _).1 hf) HLE.out
      clear hf
      have hLy := HL0.out.kept HY.out
      have hPy := HP0.out.kept HY.out
      obtain ⟨bg, hbg, k1, k2⟩ := hLy.at (f := 0) (q := i) (by decide) HI.out.1
      have d0 := hLy.cell.1
      obtain ⟨bl, hbl⟩ : ∃ v, v = s.bs.length := ⟨_, rfl⟩
      have hbl2 : (lyS s 0).length = bl := hbl.symm
      rw [hbg, hbl2] at d0
      have hi0 : (0 : Int) ≤ (i : Int) := by omega
      have hi1 : (i : Int) < (bl : Int) := by have := HI.out.1; omega
      have hp0 := hLy.put (f := 0) (q := i) (by decide) hbg (b : Int)
      have hp1 := hPy.put (f := 0) (q := i) (by decide) hbg (b : Int)
      obtain ⟨Z, hZ⟩ : ∃ Z, Z = y.setCell ⟨bg, i, none⟩ (.int .i64 (b : Int)) := ⟨_, rfl⟩
      rw [← hZ] at hp0 hp1
      have eq0 : upZ (lyS s) 0 ((lyS s 0).set i (b : Int)) = lyQ (s.bs.set i (b : Int)) s.va s.ow := lyQ_0 s.bs s.va s.ow (s.bs.set i (b : Int))
      rw [eq0] at hp0 hp1
      obtain ⟨bs', hbs'⟩ : ∃ v, v = s.bs.set i (b : Int) := ⟨_, rfl⟩
      rw [← hbs'] at hp0 hp1
      have HBS : Hid (bs' = s.bs.set i (b : Int)) := hbs'
      have HLZ : Hid (LyAt w Z rb (lyQ bs' (layR i b (s.ow, s.va) (l.take 0)).2 (layR i b (s.ow, s.va) (l.take 0)).1) ua0 uc0) := hp0
      have HPZ : Hid (PasAt Z rb nb o (lyQ bs' (layR i b (s.ow, s.va) (l.take 0)).2 (layR i b (s.ow, s.va) (l.take 0)).1) ua0 uc0) := hp1
      clear hLy hPy hbg hbl hbl2 hp0 hp1 eq0 hbs' HLE HG HGB HFR HC
      go_wp2_with fail
      rw [← hZ]
      clear hZ d0 k1 k2 hi1
      go_loopg [28] n (fun gk v9 wr => ∃ (k : Nat) (ua : Nat → Option Addr) (uc : Nat → Nat), k ≤ n ∧ gk = n - k ∧ v9 = .int .i64 k ∧ LyAt w wr rb (lyQ bs' (layR i b (s.ow, s.va) (l.take k)).2 (layR i b (s.ow, s.va) (l.take k)).1) ua uc ∧ PasAt wr rb nb o (lyQ bs' (layR i b (s.ow, s.va) (l.take k)).2 (layR i b (s.ow, s.va) (l.take k)).1) ua uc)
      case atStart => exact ⟨0, ua0, uc0, Nat.zero_le _, rfl, rfl, HLZ.out, HPZ.out⟩
      case round =>
        clear HLZ HPZ HL0 HP0 HY
        obtain ⟨k, ua, uc, hk, hgk, rfl, hL, hP⟩ := hrel
        have HGK : Hid (gk = n - k) := hgk
        have HL := hidP hL
        have HPA := hidP hP
        clear hgk hL hP
        by_cases hkn : k < n
        · have hkl : k < l.length := by rw [← HN.out]; exact hkn
          have hkd : decide ((k : Int) < (n : Int)) = true := decide_eq_true (by omega)
          have hkd' : decide (k < n) = true := decide_eq_true hkn
          obtain ⟨lb, lo, rfl, ce0, ce1⟩ : ∃ lb lo, la = some ⟨lb, lo, none⟩ ∧ wr.cell? ⟨lb, lo + k * 2, none⟩ = some (.int .i64 (l.getD k (0, 0)).1) ∧ wr.cell? ⟨lb, lo + k * 2 + 1, none⟩ = some (.int .i64 (l.getD k (0, 0)).2) := by
            rcases HLI.out wr HL.out.grown with h | ⟨lb, lo, e, h⟩
            · rw [h] at hkl; cases hkl
            · exact ⟨lb, lo, e, (h k hkl).1, (h k hkl).2⟩
          have hpx : 0 ≤ (l.getD k (0, 0)).1 ∧ (l.getD k (0, 0)).1 < 256 := by
            have : l.getD k (0, 0) ∈ l := by rw [List.getD_eq_getElem?_getD, List.getElem?_eq_getElem hkl]; exact List.getElem_mem _
            exact HPP.out _ this
          obtain ⟨e, he⟩ : ∃ e, e = l.getD k (0, 0) := ⟨_, rfl⟩
          have HEE : Hid (e = l.getD k (0, 0)) := he
          rw [← he] at ce0 ce1 hpx
          obtain ⟨x, tv⟩ := e
          obtain ⟨p, rfl⟩ := Int.eq_ofNat_of_zero_le hpx.1
          have hp : p < 256 := by have := hpx.2; simp only [] at this; omega
          have hk0 : (0 : Int) ≤ (k : Int) := by omega
          have hk1 : (k : Int) < (n : Int) := by omega
          obtain ⟨q, hq⟩ : ∃ q, q = b + p := ⟨_, rfl⟩
          have HQQ : Hid (q = b + p) := hq
          have hwr : IntKind.i64.wrap ((b : Int) + (p : Int)) = (q : Int) := by rw [IntKind.wrap_i64, hq]; omega
          have hq26 : q ≤ 67108864 - 256 := by omega
          clear he hpx hq
          simp only [] at ce0 ce1
          go_wp2_with fail
          obtain ⟨s1, hs1⟩ : ∃ s1, s1 = layR i b (s.ow, s.va) (l.take k) := ⟨_, rfl⟩
          have HS1 : Hid (s1 = layR i b (s.ow, s.va) (l.take k)) := hs1
          obtain ⟨g1, g2, g3⟩ := layR_len i b (l.take k) (s.ow, s.va) HE.out (fun e he => HPP.out e (List.mem_of_mem_take he))
          rw [← hs1] at g1 g2 g3 HL HPA
          obtain ⟨xb, hxb⟩ : ∃ v, v = wr.heap.size := ⟨_, rfl⟩
          have HX0 : Hid (EdAt (wr.alloc (.cells #[.int .i64 (p : Int), .int .i64 tv] 60)) xb p tv) := by rw [hxb]; exact heap_alloc_last wr _
          have HL1 : Hid (LyAt w (wr.alloc (.cells #[.int .i64 (p : Int), .int .i64 tv] 60)) rb (lyQ bs' s1.2 s1.1) ua uc) := HL.out.kept (World.grownBy_alloc _ _ none)
          have HP1 : Hid (PasAt (wr.alloc (.cells #[.int .i64 (p : Int), .int .i64 tv] 60)) rb nb o (lyQ bs' s1.2 s1.1) ua uc) := HPA.out.kept (World.grownBy_alloc _ _ none)
          have HG1 : Hid (s1.1.length = s1.2.length) := g1
          have hg3 : s1.1.length ≤ 67108864 := by have h1 := HOL.out; simp only [] at g3; omega
          obtain ⟨L, hLl⟩ : ∃ v, v = s1.1.length := ⟨_, rfl⟩
          have HLL : Hid (L = s1.1.length) := hLl
          rw [← hLl] at hg3
          have HSS : Hid (pad 0 s1.2 L = s1.2 ∧ pad (-1) s1.1 L = s1.1) := ⟨pad_same _ _ _ (by omega), pad_same _ _ _ (by omega)⟩
          rw [← hxb]
          clear hs1 g1 g2 g3 ce0 ce1 hLl hxb HL HPA
          go_loopg [] (q + 1 - L) (fun gk wr => ∃ (m : Nat) (ua : Nat → Option Addr) (uc : Nat → Nat), L ≤ m ∧ m ≤ max L (q + 1) ∧ gk = q + 1 - m ∧ LyAt w wr rb (lyQ bs' (pad 0 s1.2 m) (pad (-1) s1.1 m)) ua uc ∧ EdAt wr xb p tv ∧ PasAt wr rb nb o (lyQ bs' (pad 0 s1.2 m) (pad (-1) s1.1 m)) ua uc)
          case atStart => exact ⟨L, ua, uc, Nat.le_refl _, Nat.le_max_left _ _, rfl, by rw [HSS.out.1, HSS.out.2]; exact HL1.out, HX0.out, by rw [HSS.out.1, HSS.out.2]; exact HP1.out⟩
          case round =>
            clear HL1 HX0 HP1 HSS
            obtain ⟨m, ua, uc, hm1, hm2, hgm, hl, hx, hpa⟩ := hrel
            have HGM : Hid (gk = q + 1 - m) := hgm
            obtain ⟨Q, hQe⟩ : ∃ v, v = lyQ bs' (pad 0 s1.2 m) (pad (-1) s1.1 m) := ⟨_, rfl⟩
            have HQE : Hid (Q = lyQ bs' (pad 0 s1.2 m) (pad (-1) s1.1 m)) := hQe
            have hlo : (Q 2).length = m := by
              rw [hQe]
              show (pad (-1) s1.1 m).length = m
              rw [pad_len, ← HLL.out]; omega
            have hlv : (Q 1).length = m := by
              rw [hQe]
              show (pad 0 s1.2 m).length = m
              rw [pad_len, ← HG1.out, ← HLL.out]; omega
            rw [← hQe] at hl hpa
            obtain ⟨c0, c1, c2⟩ := hl.cell
            rw [hlo] at c2
            rw [hlv] at c1
            by_cases hmq : m ≤ q
            · have d0 : decide ((m : Int) ≤ (q : Int)) = true := decide_eq_true (by omega)
              have d0' : decide (m ≤ q) = true := decide_eq_true hmq
              have hmid := hl.mid hx hpa
              rw [hlo, hlv] at hmid
              have HMID := hidP hmid
              have hmb : m ≤ 134217728 := by omega
              have HLO : Hid ((Q 1).length = m ∧ (Q 2).length = m) := ⟨hlv, hlo⟩
              clear hl hx hpa hmid hgm hQe hlo hlv c0 c1
              conv in (Code.region 9 _ _) => change pgR9
              go_wp2_with fail
              refine pg_r9q HMID.out HLO.out.1 HLO.out.2 hmb ?_
              intro U ua' uc' u43 u44 u45 u46 u47 u48 u49 u50 u51 u52 u53 u54 u55 u56 u57 u58 u59 u60 hL2 hX2 hP2
              have HL2 := hidP hL2
              have HX2 := hidP hX2
              have HP2 := hidP hP2
              clear hL2 hX2 hP2
              go_wp2_with fail
              go_roundg (q + 1 - (m + 1))
              case measure => have h1 := HGM.out; omega
              case rel =>
                have e2 : pad (-1) s1.1 (m + 1) = pad (-1) s1.1 m ++ [-1] := pad_snoc _ _ _ (by rw [← HLL.out]; exact hm1)
                have e1 : pad 0 s1.2 (m + 1) = pad 0 s1.2 m ++ [0] := pad_snoc _ _ _ (by rw [← HG1.out, ← HLL.out]; exact hm1)
                have ee : ∀ j, j < 3 → upZ (upZ Q 1 (Q 1 ++ [0])) 2 (Q 2 ++ [-1]) j = lyQ bs' (pad 0 s1.2 (m + 1)) (pad (-1) s1.1 (m + 1)) j := fun j hj => by
                  rw [HQE.out, e1, e2]
                  match j, hj with
                  | 0, _ => rfl
                  | 1, _ => rfl
                  | 2, _ => rfl
                exact ⟨m + 1, ua', uc', by omega, by omega, rfl, HL2.out.ext ee, HX2.out, HP2.out.ext ee⟩
            · have d0 : decide ((m : Int) ≤ (q : Int)) = false := decide_eq_false (by omega)
              have d0' : decide (m ≤ q) = false := decide_eq_false hmq
              have hq0 : (0 : Int) ≤ (q : Int) := by omega
              have hq1 : (q : Int) < (m : Int) := by omega
              obtain ⟨og, hog, o1, o2⟩ := hl.at (f := 2) (q := q) (by decide) (by rw [hlo]; omega)
              obtain ⟨vg, hvg, v1, v2⟩ := hl.at (f := 1) (q := q) (by decide) (by rw [hlv]; omega)
              rw [hog] at c2
              rw [hvg] at c1
              obtain ⟨oz, hoz⟩ : ∃ v, v = (Q 2).getD q 0 := ⟨_, rfl⟩
              obtain ⟨vz, hvz⟩ : ∃ v, v = (Q 1).getD q 0 := ⟨_, rfl⟩
              rw [← hoz] at o1
              rw [← hvz] at v1
              obtain ⟨v', hy'⟩ := cell?_setCell_some (w := wr) (p := ⟨vg, q, none⟩) (x := .int .i64 tv) (q := ⟨og, q, none⟩) o1
              have x0 : wr.cell? ⟨xb, 0, none⟩ = some (.int .i64 (p : Int)) := by rw [cell_of_row _ _ _ _ _ _ hx]; rfl
              have x1 : wr.cell? ⟨xb, 1, none⟩ = some (.int .i64 tv) := by rw [cell_of_row _ _ _ _ _ _ hx]; rfl
              have hmx : ∀ (z : Int) (t : List Int), t.length = L → pad z t m = pad z t (q + 1) := fun z t e => by
                unfold pad
                rw [e, show m - L = q + 1 - L by omega]
              have h1 := hl.put (f := 1) (q := q) (by decide) hvg tv
              have h2 := hpa.put (f := 1) (q := q) (by decide) hvg tv
              have h3 := h1.put (f := 2) (q := q) (by decide) hog (i : Int)
              have h4 := h2.put (f := 2) (q := q) (by decide) hog (i : Int)
              have ee : ∀ j, j < 3 → upZ (upZ Q 1 ((Q 1).set q tv)) 2 ((upZ Q 1 ((Q 1).set q tv) 2).set q (i : Int)) j = lyQ bs' (layR i b (s.ow, s.va) (l.take (k + 1))).2 (layR i b (s.ow, s.va) (l.take (k + 1))).1 j := fun j hj => by
                rw [layR_snoc i b (s.ow, s.va) hkl, ← HS1.out, ← HEE.out, hQe, hmx 0 _ (by rw [← HG1.out, HLL.out]), hmx (-1) _ (by rw [HLL.out]), HQQ.out]
                match j, hj with
                | 0, _ => rfl
                | 1, _ => rfl
                | 2, _ => rfl
              have H3 := hidP (h3.ext ee)
              have H4 := hidP (h4.ext ee)
              clear h1 h2 h3 h4 hl hx hpa hgm hQe hlo hlv c0 hoz hvz hog hvg hmx
              go_wp2_with fail
              go_region
              all_goals go_wp2_with fail
              go_roundg (n - (k + 1))
              case measure => have h1 := HGK.out; omega
              case rel => exact ⟨k + 1, _, _, by omega, rfl, by go_num, H3.out.kept (grown_drewN _ 1), H4.out.kept (grown_drewN _ 1)⟩
        · have hkd : decide ((k : Int) < (n : Int)) = false := decide_eq_false (by omega)
          have hkd' : decide (k < n) = false := decide_eq_false hkn
          have hkk : k = n := by omega
          subst hkk
          have e : l.take k = l := by rw [HN.out, List.take_length]
          have eS : lyS (layRow s i l) = lyQ bs' (layR i b (s.ow, s.va) l).2 (layR i b (s.ow, s.va) l).1 := by
            unfold layRow lyS
            rw [HBE.out, HBS.out]
          have HFL : Hid (LyAt w wr rb (lyS (layRow s i l)) ua uc) := by
            have h := HL.out
            rw [e] at h
            show LyAt w wr rb (lyS (layRow s i l)) ua uc
            rw [eS]
            exact h
          have HFP : Hid (PasAt wr rb nb o (lyS (layRow s i l)) ua uc) := by
            have h := HPA.out
            rw [e] at h
            show PasAt wr rb nb o (lyS (layRow s i l)) ua uc
            rw [eS]
            exact h
          clear e eS
          go_wp2_with fail
          go_end0
          exact ⟨rfl, ua, uc, HFL.out, HFP.out⟩

end Go.Proofs.Ytgmljpkenipgjaa.J

/-
  pack: the program's laid and Lay: as the document's.
-/
namespace Go.Proofs.Ytgmljpkenipgjaa.J
open Go.RowKit Go.Maps Go.Shelf Pk

attribute [local go_sem] Oper.semAt_some

theorem owns_lowP {w : World} {base base' e size n : Nat} {v : Value} {xs : List Value} (h : w.ownsRow base e size v n xs) (hb : base' ≤ base) : w.ownsRow base' e size v n xs := by
  obtain ⟨h1, h2⟩ := h
  refine ⟨h1, ?_⟩
  rcases h2 with h | ⟨g, cap, cur, a, b, c⟩
  · exact .inl h
  · exact .inr ⟨g, cap, cur, a, Nat.le_trans hb b, c⟩
theorem TrZ.lower {X : World} {B B' n : Nat} {Q : Nat → List Int} {ua : Nat → Option Addr} {uc : Nat → Nat} (h : TrZ X B n Q ua uc) (hb : B' ≤ B) : TrZ X B' n Q ua uc := ⟨fun j hj => owns_lowP (h.inn j hj) hb, h.sep⟩

/-- The rows laid so far, of an order. -/
noncomputable def stK (R : Nat → List Ed) (N k : Nat) : St := ((ordA R N).take k).foldl (stepO R) ⟨List.replicate N 0, [], []⟩
theorem stK_zero (R : Nat → List Ed) (N : Nat) : stK R N 0 = layD R N 0 := by unfold stK; rw [List.take_zero]; rfl
theorem stK_step (R : Nat → List Ed) (N k : Nat) (hk : k < (ordA R N).length) : stK R N (k + 1) = layRow (stK R N k) ((ordA R N).getD k 0) (R ((ordA R N).getD k 0)) := by
  unfold stK
  rw [List.take_add_one, List.getElem?_eq_getElem hk, Option.toList_some, List.foldl_append, List.getD_eq_getElem?_getD, List.getElem?_eq_getElem hk]
  rfl
theorem stK_all (R : Nat → List Ed) (N : Nat) : stK R N (ordA R N).length = lay R N := by
  unfold stK
  rw [List.take_length, lay_ord]
theorem stK_ok (R : Nat → List Ed) (N : Nat) (hM : MayLay N R) : ∀ k, k ≤ (ordA R N).length → StOK N k (stK R N k) ∧ ∀ x ∈ (stK R N k).ow, -1 ≤ x
  | 0, _ => by
    rw [stK_zero]
    exact ⟨StOK.start N, fun x hx => by cases hx⟩
  | k + 1, hk => by
    obtain ⟨h1, h2⟩ := stK_ok R N hM k (by omega)
    rw [stK_step R N k (by omega)]
    have hi : (ordA R N).getD k 0 < N := by
      refine (ordA_mem R N _ fun i hi => (hM.2 i hi).1).1 ?_
      rw [List.getD_eq_getElem?_getD, List.getElem?_eq_getElem (by omega)]
      exact List.getElem_mem _
    refine ⟨h1.row (hM.2 _ hi).2.1, ?_⟩
    show ∀ x ∈ (layR _ _ ((stK R N k).ow, (stK R N k).va) _).1, -1 ≤ x
    exact layR_ge _ _ _ _ h2
theorem ordA_len (R : Nat → List Ed) (N : Nat) (hM : MayLay N R) : (ordA R N).length = N := by
  have h1 : (ordA R N).Nodup := (ordA_pw R N).imp fun {a b} h e => by subst e; exact Bef.irr R a h
  have h2 : (ordA R N).Perm (List.range N) := by
    rw [List.perm_ext_iff_of_nodup h1 List.nodup_range]
    intro x
    rw [ordA_mem R N x fun i hi => (hM.2 i hi).1, List.mem_range]
  have := h2.length_eq
  simpa using this

theorem results_laid (tmps : Array Value) (w : World) (g : Nat) (cs : Array Value) (h2 : tmps.getD 2 undef = .pointer (some ⟨g, 0, none⟩)) (hg : w.heap[g]? = some (.cells cs 26 (0, 0))) (hs : cs.size = 3) :
    (results Try.f29 tmps).run Try.prog w = .ok (.agg cs) w := by
  have h2' : tmps[2]?.getD undef = .pointer (some ⟨g, 0, none⟩) := by simpa using h2
  have hl := run_loadVar_row (P := Try.prog) w g 26 26 cs (0, 0) _ hg Try.underlying26 rfl (by rw [hs]; kernel_rfl)
  simp [results, Try.results29, h2', asAddr, hl]
theorem results_layM (tmps : Array Value) (w : World) (g : Nat) (cs : Array Value) (v : Value) (h2 : tmps.getD 2 undef = .pointer (some ⟨g, 0, none⟩)) (h3 : tmps.getD 3 undef = v) (hg : w.heap[g]? = some (.cells cs 26 (0, 0))) (hs : cs.size = 3) :
    (results Try.f10 tmps).run Try.prog w = .ok (.tuple #[.agg cs, v]) w := by
  have h2' : tmps[2]?.getD undef = .pointer (some ⟨g, 0, none⟩) := by simpa using h2
  have h3' : tmps[3]?.getD undef = v := by simpa using h3
  have hl := run_loadVar_row (P := Try.prog) w g 26 26 cs (0, 0) _ hg Try.underlying26 rfl (by rw [hs]; kernel_rfl)
  simp [results, Try.results10, h2', h3', asAddr, hl]

/-- What laid tells. -/
def LaidTold (N : Nat) (R : Nat → List It) (w : World) (e : Ending) (y : World) : Prop := ∃ (ua : Nat → Option Addr) (uc : Nat → Nat), e = .returned (.agg #[.slice (ua 0) (lay R N).bs.length (uc 0), .slice (ua 1) (lay R N).va.length (uc 1), .slice (ua 2) (lay R N).ow.length (uc 2)]) ∧ TrZ y w.heap.size 3 (lyS (lay R N)) ua uc ∧ w.grownBy y none

set_option maxRecDepth 100000 in
set_option maxHeartbeats 4000000 in
theorem laid_any (a : Option Addr) (N c : Nat) (R : Nat → List It) (la : Nat → Option Addr) (lc : Nat → Nat) (w : World) (hR : RsAt w a N R la lc) (hM : MayLay N R) :
    Calls Try.prog 29 #[.slice a N c] w fun e y => LaidTold N R w e y := by
  have HR : Hid (∀ X, w.grownBy X none → RsAt X a N R la lc) := fun X hX => hR.kept hX
  have HM : Hid (MayLay N R) := hM
  obtain ⟨i0, hi0, hz0, hz1, hz2⟩ := info_parts infoIntP
  have hN2 : N ≤ 256 := hM.1
  have HX0 : Hid ((w.alloc (.cells #[.slice none 0 0, .slice none 0 0, .slice none 0 0] 26)).heap[w.heap.size]? = some (.cells #[.slice none 0 0, .slice none 0 0, .slice none 0 0] 26 (0, 0))) := heap_alloc_last w _
  have HG0 : Hid (w.grownBy (w.alloc (.cells #[.slice none 0 0, .slice none 0 0, .slice none 0 0] 26)) none) := World.grownBy_alloc _ _ none
  clear hR hM
  go_enter Try.func29, Try.ntmps29
  go_wp2_with (at_make; refine wpList_make_full _ rfl _ _ 24 rfl (w.alloc (.cells #[.slice none 0 0, .slice none 0 0, .slice none 0 0] 26)).heap.size 3 i0 (.int .i64 0) 1 Try.underlying24 hi0 hz0 hz1 .i64 .i64 _ _ N rfl rfl (by simp) (by simp) (by rw [hz2]; omega) (by unfold maxLen; omega) (by simp) ?_)
  intro w3 hown hgrow
  obtain ⟨bb, hbb⟩ : ∃ v, v = w.heap.size + 1 := ⟨_, rfl⟩
  rw [← hbb] at hown ⊢
  have hval : ValAt w3 bb N 3 (fun _ => .int .i64 0) := made_rowK (B := bb) rfl (by simpa [Value.cells, hbb] using hown)
  have HLS : Hid (LyAt w (w3.alloc (.cells #[.slice (some ⟨bb, 0, none⟩) N N, .slice none 0 0, .slice none 0 0] 26)) w3.heap.size (lyS (layD R N 0)) (fun j => if j = 0 then some ⟨bb, 0, none⟩ else none) (fun j => if j = 0 then N else 0)) := ly_start (grown_trans HG0.out hgrow) (box_kept HX0.out hgrow) hval (by omega) hN2 R
  clear hown hgrow hval hbb HX0 HG0
  obtain ⟨X, hX⟩ : ∃ X, X = w3.alloc (.cells #[.slice (some ⟨bb, 0, none⟩) N N, .slice none 0 0, .slice none 0 0] 26) := ⟨_, rfl⟩
  obtain ⟨rb, hrb⟩ : ∃ v, v = w3.heap.size := ⟨_, rfl⟩
  rw [← hX, ← hrb] at HLS
  have HBY : Hid (Calls Try.prog 41 #[.slice a N c] X fun e y => ByTold N R X e y) := byEdges_any a N c R la lc X (HR.out X HLS.out.grown) hN2 (fun i hi => (HM.out.2 i hi).1)
  go_wp2_with fail
  rw [← hX, ← hrb]
  clear hX hrb
  refine Calls.mono HBY.out ?_
  rintro e y ⟨nb, rfl, hnb, hvn, hgy⟩
  have HL0 : Hid (LyAt w y rb (lyS (stK R N 0)) (fun j => if j = 0 then some ⟨bb, 0, none⟩ else none) (fun j => if j = 0 then N else 0)) := by
    show LyAt w y rb _ _ _
    rw [stK_zero]
    exact HLS.out.kept hgy
  have HP0 : Hid (PasAt y rb nb (.cells ((List.range N).map fun i => Value.int .i64 ((ordA R N).getD i 0 : Nat)).toArray 3 (0, 0)) (lyS (stK R N 0)) (fun j => if j = 0 then some ⟨bb, 0, none⟩ else none) (fun j => if j = 0 then N else 0)) := by
    show PasAt y rb nb _ _ _ _
    rw [stK_zero]
    refine ⟨hvn, fun j hj h => ?_, fun h => ?_⟩
    · have := ((HLS.out.rows.inn j hj).lt nb h).2
      omega
    · have := (Array.getElem?_eq_some_iff.1 HLS.out.box).1
      omega
  clear hnb hvn hgy HBY HLS
  go_wp2_with fail
  have hOL := ordA_len R N HM.out
  have HOL : Hid ((ordA R N).length = N) := hOL
  clear hOL
  go_loopg [13] N (fun gk v wr => ∃ (k : Nat) (ua : Nat → Option Addr) (uc : Nat → Nat), k ≤ N ∧ gk = N - k ∧ v = .int .i64 k ∧ LyAt w wr rb (lyS (stK R N k)) ua uc ∧ PasAt wr rb nb (.cells ((List.range N).map fun i => Value.int .i64 ((ordA R N).getD i 0 : Nat)).toArray 3 (0, 0)) (lyS (stK R N k)) ua uc)
  case atStart => exact ⟨0, _, _, Nat.zero_le _, rfl, rfl, HL0.out, HP0.out⟩
  case round =>
    clear HL0 HP0
    obtain ⟨k, ua, uc, hk, hgk, rfl, hL, hP⟩ := hrel
    have HL := hidP hL
    have HP := hidP hP
    have HGK : Hid (gk = N - k) := hgk
    by_cases hkn : k < N
    · have hkd : (k : Int) < (N : Int) := by omega
      have hk0 : (0 : Int) ≤ (k : Int) := by omega
      have hni : (ordA R N).getD k 0 < N := by
        refine (ordA_mem R N _ fun i hi => (HM.out.2 i hi).1).1 ?_
        rw [List.getD_eq_getElem?_getD, List.getElem?_eq_getElem (by rw [HOL.out]; exact hkn)]
        exact List.getElem_mem _
      have cn : wr.cell? ⟨nb, k, none⟩ = some (.int .i64 ((ordA R N).getD k 0 : Nat)) := by
        rw [cell_of_row _ _ _ _ _ _ hP.pas]
        simp [hkn]
      have hRw := HR.out wr hL.grown
      have hst := stK_step R N k (by rw [HOL.out]; exact hkn)
      obtain ⟨ok1, ok2⟩ := stK_ok R N HM.out k (by rw [HOL.out]; omega)
      obtain ⟨i, hie⟩ : ∃ v, v = (ordA R N).getD k 0 := ⟨_, rfl⟩
      rw [← hie] at hni cn hst
      obtain ⟨ra, ro, rfl, cr⟩ : ∃ ra ro, a = some ⟨ra, ro, none⟩ ∧ wr.cell? ⟨ra, ro + i, none⟩ = some (.slice (la i) (R i).length (lc i)) := by
        rcases hRw.1 with h | ⟨ra, ro, e, h⟩
        · omega
        · exact ⟨ra, ro, e, h i hni⟩
      have hbl : (stK R N k).bs.length = N := ok1.1
      have hol : (stK R N k).ow.length ≤ 67108864 - 512 := by
        have h1 := ok1.2.2
        have h2 : k * 256 ≤ 256 * 256 := Nat.mul_le_mul_right _ (by omega)
        omega
      have HC := hidP (layRow_any (i := i) (lc := lc i) (la := la i) (R i) hL hP (fun X hX => (HR.out X hX).2 i hni) (HM.out.2 i hni) ok1.2.1 hol ok2 (by rw [hbl]; exact hni) (by rw [hbl]; exact hN2))
      rw [← hst] at HC
      obtain ⟨ln, hln⟩ : ∃ v, v = (R i).length := ⟨_, rfl⟩
      rw [← hln] at cr HC
      have hi0 : (0 : Int) ≤ (i : Int) := by omega
      have hi1 : (i : Int) < (N : Int) := by omega
      clear hgk hL hP hRw hst ok1 ok2 hie hbl hol hln
      go_wp2_with fail
      refine Calls.mono HC.out ?_
      rintro e y2 ⟨rfl, ua2, uc2, hL2, hP2⟩
      have HL2 := hidP hL2
      have HP2 := hidP hP2
      clear hL2 hP2 HC
      go_wp2_with fail
      go_roundg (N - (k + 1))
      case measure => have := HGK.out; omega
      case rel => exact ⟨k + 1, ua2, uc2, by omega, rfl, by go_num, HL2.out, HP2.out⟩
    · have hkd : ¬ (k : Int) < (N : Int) := by omega
      have hkk : k = N := by omega
      subst hkk
      have hall : stK R k k = lay R k := by
        have h := stK_all R k
        rw [HOL.out] at h
        exact h
      rw [hall] at hL
      have HF := hidP hL
      obtain ⟨d0, d1, d2⟩ := hL.cell
      have hres := hL.res
      have r0 : wr.cell? ⟨w.heap.size, 0, none⟩ = some (.slice none 0 0) := by rw [cell_of_row _ _ _ _ _ _ hres]; rfl
      have r1 : wr.cell? ⟨w.heap.size, 1, none⟩ = some (.slice none 0 0) := by rw [cell_of_row _ _ _ _ _ _ hres]; rfl
      have r2 : wr.cell? ⟨w.heap.size, 2, none⟩ = some (.slice none 0 0) := by rw [cell_of_row _ _ _ _ _ _ hres]; rfl
      have rf0 : wr.frozen? ⟨w.heap.size, 0, none⟩ = false := frozen_of_row _ _ _ _ _ hres
      have rf1 : wr.frozen? ⟨w.heap.size, 1, none⟩ = false := frozen_of_row _ _ _ _ _ hres
      have rf2 : wr.frozen? ⟨w.heap.size, 2, none⟩ = false := frozen_of_row _ _ _ _ _ hres
      have HRES := hidP hres
      have HEND := ly_end (w := w) hL.grown
      clear hres hL hP HL HP hall hgk
      go_wp2_with fail
      exact ⟨rfl, _, results_laid _ _ w.heap.size _ rfl (ly_set3 HRES.out _ _ _) rfl, ua, uc, rfl, ly_rows HF.out _ _ _, HEND.out _ _ _⟩

end Go.Proofs.Ytgmljpkenipgjaa.J

/-
  pack: the program's Lay: as the document's.
-/
namespace Go.Proofs.Ytgmljpkenipgjaa.J
open Go.RowKit Go.Maps Go.Shelf Pk

attribute [local go_sem] Oper.semAt_some

set_option maxRecDepth 100000 in
set_option maxHeartbeats 2000000 in
theorem layM_any (a : Option Addr) (N c : Nat) (R : Nat → List It) (la : Nat → Option Addr) (lc : Nat → Nat) (w : World) (hR : RsAt w a N R la lc) (hN : N ≤ 17592186044416) (hl : ∀ i, i < N → (R i).length ≤ 17592186044416) :
    Calls Try.prog 10 #[.slice a N c] w fun e y => LayTold N R w e y := by
  obtain ⟨r, hr⟩ : ∃ r : Bool, r = true ↔ MayLay N R := by
    by_cases h : MayLay N R
    · exact ⟨true, by simp [h]⟩
    · exact ⟨false, by simp [h]⟩
  obtain ⟨W1, hW1⟩ : ∃ W, W = w.alloc (.cells #[.slice none 0 0, .slice none 0 0, .slice none 0 0] 26) := ⟨_, rfl⟩
  have hg0 : w.grownBy W1 none := by rw [hW1]; exact World.grownBy_alloc _ _ none
  have HX0 : Hid (W1.heap[w.heap.size]? = some (.cells #[.slice none 0 0, .slice none 0 0, .slice none 0 0] 26 (0, 0))) := by show _ = _; rw [hW1]; exact heap_alloc_last w _
  have HG0 : Hid (w.grownBy W1 none) := hg0
  have HR := hidP hr
  have HA := hidP (areRows_any a N c R la lc W1 (hR.kept hg0) hN hl r hr)
  have HLD : Hid (MayLay N R → ∀ X, w.grownBy X none → Calls Try.prog 29 #[.slice a N c] X fun e y => LaidTold N R X e y) := fun hm X hX => laid_any a N c R la lc X (hR.kept hX) hm
  have hs1 : W1.heap.size = w.heap.size + 1 := by rw [hW1]; simp
  clear hR hr hl hg0
  go_enter Try.func10, Try.ntmps10
  go_wp2_with fail
  rw [← hW1]
  clear hW1
  refine Calls.mono HA.out ?_
  rintro e y ⟨rfl, hy⟩
  have HY := hidP hy
  have HBX : Hid (y.heap[w.heap.size]? = some (.cells #[.slice none 0 0, .slice none 0 0, .slice none 0 0] 26 (0, 0))) := box_kept HX0.out hy
  have HGY : Hid (w.grownBy y none) := grown_trans HG0.out hy
  clear hy
  cases r with
  | false =>
    have HM : Hid (¬ MayLay N R) := fun h => by have := HR.out.2 h; cases this
    have r0 : y.cell? ⟨w.heap.size, 0, none⟩ = some (.slice none 0 0) := by rw [cell_of_row _ _ _ _ _ _ HBX.out]; rfl
    have r1 : y.cell? ⟨w.heap.size, 1, none⟩ = some (.slice none 0 0) := by rw [cell_of_row _ _ _ _ _ _ HBX.out]; rfl
    have r2 : y.cell? ⟨w.heap.size, 2, none⟩ = some (.slice none 0 0) := by rw [cell_of_row _ _ _ _ _ _ HBX.out]; rfl
    have rf0 : y.frozen? ⟨w.heap.size, 0, none⟩ = false := frozen_of_row _ _ _ _ _ HBX.out
    have rf1 : y.frozen? ⟨w.heap.size, 1, none⟩ = false := frozen_of_row _ _ _ _ _ HBX.out
    have rf2 : y.frozen? ⟨w.heap.size, 2, none⟩ = false := frozen_of_row _ _ _ _ _ HBX.out
    have HEND := ly_end (w := w) HGY.out
    clear HLD HA HX0 HG0 hs1
    go_wp2_with fail
    exact ⟨rfl, _, results_layM _ _ w.heap.size _ _ rfl rfl (ly_set3 HBX.out _ _ _) rfl, .inl ⟨HM.out, rfl, HEND.out _ _ _⟩⟩
  | true =>
    have hm := HR.out.1 rfl
    have HM := hidP hm
    have HC := hidP (HLD.out hm y HGY.out)
    clear hm HLD HA
    go_wp2_with fail
    refine Calls.mono HC.out ?_
    rintro e z ⟨ua, uc, rfl, hT, hz⟩
    have HBZ : Hid (z.heap[w.heap.size]? = some (.cells #[.slice none 0 0, .slice none 0 0, .slice none 0 0] 26 (0, 0))) := box_kept HBX.out hz
    have HGZ : Hid (w.grownBy z none) := grown_trans HGY.out hz
    have HT : Hid (TrZ z w.heap.size 3 (lyS (lay R N)) ua uc) := TrZ.lower hT HGY.out.size
    have r0 : z.cell? ⟨w.heap.size, 0, none⟩ = some (.slice none 0 0) := by rw [cell_of_row _ _ _ _ _ _ HBZ.out]; rfl
    have r1 : z.cell? ⟨w.heap.size, 1, none⟩ = some (.slice none 0 0) := by rw [cell_of_row _ _ _ _ _ _ HBZ.out]; rfl
    have r2 : z.cell? ⟨w.heap.size, 2, none⟩ = some (.slice none 0 0) := by rw [cell_of_row _ _ _ _ _ _ HBZ.out]; rfl
    have rf0 : z.frozen? ⟨w.heap.size, 0, none⟩ = false := frozen_of_row _ _ _ _ _ HBZ.out
    have rf1 : z.frozen? ⟨w.heap.size, 1, none⟩ = false := frozen_of_row _ _ _ _ _ HBZ.out
    have rf2 : z.frozen? ⟨w.heap.size, 2, none⟩ = false := frozen_of_row _ _ _ _ _ HBZ.out
    have HEND := ly_end (w := w) HGZ.out
    have HTT : Hid (∀ u0 u1 u2, TrZ (((z.setCell ⟨w.heap.size, 0, none⟩ u0).setCell ⟨w.heap.size, 1, none⟩ u1).setCell ⟨w.heap.size, 2, none⟩ u2) w.heap.size 3 (lyS (lay R N)) ua uc) := fun u0 u1 u2 => by
      have h1 := heap_setCell_same _ _ 0 _ _ u0 HBZ.out
      have h2 := heap_setCell_same _ _ 1 _ _ u1 h1
      exact ((HT.out.beside HBZ.out (by decide) (grown_setCell _ _ _)).beside h1 (by decide) (grown_setCell _ _ _)).beside h2 (by decide) (grown_setCell _ _ _)
    clear hT hz HC
    go_wp2_with fail
    exact ⟨rfl, _, results_layM _ _ w.heap.size _ _ rfl rfl (ly_set3 HBZ.out _ _ _) rfl, .inr ⟨HM.out, ua, uc, rfl, HTT.out _ _ _, HEND.out _ _ _⟩⟩

end Go.Proofs.Ytgmljpkenipgjaa.J

/-
  pack: the law's lentRows: rows of one's own, each with an edge behind it.
-/
namespace Go.Proofs.Ytgmljpkenipgjaa.J
open Go.RowKit Go.Maps Go.Shelf Pk

attribute [local go_sem] Oper.semAt_some

theorem infoEdgeP : (Try.prog.info? 60).map (fun i => (i.zero, i.size, i.bytes)) = some (some (.agg #[.int .i64 0, .int .i64 0]), 2, 16) := by kernel_rfl
theorem infoRowE : (Try.prog.info? 58).map (fun i => (i.zero, i.size, i.bytes)) = some (some (.slice none 0 0), 1, 24) := by kernel_rfl
def rowsE (K : Nat) (R : Nat → List It) (ua : Nat → Option Addr) (uc : Nat → Nat) : List Value := (List.range K).map fun j => .slice (ua j) (R j).length (uc j)
theorem rowsE_at {K j : Nat} (R : Nat → List It) (ua : Nat → Option Addr) (uc : Nat → Nat) (hj : j < K) : (rowsE K R ua uc)[j]? = some (.slice (ua j) (R j).length (uc j)) := by unfold rowsE; simp [hj]
theorem rowsE_snoc (K : Nat) (R : Nat → List It) (ua : Nat → Option Addr) (uc : Nat → Nat) (a : Option Addr) (c : Nat) : rowsE (K + 1) R (upZ ua K a) (upZ uc K c) = rowsE K R ua uc ++ [.slice a (R K).length c] := by
  unfold rowsE
  rw [List.range_succ, List.map_append]
  congr 1
  · refine List.map_congr_left fun j hj => ?_
    have : j ≠ K := by have := List.mem_range.1 hj; omega
    rw [upZ_other _ _ this, upZ_other _ _ this]
  · simp [upZ_same]
/-- A row with what stands behind it. -/
def behE (l : List It) : List It := l ++ [(-5, -5)]
/-- Lent rows under way: K of them. -/
structure LeP (X : World) (B : Nat) (ka : Option Addr) (kc K : Nat) (R : Nat → List It) (ua : Nat → Option Addr) (uc : Nat → Nat) : Prop where
  out : X.ownsRow B 58 1 (.slice ka K kc) K (rowsE K R ua uc)
  inn : ∀ j, j < K → X.ownsRow B 60 2 (.slice (ua j) ((R j).length + 1) (uc j)) ((R j).length + 1) (itsV (behE (R j)))
theorem LeP.kept {X Y : World} {B : Nat} {ka : Option Addr} {kc K : Nat} {R : Nat → List It} {ua : Nat → Option Addr} {uc : Nat → Nat} (h : LeP X B ka kc K R ua uc) (hg : X.grownBy Y none) : LeP Y B ka kc K R ua uc := ⟨keep0 h.out hg, fun j hj => keep0 (h.inn j hj) hg⟩
/-- A row more. -/
theorem LeP.push {X Y : World} {B : Nat} {ka ka' : Option Addr} {kc kc' K : Nat} {R : Nat → List It} {ua : Nat → Option Addr} {uc : Nat → Nat} {a : Option Addr} {c : Nat} (h : LeP X B ka kc K R ua uc) (hr : X.ownsRow B 60 2 (.slice a ((R K).length + 1) c) ((R K).length + 1) (itsV (behE (R K)))) (hg : X.grownBy Y (Value.slice ka K kc).ownBlock) (ho : Y.ownsRow B 58 1 (.slice ka' (K + 1) kc') (K + 1) (rowsE K R ua uc ++ [.slice a (R K).length c])) : LeP Y B ka' kc' (K + 1) R (upZ ua K a) (upZ uc K c) := by
  refine ⟨by rw [rowsE_snoc]; exact ho, fun j hj => ?_⟩
  by_cases e : j = K
  · subst e
    rw [upZ_same, upZ_same]
    exact row_row hr h.out (by decide) hg
  · rw [upZ_other _ _ e, upZ_other _ _ e]
    exact row_row (h.inn j (by omega)) h.out (by decide) hg
theorem owned_its {X : World} {B n c : Nat} {a : Option Addr} {l : List It} (h : X.ownsRow B 60 2 (.slice a n c) n (itsV l)) (hn : n = l.length) : ItsAt X a l := by
  by_cases e : l = []
  · exact .inl e
  · rcases h.2 with ⟨hv, h0⟩ | ⟨g, cap, cur, hv, _, hh, _, _, hs, ht⟩
    · have : l.length = 0 := by omega
      exact absurd (List.eq_nil_of_length_eq_zero this) e
    · simp only [Value.slice.injEq] at hv
      refine .inr ⟨g, 0, hv.1, fun i hi => ?_⟩
      rw [hv.1] at h
      have h1 := itsV_at l i hi
      exact ⟨by rw [Nat.zero_add]; exact owns_cell h h1.1, by rw [Nat.zero_add]; exact owns_cell h h1.2⟩
theorem LeP.rs {X : World} {B : Nat} {ka : Option Addr} {kc K : Nat} {R : Nat → List It} {ua : Nat → Option Addr} {uc : Nat → Nat} (h : LeP X B ka kc K R ua uc) : RsAt X ka K R ua uc ∧ (∀ i, i < K → ItsAt X (ua i) (behE (R i))) ∧ ∀ i, i < K → (R i).length + 1 ≤ uc i := by
  have hb : ∀ i, i < K → ItsAt X (ua i) (behE (R i)) := fun i hi => owned_its (h.inn i hi) (by unfold behE; simp)
  refine ⟨⟨?_, fun i hi => ?_⟩, hb, fun i hi => ?_⟩
  · by_cases e : K = 0
    · exact .inl e
    · obtain ⟨g, c, hg, hc⟩ := owns_at h.out (by omega)
      simp only [Value.slice.injEq] at hg
      exact .inr ⟨g, 0, hg.1, fun i hi => by rw [Nat.zero_add]; exact hc i _ (rowsE_at R ua uc hi)⟩
  · rcases hb i hi with h1 | ⟨b, off, e, h1⟩
    · unfold behE at h1
      simp at h1
    · refine .inr ⟨b, off, e, fun j hj => ?_⟩
      have h2 := h1 j (by unfold behE; simp; omega)
      have e2 : (behE (R i)).getD j (0, 0) = (R i).getD j (0, 0) := by
        unfold behE
        rw [List.getD_eq_getElem?_getD, List.getElem?_append_left hj, List.getD_eq_getElem?_getD]
      rw [e2] at h2
      exact h2
  · rcases (h.inn i hi).2 with ⟨_, h0⟩ | ⟨g, cap, cur, hv, _, _, hn, _⟩
    · omega
    · simp only [Value.slice.injEq] at hv
      omega

/-- What lentRows tells. -/
def LenTold (w : World) (N : Nat) (R : Nat → List It) (e : Ending) (y : World) : Prop := ∃ ka kc ua uc, e = .returned (.slice ka N kc) ∧ LeP y w.heap.size ka kc N R ua uc ∧ w.grownBy y none

end Go.Proofs.Ytgmljpkenipgjaa.J

/-
  pack: the program's isHalf of numbers, and what a goto may be.
-/
namespace Go.Proofs.Ytgmljpkenipgjaa.J
open Go.RowKit Go.Maps Go.Shelf Pk

attribute [local go_sem] Oper.semAt_some

theorem hidH {p : Prop} (h : p) : Hid p := h
/-- Rows of numbers in memory. -/
def RiAt (X : World) (a : Option Addr) (N : Nat) (Q : Nat → List Int) (ua : Nat → Option Addr) (uc : Nat → Nat) : Prop := (N = 0 ∨ ∃ ra ro, a = some ⟨ra, ro, none⟩ ∧ ∀ i, i < N → X.cell? ⟨ra, ro + i, none⟩ = some (.slice (ua i) (Q i).length (uc i))) ∧ ∀ i, i < N → IntsAt X (ua i) (Q i)
theorem RiAt.kept {X Y : World} {a : Option Addr} {N : Nat} {Q : Nat → List Int} {ua : Nat → Option Addr} {uc : Nat → Nat} (h : RiAt X a N Q ua uc) (hg : X.grownBy Y none) : RiAt Y a N Q ua uc := by
  refine ⟨?_, fun i hi => (h.2 i hi).kept hg⟩
  rcases h.1 with h | ⟨ra, ro, e, h1⟩
  · exact .inl h
  · exact .inr ⟨ra, ro, e, fun i hi => hg.cell (h1 i hi) (by simp)⟩
/-- Are lists of one length that may be? -/
def HalfOk (N : Nat) (len : Nat → Nat) : Prop := 0 < N ∧ 0 < len 0 ∧ len 0 ≤ 65 ∧ ∀ i, i < N → len i = len 0
/-- May a goto stand in a table of n states? -/
def GotoOk (z n : Int) : Prop := -1 ≤ z ∧ z < n

set_option maxRecDepth 100000 in
theorem isGoto_any (z : Int) (sb n : Nat) (X : World) (hc : X.cell? ⟨sb, 0, none⟩ = some (.int .i64 (n : Int))) (r : Bool) (hr : r = true ↔ GotoOk z n) :
    Calls Try.prog 43 #[.int .i64 z, .pointer (some ⟨sb, 0, none⟩)] X fun e y => e = .returned (.bool r) ∧ X.grownBy y none := by
  have HT : Hid (GotoOk z n → true = r) := fun h => (hr.2 h).symm
  have HN : Hid (¬ GotoOk z n → false = r) := fun h => by
    cases hrr : r with
    | false => rfl
    | true => exact absurd (hr.1 hrr) h
  clear hr
  by_cases a1 : -1 ≤ z
  · have d1 : decide (-1 ≤ z) = true := decide_eq_true a1
    by_cases a2 : z < (n : Int)
    · have d2 : decide (z < (n : Int)) = true := decide_eq_true a2
      have HF : Hid (true = r) := HT.out ⟨a1, a2⟩
      clear a1 a2
      go_enter Try.func43, Try.ntmps43
      go_wp2_with fail
      go_ret
      exact ⟨congrArg (fun v => Ending.returned (Value.bool v)) HF.out, grown_refl _ _⟩
    · have d2 : decide (z < (n : Int)) = false := decide_eq_false a2
      have HF : Hid (false = r) := HN.out (fun h => a2 h.2)
      clear a1 a2
      go_enter Try.func43, Try.ntmps43
      go_wp2_with fail
      go_ret
      exact ⟨congrArg (fun v => Ending.returned (Value.bool v)) HF.out, grown_refl _ _⟩
  · have d1 : decide (-1 ≤ z) = false := decide_eq_false a1
    have HF : Hid (false = r) := HN.out (fun h => a1 h.1)
    clear a1
    go_enter Try.func43, Try.ntmps43
    go_wp2_with fail
    go_ret
    exact ⟨congrArg (fun v => Ending.returned (Value.bool v)) HF.out, grown_refl _ _⟩

set_option maxRecDepth 100000 in
set_option maxHeartbeats 4000000 in
theorem isHalfI_any (sb ns : Nat) (a : Option Addr) (N c : Nat) (Q : Nat → List Int) (ua : Nat → Option Addr) (uc : Nat → Nat) (w : World) (hs : w.cell? ⟨sb, 0, none⟩ = some (.int .i64 (ns : Int))) (hR : RiAt w a N Q ua uc) (hN : N ≤ 17592186044416) (hl : ∀ i, i < N → (Q i).length ≤ 17592186044416) (r : Bool) (hr : r = true ↔ HalfOk N (fun i => (Q i).length) ∧ ∀ i, i < N → ∀ x ∈ Q i, GotoOk x ns) :
    Calls Try.prog 47 #[.func (.func 43) #[] #[.pointer (some ⟨sb, 0, none⟩)], .slice a N c] w fun e y => e = .returned (.bool r) ∧ w.grownBy y none := by
  have HT : Hid ((HalfOk N (fun i => (Q i).length) ∧ ∀ i, i < N → ∀ x ∈ Q i, GotoOk x ns) → true = r) := fun h => (hr.2 h).symm
  have HN : Hid (¬ (HalfOk N (fun i => (Q i).length) ∧ ∀ i, i < N → ∀ x ∈ Q i, GotoOk x ns) → false = r) := fun h => by
    cases hrr : r with
    | false => rfl
    | true => exact absurd (hr.1 hrr) h
  have HR : Hid (∀ X, w.grownBy X none → RiAt X a N Q ua uc) := fun X hX => hR.kept hX
  have HS : Hid (∀ X, w.grownBy X none → X.cell? ⟨sb, 0, none⟩ = some (.int .i64 (ns : Int))) := fun X hX => hX.cell hs (by simp)
  have HL := hidH hl
  clear hr hR hs hl
  by_cases h0 : N = 0
  · subst h0
    have HF : Hid (false = r) := HN.out (fun h => by have := h.1.1; omega)
    go_enter Try.func47, Try.ntmps47
    go_wp2_with fail
    go_ret
    exact ⟨congrArg (fun v => Ending.returned (Value.bool v)) HF.out, grown_refl _ _⟩
  · obtain ⟨ra, ro, rfl, hc⟩ : ∃ ra ro, a = some ⟨ra, ro, none⟩ ∧ ∀ i, i < N → w.cell? ⟨ra, ro + i, none⟩ = some (.slice (ua i) (Q i).length (uc i)) := by
      rcases (HR.out w (grown_refl _ _)).1 with h | h
      · exact absurd h h0
      · exact h
    have c0 := hc 0 (by omega)
    rw [Nat.add_zero] at c0
    have HC : Hid (∀ X, w.grownBy X none → ∀ i, i < N → X.cell? ⟨ra, ro + i, none⟩ = some (.slice (ua i) (Q i).length (uc i))) := fun X hX i hi => hX.cell (hc i hi) (by simp)
    obtain ⟨n0, hn0⟩ : ∃ v, v = (Q 0).length := ⟨_, rfl⟩
    have HN0 : Hid (n0 = (Q 0).length) := hn0
    obtain ⟨u0, hu0⟩ : ∃ v, v = ua 0 := ⟨_, rfl⟩
    obtain ⟨d0, hd0⟩ : ∃ v, v = uc 0 := ⟨_, rfl⟩
    rw [← hn0, ← hu0, ← hd0] at c0
    have HC0 : Hid (∀ X, w.grownBy X none → X.cell? ⟨ra, ro, none⟩ = some (.slice u0 n0 d0)) := fun X hX => hX.cell c0 (by simp)
    have hNi : (0 : Int) < (N : Int) := by omega
    have hNe : ((N : Int) == 0) = false := beq_eq_false_iff_ne.2 (by omega)
    have hNe' : (N == 0) = false := beq_eq_false_iff_ne.2 h0
    clear hn0 hu0 hd0 hc
    by_cases h1 : n0 = 0
    · have HF : Hid (false = r) := HN.out (fun h => by have h2 := h.1.2.1; have h3 := HN0.out; simp only [] at h2; omega)
      subst h1
      go_enter Try.func47, Try.ntmps47
      go_wp2_with fail
      go_ret
      exact ⟨congrArg (fun v => Ending.returned (Value.bool v)) HF.out, grown_refl _ _⟩
    · have e1 : ((n0 : Int) == 0) = false := beq_eq_false_iff_ne.2 (by omega)
      have e1' : (n0 == 0) = false := beq_eq_false_iff_ne.2 h1
      by_cases h2 : 65 < n0
      · have HF : Hid (false = r) := HN.out (fun h => by have h2 := h.1.2.2.1; have h3 := HN0.out; simp only [] at h2; omega)
        have d2 : decide (65 < n0) = true := decide_eq_true h2
        have d2' : decide ((65 : Int) < (n0 : Int)) = true := decide_eq_true (by omega)
        clear h1 h2
        go_enter Try.func47, Try.ntmps47
        go_wp2_with fail
        go_ret
        exact ⟨congrArg (fun v => Ending.returned (Value.bool v)) HF.out, grown_refl _ _⟩
      · have d2 : decide (65 < n0) = false := decide_eq_false h2
        have d2' : decide ((65 : Int) < (n0 : Int)) = false := decide_eq_false (by omega)
        have HB : Hid (0 < n0 ∧ n0 ≤ 65) := ⟨by omega, by omega⟩
        clear h1 h2
        go_enter Try.func47, Try.ntmps47
        go_wp2_with fail
        clear c0
        go_loopg [28] N (fun gk v wr => ∃ k : Nat, k ≤ N ∧ gk = N - k ∧ v = .int .i64 k ∧ Hid (∀ i, i < k → (Q i).length = n0 ∧ ∀ x ∈ Q i, GotoOk x ns) ∧ w.grownBy wr none)
        case atStart => exact ⟨0, Nat.zero_le _, rfl, rfl, fun i hi => absurd hi (Nat.not_lt_zero _), grown_refl _ _⟩
        case round =>
          obtain ⟨k, hk, hgk, rfl, HD, hg⟩ := hrel
          have HGK : Hid (gk = N - k) := hgk
          have HG := hidH hg
          have c0 := HC0.out wr hg
          clear hgk
          by_cases hkn : k < N
          · have hkd : decide (k < N) = true := decide_eq_true hkn
            have hk0 : (0 : Int) ≤ (k : Int) := by omega
            have hk1 : (k : Int) < (N : Int) := by omega
            have ck := HC.out wr hg k hkn
            obtain ⟨n1, hn1⟩ : ∃ v, v = (Q k).length := ⟨_, rfl⟩
            have HN1 : Hid (n1 = (Q k).length) := hn1
            have hnb : n1 ≤ 17592186044416 := by rw [hn1]; exact HL.out k hkn
            obtain ⟨uk, huk⟩ : ∃ v, v = ua k := ⟨_, rfl⟩
            have HIT : Hid (∀ X, w.grownBy X none → IntsAt X uk (Q k)) := by rw [huk]; exact fun X hX => (HR.out X hX).2 k hkn
            rw [← hn1, ← huk] at ck
            clear hn1 huk
            by_cases hne : n1 = n0
            · have f1 : (n0 != n0) = false := bne_self_eq_false _
              have f1' : ((n0 : Int) != (n0 : Int)) = false := bne_self_eq_false _
              subst hne
              clear hg
              go_wp2_with fail
              clear c0 ck
              go_loopg [41] n1 (fun gk v wr => ∃ j : Nat, j ≤ n1 ∧ gk = n1 - j ∧ v = .int .i64 j ∧ Hid (∀ x ∈ (Q k).take j, GotoOk x ns) ∧ w.grownBy wr none)
              case atStart => exact ⟨0, Nat.zero_le _, rfl, rfl, fun x hx => by simp at hx, HG.out⟩
              case round =>
                clear HG
                obtain ⟨j, hj, hgj, rfl, HX, hg⟩ := hrel
                have HGJ : Hid (gk = n1 - j) := hgj
                have HG := hidH hg
                clear hgj
                by_cases hjn : j < n1
                · have hjd : decide (j < n1) = true := decide_eq_true hjn
                  have hj0 : (0 : Int) ≤ (j : Int) := by omega
                  have hj1 : (j : Int) < (n1 : Int) := by omega
                  have hjl : j < (Q k).length := by rw [← HN1.out]; exact hjn
                  have cs := HS.out wr hg
                  have HMM : Hid ((Q k).getD j 0 ∈ Q k) := by rw [List.getD_eq_getElem?_getD, List.getElem?_eq_getElem hjl]; exact List.getElem_mem _
                  have HTK : Hid (∀ x ∈ (Q k).take (j + 1), x ∈ (Q k).take j ∨ x = (Q k).getD j 0) := fun x hx => by
                    rw [List.take_add_one, List.getElem?_eq_getElem hjl, Option.toList_some, List.mem_append] at hx
                    rcases hx with hx | hx
                    · exact .inl hx
                    · refine .inr ?_
                      rw [List.getD_eq_getElem?_getD, List.getElem?_eq_getElem hjl]
                      simpa using hx
                  obtain ⟨lb, lo, rfl, t0⟩ : ∃ b o, uk = some ⟨b, o, none⟩ ∧ wr.cell? ⟨b, o + j, none⟩ = some (.int .i64 ((Q k).getD j 0)) := by
                    rcases HIT.out wr hg with h | ⟨b, o, e, h⟩
                    · rw [h] at hjl; cases hjl
                    · exact ⟨b, o, e, h j hjl⟩
                  obtain ⟨z, hz⟩ : ∃ v, v = (Q k).getD j 0 := ⟨_, rfl⟩
                  rw [← hz] at t0 HMM HTK
                  obtain ⟨r1, hr1⟩ : ∃ r : Bool, r = true ↔ GotoOk z ns := by
                    by_cases h : GotoOk z ns
                    · exact ⟨true, by simp [h]⟩
                    · exact ⟨false, by simp [h]⟩
                  have HR1 := hidH hr1
                  have HCC := hidH (isGoto_any z sb ns wr cs r1 hr1)
                  clear hz hr1 cs hg
                  go_wp2_with fail
                  refine Calls.mono HCC.out ?_
                  rintro e y ⟨rfl, hy⟩
                  have HY : Hid (w.grownBy y none) := grown_trans HG.out hy
                  clear hy HCC
                  cases r1 with
                  | false =>
                    have HF : Hid (false = r) := HN.out (fun h => absurd (HR1.out.2 (h.2 k hkn z HMM.out)) (by decide))
                    go_wp2_with fail
                    go_ret
                    exact ⟨congrArg (fun v => Ending.returned (Value.bool v)) HF.out, HY.out⟩
                  | true =>
                    have HZ : Hid (GotoOk z ns) := HR1.out.1 rfl
                    go_wp2_with fail
                    go_roundg (n1 - (j + 1))
                    case measure => have := HGJ.out; omega
                    case rel => exact ⟨j + 1, by omega, rfl, by go_num, fun x hx => by
                      rcases HTK.out x hx with h | h
                      · exact HX.out x h
                      · rw [h]; exact HZ.out, HY.out⟩
                · have hjd : decide (j < n1) = false := decide_eq_false hjn
                  have HDK : Hid (∀ i, i < k + 1 → (Q i).length = n1 ∧ ∀ x ∈ Q i, GotoOk x ns) := fun i hi => by
                    by_cases e : i = k
                    · subst e
                      have h1 := HX.out
                      rw [List.take_of_length_le (by have := HN1.out; omega)] at h1
                      exact ⟨HN1.out.symm, h1⟩
                    · exact HD.out i (by omega)
                  clear hg
                  go_wp2_with fail
                  go_roundg (N - (k + 1))
                  case measure => have := HGK.out; omega
                  case rel => exact ⟨k + 1, by omega, rfl, by go_num, HDK.out, HG.out⟩
            · have f1 : (n1 != n0) = true := by rw [bne_iff_ne]; exact hne
              have f1' : ((n1 : Int) != (n0 : Int)) = true := by rw [bne_iff_ne]; omega
              have HF : Hid (false = r) := HN.out (fun h => by
                have h1 := h.1.2.2.2 k hkn
                have h2 := HN0.out
                have h3 := HN1.out
                simp only [] at h1
                omega)
              clear hg hne
              go_wp2_with fail
              go_ret
              exact ⟨congrArg (fun v => Ending.returned (Value.bool v)) HF.out, HG.out⟩
          · have hkd : decide (k < N) = false := decide_eq_false hkn
            have HF : Hid (true = r) := HT.out ⟨⟨by omega, by have := HB.out; have := HN0.out; show 0 < (Q 0).length; omega, by have := HB.out; have := HN0.out; show (Q 0).length ≤ 65; omega, fun i hi => by
              have h1 := (HD.out i (by omega)).1
              have h2 := HN0.out
              show (Q i).length = (Q 0).length
              omega⟩, fun i hi => (HD.out i (by omega)).2⟩
            clear hg
            go_wp2_with fail
            go_ret
            exact ⟨congrArg (fun v => Ending.returned (Value.bool v)) HF.out, HG.out⟩

end Go.Proofs.Ytgmljpkenipgjaa.J
