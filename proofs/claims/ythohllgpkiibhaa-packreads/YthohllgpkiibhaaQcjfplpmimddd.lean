import Derived.Test.YthohllgpkiibhaaQchdfagnngmnl

/-
  pack: the program's laid and Lay: as the document's.
-/
namespace Go.Proofs.Ythohllgpkiibhaa.J
open Go.RowKit Go.Maps Go.Shelf Pk

attribute [local go_sem] Oper.semAt_some

theorem owns_lowP {w : World} {base base' e size n : Nat} {v : Value} {xs : List Value} (h : w.ownsRow base e size v n xs) (hb : base' ≤ base) : w.ownsRow base' e size v n xs := by
  obtain ⟨h1, h2⟩ := h
  refine ⟨h1, ?_⟩
  rcases h2 with h | ⟨g, cap, cur, a, b, c⟩
  · exact .inl h
  · exact .inr ⟨g, cap, cur, a, Nat.le_trans hb b, c⟩
theorem TrZ.lower {X : World} {B B' n : Nat} {Q : Nat → List Int} {ua : Nat → Option Addr} {uc : Nat → Nat} (h : TrZ X B n Q ua uc) (hb : B' ≤ B) : TrZ X B' n Q ua uc := ⟨fun j hj => owns_lowP (h.inn j hj) hb, h.sep⟩

/-- The rows laid so far, of an order. -/
noncomputable def stK (R : Nat → List Ed) (N k : Nat) : St := ((ordA R N).take k).foldl (stepO R) ⟨List.replicate N 0, [], []⟩
theorem stK_zero (R : Nat → List Ed) (N : Nat) : stK R N 0 = layD R N 0 := by unfold stK; rw [List.take_zero]; rfl
theorem stK_step (R : Nat → List Ed) (N k : Nat) (hk : k < (ordA R N).length) : stK R N (k + 1) = layRow (stK R N k) ((ordA R N).getD k 0) (R ((ordA R N).getD k 0)) := by
  unfold stK
  rw [List.take_add_one, List.getElem?_eq_getElem hk, Option.toList_some, List.foldl_append, List.getD_eq_getElem?_getD, List.getElem?_eq_getElem hk]
  rfl
theorem stK_all (R : Nat → List Ed) (N : Nat) : stK R N (ordA R N).length = lay R N := by
  unfold stK
  rw [List.take_length, lay_ord]
theorem stK_ok (R : Nat → List Ed) (N : Nat) (hM : MayLay N R) : ∀ k, k ≤ (ordA R N).length → StOK N k (stK R N k) ∧ ∀ x ∈ (stK R N k).ow, -1 ≤ x
  | 0, _ => by
    rw [stK_zero]
    exact ⟨StOK.start N, fun x hx => by cases hx⟩
  | k + 1, hk => by
    obtain ⟨h1, h2⟩ := stK_ok R N hM k (by omega)
    rw [stK_step R N k (by omega)]
    have hi : (ordA R N).getD k 0 < N := by
      refine (ordA_mem R N _ fun i hi => (hM.2 i hi).1).1 ?_
      rw [List.getD_eq_getElem?_getD, List.getElem?_eq_getElem (by omega)]
      exact List.getElem_mem _
    refine ⟨h1.row (hM.2 _ hi).2.1, ?_⟩
    show ∀ x ∈ (layR _ _ ((stK R N k).ow, (stK R N k).va) _).1, -1 ≤ x
    exact layR_ge _ _ _ _ h2
theorem ordA_len (R : Nat → List Ed) (N : Nat) (hM : MayLay N R) : (ordA R N).length = N := by
  have h1 : (ordA R N).Nodup := (ordA_pw R N).imp fun {a b} h e => by subst e; exact Bef.irr R a h
  have h2 : (ordA R N).Perm (List.range N) := by
    rw [List.perm_ext_iff_of_nodup h1 List.nodup_range]
    intro x
    rw [ordA_mem R N x fun i hi => (hM.2 i hi).1, List.mem_range]
  have := h2.length_eq
  simpa using this

theorem results_laid (tmps : Array Value) (w : World) (g : Nat) (cs : Array Value) (h2 : tmps.getD 2 undef = .pointer (some ⟨g, 0, none⟩)) (hg : w.heap[g]? = some (.cells cs 26 (0, 0))) (hs : cs.size = 3) :
    (results Try.f29 tmps).run Try.prog w = .ok (.agg cs) w := by
  have h2' : tmps[2]?.getD undef = .pointer (some ⟨g, 0, none⟩) := by simpa using h2
  have hl := run_loadVar_row (P := Try.prog) w g 26 26 cs (0, 0) _ hg Try.underlying26 rfl (by rw [hs]; kernel_rfl)
  simp [results, Try.results29, h2', asAddr, hl]
theorem results_layM (tmps : Array Value) (w : World) (g : Nat) (cs : Array Value) (v : Value) (h2 : tmps.getD 2 undef = .pointer (some ⟨g, 0, none⟩)) (h3 : tmps.getD 3 undef = v) (hg : w.heap[g]? = some (.cells cs 26 (0, 0))) (hs : cs.size = 3) :
    (results Try.f10 tmps).run Try.prog w = .ok (.tuple #[.agg cs, v]) w := by
  have h2' : tmps[2]?.getD undef = .pointer (some ⟨g, 0, none⟩) := by simpa using h2
  have h3' : tmps[3]?.getD undef = v := by simpa using h3
  have hl := run_loadVar_row (P := Try.prog) w g 26 26 cs (0, 0) _ hg Try.underlying26 rfl (by rw [hs]; kernel_rfl)
  simp [results, Try.results10, h2', h3', asAddr, hl]

/-- What laid tells. -/
def LaidTold (N : Nat) (R : Nat → List It) (w : World) (e : Ending) (y : World) : Prop := ∃ (ua : Nat → Option Addr) (uc : Nat → Nat), e = .returned (.agg #[.slice (ua 0) (lay R N).bs.length (uc 0), .slice (ua 1) (lay R N).va.length (uc 1), .slice (ua 2) (lay R N).ow.length (uc 2)]) ∧ TrZ y w.heap.size 3 (lyS (lay R N)) ua uc ∧ w.grownBy y none

set_option maxRecDepth 100000 in
set_option maxHeartbeats 4000000 in
theorem laid_any (a : Option Addr) (N c : Nat) (R : Nat → List It) (la : Nat → Option Addr) (lc : Nat → Nat) (w : World) (hR : RsAt w a N R la lc) (hM : MayLay N R) :
    Calls Try.prog 29 #[.slice a N c] w fun e y => LaidTold N R w e y := by
  have HR : Hid (∀ X, w.grownBy X none → RsAt X a N R la lc) := fun X hX => hR.kept hX
  have HM : Hid (MayLay N R) := hM
  obtain ⟨i0, hi0, hz0, hz1, hz2⟩ := info_parts infoIntP
  have hN2 : N ≤ 256 := hM.1
  have HX0 : Hid ((w.alloc (.cells #[.slice none 0 0, .slice none 0 0, .slice none 0 0] 26)).heap[w.heap.size]? = some (.cells #[.slice none 0 0, .slice none 0 0, .slice none 0 0] 26 (0, 0))) := heap_alloc_last w _
  have HG0 : Hid (w.grownBy (w.alloc (.cells #[.slice none 0 0, .slice none 0 0, .slice none 0 0] 26)) none) := World.grownBy_alloc _ _ none
  clear hR hM
  go_enter Try.func29, Try.ntmps29
  go_wp2_with (at_make; refine wpList_make_full _ rfl _ _ 24 rfl (w.alloc (.cells #[.slice none 0 0, .slice none 0 0, .slice none 0 0] 26)).heap.size 3 i0 (.int .i64 0) 1 Try.underlying24 hi0 hz0 hz1 .i64 .i64 _ _ N rfl rfl (by simp) (by simp) (by rw [hz2]; omega) (by unfold maxLen; omega) (by simp) ?_)
  intro w3 hown hgrow
  obtain ⟨bb, hbb⟩ : ∃ v, v = w.heap.size + 1 := ⟨_, rfl⟩
  rw [← hbb] at hown ⊢
  have hval : ValAt w3 bb N 3 (fun _ => .int .i64 0) := made_rowK (B := bb) rfl (by simpa [Value.cells, hbb] using hown)
  have HLS : Hid (LyAt w (w3.alloc (.cells #[.slice (some ⟨bb, 0, none⟩) N N, .slice none 0 0, .slice none 0 0] 26)) w3.heap.size (lyS (layD R N 0)) (fun j => if j = 0 then some ⟨bb, 0, none⟩ else none) (fun j => if j = 0 then N else 0)) := ly_start (grown_trans HG0.out hgrow) (box_kept HX0.out hgrow) hval (by omega) hN2 R
  clear hown hgrow hval hbb HX0 HG0
  obtain ⟨X, hX⟩ : ∃ X, X = w3.alloc (.cells #[.slice (some ⟨bb, 0, none⟩) N N, .slice none 0 0, .slice none 0 0] 26) := ⟨_, rfl⟩
  obtain ⟨rb, hrb⟩ : ∃ v, v = w3.heap.size := ⟨_, rfl⟩
  rw [← hX, ← hrb] at HLS
  have HBY : Hid (Calls Try.prog 41 #[.slice a N c] X fun e y => ByTold N R X e y) := byEdges_any a N c R la lc X (HR.out X HLS.out.grown) hN2 (fun i hi => (HM.out.2 i hi).1)
  go_wp2_with fail
  rw [← hX, ← hrb]
  clear hX hrb
  refine Calls.mono HBY.out ?_
  rintro e y ⟨nb, rfl, hnb, hvn, hgy⟩
  have HL0 : Hid (LyAt w y rb (lyS (stK R N 0)) (fun j => if j = 0 then some ⟨bb, 0, none⟩ else none) (fun j => if j = 0 then N else 0)) := by
    show LyAt w y rb _ _ _
    rw [stK_zero]
    exact HLS.out.kept hgy
  have HP0 : Hid (PasAt y rb nb (.cells ((List.range N).map fun i => Value.int .i64 ((ordA R N).getD i 0 : Nat)).toArray 3 (0, 0)) (lyS (stK R N 0)) (fun j => if j = 0 then some ⟨bb, 0, none⟩ else none) (fun j => if j = 0 then N else 0)) := by
    show PasAt y rb nb _ _ _ _
    rw [stK_zero]
    refine ⟨hvn, fun j hj h => ?_, fun h => ?_⟩
    · have := ((HLS.out.rows.inn j hj).lt nb h).2
      omega
    · have := (Array.getElem?_eq_some_iff.1 HLS.out.box).1
      omega
  clear hnb hvn hgy HBY HLS
  go_wp2_with fail
  have hOL := ordA_len R N HM.out
  have HOL : Hid ((ordA R N).length = N) := hOL
  clear hOL
  go_loopg [13] N (fun gk v wr => ∃ (k : Nat) (ua : Nat → Option Addr) (uc : Nat → Nat), k ≤ N ∧ gk = N - k ∧ v = .int .i64 k ∧ LyAt w wr rb (lyS (stK R N k)) ua uc ∧ PasAt wr rb nb (.cells ((List.range N).map fun i => Value.int .i64 ((ordA R N).getD i 0 : Nat)).toArray 3 (0, 0)) (lyS (stK R N k)) ua uc)
  case atStart => exact ⟨0, _, _, Nat.zero_le _, rfl, rfl, HL0.out, HP0.out⟩
  case round =>
    clear HL0 HP0
    obtain ⟨k, ua, uc, hk, hgk, rfl, hL, hP⟩ := hrel
    have HL := hidP hL
    have HP := hidP hP
    have HGK : Hid (gk = N - k) := hgk
    by_cases hkn : k < N
    · have hkd : (k : Int) < (N : Int) := by omega
      have hk0 : (0 : Int) ≤ (k : Int) := by omega
      have hni : (ordA R N).getD k 0 < N := by
        refine (ordA_mem R N _ fun i hi => (HM.out.2 i hi).1).1 ?_
        rw [List.getD_eq_getElem?_getD, List.getElem?_eq_getElem (by rw [HOL.out]; exact hkn)]
        exact List.getElem_mem _
      have cn : wr.cell? ⟨nb, k, none⟩ = some (.int .i64 ((ordA R N).getD k 0 : Nat)) := by
        rw [cell_of_row _ _ _ _ _ _ hP.pas]
        simp [hkn]
      have hRw := HR.out wr hL.grown
      have hst := stK_step R N k (by rw [HOL.out]; exact hkn)
      obtain ⟨ok1, ok2⟩ := stK_ok R N HM.out k (by rw [HOL.out]; omega)
      obtain ⟨i, hie⟩ : ∃ v, v = (ordA R N).getD k 0 := ⟨_, rfl⟩
      rw [← hie] at hni cn hst
      obtain ⟨ra, ro, rfl, cr⟩ : ∃ ra ro, a = some ⟨ra, ro, none⟩ ∧ wr.cell? ⟨ra, ro + i, none⟩ = some (.slice (la i) (R i).length (lc i)) := by
        rcases hRw.1 with h | ⟨ra, ro, e, h⟩
        · omega
        · exact ⟨ra, ro, e, h i hni⟩
      have hbl : (stK R N k).bs.length = N := ok1.1
      have hol : (stK R N k).ow.length ≤ 67108864 - 512 := by
        have h1 := ok1.2.2
        have h2 : k * 256 ≤ 256 * 256 := Nat.mul_le_mul_right _ (by omega)
        omega
      have HC := hidP (layRow_any (i := i) (lc := lc i) (la := la i) (R i) hL hP (fun X hX => (HR.out X hX).2 i hni) (HM.out.2 i hni) ok1.2.1 hol ok2 (by rw [hbl]; exact hni) (by rw [hbl]; exact hN2))
      rw [← hst] at HC
      obtain ⟨ln, hln⟩ : ∃ v, v = (R i).length := ⟨_, rfl⟩
      rw [← hln] at cr HC
      have hi0 : (0 : Int) ≤ (i : Int) := by omega
      have hi1 : (i : Int) < (N : Int) := by omega
      clear hgk hL hP hRw hst ok1 ok2 hie hbl hol hln
      go_wp2_with fail
      refine Calls.mono HC.out ?_
      rintro e y2 ⟨rfl, ua2, uc2, hL2, hP2⟩
      have HL2 := hidP hL2
      have HP2 := hidP hP2
      clear hL2 hP2 HC
      go_wp2_with fail
      go_roundg (N - (k + 1))
      case measure => have := HGK.out; omega
      case rel => exact ⟨k + 1, ua2, uc2, by omega, rfl, by go_num, HL2.out, HP2.out⟩
    · have hkd : ¬ (k : Int) < (N : Int) := by omega
      have hkk : k = N := by omega
      subst hkk
      have hall : stK R k k = lay R k := by
        have h := stK_all R k
        rw [HOL.out] at h
        exact h
      rw [hall] at hL
      have HF := hidP hL
      obtain ⟨d0, d1, d2⟩ := hL.cell
      have hres := hL.res
      have r0 : wr.cell? ⟨w.heap.size, 0, none⟩ = some (.slice none 0 0) := by rw [cell_of_row _ _ _ _ _ _ hres]; rfl
      have r1 : wr.cell? ⟨w.heap.size, 1, none⟩ = some (.slice none 0 0) := by rw [cell_of_row _ _ _ _ _ _ hres]; rfl
      have r2 : wr.cell? ⟨w.heap.size, 2, none⟩ = some (.slice none 0 0) := by rw [cell_of_row _ _ _ _ _ _ hres]; rfl
      have rf0 : wr.frozen? ⟨w.heap.size, 0, none⟩ = false := frozen_of_row _ _ _ _ _ hres
      have rf1 : wr.frozen? ⟨w.heap.size, 1, none⟩ = false := frozen_of_row _ _ _ _ _ hres
      have rf2 : wr.frozen? ⟨w.heap.size, 2, none⟩ = false := frozen_of_row _ _ _ _ _ hres
      have HRES := hidP hres
      have HEND := ly_end (w := w) hL.grown
      clear hres hL hP HL HP hall hgk
      go_wp2_with fail
      exact ⟨rfl, _, results_laid _ _ w.heap.size _ rfl (ly_set3 HRES.out _ _ _) rfl, ua, uc, rfl, ly_rows HF.out _ _ _, HEND.out _ _ _⟩

end Go.Proofs.Ythohllgpkiibhaa.J

/-
  pack: the program's Lay: as the document's.
-/
namespace Go.Proofs.Ythohllgpkiibhaa.J
open Go.RowKit Go.Maps Go.Shelf Pk

attribute [local go_sem] Oper.semAt_some

set_option maxRecDepth 100000 in
set_option maxHeartbeats 2000000 in
theorem layM_any (a : Option Addr) (N c : Nat) (R : Nat → List It) (la : Nat → Option Addr) (lc : Nat → Nat) (w : World) (hR : RsAt w a N R la lc) (hN : N ≤ 17592186044416) (hl : ∀ i, i < N → (R i).length ≤ 17592186044416) :
    Calls Try.prog 10 #[.slice a N c] w fun e y => LayTold N R w e y := by
  obtain ⟨r, hr⟩ : ∃ r : Bool, r = true ↔ MayLay N R := by
    by_cases h : MayLay N R
    · exact ⟨true, by simp [h]⟩
    · exact ⟨false, by simp [h]⟩
  obtain ⟨W1, hW1⟩ : ∃ W, W = w.alloc (.cells #[.slice none 0 0, .slice none 0 0, .slice none 0 0] 26) := ⟨_, rfl⟩
  have hg0 : w.grownBy W1 none := by rw [hW1]; exact World.grownBy_alloc _ _ none
  have HX0 : Hid (W1.heap[w.heap.size]? = some (.cells #[.slice none 0 0, .slice none 0 0, .slice none 0 0] 26 (0, 0))) := by show _ = _; rw [hW1]; exact heap_alloc_last w _
  have HG0 : Hid (w.grownBy W1 none) := hg0
  have HR := hidP hr
  have HA := hidP (areRows_any a N c R la lc W1 (hR.kept hg0) hN hl r hr)
  have HLD : Hid (MayLay N R → ∀ X, w.grownBy X none → Calls Try.prog 29 #[.slice a N c] X fun e y => LaidTold N R X e y) := fun hm X hX => laid_any a N c R la lc X (hR.kept hX) hm
  have hs1 : W1.heap.size = w.heap.size + 1 := by rw [hW1]; simp
  clear hR hr hl hg0
  go_enter Try.func10, Try.ntmps10
  go_wp2_with fail
  rw [← hW1]
  clear hW1
  refine Calls.mono HA.out ?_
  rintro e y ⟨rfl, hy⟩
  have HY := hidP hy
  have HBX : Hid (y.heap[w.heap.size]? = some (.cells #[.slice none 0 0, .slice none 0 0, .slice none 0 0] 26 (0, 0))) := box_kept HX0.out hy
  have HGY : Hid (w.grownBy y none) := grown_trans HG0.out hy
  clear hy
  cases r with
  | false =>
    have HM : Hid (¬ MayLay N R) := fun h => by have := HR.out.2 h; cases this
    have r0 : y.cell? ⟨w.heap.size, 0, none⟩ = some (.slice none 0 0) := by rw [cell_of_row _ _ _ _ _ _ HBX.out]; rfl
    have r1 : y.cell? ⟨w.heap.size, 1, none⟩ = some (.slice none 0 0) := by rw [cell_of_row _ _ _ _ _ _ HBX.out]; rfl
    have r2 : y.cell? ⟨w.heap.size, 2, none⟩ = some (.slice none 0 0) := by rw [cell_of_row _ _ _ _ _ _ HBX.out]; rfl
    have rf0 : y.frozen? ⟨w.heap.size, 0, none⟩ = false := frozen_of_row _ _ _ _ _ HBX.out
    have rf1 : y.frozen? ⟨w.heap.size, 1, none⟩ = false := frozen_of_row _ _ _ _ _ HBX.out
    have rf2 : y.frozen? ⟨w.heap.size, 2, none⟩ = false := frozen_of_row _ _ _ _ _ HBX.out
    have HEND := ly_end (w := w) HGY.out
    clear HLD HA HX0 HG0 hs1
    go_wp2_with fail
    exact ⟨rfl, _, results_layM _ _ w.heap.size _ _ rfl rfl (ly_set3 HBX.out _ _ _) rfl, .inl ⟨HM.out, rfl, HEND.out _ _ _⟩⟩
  | true =>
    have hm := HR.out.1 rfl
    have HM := hidP hm
    have HC := hidP (HLD.out hm y HGY.out)
    clear hm HLD HA
    go_wp2_with fail
    refine Calls.mono HC.out ?_
    rintro e z ⟨ua, uc, rfl, hT, hz⟩
    have HBZ : Hid (z.heap[w.heap.size]? = some (.cells #[.slice none 0 0, .slice none 0 0, .slice none 0 0] 26 (0, 0))) := box_kept HBX.out hz
    have HGZ : Hid (w.grownBy z none) := grown_trans HGY.out hz
    have HT : Hid (TrZ z w.heap.size 3 (lyS (lay R N)) ua uc) := TrZ.lower hT HGY.out.size
    have r0 : z.cell? ⟨w.heap.size, 0, none⟩ = some (.slice none 0 0) := by rw [cell_of_row _ _ _ _ _ _ HBZ.out]; rfl
    have r1 : z.cell? ⟨w.heap.size, 1, none⟩ = some (.slice none 0 0) := by rw [cell_of_row _ _ _ _ _ _ HBZ.out]; rfl
    have r2 : z.cell? ⟨w.heap.size, 2, none⟩ = some (.slice none 0 0) := by rw [cell_of_row _ _ _ _ _ _ HBZ.out]; rfl
    have rf0 : z.frozen? ⟨w.heap.size, 0, none⟩ = false := frozen_of_row _ _ _ _ _ HBZ.out
    have rf1 : z.frozen? ⟨w.heap.size, 1, none⟩ = false := frozen_of_row _ _ _ _ _ HBZ.out
    have rf2 : z.frozen? ⟨w.heap.size, 2, none⟩ = false := frozen_of_row _ _ _ _ _ HBZ.out
    have HEND := ly_end (w := w) HGZ.out
    have HTT : Hid (∀ u0 u1 u2, TrZ (((z.setCell ⟨w.heap.size, 0, none⟩ u0).setCell ⟨w.heap.size, 1, none⟩ u1).setCell ⟨w.heap.size, 2, none⟩ u2) w.heap.size 3 (lyS (lay R N)) ua uc) := fun u0 u1 u2 => by
      have h1 := heap_setCell_same _ _ 0 _ _ u0 HBZ.out
      have h2 := heap_setCell_same _ _ 1 _ _ u1 h1
      exact ((HT.out.beside HBZ.out (by decide) (grown_setCell _ _ _)).beside h1 (by decide) (grown_setCell _ _ _)).beside h2 (by decide) (grown_setCell _ _ _)
    clear hT hz HC
    go_wp2_with fail
    exact ⟨rfl, _, results_layM _ _ w.heap.size _ _ rfl rfl (ly_set3 HBZ.out _ _ _) rfl, .inr ⟨HM.out, ua, uc, rfl, HTT.out _ _ _, HEND.out _ _ _⟩⟩

end Go.Proofs.Ythohllgpkiibhaa.J
