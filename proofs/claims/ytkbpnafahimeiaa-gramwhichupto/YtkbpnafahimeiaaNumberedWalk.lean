/-
  numbered of a builder, walked.
-/
import Derived.Test.YtkbpnafahimeiaaCopiedWalk
import Derived.Deep.LoopGhost
namespace Go.Proofs.Ytkbpnafahimeiaa
open Go.RowKit Go.Maps Go.Shelf

def updR (R : Nat → List Int) (k : Nat) (l : List Int) : Nat → List Int := fun i => if i = k then l else R i
/-- A handle's symbol, by the symbols' row. -/
def sg (σ : Nat → Int) (h : Int) : Int := if h < 0 then σ (-h).toNat else h
def mapTo (σ : Nat → Int) (j : Nat) (l : List Int) : List Int := (l.take j).map (sg σ) ++ l.drop j

theorem mapTo_length (σ : Nat → Int) (j : Nat) (l : List Int) : (mapTo σ j l).length = l.length := by simp [mapTo]; omega
theorem mapTo_zero (σ : Nat → Int) (l : List Int) : mapTo σ 0 l = l := by simp [mapTo]
theorem mapTo_all (σ : Nat → Int) (l : List Int) : mapTo σ l.length l = l.map (sg σ) := by simp [mapTo]
theorem mapTo_at (σ : Nat → Int) (j : Nat) (l : List Int) (hj : j < l.length) : (mapTo σ j l)[j]? = some (l.getD j 0) := by
  unfold mapTo
  rw [List.getElem?_append_right (by simp; omega)]
  simp [List.getD, hj, Nat.min_eq_left (Nat.le_of_lt hj)]
theorem mapTo_succ (σ : Nat → Int) (j : Nat) (l : List Int) (hj : j < l.length) : mapTo σ (j + 1) l = (mapTo σ j l).set j (sg σ (l.getD j 0)) := by
  unfold mapTo
  have hl : ((l.take j).map (sg σ)).length = j := by simp; omega
  rw [List.set_append_right _ _ (by omega), hl, Nat.sub_self]
  rw [List.drop_eq_getElem_cons hj, List.set_cons_zero, List.take_succ_eq_append_getElem hj, List.map_append]
  simp [List.getD, hj]

theorem NewProds.congr {w wr : World} {B n : Nat} {v : Value} {L L' : Nat → Int} {R R' : Nat → List Int} {V : Nat → Int} {rg : Nat → Value} (h : NewProds w wr B v n n L R V rg) (h1 : ∀ i, i < n → L i = L' i) (h2 : ∀ i, i < n → R i = R' i) : NewProds w wr B v n n L' R' V rg :=
  ⟨by rw [← prodRow_ext h1 (fun _ _ => rfl) (fun _ _ => rfl)]; exact h.row, fun i hi => by rw [← h2 i hi]; exact h.rights i hi, h.apart, h.disj, h.lo, h.grown⟩

theorem NewProds.setLeft {w wr : World} {B g n c k : Nat} {L : Nat → Int} {R : Nat → List Int} {V : Nat → Int} {rg : Nat → Value} (h : NewProds w wr B (.slice (some ⟨g, 0, none⟩) n c) n n L R V rg) (hk : k < n) (x : Int) :
    NewProds w (wr.setCell ⟨g, k * 3, none⟩ (.int .i64 x)) B (.slice (some ⟨g, 0, none⟩) n c) n n (updI L k x) R V rg := by
  have hst := grown_setCell (w := wr) g (k * 3) (.int .i64 x)
  have hgB := h.row.lt g rfl
  refine ⟨by rw [← prodRow_setL L rg V k x n hk]; exact owns_set h.row _, fun i hi => (h.rights i hi).kept hst ?_, h.apart, h.disj, h.lo, grown_new h.grown hst (Nat.le_trans h.lo hgB.1)⟩
  cases hx : (rg i).ownBlock with
  | none => exact .inl rfl
  | some y => have := h.apart i hi y hx; simp [Value.ownBlock] at this; exact .inr (by simp; omega)

theorem NewProds.setRight {w wr : World} {B g n c k j gk ck : Nat} {L : Nat → Int} {R : Nat → List Int} {V : Nat → Int} {rg : Nat → Value} (h : NewProds w wr B (.slice (some ⟨g, 0, none⟩) n c) n n L R V rg) (hk : k < n) (hr : rg k = .slice (some ⟨gk, 0, none⟩) (R k).length ck) (x : Int) :
    NewProds w (wr.setCell ⟨gk, j, none⟩ (.int .i64 x)) B (.slice (some ⟨g, 0, none⟩) n c) n n L (updR R k ((R k).set j x)) V rg := by
  have hst := grown_setCell (w := wr) gk j (.int .i64 x)
  have hkr := h.rights k hk
  have hkb : (rg k).ownBlock = some gk := by rw [hr]; rfl
  have hgB := hkr.lt gk hkb
  refine ⟨h.row.kept hst ?_, fun i hi => ?_, h.apart, h.disj, h.lo, grown_new h.grown hst (Nat.le_trans h.lo hgB.1)⟩
  · exact .inr (h.apart k hk gk hkb)
  · by_cases e : i = k
    · subst e
      have e1 : updR R i ((R i).set j x) i = (R i).set j x := by simp [updR]
      rw [e1, List.length_set, List.map_set]
      rw [hr] at hkr ⊢
      exact owns_set hkr _
    · have e1 : updR R k ((R k).set j x) i = R i := by simp [updR, e]
      rw [e1]
      refine (h.rights i hi).kept hst ?_
      cases hx : (rg i).ownBlock with
      | none => exact .inl rfl
      | some y =>
        right
        intro hh
        have hy : y = gk := by simpa using hh
        subst hy
        by_cases hlt : i < k
        · exact h.disj i k hlt hk y hx hkb
        · exact h.disj k i (by omega) hi y hkb hx

/-- The stage at production k, j of its right side's symbols laid. -/
def LS (σ : Nat → Int) (L : Nat → Int) (k : Nat) : Nat → Int := fun i => if i < k then sg σ (L i) else L i
def RS (σ : Nat → Int) (R : Nat → List Int) (k j : Nat) : Nat → List Int := fun i => if i < k then (R i).map (sg σ) else if i = k then mapTo σ j (R i) else R i

theorem LS_succ (σ : Nat → Int) (L : Nat → Int) (k i : Nat) : updI (LS σ L k) k (sg σ (L k)) i = LS σ L (k + 1) i := by
  unfold updI LS
  by_cases h : i = k
  · subst h; simp
  · by_cases h2 : i < k
    · simp [h, h2, show i < k + 1 by omega]
    · simp [h, h2, show ¬ i < k + 1 by omega]
theorem RS_len (σ : Nat → Int) (R : Nat → List Int) (k j i : Nat) : (RS σ R k j i).length = (R i).length := by
  unfold RS
  split
  · simp
  · split
    · exact mapTo_length _ _ _
    · rfl
theorem RS_step (σ : Nat → Int) (R : Nat → List Int) (k j : Nat) (hj : j < (R k).length) (i : Nat) : updR (RS σ R k j) k ((RS σ R k j k).set j (sg σ ((R k).getD j 0))) i = RS σ R k (j + 1) i := by
  unfold updR
  by_cases h : i = k
  · subst h
    simp [RS, mapTo_succ σ j (R i) hj]
  · simp [RS, h]
theorem RS_pos (σ : Nat → Int) (R : Nat → List Int) (k j : Nat) (hj : j < (R k).length) (h0 : ¬ (R k).getD j 0 < 0) (i : Nat) : RS σ R k j i = RS σ R k (j + 1) i := by
  unfold RS
  split
  · rfl
  · split
    · next h => 
      subst h
      rw [mapTo_succ σ j (R i) hj]
      apply List.ext_getElem?
      intro x
      rw [List.getElem?_set]
      split
      · next e =>
        subst e
        rw [if_pos (by rw [mapTo_length]; exact hj), mapTo_at σ j (R i) hj]
        unfold sg
        rw [if_neg h0]
      · rfl
    · rfl
theorem RS_end (σ : Nat → Int) (R : Nat → List Int) (k i : Nat) : RS σ R k (R k).length i = RS σ R (k + 1) 0 i := by
  unfold RS
  by_cases h : i < k
  · simp [h, show i < k + 1 by omega]
  · by_cases h2 : i = k
    · subst h2; simp [mapTo_all]
    · by_cases h3 : i = k + 1
      · subst h3; simp [mapTo_zero, show ¬ k + 1 < k by omega]
      · simp [h, h2, show ¬ i < k + 1 by omega, h3]
theorem RS_start (σ : Nat → Int) (R : Nat → List Int) (i : Nat) : RS σ R 0 0 i = R i := by
  unfold RS
  split
  · omega
  · split
    · exact mapTo_zero _ _
    · rfl

end Go.Proofs.Ytkbpnafahimeiaa

namespace Go.Proofs.Ytkbpnafahimeiaa
open Go.RowKit Go.Maps Go.Shelf

attribute [local go_sem] Oper.semAt_some

set_option maxRecDepth 100000 in
set_option maxHeartbeats 4000000 in
theorem numbered_core (b bp off n cap Bs N : Nat) (L : Nat → Int) (R : Nat → List Int) (ra : Nat → Option Addr) (rc : Nat → Nat) (V : Nat → Int) (σ : Nat → Int) (w : World) (hc : w.cell? ⟨b, 70, none⟩ = some (.slice (some ⟨bp, off, none⟩) n cap))
    (hP : ProdsAt w (some ⟨bp, off, none⟩) n L R ra rc V) (h0 : 0 < n) (hn : n ≤ 96) (hN : N ≤ 64) (hσ : ∀ i, i ≤ N → w.cell? ⟨Bs, i, none⟩ = some (.int .i64 (σ i)))
    (hL : ∀ i, i < n → -(N : Int) ≤ L i ∧ L i < 0) (hR : ∀ i, i < n → ∀ h ∈ R i, (0 ≤ h ∧ h ≤ 64) ∨ (h < 0 ∧ -(N : Int) ≤ h)) :
    Calls Try.prog 47 #[.pointer (some ⟨b, 0, none⟩), .slice (some ⟨Bs, 0, none⟩) (N + 1) (N + 1)] w fun e w' => ∃ g c rg, e = .returned (.slice (some ⟨g, 0, none⟩) n c) ∧ NewProds w w' w.heap.size (.slice (some ⟨g, 0, none⟩) n c) n n (fun i => sg σ (L i)) (fun i => (R i).map (sg σ)) V rg := by
  have hcp := copiedProds_some bp off n cap L R ra rc V w hP h0 (by omega)
  have HS : Hid (∀ i, i ≤ N → w.cell? ⟨Bs, i, none⟩ = some (.int .i64 (σ i))) := hσ
  have HL : Hid (∀ i, i < n → -(N : Int) ≤ L i ∧ L i < 0) := hL
  have HR : Hid (∀ i, i < n → ∀ h ∈ R i, (0 ≤ h ∧ h ≤ 64) ∨ (h < 0 ∧ -(N : Int) ≤ h)) := hR
  have HLEN : Hid (∀ i, i < n → (R i).length ≤ 17592186044416) := fun i hi => by
    rcases hP with h | ⟨_, _, _, h⟩
    · omega
    · exact (h i hi).2.2.2.2.2
  clear hP hσ hL hR
  go_enter Try.func47, Try.ntmps47
  go_wp2_with fail
  refine hcp.mono ?_
  clear hcp
  rintro e w1 ⟨g, c, rg, rfl, hNP1⟩
  have HN1 : Hid (NewProds w w1 w.heap.size (.slice (some ⟨g, 0, none⟩) n c) n n L R V rg) := hNP1
  clear hNP1 hc
  go_wp2_with fail
  go_loopg [16] n (fun gk i wr => ∃ k : Nat, k ≤ n ∧ gk = n - k ∧ i = .int .i64 k ∧ NewProds w wr w.heap.size (.slice (some ⟨g, 0, none⟩) n c) n n (LS σ L k) (RS σ R k 0) V rg)
  case atStart => exact ⟨0, Nat.zero_le _, rfl, rfl, HN1.out.congr (fun i _ => by simp [LS]) (fun i _ => (RS_start σ R i).symm)⟩
  case round =>
    obtain ⟨k, hk, hgk, rfl, hNP⟩ := hrel
    have HNP : Hid (NewProds w wr w.heap.size (.slice (some ⟨g, 0, none⟩) n c) n n (LS σ L k) (RS σ R k 0) V rg) := hNP
    have HGK : Hid (gk = n - k) := hgk
    clear hNP hgk HN1
    by_cases hlt : k < n
    · have hl := HL.out k hlt
      obtain ⟨j, hj⟩ := Int.eq_ofNat_of_zero_le (show 0 ≤ -(L k) by omega)
      have hlk : L k = -(j : Int) := by omega
      have hjN : (j : Int) < (N : Int) + 1 := by omega
      have hj1 : 1 ≤ j := by omega
      have hcL : wr.cell? ⟨g, k * 3, none⟩ = some (.int .i64 (-(j : Int))) := by
        refine owns_cell HNP.out.row ?_
        have := prodRow_at (LS σ L k) rg V n k hlt 0 (by omega)
        rw [Nat.add_zero] at this
        rw [this]
        simp [LS, hlk]
      have hfL := owns_free HNP.out.row (k * 3)
      have hcS : wr.cell? ⟨Bs, j, none⟩ = some (.int .i64 (σ j)) := HNP.out.grown.cell (HS.out j (by omega)) (by simp)
      have hcR : wr.cell? ⟨g, k * 3 + 1, none⟩ = some (rg k) := by
        refine owns_cell HNP.out.row ?_
        rw [prodRow_at (LS σ L k) rg V n k hlt 1 (by omega)]
        rfl
      have hNL := HNP.out.setLeft hlt (σ j)
      have esg : σ j = sg σ (L k) := by unfold sg; rw [if_pos hl.2, hj]; rfl
      have HNL : Hid (NewProds w (wr.setCell ⟨g, k * 3, none⟩ (.int .i64 (σ j))) w.heap.size (.slice (some ⟨g, 0, none⟩) n c) n n (LS σ L (k + 1)) (RS σ R k 0) V rg) :=
        hNL.congr (fun i _ => by rw [esg]; exact LS_succ σ L k i) (fun _ _ => rfl)
      have hrk := HNP.out.rights k hlt
      rw [RS_len] at hrk
      obtain ⟨ak, ck, hrv⟩ := owns_slice hrk
      rw [hrv] at hcR
      have hlenk := HLEN.out k hlt
      clear hNL esg hj hl hlk hrk
      go_wp2_with fail
      have HRV : Hid (rg k = .slice ak (R k).length ck) := hrv
      have HRK : Hid (∀ h ∈ R k, (0 ≤ h ∧ h ≤ 64) ∨ (h < 0 ∧ -(N : Int) ≤ h)) := HR.out k hlt
      clear hcL hfL hcS hcR hrv HNP
      obtain ⟨len, hlen⟩ : ∃ len, len = (R k).length := ⟨_, rfl⟩
      have HLE : Hid ((R k).length = len) := hlen.symm
      rw [← hlen] at hlenk ⊢
      clear hlen
      go_loopg [38] len (fun gk i wr => ∃ x : Nat, x ≤ len ∧ gk = len - x ∧ i = .int .i64 x ∧ NewProds w wr w.heap.size (.slice (some ⟨g, 0, none⟩) n c) n n (LS σ L (k + 1)) (RS σ R k x) V rg)
      case atStart => exact ⟨0, Nat.zero_le _, rfl, rfl, HNL.out⟩
      case round =>
        obtain ⟨x, hx, hgx, rfl, hNP⟩ := hrel
        have HNP : Hid (NewProds w wr w.heap.size (.slice (some ⟨g, 0, none⟩) n c) n n (LS σ L (k + 1)) (RS σ R k x) V rg) := hNP
        have HGX : Hid (gk = len - x) := hgx
        clear hNP hgx HNL
        by_cases hlx : x < len
        · have hxl : x < (R k).length := by rw [HLE.out]; exact hlx
          have hrk := HNP.out.rights k hlt
          rw [RS_len, HRV.out] at hrk
          obtain ⟨gr, rfl⟩ : ∃ gr, ak = some ⟨gr, 0, none⟩ := by
            rcases hrk.2 with ⟨_, h⟩ | ⟨gr, _, _, hv, _⟩
            · omega
            · simp at hv; exact ⟨gr, hv.1⟩
          have hcx : wr.cell? ⟨gr, x, none⟩ = some (.int .i64 ((R k).getD x 0)) := by
            refine owns_cell hrk ?_
            rw [List.getElem?_map]
            have : RS σ R k x k = mapTo σ x (R k) := by simp [RS]
            rw [this, mapTo_at σ x (R k) hxl]
            rfl
          have hfx := owns_free hrk x
          have hmem : (R k).getD x 0 ∈ R k := by
            have e : (R k).getD x 0 = (R k)[x] := by simp [List.getD, hxl]
            rw [e]; exact List.getElem_mem _
          have hrng := HRK.out _ hmem
          have hRV := HRV.out
          rw [HLE.out] at hRV
          have hcR : wr.cell? ⟨g, k * 3 + 1, none⟩ = some (.slice (some ⟨gr, 0, none⟩) len ck) := by
            refine owns_cell HNP.out.row ?_
            rw [prodRow_at (LS σ L (k + 1)) rg V n k hlt 1 (by omega), hRV]
            rfl
          have hstep := fun i => RS_step σ R k x hxl i
          have hposs := fun h0 i => RS_pos σ R k x hxl h0 i
          generalize (R k).getD x 0 = h at *
          by_cases hneg : h < 0
          · obtain ⟨y, hy⟩ := Int.eq_ofNat_of_zero_le (show 0 ≤ -h by omega)
            have hhy : h = -(y : Int) := by omega
            have hyN : (y : Int) < (N : Int) + 1 := by omega
            have hypos : 0 < y := by omega
            have hyd : decide (-(y : Int) < 0) = true := decide_eq_true (by omega)
            have hcS : wr.cell? ⟨Bs, y, none⟩ = some (.int .i64 (σ y)) := HNP.out.grown.cell (HS.out y (by omega)) (by simp)
            have esg : sg σ h = σ y := by unfold sg; rw [if_pos hneg, hy]; rfl
            rw [esg] at hstep
            have HFIN : Hid (∀ q, NewProds w ((wr.drewN q).setCell ⟨gr, x, none⟩ (.int .i64 (σ y))) w.heap.size (.slice (some ⟨g, 0, none⟩) n c) n n (LS σ L (k + 1)) (RS σ R k (x + 1)) V rg) := fun q =>
              ((HNP.out.kept (grown_drewN wr q)).setRight (j := x) hlt (gk := gr) (ck := ck) (by rw [HRV.out, RS_len]) (σ y)).congr (fun _ _ => rfl) (fun i _ => hstep i)
            have hcS' : wr.drew.cell? ⟨Bs, y, none⟩ = some (.int .i64 (σ y)) := hcS
            have hcR' : wr.drew.cell? ⟨g, k * 3 + 1, none⟩ = some (.slice (some ⟨gr, 0, none⟩) len ck) := hcR
            have hcx' : wr.drew.cell? ⟨gr, x, none⟩ = some (.int .i64 h) := hcx
            have hfx' : wr.drew.frozen? ⟨gr, x, none⟩ = false := hfx
            subst hhy
            clear hposs hstep esg hrng hmem hrk hRV hy hneg
            go_wp2_with fail
            go_region
            go_wp2_with fail
            go_roundg (len - (x + 1))
            case measure => have := HGX.out; omega
            case rel => exact ⟨x + 1, by omega, rfl, by go_num, HFIN.out 1⟩
          · have hd : decide (h < 0) = false := decide_eq_false hneg
            have HFIN : Hid (NewProds w wr w.heap.size (.slice (some ⟨g, 0, none⟩) n c) n n (LS σ L (k + 1)) (RS σ R k (x + 1)) V rg) := HNP.out.congr (fun _ _ => rfl) (fun i _ => hposs hneg i)
            clear hposs hstep hrng hmem hrk hRV
            go_wp2_with fail
            go_roundg (len - (x + 1))
            case measure => have := HGX.out; omega
            case rel => exact ⟨x + 1, by omega, rfl, by go_num, HFIN.out⟩
        · obtain rfl : x = len := by omega
          have HFIN : Hid (NewProds w wr w.heap.size (.slice (some ⟨g, 0, none⟩) n c) n n (LS σ L (k + 1)) (RS σ R (k + 1) 0) V rg) := HNP.out.congr (fun _ _ => rfl) (fun i _ => by rw [← HLE.out]; exact RS_end σ R k i)
          go_wp2_with fail
          go_roundg (n - (k + 1))
          case measure => have := HGK.out; omega
          case rel => exact ⟨k + 1, by omega, rfl, by go_num, HFIN.out⟩
    · obtain rfl : k = n := by omega
      go_wp2_with fail
      go_ret
      exact ⟨g, c, rg, rfl, HNP.out.congr (fun i hi => by simp [LS, hi]) (fun i hi => by simp [RS, hi])⟩

end Go.Proofs.Ytkbpnafahimeiaa
