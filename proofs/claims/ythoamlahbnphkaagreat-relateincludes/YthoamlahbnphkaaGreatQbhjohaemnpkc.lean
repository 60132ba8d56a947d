/-
  lr0: the maker's leave, walked.
-/
import Derived.Test.YthoamlahbnphkaaGreatQppfekmlmdkck
import Derived.Test.YthoamlahbnphkaaGreatQpcfimedgocci
import Derived.Deep.RegionHeld3
namespace Go.Proofs.YthoamlahbnphkaaGreat.J
open Go.RowKit Go.Maps Go.Shelf

attribute [local go_sem] Oper.semAt_some

theorem infoEdge : (Tryz.prog.info? 115).map (fun i => (i.zero, i.size, i.bytes)) = some (some (.agg #[.int .i64 0, .int .i64 0]), 2, 16) := by kernel_rfl

/-- Edges as pairs of numbers. -/
def edI (ed : List (Nat × Nat)) : List It := ed.map fun x => ((x.1 : Int), (x.2 : Int))
theorem edI_len (ed : List (Nat × Nat)) : (edI ed).length = ed.length := by unfold edI; rw [List.length_map]
theorem edI_snoc (ed : List (Nat × Nat)) (s t : Nat) : edI (ed ++ [(s, t)]) = edI ed ++ [((s : Int), (t : Int))] := by unfold edI; rw [List.map_append]; rfl

/-- What a kernel that is the j-th at most is. -/
def PJ (n : Nat) (R : Nat → List Int) (j : Nat) (k : List It) : Prop := (∀ x ∈ k, itB n R x = true) ∧ k.length ≤ 1 + 13000 * j
theorem kerT_item {n : Nat} {R : Nat → List Int} {l : List It} (h : ∀ x ∈ l, itB n R x = true) {s : Nat} : ∀ x ∈ kerT R l (s : Int), itB n R x = true := by
  intro x hx
  unfold kerT at hx
  obtain ⟨y, hy, rfl⟩ := List.mem_map.1 hx
  obtain ⟨hy1, hy2⟩ := List.mem_filter.1 hy
  have h1 := h y hy1
  have h2 : aheadV R y = (s : Int) := by simpa using hy2
  unfold itB at h1 ⊢
  simp only [Bool.and_eq_true, decide_eq_true_eq] at h1 ⊢
  obtain ⟨⟨⟨a1, a2⟩, a3⟩, a4⟩ := h1
  refine ⟨⟨⟨a1, a2⟩, by omega⟩, ?_⟩
  unfold aheadV at h2
  by_cases e : y.2 = ((R y.1.toNat).length : Int)
  · rw [if_pos e] at h2; omega
  · omega
theorem i64_of {n : Nat} {R : Nat → List Int} {x : It} (hn : n ≤ 97) (hR : ∀ k, k < n → (R k).length ≤ 17592186044416) (h : itB n R x = true) : I64 x := by
  unfold itB at h
  simp only [Bool.and_eq_true, decide_eq_true_eq] at h
  obtain ⟨⟨⟨a1, a2⟩, a3⟩, a4⟩ := h
  have := hR x.1.toNat (by omega)
  constructor
  · exact WalkArith.wf_i64 ⟨by omega, by omega⟩
  · exact WalkArith.wf_i64 ⟨by omega, by omega⟩
theorem PJ.ker {n : Nat} {R : Nat → List Int} {i m : Nat} {l I : List It} {s : Nat} (hI : PJ n R i I) (hl : ∀ x ∈ l, itB n R x = true) (hll : l.length ≤ I.length + 13000) (hm : i < m) : PJ n R m (kerT R l (s : Int)) := by
  refine ⟨kerT_item hl, ?_⟩
  have h1 := kerT_len R l (s : Int)
  have h2 := hI.2
  have h3 : 13000 * (i + 1) ≤ 13000 * m := Nat.mul_le_mul_left _ hm
  omega
theorem leaveF_skip {G : Nat → List It} {ks ks' : List (List It)} {ed : List (Nat × Nat)} {s : Nat} (h : leaveF G ks s = some (ks', ed)) (h0 : G s = []) : leaveF G ks (s + 1) = some (ks', ed) := by
  unfold leaveF
  rw [h]
  simp only
  rw [if_pos h0]
theorem leaveF_push {G : Nat → List It} {ks ks' ks2 : List (List It)} {ed : List (Nat × Nat)} {s t : Nat} (h : leaveF G ks s = some (ks', ed)) (h0 : G s ≠ []) (ha : askF ks' (G s) = some (t, ks2)) : leaveF G ks (s + 1) = some (ks2, ed ++ [(s, t)]) := by
  unfold leaveF
  rw [h]
  simp only
  rw [if_neg h0, ha]
theorem leaveF_full {G : Nat → List It} {ks ks' : List (List It)} {ed : List (Nat × Nat)} {s S : Nat} (h : leaveF G ks s = some (ks', ed)) (h0 : G s ≠ []) (ha : askF ks' (G s) = none) (hs : s < S) : leaveF G ks S = none := by
  have h1 : leaveF G ks (s + 1) = none := by
    unfold leaveF
    rw [h]
    simp only
    rw [if_neg h0, ha]
  have h2 := leaveF_none h1 (S - (s + 1))
  rwa [show s + 1 + (S - (s + 1)) = S by omega] at h2

theorem MkAt.up {w X : World} {mb bm : Nat} {c0 c1 c2 c3 c4 : Value} {ks : List (List It)} {asked : Int} {el : Nat → List It} {E : Nat} (h : MkAt w X mb bm c0 c1 c2 c3 c4 ks asked el E) : MkAt w X mb bm c0 c1 c2 c3 c4 ks asked el X.heap.size := by
  obtain ⟨sa, sc, kv, ev, m, fv, h1, h2⟩ := h
  exact ⟨sa, sc, kv, ev, m, fv, h1.up, h2⟩
theorem MkAt.edged {w X Y : World} {mb bm : Nat} {c0 c1 c2 c3 c4 : Value} {ks : List (List It)} {asked : Int} {el : Nat → List It} {E : Nat} (h : MkAt w X mb bm c0 c1 c2 c3 c4 ks asked el E) {B n : Nat} {v : Value} {xs : List Value} (ho : X.ownsRow B 115 2 v n xs) (hB : E ≤ B) (hw : w.heap.size ≤ B) (hg : X.grownBy Y v.ownBlock) : MkAt w Y mb bm c0 c1 c2 c3 c4 ks asked el E := by
  obtain ⟨sa, sc, kv, ev, m, fv, h1, h2⟩ := h
  exact ⟨sa, sc, kv, ev, m, fv, h1.edged ho hB hw hg, h2⟩
theorem owns_base {X : World} {B B' e s n : Nat} {v : Value} {xs : List Value} (h : X.ownsRow B e s v n xs) (hb : B' ≤ B) : X.ownsRow B' e s v n xs := by
  refine ⟨h.1, ?_⟩
  rcases h.2 with h1 | ⟨g, cap, cur, hv, hB, hr⟩
  · exact .inl h1
  · exact .inr ⟨g, cap, cur, hv, by omega, hr⟩

/-- What leave tells. -/
def LeaveTold (w X : World) (mb bm : Nat) (c0 c1 c2 c3 c4 : Value) (tn n S : Nat) (L : Nat → Int) (R : Nat → List Int) (ks : List (List It)) (asked : Int) (el : Nat → List It) (i : Nat) (e : Ending) (y : World) : Prop :=
  ∃ l, IsClo tn n L R (ks.getD i []) l ∧ l.length ≤ (ks.getD i []).length + 13000 ∧
  ((∃ (ks' : List (List It)) (ed : List (Nat × Nat)) (E : Nat), leaveF (fun s => kerT R l (s : Int)) ks S = some (ks', ed) ∧ e = .returned (.bool true) ∧ MkAt w y mb bm c0 c1 c2 c3 c4 ks' (asked + ed.length) (updL el i (edI ed)) E ∧ KeepT X y)
  ∨ (leaveF (fun s => kerT R l (s : Int)) ks S = none ∧ e = .returned (.bool false) ∧ w.grownBy y none ∧ KeepT X y))

set_option maxRecDepth 100000 in
set_option maxHeartbeats 4000000 in
theorem leave_any (ta na la pa : Option Addr) (tc nc lc pc : Nat) (n : Nat) (L : Nat → Int) (R : Nat → List Int) (ra : Nat → Option Addr) (rc : Nat → Nat) (V : Nat → Int) (st : Int) (w X : World) (tn nn ln : Nat) (hP : ProdsAt w pa n L R ra rc V) (hn : n ≤ 97) (hn0 : 0 < n) (htn : tn ≤ 65) (hnn : nn ≤ 65) (hR : ∀ k, k < n → ∀ x ∈ R k, (0 : Int) ≤ x ∧ x < ((tn + nn : Nat) : Int)) (hRb : ∀ k, k < n → (R k).length ≤ 17592186044416)
    (mb bm : Nat) (ks : List (List It)) (asked : Int) (el : Nat → List It) (E : Nat) (i : Nat) (hM : MkAt w X mb bm (.slice ta tn tc) (.slice na nn nc) (.slice la ln lc) (.int .i64 st) (.slice pa n pc) ks asked el E) (hK : KsOK (PJ n R) ks) (hi : i < ks.length) (ha0 : 0 ≤ asked) (ha1 : asked ≤ 549755813888) (hel : ∀ j, i ≤ j → el j = []) :
    Calls Tryz.prog 73 #[.pointer (some ⟨mb, 0, none⟩), .int .i64 (i : Int)] X fun e y => LeaveTold w X mb bm (.slice ta tn tc) (.slice na nn nc) (.slice la ln lc) (.int .i64 st) (.slice pa n pc) tn n (tn + nn) L R ks asked el i e y := by
  obtain ⟨S, hS⟩ : ∃ S, S = tn + nn := ⟨_, rfl⟩
  rw [← hS]
  have hSz : S ≤ 130 := by omega
  obtain ⟨sa, sc, kv, ev, m, fv, hMP, hmm⟩ := hM
  have hMX := hMP
  obtain ⟨sb, sc2, hse, hscell⟩ := owns_at hMP.row (by omega)
  simp only [Value.slice.injEq] at hse
  obtain ⟨rfl, _, rfl⟩ := hse
  have hr1 := hscell _ _ (stV_at kv ev ks.length i hi).1
  obtain ⟨ka, kc, hkv⟩ := owns_cut (hMP.ker i hi)
  have hkr := hMP.ker i hi
  rw [hkv] at hr1 hkr
  obtain ⟨N, hN⟩ : ∃ n, n = ks.length := ⟨_, rfl⟩
  obtain ⟨q, hq⟩ : ∃ q, q = (ks.getD i []).length := ⟨_, rfl⟩
  have HQ0 : Hid (q = (ks.getD i []).length) := hq
  have hqb : (ks.getD i []).length ≤ 3328001 := by
    have h1 := (hK.each i hi).2
    have h2 := hK.le
    have h3 : 13000 * i ≤ 13000 * 256 := Nat.mul_le_mul_left _ (by omega)
    omega
  have HKE : Hid (∀ Y, X.grownBy Y none → Calls Tryz.prog 113 #[.agg #[.slice ta tn tc, .slice na nn nc, .slice la ln lc, .int .i64 st, .slice pa n pc], .slice ka q kc] Y fun e y => KerTold tn n S L R (ks.getD i []) Y e y) := fun Y hY => by
    rw [hq, hS]
    exact kernels_any ta na la pa tc nc lc pc n L R ra rc V st Y tn nn ln (prods_kept hP (grown_trans hMP.grown hY)) hn hn0 htn hnn hR hRb ka kc (ks.getD i []) (ItsAt.of (keep0 hkr hY)) (fun e => by
      rcases hkr.2 with ⟨h1, h2⟩ | ⟨g, cap, cur, h1, _⟩
      · simp only [Value.slice.injEq] at h1
        exact ⟨h2, h1.2.2⟩
      · simp only [Value.slice.injEq] at h1
        rw [e] at h1
        cases h1.1) (by omega) (hK.each i hi).1
  have HKS : Hid (∀ Y, X.grownBy Y none → (Y.cell? ⟨mb, 0, none⟩ = some (.slice ta tn tc) ∧ Y.cell? ⟨mb, 1, none⟩ = some (.slice na nn nc) ∧ Y.cell? ⟨mb, 2, none⟩ = some (.slice la ln lc) ∧ Y.cell? ⟨mb, 3, none⟩ = some (.int .i64 st) ∧ Y.cell? ⟨mb, 4, none⟩ = some (.slice pa n pc)) ∧ Y.cell? ⟨mb, 5, none⟩ = some (.slice (some ⟨sb, 0, none⟩) N sc) ∧ Y.cell? ⟨sb, i * 2, none⟩ = some (.slice ka q kc)) := fun Y hY => by
    obtain ⟨y0, y1, y2, y3, y4, y5, _⟩ := (hMP.kept hY).cells
    exact ⟨⟨y0, y1, y2, y3, y4⟩, by rw [hN]; exact y5, by rw [hq]; exact hY.cell hr1 (by simp)⟩
  have HMA : Hid (MkAt w X mb bm (.slice ta tn tc) (.slice na nn nc) (.slice la ln lc) (.int .i64 st) (.slice pa n pc) ks asked el X.heap.size) := ⟨_, _, kv, ev, m, fv, hMX.up, hmm⟩
  have HIN : Hid (i < ks.length) := hi
  have hiN : i < N := by rw [hN]; exact hi
  have hi0 : (0 : Int) ≤ (i : Int) := by omega
  have hi1 : (i : Int) < (N : Int) := by omega
  have HK : Hid (KsOK (PJ n R) ks) := hK
  have HEL : Hid (∀ j, i ≤ j → el j = []) := hel
  have HRB : Hid (∀ k, k < n → (R k).length ≤ 17592186044416) := hRb
  have HUP : Hid (X.grownBy X.drew none) := grown_drewN _ 1
  have hN256 : N ≤ 256 := by rw [hN]; exact hK.le
  have HWX : Hid (w.heap.size ≤ X.heap.size) := hMP.grown.size
  clear hP hR hK hel hRb hMP hMX hscell hkr hr1 hkv hq hN hS hi hmm hqb
  go_enter Tryz.func73, Tryz.ntmps73
  go_wp2_with fail
  go_region_held3 (fun Y => (Y.cell? ⟨mb, 0, none⟩ = some (.slice ta tn tc) ∧ Y.cell? ⟨mb, 1, none⟩ = some (.slice na nn nc) ∧ Y.cell? ⟨mb, 2, none⟩ = some (.slice la ln lc) ∧ Y.cell? ⟨mb, 3, none⟩ = some (.int .i64 st) ∧ Y.cell? ⟨mb, 4, none⟩ = some (.slice pa n pc)) ∧ Y.cell? ⟨mb, 5, none⟩ = some (.slice (some ⟨sb, 0, none⟩) N sc) ∧ Y.cell? ⟨sb, i * 2, none⟩ = some (.slice ka q kc)) (first | exact HKS.out _ HUP.out | exact HKS.out _ HG4.out | go_keep)
    ((first
      | (go_at_call 113; refine Calls.mono (HKE.out _ HUP.out) ?_; rintro e P ⟨l, rb, ua, uc, hIC, hll, rfl, hrb, hv, ho, hgP⟩; have HG4 : Hid (X.grownBy P none) := grown_trans HUP.out hgP; have HIC : Hid (IsClo tn n L R (ks.getD i []) l ∧ l.length ≤ (ks.getD i []).length + 13000) := ⟨hIC, hll⟩; have HV : Hid (ValAt P rb S 62 (fun s => .slice (ua s) (kerT R l (s : Int)).length (uc s))) := hv; have HO : Hid (∀ s, s < S → P.ownsRow X.heap.size 69 2 (.slice (ua s) (kerT R l (s : Int)).length (uc s)) (kerT R l (s : Int)).length (itsV (kerT R l (s : Int)))) := ho; clear hIC hll hrb hv ho hgP)
      | fail))
  have HIM : Hid (∀ x ∈ l, itB n R x = true) := fun x hx => ((HIC.out.1.mem x).1 hx).item (HK.out.each i HIN.out).1
  have HLV : Hid (∀ s ks' ed, leaveF (fun s => kerT R l (s : Int)) ks s = some (ks', ed) → KsOK (PJ n R) ks' ∧ ks <+: ks' ∧ ed.length ≤ s) := fun s ks' ed h => by
    obtain ⟨h1, h2, h3, _⟩ := HK.out.leave (G := fun s => kerT R l (s : Int)) (fun m t hm => PJ.ker (HK.out.each i HIN.out) HIM.out HIC.out.2 (Nat.lt_of_lt_of_le HIN.out hm)) s h
    exact ⟨h1, h2, h3⟩
  have HXP : Hid (w.heap.size ≤ P.heap.size) := Nat.le_trans HWX.out HG4.out.size
  have HMP : Hid (MkAt w P mb bm (.slice ta tn tc) (.slice na nn nc) (.slice la ln lc) (.int .i64 st) (.slice pa n pc) ks asked el P.heap.size) := (HMA.out.kept HG4.out).up
  obtain ⟨i3, hi3, hv0, hv1, hv2⟩ := info_parts infoEdge
  go_wp2_with fail
  go_loopg [5, 25] S (fun gk v5 v25 wr => ∃ (s : Nat) (ks' : List (List It)) (ed : List (Nat × Nat)) (em : Nat) (ea : Option Addr) (ec : Nat), s ≤ S ∧ gk = S - s ∧ v25 = .int .i64 s ∧ v5 = .slice ea em ec ∧ em = ed.length ∧ leaveF (fun s => kerT R l (s : Int)) ks s = some (ks', ed) ∧ wr.ownsRow P.heap.size 115 2 (.slice ea em ec) em (itsV (edI ed)) ∧ MkAt w wr mb bm (.slice ta tn tc) (.slice na nn nc) (.slice la ln lc) (.int .i64 st) (.slice pa n pc) ks' (asked + em) el P.heap.size ∧ KeepT P wr)
  case atStart => exact ⟨0, ks, [], 0, none, 0, Nat.zero_le _, rfl, rfl, rfl, rfl, rfl, World.ownsRow_nil _ _ _ _, by simpa using HMP.out, .refl _⟩
  case round =>
    obtain ⟨s, ks', ed, em, ea, ec, hs, hgs, rfl, rfl, hem, hlv, hoe, hmk, hkt⟩ := hrel
    have HGS : Hid (gk = S - s) := hgs
    have HEM : Hid (em = ed.length) := hem
    have HLF : Hid (leaveF (fun s => kerT R l (s : Int)) ks s = some (ks', ed)) := hlv
    have HOE : Hid (wr.ownsRow P.heap.size 115 2 (.slice ea em ec) em (itsV (edI ed))) := hoe
    have HMK : Hid (MkAt w wr mb bm (.slice ta tn tc) (.slice na nn nc) (.slice la ln lc) (.int .i64 st) (.slice pa n pc) ks' (asked + em) el P.heap.size) := hmk
    have HKT : Hid (KeepT P wr) := hkt
    have hems : em ≤ s := by rw [hem]; exact (HLV.out _ _ _ hlv).2.2
    clear hgs hem hlv hoe hmk hkt HMP HMA
    by_cases hlt : s < S
    · have hs0 : (0 : Int) ≤ (s : Int) := by omega
      have hs1 : (s : Int) < (S : Int) := by omega
      have hsd : decide (s < S) = true := decide_eq_true hlt
      have r0 := (HKT.out.val HV.out (by decide) (by decide) (by decide)).cell s hlt
      have hko := HKT.out.owns (HO.out s hlt) (by decide) (by decide) (by decide)
      obtain ⟨K, hK⟩ : ∃ K, K = kerT R l (s : Int) := ⟨_, rfl⟩
      have HKK : Hid (K = kerT R l (s : Int)) := hK
      have hKi : ∀ x ∈ K, itB n R x = true := by rw [hK]; exact kerT_item HIM.out
      have hKl : K.length ≤ 3341001 := by
        rw [hK]
        have h1 := kerT_len R l (s : Int)
        have h2 := HIC.out.2
        have h3 := (HK.out.each i HIN.out).2
        have h4 : 13000 * i ≤ 13000 * 256 := Nat.mul_le_mul_left _ (by omega)
        omega
      rw [← hK] at r0 hko
      clear hK
      cases K with
      | nil =>
        have HLF2 : Hid (leaveF (fun s => kerT R l (s : Int)) ks (s + 1) = some (ks', ed)) := leaveF_skip HLF.out HKK.out.symm
        simp only [List.length_nil] at r0
        clear hko hKi hKl
        go_wp2_with fail
        go_roundg (S - (s + 1))
        case measure => have := HGS.out; omega
        case rel => exact ⟨s + 1, ks', ed, em, ea, ec, by omega, rfl, by go_num, rfl, HEM.out, HLF2.out, HOE.out, HMK.out, HKT.out⟩
      | cons x0 K' =>
        have hI64 : I64 x0 := i64_of hn HRB.out (hKi x0 List.mem_cons_self)
        obtain ⟨hk1, hk2, _⟩ := HLV.out _ _ _ HLF.out
        have hle := hk2.length_le
        obtain ⟨p, d⟩ := x0
        have HC : Hid (Calls Tryz.prog 72 #[.pointer (some ⟨mb, 0, none⟩), .slice (ua s) ((p, d) :: K').length (uc s)] wr fun e y => AskTold w wr mb bm (.slice ta tn tc) (.slice na nn nc) (.slice la ln lc) (.int .i64 st) (.slice pa n pc) ks' (asked + em) el P.heap.size ((p, d) :: K') e y) := by
          have hIL := HIN.out
          refine ask_any w wr mb bm _ _ _ _ _ ks' (asked + em) el P.heap.size ((p, d) :: K') (ua s) (uc s) p d HMK.out (owns_base hko HWX.out) rfl hI64 hk1.le hk1.nodup (fun j hj => ?_) (by omega) (by omega) (by omega) (fun j hj => HEL.out j (by omega))
          have h1 := (hk1.each j hj).2
          have h2 := hk1.le
          have h4 : 13000 * j ≤ 13000 * 256 := Nat.mul_le_mul_left _ (by omega)
          omega
        have HNE : Hid (kerT R l (s : Int) ≠ []) := by show _ ≠ _; rw [← HKK.out]; exact List.cons_ne_nil _ _
        obtain ⟨kl, hkl⟩ : ∃ k, k = ((p, d) :: K').length := ⟨_, rfl⟩
        have hkl0 : ((kl : Int) == 0) = false := beq_eq_false_iff_ne.2 (by rw [hkl, List.length_cons]; omega)
        have hkl1 : (kl == 0) = false := beq_eq_false_iff_ne.2 (by rw [hkl, List.length_cons]; omega)
        rw [← hkl] at r0 HC
        clear hko hKi hKl hI64 hk1 hk2 hle hkl
        go_wp2_with fail
        refine Calls.mono HC.out ?_
        rintro e w2 (⟨t, ks2, ha, rfl, hM2, hT2⟩ | ⟨ha, rfl, hg2, hT2⟩)
        · have HLF2 : Hid (leaveF (fun s => kerT R l (s : Int)) ks (s + 1) = some (ks2, ed ++ [(s, t)])) := leaveF_push HLF.out HNE.out (by show askF ks' (kerT R l (s : Int)) = _; rw [← HKK.out]; exact ha)
          have HM2 : Hid (MkAt w w2 mb bm (.slice ta tn tc) (.slice na nn nc) (.slice la ln lc) (.int .i64 st) (.slice pa n pc) ks2 (asked + em + 1) el P.heap.size) := hM2
          have HT2 : Hid (KeepT P w2) := HKT.out.trans hT2
          have HO2 : Hid (w2.ownsRow P.heap.size 115 2 (.slice ea em ec) em (itsV (edI ed))) := hT2.owns HOE.out (by decide) (by decide) (by decide)
          have hsz : P.heap.size ≤ w2.heap.size := HT2.out.size
          clear ha hM2 hT2 HC r0 HMK HKT HOE
          go_wp2_with (at_builtin; refine wpList_append_lies _ rfl (.tmp 41) (.tmp 45) 65 rfl P.heap.size 115 i3 (.agg #[.int .i64 0, .int .i64 0]) 2 16 Tryz.underlying65 hi3 hv0 hv1 hv2 rfl (by decide) (.slice ea em ec) em (itsV (edI ed)) rfl (HO2.out.alloc _) ⟨w2.heap.size, 0, none⟩ 1 1 [.int .i64 (s : Int), .int .i64 (t : Int)] rfl rfl (World.news_of_block (heap_alloc_last w2 _)) (by simp [Value.oneCell']) (by decide) (by unfold maxLen; omega) (by omega) (by simp; omega) _ rfl ?_)
          intro g7 c7 Z hoZ hgZ _ _
          have HMZ : Hid (MkAt w Z mb bm (.slice ta tn tc) (.slice na nn nc) (.slice la ln lc) (.int .i64 st) (.slice pa n pc) ks2 (asked + em + 1) el P.heap.size) := (HM2.out.kept (World.grownBy_alloc _ _ none)).edged (HO2.out.alloc _) (Nat.le_refl _) HXP.out hgZ
          have HTZ : Hid (KeepT P Z) := KeepT.young (HT2.out.trans (.none (World.grownBy_alloc _ _ none))) (HO2.out.alloc _) hgZ
          have HOZ : Hid (Z.ownsRow P.heap.size 115 2 (.slice (some ⟨g7, 0, none⟩) (em + 1) c7) (em + 1) (itsV (edI (ed ++ [(s, t)])))) := by
            rw [edI_snoc, itsV_append]; exact hoZ
          clear hoZ hgZ HM2 HT2 HO2
          go_wp2_with fail
          go_roundg (S - (s + 1))
          case measure => have := HGS.out; omega
          case rel => exact ⟨s + 1, ks2, ed ++ [(s, t)], em + 1, some ⟨g7, 0, none⟩, c7, by omega, rfl, by go_num, rfl, by rw [HEM.out, List.length_append]; rfl, HLF2.out, HOZ.out, by rw [show asked + ((em + 1 : Nat) : Int) = asked + em + 1 by omega]; exact HMZ.out, HTZ.out⟩
        · have HNO : Hid (leaveF (fun s => kerT R l (s : Int)) ks S = none) := leaveF_full HLF.out HNE.out (by show askF ks' (kerT R l (s : Int)) = _; rw [← HKK.out]; exact ha) hlt
          have HG2 : Hid (w.grownBy w2 none ∧ KeepT X w2) := ⟨hg2, (KeepT.none HG4.out).trans (HKT.out.trans hT2)⟩
          clear ha hg2 hT2 HC r0 HMK HKT HOE
          go_wp2_with fail
          go_ret
          exact ⟨l, HIC.out.1, HIC.out.2, .inr ⟨HNO.out, rfl, HG2.out.1, HG2.out.2⟩⟩
    · have hsS : S = s := by omega
      subst hsS
      have hsd : decide (S < S) = false := decide_eq_false (by omega)
      obtain ⟨hk1, hk2, _⟩ := HLV.out _ _ _ HLF.out
      have hle := hk2.length_le
      have HIL : Hid (i < ks'.length) := Nat.lt_of_lt_of_le HIN.out hle
      obtain ⟨sa9, sc9, kv9, ev9, m9, fv9, hM9, hm9⟩ := HMK.out
      obtain ⟨sb9, sc8, hse, hscell⟩ := owns_at hM9.row (by have := HIL.out; omega)
      simp only [Value.slice.injEq] at hse
      obtain ⟨rfl, _, rfl⟩ := hse
      have r1 := hscell _ _ (stV_at kv9 ev9 ks'.length i HIL.out).2
      have f1 : wr.frozen? ⟨sb9, i * 2 + 1, none⟩ = false := by
        rcases hM9.row.2 with ⟨h1, _⟩ | ⟨g, cap, cur, h1, _, hh, _⟩
        · cases h1
        · simp only [Value.slice.injEq, Option.some.injEq, Addr.mk.injEq] at h1
          obtain ⟨⟨rfl, _⟩, _⟩ := h1
          exact frozen_of_row _ _ _ _ _ hh
      obtain ⟨_, _, _, _, _, y5, _, _, _⟩ := hM9.cells
      have HFN : Hid (MkAt w (wr.setCell ⟨sb9, i * 2 + 1, none⟩ (.slice ea em ec)) mb bm (.slice ta tn tc) (.slice na nn nc) (.slice la ln lc) (.int .i64 st) (.slice pa n pc) ks' (asked + em) (updL el i (edI ed)) wr.heap.size ∧ KeepT X (wr.setCell ⟨sb9, i * 2 + 1, none⟩ (.slice ea em ec))) := by
        have h1 := owns_base HOE.out HXP.out
        have h2 := hM9.setE (ed := edI ed) (v := .slice ea em ec) rfl HIL.out (by rw [edI_len, ← HEM.out]; exact h1) HKT.out.size
        exact ⟨⟨_, _, kv9, _, m9, fv9, h2.1, hm9⟩, (KeepT.none HG4.out).trans (HKT.out.trans h2.2)⟩
      obtain ⟨N9, hN9⟩ : ∃ n, n = ks'.length := ⟨_, rfl⟩
      have hi9 : i < N9 := by rw [hN9]; exact HIL.out
      have hi91 : (i : Int) < (N9 : Int) := by omega
      rw [← hN9] at y5
      clear hk1 hk2 hle hM9 hm9 hscell hN9
      go_wp2_with fail
      go_ret
      exact ⟨l, HIC.out.1, HIC.out.2, .inl ⟨ks', ed, wr.heap.size, HLF.out, rfl, by rw [← HEM.out]; exact HFN.out.1, HFN.out.2⟩⟩

end Go.Proofs.YthoamlahbnphkaaGreat.J
