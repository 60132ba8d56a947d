import Derived.Test.YthoamlahbnphkaaGreatQcolfchmhgfap
import Derived.Test.YthoamlahbnphkaaGreatQdgcnggnbmmoi
import Derived.Deep.RegionHeld3

/-
  relate: what includes what, pure.
-/
namespace Go.Proofs.YthoamlahbnphkaaGreat.J
open Go.RowKit Go.Maps Go.Shelf

theorem nmF_range {l : List It} (h : 0 < l.length) (q s : Nat) : 0 ≤ nmF l q s ∧ nmF l q s < (l.length : Int) := by
  unfold nmF
  split
  · rename_i h1
    have := List.idxOf_lt_length_iff.2 h1
    omega
  · omega

section
variable {tn nn n : Nat} {L : Nat → Int} {R : Nat → List Int} {ks : List (List It)} {es : List (List (Nat × Nat))}
/-- The states of a Right, from one that has the production begun. -/
theorem right_st (h : AutF (GG tn n L R) n R (tn + nn) ks es) (hR : ∀ k, k < n → ∀ x ∈ R k, (0 : Int) < x ∧ x < ((tn + nn : Nat) : Int)) (hCl : ∀ q, q < ks.length → IsClo tn n L R (ks.getD q []) (CLo tn n L R (ks.getD q []))) {q P : Nat} (hq : q < ks.length) (hP : P < n) (hx : ((P : Int), (0 : Int)) ∈ CLo tn n L R (ks.getD q [])) : ∀ d, d ≤ (R P).length → stF es q (R P) d < ks.length ∧ wayF es (some (q : Int)) ((R P).take d) = some (stF es q (R P) d : Int) ∧ ((P : Int), (d : Int)) ∈ CLo tn n L R (ks.getD (stF es q (R P) d) [])
  | 0, _ => ⟨hq, rfl, hx⟩
  | d + 1, hd => by
    obtain ⟨h1, h2, h3⟩ := right_st h hR hCl hq hP hx d (by omega)
    obtain ⟨u, h4, h5, h6⟩ := goes_on h hR h1 hP (by omega) h3
    have hm : (R P).getD d 0 ∈ R P := by
      have hd' : d < (R P).length := by omega
      generalize R P = l at hd' ⊢
      rw [List.getD_eq_getElem?_getD, List.getElem?_eq_getElem hd']; exact List.getElem_mem hd'
    have h7 := hR P hP _ hm
    have e1 : stF es q (R P) (d + 1) = u := by
      rw [leadA_at es (by rw [h.len]; exact h1)] at h5
      rw [stF]
      unfold ldF
      rw [show (((R P).getD d 0).toNat : Int) = (R P).getD d 0 by omega, h5]
      rfl
    refine ⟨by rw [e1]; exact h4, ?_, by rw [e1]; exact ((hCl u h4).mem _).2 (Clo.base h6)⟩
    rw [wayF_take es (by omega), h2, e1]
    exact h5
/-- From a transition's state its productions are begun. -/
theorem tr_begun (h : AutF (GG tn n L R) n R (tn + nn) ks es) (hCl : ∀ q, q < ks.length → IsClo tn n L R (ks.getD q []) (CLo tn n L R (ks.getD q []))) {q s P : Nat} (hx : ((q : Int), (s : Int)) ∈ trT tn es ks.length) (hP : P < n) (hL : L P = (s : Int)) : q < ks.length ∧ ((P : Int), (0 : Int)) ∈ CLo tn n L R (ks.getD q []) := by
  obtain ⟨q', h1, e, h2, h3, h4⟩ := trT_mem hx
  simp only [Prod.mk.injEq] at h4
  have e1 : q = q' := by omega
  have e2 : s = e.1 := by omega
  subst e1
  refine ⟨h1, ?_⟩
  have h5 : e.1 ∈ (es.getD q []).map Prod.fst := List.mem_map.2 ⟨e, h2, rfl⟩
  rw [h.fst q h1] at h5
  obtain ⟨x, hx2⟩ := List.exists_mem_of_ne_nil _ (mem_symsT.1 h5).2
  obtain ⟨y, hy, h6, _⟩ := mem_GG.1 hx2
  refine ((hCl q h1).mem _).2 ((((hCl q h1).mem y).1 hy).step (by rw [h6]; omega) hP (by rw [h6, hL, e2]))
/-- What stands on the way is a transition, if it is a nonterminal. -/
theorem way_tr (h : AutF (GG tn n L R) n R (tn + nn) ks es) (hR : ∀ k, k < n → ∀ x ∈ R k, (0 : Int) < x ∧ x < ((tn + nn : Nat) : Int)) (hCl : ∀ q, q < ks.length → IsClo tn n L R (ks.getD q []) (CLo tn n L R (ks.getD q []))) {q P d : Nat} (hq : q < ks.length) (hP : P < n) (hx : ((P : Int), (0 : Int)) ∈ CLo tn n L R (ks.getD q [])) (hd : d < (R P).length) (ht : (tn : Int) ≤ (R P).getD d 0) : ((stF es q (R P) d : Int), (R P).getD d 0) ∈ trT tn es ks.length := by
  obtain ⟨h1, h2, h3⟩ := right_st h hR hCl hq hP hx d (by omega)
  obtain ⟨u, h4, h5, h6⟩ := goes_on h hR h1 hP hd h3
  rw [leadA_at es (by rw [h.len]; exact h1)] at h5
  obtain ⟨e, he, h7, _⟩ := nextL_mem h5
  have h8 := (trI_sub (tn := tn) (es := es) h1).subset (trI_in he (by omega))
  rw [h7] at h8
  exact h8
/-- P11.2. -/
theorem includes_spec {F : Nat → Bool} (h : AutF (GG tn n L R) n R (tn + nn) ks es) (hR : ∀ k, k < n → ∀ x ∈ R k, (0 : Int) < x ∧ x < ((tn + nn : Nat) : Int)) (hCl : ∀ q, q < ks.length → IsClo tn n L R (ks.getD q []) (CLo tn n L R (ks.getD q []))) (hnd : (trT tn es ks.length).Nodup) (i : Nat) :
    (foldQ (fun _ => []) (inT es (trT tn es ks.length) tn F n L R (trT tn es ks.length).length) i).Pairwise (· < ·) ∧ (∀ x ∈ foldQ (fun _ => []) (inT es (trT tn es ks.length) tn F n L R (trT tn es ks.length).length) i, 0 ≤ x ∧ x < ((trT tn es ks.length).length : Int)) ∧ ∀ qi si k qk sk : Nat, (trT tn es ks.length)[i]? = some ((qi : Int), (si : Int)) → (trT tn es ks.length)[k]? = some ((qk : Int), (sk : Int)) → ((k : Int) ∈ foldQ (fun _ => []) (inT es (trT tn es ks.length) tn F n L R (trT tn es ks.length).length) i ↔ ∃ P, P < n ∧ L P = (sk : Int) ∧ ∃ j, j < (R P).length ∧ (R P).getD j 0 = (si : Int) ∧ wayF es (some (qk : Int)) ((R P).take j) = some (qi : Int) ∧ ∀ m, j < m → m < (R P).length → (tn : Int) ≤ (R P).getD m 0 ∧ F (((R P).getD m 0).toNat - tn) = true) := by
  obtain ⟨h1, h2⟩ := foldQ_spec _ (inT_asc (es := es) (tl := trT tn es ks.length) (tn := tn) (F := F) (n := n) (L := L) (R := R) (trT tn es ks.length).length) i
  refine ⟨h2, fun x hx => ?_, fun qi si k qk sk hti htk => ?_⟩
  · obtain ⟨k', h3, h4, _⟩ := mem_inT.1 ((h1 x).1 hx)
    simp only at h4
    omega
  · have hkl : k < (trT tn es ks.length).length := by
      by_cases e : k < (trT tn es ks.length).length
      · exact e
      · rw [List.getElem?_eq_none (by omega)] at htk; cases htk
    have hgk : (trT tn es ks.length).getD k (0, 0) = ((qk : Int), (sk : Int)) := by rw [List.getD_eq_getElem?_getD, htk]; rfl
    rw [h1, mem_inT]
    constructor
    · rintro ⟨k', h3, h4, h5⟩
      simp only at h4
      have e1 : k' = k := by omega
      subst e1
      obtain ⟨P, h6, h7, h8⟩ := mem_inK.1 h5
      rw [hgk] at h7 h8
      simp only [Int.toNat_natCast] at h7 h8
      obtain ⟨_, j, h9, h10, h11, h12⟩ := mem_inW.1 h8
      obtain ⟨b1, b2⟩ := tr_begun h hCl (List.mem_of_getElem? htk) h6 h7
      obtain ⟨w1, w2, w3⟩ := right_st h hR hCl b1 h6 b2 j (by omega)
      have h13 := way_tr h hR hCl b1 h6 b2 h9 h10
      obtain ⟨s, hs⟩ : ∃ s : Nat, (R P).getD j 0 = (s : Int) := ⟨((R P).getD j 0).toNat, by omega⟩
      rw [hs] at h13 h11
      rw [Int.toNat_natCast] at h11
      obtain ⟨m, hm, h14⟩ := List.getElem_of_mem h13
      have h15 : (trT tn es ks.length)[m]? = some ((stF es qk (R P) j : Int), (s : Int)) := by rw [List.getElem?_eq_getElem hm, h14]
      rw [nmF_at hnd h15, Int.toNat_natCast] at h11
      simp only at h11
      subst h11
      rw [hti] at h15
      simp only [Option.some.injEq, Prod.mk.injEq] at h15
      exact ⟨P, h6, h7, j, h9, by rw [hs, ← h15.2], by rw [w2, h15.1], h12⟩
    · rintro ⟨P, h6, h7, j, h9, h10, h11, h12⟩
      refine ⟨k, hkl, rfl, mem_inK.2 ⟨P, h6, by rw [hgk]; exact h7, ?_⟩⟩
      rw [hgk]
      simp only [Int.toNat_natCast]
      obtain ⟨b1, b2⟩ := tr_begun h hCl (List.mem_of_getElem? htk) h6 h7
      obtain ⟨w1, w2, w3⟩ := right_st h hR hCl b1 h6 b2 j (by omega)
      rw [w2] at h11
      simp only [Option.some.injEq] at h11
      have e1 : stF es qk (R P) j = qi := by omega
      obtain ⟨q', h13, e, h14, h15, h16⟩ := trT_mem (List.mem_of_getElem? hti)
      simp only [Prod.mk.injEq] at h16
      refine mem_inW.2 ⟨rfl, j, h9, by rw [h10]; omega, ?_, h12⟩
      rw [h10, e1, Int.toNat_natCast, nmF_at hnd hti, Int.toNat_natCast]
end

end Go.Proofs.YthoamlahbnphkaaGreat.J

/-
  relate: what includes hands out of one way.
-/
namespace Go.Proofs.YthoamlahbnphkaaGreat.J
open Go.RowKit Go.Maps Go.Shelf

attribute [local go_sem] Oper.semAt_some

theorem foldQ_cons (Q : Nat → List Int) (p : Nat × Int) (l : List (Nat × Int)) : foldQ Q (p :: l) = foldQ (updL Q p.1 (addL (Q p.1) p.2)) l := rfl
theorem prods_at {w : World} {a : Option Addr} {n : Nat} {L : Nat → Int} {R : Nat → List Int} {ra : Nat → Option Addr} {rc : Nat → Nat} {V : Nat → Int} (h : ProdsAt w a n L R ra rc V) (hn : 0 < n) : ∃ b off, a = some ⟨b, off, none⟩ ∧ ∀ k, k < n → w.cell? ⟨b, off + k * 3, none⟩ = some (.int .i64 (L k)) ∧ w.cell? ⟨b, off + k * 3 + 1, none⟩ = some (.slice (ra k) (R k).length (rc k)) ∧ w.cell? ⟨b, off + k * 3 + 2, none⟩ = some (.int .i64 (V k)) ∧ IntsAt w (ra k) (R k) := by
  rcases h with h | ⟨b, off, e, h⟩
  · omega
  · exact ⟨b, off, e, fun k hk => ⟨(h k hk).1, (h k hk).2.1, (h k hk).2.2.1, (h k hk).2.2.2.1⟩⟩

section
variable (ta na la pa sa xa l1 m1 : Option Addr) (tc nc lc pc sc xc lc1 mc1 : Nat) (n N T nb : Nat) (st : Int) (w : World) (tn nn ln : Nat)

set_option maxRecDepth 100000 in
set_option maxHeartbeats 4000000 in
theorem uincf_any (P : World) (B S bx kb ab hb tb : Nat) (ks : List (List It)) (es : List (List (Nat × Nat))) (kv ev : Nat → Value) (tl : List It) (F : Nat → Bool) (lb mb : Nat → Nat) (L : Nat → Int) (R : Nat → List Int) (ra : Nat → Option Addr) (rc : Nat → Nat) (V : Nat → Int) (hK : RlOK N T S tn nn ks es tl)
    (hR : RaAt B P nb nn S (.slice sa N sc) (.slice xa T xc) (.slice l1 N lc1) (.slice m1 N mc1) ks es kv ev tl F lb mb) (hPr : ProdsAt P pa n L R ra rc V) (k p q m : Nat) (hk : k < T) (hp : p < n) (hn : n ≤ 1000) (hm : m = (R p).length) (hm4 : m ≤ 10000) (hrow : ∀ x ∈ R p, 0 ≤ x ∧ x < (S : Int)) (hst : ∀ i, stF es q (R p) i < N)
    (hab : w.heap[ab]? = some (.cells #[.slice ta tn tc, .slice na nn nc, .slice la ln lc, .int .i64 st, .slice pa n pc, .slice (some ⟨nb, 0, none⟩) nn nn, .slice sa N sc, .slice xa T xc, .slice l1 N lc1, .slice m1 N mc1] 81 (0, 0))) (hhb : w.heap[hb]? = some (.cells #[.func (.func 57) #[] #[.pointer (some ⟨bx, 0, none⟩)]] 116 (0, 0)))
    (Q : Nat → List Int) (hQ : ∀ f, (Q f).length + m ≤ 10000000) (hL : LqT P w bx kb T Q tb (m + 1) (fun i => .int .i64 (stF es q (R p) i : Int))) :
    Calls Tryz.prog 60 #[.int .i64 (k : Int), .int .i64 (p : Int), .slice (some ⟨tb, 0, none⟩) (m + 1) (m + 1), .pointer (some ⟨ab, 0, none⟩), .pointer (some ⟨hb, 0, none⟩)] w fun e y => e = .returned (.tuple #[]) ∧ KeepH w y ∧ LqT P y bx kb T (foldQ Q (inW tl tn F (stF es q (R p)) (R p) (k : Int) m)) tb (m + 1) (fun i => .int .i64 (stF es q (R p) i : Int)) := by
  have HR : Hid (∀ X, P.grownBy X none → RaAt B X nb nn S (.slice sa N sc) (.slice xa T xc) (.slice l1 N lc1) (.slice m1 N mc1) ks es kv ev tl F lb mb) := fun X hX => hR.kept hX
  have HK := show Hid _ from hK
  have hnn := hK.hnn
  have HQ := show Hid _ from hQ
  have HL := show Hid _ from hL
  have HM := show Hid _ from hm
  have HRW := show Hid _ from hrow
  have HST := show Hid _ from hst
  have HHB := show Hid _ from hhb
  obtain ⟨pb, po, rfl, hps⟩ := prods_at hPr (by omega)
  obtain ⟨_, p1, _, pI⟩ := hps p hp
  rw [← hm] at p1
  have q1 : w.cell? ⟨pb, po + p * 3 + 1, none⟩ = some (.slice (ra p) m (rc p)) := hL.grown.cell p1 (by simp)
  have HRI : Hid (∀ X, P.grownBy X none → IntsAt X (ra p) (R p)) := fun X hX => pI.kept hX
  have a4 : w.cell? ⟨ab, 4, none⟩ = some (.slice (some ⟨pb, po, none⟩) n pc) := (av_cells hab).2.2.2.2.1
  obtain ⟨cs, hcs⟩ : ∃ cs : Array Value, cs = #[.slice ta tn tc, .slice na nn nc, .slice la ln lc, .int .i64 st, .slice (some ⟨pb, po, none⟩) n pc, .slice (some ⟨nb, 0, none⟩) nn nn, .slice sa N sc, .slice xa T xc, .slice l1 N lc1, .slice m1 N mc1] := ⟨_, rfl⟩
  rw [← hcs] at hab
  have HAB := show Hid _ from hab
  have HCS := show Hid _ from hcs
  obtain ⟨rap, hrap⟩ : ∃ x, x = ra p := ⟨_, rfl⟩
  obtain ⟨rcp, hrcp⟩ : ∃ x, x = rc p := ⟨_, rfl⟩
  rw [← hrap, ← hrcp] at q1
  rw [← hrap] at HRI
  have hp0 : (0 : Int) ≤ (p : Int) := by omega
  have hp1 : (p : Int) < (n : Int) := by omega
  have hmw : IntKind.i64.wrap ((m : Int) - 1) = (m : Int) - 1 := by rw [IntKind.wrap_i64]; omega
  clear hR hK hQ hL hm hrow hst hhb hab hcs hps p1 pI hPr hrap hrcp
  go_enter Tryz.func60, Tryz.ntmps60
  go_wp2_with fail
  go_loopg [9] m (fun gk v9 wr => ∃ (j : Nat), j ≤ m ∧ gk = j ∧ v9 = .int .i64 ((j : Int) - 1) ∧ KeepH w wr ∧ ∃ Qn, LqT P wr bx kb T Qn tb (m + 1) (fun i => .int .i64 (stF es q (R p) i : Int)) ∧ foldQ Qn (inW tl tn F (stF es q (R p)) (R p) (k : Int) j) = foldQ Q (inW tl tn F (stF es q (R p)) (R p) (k : Int) m) ∧ ∀ f, (Qn f).length + j ≤ 10000000)
  case atStart => exact ⟨m, Nat.le_refl _, rfl, rfl, .refl _, Q, HL.out, rfl, HQ.out⟩
  case round =>
    obtain ⟨j, hj, hgj, rfl, hkeep, Qn, hLn, hfn, hQn⟩ := hrel
    have HGJ : Hid (gk = j) := hgj
    have HKE : Hid (KeepH w wr) := hkeep
    have HLN : Hid (LqT P wr bx kb T Qn tb (m + 1) (fun i => .int .i64 (stF es q (R p) i : Int))) := hLn
    have HFN : Hid (foldQ Qn (inW tl tn F (stF es q (R p)) (R p) (k : Int) j) = foldQ Q (inW tl tn F (stF es q (R p)) (R p) (k : Int) m)) := hfn
    have HQN : Hid (∀ f, (Qn f).length + j ≤ 10000000) := hQn
    clear hgj hkeep hLn hfn hQn q1 a4 HL HQ
    generalize wr = Y at *
    have hA : (fun x => Y.grownBy x none) Y.drew := grown_drewN Y 1
    haveI hne : Nonempty (WBox (fun x => Y.grownBy x none)) := ⟨⟨_, hA⟩⟩
    have HABY : Hid (Y.heap[ab]? = some (.cells cs 81 (0, 0))) := HKE.out.at HAB.out (by decide) (by decide)
    have HHBY : Hid (Y.heap[hb]? = some (.cells #[.func (.func 57) #[] #[.pointer (some ⟨bx, 0, none⟩)]] 116 (0, 0))) := HKE.out.at HHB.out (by decide) (by decide)
    cases j with
    | zero =>
      have hd : decide ((0 : Int) ≤ (0 : Int) - 1) = false := by decide
      go_wp2_with fail
      refine wp_region_class (p := fun x => Y.grownBy x none) (by kernel_rfl) (by kernel_rfl) hA ?_
      repeat (go_big_quiet_step (fail))
      refine wpQuiet_nil ?_
      rintro _ ⟨s, rfl⟩
      go_wp2_with fail
      refine bodyPost_end (v := .tuple #[]) (by simp [results, Tryz.results60]) rfl ?_
      refine ⟨rfl, HKE.out.trans (.none_ s.ok), ?_⟩
      rw [← HFN.out]
      exact HLN.out.kept s.ok
    | succ j =>
      have e9 : ((j + 1 : Nat) : Int) - 1 = (j : Int) := by omega
      rw [e9]
      clear e9
      have hjl : j < (R p).length := by rw [← HM.out]; omega
      obtain ⟨sy, hsy⟩ : ∃ s : Nat, (R p).getD j 0 = (s : Int) := ⟨((R p).getD j 0).toNat, by have := HRW.out _ (getD_in (d := 0) hjl); omega⟩
      have hsyS : sy < S := by have := HRW.out _ (getD_in (d := 0) hjl); omega
      obtain ⟨rb, ro, rfl, hr0⟩ : ∃ rb ro, rap = some ⟨rb, ro, none⟩ ∧ ∀ X, P.grownBy X none → X.cell? ⟨rb, ro + j, none⟩ = some (.int .i64 (sy : Int)) := by
        rcases HRI.out P (grown_refl _ _) with h | ⟨rb, ro, e, h⟩
        · rw [h] at hjl; exact absurd hjl (by simp)
        · exact ⟨rb, ro, e, fun X hX => by rw [← hsy]; exact hX.cell (h j hjl) (by simp)⟩
      have HR0 := show Hid _ from hr0
      have HPY : Hid (P.grownBy Y none) := HLN.out.grown
      have HAC : Hid (∀ X, Y.grownBy X none → X.cell? ⟨ab, 0, none⟩ = some (.slice ta tn tc) ∧ X.cell? ⟨ab, 1, none⟩ = some (.slice na nn nc) ∧ X.cell? ⟨ab, 2, none⟩ = some (.slice la ln lc) ∧ X.cell? ⟨ab, 3, none⟩ = some (.int .i64 st) ∧ X.cell? ⟨ab, 4, none⟩ = some (.slice (some ⟨pb, po, none⟩) n pc) ∧ X.cell? ⟨ab, 5, none⟩ = some (.slice (some ⟨nb, 0, none⟩) nn nn) ∧ X.cell? ⟨ab, 6, none⟩ = some (.slice sa N sc) ∧ X.cell? ⟨ab, 7, none⟩ = some (.slice xa T xc) ∧ X.cell? ⟨ab, 8, none⟩ = some (.slice l1 N lc1) ∧ X.cell? ⟨ab, 9, none⟩ = some (.slice m1 N mc1)) := fun X hX => av_cells (by have h := box_kept HABY.out hX; rw [HCS.out] at h; exact h)
      have g0 := fun s : WBox (fun x => Y.grownBy x none) => (HAC.out s.w s.ok).1
      have g1 := fun s : WBox (fun x => Y.grownBy x none) => (HAC.out s.w s.ok).2.1
      have g2 := fun s : WBox (fun x => Y.grownBy x none) => (HAC.out s.w s.ok).2.2.1
      have g3 := fun s : WBox (fun x => Y.grownBy x none) => (HAC.out s.w s.ok).2.2.2.1
      have g4 := fun s : WBox (fun x => Y.grownBy x none) => (HAC.out s.w s.ok).2.2.2.2.1
      have g5 := fun s : WBox (fun x => Y.grownBy x none) => (HAC.out s.w s.ok).2.2.2.2.2.1
      have g6 := fun s : WBox (fun x => Y.grownBy x none) => (HAC.out s.w s.ok).2.2.2.2.2.2.1
      have g7 := fun s : WBox (fun x => Y.grownBy x none) => (HAC.out s.w s.ok).2.2.2.2.2.2.2.1
      have g8 := fun s : WBox (fun x => Y.grownBy x none) => (HAC.out s.w s.ok).2.2.2.2.2.2.2.2.1
      have g9 := fun s : WBox (fun x => Y.grownBy x none) => (HAC.out s.w s.ok).2.2.2.2.2.2.2.2.2
      have r0 := fun s : WBox (fun x => Y.grownBy x none) => HR0.out s.w (grown_trans HPY.out s.ok)
      obtain ⟨bt, hbt⟩ : ∃ b, b = decide ((sy : Int) < (tn : Int)) := ⟨_, rfl⟩
      have HBT := show Hid _ from hbt
      have K1 : Hid (∀ s : WBox (fun x => Y.grownBy x none), Calls Tryz.prog 61 #[.agg #[.slice ta tn tc, .slice na nn nc, .slice la ln lc, .int .i64 st, .slice (some ⟨pb, po, none⟩) n pc, .slice (some ⟨nb, 0, none⟩) nn nn, .slice sa N sc, .slice xa T xc, .slice l1 N lc1, .slice m1 N mc1], .int .i64 (sy : Int)] s.w fun e w' => e = .returned (.bool bt) ∧ ∃ s' : WBox (fun x => Y.grownBy x none), w' = s'.w) := fun s => calls_class ((uisTerm_any _ _ _ _ _ _ _ _ _ _ _ _ _ _ _ _ _ _ _ _ _ s.w _ _ _ (sy : Int) bt HBT.out).mono fun e w' h => ⟨h.1, grown_trans s.ok h.2⟩)
      have hj0 : (0 : Int) ≤ (j : Int) := by omega
      have hj1 : (j : Int) < (m : Int) := by omega
      have hjd : decide ((0 : Int) ≤ (j : Int)) = true := decide_eq_true hj0
      have HSY := show Hid _ from hsy
      clear hbt hr0 hsy
      go_wp2_with fail
      refine wp_region_class (p := fun x => Y.grownBy x none) (by kernel_rfl) (by kernel_rfl) hA ?_
      repeat (go_big_quiet_step (first | (go_at_call 61; rename_i s; with_reducible exact K1.out s)))
      refine wpQuiet_nil ?_
      rintro _ ⟨s, rfl⟩
      cases bt with
      | true =>
        have HIN : Hid (inW tl tn F (stF es q (R p)) (R p) (k : Int) (j + 1) = []) := by
          show _ = _
          rw [inW, if_pos (by rw [HSY.out]; exact of_decide_eq_true HBT.out.symm)]
        clear g0 g1 g2 g3 g4 g5 g6 g7 g8 g9 r0
        go_wp2_with fail
        refine bodyPost_end (v := .tuple #[]) (by simp [results, Tryz.results60]) rfl ?_
        refine ⟨rfl, HKE.out.trans (.none_ s.ok), ?_⟩
        rw [← HFN.out, HIN.out]
        exact HLN.out.kept s.ok
      | false =>
        clear g0 g1 g2 g3 g4 g5 g6 g7 g8 g9 r0
        have HGZ : Hid (Y.grownBy s.w none) := s.ok
        generalize s.w = Z at HGZ ⊢
        have HLZ : Hid (LqT P Z bx kb T Qn tb (m + 1) (fun i => .int .i64 (stF es q (R p) i : Int))) := HLN.out.kept HGZ.out
        have HAZ : Hid (Z.heap[ab]? = some (.cells cs 81 (0, 0))) := box_kept HABY.out HGZ.out
        have HHZ : Hid (Z.heap[hb]? = some (.cells #[.func (.func 57) #[] #[.pointer (some ⟨bx, 0, none⟩)]] 116 (0, 0))) := box_kept HHBY.out HGZ.out
        have HKZ : Hid (KeepH w Z) := HKE.out.trans (.none_ HGZ.out)
        obtain ⟨su, hsu⟩ : ∃ x, x = stF es q (R p) j := ⟨_, rfl⟩
        have hsuN : su < N := by rw [hsu]; exact HST.out j
        have hT0 : 0 < tl.length := by rw [← HK.out.hT]; omega
        obtain ⟨f, hf⟩ : ∃ f : Nat, nmF tl su sy = (f : Int) := ⟨(nmF tl su sy).toNat, by have := nmF_range hT0 su sy; omega⟩
        have hfT : f < T := by have h := nmF_range hT0 su sy; rw [hf, ← HK.out.hT] at h; omega
        obtain ⟨mg, rfl, _, _⟩ := (HR.out Z HLZ.out.grown).nmc HK.out hsuN hsyS
        have HNM : Hid (∀ X, P.grownBy X none → X.cell? ⟨mg, su, none⟩ = some (.slice (some ⟨mb su, 0, none⟩) S S) ∧ X.cell? ⟨mb su, sy, none⟩ = some (.int .i64 (f : Int))) := fun X hX => by
          obtain ⟨mg', h1, h2, h3⟩ := (HR.out X hX).nmc HK.out hsuN hsyS
          simp only [Option.some.injEq, Addr.mk.injEq, and_true] at h1
          rw [h1, ← hf]
          exact ⟨h2, h3⟩
        have HSX : Hid (∀ X : World, X.heap[ab]? = some (.cells cs 81 (0, 0)) → X.heap[hb]? = some (.cells #[.func (.func 57) #[] #[.pointer (some ⟨bx, 0, none⟩)]] 116 (0, 0)) → ∀ Qx, LqT P X bx kb T Qx tb (m + 1) (fun i => .int .i64 (stF es q (R p) i : Int)) → X.cell? ⟨hb, 0, none⟩ = some (.func (.func 57) #[] #[.pointer (some ⟨bx, 0, none⟩)]) ∧ X.cell? ⟨ab, 9, none⟩ = some (.slice (some ⟨mg, 0, none⟩) N mc1) ∧ X.cell? ⟨tb, j, none⟩ = some (.int .i64 (su : Int)) ∧ X.cell? ⟨rb, ro + j, none⟩ = some (.int .i64 (sy : Int)) ∧ X.cell? ⟨mg, su, none⟩ = some (.slice (some ⟨mb su, 0, none⟩) S S) ∧ X.cell? ⟨mb su, sy, none⟩ = some (.int .i64 (f : Int))) := fun X h1 h2 Qx h3 => by
          rw [HCS.out] at h1
          obtain ⟨h4, h5⟩ := HNM.out X h3.grown
          refine ⟨by rw [cell_of_row _ _ _ _ _ _ h2]; rfl, (av_cells h1).2.2.2.2.2.2.2.2.2, ?_, HR0.out X h3.grown, h4, h5⟩
          have h6 := h3.val.cell j (by omega)
          rw [hsu]
          exact h6
        have HKS : Hid (Z.cell? ⟨hb, 0, none⟩ = some (.func (.func 57) #[] #[.pointer (some ⟨bx, 0, none⟩)]) ∧ Z.cell? ⟨ab, 9, none⟩ = some (.slice (some ⟨mg, 0, none⟩) N mc1) ∧ Z.cell? ⟨tb, j, none⟩ = some (.int .i64 (su : Int)) ∧ Z.cell? ⟨rb, ro + j, none⟩ = some (.int .i64 (sy : Int)) ∧ Z.cell? ⟨mg, su, none⟩ = some (.slice (some ⟨mb su, 0, none⟩) S S) ∧ Z.cell? ⟨mb su, sy, none⟩ = some (.int .i64 (f : Int))) := HSX.out Z HAZ.out HHZ.out _ HLZ.out
        have HHA : Hid (Calls Tryz.prog 57 #[.int .i64 (f : Int), .int .i64 (k : Int), .pointer (some ⟨bx, 0, none⟩)] Z.drew fun e y => HandToldT P bx kb T tb (m + 1) (fun i => .int .i64 (stF es q (R p) i : Int)) Qn f (k : Int) Z.drew e y) := handT_any P Z.drew bx kb T tb (m + 1) _ Qn (HLZ.out.kept (grown_drewN Z 1)) f (k : Int) hfT (by have := HQN.out f; omega)
        have HAZ' : Hid (Z.drew.heap[ab]? = some (.cells cs 81 (0, 0))) := box_kept HAZ.out (grown_drewN Z 1)
        have HHZ' : Hid (Z.drew.heap[hb]? = some (.cells #[.func (.func 57) #[] #[.pointer (some ⟨bx, 0, none⟩)]] 116 (0, 0))) := box_kept HHZ.out (grown_drewN Z 1)
        have HKZ' : Hid (KeepH w Z.drew) := HKZ.out.trans (.none_ (grown_drewN Z 1))
        have HINC : Hid (inW tl tn F (stF es q (R p)) (R p) (k : Int) (j + 1) = (f, (k : Int)) :: (if F (sy - tn) then inW tl tn F (stF es q (R p)) (R p) (k : Int) j else [])) := by
          show _ = _
          rw [inW, HSY.out, if_neg (of_decide_eq_false HBT.out.symm), Int.toNat_natCast, ← hsu, hf, Int.toNat_natCast]
        have hsy0 : (0 : Int) ≤ (sy : Int) := by omega
        have hsy1 : (sy : Int) < (S : Int) := by omega
        have hsu0 : (0 : Int) ≤ (su : Int) := by omega
        have hsu1 : (su : Int) < (N : Int) := by omega
        have hj2 : (j : Int) < (m : Int) + 1 := by omega
        have hj3 : (j : Int) < ((m + 1 : Nat) : Int) := by omega
        clear hsu hf hT0 hA hne HAC K1
        go_wp2_with fail
        go_region_held3 (fun x' => x'.cell? ⟨hb, 0, none⟩ = some (.func (.func 57) #[] #[.pointer (some ⟨bx, 0, none⟩)]) ∧ x'.cell? ⟨ab, 9, none⟩ = some (.slice (some ⟨mg, 0, none⟩) N mc1) ∧ x'.cell? ⟨tb, j, none⟩ = some (.int .i64 (su : Int)) ∧ x'.cell? ⟨rb, ro + j, none⟩ = some (.int .i64 (sy : Int)) ∧ x'.cell? ⟨mg, su, none⟩ = some (.slice (some ⟨mb su, 0, none⟩) S S) ∧ x'.cell? ⟨mb su, sy, none⟩ = some (.int .i64 (f : Int))) (first | exact HKS.out | exact HKT.out | go_keep)
          ((first
            | (go_at_call 57; refine calls_at Z.drew (by with_reducible rfl) ?_; refine Calls.mono HHA.out ?_; rintro e w4 ⟨rfl, hk4, hl4⟩; have HA4 : Hid (w4.heap[ab]? = some (.cells cs 81 (0, 0))) := hk4.at HAZ'.out (by decide) (by decide); have HH4 : Hid (w4.heap[hb]? = some (.cells #[.func (.func 57) #[] #[.pointer (some ⟨bx, 0, none⟩)]] 116 (0, 0))) := hk4.at HHZ'.out (by decide) (by decide); have HL4 : Hid (LqT P w4 bx kb T (updL Qn f (addL (Qn f) (k : Int))) tb (m + 1) (fun i => .int .i64 (stF es q (R p) i : Int))) := hl4; have HK4 : Hid (KeepH w w4) := HKZ'.out.trans hk4; have HKT : Hid (w4.cell? ⟨hb, 0, none⟩ = some (.func (.func 57) #[] #[.pointer (some ⟨bx, 0, none⟩)]) ∧ w4.cell? ⟨ab, 9, none⟩ = some (.slice (some ⟨mg, 0, none⟩) N mc1) ∧ w4.cell? ⟨tb, j, none⟩ = some (.int .i64 (su : Int)) ∧ w4.cell? ⟨rb, ro + j, none⟩ = some (.int .i64 (sy : Int)) ∧ w4.cell? ⟨mg, su, none⟩ = some (.slice (some ⟨mb su, 0, none⟩) S S) ∧ w4.cell? ⟨mb su, sy, none⟩ = some (.int .i64 (f : Int))) := HSX.out w4 HA4.out HH4.out _ HL4.out; clear hk4 hl4)
            | fail))
        clear HKS HHA HAZ HHZ HKZ HAZ' HHZ' HKZ' HLZ HKT HSX
        have hA : (fun x => w4.grownBy x none) w4.drew := grown_drewN w4 1
        haveI hne : Nonempty (WBox (fun x => w4.grownBy x none)) := ⟨⟨_, hA⟩⟩
        have HAC4 : Hid (∀ X, w4.grownBy X none → X.cell? ⟨ab, 0, none⟩ = some (.slice ta tn tc) ∧ X.cell? ⟨ab, 1, none⟩ = some (.slice na nn nc) ∧ X.cell? ⟨ab, 2, none⟩ = some (.slice la ln lc) ∧ X.cell? ⟨ab, 3, none⟩ = some (.int .i64 st) ∧ X.cell? ⟨ab, 4, none⟩ = some (.slice (some ⟨pb, po, none⟩) n pc) ∧ X.cell? ⟨ab, 5, none⟩ = some (.slice (some ⟨nb, 0, none⟩) nn nn) ∧ X.cell? ⟨ab, 6, none⟩ = some (.slice sa N sc) ∧ X.cell? ⟨ab, 7, none⟩ = some (.slice xa T xc) ∧ X.cell? ⟨ab, 8, none⟩ = some (.slice l1 N lc1) ∧ X.cell? ⟨ab, 9, none⟩ = some (.slice (some ⟨mg, 0, none⟩) N mc1)) := fun X hX => av_cells (by have h := box_kept HA4.out hX; rw [HCS.out] at h; exact h)
        have g0 := fun s : WBox (fun x => w4.grownBy x none) => (HAC4.out s.w s.ok).1
        have g1 := fun s : WBox (fun x => w4.grownBy x none) => (HAC4.out s.w s.ok).2.1
        have g2 := fun s : WBox (fun x => w4.grownBy x none) => (HAC4.out s.w s.ok).2.2.1
        have g3 := fun s : WBox (fun x => w4.grownBy x none) => (HAC4.out s.w s.ok).2.2.2.1
        have g4 := fun s : WBox (fun x => w4.grownBy x none) => (HAC4.out s.w s.ok).2.2.2.2.1
        have g5 := fun s : WBox (fun x => w4.grownBy x none) => (HAC4.out s.w s.ok).2.2.2.2.2.1
        have g6 := fun s : WBox (fun x => w4.grownBy x none) => (HAC4.out s.w s.ok).2.2.2.2.2.2.1
        have g7 := fun s : WBox (fun x => w4.grownBy x none) => (HAC4.out s.w s.ok).2.2.2.2.2.2.2.1
        have g8 := fun s : WBox (fun x => w4.grownBy x none) => (HAC4.out s.w s.ok).2.2.2.2.2.2.2.2.1
        have g9 := fun s : WBox (fun x => w4.grownBy x none) => (HAC4.out s.w s.ok).2.2.2.2.2.2.2.2.2
        have r0 := fun s : WBox (fun x => w4.grownBy x none) => HR0.out s.w (grown_trans HL4.out.grown s.ok)
        obtain ⟨bv, hbv⟩ : ∃ b, b = (decide (tn ≤ sy) && F (sy - tn)) := ⟨_, rfl⟩
        have HBV := show Hid _ from hbv
        have K2 : Hid (∀ s : WBox (fun x => w4.grownBy x none), Calls Tryz.prog 58 #[.agg #[.slice ta tn tc, .slice na nn nc, .slice la ln lc, .int .i64 st, .slice (some ⟨pb, po, none⟩) n pc, .slice (some ⟨nb, 0, none⟩) nn nn, .slice sa N sc, .slice xa T xc, .slice l1 N lc1, .slice (some ⟨mg, 0, none⟩) N mc1], .int .i64 (sy : Int)] s.w fun e w' => e = .returned (.bool bv) ∧ ∃ s' : WBox (fun x => w4.grownBy x none), w' = s'.w) := fun s => calls_class ((uvan_any _ _ _ _ _ _ _ _ _ _ _ _ _ _ _ _ _ _ _ _ _ s.w _ _ _ F ((HR.out s.w (grown_trans HL4.out.grown s.ok)).nul) hnn sy (by rw [← HK.out.hS]; exact hsyS) bv HBV.out).mono fun e w' h => ⟨h.1, grown_trans s.ok h.2⟩)
        clear hbv
        go_wp2_with fail
        refine wp_region_class (p := fun x => w4.grownBy x none) (by kernel_rfl) (by kernel_rfl) hA ?_
        repeat (go_big_quiet_step (first | (go_at_call 58; rename_i s; with_reducible exact K2.out s)))
        refine wpQuiet_nil ?_
        rintro _ ⟨s4, rfl⟩
        clear g0 g1 g2 g3 g4 g5 g6 g7 g8 g9 r0 K2 HAC4
        cases bv with
        | false =>
          have HFI : Hid (F (sy - tn) = false) := by
            show _ = _
            have h := HBV.out
            rw [decide_eq_true (by have := of_decide_eq_false HBT.out.symm; omega), Bool.true_and] at h
            exact h.symm
          go_wp2_with fail
          refine bodyPost_ret (v := .tuple #[]) (by simp [results, Tryz.results60]) rfl ?_
          refine ⟨rfl, HK4.out.trans (.none_ s4.ok), ?_⟩
          rw [← HFN.out, HINC.out, HFI.out, foldQ_cons]
          exact HL4.out.kept s4.ok
        | true =>
          have HFI : Hid (F (sy - tn) = true) := by
            show _ = _
            have h := HBV.out
            rw [decide_eq_true (by have := of_decide_eq_false HBT.out.symm; omega), Bool.true_and] at h
            exact h.symm
          have hjw : IntKind.i64.wrap ((j : Int) - 1) = (j : Int) - 1 := by rw [IntKind.wrap_i64]; omega
          go_wp2_with fail
          go_roundg j
          all_goals first
            | (refine (show ∃ (j' : Nat), _ from ⟨j, by omega, rfl, by go_num, HK4.out.trans (.none_ s4.ok), updL Qn f (addL (Qn f) (k : Int)), HL4.out.kept s4.ok, ?_, fun f' => ?_⟩)
               · rw [← HFN.out, HINC.out, HFI.out, foldQ_cons]; rfl
               · have h1 := HQN.out f'
                 have h2 := HQN.out f
                 by_cases e : f' = f
                 · rw [e, updL_same]; have := addL_len (Qn f) (k : Int); omega
                 · rw [updL_other _ _ e]; omega)
            | (have := HGJ.out; omega)
end

end Go.Proofs.YthoamlahbnphkaaGreat.J

/-
  relate: ways.
-/
namespace Go.Proofs.YthoamlahbnphkaaGreat.J
open Go.RowKit Go.Maps Go.Shelf

attribute [local go_sem] Oper.semAt_some

/-- What the rows that are gone over keep to. -/
def RowsOK (n T S : Nat) (tl : List It) (L : Nat → Int) (R : Nat → List Int) : Prop := ∀ p, p < n → (∀ k, k < T → (tl.getD k (0, 0)).2 = L p → (R p).length ≤ 10000) ∧ ∀ x ∈ R p, 0 ≤ x ∧ x < (S : Int)

section
variable (ta na la pa sa xa l1 m1 : Option Addr) (tc nc lc pc sc xc lc1 mc1 : Nat) (n N T nb : Nat) (st : Int) (w : World) (tn nn ln : Nat)

set_option maxRecDepth 100000 in
set_option maxHeartbeats 4000000 in
theorem ways_inc (P : World) (B S : Nat) (ks : List (List It)) (es : List (List (Nat × Nat))) (kv ev : Nat → Value) (tl : List It) (F : Nat → Bool) (lb mb : Nat → Nat) (L : Nat → Int) (R : Nat → List Int) (ra : Nat → Option Addr) (rc : Nat → Nat) (V : Nat → Int) (hK : RlOK N T S tn nn ks es tl)
    (hR : RaAt B P nb nn S (.slice sa N sc) (.slice xa T xc) (.slice l1 N lc1) (.slice m1 N mc1) ks es kv ev tl F lb mb) (hPr : ProdsAt P pa n L R ra rc V) (hn : n ≤ 1000) (hrow : RowsOK n T S tl L R)
    (ab2 hb : Nat) (I : World → Nat → Nat → Prop) (hKeep : ∀ X Y k p, I X k p → X.grownBy Y none → I Y k p) (hGr : ∀ X k p, I X k p → P.grownBy X none)
    (hHand : ∀ (X0 X : World) (k p q tb : Nat), k < T → p < n → q < N → tl.getD k (0, 0) = ((q : Int), L p) → I X0 k p → X0.grownBy X none → X0.heap.size ≤ tb → ValAt X tb ((R p).length + 1) 3 (fun i => .int .i64 (stF es q (R p) i : Int)) → Calls Tryz.prog 60 #[.int .i64 (k : Int), .int .i64 (p : Int), .slice (some ⟨tb, 0, none⟩) ((R p).length + 1) ((R p).length + 1), .pointer (some ⟨ab2, 0, none⟩), .pointer (some ⟨hb, 0, none⟩)] X fun e y => e = .returned (.tuple #[]) ∧ KeepH X y ∧ I y k (p + 1))
    (hSkip : ∀ (X : World) (k p q : Nat) (s : Int), k < T → p < n → tl.getD k (0, 0) = ((q : Int), s) → L p ≠ s → I X k p → I X k (p + 1)) (hNext : ∀ X k, I X k n → I X (k + 1) 0) (hI : I w 0 0) :
    Calls Tryz.prog 59 #[.agg #[.slice ta tn tc, .slice na nn nc, .slice la ln lc, .int .i64 st, .slice pa n pc, .slice (some ⟨nb, 0, none⟩) nn nn, .slice sa N sc, .slice xa T xc, .slice l1 N lc1, .slice m1 N mc1], .func (.func 60) #[] #[.pointer (some ⟨ab2, 0, none⟩), .pointer (some ⟨hb, 0, none⟩)]] w fun e y => e = .returned (.tuple #[]) ∧ I y T 0 := by
  have HR : Hid (∀ X, P.grownBy X none → RaAt B X nb nn S (.slice sa N sc) (.slice xa T xc) (.slice l1 N lc1) (.slice m1 N mc1) ks es kv ev tl F lb mb) := fun X hX => hR.kept hX
  have HPR : Hid (∀ X, P.grownBy X none → ProdsAt X pa n L R ra rc V) := fun X hX => hPr.kept hX
  have HK := show Hid _ from hK
  have HROW := show Hid _ from hrow
  have HKP := show Hid _ from hKeep
  have HGR := show Hid _ from hGr
  have HHAND := show Hid _ from hHand
  have HSKIP := show Hid _ from hSkip
  have HNEXT := show Hid _ from hNext
  have HX0 : Hid ((w.alloc (.cells #[.slice ta tn tc, .slice na nn nc, .slice la ln lc, .int .i64 st, .slice pa n pc, .slice (some ⟨nb, 0, none⟩) nn nn, .slice sa N sc, .slice xa T xc, .slice l1 N lc1, .slice m1 N mc1] 81)).heap[w.heap.size]? = some (.cells #[.slice ta tn tc, .slice na nn nc, .slice la ln lc, .int .i64 st, .slice pa n pc, .slice (some ⟨nb, 0, none⟩) nn nn, .slice sa N sc, .slice xa T xc, .slice l1 N lc1, .slice m1 N mc1] 81 (0, 0))) := heap_alloc_last w _
  have HI0 : Hid (I (w.alloc (.cells #[.slice ta tn tc, .slice na nn nc, .slice la ln lc, .int .i64 st, .slice pa n pc, .slice (some ⟨nb, 0, none⟩) nn nn, .slice sa N sc, .slice xa T xc, .slice l1 N lc1, .slice m1 N mc1] 81)) 0 0) := hKeep _ _ _ _ hI (World.grownBy_alloc _ _ none)
  have c7 : (w.alloc (.cells #[.slice ta tn tc, .slice na nn nc, .slice la ln lc, .int .i64 st, .slice pa n pc, .slice (some ⟨nb, 0, none⟩) nn nn, .slice sa N sc, .slice xa T xc, .slice l1 N lc1, .slice m1 N mc1] 81)).cell? ⟨w.heap.size, 7, none⟩ = some (.slice xa T xc) := by rw [cell_of_row _ _ _ _ _ _ HX0.out]; rfl
  have ht40 := hK.t40
  have hn256 := hK.n256
  clear hR hK hPr hrow hKeep hGr hHand hSkip hNext hI
  go_enter Tryz.func59, Tryz.ntmps59
  go_wp2_with fail
  clear c7
  generalize w.alloc (.cells #[.slice ta tn tc, .slice na nn nc, .slice la ln lc, .int .i64 st, .slice pa n pc, .slice (some ⟨nb, 0, none⟩) nn nn, .slice sa N sc, .slice xa T xc, .slice l1 N lc1, .slice m1 N mc1] 81) = W0 at HX0 HI0 ⊢
  obtain ⟨ab, hab⟩ : ∃ b, b = w.heap.size := ⟨_, rfl⟩
  rw [← hab] at HX0 ⊢
  obtain ⟨cs, hcs⟩ : ∃ cs : Array Value, cs = #[.slice ta tn tc, .slice na nn nc, .slice la ln lc, .int .i64 st, .slice pa n pc, .slice (some ⟨nb, 0, none⟩) nn nn, .slice sa N sc, .slice xa T xc, .slice l1 N lc1, .slice m1 N mc1] := ⟨_, rfl⟩
  have HCS := show Hid _ from hcs
  rw [← hcs] at HX0
  clear hab hcs
  go_loopg [11] T (fun gk v11 wr => ∃ (j : Nat), j ≤ T ∧ gk = T - j ∧ v11 = .int .i64 j ∧ wr.heap[ab]? = some (.cells cs 81 (0, 0)) ∧ I wr j 0)
  case atStart => exact ⟨0, Nat.zero_le _, rfl, rfl, HX0.out, HI0.out⟩
  case round =>
    obtain ⟨j, hj, hgj, rfl, hb, hl⟩ := hrel
    have HGJ : Hid (gk = T - j) := hgj
    have HB : Hid (wr.heap[ab]? = some (.cells cs 81 (0, 0))) := hb
    have HI : Hid (I wr j 0) := hl
    clear hgj hb hl HX0 HI0
    generalize wr = Y at *
    by_cases hlt : j < T
    · have hjd : decide (j < T) = true := decide_eq_true hlt
      have hj0 : (0 : Int) ≤ (j : Int) := by omega
      have hj1 : (j : Int) < (T : Int) := by omega
      have HPY : Hid (P.grownBy Y none) := HGR.out _ _ _ HI.out
      obtain ⟨q, s, hqs, hqN, hsS⟩ := HK.out.at hlt
      obtain ⟨xg, rfl, x0, x1⟩ := (HR.out Y HPY.out).tr HK.out hlt hqs
      have hba := HB.out
      rw [HCS.out] at hba
      obtain ⟨Z, hZ⟩ : ∃ Z, Z = Y.alloc (.cells #[.int .i64 (q : Int), .int .i64 (s : Int)] 53) := ⟨_, rfl⟩
      have hgZ : Y.grownBy Z none := by rw [hZ]; exact World.grownBy_alloc _ _ none
      have HTZ : Hid (Z.heap[Y.heap.size]? = some (.cells #[.int .i64 (q : Int), .int .i64 (s : Int)] 53 (0, 0))) := by rw [hZ]; exact heap_alloc_last Y _
      have b4 : Z.cell? ⟨ab, 4, none⟩ = some (.slice pa n pc) := (av_cells (box_kept hba hgZ)).2.2.2.2.1
      have HBZ : Hid (Z.heap[ab]? = some (.cells cs 81 (0, 0))) := box_kept HB.out hgZ
      have HIZ : Hid (I Z j 0) := HKP.out _ _ _ _ HI.out hgZ
      have HQS := show Hid _ from hqs
      have HZE := show Hid _ from hZ
      rw [hZ] at b4
      clear hqs hba hZ hgZ
      go_wp2_with fail
      rw [← HZE.out]
      clear b4 x0 x1 HZE HB HI HPY
      obtain ⟨tx, htx⟩ : ∃ b, b = Y.heap.size := ⟨_, rfl⟩
      rw [← htx] at HTZ ⊢
      clear htx
      go_loopg [20] n (fun gk v20 wr => ∃ (i : Nat), i ≤ n ∧ gk = n - i ∧ v20 = .int .i64 i ∧ wr.heap[ab]? = some (.cells cs 81 (0, 0)) ∧ wr.heap[tx]? = some (.cells #[.int .i64 (q : Int), .int .i64 (s : Int)] 53 (0, 0)) ∧ I wr j i)
      case atStart => exact ⟨0, Nat.zero_le _, rfl, rfl, HBZ.out, HTZ.out, HIZ.out⟩
      case round =>
        obtain ⟨i, hi, hgi, rfl, hb2, ht2, hl2⟩ := hrel
        have HGI : Hid (gk = n - i) := hgi
        have HB2 : Hid (wr.heap[ab]? = some (.cells cs 81 (0, 0))) := hb2
        have HT2 : Hid (wr.heap[tx]? = some (.cells #[.int .i64 (q : Int), .int .i64 (s : Int)] 53 (0, 0))) := ht2
        have HI2 : Hid (I wr j i) := hl2
        clear hgi hb2 ht2 hl2 HBZ HTZ HIZ
        generalize wr = X at *
        by_cases hlt2 : i < n
        · have hid : decide (i < n) = true := decide_eq_true hlt2
          have hi0 : (0 : Int) ≤ (i : Int) := by omega
          have hi1 : (i : Int) < (n : Int) := by omega
          have HPX : Hid (P.grownBy X none) := HGR.out _ _ _ HI2.out
          obtain ⟨pb, po, rfl, hps⟩ := prods_at (HPR.out X HPX.out) (by omega)
          obtain ⟨p0, p1, p2, pI⟩ := hps i hlt2
          have hba := HB2.out
          rw [HCS.out] at hba
          obtain ⟨rap, hrap⟩ : ∃ x, x = ra i := ⟨_, rfl⟩
          obtain ⟨rcp, hrcp⟩ : ∃ x, x = rc i := ⟨_, rfl⟩
          obtain ⟨lf, hlf⟩ : ∃ x, x = L i := ⟨_, rfl⟩
          obtain ⟨vi, hvi⟩ : ∃ x, x = V i := ⟨_, rfl⟩
          obtain ⟨m, hm⟩ : ∃ x, x = (R i).length := ⟨_, rfl⟩
          rw [← hlf] at p0
          rw [← hrap, ← hrcp, ← hm] at p1
          rw [← hvi] at p2
          rw [← hrap] at pI
          obtain ⟨U, hU⟩ : ∃ U, U = X.alloc (.cells #[.int .i64 lf, .slice rap m rcp, .int .i64 vi] 71) := ⟨_, rfl⟩
          have hgU : X.grownBy U none := by rw [hU]; exact World.grownBy_alloc _ _ none
          have hhU : U.heap[X.heap.size]? = some (.cells #[.int .i64 lf, .slice rap m rcp, .int .i64 vi] 71 (0, 0)) := by rw [hU]; exact heap_alloc_last X _
          obtain ⟨a0, a1, a2, a3, a4, a5, a6, a7, a8, a9⟩ := av_cells (box_kept hba hgU)
          have k0 : U.cell? ⟨X.heap.size, 0, none⟩ = some (.int .i64 lf) := by rw [cell_of_row _ _ _ _ _ _ hhU]; rfl
          have k1 : U.cell? ⟨X.heap.size, 1, none⟩ = some (.slice rap m rcp) := by rw [cell_of_row _ _ _ _ _ _ hhU]; rfl
          have t0 : U.cell? ⟨tx, 0, none⟩ = some (.int .i64 (q : Int)) := by rw [cell_of_row _ _ _ _ _ _ (box_kept HT2.out hgU)]; rfl
          have t1 : U.cell? ⟨tx, 1, none⟩ = some (.int .i64 (s : Int)) := by rw [cell_of_row _ _ _ _ _ _ (box_kept HT2.out hgU)]; rfl
          have HBU : Hid (U.heap[ab]? = some (.cells cs 81 (0, 0))) := box_kept HB2.out hgU
          have HTU : Hid (U.heap[tx]? = some (.cells #[.int .i64 (q : Int), .int .i64 (s : Int)] 53 (0, 0))) := box_kept HT2.out hgU
          have HIU : Hid (I U j i) := HKP.out _ _ _ _ HI2.out hgU
          have HRI : Hid (IntsAt U rap (R i)) := pI.kept hgU
          have HPU : Hid (P.grownBy U none) := grown_trans HPX.out hgU
          have HM := show Hid _ from hm
          have HLF := show Hid _ from hlf
          have HUE := show Hid _ from hU
          have hiw : IntKind.i64.wrap ((i : Int) + 1) = (i : Int) + 1 := by rw [IntKind.wrap_i64]; omega
          rw [hU] at a0 a1 a2 a3 a4 a5 a6 a7 a8 a9 k0 k1 t0 t1
          clear hps pI hba hrap hrcp hlf hvi hm hU hgU hhU HB2 HT2 HI2 HPX
          by_cases hls : lf = (s : Int)
          · have hlb : (lf == (s : Int)) = true := by rw [hls]; exact beq_self_eq_true _
            have HLS := show Hid _ from hls
            clear hls
            go_wp2_with fail
            rw [← HUE.out]
            have HTH : Hid (Calls Tryz.prog 91 #[.agg #[.slice ta tn tc, .slice na nn nc, .slice la ln lc, .int .i64 st, .slice (some ⟨pb, po, none⟩) n pc, .slice (some ⟨nb, 0, none⟩) nn nn, .slice sa N sc, .slice (some ⟨xg, 0, none⟩) T xc, .slice l1 N lc1, .slice m1 N mc1], .int .i64 (q : Int), .slice rap m rcp] U fun e y => ∃ k, e = .returned (.slice (some ⟨k, 0, none⟩) (m + 1) (m + 1)) ∧ U.heap.size ≤ k ∧ ValAt y k (m + 1) 3 (fun i' => .int .i64 (stF es q (R i) i' : Int)) ∧ U.grownBy y none) := by
              have hTb := (HR.out U HPU.out).l
              rw [← HK.out.hN] at hTb
              rw [HM.out]
              exact uthr_any ta na la (some ⟨pb, po, none⟩) sa (some ⟨xg, 0, none⟩) l1 m1 tc nc lc pc sc xc lc1 mc1 n N T nb st U tn nn ln B S es lb hTb (fun r hr x hx => by rw [HK.out.hN]; exact ((HK.out.eok.each r (by rw [← HK.out.hN]; exact hr)).2.2 x hx).2) q hqN hn256 rap rcp (R i) HRI.out (by have := (HROW.out i hlt2).1 j hlt (by rw [HQS.out, ← HLF.out, HLS.out]); omega) (HROW.out i hlt2).2
            refine Calls.mono HTH.out ?_
            rintro e w3 ⟨tb, rfl, htb, hv3, hg3⟩
            have HB3 : Hid (w3.heap[ab]? = some (.cells cs 81 (0, 0))) := box_kept HBU.out hg3
            have HT3 : Hid (w3.heap[tx]? = some (.cells #[.int .i64 (q : Int), .int .i64 (s : Int)] 53 (0, 0))) := box_kept HTU.out hg3
            have HHD : Hid (Calls Tryz.prog 60 #[.int .i64 (j : Int), .int .i64 (i : Int), .slice (some ⟨tb, 0, none⟩) (m + 1) (m + 1), .pointer (some ⟨ab2, 0, none⟩), .pointer (some ⟨hb, 0, none⟩)] w3 fun e y => e = .returned (.tuple #[]) ∧ KeepH w3 y ∧ I y j (i + 1)) := by
              have h := HHAND.out U w3 j i q tb hlt hlt2 hqN (by rw [HQS.out, ← HLF.out, HLS.out]) HIU.out hg3 htb (by rw [← HM.out]; exact hv3)
              rw [← HM.out] at h
              exact h
            clear htb hv3 hg3 a0 a1 a2 a3 a4 a5 a6 a7 a8 a9 k0 k1 t0 t1 HBU HTU HIU HRI HPU HUE HTH p0 p1 p2
            go_wp2_with fail
            refine Calls.mono HHD.out ?_
            rintro e w4 ⟨rfl, hk4, hi4⟩
            have HB4 : Hid (w4.heap[ab]? = some (.cells cs 81 (0, 0))) := hk4.at HB3.out (by decide) (by decide)
            have HT4 : Hid (w4.heap[tx]? = some (.cells #[.int .i64 (q : Int), .int .i64 (s : Int)] 53 (0, 0))) := hk4.at HT3.out (by decide) (by decide)
            have HI4 : Hid (I w4 j (i + 1)) := hi4
            clear hk4 hi4 HB3 HT3 HHD
            go_wp2_with fail
            go_roundg (n - (i + 1))
            all_goals first
              | exact (show ∃ (i' : Nat), _ from ⟨i + 1, by omega, rfl, by go_num, HB4.out, HT4.out, HI4.out⟩)
              | (have := HGI.out; omega)
          · have hlb : (lf == (s : Int)) = false := beq_eq_false_iff_ne.2 hls
            have HIS : Hid (I U j (i + 1)) := HSKIP.out U j i q (s : Int) hlt hlt2 HQS.out (by rw [← HLF.out]; exact hls) HIU.out
            clear hls
            go_wp2_with fail
            rw [← HUE.out]
            go_roundg (n - (i + 1))
            all_goals first
              | exact (show ∃ (i' : Nat), _ from ⟨i + 1, by omega, rfl, by go_num, HBU.out, HTU.out, HIS.out⟩)
              | (have := HGI.out; omega)
        · have him : n = i := by omega
          have hid : decide (i < n) = false := decide_eq_false hlt2
          have hjw : IntKind.i64.wrap ((j : Int) + 1) = (j : Int) + 1 := by rw [IntKind.wrap_i64]; omega
          have HIN : Hid (I X (j + 1) 0) := HNEXT.out X j (by rw [him]; exact HI2.out)
          clear him
          go_wp2_with fail
          go_roundg (T - (j + 1))
          all_goals first
            | exact (show ∃ (j' : Nat), _ from ⟨j + 1, by omega, rfl, by go_num, HB2.out, HIN.out⟩)
            | (have := HGJ.out; omega)
    · have hjm : T = j := by omega
      subst hjm
      have hjd : decide (T < T) = false := decide_eq_false (by omega)
      go_wp2_with fail
      refine bodyPost_end (v := .tuple #[]) (by simp [results, Tryz.results59]) rfl ?_
      exact ⟨rfl, HI.out⟩

set_option maxRecDepth 100000 in
set_option maxHeartbeats 4000000 in
theorem ways_lb (P : World) (B S : Nat) (ks : List (List It)) (es : List (List (Nat × Nat))) (kv ev : Nat → Value) (tl : List It) (F : Nat → Bool) (lb mb : Nat → Nat) (L : Nat → Int) (R : Nat → List Int) (ra : Nat → Option Addr) (rc : Nat → Nat) (V : Nat → Int) (hK : RlOK N T S tn nn ks es tl)
    (hR : RaAt B P nb nn S (.slice sa N sc) (.slice xa T xc) (.slice l1 N lc1) (.slice m1 N mc1) ks es kv ev tl F lb mb) (hPr : ProdsAt P pa n L R ra rc V) (hn : n ≤ 1000) (hrow : RowsOK n T S tl L R)
    (hb : Nat) (I : World → Nat → Nat → Prop) (hKeep : ∀ X Y k p, I X k p → X.grownBy Y none → I Y k p) (hGr : ∀ X k p, I X k p → P.grownBy X none)
    (hHand : ∀ (X0 X : World) (k p q tb : Nat), k < T → p < n → q < N → tl.getD k (0, 0) = ((q : Int), L p) → I X0 k p → X0.grownBy X none → X0.heap.size ≤ tb → ValAt X tb ((R p).length + 1) 3 (fun i => .int .i64 (stF es q (R p) i : Int)) → Calls Tryz.prog 92 #[.int .i64 (k : Int), .int .i64 (p : Int), .slice (some ⟨tb, 0, none⟩) ((R p).length + 1) ((R p).length + 1), .pointer (some ⟨hb, 0, none⟩)] X fun e y => e = .returned (.tuple #[]) ∧ KeepH X y ∧ I y k (p + 1))
    (hSkip : ∀ (X : World) (k p q : Nat) (s : Int), k < T → p < n → tl.getD k (0, 0) = ((q : Int), s) → L p ≠ s → I X k p → I X k (p + 1)) (hNext : ∀ X k, I X k n → I X (k + 1) 0) (hI : I w 0 0) :
    Calls Tryz.prog 59 #[.agg #[.slice ta tn tc, .slice na nn nc, .slice la ln lc, .int .i64 st, .slice pa n pc, .slice (some ⟨nb, 0, none⟩) nn nn, .slice sa N sc, .slice xa T xc, .slice l1 N lc1, .slice m1 N mc1], .func (.func 92) #[] #[.pointer (some ⟨hb, 0, none⟩)]] w fun e y => e = .returned (.tuple #[]) ∧ I y T 0 := by
  have HR : Hid (∀ X, P.grownBy X none → RaAt B X nb nn S (.slice sa N sc) (.slice xa T xc) (.slice l1 N lc1) (.slice m1 N mc1) ks es kv ev tl F lb mb) := fun X hX => hR.kept hX
  have HPR : Hid (∀ X, P.grownBy X none → ProdsAt X pa n L R ra rc V) := fun X hX => hPr.kept hX
  have HK := show Hid _ from hK
  have HROW := show Hid _ from hrow
  have HKP := show Hid _ from hKeep
  have HGR := show Hid _ from hGr
  have HHAND := show Hid _ from hHand
  have HSKIP := show Hid _ from hSkip
  have HNEXT := show Hid _ from hNext
  have HX0 : Hid ((w.alloc (.cells #[.slice ta tn tc, .slice na nn nc, .slice la ln lc, .int .i64 st, .slice pa n pc, .slice (some ⟨nb, 0, none⟩) nn nn, .slice sa N sc, .slice xa T xc, .slice l1 N lc1, .slice m1 N mc1] 81)).heap[w.heap.size]? = some (.cells #[.slice ta tn tc, .slice na nn nc, .slice la ln lc, .int .i64 st, .slice pa n pc, .slice (some ⟨nb, 0, none⟩) nn nn, .slice sa N sc, .slice xa T xc, .slice l1 N lc1, .slice m1 N mc1] 81 (0, 0))) := heap_alloc_last w _
  have HI0 : Hid (I (w.alloc (.cells #[.slice ta tn tc, .slice na nn nc, .slice la ln lc, .int .i64 st, .slice pa n pc, .slice (some ⟨nb, 0, none⟩) nn nn, .slice sa N sc, .slice xa T xc, .slice l1 N lc1, .slice m1 N mc1] 81)) 0 0) := hKeep _ _ _ _ hI (World.grownBy_alloc _ _ none)
  have c7 : (w.alloc (.cells #[.slice ta tn tc, .slice na nn nc, .slice la ln lc, .int .i64 st, .slice pa n pc, .slice (some ⟨nb, 0, none⟩) nn nn, .slice sa N sc, .slice xa T xc, .slice l1 N lc1, .slice m1 N mc1] 81)).cell? ⟨w.heap.size, 7, none⟩ = some (.slice xa T xc) := by rw [cell_of_row _ _ _ _ _ _ HX0.out]; rfl
  have ht40 := hK.t40
  have hn256 := hK.n256
  clear hR hK hPr hrow hKeep hGr hHand hSkip hNext hI
  go_enter Tryz.func59, Tryz.ntmps59
  go_wp2_with fail
  clear c7
  generalize w.alloc (.cells #[.slice ta tn tc, .slice na nn nc, .slice la ln lc, .int .i64 st, .slice pa n pc, .slice (some ⟨nb, 0, none⟩) nn nn, .slice sa N sc, .slice xa T xc, .slice l1 N lc1, .slice m1 N mc1] 81) = W0 at HX0 HI0 ⊢
  obtain ⟨ab, hab⟩ : ∃ b, b = w.heap.size := ⟨_, rfl⟩
  rw [← hab] at HX0 ⊢
  obtain ⟨cs, hcs⟩ : ∃ cs : Array Value, cs = #[.slice ta tn tc, .slice na nn nc, .slice la ln lc, .int .i64 st, .slice pa n pc, .slice (some ⟨nb, 0, none⟩) nn nn, .slice sa N sc, .slice xa T xc, .slice l1 N lc1, .slice m1 N mc1] := ⟨_, rfl⟩
  have HCS := show Hid _ from hcs
  rw [← hcs] at HX0
  clear hab hcs
  go_loopg [11] T (fun gk v11 wr => ∃ (j : Nat), j ≤ T ∧ gk = T - j ∧ v11 = .int .i64 j ∧ wr.heap[ab]? = some (.cells cs 81 (0, 0)) ∧ I wr j 0)
  case atStart => exact ⟨0, Nat.zero_le _, rfl, rfl, HX0.out, HI0.out⟩
  case round =>
    obtain ⟨j, hj, hgj, rfl, hb, hl⟩ := hrel
    have HGJ : Hid (gk = T - j) := hgj
    have HB : Hid (wr.heap[ab]? = some (.cells cs 81 (0, 0))) := hb
    have HI : Hid (I wr j 0) := hl
    clear hgj hb hl HX0 HI0
    generalize wr = Y at *
    by_cases hlt : j < T
    · have hjd : decide (j < T) = true := decide_eq_true hlt
      have hj0 : (0 : Int) ≤ (j : Int) := by omega
      have hj1 : (j : Int) < (T : Int) := by omega
      have HPY : Hid (P.grownBy Y none) := HGR.out _ _ _ HI.out
      obtain ⟨q, s, hqs, hqN, hsS⟩ := HK.out.at hlt
      obtain ⟨xg, rfl, x0, x1⟩ := (HR.out Y HPY.out).tr HK.out hlt hqs
      have hba := HB.out
      rw [HCS.out] at hba
      obtain ⟨Z, hZ⟩ : ∃ Z, Z = Y.alloc (.cells #[.int .i64 (q : Int), .int .i64 (s : Int)] 53) := ⟨_, rfl⟩
      have hgZ : Y.grownBy Z none := by rw [hZ]; exact World.grownBy_alloc _ _ none
      have HTZ : Hid (Z.heap[Y.heap.size]? = some (.cells #[.int .i64 (q : Int), .int .i64 (s : Int)] 53 (0, 0))) := by rw [hZ]; exact heap_alloc_last Y _
      have b4 : Z.cell? ⟨ab, 4, none⟩ = some (.slice pa n pc) := (av_cells (box_kept hba hgZ)).2.2.2.2.1
      have HBZ : Hid (Z.heap[ab]? = some (.cells cs 81 (0, 0))) := box_kept HB.out hgZ
      have HIZ : Hid (I Z j 0) := HKP.out _ _ _ _ HI.out hgZ
      have HQS := show Hid _ from hqs
      have HZE := show Hid _ from hZ
      rw [hZ] at b4
      clear hqs hba hZ hgZ
      go_wp2_with fail
      rw [← HZE.out]
      clear b4 x0 x1 HZE HB HI HPY
      obtain ⟨tx, htx⟩ : ∃ b, b = Y.heap.size := ⟨_, rfl⟩
      rw [← htx] at HTZ ⊢
      clear htx
      go_loopg [20] n (fun gk v20 wr => ∃ (i : Nat), i ≤ n ∧ gk = n - i ∧ v20 = .int .i64 i ∧ wr.heap[ab]? = some (.cells cs 81 (0, 0)) ∧ wr.heap[tx]? = some (.cells #[.int .i64 (q : Int), .int .i64 (s : Int)] 53 (0, 0)) ∧ I wr j i)
      case atStart => exact ⟨0, Nat.zero_le _, rfl, rfl, HBZ.out, HTZ.out, HIZ.out⟩
      case round =>
        obtain ⟨i, hi, hgi, rfl, hb2, ht2, hl2⟩ := hrel
        have HGI : Hid (gk = n - i) := hgi
        have HB2 : Hid (wr.heap[ab]? = some (.cells cs 81 (0, 0))) := hb2
        have HT2 : Hid (wr.heap[tx]? = some (.cells #[.int .i64 (q : Int), .int .i64 (s : Int)] 53 (0, 0))) := ht2
        have HI2 : Hid (I wr j i) := hl2
        clear hgi hb2 ht2 hl2 HBZ HTZ HIZ
        generalize wr = X at *
        by_cases hlt2 : i < n
        · have hid : decide (i < n) = true := decide_eq_true hlt2
          have hi0 : (0 : Int) ≤ (i : Int) := by omega
          have hi1 : (i : Int) < (n : Int) := by omega
          have HPX : Hid (P.grownBy X none) := HGR.out _ _ _ HI2.out
          obtain ⟨pb, po, rfl, hps⟩ := prods_at (HPR.out X HPX.out) (by omega)
          obtain ⟨p0, p1, p2, pI⟩ := hps i hlt2
          have hba := HB2.out
          rw [HCS.out] at hba
          obtain ⟨rap, hrap⟩ : ∃ x, x = ra i := ⟨_, rfl⟩
          obtain ⟨rcp, hrcp⟩ : ∃ x, x = rc i := ⟨_, rfl⟩
          obtain ⟨lf, hlf⟩ : ∃ x, x = L i := ⟨_, rfl⟩
          obtain ⟨vi, hvi⟩ : ∃ x, x = V i := ⟨_, rfl⟩
          obtain ⟨m, hm⟩ : ∃ x, x = (R i).length := ⟨_, rfl⟩
          rw [← hlf] at p0
          rw [← hrap, ← hrcp, ← hm] at p1
          rw [← hvi] at p2
          rw [← hrap] at pI
          obtain ⟨U, hU⟩ : ∃ U, U = X.alloc (.cells #[.int .i64 lf, .slice rap m rcp, .int .i64 vi] 71) := ⟨_, rfl⟩
          have hgU : X.grownBy U none := by rw [hU]; exact World.grownBy_alloc _ _ none
          have hhU : U.heap[X.heap.size]? = some (.cells #[.int .i64 lf, .slice rap m rcp, .int .i64 vi] 71 (0, 0)) := by rw [hU]; exact heap_alloc_last X _
          obtain ⟨a0, a1, a2, a3, a4, a5, a6, a7, a8, a9⟩ := av_cells (box_kept hba hgU)
          have k0 : U.cell? ⟨X.heap.size, 0, none⟩ = some (.int .i64 lf) := by rw [cell_of_row _ _ _ _ _ _ hhU]; rfl
          have k1 : U.cell? ⟨X.heap.size, 1, none⟩ = some (.slice rap m rcp) := by rw [cell_of_row _ _ _ _ _ _ hhU]; rfl
          have t0 : U.cell? ⟨tx, 0, none⟩ = some (.int .i64 (q : Int)) := by rw [cell_of_row _ _ _ _ _ _ (box_kept HT2.out hgU)]; rfl
          have t1 : U.cell? ⟨tx, 1, none⟩ = some (.int .i64 (s : Int)) := by rw [cell_of_row _ _ _ _ _ _ (box_kept HT2.out hgU)]; rfl
          have HBU : Hid (U.heap[ab]? = some (.cells cs 81 (0, 0))) := box_kept HB2.out hgU
          have HTU : Hid (U.heap[tx]? = some (.cells #[.int .i64 (q : Int), .int .i64 (s : Int)] 53 (0, 0))) := box_kept HT2.out hgU
          have HIU : Hid (I U j i) := HKP.out _ _ _ _ HI2.out hgU
          have HRI : Hid (IntsAt U rap (R i)) := pI.kept hgU
          have HPU : Hid (P.grownBy U none) := grown_trans HPX.out hgU
          have HM := show Hid _ from hm
          have HLF := show Hid _ from hlf
          have HUE := show Hid _ from hU
          have hiw : IntKind.i64.wrap ((i : Int) + 1) = (i : Int) + 1 := by rw [IntKind.wrap_i64]; omega
          rw [hU] at a0 a1 a2 a3 a4 a5 a6 a7 a8 a9 k0 k1 t0 t1
          clear hps pI hba hrap hrcp hlf hvi hm hU hgU hhU HB2 HT2 HI2 HPX
          by_cases hls : lf = (s : Int)
          · have hlb : (lf == (s : Int)) = true := by rw [hls]; exact beq_self_eq_true _
            have HLS := show Hid _ from hls
            clear hls
            go_wp2_with fail
            rw [← HUE.out]
            have HTH : Hid (Calls Tryz.prog 91 #[.agg #[.slice ta tn tc, .slice na nn nc, .slice la ln lc, .int .i64 st, .slice (some ⟨pb, po, none⟩) n pc, .slice (some ⟨nb, 0, none⟩) nn nn, .slice sa N sc, .slice (some ⟨xg, 0, none⟩) T xc, .slice l1 N lc1, .slice m1 N mc1], .int .i64 (q : Int), .slice rap m rcp] U fun e y => ∃ k, e = .returned (.slice (some ⟨k, 0, none⟩) (m + 1) (m + 1)) ∧ U.heap.size ≤ k ∧ ValAt y k (m + 1) 3 (fun i' => .int .i64 (stF es q (R i) i' : Int)) ∧ U.grownBy y none) := by
              have hTb := (HR.out U HPU.out).l
              rw [← HK.out.hN] at hTb
              rw [HM.out]
              exact uthr_any ta na la (some ⟨pb, po, none⟩) sa (some ⟨xg, 0, none⟩) l1 m1 tc nc lc pc sc xc lc1 mc1 n N T nb st U tn nn ln B S es lb hTb (fun r hr x hx => by rw [HK.out.hN]; exact ((HK.out.eok.each r (by rw [← HK.out.hN]; exact hr)).2.2 x hx).2) q hqN hn256 rap rcp (R i) HRI.out (by have := (HROW.out i hlt2).1 j hlt (by rw [HQS.out, ← HLF.out, HLS.out]); omega) (HROW.out i hlt2).2
            refine Calls.mono HTH.out ?_
            rintro e w3 ⟨tb, rfl, htb, hv3, hg3⟩
            have HB3 : Hid (w3.heap[ab]? = some (.cells cs 81 (0, 0))) := box_kept HBU.out hg3
            have HT3 : Hid (w3.heap[tx]? = some (.cells #[.int .i64 (q : Int), .int .i64 (s : Int)] 53 (0, 0))) := box_kept HTU.out hg3
            have HHD : Hid (Calls Tryz.prog 92 #[.int .i64 (j : Int), .int .i64 (i : Int), .slice (some ⟨tb, 0, none⟩) (m + 1) (m + 1), .pointer (some ⟨hb, 0, none⟩)] w3 fun e y => e = .returned (.tuple #[]) ∧ KeepH w3 y ∧ I y j (i + 1)) := by
              have h := HHAND.out U w3 j i q tb hlt hlt2 hqN (by rw [HQS.out, ← HLF.out, HLS.out]) HIU.out hg3 htb (by rw [← HM.out]; exact hv3)
              rw [← HM.out] at h
              exact h
            clear htb hv3 hg3 a0 a1 a2 a3 a4 a5 a6 a7 a8 a9 k0 k1 t0 t1 HBU HTU HIU HRI HPU HUE HTH p0 p1 p2
            go_wp2_with fail
            refine Calls.mono HHD.out ?_
            rintro e w4 ⟨rfl, hk4, hi4⟩
            have HB4 : Hid (w4.heap[ab]? = some (.cells cs 81 (0, 0))) := hk4.at HB3.out (by decide) (by decide)
            have HT4 : Hid (w4.heap[tx]? = some (.cells #[.int .i64 (q : Int), .int .i64 (s : Int)] 53 (0, 0))) := hk4.at HT3.out (by decide) (by decide)
            have HI4 : Hid (I w4 j (i + 1)) := hi4
            clear hk4 hi4 HB3 HT3 HHD
            go_wp2_with fail
            go_roundg (n - (i + 1))
            all_goals first
              | exact (show ∃ (i' : Nat), _ from ⟨i + 1, by omega, rfl, by go_num, HB4.out, HT4.out, HI4.out⟩)
              | (have := HGI.out; omega)
          · have hlb : (lf == (s : Int)) = false := beq_eq_false_iff_ne.2 hls
            have HIS : Hid (I U j (i + 1)) := HSKIP.out U j i q (s : Int) hlt hlt2 HQS.out (by rw [← HLF.out]; exact hls) HIU.out
            clear hls
            go_wp2_with fail
            rw [← HUE.out]
            go_roundg (n - (i + 1))
            all_goals first
              | exact (show ∃ (i' : Nat), _ from ⟨i + 1, by omega, rfl, by go_num, HBU.out, HTU.out, HIS.out⟩)
              | (have := HGI.out; omega)
        · have him : n = i := by omega
          have hid : decide (i < n) = false := decide_eq_false hlt2
          have hjw : IntKind.i64.wrap ((j : Int) + 1) = (j : Int) + 1 := by rw [IntKind.wrap_i64]; omega
          have HIN : Hid (I X (j + 1) 0) := HNEXT.out X j (by rw [him]; exact HI2.out)
          clear him
          go_wp2_with fail
          go_roundg (T - (j + 1))
          all_goals first
            | exact (show ∃ (j' : Nat), _ from ⟨j + 1, by omega, rfl, by go_num, HB2.out, HIN.out⟩)
            | (have := HGJ.out; omega)
    · have hjm : T = j := by omega
      subst hjm
      have hjd : decide (T < T) = false := decide_eq_false (by omega)
      go_wp2_with fail
      refine bodyPost_end (v := .tuple #[]) (by simp [results, Tryz.results59]) rfl ?_
      exact ⟨rfl, HI.out⟩
end

end Go.Proofs.YthoamlahbnphkaaGreat.J

/-
  relate: includes.
-/
namespace Go.Proofs.YthoamlahbnphkaaGreat.J
open Go.RowKit Go.Maps Go.Shelf

attribute [local go_sem] Oper.semAt_some

theorem foldQ_append (Q : Nat → List Int) (l m : List (Nat × Int)) : foldQ Q (l ++ m) = foldQ (foldQ Q l) m := by
  unfold foldQ
  rw [List.foldl_append]
theorem asc_len_from {hi : Int} : ∀ (l : List Int) (lo : Int), l.Pairwise (· < ·) → (∀ x ∈ l, lo ≤ x ∧ x < hi) → l.length ≤ (hi - lo).toNat
  | [], _, _, _ => Nat.zero_le _
  | a :: l, lo, h, hr => by
    rw [List.pairwise_cons] at h
    have h1 := asc_len_from l (a + 1) h.2 fun x hx => ⟨by have := h.1 x hx; omega, (hr x (List.mem_cons_of_mem _ hx)).2⟩
    have h2 := hr a (List.mem_cons_self ..)
    rw [List.length_cons]
    omega
theorem asc_len {l : List Int} {T : Nat} (h : l.Pairwise (· < ·)) (hr : ∀ x ∈ l, 0 ≤ x ∧ x < (T : Int)) : l.length ≤ T := by
  have := asc_len_from l 0 h hr
  omega
theorem inK_prefix {es : List (List (Nat × Nat))} {tl : List It} {tn : Nat} {F : Nat → Bool} {L : Nat → Int} {R : Nat → List Int} {k p : Nat} : ∀ d, inK es tl tn F L R k p <+: inK es tl tn F L R k (p + d)
  | 0 => List.prefix_refl _
  | d + 1 => (inK_prefix d).trans (by
    show _ <+: inK es tl tn F L R k ((p + d) + 1)
    rw [inK]
    exact List.prefix_append _ _)
theorem inI_len {es : List (List (Nat × Nat))} {tl : List It} {tn : Nat} {F : Nat → Bool} {n : Nat} {L : Nat → Int} {R : Nat → List Int} {k p T : Nat} (hk : k < T) (hp : p ≤ n) (f : Nat) : (foldQ (fun _ => []) (inT es tl tn F n L R k ++ inK es tl tn F L R k p) f).length ≤ T := by
  obtain ⟨d, rfl⟩ : ∃ d, n = p + d := ⟨n - p, by omega⟩
  have h0 : (inT es tl tn F (p + d) L R k ++ inK es tl tn F L R k p).Sublist (inT es tl tn F (p + d) L R (k + 1)) := by
    rw [inT]
    exact List.Sublist.append_left (inK_prefix d).sublist _
  obtain ⟨h1, h2⟩ := foldQ_spec _ ((inT_asc (es := es) (tl := tl) (tn := tn) (F := F) (n := p + d) (L := L) (R := R) (k + 1)).sublist h0) f
  refine asc_len h2 fun x hx => ?_
  obtain ⟨k', h3, h4, _⟩ := mem_inT.1 (h0.subset ((h1 x).1 hx))
  simp only at h4
  omega

section
variable (ta na la pa sa xa l1 m1 : Option Addr) (tc nc lc pc sc xc lc1 mc1 : Nat) (n N T nb : Nat) (st : Int) (w : World) (tn nn ln : Nat)

set_option maxRecDepth 100000 in
set_option maxHeartbeats 2000000 in
theorem uinc_any (P : World) (B S bx kb : Nat) (ks : List (List It)) (es : List (List (Nat × Nat))) (kv ev : Nat → Value) (tl : List It) (F : Nat → Bool) (lb mb : Nat → Nat) (L : Nat → Int) (R : Nat → List Int) (ra : Nat → Option Addr) (rc : Nat → Nat) (V : Nat → Int) (hK : RlOK N T S tn nn ks es tl)
    (hR : RaAt B P nb nn S (.slice sa N sc) (.slice xa T xc) (.slice l1 N lc1) (.slice m1 N mc1) ks es kv ev tl F lb mb) (hPr : ProdsAt P pa n L R ra rc V) (hn : n ≤ 1000) (hrow : RowsOK n T S tl L R)
    (hL : ∃ ua uc, LqP P w bx kb T (fun _ => []) ua uc) :
    Calls Tryz.prog 33 #[.agg #[.slice ta tn tc, .slice na nn nc, .slice la ln lc, .int .i64 st, .slice pa n pc, .slice (some ⟨nb, 0, none⟩) nn nn, .slice sa N sc, .slice xa T xc, .slice l1 N lc1, .slice m1 N mc1], .func (.func 57) #[] #[.pointer (some ⟨bx, 0, none⟩)]] w fun e y => e = .returned (.tuple #[]) ∧ ∃ ua uc, LqP P y bx kb T (foldQ (fun _ => []) (inT es tl tn F n L R T)) ua uc := by
  obtain ⟨X0, hX0⟩ : ∃ X, X = w.alloc (.cells #[.slice ta tn tc, .slice na nn nc, .slice la ln lc, .int .i64 st, .slice pa n pc, .slice (some ⟨nb, 0, none⟩) nn nn, .slice sa N sc, .slice xa T xc, .slice l1 N lc1, .slice m1 N mc1] 81) := ⟨_, rfl⟩
  obtain ⟨X1, hX1⟩ : ∃ X, X = X0.alloc (.cells #[.func (.func 57) #[] #[.pointer (some ⟨bx, 0, none⟩)]] 116) := ⟨_, rfl⟩
  have hg0 : w.grownBy X0 none := by rw [hX0]; exact World.grownBy_alloc _ _ none
  have hg1 : X0.grownBy X1 none := by rw [hX1]; exact World.grownBy_alloc _ _ none
  have hb0 : X0.heap[w.heap.size]? = some (.cells #[.slice ta tn tc, .slice na nn nc, .slice la ln lc, .int .i64 st, .slice pa n pc, .slice (some ⟨nb, 0, none⟩) nn nn, .slice sa N sc, .slice xa T xc, .slice l1 N lc1, .slice m1 N mc1] 81 (0, 0)) := by rw [hX0]; exact heap_alloc_last w _
  have hb1 : X1.heap[w.heap.size]? = some (.cells #[.slice ta tn tc, .slice na nn nc, .slice la ln lc, .int .i64 st, .slice pa n pc, .slice (some ⟨nb, 0, none⟩) nn nn, .slice sa N sc, .slice xa T xc, .slice l1 N lc1, .slice m1 N mc1] 81 (0, 0)) := box_kept hb0 hg1
  have hs0 : X0.heap.size = w.heap.size + 1 := by rw [hX0, World.size_alloc]
  have hb2 : X1.heap[w.heap.size + 1]? = some (.cells #[.func (.func 57) #[] #[.pointer (some ⟨bx, 0, none⟩)]] 116 (0, 0)) := by rw [hX1, ← hs0]; exact heap_alloc_last X0 _
  have HWY : Hid (Calls Tryz.prog 59 #[.agg #[.slice ta tn tc, .slice na nn nc, .slice la ln lc, .int .i64 st, .slice pa n pc, .slice (some ⟨nb, 0, none⟩) nn nn, .slice sa N sc, .slice xa T xc, .slice l1 N lc1, .slice m1 N mc1], .func (.func 60) #[] #[.pointer (some ⟨w.heap.size, 0, none⟩), .pointer (some ⟨w.heap.size + 1, 0, none⟩)]] X1 fun e y => e = .returned (.tuple #[]) ∧ (y.heap[w.heap.size]? = some (.cells #[.slice ta tn tc, .slice na nn nc, .slice la ln lc, .int .i64 st, .slice pa n pc, .slice (some ⟨nb, 0, none⟩) nn nn, .slice sa N sc, .slice xa T xc, .slice l1 N lc1, .slice m1 N mc1] 81 (0, 0)) ∧ y.heap[w.heap.size + 1]? = some (.cells #[.func (.func 57) #[] #[.pointer (some ⟨bx, 0, none⟩)]] 116 (0, 0)) ∧ ∃ ua uc, LqP P y bx kb T (foldQ (fun _ => []) (inT es tl tn F n L R T ++ inK es tl tn F L R T 0)) ua uc)) :=
    ways_inc ta na la pa sa xa l1 m1 tc nc lc pc sc xc lc1 mc1 n N T nb st X1 tn nn ln P B S ks es kv ev tl F lb mb L R ra rc V hK hR hPr hn hrow w.heap.size (w.heap.size + 1)
      (fun X k p => X.heap[w.heap.size]? = some (.cells #[.slice ta tn tc, .slice na nn nc, .slice la ln lc, .int .i64 st, .slice pa n pc, .slice (some ⟨nb, 0, none⟩) nn nn, .slice sa N sc, .slice xa T xc, .slice l1 N lc1, .slice m1 N mc1] 81 (0, 0)) ∧ X.heap[w.heap.size + 1]? = some (.cells #[.func (.func 57) #[] #[.pointer (some ⟨bx, 0, none⟩)]] 116 (0, 0)) ∧ ∃ ua uc, LqP P X bx kb T (foldQ (fun _ => []) (inT es tl tn F n L R k ++ inK es tl tn F L R k p)) ua uc)
      (fun X Y k p h hg => ⟨box_kept h.1 hg, box_kept h.2.1 hg, by obtain ⟨ua, uc, h1⟩ := h.2.2; exact ⟨ua, uc, h1.kept hg⟩⟩)
      (fun X k p h => by obtain ⟨ua, uc, h1⟩ := h.2.2; exact h1.grown)
      (fun Y0 Y k p q tb hk hp hq e h hg htb hv => by
        obtain ⟨h1, h2, ua, uc, h3⟩ := h
        refine (uincf_any ta na la pa sa xa l1 m1 tc nc lc pc sc xc lc1 mc1 n N T nb st Y tn nn ln P B S bx kb w.heap.size (w.heap.size + 1) tb ks es kv ev tl F lb mb L R ra rc V hK hR hPr k p q (R p).length hk hp hn rfl ((hrow p hp).1 k hk (by rw [e])) (hrow p hp).2 (stF_lt hq fun r hr x hx => by rw [hK.hN]; exact ((hK.eok.each r (by rw [← hK.hN]; exact hr)).2.2 x hx).2) (box_kept h1 hg) (box_kept h2 hg) (foldQ (fun _ => []) (inT es tl tn F n L R k ++ inK es tl tn F L R k p)) (fun f => by have a1 := inI_len (es := es) (tl := tl) (tn := tn) (F := F) (n := n) (L := L) (R := R) hk (Nat.le_of_lt hp) f; have a2 := hK.t40; have a3 := ((hrow p hp).1 k hk (by rw [e])); omega) (LqT.new h3 hg hv htb)).mono ?_
        rintro e' y ⟨rfl, hk2, hl2⟩
        refine ⟨rfl, hk2, hk2.at (box_kept h1 hg) (by decide) (by decide), hk2.at (box_kept h2 hg) (by decide) (by decide), ?_⟩
        obtain ⟨ua', uc', h4⟩ := hl2.lq
        refine ⟨ua', uc', ?_⟩
        have e2 : foldQ (fun _ => []) (inT es tl tn F n L R k ++ inK es tl tn F L R k (p + 1)) = foldQ (foldQ (fun _ => []) (inT es tl tn F n L R k ++ inK es tl tn F L R k p)) (inW tl tn F (stF es q (R p)) (R p) (k : Int) (R p).length) := by
          rw [inK, e, if_pos rfl, ← List.append_assoc, foldQ_append _ (inT es tl tn F n L R k ++ inK es tl tn F L R k p)]
          rfl
        rw [e2]
        exact h4)
      (fun X k p q s _ _ e hne h => by
        refine ⟨h.1, h.2.1, ?_⟩
        rw [inK, e, if_neg hne, List.append_nil]
        exact h.2.2)
      (fun X k h => by
        refine ⟨h.1, h.2.1, ?_⟩
        rw [inT, inK, List.append_nil]
        exact h.2.2)
      ⟨hb1, hb2, by obtain ⟨ua, uc, h⟩ := hL; exact ⟨ua, uc, (h.kept hg0).kept hg1⟩⟩
  obtain ⟨a0, a1, a2, a3, a4, a5, a6, a7, a8, a9⟩ := av_cells hb1
  rw [hX1, hX0] at a0 a1 a2 a3 a4 a5 a6 a7 a8 a9
  have HXE : Hid (X1 = (w.alloc (.cells #[.slice ta tn tc, .slice na nn nc, .slice la ln lc, .int .i64 st, .slice pa n pc, .slice (some ⟨nb, 0, none⟩) nn nn, .slice sa N sc, .slice xa T xc, .slice l1 N lc1, .slice m1 N mc1] 81)).alloc (.cells #[.func (.func 57) #[] #[.pointer (some ⟨bx, 0, none⟩)]] 116)) := by show _ = _; rw [hX1, hX0]
  clear hK hR hPr hrow hL hX0 hX1 hg0 hg1 hb0 hb1 hs0 hb2
  go_enter Tryz.func33, Tryz.ntmps33
  go_wp2_with fail
  rw [← HXE.out]
  refine Calls.mono HWY.out ?_
  rintro e y ⟨rfl, _, _, hl⟩
  have HL := show Hid _ from hl
  clear hl a0 a1 a2 a3 a4 a5 a6 a7 a8 a9
  go_wp2_with fail
  refine bodyPost_end (v := .tuple #[]) (by simp [results, Tryz.results33]) rfl ?_
  refine ⟨rfl, ?_⟩
  have h := HL.out
  rw [inK, List.append_nil] at h
  exact h
end

end Go.Proofs.YthoamlahbnphkaaGreat.J

/-
  relate: what lookback hands out, in memory.
-/
namespace Go.Proofs.YthoamlahbnphkaaGreat.J
open Go.RowKit Go.Maps Go.Shelf

attribute [local go_sem] Oper.semAt_some

theorem idx_inj {n s p s' p' : Nat} (h1 : p < n) (h2 : p' < n) (e : s * n + p = s' * n + p') : s = s' ∧ p = p' := by
  have a1 : (s * n + p) % n = p := by rw [Nat.mul_comm, Nat.mul_add_mod]; exact Nat.mod_eq_of_lt h1
  have a2 : (s' * n + p') % n = p' := by rw [Nat.mul_comm, Nat.mul_add_mod]; exact Nat.mod_eq_of_lt h2
  have e2 : p = p' := by rw [← a1, e, a2]
  refine ⟨?_, e2⟩
  have e3 : s * n = s' * n := by omega
  exact Nat.eq_of_mul_eq_mul_right (by omega) e3
theorem idx_lt {n N s p : Nat} (hs : s < N) (hp : p < n) : s * n + p < N * n := by
  have h : (s + 1) * n ≤ N * n := Nat.mul_le_mul_right n hs
  rw [Nat.succ_mul] at h
  omega

/-- Lists under way, by state and production. -/
structure LbP (P X : World) (bx kb N n : Nat) (Q : Nat → List Int) (rb : Nat → Nat) (ua : Nat → Option Addr) (uc : Nat → Nat) : Prop where
  grown : P.grownBy X none
  box : X.heap[bx]? = some (.cells #[.slice (some ⟨kb, 0, none⟩) N N] 119 (0, 0))
  out : ValAt X kb N 30 (fun s => .slice (some ⟨rb s, 0, none⟩) n n)
  val : ∀ s, s < N → ValAt X (rb s) n 24 (fun p => .slice (ua (s * n + p)) (Q (s * n + p)).length (uc (s * n + p)))
  own : ∀ k, k < N * n → X.ownsRow P.heap.size 3 1 (.slice (ua k) (Q k).length (uc k)) (Q k).length (intV (Q k))
  sep : ∀ k l, k < N * n → l < N * n → k ≠ l → (Value.slice (ua k) (Q k).length (uc k)).ownBlock = none ∨ (Value.slice (ua k) (Q k).length (uc k)).ownBlock ≠ (Value.slice (ua l) (Q l).length (uc l)).ownBlock
  inj : ∀ s s', s < N → s' < N → rb s = rb s' → s = s'
  lo : P.heap.size ≤ bx ∧ P.heap.size ≤ kb ∧ ∀ s, s < N → P.heap.size ≤ rb s
section
variable {P X Y : World} {bx kb N n : Nat} {Q : Nat → List Int} {rb : Nat → Nat} {ua : Nat → Option Addr} {uc : Nat → Nat}
theorem LbP.kept (h : LbP P X bx kb N n Q rb ua uc) (hg : X.grownBy Y none) : LbP P Y bx kb N n Q rb ua uc :=
  ⟨grown_trans h.grown hg, box_kept h.box hg, h.out.kept hg, fun s hs => (h.val s hs).kept hg, fun k hk => keep0 (h.own k hk) hg, h.sep, h.inj, h.lo⟩
theorem LbP.add (h : LbP P X bx kb N n Q rb ua uc) {s p g c : Nat} {x : Int} (hs : s < N) (hp : p < n) (hg : X.grownBy Y (Value.slice (ua (s * n + p)) (Q (s * n + p)).length (uc (s * n + p))).ownBlock) (ho : Y.ownsRow P.heap.size 3 1 (.slice (some ⟨g, 0, none⟩) ((Q (s * n + p)).length + 1) c) ((Q (s * n + p)).length + 1) (intV (Q (s * n + p)) ++ [.int .i64 x])) (hat : (Value.slice (ua (s * n + p)) (Q (s * n + p)).length (uc (s * n + p))).ownBlock = some g ∨ g = X.heap.size) : LbP P (Y.setCell ⟨rb s, p, none⟩ (.slice (some ⟨g, 0, none⟩) ((Q (s * n + p)).length + 1) c)) bx kb N n (updL Q (s * n + p) (Q (s * n + p) ++ [x])) rb (updL ua (s * n + p) (some ⟨g, 0, none⟩)) (updL uc (s * n + p) c) := by
  obtain ⟨f, hf⟩ : ∃ f, f = s * n + p := ⟨_, rfl⟩
  have hfN : f < N * n := by rw [hf]; exact idx_lt hs hp
  rw [← hf] at hg ho hat ⊢
  have hss : Y.grownBy (Y.setCell ⟨rb s, p, none⟩ (.slice (some ⟨g, 0, none⟩) ((Q f).length + 1) c)) (some (rb s)) := grown_setCell _ _ _
  have hv : ∀ s', s' < N → ValAt Y (rb s') n 24 (fun p => .slice (ua (s' * n + p)) (Q (s' * n + p)).length (uc (s' * n + p))) := fun s' hs' => box_row (h.val s' hs') (h.own f hfN) (by decide) hg
  have hb : Y.heap[bx]? = some (.cells #[.slice (some ⟨kb, 0, none⟩) N N] 119 (0, 0)) := box_row h.box (h.own f hfN) (by decide) hg
  have hout : ValAt Y kb N 30 (fun s => .slice (some ⟨rb s, 0, none⟩) n n) := box_row h.out (h.own f hfN) (by decide) hg
  have hlen : (Q f ++ [x]).length = (Q f).length + 1 := by simp
  have hiv : intV (Q f ++ [x]) = intV (Q f) ++ [.int .i64 x] := by unfold intV; rw [List.map_append]; rfl
  have key : ∀ k, k < N * n → k ≠ f → (Value.slice (ua k) (Q k).length (uc k)).ownBlock = none ∨ (Value.slice (ua k) (Q k).length (uc k)).ownBlock ≠ some g := fun k hk e => by
    rcases hat with h1 | h1
    · rw [← h1]; exact h.sep k f hk hfN e
    · cases hb : (Value.slice (ua k) (Q k).length (uc k)).ownBlock with
      | none => exact .inl rfl
      | some b =>
        right
        intro h2
        have h3 := ((h.own k hk).lt b hb).2
        have h4 : b = g := by simpa using h2
        omega
  have ne : ∀ {b' : Nat} {cs : Array Value} {t : TypeId}, Y.heap[b']? = some (.cells cs t (0, 0)) → t ≠ 24 → (Y.setCell ⟨rb s, p, none⟩ (.slice (some ⟨g, 0, none⟩) ((Q f).length + 1) c)).heap[b']? = some (.cells cs t (0, 0)) := fun {b' cs t} h1 h2 => by
    refine (hss.block b' (Array.getElem?_eq_some_iff.1 h1).1 ?_).trans h1
    intro e
    have e2 : b' = rb s := by simpa using e
    have h3 := hv s hs
    unfold ValAt at h3
    rw [e2, h3] at h1
    simp only [Option.some.injEq, Obj.cells.injEq] at h1
    exact h2 h1.2.1.symm
  refine ⟨grown_new (grown_owned h.grown (h.own f hfN) (Nat.le_refl _) hg) hss (h.lo.2.2 s hs), ne hb (by decide), ne hout (by decide), fun s' hs' => ?_, fun k hk => ?_, fun k l hk hl e => ?_, h.inj, h.lo⟩
  · by_cases e : s' = s
    · subst e
      refine ((hv s' hs').set p _).ext fun i hi => ?_
      unfold put
      by_cases e2 : i = p
      · subst e2
        rw [if_pos rfl, ← hf, updL_same, updL_same, updL_same, hlen]
      · have e3 : s' * n + i ≠ f := by rw [hf]; omega
        rw [if_neg e2, updL_other _ _ e3, updL_other _ _ e3, updL_other _ _ e3]
    · have h2 : rb s' ≠ rb s := fun h3 => e (h.inj s' s hs' hs h3)
      refine ((hv s' hs').at hss h2).ext fun i hi => ?_
      have e3 : s' * n + i ≠ f := fun h3 => e (idx_inj hi hp (by rw [h3, hf])).1
      rw [updL_other _ _ e3, updL_other _ _ e3, updL_other _ _ e3]
  · by_cases e : k = f
    · subst e
      rw [updL_same, updL_same, updL_same, hlen, hiv]
      exact ho.kept hss (owns_nebox ho (hv s hs) (by decide))
    · rw [updL_other _ _ e, updL_other _ _ e, updL_other _ _ e]
      have h1 := (h.own k hk).kept hg (h.sep k f hk hfN e)
      exact h1.kept hss (owns_nebox h1 (hv s hs) (by decide))
  · by_cases e1 : k = f
    · subst e1
      have e2 : l ≠ k := fun h => e h.symm
      rw [updL_same, updL_same, updL_same, updL_other _ _ e2, updL_other _ _ e2, updL_other _ _ e2]
      right
      rcases key l hl e2 with h1 | h1
      · rw [h1]; simp [Value.ownBlock]
      · exact fun h2 => h1 h2.symm
    · rw [updL_other _ _ e1, updL_other _ _ e1, updL_other _ _ e1]
      by_cases e2 : l = f
      · subst e2
        rw [updL_same, updL_same, updL_same]
        exact key k hk e1
      · rw [updL_other _ _ e2, updL_other _ _ e2, updL_other _ _ e2]
        exact h.sep k l hk hl e
end
/-- Lists under way, and a row of numbers beside them. -/
def LbT (P X : World) (bx kb N n : Nat) (Q : Nat → List Int) (rb : Nat → Nat) (tb tm : Nat) (tf : Nat → Value) : Prop := ∃ ua uc, LbP P X bx kb N n Q rb ua uc ∧ ValAt X tb tm 3 tf ∧ ∀ k, k < N * n → (Value.slice (ua k) (Q k).length (uc k)).ownBlock ≠ some tb
section
variable {P X Y : World} {bx kb N n : Nat} {Q : Nat → List Int} {rb : Nat → Nat} {tb tm : Nat} {tf : Nat → Value}
theorem LbT.kept (h : LbT P X bx kb N n Q rb tb tm tf) (hg : X.grownBy Y none) : LbT P Y bx kb N n Q rb tb tm tf := by
  obtain ⟨ua, uc, h1, h2, h3⟩ := h
  exact ⟨ua, uc, h1.kept hg, h2.kept hg, h3⟩
theorem LbT.new {ua : Nat → Option Addr} {uc : Nat → Nat} (h : LbP P X bx kb N n Q rb ua uc) (hg : X.grownBy Y none) (hv : ValAt Y tb tm 3 tf) (hn : X.heap.size ≤ tb) : LbT P Y bx kb N n Q rb tb tm tf :=
  ⟨ua, uc, h.kept hg, hv, fun k hk e => by have := ((h.own k hk).lt tb e).2; omega⟩
theorem LbT.val (h : LbT P X bx kb N n Q rb tb tm tf) : ValAt X tb tm 3 tf := by
  obtain ⟨ua, uc, _, h1, _⟩ := h
  exact h1
end

set_option maxRecDepth 100000 in
set_option maxHeartbeats 2000000 in
theorem handB_any (P w : World) (bx kb N n tb tm : Nat) (tf : Nat → Value) (Q : Nat → List Int) (rb : Nat → Nat) (hLT : LbT P w bx kb N n Q rb tb tm tf) (s p : Nat) (x : Int) (hs : s < N) (hp : p < n) (hQ : (Q (s * n + p)).length ≤ 10000000) :
    Calls Tryz.prog 63 #[.int .i64 (s : Int), .int .i64 (p : Int), .int .i64 x, .pointer (some ⟨bx, 0, none⟩)] w fun e y => e = .returned (.tuple #[]) ∧ KeepH w y ∧ LbT P y bx kb N n (updL Q (s * n + p) (Q (s * n + p) ++ [x])) rb tb tm tf := by
  obtain ⟨ua, uc, h, htv, hap⟩ := hLT
  have hfN : s * n + p < N * n := idx_lt hs hp
  have c0 : w.cell? ⟨bx, 0, none⟩ = some (.slice (some ⟨kb, 0, none⟩) N N) := by rw [cell_of_row _ _ _ _ _ _ h.box]; rfl
  have cO := h.out.cell s hs
  have c1 := (h.val s hs).cell p hp
  obtain ⟨fa, hfa⟩ : ∃ a, a = ua (s * n + p) := ⟨_, rfl⟩
  obtain ⟨fc, hfc⟩ : ∃ a, a = uc (s * n + p) := ⟨_, rfl⟩
  obtain ⟨m, hm⟩ : ∃ m, m = (Q (s * n + p)).length := ⟨_, rfl⟩
  rw [← hfa, ← hfc, ← hm] at c1
  rw [← hm] at hQ
  have hs0 : (0 : Int) ≤ (s : Int) := by omega
  have hs1 : (s : Int) < (N : Int) := by omega
  have hp0 : (0 : Int) ≤ (p : Int) := by omega
  have hp1 : (p : Int) < (n : Int) := by omega
  have HOW : Hid (∀ Y, w.grownBy Y none → Y.ownsRow P.heap.size 3 1 (.slice fa m fc) m (intV (Q (s * n + p)))) := fun Y hY => by
    have h1 := keep0 (h.own _ hfN) hY
    rw [← hfa, ← hfc, ← hm] at h1
    exact h1
  have HPS : Hid (∀ Y, w.grownBy Y none → P.heap.size ≤ Y.heap.size) := fun Y hY => Nat.le_trans h.grown.size hY.size
  have HFIN : Hid (∀ (Y V : World) (g c : Nat), w.grownBy Y none → Y.grownBy V (Value.slice fa m fc).ownBlock → V.ownsRow P.heap.size 3 1 (.slice (some ⟨g, 0, none⟩) (m + 1) c) (m + 1) (intV (Q (s * n + p)) ++ [.int .i64 x]) → ((Value.slice fa m fc).ownBlock = some g ∨ g = Y.heap.size) → V.cell? ⟨rb s, p, none⟩ = some (.slice fa m fc) ∧ V.frozen? ⟨rb s, p, none⟩ = false ∧ V.cell? ⟨bx, 0, none⟩ = some (.slice (some ⟨kb, 0, none⟩) N N) ∧ V.cell? ⟨kb, s, none⟩ = some (.slice (some ⟨rb s, 0, none⟩) n n) ∧ KeepH w (V.setCell ⟨rb s, p, none⟩ (.slice (some ⟨g, 0, none⟩) (m + 1) c)) ∧ LbT P (V.setCell ⟨rb s, p, none⟩ (.slice (some ⟨g, 0, none⟩) (m + 1) c)) bx kb N n (updL Q (s * n + p) (Q (s * n + p) ++ [x])) rb tb tm tf) := fun Y V g c hY hg ho hat => by
    rw [hfa, hfc, hm] at hg hat
    rw [hm] at ho
    have h1 := h.kept hY
    have hv : ValAt V (rb s) n 24 (fun p => .slice (ua (s * n + p)) (Q (s * n + p)).length (uc (s * n + p))) := box_row (h1.val s hs) (h1.own _ hfN) (by decide) hg
    have hb : V.heap[bx]? = some (.cells #[.slice (some ⟨kb, 0, none⟩) N N] 119 (0, 0)) := box_row h1.box (h1.own _ hfN) (by decide) hg
    have hout : ValAt V kb N 30 (fun s => .slice (some ⟨rb s, 0, none⟩) n n) := box_row h1.out (h1.own _ hfN) (by decide) hg
    refine ⟨by rw [hfa, hfc, hm]; exact hv.cell p hp, hv.free p, by rw [cell_of_row _ _ _ _ _ _ hb]; rfl, hout.cell s hs, ?_⟩
    rw [hm]
    have hne : some tb ≠ (Value.slice (ua (s * n + p)) (Q (s * n + p)).length (uc (s * n + p))).ownBlock := fun e => hap _ hfN e.symm
    have htY := htv.kept hY
    have ht1 : ValAt V tb tm 3 tf := by
      unfold ValAt at htY ⊢
      exact (hg.block tb (Array.getElem?_eq_some_iff.1 htY).1 hne).trans htY
    have ht2 : ValAt (V.setCell ⟨rb s, p, none⟩ (.slice (some ⟨g, 0, none⟩) ((Q (s * n + p)).length + 1) c)) tb tm 3 tf := ht1.at (grown_setCell (rb s) p _) fun e => by
      have e2 : tb = rb s := by simpa using e
      unfold ValAt at ht1 hv
      rw [e2, hv] at ht1
      simp only [Option.some.injEq, Obj.cells.injEq] at ht1
      exact absurd ht1.2.1 (by decide)
    refine ⟨((KeepH.none_ hY).trans (.row (h1.own _ hfN) hg)).trans (.set hv), _, _, h1.add hs hp hg ho hat, ht2, fun k hk => ?_⟩
    by_cases e : k = s * n + p
    · subst e
      rw [updL_same, updL_same, updL_same]
      show some g ≠ some tb
      intro e2
      have e3 : g = tb := by simpa using e2
      rcases hat with h2 | h2
      · rw [e3] at h2; exact hap _ hfN h2
      · have := htv.lt
        have := hY.size
        omega
    · rw [updL_other _ _ e, updL_other _ _ e, updL_other _ _ e]
      exact hap k hk
  obtain ⟨xs, hxs⟩ : ∃ xs, xs = intV (Q (s * n + p)) := ⟨_, rfl⟩
  rw [← hxs] at HOW HFIN
  obtain ⟨i0, hi0, hz0, hz1, hz2⟩ := info_parts infoInt
  have c2 : ∀ o, (w.alloc o).cell? ⟨bx, 0, none⟩ = some (.slice (some ⟨kb, 0, none⟩) N N) := fun o => (World.grownBy_alloc _ o none).cell c0 (by simp)
  have c3 : ∀ o, (w.alloc o).cell? ⟨kb, s, none⟩ = some (.slice (some ⟨rb s, 0, none⟩) n n) := fun o => (World.grownBy_alloc _ o none).cell cO (by simp)
  have c4 : ∀ o, (w.alloc o).cell? ⟨rb s, p, none⟩ = some (.slice fa m fc) := fun o => (World.grownBy_alloc _ o none).cell c1 (by simp)
  obtain ⟨rs, hrs⟩ : ∃ b, b = rb s := ⟨_, rfl⟩
  rw [← hrs] at HFIN c1 c3 c4 cO
  clear h hfa hfc hm hxs htv hap hrs hfN
  go_enter Tryz.func63, Tryz.ntmps63
  go_wp2_with fail
  go_region_law (first
    | (refine step_append_liesW _ rfl (.tmp 18) (.tmp 20) 24 rfl P.heap.size 3 i0 (.int .i64 0) 1 8 Tryz.underlying24 hi0 hz0 hz1 hz2 rfl (by decide) (.slice fa m fc) m xs (by first | rfl | (simp [Act.eval]; done) | fail) (HOW.out _ (grown_trans (World.grownBy_alloc _ _ none) (grown_drewN _ _))) ⟨w.heap.size, 0, none⟩ 1 1 [.int .i64 x] (by first | rfl | (simp [Act.eval]; done) | fail) rfl (World.news_of_block (heap_alloc_last w _)) (by simp [Value.oneCell']) (by decide) (by unfold maxLen; omega) (by omega) (HPS.out _ (grown_trans (World.grownBy_alloc _ _ none) (grown_drewN _ _))) ?_; intro g9 c9 wB hoB hgB hat; obtain ⟨q1, q2, q3, q4, q5⟩ := HFIN.out _ wB g9 c9 (grown_trans (World.grownBy_alloc _ _ none) (grown_drewN _ _)) hgB hoB hat; have HQ1 := show Hid _ from q5; clear q5 hoB hgB hat)
    | fail)
  all_goals go_wp2_with fail
  all_goals refine bodyPost_end (v := .tuple #[]) (by simp [results, Tryz.results63]) rfl ?_
  all_goals exact ⟨rfl, HQ1.out⟩

end Go.Proofs.YthoamlahbnphkaaGreat.J

/-
  relate: lookback.
-/
namespace Go.Proofs.YthoamlahbnphkaaGreat.J
open Go.RowKit Go.Maps Go.Shelf

attribute [local go_sem] Oper.semAt_some

set_option maxRecDepth 100000 in
set_option maxHeartbeats 2000000 in
theorem ulbf_any (P w : World) (bx kb hb N n tb m : Nat) (sf : Nat → Nat) (Q : Nat → List Int) (rb : Nat → Nat) (k p : Nat) (hp : p < n) (hm4 : m ≤ 10000) (hst : sf m < N) (hhb : w.heap[hb]? = some (.cells #[.func (.func 63) #[] #[.pointer (some ⟨bx, 0, none⟩)]] 121 (0, 0)))
    (hQ : ∀ f, (Q f).length ≤ 10000000) (hL : LbT P w bx kb N n Q rb tb (m + 1) (fun i => .int .i64 (sf i : Int))) :
    Calls Tryz.prog 92 #[.int .i64 (k : Int), .int .i64 (p : Int), .slice (some ⟨tb, 0, none⟩) (m + 1) (m + 1), .pointer (some ⟨hb, 0, none⟩)] w fun e y => e = .returned (.tuple #[]) ∧ KeepH w y ∧ LbT P y bx kb N n (updL Q (sf m * n + p) (Q (sf m * n + p) ++ [(k : Int)])) rb tb (m + 1) (fun i => .int .i64 (sf i : Int)) := by
  obtain ⟨su, hsu⟩ : ∃ x, x = sf m := ⟨_, rfl⟩
  rw [← hsu] at hst ⊢
  have HHA : Hid (Calls Tryz.prog 63 #[.int .i64 (su : Int), .int .i64 (p : Int), .int .i64 (k : Int), .pointer (some ⟨bx, 0, none⟩)] w.drew fun e y => e = .returned (.tuple #[]) ∧ KeepH w.drew y ∧ LbT P y bx kb N n (updL Q (su * n + p) (Q (su * n + p) ++ [(k : Int)])) rb tb (m + 1) (fun i => .int .i64 (sf i : Int))) := handB_any P w.drew bx kb N n tb (m + 1) _ Q rb (hL.kept (grown_drewN w 1)) su p (k : Int) hst hp (hQ _)
  have HSX : Hid (∀ X : World, X.heap[hb]? = some (.cells #[.func (.func 63) #[] #[.pointer (some ⟨bx, 0, none⟩)]] 121 (0, 0)) → ValAt X tb (m + 1) 3 (fun i => .int .i64 (sf i : Int)) → X.cell? ⟨hb, 0, none⟩ = some (.func (.func 63) #[] #[.pointer (some ⟨bx, 0, none⟩)]) ∧ X.cell? ⟨tb, m, none⟩ = some (.int .i64 (su : Int))) := fun X h1 h2 => by
    refine ⟨by rw [cell_of_row _ _ _ _ _ _ h1]; rfl, ?_⟩
    rw [hsu]
    exact h2.cell m (by omega)
  have HKS := show Hid _ from HSX.out w hhb hL.val
  have HHB : Hid (w.drew.heap[hb]? = some (.cells #[.func (.func 63) #[] #[.pointer (some ⟨bx, 0, none⟩)]] 121 (0, 0))) := box_kept hhb (grown_drewN w 1)
  have HK0 : Hid (KeepH w w.drew) := .none_ (grown_drewN w 1)
  have hmw : IntKind.i64.wrap ((m : Int) + 1 - 1) = (m : Int) := by rw [IntKind.wrap_i64]; omega
  have hmw2 : IntKind.i64.wrap (m : Int) = (m : Int) := by rw [IntKind.wrap_i64]; omega
  have hmw3 : IntKind.i64.wrap (((m + 1 : Nat) : Int) - 1) = (m : Int) := by rw [IntKind.wrap_i64]; omega
  have hmw4 : (m : Int) + 1 - 1 = (m : Int) := by omega
  have hm0 : (0 : Int) ≤ (m : Int) := by omega
  have hm1 : (m : Int) < (m : Int) + 1 := by omega
  have hm2 : (m : Int) < ((m + 1 : Nat) : Int) := by omega
  clear hsu hL hhb hQ
  go_enter Tryz.func92, Tryz.ntmps92
  go_wp2_with fail
  go_region_held3 (fun X => X.cell? ⟨hb, 0, none⟩ = some (.func (.func 63) #[] #[.pointer (some ⟨bx, 0, none⟩)]) ∧ X.cell? ⟨tb, m, none⟩ = some (.int .i64 (su : Int))) (first | exact HKS.out | exact HKT.out | go_keep)
    ((first
      | (go_at_call 63; refine calls_at w.drew (by with_reducible rfl) ?_; refine Calls.mono HHA.out ?_; rintro e w4 ⟨rfl, hk4, hl4⟩; have HKT := show Hid _ from HSX.out w4 (hk4.at HHB.out (by decide) (by decide)) hl4.val; have HK4 : Hid (KeepH w w4) := HK0.out.trans hk4; have HL4 := show Hid _ from hl4; clear hk4 hl4)
      | fail))
  all_goals go_wp2_with fail
  all_goals refine bodyPost_end (v := .tuple #[]) (by simp [results, Tryz.results92]) rfl ?_
  all_goals exact ⟨rfl, HK4.out, HL4.out⟩

/-- What lookback hands out of a transition, by the productions below p. -/
def lbK (es : List (List (Nat × Nat))) (tl : List It) (n : Nat) (L : Nat → Int) (R : Nat → List Int) (k : Nat) : Nat → List (Nat × Int)
  | 0 => []
  | p + 1 => lbK es tl n L R k p ++ (if L p = (tl.getD k (0, 0)).2 then [(stF es (tl.getD k (0, 0)).1.toNat (R p) (R p).length * n + p, (k : Int))] else [])
/-- .. of the transitions below k, by n productions. -/
def lbT (es : List (List (Nat × Nat))) (tl : List It) (n : Nat) (L : Nat → Int) (R : Nat → List Int) : Nat → List (Nat × Int)
  | 0 => []
  | k + 1 => lbT es tl n L R k ++ lbK es tl n L R k n
/-- Lists, once all this has been handed to them. -/
def foldA (l : List (Nat × Int)) (f : Nat) : List Int := (l.filter fun x => decide (x.1 = f)).map Prod.snd
theorem foldA_snoc (l : List (Nat × Int)) (f : Nat) (x : Int) : foldA (l ++ [(f, x)]) = updL (foldA l) f (foldA l f ++ [x]) := funext fun i => by
  unfold foldA
  rw [List.filter_append, List.map_append]
  by_cases e : i = f
  · subst e
    rw [updL_same]
    simp
  · rw [updL_other _ _ e]
    have : ¬ f = i := fun h => e h.symm
    simp [this]
theorem mem_foldA {l : List (Nat × Int)} {f : Nat} {x : Int} : x ∈ foldA l f ↔ (f, x) ∈ l := by
  unfold foldA
  rw [List.mem_map]
  constructor
  · rintro ⟨y, hy, rfl⟩
    obtain ⟨h1, h2⟩ := List.mem_filter.1 hy
    simp only [decide_eq_true_eq] at h2
    rw [← h2]
    exact h1
  · intro h
    exact ⟨(f, x), List.mem_filter.2 ⟨h, by simp⟩, rfl⟩
section
variable {es : List (List (Nat × Nat))} {tl : List It} {n : Nat} {L : Nat → Int} {R : Nat → List Int}
theorem mem_lbK {k : Nat} {x : Nat × Int} : ∀ {p : Nat}, x ∈ lbK es tl n L R k p ↔ ∃ p', p' < p ∧ L p' = (tl.getD k (0, 0)).2 ∧ x = (stF es (tl.getD k (0, 0)).1.toNat (R p') (R p').length * n + p', (k : Int))
  | 0 => by simp [lbK]
  | p + 1 => by
    rw [lbK, List.mem_append, mem_lbK]
    constructor
    · rintro (⟨p', h1, h2⟩ | h)
      · exact ⟨p', by omega, h2⟩
      · by_cases e : L p = (tl.getD k (0, 0)).2
        · rw [if_pos e, List.mem_singleton] at h; exact ⟨p, Nat.lt_succ_self _, e, h⟩
        · rw [if_neg e] at h; cases h
    · rintro ⟨p', h1, h2, h3⟩
      by_cases e : p' = p
      · subst e; right; rw [if_pos h2, List.mem_singleton]; exact h3
      · exact .inl ⟨p', by omega, h2, h3⟩
theorem mem_lbT {x : Nat × Int} : ∀ {k : Nat}, x ∈ lbT es tl n L R k ↔ ∃ k', k' < k ∧ x ∈ lbK es tl n L R k' n
  | 0 => by simp [lbT]
  | k + 1 => by
    rw [lbT, List.mem_append, mem_lbT]
    constructor
    · rintro (⟨k', h1, h2⟩ | h)
      · exact ⟨k', by omega, h2⟩
      · exact ⟨k, Nat.lt_succ_self _, h⟩
    · rintro ⟨k', h1, h3⟩
      by_cases e : k' = k
      · subst e; exact .inr h3
      · exact .inl ⟨k', by omega, h3⟩
theorem lbK_asc {k : Nat} : ∀ p, p ≤ n → (lbK es tl n L R k p).Pairwise fun x y => x.1 ≠ y.1
  | 0, _ => List.Pairwise.nil
  | p + 1, hp => by
    rw [lbK, List.pairwise_append]
    refine ⟨lbK_asc p (by omega), ?_, fun x hx y hy e => ?_⟩
    · split
      · exact List.pairwise_singleton _ _
      · exact List.Pairwise.nil
    · obtain ⟨p', h1, _, rfl⟩ := mem_lbK.1 hx
      by_cases e2 : L p = (tl.getD k (0, 0)).2
      · rw [if_pos e2, List.mem_singleton] at hy
        subst hy
        have := (idx_inj (n := n) (by omega) (by omega) e).2
        omega
      · rw [if_neg e2] at hy; cases hy
theorem lbK_snd {k p : Nat} {x : Nat × Int} (h : x ∈ lbK es tl n L R k p) : x.2 = (k : Int) := by
  obtain ⟨_, _, _, rfl⟩ := mem_lbK.1 h
  rfl
theorem lbT_asc : ∀ k, (lbT es tl n L R k).Pairwise fun x y => x.1 = y.1 → x.2 < y.2
  | 0 => List.Pairwise.nil
  | k + 1 => by
    rw [lbT, List.pairwise_append]
    refine ⟨lbT_asc k, (lbK_asc n (Nat.le_refl _)).imp fun h e => absurd e h, fun x hx y hy _ => ?_⟩
    obtain ⟨k', h1, h2⟩ := mem_lbT.1 hx
    rw [lbK_snd h2, lbK_snd hy]
    omega
theorem foldA_asc {l : List (Nat × Int)} (h : l.Pairwise fun x y => x.1 = y.1 → x.2 < y.2) (f : Nat) : (foldA l f).Pairwise (· < ·) := by
  unfold foldA
  rw [List.pairwise_map]
  refine (h.sublist List.filter_sublist).imp_of_mem fun {x y} hx hy h1 => ?_
  have h2 := (List.mem_filter.1 hx).2
  have h3 := (List.mem_filter.1 hy).2
  simp only [decide_eq_true_eq] at h2 h3
  exact h1 (by rw [h2, h3])
theorem lbK_prefix {k p : Nat} : ∀ d, lbK es tl n L R k p <+: lbK es tl n L R k (p + d)
  | 0 => List.prefix_refl _
  | d + 1 => (lbK_prefix d).trans (by
    show _ <+: lbK es tl n L R k ((p + d) + 1)
    rw [lbK]
    exact List.prefix_append _ _)
theorem lbI_len {k p T : Nat} (hk : k < T) (hp : p ≤ n) (f : Nat) : (foldA (lbT es tl n L R k ++ lbK es tl n L R k p) f).length ≤ T := by
  obtain ⟨d, hd⟩ : ∃ d, n = p + d := ⟨n - p, by omega⟩
  have h0 : (lbT es tl n L R k ++ lbK es tl n L R k p).Sublist (lbT es tl n L R (k + 1)) := by
    rw [lbT]
    refine List.Sublist.append_left ?_ _
    have h := (lbK_prefix (es := es) (tl := tl) (n := n) (L := L) (R := R) (k := k) (p := p) d).sublist
    rw [← hd] at h
    exact h
  refine asc_len (foldA_asc ((lbT_asc (k + 1)).sublist h0) f) fun x hx => ?_
  obtain ⟨k', h1, h2⟩ := mem_lbT.1 (h0.subset (mem_foldA.1 hx))
  have h3 := lbK_snd h2
  simp only at h3
  omega
end

section
variable (ta na la pa sa xa l1 m1 : Option Addr) (tc nc lc pc sc xc lc1 mc1 : Nat) (n N T nb : Nat) (st : Int) (w : World) (tn nn ln : Nat)

set_option maxRecDepth 100000 in
set_option maxHeartbeats 2000000 in
theorem ulb_any (P : World) (B S bx kb : Nat) (ks : List (List It)) (es : List (List (Nat × Nat))) (kv ev : Nat → Value) (tl : List It) (F : Nat → Bool) (lb mb : Nat → Nat) (L : Nat → Int) (R : Nat → List Int) (ra : Nat → Option Addr) (rc : Nat → Nat) (V : Nat → Int) (hK : RlOK N T S tn nn ks es tl)
    (hR : RaAt B P nb nn S (.slice sa N sc) (.slice xa T xc) (.slice l1 N lc1) (.slice m1 N mc1) ks es kv ev tl F lb mb) (hPr : ProdsAt P pa n L R ra rc V) (hn : n ≤ 1000) (hrow : RowsOK n T S tl L R)
    (rb : Nat → Nat) (hL : ∃ ua uc, LbP P w bx kb N n (fun _ => []) rb ua uc) :
    Calls Tryz.prog 62 #[.agg #[.slice ta tn tc, .slice na nn nc, .slice la ln lc, .int .i64 st, .slice pa n pc, .slice (some ⟨nb, 0, none⟩) nn nn, .slice sa N sc, .slice xa T xc, .slice l1 N lc1, .slice m1 N mc1], .func (.func 63) #[] #[.pointer (some ⟨bx, 0, none⟩)]] w fun e y => e = .returned (.tuple #[]) ∧ ∃ ua uc, LbP P y bx kb N n (foldA (lbT es tl n L R T)) rb ua uc := by
  obtain ⟨X0, hX0⟩ : ∃ X, X = w.alloc (.cells #[.slice ta tn tc, .slice na nn nc, .slice la ln lc, .int .i64 st, .slice pa n pc, .slice (some ⟨nb, 0, none⟩) nn nn, .slice sa N sc, .slice xa T xc, .slice l1 N lc1, .slice m1 N mc1] 81) := ⟨_, rfl⟩
  obtain ⟨X1, hX1⟩ : ∃ X, X = X0.alloc (.cells #[.func (.func 63) #[] #[.pointer (some ⟨bx, 0, none⟩)]] 121) := ⟨_, rfl⟩
  have hg0 : w.grownBy X0 none := by rw [hX0]; exact World.grownBy_alloc _ _ none
  have hg1 : X0.grownBy X1 none := by rw [hX1]; exact World.grownBy_alloc _ _ none
  have hb0 : X0.heap[w.heap.size]? = some (.cells #[.slice ta tn tc, .slice na nn nc, .slice la ln lc, .int .i64 st, .slice pa n pc, .slice (some ⟨nb, 0, none⟩) nn nn, .slice sa N sc, .slice xa T xc, .slice l1 N lc1, .slice m1 N mc1] 81 (0, 0)) := by rw [hX0]; exact heap_alloc_last w _
  have hb1 : X1.heap[w.heap.size]? = some (.cells #[.slice ta tn tc, .slice na nn nc, .slice la ln lc, .int .i64 st, .slice pa n pc, .slice (some ⟨nb, 0, none⟩) nn nn, .slice sa N sc, .slice xa T xc, .slice l1 N lc1, .slice m1 N mc1] 81 (0, 0)) := box_kept hb0 hg1
  have hs0 : X0.heap.size = w.heap.size + 1 := by rw [hX0, World.size_alloc]
  have hb2 : X1.heap[w.heap.size + 1]? = some (.cells #[.func (.func 63) #[] #[.pointer (some ⟨bx, 0, none⟩)]] 121 (0, 0)) := by rw [hX1, ← hs0]; exact heap_alloc_last X0 _
  have HWY : Hid (Calls Tryz.prog 59 #[.agg #[.slice ta tn tc, .slice na nn nc, .slice la ln lc, .int .i64 st, .slice pa n pc, .slice (some ⟨nb, 0, none⟩) nn nn, .slice sa N sc, .slice xa T xc, .slice l1 N lc1, .slice m1 N mc1], .func (.func 92) #[] #[.pointer (some ⟨w.heap.size + 1, 0, none⟩)]] X1 fun e y => e = .returned (.tuple #[]) ∧ (y.heap[w.heap.size + 1]? = some (.cells #[.func (.func 63) #[] #[.pointer (some ⟨bx, 0, none⟩)]] 121 (0, 0)) ∧ ∃ ua uc, LbP P y bx kb N n (foldA (lbT es tl n L R T ++ lbK es tl n L R T 0)) rb ua uc)) :=
    ways_lb ta na la pa sa xa l1 m1 tc nc lc pc sc xc lc1 mc1 n N T nb st X1 tn nn ln P B S ks es kv ev tl F lb mb L R ra rc V hK hR hPr hn hrow (w.heap.size + 1)
      (fun X k p => X.heap[w.heap.size + 1]? = some (.cells #[.func (.func 63) #[] #[.pointer (some ⟨bx, 0, none⟩)]] 121 (0, 0)) ∧ ∃ ua uc, LbP P X bx kb N n (foldA (lbT es tl n L R k ++ lbK es tl n L R k p)) rb ua uc)
      (fun X Y k p h hg => ⟨box_kept h.1 hg, by obtain ⟨ua, uc, h1⟩ := h.2; exact ⟨ua, uc, h1.kept hg⟩⟩)
      (fun X k p h => by obtain ⟨ua, uc, h1⟩ := h.2; exact h1.grown)
      (fun Y0 Y k p q tb hk hp hq e h hg htb hv => by
        obtain ⟨h1, ua, uc, h3⟩ := h
        refine (ulbf_any P Y bx kb (w.heap.size + 1) N n tb (R p).length (stF es q (R p)) (foldA (lbT es tl n L R k ++ lbK es tl n L R k p)) rb k p hp ((hrow p hp).1 k hk (by rw [e])) (stF_lt hq (fun r hr x hx => by rw [hK.hN]; exact ((hK.eok.each r (by rw [← hK.hN]; exact hr)).2.2 x hx).2) _) (box_kept h1 hg) (fun f => by have a1 := lbI_len (es := es) (tl := tl) (n := n) (L := L) (R := R) hk (Nat.le_of_lt hp) f; have a2 := hK.t40; omega) (LbT.new h3 hg hv htb)).mono ?_
        rintro e' y ⟨rfl, hk2, ua', uc', h4, _⟩
        refine ⟨rfl, hk2, hk2.at (box_kept h1 hg) (by decide) (by decide), ua', uc', ?_⟩
        rw [lbK, e, if_pos rfl, ← List.append_assoc, foldA_snoc]
        exact h4)
      (fun X k p q s _ _ e hne h => by
        refine ⟨h.1, ?_⟩
        rw [lbK, e, if_neg hne, List.append_nil]
        exact h.2)
      (fun X k h => by
        refine ⟨h.1, ?_⟩
        rw [lbT, lbK, List.append_nil]
        exact h.2)
      ⟨hb2, by obtain ⟨ua, uc, h⟩ := hL; exact ⟨ua, uc, (h.kept hg0).kept hg1⟩⟩
  obtain ⟨a0, a1, a2, a3, a4, a5, a6, a7, a8, a9⟩ := av_cells hb1
  rw [hX1, hX0] at a0 a1 a2 a3 a4 a5 a6 a7 a8 a9
  have HXE : Hid (X1 = (w.alloc (.cells #[.slice ta tn tc, .slice na nn nc, .slice la ln lc, .int .i64 st, .slice pa n pc, .slice (some ⟨nb, 0, none⟩) nn nn, .slice sa N sc, .slice xa T xc, .slice l1 N lc1, .slice m1 N mc1] 81)).alloc (.cells #[.func (.func 63) #[] #[.pointer (some ⟨bx, 0, none⟩)]] 121)) := by show _ = _; rw [hX1, hX0]
  clear hK hR hPr hrow hL hX0 hX1 hg0 hg1 hb0 hb1 hs0 hb2
  go_enter Tryz.func62, Tryz.ntmps62
  go_wp2_with fail
  rw [← HXE.out]
  refine Calls.mono HWY.out ?_
  rintro e y ⟨rfl, _, hl⟩
  have HL := show Hid _ from hl
  clear hl a0 a1 a2 a3 a4 a5 a6 a7 a8 a9
  go_wp2_with fail
  refine bodyPost_end (v := .tuple #[]) (by simp [results, Tryz.results62]) rfl ?_
  refine ⟨rfl, ?_⟩
  have h := HL.out
  rw [lbK, List.append_nil] at h
  exact h
end

end Go.Proofs.YthoamlahbnphkaaGreat.J

/-
  relate: backs.
-/
namespace Go.Proofs.YthoamlahbnphkaaGreat.J
open Go.RowKit Go.Maps Go.Shelf

attribute [local go_sem] Oper.semAt_some

theorem infoIntss : (Tryz.prog.info? 30).map (fun i => (i.zero, i.size, i.bytes)) = some (some (.slice none 0 0), 1, 24) := by kernel_rfl
theorem infoBack : (Tryz.prog.info? 40).map (fun i => (i.zero, i.size, i.bytes)) = some (some (.agg #[.int .i64 0, .int .i64 0, .slice none 0 0]), 3, 40) := by kernel_rfl
theorem mk_rows (u : World) {i0 : TypeInfo} (hi0 : Tryz.prog.info? 24 = some i0) (hz0 : i0.zero = some (.slice none 0 0)) (hz1 : i0.size = 1) (hz2 : i0.bytes = 24) {S : Nat} (hS : S ≤ 1000) : (Instr.makeSlice 30 (.int .i64 (S : Int)) (.int .i64 (S : Int))).run Tryz.prog u = .ok (.slice (some ⟨u.heap.size, 0, none⟩) S S) (u.alloc (.cells (madeCells #[.slice none 0 0] S) 24)) := by
  have h := run_make (P := Tryz.prog) u 30 24 i0 (.slice none 0 0) Tryz.underlying30 hi0 hz0 .i64 .i64 (S : Int) (S : Int) (by omega) (Int.le_refl _) (by rw [hz2]; omega) (by omega)
  rw [h]
  simp [hz1, Value.cells]
theorem mk_valR {Y : World} {b S : Nat} (h : Y.heap[b]? = some (.cells (madeCells #[.slice none 0 0] S) 24 (0, 0))) : ValAt Y b S 24 (fun _ => .slice none 0 0) := by
  unfold ValAt
  rw [h]
  congr 2
  apply Array.ext'
  rw [toList_madeCells_one, List.map_const', List.length_range]

/-- The rows of lists, i of them made. -/
structure LmP (P X : World) (bx kb N n i : Nat) (rb : Nat → Nat) : Prop where
  grown : P.grownBy X none
  box : X.heap[bx]? = some (.cells #[.slice (some ⟨kb, 0, none⟩) N N] 119 (0, 0))
  out : ValAt X kb N 30 (fun s => if s < i then .slice (some ⟨rb s, 0, none⟩) n n else .slice none 0 0)
  val : ∀ s, s < i → ValAt X (rb s) n 24 (fun _ => .slice none 0 0)
  inj : ∀ s s', s < i → s' < i → rb s = rb s' → s = s'
  lo : P.heap.size ≤ bx ∧ P.heap.size ≤ kb ∧ ∀ s, s < i → P.heap.size ≤ rb s
section
variable {P X Y : World} {bx kb N n i : Nat} {rb : Nat → Nat}
theorem LmP.kept (h : LmP P X bx kb N n i rb) (hg : X.grownBy Y none) : LmP P Y bx kb N n i rb :=
  ⟨grown_trans h.grown hg, box_kept h.box hg, h.out.kept hg, fun s hs => (h.val s hs).kept hg, h.inj, h.lo⟩
theorem LmP.step (h : LmP P X bx kb N n i rb) (hg : X.grownBy Y none) {g : Nat} (hn : X.heap.size ≤ g) (hv : ValAt Y g n 24 (fun _ => .slice none 0 0)) : LmP P (Y.setCell ⟨kb, i, none⟩ (.slice (some ⟨g, 0, none⟩) n n)) bx kb N n (i + 1) (updL rb i g) := by
  have h1 := h.kept hg
  have hss : Y.grownBy (Y.setCell ⟨kb, i, none⟩ (.slice (some ⟨g, 0, none⟩) n n)) (some kb) := grown_setCell _ _ _
  have hne : ∀ {b : Nat} {cs : Array Value} {t : TypeId}, Y.heap[b]? = some (.cells cs t (0, 0)) → t ≠ 30 → b ≠ kb := fun {b cs t} h2 h3 e => by
    have h4 := h1.out
    unfold ValAt at h4
    rw [e, h4] at h2
    simp only [Option.some.injEq, Obj.cells.injEq] at h2
    exact h3 h2.2.1.symm
  have hgp : P.heap.size ≤ g := Nat.le_trans h.grown.size hn
  refine ⟨grown_new h1.grown hss h1.lo.2.1, (hss.block bx (Array.getElem?_eq_some_iff.1 h1.box).1 (by have := hne h1.box (by decide); simpa using this)).trans h1.box, ?_, fun s hs => ?_, fun s s' hs hs' e => ?_, h1.lo.1, h1.lo.2.1, fun s hs => ?_⟩
  · refine (h1.out.set i _).ext fun s _ => ?_
    unfold put
    by_cases e : s = i
    · subst e
      rw [if_pos rfl, if_pos (Nat.lt_succ_self _), updL_same]
    · rw [if_neg e, updL_other _ _ e]
      show (if s < i then Value.slice (some ⟨rb s, 0, none⟩) n n else Value.slice none 0 0) = _
      by_cases e2 : s < i
      · rw [if_pos e2, if_pos (by omega)]
      · rw [if_neg e2, if_neg (by omega)]
  · by_cases e : s = i
    · subst e
      rw [updL_same]
      exact hv.at hss (hne hv (by decide))
    · rw [updL_other _ _ e]
      exact (h1.val s (by omega)).at hss (hne (h1.val s (by omega)) (by decide))
  · by_cases e1 : s = i
    · by_cases e2 : s' = i
      · rw [e1, e2]
      · rw [e1, updL_same, updL_other _ _ e2] at e
        have := (h.val s' (by omega)).lt
        omega
    · by_cases e2 : s' = i
      · rw [e2, updL_same, updL_other _ _ e1] at e
        have := (h.val s (by omega)).lt
        omega
      · rw [updL_other _ _ e1, updL_other _ _ e2] at e
        exact h.inj s s' (by omega) (by omega) e
  · by_cases e : s = i
    · subst e; rw [updL_same]; exact hgp
    · rw [updL_other _ _ e]; exact h.lo.2.2 s (by omega)
theorem LmP.done (h : LmP P X bx kb N n N rb) : LbP P X bx kb N n (fun _ => []) rb (fun _ => none) (fun _ => 0) :=
  ⟨h.grown, h.box, h.out.ext fun s hs => by rw [if_pos hs], fun s hs => h.val s hs, fun _ _ => World.ownsRow_nil _ _ _ _, fun _ _ _ _ _ => .inl rfl, h.inj, h.lo⟩
end
/-- A row of another type grows. -/
theorem LbP.row {P X Y : World} {bx kb N n : Nat} {Q : Nat → List Int} {rb : Nat → Nat} {ua : Nat → Option Addr} {uc : Nat → Nat} (h : LbP P X bx kb N n Q rb ua uc) {B m : Nat} {v : Value} {xs : List Value} (ho : X.ownsRow B 40 3 v m xs) (hB : P.heap.size ≤ B) (hg : X.grownBy Y v.ownBlock) : LbP P Y bx kb N n Q rb ua uc :=
  ⟨grown_owned h.grown ho hB hg, box_row h.box ho (by decide) hg, box_row h.out ho (by decide) hg, fun s hs => box_row (h.val s hs) ho (by decide) hg, fun k hk => (h.own k hk).kept hg (owns_ne (h.own k hk) ho (by decide)), h.sep, h.inj, h.lo⟩

/-- The completed productions of a state, those below j. -/
def bkJ (Q : Nat → List Int) (n s : Nat) : Nat → List (Nat × Nat)
  | 0 => []
  | j + 1 => bkJ Q n s j ++ (if Q (s * n + j) = [] then [] else [(s, j)])
/-- .. of the states below i. -/
def bkI (Q : Nat → List Int) (n : Nat) : Nat → List (Nat × Nat)
  | 0 => []
  | i + 1 => bkI Q n i ++ bkJ Q n i n
/-- Their cells. -/
def bkV (n : Nat) (Q : Nat → List Int) (ua : Nat → Option Addr) (uc : Nat → Nat) (l : List (Nat × Nat)) : List Value := l.flatMap fun x => [.int .i64 (x.1 : Int), .int .i64 (x.2 : Int), .slice (ua (x.1 * n + x.2)) (Q (x.1 * n + x.2)).length (uc (x.1 * n + x.2))]
theorem bkV_snoc (n : Nat) (Q : Nat → List Int) (ua : Nat → Option Addr) (uc : Nat → Nat) (l : List (Nat × Nat)) (s j : Nat) : bkV n Q ua uc (l ++ [(s, j)]) = bkV n Q ua uc l ++ [.int .i64 (s : Int), .int .i64 (j : Int), .slice (ua (s * n + j)) (Q (s * n + j)).length (uc (s * n + j))] := by
  unfold bkV
  rw [List.flatMap_append]
  rfl
theorem bkJ_len (Q : Nat → List Int) (n s : Nat) : ∀ j, (bkJ Q n s j).length ≤ j
  | 0 => Nat.le_refl _
  | j + 1 => by
    have := bkJ_len Q n s j
    rw [bkJ, List.length_append]
    split
    · simp; omega
    · simp; omega
theorem bkI_len (Q : Nat → List Int) (n : Nat) : ∀ i, (bkI Q n i).length ≤ i * n
  | 0 => Nat.zero_le _
  | i + 1 => by
    have h1 := bkI_len Q n i
    have h2 := bkJ_len Q n i n
    rw [bkI, List.length_append, Nat.succ_mul]
    omega
/-- What backs tells. -/
def BacksTold (N n : Nat) (Q : Nat → List Int) (w : World) (e : Ending) (y : World) : Prop := ∃ a c bx kb rb ua uc, e = .returned (.slice a (bkI Q n N).length c) ∧ LbP w y bx kb N n Q rb ua uc ∧ y.ownsRow w.heap.size 40 3 (.slice a (bkI Q n N).length c) (bkI Q n N).length (bkV n Q ua uc (bkI Q n N))

section
variable (ta na la pa sa xa l1 m1 : Option Addr) (tc nc lc pc sc xc lc1 mc1 : Nat) (n N T nb : Nat) (st : Int) (w : World) (tn nn ln : Nat)

set_option maxRecDepth 100000 in
set_option maxHeartbeats 4000000 in
theorem ubacks_any (Q : Nat → List Int) (hN : N ≤ 256) (hn : n ≤ 1000)
    (hLB : ∀ X bx kb rb, LbP w X bx kb N n (fun _ => []) rb (fun _ => none) (fun _ => 0) → Calls Tryz.prog 62 #[.agg #[.slice ta tn tc, .slice na nn nc, .slice la ln lc, .int .i64 st, .slice pa n pc, .slice (some ⟨nb, 0, none⟩) nn nn, .slice sa N sc, .slice xa T xc, .slice l1 N lc1, .slice m1 N mc1], .func (.func 63) #[] #[.pointer (some ⟨bx, 0, none⟩)]] X fun e y => e = .returned (.tuple #[]) ∧ ∃ ua uc, LbP w y bx kb N n Q rb ua uc) :
    Calls Tryz.prog 34 #[.agg #[.slice ta tn tc, .slice na nn nc, .slice la ln lc, .int .i64 st, .slice pa n pc, .slice (some ⟨nb, 0, none⟩) nn nn, .slice sa N sc, .slice xa T xc, .slice l1 N lc1, .slice m1 N mc1]] w fun e y => BacksTold N n Q w e y := by
  have HLB := show Hid _ from hLB
  have HX0 : Hid ((w.alloc (.cells #[.slice ta tn tc, .slice na nn nc, .slice la ln lc, .int .i64 st, .slice pa n pc, .slice (some ⟨nb, 0, none⟩) nn nn, .slice sa N sc, .slice xa T xc, .slice l1 N lc1, .slice m1 N mc1] 81)).heap[w.heap.size]? = some (.cells #[.slice ta tn tc, .slice na nn nc, .slice la ln lc, .int .i64 st, .slice pa n pc, .slice (some ⟨nb, 0, none⟩) nn nn, .slice sa N sc, .slice xa T xc, .slice l1 N lc1, .slice m1 N mc1] 81 (0, 0))) := heap_alloc_last w _
  have c6 : (w.alloc (.cells #[.slice ta tn tc, .slice na nn nc, .slice la ln lc, .int .i64 st, .slice pa n pc, .slice (some ⟨nb, 0, none⟩) nn nn, .slice sa N sc, .slice xa T xc, .slice l1 N lc1, .slice m1 N mc1] 81)).cell? ⟨w.heap.size, 6, none⟩ = some (.slice sa N sc) := by rw [cell_of_row _ _ _ _ _ _ HX0.out]; rfl
  obtain ⟨i1, hq1, hu0, hu1, hu2⟩ := info_parts infoIntss
  obtain ⟨i2, hp1, hv0, hv1, hv2⟩ := info_parts infoInts
  obtain ⟨i3, hr1, hw0, hw1, hw2⟩ := info_parts infoBack
  clear hLB
  go_enter Tryz.func34, Tryz.ntmps34
  go_wp2_with (at_make; refine wpList_make_full _ rfl _ _ 119 rfl w.heap.size 30 i1 (.slice none 0 0) 1 Tryz.underlying119 hq1 hu0 hu1 .i64 .i64 _ _ N rfl rfl (by omega) (by omega) (by rw [hu2]; omega) (by unfold maxLen; omega) (by simp) ?_)
  intro W1 hown hgrow
  have hval : ValAt W1 (w.heap.size + 1) N 30 (fun _ => .slice none 0 0) := made_rowK (B := w.heap.size) rfl (by simpa [Value.cells] using hown)
  have hg1 : w.grownBy W1 none := grown_trans (World.grownBy_alloc _ _ none) hgrow
  have hgb : W1.grownBy (W1.alloc (.cells #[.slice (some ⟨w.heap.size + 1, 0, none⟩) N N] 119)) none := World.grownBy_alloc _ _ none
  have HB1 : Hid ((W1.alloc (.cells #[.slice (some ⟨w.heap.size + 1, 0, none⟩) N N] 119)).heap[w.heap.size]? = some (.cells #[.slice ta tn tc, .slice na nn nc, .slice la ln lc, .int .i64 st, .slice pa n pc, .slice (some ⟨nb, 0, none⟩) nn nn, .slice sa N sc, .slice xa T xc, .slice l1 N lc1, .slice m1 N mc1] 81 (0, 0))) := box_kept (box_kept HX0.out hgrow) hgb
  have HLM : Hid (LmP w (W1.alloc (.cells #[.slice (some ⟨w.heap.size + 1, 0, none⟩) N N] 119)) W1.heap.size (w.heap.size + 1) N n 0 (fun _ => 0)) :=
    ⟨grown_trans hg1 hgb, heap_alloc_last W1 _, (hval.kept hgb).ext fun s _ => by rw [if_neg (Nat.not_lt_zero _)], fun s hs => absurd hs (Nat.not_lt_zero _), fun s _ hs => absurd hs (Nat.not_lt_zero _), hg1.size, by omega, fun s hs => absurd hs (Nat.not_lt_zero _)⟩
  clear hown hgrow hval HX0 c6 hg1 hgb
  go_wp2_with fail
  generalize W1.alloc (.cells #[.slice (some ⟨w.heap.size + 1, 0, none⟩) N N] 119) = W2 at HB1 HLM ⊢
  obtain ⟨bx, hbx⟩ : ∃ b, b = W1.heap.size := ⟨_, rfl⟩
  rw [← hbx] at HLM ⊢
  obtain ⟨kb, hkb⟩ : ∃ b, b = w.heap.size + 1 := ⟨_, rfl⟩
  rw [← hkb] at HLM ⊢
  obtain ⟨ab, hab⟩ : ∃ b, b = w.heap.size := ⟨_, rfl⟩
  rw [← hab] at HB1 ⊢
  clear hbx hkb hab
  go_loopg [16] N (fun gk v16 wr => ∃ (i : Nat) (rb : Nat → Nat), i ≤ N ∧ gk = N - i ∧ v16 = .int .i64 i ∧ wr.heap[ab]? = some (.cells #[.slice ta tn tc, .slice na nn nc, .slice la ln lc, .int .i64 st, .slice pa n pc, .slice (some ⟨nb, 0, none⟩) nn nn, .slice sa N sc, .slice xa T xc, .slice l1 N lc1, .slice m1 N mc1] 81 (0, 0)) ∧ LmP w wr bx kb N n i rb)
  case atStart => exact ⟨0, _, Nat.zero_le _, rfl, rfl, HB1.out, HLM.out⟩
  case round =>
    obtain ⟨i, rb, hi, hgi, rfl, hb, hl⟩ := hrel
    have HGI : Hid (gk = N - i) := hgi
    have HB : Hid (wr.heap[ab]? = some (.cells #[.slice ta tn tc, .slice na nn nc, .slice la ln lc, .int .i64 st, .slice pa n pc, .slice (some ⟨nb, 0, none⟩) nn nn, .slice sa N sc, .slice xa T xc, .slice l1 N lc1, .slice m1 N mc1] 81 (0, 0))) := hb
    have HL : Hid (LmP w wr bx kb N n i rb) := hl
    clear hgi hb hl HB1 HLM
    generalize wr = Y at *
    by_cases hlt : i < N
    · have hid : decide (i < N) = true := decide_eq_true hlt
      have hi0 : (0 : Int) ≤ (i : Int) := by omega
      have hi1 : (i : Int) < (N : Int) := by omega
      have b0 : Y.cell? ⟨bx, 0, none⟩ = some (.slice (some ⟨kb, 0, none⟩) N N) := by rw [cell_of_row _ _ _ _ _ _ HL.out.box]; rfl
      have b1 : Y.cell? ⟨ab, 4, none⟩ = some (.slice pa n pc) := (av_cells HB.out).2.2.2.2.1
      have b2 := HL.out.out.cell i hlt
      rw [if_neg (Nat.lt_irrefl _)] at b2
      have b3 := HL.out.out.free i
      have m0 : ∀ o, (Y.alloc o).cell? ⟨bx, 0, none⟩ = some (.slice (some ⟨kb, 0, none⟩) N N) := fun o => (World.grownBy_alloc _ o none).cell b0 (by simp)
      have m1' : ∀ o, (Y.alloc o).cell? ⟨ab, 4, none⟩ = some (.slice pa n pc) := fun o => (World.grownBy_alloc _ o none).cell b1 (by simp)
      have m2 : ∀ o, (Y.alloc o).cell? ⟨kb, i, none⟩ = some (.slice none 0 0) := fun o => (World.grownBy_alloc _ o none).cell b2 (by simp)
      have m3 : ∀ o, (Y.alloc o).frozen? ⟨kb, i, none⟩ = false := fun o => (HL.out.kept (World.grownBy_alloc _ o none)).out.free i
      have hmk : ∀ u : World, (Instr.makeSlice 30 (.int .i64 (n : Int)) (.int .i64 (n : Int))).run Tryz.prog u = .ok (.slice (some ⟨u.heap.size, 0, none⟩) n n) (u.alloc (.cells (madeCells #[.slice none 0 0] n) 24)) := fun u => mk_rows u hp1 hv0 hv1 hv2 hn
      have HST : Hid (LmP w ((Y.alloc (.cells (madeCells #[.slice none 0 0] n) 24)).setCell ⟨kb, i, none⟩ (.slice (some ⟨Y.heap.size, 0, none⟩) n n)) bx kb N n (i + 1) (updL rb i Y.heap.size)) := HL.out.step (World.grownBy_alloc _ _ none) (Nat.le_refl _) (mk_valR (heap_alloc_last Y _))
      have HBS : Hid (((Y.alloc (.cells (madeCells #[.slice none 0 0] n) 24)).setCell ⟨kb, i, none⟩ (.slice (some ⟨Y.heap.size, 0, none⟩) n n)).heap[ab]? = some (.cells #[.slice ta tn tc, .slice na nn nc, .slice la ln lc, .int .i64 st, .slice pa n pc, .slice (some ⟨nb, 0, none⟩) nn nn, .slice sa N sc, .slice xa T xc, .slice l1 N lc1, .slice m1 N mc1] 81 (0, 0))) := by
        have h1 := box_kept HB.out (World.grownBy_alloc Y (.cells (madeCells #[.slice none 0 0] n) 24) none)
        refine ((grown_setCell kb i _).block ab (Array.getElem?_eq_some_iff.1 h1).1 ?_).trans h1
        intro e
        have e2 : ab = kb := by simpa using e
        have h2 := (HL.out.kept (World.grownBy_alloc Y (.cells (madeCells #[.slice none 0 0] n) 24) none)).out
        unfold ValAt at h2
        rw [e2, h2] at h1
        simp only [Option.some.injEq, Obj.cells.injEq] at h1
        exact absurd h1.2.1 (by decide)
      have hiw : IntKind.i64.wrap ((i : Int) + 1) = (i : Int) + 1 := by rw [IntKind.wrap_i64]; omega
      clear HB HL
      go_wp2_with fail
      go_region_law (fail)
      all_goals go_wp2_with fail
      all_goals go_roundg (N - (i + 1))
      all_goals first
        | exact (show ∃ (i' : Nat) (rb' : Nat → Nat), _ from ⟨i + 1, updL rb i Y.heap.size, by omega, rfl, by go_num, box_kept HBS.out (grown_drewN _ _), HST.out.kept (grown_drewN _ _)⟩)
        | (have := HGI.out; omega)
    · have hiN : N = i := by omega
      subst hiN
      have hid : decide (N < N) = false := decide_eq_false (by omega)
      have HLQ : Hid (LbP w Y bx kb N n (fun _ => []) rb (fun _ => none) (fun _ => 0)) := HL.out.done
      obtain ⟨a0, a1, a2, a3, a4, a5, a6, a7, a8, a9⟩ := av_cells HB.out
      clear HB HL
      go_wp2_with fail
      refine Calls.mono (HLB.out _ _ _ _ HLQ.out) ?_
      rintro e w3 ⟨rfl, ua, uc, hl3⟩
      have HL3 : Hid (LbP w w3 bx kb N n Q rb ua uc) := hl3
      have b0 : w3.cell? ⟨bx, 0, none⟩ = some (.slice (some ⟨kb, 0, none⟩) N N) := by rw [cell_of_row _ _ _ _ _ _ hl3.box]; rfl
      clear hl3 HLQ a0 a1 a2 a3 a4 a5 a6 a7 a8 a9 HLB
      go_wp2_with fail
      clear b0
      have hNn : N * n ≤ 256000 := Nat.mul_le_mul hN hn
      go_loopg [5, 33] N (fun gk v5 v33 wr => ∃ (i M : Nat) (a : Option Addr) (c : Nat), i ≤ N ∧ gk = N - i ∧ v33 = .int .i64 i ∧ v5 = .slice a M c ∧ M = (bkI Q n i).length ∧ LbP w wr bx kb N n Q rb ua uc ∧ wr.ownsRow w.heap.size 40 3 (.slice a M c) M (bkV n Q ua uc (bkI Q n i)))
      case atStart => exact ⟨0, 0, none, 0, Nat.zero_le _, rfl, rfl, rfl, rfl, HL3.out, World.ownsRow_nil _ _ _ _⟩
      case round =>
        obtain ⟨i, M, a, c, hi, hgi, rfl, rfl, hM, hl, ho⟩ := hrel
        have HGI : Hid (gk = N - i) := hgi
        have HM := show Hid _ from hM
        have HL : Hid (LbP w wr bx kb N n Q rb ua uc) := hl
        have HO : Hid (wr.ownsRow w.heap.size 40 3 (.slice a M c) M (bkV n Q ua uc (bkI Q n i))) := ho
        clear hgi hM hl ho HL3
        generalize wr = Y at *
        by_cases hlt : i < N
        · have hid : decide (i < N) = true := decide_eq_true hlt
          have hi0 : (0 : Int) ≤ (i : Int) := by omega
          have hi1 : (i : Int) < (N : Int) := by omega
          have d0 := HL.out.out.cell i hlt
          go_wp2_with fail
          clear d0
          go_loopg [5, 40] n (fun gk v5 v40 wr => ∃ (j M : Nat) (a : Option Addr) (c : Nat), j ≤ n ∧ gk = n - j ∧ v40 = .int .i64 j ∧ v5 = .slice a M c ∧ M = (bkI Q n i ++ bkJ Q n i j).length ∧ LbP w wr bx kb N n Q rb ua uc ∧ wr.ownsRow w.heap.size 40 3 (.slice a M c) M (bkV n Q ua uc (bkI Q n i ++ bkJ Q n i j)))
          case atStart => exact ⟨0, M, a, c, Nat.zero_le _, rfl, rfl, rfl, by rw [bkJ, List.append_nil]; exact HM.out, HL.out, by rw [bkJ, List.append_nil]; exact HO.out⟩
          case round =>
            obtain ⟨j, M2, a2, c2, hj, hgj, rfl, rfl, hM2, hl2, ho2⟩ := hrel
            have HGJ : Hid (gk = n - j) := hgj
            have HM2 := show Hid _ from hM2
            have HL2 : Hid (LbP w wr bx kb N n Q rb ua uc) := hl2
            have HO2 : Hid (wr.ownsRow w.heap.size 40 3 (.slice a2 M2 c2) M2 (bkV n Q ua uc (bkI Q n i ++ bkJ Q n i j))) := ho2
            have hMB : M2 ≤ 300000 := by
              have h1 := bkI_len Q n i
              have h2 := bkJ_len Q n i j
              have h3 : i * n ≤ N * n := Nat.mul_le_mul_right n hi
              rw [hM2, List.length_append]
              omega
            clear hgj hM2 hl2 ho2 HL HO
            generalize wr = X at *
            by_cases hltj : j < n
            · have hjd : decide (j < n) = true := decide_eq_true hltj
              have hj0 : (0 : Int) ≤ (j : Int) := by omega
              have hj1 : (j : Int) < (n : Int) := by omega
              have d1 := (HL2.out.val i hlt).cell j hltj
              obtain ⟨f, hf⟩ : ∃ f, f = i * n + j := ⟨_, rfl⟩
              rw [← hf] at d1
              obtain ⟨fa, hfa⟩ : ∃ x, x = ua f := ⟨_, rfl⟩
              obtain ⟨fc, hfc⟩ : ∃ x, x = uc f := ⟨_, rfl⟩
              obtain ⟨qn, hqn⟩ : ∃ x, x = (Q f).length := ⟨_, rfl⟩
              rw [← hfa, ← hfc, ← hqn] at d1
              have hjw : IntKind.i64.wrap ((j : Int) + 1) = (j : Int) + 1 := by rw [IntKind.wrap_i64]; omega
              by_cases hq0 : qn = 0
              · have hQE : Q f = [] := List.length_eq_zero_iff.1 (by rw [← hqn]; exact hq0)
                have HJ : Hid (bkJ Q n i (j + 1) = bkJ Q n i j) := by
                  show _ = _
                  rw [bkJ, ← hf, if_pos hQE, List.append_nil]
                have hqd : decide (0 < qn) = false := decide_eq_false (by omega)
                clear hf hfa hfc hqn hq0 hQE
                go_wp2_with fail
                go_roundg (n - (j + 1))
                all_goals first
                  | exact (show ∃ (j' M' : Nat) (a' : Option Addr) (c' : Nat), _ from ⟨j + 1, M2, a2, c2, by omega, rfl, by go_num, rfl, by rw [HJ.out]; exact HM2.out, HL2.out, by rw [HJ.out]; exact HO2.out⟩)
                  | (have := HGJ.out; omega)
              · have hQE : Q f ≠ [] := fun h => hq0 (by rw [hqn, h]; rfl)
                have HJ : Hid (bkJ Q n i (j + 1) = bkJ Q n i j ++ [(i, j)]) := by
                  show _ = _
                  rw [bkJ, ← hf, if_neg hQE]
                have HV : Hid (bkV n Q ua uc (bkI Q n i ++ bkJ Q n i (j + 1)) = bkV n Q ua uc (bkI Q n i ++ bkJ Q n i j) ++ [.int .i64 (i : Int), .int .i64 (j : Int), .slice fa qn fc]) := by
                  show _ = _
                  rw [HJ.out, ← List.append_assoc, bkV_snoc, ← hf, ← hfa, ← hfc, ← hqn]
                have hqd : decide (0 < qn) = true := decide_eq_true (by omega)
                have HOA : Hid (∀ o, (X.alloc o).ownsRow w.heap.size 40 3 (.slice a2 M2 c2) M2 (bkV n Q ua uc (bkI Q n i ++ bkJ Q n i j))) := fun o => HO2.out.alloc _
                have HLA : Hid (∀ o, LbP w (X.alloc o) bx kb N n Q rb ua uc) := fun o => HL2.out.kept (World.grownBy_alloc _ _ none)
                have hsz := HL2.out.grown.size
                clear hf hfa hfc hqn hq0 hQE
                obtain ⟨xs, hxs⟩ : ∃ xs, xs = bkV n Q ua uc (bkI Q n i ++ bkJ Q n i j) := ⟨_, rfl⟩
                have HXS := show Hid _ from hxs
                rw [← hxs] at HOA HV
                clear hxs
                go_wp2_with (at_builtin; refine wpList_append_lies _ rfl (.tmp 48) (.tmp 53) 34 rfl w.heap.size 40 i3 (.agg #[.int .i64 0, .int .i64 0, .slice none 0 0]) 3 40 Tryz.underlying34 hr1 hw0 hw1 hw2 rfl (by decide) (.slice a2 M2 c2) M2 xs rfl (HOA.out _) ⟨X.heap.size, 0, none⟩ 1 1 [.int .i64 (i : Int), .int .i64 (j : Int), .slice fa qn fc] rfl rfl (World.news_of_block (heap_alloc_last X _)) (by simp [Value.oneCell']) (by decide) (by unfold maxLen; omega) (by omega) (by simp; omega) _ rfl ?_)
                intro g7 c7 V hoV hgV _ _
                have HOV : Hid (V.ownsRow w.heap.size 40 3 (.slice (some ⟨g7, 0, none⟩) (M2 + 1) c7) (M2 + 1) (bkV n Q ua uc (bkI Q n i ++ bkJ Q n i (j + 1)))) := by
                  rw [HV.out]; exact hoV
                have HLV : Hid (LbP w V bx kb N n Q rb ua uc) := (HLA.out _).row (HOA.out _) (Nat.le_refl _) hgV
                have HMV : Hid (M2 + 1 = (bkI Q n i ++ bkJ Q n i (j + 1)).length) := by
                  show _ = _
                  rw [HJ.out, ← List.append_assoc, List.length_append, ← HM2.out]; rfl
                clear hoV hgV d1
                go_wp2_with fail
                go_roundg (n - (j + 1))
                all_goals first
                  | exact (show ∃ (j' M' : Nat) (a' : Option Addr) (c' : Nat), _ from ⟨j + 1, M2 + 1, some ⟨g7, 0, none⟩, c7, by omega, rfl, by go_num, rfl, HMV.out, HLV.out, HOV.out⟩)
                  | (have := HGJ.out; omega)
            · have hjn : n = j := by omega
              have hjd : decide (j < n) = false := decide_eq_false hltj
              have hiw : IntKind.i64.wrap ((i : Int) + 1) = (i : Int) + 1 := by rw [IntKind.wrap_i64]; omega
              have HJ : Hid (bkI Q n (i + 1) = bkI Q n i ++ bkJ Q n i j) := by
                show _ = _
                rw [bkI, ← hjn]
              clear hjn
              go_wp2_with fail
              go_roundg (N - (i + 1))
              all_goals first
                | exact (show ∃ (i' M' : Nat) (a' : Option Addr) (c' : Nat), _ from ⟨i + 1, M2, a2, c2, by omega, rfl, by go_num, rfl, by rw [HJ.out]; exact HM2.out, HL2.out, by rw [HJ.out]; exact HO2.out⟩)
                | (have := HGI.out; omega)
        · have hiN : N = i := by omega
          subst hiN
          have hid : decide (N < N) = false := decide_eq_false (by omega)
          go_wp2_with fail
          go_ret
          exact ⟨a, c, bx, kb, rb, ua, uc, by rw [← HM.out]; rfl, HL.out, by rw [← HM.out]; exact HO.out⟩
end

end Go.Proofs.YthoamlahbnphkaaGreat.J
