import Derived.Test.YthoamlahbnphkaaGreatQpikkpinmopid
import Derived.Test.YthoamlahbnphkaaGreatQipdlenonbfcj
import Derived.Test.YthoamlahbnphkaaGreatQeancobmnjjoh

/-
  relate: automatonOf of any grammar.
-/
namespace Go.Proofs.YthoamlahbnphkaaGreat.J
open Go.RowKit Go.Maps Go.Shelf

/-- Which nonterminals derive the empty row. -/
noncomputable def nulB (tn n : Nat) (L : Nat → Int) (R : Nat → List Int) (i : Nat) : Bool := by
  classical exact decide (Nul n L R ((tn + i : Nat) : Int))
theorem nulB_iff (tn n : Nat) (L : Nat → Int) (R : Nat → List Int) (i : Nat) : nulB tn n L R i = true ↔ Nul n L R ((tn + i : Nat) : Int) := by
  classical
  unfold nulB
  exact decide_eq_true_iff

section
variable (ta na la pa : Option Addr) (tc nc lc pc : Nat) (ts : List (ByteArray × Int)) (ns : List ByteArray) (lv : List Int) (n : Nat) (L : Nat → Int) (R : Nat → List Int) (ra : Nat → Option Addr) (rc : Nat → Nat) (V : Nat → Int) (st : Int) (w : World) (tn nn ln : Nat) (hlen : ts.length = tn ∧ ns.length = nn ∧ lv.length = ln) (hG : GAt w ta na la pa tc nc lc pc ts ns lv n L R ra rc V)
include hlen hG
theorem uofBad1 (hc : ¬ closedOK ts ns lv st n L R V) : Calls Tryz.prog 30 #[.agg #[.slice ta tn tc, .slice na nn nc, .slice la ln lc, .int .i64 st, .slice pa n pc]] w fun e y => e = .returned (.tuple #[.agg #[.slice none 0 0, .slice none 0 0, .slice none 0 0, .int .i64 0, .slice none 0 0, .slice none 0 0, .slice none 0 0, .slice none 0 0, .slice none 0 0, .slice none 0 0], .int .i64 1]) ∧ w.grownBy y none :=
  uof_bad ta na la pa tc nc lc pc n st w tn nn ln 1 (.inl rfl) fun Y hY => buildBad ta na la pa tc nc lc pc ts ns lv n L R ra rc V st Y tn nn ln hlen (hG.kept hY) hc
theorem uofBad11 (hc : closedOK ts ns lv st n L R V) (h : autoF (GG tn n L R) (tn + nn) 256 = none) : Calls Tryz.prog 30 #[.agg #[.slice ta tn tc, .slice na nn nc, .slice la ln lc, .int .i64 st, .slice pa n pc]] w fun e y => e = .returned (.tuple #[.agg #[.slice none 0 0, .slice none 0 0, .slice none 0 0, .int .i64 0, .slice none 0 0, .slice none 0 0, .slice none 0 0, .slice none 0 0, .slice none 0 0, .slice none 0 0], .int .i64 11]) ∧ w.grownBy y none :=
  uof_bad ta na la pa tc nc lc pc n st w tn nn ln 11 (.inr rfl) fun Y hY => build_none ta na la pa tc nc lc pc ts ns lv n L R ra rc V st w tn nn ln hlen hG hc h Y hY
theorem uofOk (hc : closedOK ts ns lv st n L R V) {ks : List (List It)} {es : List (List (Nat × Nat))} (h : autoF (GG tn n L R) (tn + nn) 256 = some (ks, es)) : (Calls Tryz.prog 30 #[.agg #[.slice ta tn tc, .slice na nn nc, .slice la ln lc, .int .i64 st, .slice pa n pc]] w fun e y => UofTold ta na la pa tc nc lc pc n st tn nn ln ks es (trT tn es ks.length) (nulB tn n L R) w e y) ∧ EsOK ks es ∧ (trT tn es ks.length).Nodup ∧ (trT tn es ks.length).length ≤ 40000 := by
  have hM : MayOK tn nn n st L R true := by obtain ⟨rfl, rfl, rfl⟩ := hlen; exact mayOK_closed hc
  obtain ⟨hO, hE⟩ := ofOk ta na la pa tc nc lc pc ts ns lv n L R ra rc V st w tn nn ln hlen hG hc h
  have hA := autF hM.p0 h
  have htl : (trT tn es ks.length).length ≤ 40000 := by
    have h1 := trT_len (tn := tn) (c := 130) ks.length (fun q hq => (hE.each q hq).1)
    have h2 : ks.length * 130 ≤ 256 * 130 := Nat.mul_le_mul_right _ hE.le
    omega
  have htnd : (trT tn es ks.length).Nodup := trT_nodup ks.length fun q hq => (hE.each q hq).2.1
  refine ⟨uof_ok ta na la pa tc nc lc pc n st w tn nn ln (askN es) ks es (trT tn es ks.length) (nulB tn n L R) hM.tmax hM.nmax hE.le (fun q hq => ⟨(hE.each q hq).1, (hE.each q hq).2.1, fun x hx => by have h1 := hA.snd q hq x hx; have := hE.le; omega⟩) htl htnd (fun x hx => ?_) (fun X hX => ?_) (fun X hX => ?_) (fun X hX => ?_), hE, htnd, htl⟩
  · obtain ⟨q, hq, e, he, h1, rfl⟩ := trT_mem hx
    exact ⟨q, e.1, rfl, hq, (hA.snd q hq e he).1⟩
  · refine (build_some ta na la pa tc nc lc pc ts ns lv n L R ra rc V st w tn nn ln hlen hG hc h X hX).mono ?_
    rintro e y ⟨sa, sc, kv, ev, he, hAP, hg⟩
    exact ⟨sa, sc, kv, ev, he, hAP.base hX.size, hg⟩
  · exact listX_ok ta na la pa tc nc lc pc n st X tn nn ln ks es hE.le (fun q hq => (hE.each q hq).1) fun Y hY => hO Y (grown_trans hX hY)
  · exact nullable_ok ta na la pa tc nc lc pc ts ns lv n L R ra rc V st X tn nn ln hlen (hG.kept hX) (.inr hc) (cl := true) ⟨hM.t0, hM.tmax, hM.n0, hM.nmax, hM.pmax, hM.p0, hM.left, hM.right, hM.start, hM.added⟩ (nulB tn n L R) (fun i => nulB_iff tn n L R i)
end

end Go.Proofs.YthoamlahbnphkaaGreat.J

/-
  relate: reads, walked.
-/
namespace Go.Proofs.YthoamlahbnphkaaGreat.J
open Go.RowKit Go.Maps Go.Shelf

attribute [local go_sem] Oper.semAt_some

theorem getD_in {α : Type} {l : List α} {i : Nat} {d : α} (h : i < l.length) : l.getD i d ∈ l := by
  rw [List.getD_eq_getElem?_getD, List.getElem?_eq_getElem h]; exact List.getElem_mem h
/-- What always holds of what automatonOf tells. -/
structure RlOK (N T S tn nn : Nat) (ks : List (List It)) (es : List (List (Nat × Nat))) (tl : List It) : Prop where
  hN : N = ks.length
  hT : T = tl.length
  hS : S = tn + nn
  htn : tn ≤ 65
  hnn : nn ≤ 65
  n256 : N ≤ 256
  eok : EsOK ks es
  sym : ∀ q, q < N → ∀ x ∈ es.getD q [], x.1 < S
  t40 : T ≤ 40000
  tb : ∀ x ∈ tl, ∃ q s : Nat, x = ((q : Int), (s : Int)) ∧ q < N ∧ s < S
section
variable {N T S tn nn : Nat} {ks : List (List It)} {es : List (List (Nat × Nat))} {tl : List It}
theorem RlOK.at (h : RlOK N T S tn nn ks es tl) {j : Nat} (hj : j < T) : ∃ q s : Nat, tl.getD j (0, 0) = ((q : Int), (s : Int)) ∧ q < N ∧ s < S := by
  have hl : j < tl.length := by rw [← h.hT]; exact hj
  obtain ⟨q, s, e, h1⟩ := h.tb (tl.getD j (0, 0)) (by rw [List.getD_eq_getElem?_getD, List.getElem?_eq_getElem hl]; exact List.getElem_mem hl)
  exact ⟨q, s, e, h1⟩
theorem RlOK.ld (h : RlOK N T S tn nn ks es tl) {q : Nat} (hq : q < N) (s : Nat) : ∃ t : Nat, ldF (es.getD q []) s = (t : Int) ∧ t < N := by
  have h1 := ldF_range (l := es.getD q []) (N := N) (by omega) (fun x hx => by rw [h.hN]; exact ((h.eok.each q (by rw [← h.hN]; exact hq)).2.2 x hx).2) s
  exact ⟨(ldF (es.getD q []) s).toNat, by omega, by omega⟩
end
section
variable {B : Nat} {X : World} {nb nn S N T tn : Nat} {sa xa l1 m1 : Option Addr} {sc xc lc1 mc1 : Nat} {ks : List (List It)} {es : List (List (Nat × Nat))} {kv ev : Nat → Value} {tl : List It} {F : Nat → Bool} {lb mb : Nat → Nat}
theorem RaAt.tr (h : RaAt B X nb nn S (.slice sa N sc) (.slice xa T xc) (.slice l1 N lc1) (.slice m1 N mc1) ks es kv ev tl F lb mb) (hK : RlOK N T S tn nn ks es tl) {j q s : Nat} (hj : j < T) (e : tl.getD j (0, 0) = ((q : Int), (s : Int))) : ∃ xg, xa = some ⟨xg, 0, none⟩ ∧ X.cell? ⟨xg, j * 2, none⟩ = some (.int .i64 (q : Int)) ∧ X.cell? ⟨xg, j * 2 + 1, none⟩ = some (.int .i64 (s : Int)) := by
  have hl : j < tl.length := by rw [← hK.hT]; exact hj
  obtain ⟨g, c, e1, h1⟩ := owns_at h.trs (by omega)
  simp only [Value.slice.injEq] at e1
  obtain ⟨h2, h3⟩ := itsV_at tl j hl
  rw [e] at h2 h3
  exact ⟨g, e1.1, h1 _ _ h2, h1 _ _ h3⟩
theorem RaAt.ldc (h : RaAt B X nb nn S (.slice sa N sc) (.slice xa T xc) (.slice l1 N lc1) (.slice m1 N mc1) ks es kv ev tl F lb mb) (hK : RlOK N T S tn nn ks es tl) {q s : Nat} (hq : q < N) (hs : s < S) : ∃ g, l1 = some ⟨g, 0, none⟩ ∧ X.cell? ⟨g, q, none⟩ = some (.slice (some ⟨lb q, 0, none⟩) S S) ∧ X.cell? ⟨lb q, s, none⟩ = some (.int .i64 (ldF (es.getD q []) s)) := by
  obtain ⟨g, c, e, h1, h2⟩ := h.l.at (q := q) (by rw [← hK.hN]; exact hq)
  simp only [Value.slice.injEq] at e
  exact ⟨g, e.1, h1, h2 s hs⟩
theorem RaAt.nmc (h : RaAt B X nb nn S (.slice sa N sc) (.slice xa T xc) (.slice l1 N lc1) (.slice m1 N mc1) ks es kv ev tl F lb mb) (hK : RlOK N T S tn nn ks es tl) {q s : Nat} (hq : q < N) (hs : s < S) : ∃ g, m1 = some ⟨g, 0, none⟩ ∧ X.cell? ⟨g, q, none⟩ = some (.slice (some ⟨mb q, 0, none⟩) S S) ∧ X.cell? ⟨mb q, s, none⟩ = some (.int .i64 (nmF tl q s)) := by
  obtain ⟨g, c, e, h1, h2⟩ := h.m.at (q := q) (by rw [← hK.hN]; exact hq)
  simp only [Value.slice.injEq] at e
  exact ⟨g, e.1, h1, h2 s hs⟩
theorem RaAt.edc (h : RaAt B X nb nn S (.slice sa N sc) (.slice xa T xc) (.slice l1 N lc1) (.slice m1 N mc1) ks es kv ev tl F lb mb) (hK : RlOK N T S tn nn ks es tl) {b : Nat} (hb : b < N) : ∃ sg ea ec, sa = some ⟨sg, 0, none⟩ ∧ ev b = .slice ea (es.getD b []).length ec ∧ X.cell? ⟨sg, b * 2 + 1, none⟩ = some (.slice ea (es.getD b []).length ec) ∧ ∀ i s t, i < (es.getD b []).length → (es.getD b []).getD i (0, 0) = (s, t) → ∃ eb eo, ea = some ⟨eb, eo, none⟩ ∧ X.cell? ⟨eb, eo + i * 2, none⟩ = some (.int .i64 (s : Int)) ∧ X.cell? ⟨eb, eo + i * 2 + 1, none⟩ = some (.int .i64 (t : Int)) := by
  have hb' : b < ks.length := by rw [← hK.hN]; exact hb
  obtain ⟨g, c, e, _, h2⟩ := h.aut.st hb'
  obtain ⟨a, c', e', h3⟩ := h.aut.edgAt hb'
  simp only [Value.slice.injEq] at e
  rw [elF_len] at e'
  rw [e'] at h2
  refine ⟨g, a, c', e.1, e', h2, fun i s t hi he => ?_⟩
  obtain ⟨h4, h5⟩ := elF_at (es := es) (q := b) hi
  rcases h3 with h3 | ⟨eb, eo, h6, h7⟩
  · rw [h3] at h4; simp only [List.length_nil] at h4; omega
  · obtain ⟨h8, h9⟩ := h7 i (by rw [h4]; exact hi)
    rw [h5, he] at h8 h9
    exact ⟨eb, eo, h6, h8, h9⟩
theorem RaAt.edx (h : RaAt B X nb nn S (.slice sa N sc) (.slice xa T xc) (.slice l1 N lc1) (.slice m1 N mc1) ks es kv ev tl F lb mb) (hK : RlOK N T S tn nn ks es tl) {b m : Nat} (hb : b < N) {ea : Option Addr} {ec : Nat} (hev : ev b = .slice ea m ec) : ∀ i s t, i < (es.getD b []).length → (es.getD b []).getD i (0, 0) = (s, t) → ∃ eb eo, ea = some ⟨eb, eo, none⟩ ∧ X.cell? ⟨eb, eo + i * 2, none⟩ = some (.int .i64 (s : Int)) ∧ X.cell? ⟨eb, eo + i * 2 + 1, none⟩ = some (.int .i64 (t : Int)) := by
  obtain ⟨_, ea', ec', _, h2, _, h4⟩ := h.edc hK hb
  rw [hev] at h2
  simp only [Value.slice.injEq] at h2
  rw [h2.1]
  exact h4
end
theorem av_cells {X : World} {ab : Nat} {v0 v1 v2 v3 v4 v5 v6 v7 v8 v9 : Value} {t : TypeId} (h : X.heap[ab]? = some (.cells #[v0, v1, v2, v3, v4, v5, v6, v7, v8, v9] t (0, 0))) : X.cell? ⟨ab, 0, none⟩ = some v0 ∧ X.cell? ⟨ab, 1, none⟩ = some v1 ∧ X.cell? ⟨ab, 2, none⟩ = some v2 ∧ X.cell? ⟨ab, 3, none⟩ = some v3 ∧ X.cell? ⟨ab, 4, none⟩ = some v4 ∧ X.cell? ⟨ab, 5, none⟩ = some v5 ∧ X.cell? ⟨ab, 6, none⟩ = some v6 ∧ X.cell? ⟨ab, 7, none⟩ = some v7 ∧ X.cell? ⟨ab, 8, none⟩ = some v8 ∧ X.cell? ⟨ab, 9, none⟩ = some v9 := by
  refine ⟨?_, ?_, ?_, ?_, ?_, ?_, ?_, ?_, ?_, ?_⟩ <;> rw [cell_of_row _ _ _ _ _ _ h] <;> rfl
theorem KeepH.at {X Y : World} {b : Nat} {cs : Array Value} {t : TypeId} (h : KeepH X Y) (hb : X.heap[b]? = some (.cells cs t (0, 0))) (h1 : t ≠ 3) (h2 : t ≠ 24) : Y.heap[b]? = some (.cells cs t (0, 0)) := h.2 b cs t hb h1 h2

section
variable (ta na la pa sa xa l1 m1 : Option Addr) (tc nc lc pc sc xc lc1 mc1 : Nat) (n N T nb : Nat) (st : Int) (w : World) (tn nn ln : Nat)

set_option maxRecDepth 100000 in
set_option maxHeartbeats 4000000 in
theorem uread_any (P : World) (B S bx kb : Nat) (ks : List (List It)) (es : List (List (Nat × Nat))) (kv ev : Nat → Value) (tl : List It) (F : Nat → Bool) (lb mb : Nat → Nat) (hK : RlOK N T S tn nn ks es tl)
    (hR : RaAt B P nb nn S (.slice sa N sc) (.slice xa T xc) (.slice l1 N lc1) (.slice m1 N mc1) ks es kv ev tl F lb mb)
    (Q : Nat → List Int) (hQ : ∀ f, (Q f).length ≤ 100) (hL : ∃ ua uc, LqP P w bx kb T Q ua uc) :
    Calls Tryz.prog 32 #[.agg #[.slice ta tn tc, .slice na nn nc, .slice la ln lc, .int .i64 st, .slice pa n pc, .slice (some ⟨nb, 0, none⟩) nn nn, .slice sa N sc, .slice xa T xc, .slice l1 N lc1, .slice m1 N mc1], .func (.func 57) #[] #[.pointer (some ⟨bx, 0, none⟩)]] w fun e y => e = .returned (.tuple #[]) ∧ ∃ ua uc, LqP P y bx kb T (foldQ Q (rdT es tl tn F T)) ua uc := by
  have HR : Hid (∀ X, P.grownBy X none → RaAt B X nb nn S (.slice sa N sc) (.slice xa T xc) (.slice l1 N lc1) (.slice m1 N mc1) ks es kv ev tl F lb mb) := fun X hX => hR.kept hX
  have HK := show Hid _ from hK
  have HLN : Hid (∀ f l, l.length ≤ T * 130 + 130 → (foldQ Q l f).length ≤ 10000000) := fun f l h => by
    have h1 := foldQ_len Q f l
    have h2 := hQ f
    have h3 : T * 130 ≤ 40000 * 130 := Nat.mul_le_mul_right _ hK.t40
    omega
  have HX0 : Hid ((w.alloc (.cells #[.slice ta tn tc, .slice na nn nc, .slice la ln lc, .int .i64 st, .slice pa n pc, .slice (some ⟨nb, 0, none⟩) nn nn, .slice sa N sc, .slice xa T xc, .slice l1 N lc1, .slice m1 N mc1] 81)).heap[w.heap.size]? = some (.cells #[.slice ta tn tc, .slice na nn nc, .slice la ln lc, .int .i64 st, .slice pa n pc, .slice (some ⟨nb, 0, none⟩) nn nn, .slice sa N sc, .slice xa T xc, .slice l1 N lc1, .slice m1 N mc1] 81 (0, 0))) := heap_alloc_last w _
  have HL0 : Hid (∃ ua uc, LqP P (w.alloc (.cells #[.slice ta tn tc, .slice na nn nc, .slice la ln lc, .int .i64 st, .slice pa n pc, .slice (some ⟨nb, 0, none⟩) nn nn, .slice sa N sc, .slice xa T xc, .slice l1 N lc1, .slice m1 N mc1] 81)) bx kb T Q ua uc) := by
    obtain ⟨ua, uc, h⟩ := hL
    exact ⟨ua, uc, h.kept (World.grownBy_alloc _ _ none)⟩
  have c7 : (w.alloc (.cells #[.slice ta tn tc, .slice na nn nc, .slice la ln lc, .int .i64 st, .slice pa n pc, .slice (some ⟨nb, 0, none⟩) nn nn, .slice sa N sc, .slice xa T xc, .slice l1 N lc1, .slice m1 N mc1] 81)).cell? ⟨w.heap.size, 7, none⟩ = some (.slice xa T xc) := by rw [cell_of_row _ _ _ _ _ _ HX0.out]; rfl
  have ht40 := hK.t40
  have hnn := hK.hnn
  clear hR hK hQ hL
  go_enter Tryz.func32, Tryz.ntmps32
  go_wp2_with fail
  clear c7
  generalize w.alloc (.cells #[.slice ta tn tc, .slice na nn nc, .slice la ln lc, .int .i64 st, .slice pa n pc, .slice (some ⟨nb, 0, none⟩) nn nn, .slice sa N sc, .slice xa T xc, .slice l1 N lc1, .slice m1 N mc1] 81) = W0 at HX0 HL0 ⊢
  obtain ⟨ab, hab⟩ : ∃ b, b = w.heap.size := ⟨_, rfl⟩
  rw [← hab] at HX0 ⊢
  obtain ⟨cs, hcs⟩ : ∃ cs : Array Value, cs = #[.slice ta tn tc, .slice na nn nc, .slice la ln lc, .int .i64 st, .slice pa n pc, .slice (some ⟨nb, 0, none⟩) nn nn, .slice sa N sc, .slice xa T xc, .slice l1 N lc1, .slice m1 N mc1] := ⟨_, rfl⟩
  have HCS := show Hid _ from hcs
  rw [← hcs] at HX0
  clear hab hcs
  go_loopg [12] T (fun gk v12 wr => ∃ (j : Nat), j ≤ T ∧ gk = T - j ∧ v12 = .int .i64 j ∧ wr.heap[ab]? = some (.cells cs 81 (0, 0)) ∧ ∃ ua uc, LqP P wr bx kb T (foldQ Q (rdT es tl tn F j)) ua uc)
  case atStart => exact ⟨0, Nat.zero_le _, rfl, rfl, HX0.out, HL0.out⟩
  case round =>
    obtain ⟨j, hj, hgj, rfl, hb, hl⟩ := hrel
    have HGJ : Hid (gk = T - j) := hgj
    have HB : Hid (wr.heap[ab]? = some (.cells cs 81 (0, 0))) := hb
    have HL : Hid (∃ ua uc, LqP P wr bx kb T (foldQ Q (rdT es tl tn F j)) ua uc) := hl
    clear hgj hb hl HX0 HL0
    generalize wr = Y at *
    by_cases hlt : j < T
    · have hjd : decide (j < T) = true := decide_eq_true hlt
      have hj0 : (0 : Int) ≤ (j : Int) := by omega
      have hj1 : (j : Int) < (T : Int) := by omega
      have HPY : Hid (P.grownBy Y none) := by obtain ⟨_, _, h⟩ := HL.out; exact h.grown
      obtain ⟨q, s, hqs, hqN, hsS⟩ := HK.out.at hlt
      obtain ⟨xg, rfl, x0, x1⟩ := (HR.out Y HPY.out).tr HK.out hlt hqs
      obtain ⟨b, hb, hbN⟩ := HK.out.ld hqN s
      have HBH : Hid (bhF es (tl.getD j (0, 0)) = b) := by
        show _ = _
        rw [hqs]
        unfold bhF
        simp only [Int.toNat_natCast]
        rw [hb, Int.toNat_natCast]
      obtain ⟨lg, rfl, d0, d1⟩ := (HR.out Y HPY.out).ldc HK.out hqN hsS
      rw [hb] at d1
      obtain ⟨sg, ea, ec, rfl, hev, s0, _⟩ := (HR.out Y HPY.out).edc HK.out hbN
      have hba := HB.out
      rw [HCS.out] at hba
      obtain ⟨a0, a1, a2, a3, a4, a5, a6, a7, a8, a9⟩ := av_cells hba
      obtain ⟨Z, hZ⟩ : ∃ Z, Z = Y.alloc (.cells #[.int .i64 (q : Int), .int .i64 (s : Int)] 53) := ⟨_, rfl⟩
      have hgZ : Y.grownBy Z none := by rw [hZ]; exact World.grownBy_alloc _ _ none
      have hhZ : Z.heap[Y.heap.size]? = some (.cells #[.int .i64 (q : Int), .int .i64 (s : Int)] 53 (0, 0)) := by rw [hZ]; exact heap_alloc_last Y _
      have hk1 := hgZ.cell a8 (by simp)
      have hk2 : Z.cell? ⟨Y.heap.size, 0, none⟩ = some (.int .i64 (q : Int)) := by rw [cell_of_row _ _ _ _ _ _ hhZ]; rfl
      have hk3 : Z.cell? ⟨Y.heap.size, 1, none⟩ = some (.int .i64 (s : Int)) := by rw [cell_of_row _ _ _ _ _ _ hhZ]; rfl
      have hk4 := hgZ.cell d0 (by simp)
      have hk5 := hgZ.cell d1 (by simp)
      have b6 := hgZ.cell a6 (by simp)
      have b7 := hgZ.cell s0 (by simp)
      obtain ⟨m, hm⟩ : ∃ m, m = (es.getD b []).length := ⟨_, rfl⟩
      have HM := show Hid _ from hm
      have hm130 : m ≤ 130 := by rw [hm]; exact HK.out.eok.short b
      rw [← hm] at b7 s0 hev
      have HEV := show Hid _ from hev
      have HBZ : Hid (Z.heap[ab]? = some (.cells cs 81 (0, 0))) := box_kept HB.out hgZ
      have HGZ : Hid (Y.grownBy Z none) := hgZ
      have HLZ : Hid (∃ ua uc, LqP P Z bx kb T (foldQ Q (rdT es tl tn F j)) ua uc) := by
        obtain ⟨ua, uc, h⟩ := HL.out
        exact ⟨ua, uc, h.kept hgZ⟩
      have HKS : Hid (Z.cell? ⟨ab, 8, none⟩ = some (.slice (some ⟨lg, 0, none⟩) N lc1) ∧ Z.cell? ⟨Y.heap.size, 0, none⟩ = some (.int .i64 (q : Int)) ∧ Z.cell? ⟨Y.heap.size, 1, none⟩ = some (.int .i64 (s : Int)) ∧ Z.cell? ⟨lg, q, none⟩ = some (.slice (some ⟨lb q, 0, none⟩) S S) ∧ Z.cell? ⟨lb q, s, none⟩ = some (.int .i64 (b : Int))) := ⟨hk1, hk2, hk3, hk4, hk5⟩
      have hs0 : (0 : Int) ≤ (s : Int) := by omega
      have hs1 : (s : Int) < (S : Int) := by omega
      have hq0 : (0 : Int) ≤ (q : Int) := by omega
      have hq1 : (q : Int) < (N : Int) := by omega
      have hb0 : (0 : Int) ≤ (b : Int) := by omega
      have hb1 : (b : Int) < (N : Int) := by omega
      have HQS := show Hid _ from hqs
      have HZE := show Hid _ from hZ
      rw [hZ] at HKS b6 b7
      clear hqs hb hm hba hZ hgZ hhZ hk1 hk2 hk3 hk4 hk5 a0 a1 a2 a3 a4 a5 a6 a8 a9 d0 d1 s0 hev
      go_wp2_with fail
      go_region_held3 (fun x => x.cell? ⟨ab, 8, none⟩ = some (.slice (some ⟨lg, 0, none⟩) N lc1) ∧ x.cell? ⟨Y.heap.size, 0, none⟩ = some (.int .i64 (q : Int)) ∧ x.cell? ⟨Y.heap.size, 1, none⟩ = some (.int .i64 (s : Int)) ∧ x.cell? ⟨lg, q, none⟩ = some (.slice (some ⟨lb q, 0, none⟩) S S) ∧ x.cell? ⟨lb q, s, none⟩ = some (.int .i64 (b : Int))) (first | exact HKS.out | go_keep) (fail)
      all_goals go_wp2_with fail
      go_loopg [34] m (fun gk v34 wr => ∃ (i : Nat), i ≤ m ∧ gk = m - i ∧ v34 = .int .i64 i ∧ wr.heap[ab]? = some (.cells cs 81 (0, 0)) ∧ ∃ ua uc, LqP P wr bx kb T (foldQ Q (rdT es tl tn F j ++ rdE tl tn F j b ((es.getD b []).take i))) ua uc)
      case atStart =>
        rw [← HZE.out]
        refine ⟨0, Nat.zero_le _, rfl, rfl, box_kept HBZ.out (grown_drewN _ _), ?_⟩
        obtain ⟨ua, uc, h⟩ := HLZ.out
        rw [List.take_zero, show rdE tl tn F j b [] = [] from rfl, List.append_nil]
        exact ⟨ua, uc, h.kept (grown_drewN _ _)⟩
      case round =>
        obtain ⟨i, hi, hgi, rfl, hb2, hl2⟩ := hrel
        have HGI : Hid (gk = m - i) := hgi
        have HB2 : Hid (wr.heap[ab]? = some (.cells cs 81 (0, 0))) := hb2
        have HL2 : Hid (∃ ua uc, LqP P wr bx kb T (foldQ Q (rdT es tl tn F j ++ rdE tl tn F j b ((es.getD b []).take i))) ua uc) := hl2
        clear hgi hb2 hl2 HBZ HLZ HKS b6 b7 x0 x1 HB HL HPY HGZ HZE
        generalize wr = X at *
        by_cases hlt2 : i < m
        · have hid : decide (i < m) = true := decide_eq_true hlt2
          have hi0 : (0 : Int) ≤ (i : Int) := by omega
          have hi1 : (i : Int) < (m : Int) := by omega
          have HPX : Hid (P.grownBy X none) := by obtain ⟨_, _, h⟩ := HL2.out; exact h.grown
          have hil : i < (es.getD b []).length := by rw [← HM.out]; exact hlt2
          obtain ⟨s2, t2, hst⟩ : ∃ s2 t2 : Nat, (es.getD b []).getD i (0, 0) = (s2, t2) := ⟨_, _, rfl⟩
          have hs2S : s2 < S := HK.out.sym b hbN (s2, t2) (by rw [← hst]; exact getD_in hil)
          obtain ⟨eb, eo, rfl, e0, e1⟩ := (HR.out X HPX.out).edx HK.out hbN HEV.out i s2 t2 hil hst
          have hba := HB2.out
          rw [HCS.out] at hba
          obtain ⟨V, hV⟩ : ∃ V, V = X.alloc (.cells #[.int .i64 (s2 : Int), .int .i64 (t2 : Int)] 115) := ⟨_, rfl⟩
          have hgV : X.grownBy V none := by rw [hV]; exact World.grownBy_alloc _ _ none
          have hhV : V.heap[X.heap.size]? = some (.cells #[.int .i64 (s2 : Int), .int .i64 (t2 : Int)] 115 (0, 0)) := by rw [hV]; exact heap_alloc_last X _
          obtain ⟨a0, a1, a2, a3, a4, a5, a6, a7, a8, a9⟩ := av_cells (box_kept hba hgV)
          have k0 : V.cell? ⟨X.heap.size, 0, none⟩ = some (.int .i64 (s2 : Int)) := by rw [cell_of_row _ _ _ _ _ _ hhV]; rfl
          have HBV : Hid (V.heap[ab]? = some (.cells cs 81 (0, 0))) := box_kept HB2.out hgV
          have HEB : Hid (V.heap[X.heap.size]? = some (.cells #[.int .i64 (s2 : Int), .int .i64 (t2 : Int)] 115 (0, 0))) := hhV
          have HLV : Hid (∃ ua uc, LqP P V bx kb T (foldQ Q (rdT es tl tn F j ++ rdE tl tn F j b ((es.getD b []).take i))) ua uc) := by
            obtain ⟨ua, uc, h⟩ := HL2.out
            exact ⟨ua, uc, h.kept hgV⟩
          have HNV : Hid (ValAt V nb nn 4 (fun i => .bool (F i))) := (HR.out V (grown_trans HPX.out hgV)).nul
          have HPV : Hid (P.grownBy V none) := grown_trans HPX.out hgV
          have HVE := show Hid _ from hV
          have HTK : Hid ((es.getD b []).take (i + 1) = (es.getD b []).take i ++ [(s2, t2)]) := take_snocE hil hst
          have HS2 : Hid (s2 < tn + nn) := by show _ < _; rw [← HK.out.hS]; exact hs2S
          obtain ⟨bb, hbb⟩ : ∃ bb, bb = (decide (tn ≤ s2) && F (s2 - tn)) := ⟨_, rfl⟩
          have HBB := show Hid _ from hbb
          have hs20 : (0 : Int) ≤ (s2 : Int) := by omega
          have hs21 : (s2 : Int) < (S : Int) := by omega
          rw [hV] at a0 a1 a2 a3 a4 a5 a6 a7 a8 a9 k0
          clear hil hst hba hV hgV hhV hbb HB2 HL2
          go_wp2_with fail
          rw [← HVE.out]
          refine Calls.mono (uvan_any _ _ _ _ _ _ _ _ _ _ _ _ _ _ _ _ _ _ _ _ _ _ _ _ _ F HNV.out hnn s2 HS2.out bb HBB.out) ?_
          rintro e w3 ⟨rfl, hg3⟩
          have HB3 : Hid (w3.heap[ab]? = some (.cells cs 81 (0, 0))) := box_kept HBV.out hg3
          have HE3 : Hid (w3.heap[X.heap.size]? = some (.cells #[.int .i64 (s2 : Int), .int .i64 (t2 : Int)] 115 (0, 0))) := box_kept HEB.out hg3
          have HL3 : Hid (∃ ua uc, LqP P w3 bx kb T (foldQ Q (rdT es tl tn F j ++ rdE tl tn F j b ((es.getD b []).take i))) ua uc) := by
            obtain ⟨ua, uc, h⟩ := HLV.out
            exact ⟨ua, uc, h.kept hg3⟩
          have HP3 : Hid (P.grownBy w3 none) := grown_trans HPV.out hg3
          clear hg3 a0 a1 a2 a3 a4 a5 a6 a7 a8 a9 k0 HBV HEB HLV HNV HPV HVE e0 e1
          have hiw : IntKind.i64.wrap ((i : Int) + 1) = (i : Int) + 1 := by rw [IntKind.wrap_i64]; omega
          cases bb with
          | false =>
            have HFN : Hid (foldQ Q (rdT es tl tn F j ++ rdE tl tn F j b ((es.getD b []).take i)) = foldQ Q (rdT es tl tn F j ++ rdE tl tn F j b ((es.getD b []).take (i + 1)))) := by
              show _ = _
              rw [HTK.out, rdE_snoc, if_neg (by rw [← HBB.out]; decide), List.append_nil]
            go_wp2_with fail
            go_roundg (m - (i + 1))
            all_goals first
              | exact (show ∃ (i' : Nat), _ from ⟨i + 1, by omega, rfl, by go_num, HB3.out, by rw [← HFN.out]; exact HL3.out⟩)
              | (have := HGI.out; omega)
          | true =>
            obtain ⟨x, hx⟩ : ∃ x, x = nmF tl b s2 := ⟨_, rfl⟩
            have HFN : Hid (updL (foldQ Q (rdT es tl tn F j ++ rdE tl tn F j b ((es.getD b []).take i))) j (addL (foldQ Q (rdT es tl tn F j ++ rdE tl tn F j b ((es.getD b []).take i)) j) x) = foldQ Q (rdT es tl tn F j ++ rdE tl tn F j b ((es.getD b []).take (i + 1)))) := by
              show _ = _
              rw [HTK.out, rdE_snoc, if_pos HBB.out.symm, ← List.append_assoc, foldQ_snoc, ← hx]
            have HLE : Hid ((foldQ Q (rdT es tl tn F j ++ rdE tl tn F j b ((es.getD b []).take i)) j).length ≤ 10000000) := by
              refine HLN.out _ _ ?_
              have h1 := rdT_len (tl := tl) (tn := tn) (F := F) HK.out.eok.short j
              have h2 := rdE_len tl tn F j b ((es.getD b []).take i)
              have h3 : j * 130 ≤ T * 130 := Nat.mul_le_mul_right _ (by omega)
              rw [List.length_take] at h2
              rw [List.length_append]
              have h4 := HM.out
              omega
            obtain ⟨mg, rfl, n0, n1⟩ := (HR.out w3 HP3.out).nmc HK.out hbN hs2S
            rw [← hx] at n1
            have HNM : Hid (∀ Z, P.grownBy Z none → Z.cell? ⟨mg, b, none⟩ = some (.slice (some ⟨mb b, 0, none⟩) S S) ∧ Z.cell? ⟨mb b, s2, none⟩ = some (.int .i64 x)) := fun Z hZ => by
              obtain ⟨mg', h1, h2, h3⟩ := (HR.out Z hZ).nmc HK.out hbN hs2S
              simp only [Option.some.injEq, Addr.mk.injEq, and_true] at h1
              rw [h1, hx]
              exact ⟨h2, h3⟩
            have HCL : Hid (∀ Z : World, Z.heap[ab]? = some (.cells cs 81 (0, 0)) → Z.cell? ⟨ab, 9, none⟩ = some (.slice (some ⟨mg, 0, none⟩) N mc1)) := fun Z hZ => by
              rw [HCS.out] at hZ
              exact (av_cells hZ).2.2.2.2.2.2.2.2.2
            have HEC : Hid (∀ Z : World, Z.heap[X.heap.size]? = some (.cells #[.int .i64 (s2 : Int), .int .i64 (t2 : Int)] 115 (0, 0)) → Z.cell? ⟨X.heap.size, 0, none⟩ = some (.int .i64 (s2 : Int))) := fun Z hZ => by
              rw [cell_of_row _ _ _ _ _ _ hZ]; rfl
            have HKS : Hid (w3.cell? ⟨ab, 9, none⟩ = some (.slice (some ⟨mg, 0, none⟩) N mc1) ∧ w3.cell? ⟨X.heap.size, 0, none⟩ = some (.int .i64 (s2 : Int)) ∧ w3.cell? ⟨mg, b, none⟩ = some (.slice (some ⟨mb b, 0, none⟩) S S) ∧ w3.cell? ⟨mb b, s2, none⟩ = some (.int .i64 x)) := ⟨HCL.out _ HB3.out, HEC.out _ HE3.out, n0, n1⟩
            have HHA : Hid (Calls Tryz.prog 57 #[.int .i64 (j : Int), .int .i64 x, .pointer (some ⟨bx, 0, none⟩)] w3.drew fun e y => HandTold P bx kb T (foldQ Q (rdT es tl tn F j ++ rdE tl tn F j b ((es.getD b []).take i))) j x w3.drew e y) := by
              obtain ⟨ua, uc, h⟩ := HL3.out
              exact hand_any P w3.drew bx kb T _ ua uc (h.kept (grown_drewN w3 1)) j x hlt HLE.out
            have HB3' : Hid (w3.drew.heap[ab]? = some (.cells cs 81 (0, 0))) := box_kept HB3.out (grown_drewN w3 1)
            have HE3' : Hid (w3.drew.heap[X.heap.size]? = some (.cells #[.int .i64 (s2 : Int), .int .i64 (t2 : Int)] 115 (0, 0))) := box_kept HE3.out (grown_drewN w3 1)
            clear hx n0 n1
            go_wp2_with fail
            go_region_held3 (fun x' => x'.cell? ⟨ab, 9, none⟩ = some (.slice (some ⟨mg, 0, none⟩) N mc1) ∧ x'.cell? ⟨X.heap.size, 0, none⟩ = some (.int .i64 (s2 : Int)) ∧ x'.cell? ⟨mg, b, none⟩ = some (.slice (some ⟨mb b, 0, none⟩) S S) ∧ x'.cell? ⟨mb b, s2, none⟩ = some (.int .i64 x)) (first | exact HKS.out | exact HKT.out | go_keep)
              ((first
                | (go_at_call 57; refine calls_at w3.drew (by with_reducible rfl) ?_; refine Calls.mono HHA.out ?_; rintro e w4 ⟨rfl, hk4, hl4⟩; have HB4 : Hid (w4.heap[ab]? = some (.cells cs 81 (0, 0))) := hk4.at HB3'.out (by decide) (by decide); have HL4 := show Hid _ from hl4; have HP4 : Hid (P.grownBy w4 none) := (by obtain ⟨_, _, h⟩ := hl4; exact h.grown); have HKT : Hid (w4.cell? ⟨ab, 9, none⟩ = some (.slice (some ⟨mg, 0, none⟩) N mc1) ∧ w4.cell? ⟨X.heap.size, 0, none⟩ = some (.int .i64 (s2 : Int)) ∧ w4.cell? ⟨mg, b, none⟩ = some (.slice (some ⟨mb b, 0, none⟩) S S) ∧ w4.cell? ⟨mb b, s2, none⟩ = some (.int .i64 x)) := ⟨HCL.out _ HB4.out, HEC.out _ (hk4.at HE3'.out (by decide) (by decide)), HNM.out _ HP4.out⟩; clear hk4 hl4)
                | fail))
            all_goals go_wp2_with fail
            all_goals go_roundg (m - (i + 1))
            all_goals first
              | exact (show ∃ (i' : Nat), _ from ⟨i + 1, by omega, rfl, by go_num, HB4.out, by rw [← HFN.out]; exact HL4.out⟩)
              | (have := HGI.out; omega)
        · have him : m = i := by omega
          have HIM := show Hid _ from him
          have hid : decide (i < m) = false := decide_eq_false hlt2
          have hjw : IntKind.i64.wrap ((j : Int) + 1) = (j : Int) + 1 := by rw [IntKind.wrap_i64]; omega
          have HFN : Hid (foldQ Q (rdT es tl tn F j ++ rdE tl tn F j b ((es.getD b []).take i)) = foldQ Q (rdT es tl tn F (j + 1))) := by
            show _ = _
            rw [rdT, HBH.out, ← him, HM.out, List.take_length]
          clear him
          go_wp2_with fail
          go_roundg (T - (j + 1))
          all_goals first
            | exact (show ∃ (j' : Nat), _ from ⟨j + 1, by omega, rfl, by go_num, HB2.out, by rw [← HFN.out]; exact HL2.out⟩)
            | (have := HGJ.out; omega)
    · have hjm : T = j := by omega
      subst hjm
      have hjd : decide (T < T) = false := decide_eq_false (by omega)
      go_wp2_with fail
      refine bodyPost_end (v := .tuple #[]) (by simp [results, Tryz.results32]) rfl ?_
      exact ⟨rfl, HL.out⟩
end

end Go.Proofs.YthoamlahbnphkaaGreat.J

/-
  relate: lists.
-/
namespace Go.Proofs.YthoamlahbnphkaaGreat.J
open Go.RowKit Go.Maps Go.Shelf

attribute [local go_sem] Oper.semAt_some

/-- What lists tells. -/
def ListsTold (T : Nat) (Q : Nat → List Int) (w : World) (e : Ending) (y : World) : Prop := ∃ kb bx ua uc, e = .returned (.slice (some ⟨kb, 0, none⟩) T T) ∧ LqP w y bx kb T Q ua uc

section
variable (ta na la pa sa xa l1 m1 : Option Addr) (tc nc lc pc sc xc lc1 mc1 : Nat) (n N T nb : Nat) (st : Int) (w : World) (tn nn ln : Nat)

set_option maxRecDepth 100000 in
set_option maxHeartbeats 2000000 in
theorem ulists_rd (Qf : Nat → List Int) (hT : T ≤ 40000) (hREL : ∀ X bx kb, LqP w X bx kb T (fun _ => []) (fun _ => none) (fun _ => 0) → Calls Tryz.prog 32 #[.agg #[.slice ta tn tc, .slice na nn nc, .slice la ln lc, .int .i64 st, .slice pa n pc, .slice (some ⟨nb, 0, none⟩) nn nn, .slice sa N sc, .slice xa T xc, .slice l1 N lc1, .slice m1 N mc1], .func (.func 57) #[] #[.pointer (some ⟨bx, 0, none⟩)]] X fun e y => e = .returned (.tuple #[]) ∧ ∃ ua uc, LqP w y bx kb T Qf ua uc) :
    Calls Tryz.prog 31 #[.agg #[.slice ta tn tc, .slice na nn nc, .slice la ln lc, .int .i64 st, .slice pa n pc, .slice (some ⟨nb, 0, none⟩) nn nn, .slice sa N sc, .slice xa T xc, .slice l1 N lc1, .slice m1 N mc1], .func (.func 32) #[.agg #[.slice ta tn tc, .slice na nn nc, .slice la ln lc, .int .i64 st, .slice pa n pc, .slice (some ⟨nb, 0, none⟩) nn nn, .slice sa N sc, .slice xa T xc, .slice l1 N lc1, .slice m1 N mc1]] #[]] w fun e y => ListsTold T Qf w e y := by
  have HREL := show Hid _ from hREL
  have HX0 : Hid ((w.alloc (.cells #[.slice ta tn tc, .slice na nn nc, .slice la ln lc, .int .i64 st, .slice pa n pc, .slice (some ⟨nb, 0, none⟩) nn nn, .slice sa N sc, .slice xa T xc, .slice l1 N lc1, .slice m1 N mc1] 81)).heap[w.heap.size]? = some (.cells #[.slice ta tn tc, .slice na nn nc, .slice la ln lc, .int .i64 st, .slice pa n pc, .slice (some ⟨nb, 0, none⟩) nn nn, .slice sa N sc, .slice xa T xc, .slice l1 N lc1, .slice m1 N mc1] 81 (0, 0))) := heap_alloc_last w _
  have c7 : (w.alloc (.cells #[.slice ta tn tc, .slice na nn nc, .slice la ln lc, .int .i64 st, .slice pa n pc, .slice (some ⟨nb, 0, none⟩) nn nn, .slice sa N sc, .slice xa T xc, .slice l1 N lc1, .slice m1 N mc1] 81)).cell? ⟨w.heap.size, 7, none⟩ = some (.slice xa T xc) := by rw [cell_of_row _ _ _ _ _ _ HX0.out]; rfl
  obtain ⟨i1, hq1, hu0, hu1, hu2⟩ := info_parts infoInts
  clear hREL
  go_enter Tryz.func31, Tryz.ntmps31
  go_wp2_with (at_make; refine wpList_make_full _ rfl _ _ 30 rfl w.heap.size 24 i1 (.slice none 0 0) 1 Tryz.underlying30 hq1 hu0 hu1 .i64 .i64 _ _ T rfl rfl (by omega) (by omega) (by rw [hu2]; omega) (by unfold maxLen; omega) (by simp) ?_)
  intro W1 hown hgrow
  have hval : ValAt W1 (w.heap.size + 1) T 24 (fun _ => .slice none 0 0) := made_rowK (B := w.heap.size) rfl (by simpa [Value.cells] using hown)
  have HG1 : Hid (w.grownBy W1 none) := grown_trans (World.grownBy_alloc _ _ none) hgrow
  have HV1 : Hid (ValAt W1 (w.heap.size + 1) T 24 (fun _ => .slice none 0 0)) := hval
  clear hown hgrow hval HX0 c7
  have HLQ : Hid (LqP w (W1.alloc (.cells #[.slice (some ⟨w.heap.size + 1, 0, none⟩) T T] 30)) W1.heap.size (w.heap.size + 1) T (fun _ => []) (fun _ => none) (fun _ => 0)) :=
    ⟨grown_trans HG1.out (World.grownBy_alloc _ _ none), heap_alloc_last W1 _, HV1.out.kept (World.grownBy_alloc _ _ none), fun _ _ => World.ownsRow_nil _ _ _ _, fun _ _ _ _ _ => .inl rfl, ⟨HG1.out.size, by omega⟩⟩
  clear HG1 HV1
  go_wp2_with fail
  refine Calls.mono (HREL.out _ _ _ HLQ.out) ?_
  rintro e y ⟨rfl, ua, uc, hL⟩
  have HL := show Hid _ from hL
  have c0 : y.cell? ⟨W1.heap.size, 0, none⟩ = some (.slice (some ⟨w.heap.size + 1, 0, none⟩) T T) := by rw [cell_of_row _ _ _ _ _ _ hL.box]; rfl
  clear hL HLQ HREL
  go_wp2_with fail
  go_ret
  exact ⟨_, _, ua, uc, rfl, HL.out⟩

set_option maxRecDepth 100000 in
set_option maxHeartbeats 2000000 in
theorem ulists_inc (Qf : Nat → List Int) (hT : T ≤ 40000) (hREL : ∀ X bx kb, LqP w X bx kb T (fun _ => []) (fun _ => none) (fun _ => 0) → Calls Tryz.prog 33 #[.agg #[.slice ta tn tc, .slice na nn nc, .slice la ln lc, .int .i64 st, .slice pa n pc, .slice (some ⟨nb, 0, none⟩) nn nn, .slice sa N sc, .slice xa T xc, .slice l1 N lc1, .slice m1 N mc1], .func (.func 57) #[] #[.pointer (some ⟨bx, 0, none⟩)]] X fun e y => e = .returned (.tuple #[]) ∧ ∃ ua uc, LqP w y bx kb T Qf ua uc) :
    Calls Tryz.prog 31 #[.agg #[.slice ta tn tc, .slice na nn nc, .slice la ln lc, .int .i64 st, .slice pa n pc, .slice (some ⟨nb, 0, none⟩) nn nn, .slice sa N sc, .slice xa T xc, .slice l1 N lc1, .slice m1 N mc1], .func (.func 33) #[.agg #[.slice ta tn tc, .slice na nn nc, .slice la ln lc, .int .i64 st, .slice pa n pc, .slice (some ⟨nb, 0, none⟩) nn nn, .slice sa N sc, .slice xa T xc, .slice l1 N lc1, .slice m1 N mc1]] #[]] w fun e y => ListsTold T Qf w e y := by
  have HREL := show Hid _ from hREL
  have HX0 : Hid ((w.alloc (.cells #[.slice ta tn tc, .slice na nn nc, .slice la ln lc, .int .i64 st, .slice pa n pc, .slice (some ⟨nb, 0, none⟩) nn nn, .slice sa N sc, .slice xa T xc, .slice l1 N lc1, .slice m1 N mc1] 81)).heap[w.heap.size]? = some (.cells #[.slice ta tn tc, .slice na nn nc, .slice la ln lc, .int .i64 st, .slice pa n pc, .slice (some ⟨nb, 0, none⟩) nn nn, .slice sa N sc, .slice xa T xc, .slice l1 N lc1, .slice m1 N mc1] 81 (0, 0))) := heap_alloc_last w _
  have c7 : (w.alloc (.cells #[.slice ta tn tc, .slice na nn nc, .slice la ln lc, .int .i64 st, .slice pa n pc, .slice (some ⟨nb, 0, none⟩) nn nn, .slice sa N sc, .slice xa T xc, .slice l1 N lc1, .slice m1 N mc1] 81)).cell? ⟨w.heap.size, 7, none⟩ = some (.slice xa T xc) := by rw [cell_of_row _ _ _ _ _ _ HX0.out]; rfl
  obtain ⟨i1, hq1, hu0, hu1, hu2⟩ := info_parts infoInts
  clear hREL
  go_enter Tryz.func31, Tryz.ntmps31
  go_wp2_with (at_make; refine wpList_make_full _ rfl _ _ 30 rfl w.heap.size 24 i1 (.slice none 0 0) 1 Tryz.underlying30 hq1 hu0 hu1 .i64 .i64 _ _ T rfl rfl (by omega) (by omega) (by rw [hu2]; omega) (by unfold maxLen; omega) (by simp) ?_)
  intro W1 hown hgrow
  have hval : ValAt W1 (w.heap.size + 1) T 24 (fun _ => .slice none 0 0) := made_rowK (B := w.heap.size) rfl (by simpa [Value.cells] using hown)
  have HG1 : Hid (w.grownBy W1 none) := grown_trans (World.grownBy_alloc _ _ none) hgrow
  have HV1 : Hid (ValAt W1 (w.heap.size + 1) T 24 (fun _ => .slice none 0 0)) := hval
  clear hown hgrow hval HX0 c7
  have HLQ : Hid (LqP w (W1.alloc (.cells #[.slice (some ⟨w.heap.size + 1, 0, none⟩) T T] 30)) W1.heap.size (w.heap.size + 1) T (fun _ => []) (fun _ => none) (fun _ => 0)) :=
    ⟨grown_trans HG1.out (World.grownBy_alloc _ _ none), heap_alloc_last W1 _, HV1.out.kept (World.grownBy_alloc _ _ none), fun _ _ => World.ownsRow_nil _ _ _ _, fun _ _ _ _ _ => .inl rfl, ⟨HG1.out.size, by omega⟩⟩
  clear HG1 HV1
  go_wp2_with fail
  refine Calls.mono (HREL.out _ _ _ HLQ.out) ?_
  rintro e y ⟨rfl, ua, uc, hL⟩
  have HL := show Hid _ from hL
  have c0 : y.cell? ⟨W1.heap.size, 0, none⟩ = some (.slice (some ⟨w.heap.size + 1, 0, none⟩) T T) := by rw [cell_of_row _ _ _ _ _ _ hL.box]; rfl
  clear hL HLQ HREL
  go_wp2_with fail
  go_ret
  exact ⟨_, _, ua, uc, rfl, HL.out⟩
end

end Go.Proofs.YthoamlahbnphkaaGreat.J

/-
  relate: what is handed to lists, beside a row of numbers that stays.
-/
namespace Go.Proofs.YthoamlahbnphkaaGreat.J
open Go.RowKit Go.Maps Go.Shelf

attribute [local go_sem] Oper.semAt_some

/-- Lists under way, and a row of numbers beside them. -/
def LqT (P X : World) (bx kb T : Nat) (Q : Nat → List Int) (tb tm : Nat) (tf : Nat → Value) : Prop := ∃ ua uc, LqP P X bx kb T Q ua uc ∧ ValAt X tb tm 3 tf ∧ ∀ k, k < T → (Value.slice (ua k) (Q k).length (uc k)).ownBlock ≠ some tb
theorem LqT.kept {P X Y : World} {bx kb T : Nat} {Q : Nat → List Int} {tb tm : Nat} {tf : Nat → Value} (h : LqT P X bx kb T Q tb tm tf) (hg : X.grownBy Y none) : LqT P Y bx kb T Q tb tm tf := by
  obtain ⟨ua, uc, h1, h2, h3⟩ := h
  exact ⟨ua, uc, h1.kept hg, h2.kept hg, h3⟩
/-- A row that is new. -/
theorem LqT.new {P X Y : World} {bx kb T : Nat} {Q : Nat → List Int} {ua : Nat → Option Addr} {uc : Nat → Nat} (h : LqP P X bx kb T Q ua uc) {tb tm : Nat} {tf : Nat → Value} (hg : X.grownBy Y none) (hv : ValAt Y tb tm 3 tf) (hn : X.heap.size ≤ tb) : LqT P Y bx kb T Q tb tm tf :=
  ⟨ua, uc, h.kept hg, hv, fun k hk e => by have := ((h.own k hk).lt tb e).2; omega⟩
theorem LqT.lq {P X : World} {bx kb T : Nat} {Q : Nat → List Int} {tb tm : Nat} {tf : Nat → Value} (h : LqT P X bx kb T Q tb tm tf) : ∃ ua uc, LqP P X bx kb T Q ua uc := by
  obtain ⟨ua, uc, h1, _⟩ := h
  exact ⟨ua, uc, h1⟩
theorem LqT.grown {P X : World} {bx kb T : Nat} {Q : Nat → List Int} {tb tm : Nat} {tf : Nat → Value} (h : LqT P X bx kb T Q tb tm tf) : P.grownBy X none := by
  obtain ⟨ua, uc, h1, _⟩ := h
  exact h1.grown
theorem LqT.val {P X : World} {bx kb T : Nat} {Q : Nat → List Int} {tb tm : Nat} {tf : Nat → Value} (h : LqT P X bx kb T Q tb tm tf) : ValAt X tb tm 3 tf := by
  obtain ⟨ua, uc, _, h1, _⟩ := h
  exact h1
/-- What is handed to the lists. -/
def HandToldT (P : World) (bx kb T tb tm : Nat) (tf : Nat → Value) (Q : Nat → List Int) (f : Nat) (x : Int) (w : World) (e : Ending) (y : World) : Prop := e = .returned (.tuple #[]) ∧ KeepH w y ∧ LqT P y bx kb T (updL Q f (addL (Q f) x)) tb tm tf

set_option maxRecDepth 100000 in
set_option maxHeartbeats 2000000 in
theorem handT_any (P w : World) (bx kb T tb tm : Nat) (tf : Nat → Value) (Q : Nat → List Int) (hLT : LqT P w bx kb T Q tb tm tf) (f : Nat) (x : Int) (hf : f < T) (hQ : (Q f).length ≤ 10000000) :
    Calls Tryz.prog 57 #[.int .i64 (f : Int), .int .i64 x, .pointer (some ⟨bx, 0, none⟩)] w fun e y => HandToldT P bx kb T tb tm tf Q f x w e y := by
  have HL : Hid (LqT P w bx kb T Q tb tm tf) := hLT
  obtain ⟨ua, uc, h, htv, hap⟩ := hLT
  have c0 : w.cell? ⟨bx, 0, none⟩ = some (.slice (some ⟨kb, 0, none⟩) T T) := by rw [cell_of_row _ _ _ _ _ _ h.box]; rfl
  have c1 := h.val.cell f hf
  obtain ⟨fa, hfa⟩ : ∃ a, a = ua f := ⟨_, rfl⟩
  obtain ⟨fc, hfc⟩ : ∃ a, a = uc f := ⟨_, rfl⟩
  obtain ⟨m, hm⟩ : ∃ m, m = (Q f).length := ⟨_, rfl⟩
  rw [← hfa, ← hfc, ← hm] at c1
  rw [← hm] at hQ
  have hf0 : (0 : Int) ≤ (f : Int) := by omega
  have hf1 : (f : Int) < (T : Int) := by omega
  have HOW : Hid (∀ Y, w.grownBy Y none → Y.ownsRow P.heap.size 3 1 (.slice fa m fc) m (intV (Q f))) := fun Y hY => by
    have h1 := keep0 (h.own f hf) hY
    rw [← hfa, ← hfc, ← hm] at h1
    exact h1
  have HPS : Hid (∀ Y, w.grownBy Y none → P.heap.size ≤ Y.heap.size) := fun Y hY => Nat.le_trans h.grown.size hY.size
  have HFIN : Hid (∀ (Y V : World) (g c : Nat), w.grownBy Y none → Y.grownBy V (Value.slice fa m fc).ownBlock → V.ownsRow P.heap.size 3 1 (.slice (some ⟨g, 0, none⟩) (m + 1) c) (m + 1) (intV (Q f) ++ [.int .i64 x]) → ((Value.slice fa m fc).ownBlock = some g ∨ g = Y.heap.size) → V.cell? ⟨kb, f, none⟩ = some (.slice fa m fc) ∧ V.frozen? ⟨kb, f, none⟩ = false ∧ V.cell? ⟨bx, 0, none⟩ = some (.slice (some ⟨kb, 0, none⟩) T T) ∧ KeepH w (V.setCell ⟨kb, f, none⟩ (.slice (some ⟨g, 0, none⟩) (m + 1) c)) ∧ LqT P (V.setCell ⟨kb, f, none⟩ (.slice (some ⟨g, 0, none⟩) (m + 1) c)) bx kb T (updL Q f (Q f ++ [x])) tb tm tf) := fun Y V g c hY hg ho hat => by
    rw [hfa, hfc, hm] at hg hat
    rw [hm] at ho
    have h1 := h.kept hY
    have hv : ValAt V kb T 24 (fun k => .slice (ua k) (Q k).length (uc k)) := box_row h1.val (h1.own f hf) (by decide) hg
    have hb : V.heap[bx]? = some (.cells #[.slice (some ⟨kb, 0, none⟩) T T] 30 (0, 0)) := box_row h1.box (h1.own f hf) (by decide) hg
    refine ⟨by rw [hfa, hfc, hm]; exact hv.cell f hf, hv.free f, by rw [cell_of_row _ _ _ _ _ _ hb]; rfl, ?_⟩
    rw [hm]
    have hne : some tb ≠ (Value.slice (ua f) (Q f).length (uc f)).ownBlock := fun e => hap f hf e.symm
    have htY := htv.kept hY
    have ht1 : ValAt V tb tm 3 tf := by
      unfold ValAt at htY ⊢
      exact (hg.block tb (Array.getElem?_eq_some_iff.1 htY).1 hne).trans htY
    have ht2 : ValAt (V.setCell ⟨kb, f, none⟩ (.slice (some ⟨g, 0, none⟩) ((Q f).length + 1) c)) tb tm 3 tf := ht1.at (grown_setCell kb f _) fun e => by
      have e2 : tb = kb := by simpa using e
      unfold ValAt at ht1 hv
      rw [e2, hv] at ht1
      simp only [Option.some.injEq, Obj.cells.injEq] at ht1
      exact absurd ht1.2.1 (by decide)
    refine ⟨((KeepH.none_ hY).trans (.row (h1.own f hf) hg)).trans (.set hv), _, _, h1.add hf hg ho hat, ht2, fun k hk => ?_⟩
    by_cases e : k = f
    · subst e
      rw [updL_same, updL_same, updL_same]
      show some g ≠ some tb
      intro e2
      have e3 : g = tb := by simpa using e2
      rcases hat with h2 | h2
      · rw [e3] at h2; exact hap k hf h2
      · have := htv.lt
        have := hY.size
        omega
    · rw [updL_other _ _ e, updL_other _ _ e, updL_other _ _ e]
      exact hap k hk
  have HAL : Hid ((m = 0 ∨ (Q f).getD (m - 1) 0 ≠ x) → addL (Q f) x = Q f ++ [x]) := fun h => by
    unfold addL
    rw [if_neg]
    intro e
    rw [List.getLast?_eq_getElem?, ← hm] at e
    rcases h with h | h
    · rw [List.getElem?_eq_none (by omega)] at e; cases e
    · exact h (by rw [List.getD_eq_getElem?_getD, e]; rfl)
  have HALN : Hid (m ≠ 0 → (Q f).getD (m - 1) 0 = x → addL (Q f) x = Q f) := fun h0 h => by
    unfold addL
    rw [if_pos]
    rw [List.getLast?_eq_getElem?, ← hm]
    rw [List.getD_eq_getElem?_getD, List.getElem?_eq_getElem (by omega)] at h
    rw [List.getElem?_eq_getElem (by omega)]
    exact congrArg some h
  have HCL : Hid (∀ Y, w.grownBy Y none → m ≠ 0 → ∃ g, fa = some ⟨g, 0, none⟩ ∧ Y.cell? ⟨g, m - 1, none⟩ = some (.int .i64 ((Q f).getD (m - 1) 0))) := fun Y hY h0 => by
    obtain ⟨g, c, e, h1⟩ := owns_at (HOW.out Y hY) (by omega)
    simp only [Value.slice.injEq] at e
    refine ⟨g, e.1, h1 (m - 1) _ ?_⟩
    unfold intV
    rw [List.getElem?_map, List.getElem?_eq_getElem (by omega), List.getD_eq_getElem?_getD, List.getElem?_eq_getElem (by omega)]; rfl
  obtain ⟨xs, hxs⟩ : ∃ xs, xs = intV (Q f) := ⟨_, rfl⟩
  rw [← hxs] at HOW HFIN
  obtain ⟨i0, hi0, hz0, hz1, hz2⟩ := info_parts infoInt
  have c2 : ∀ o, (w.alloc o).cell? ⟨bx, 0, none⟩ = some (.slice (some ⟨kb, 0, none⟩) T T) := fun o => (World.grownBy_alloc _ o none).cell c0 (by simp)
  have c3 : ∀ o, (w.alloc o).cell? ⟨kb, f, none⟩ = some (.slice fa m fc) := fun o => (World.grownBy_alloc _ o none).cell c1 (by simp)
  clear h hfa hfc hm hxs htv hap
  by_cases h0 : m = 0
  · subst h0
    have HA0 := show Hid _ from HAL.out (.inl rfl)
    go_enter Tryz.func57, Tryz.ntmps57
    go_wp2_with fail
    go_region_law (first
      | (refine step_append_liesW _ rfl (.tmp 30) (.tmp 32) 24 rfl P.heap.size 3 i0 (.int .i64 0) 1 8 Tryz.underlying24 hi0 hz0 hz1 hz2 rfl (by decide) (.slice fa 0 fc) 0 xs (by simp [Act.eval]) (HOW.out _ (grown_trans (World.grownBy_alloc _ _ none) (grown_drewN _ _))) ⟨w.heap.size, 0, none⟩ 1 1 [.int .i64 x] (by simp [Act.eval]) rfl (World.news_of_block (heap_alloc_last w _)) (by simp [Value.oneCell']) (by decide) (by unfold maxLen; omega) (by omega) (HPS.out _ (grown_trans (World.grownBy_alloc _ _ none) (grown_drewN _ _))) ?_; intro g9 c9 wB hoB hgB hat; obtain ⟨q1, q2, q3, q4⟩ := HFIN.out _ wB g9 c9 (grown_trans (World.grownBy_alloc _ _ none) (grown_drewN _ _)) hgB hoB hat; have HQ1 := show Hid _ from q4; clear q4 hoB hgB hat)
      | fail)
    all_goals go_wp2_with fail
    all_goals refine bodyPost_end (v := .tuple #[]) (by simp [results, Tryz.results57]) rfl ?_
    all_goals exact ⟨rfl, by rw [HA0.out]; exact HQ1.out⟩
  · obtain ⟨k, rfl⟩ : ∃ k, m = k + 1 := ⟨m - 1, by omega⟩
    obtain ⟨g, rfl, d0⟩ := HCL.out w (grown_refl _ _) h0
    rw [Nat.add_sub_cancel] at d0
    obtain ⟨z, hz⟩ : ∃ z, z = (Q f).getD k 0 := ⟨_, rfl⟩
    rw [← hz] at d0
    have hk0 : (0 : Int) ≤ (k : Int) := by omega
    have hk1 : (k : Int) < (k : Int) + 1 := by omega
    have hkd : decide ((k : Int) < 0) = false := decide_eq_false (by omega)
    by_cases e : z = x
    · have HA1 := show Hid _ from HALN.out h0 (by rw [Nat.add_sub_cancel, ← hz]; exact e)
      have hzx : (z != x) = false := by rw [e]; exact bne_self_eq_false _
      clear hz e
      go_enter Tryz.func57, Tryz.ntmps57
      go_wp2_with fail
      refine bodyPost_end (v := .tuple #[]) (by simp [results, Tryz.results57]) rfl ?_
      refine ⟨rfl, .refl _, ?_⟩
      rw [HA1.out, updL_id]
      exact HL.out
    · have HA0 := show Hid _ from HAL.out (.inr (by rw [Nat.add_sub_cancel, ← hz]; exact e))
      have hzx : (z != x) = true := bne_iff_ne.2 e
      clear hz e
      go_enter Tryz.func57, Tryz.ntmps57
      go_wp2_with fail
      go_region_law (first
        | (refine step_append_liesW _ rfl (.tmp 30) (.tmp 32) 24 rfl P.heap.size 3 i0 (.int .i64 0) 1 8 Tryz.underlying24 hi0 hz0 hz1 hz2 rfl (by decide) (.slice (some ⟨g, 0, none⟩) (k + 1) fc) (k + 1) xs (by simp [Act.eval]) (HOW.out _ (grown_trans (World.grownBy_alloc _ _ none) (grown_drewN _ _))) ⟨w.heap.size, 0, none⟩ 1 1 [.int .i64 x] (by simp [Act.eval]) rfl (World.news_of_block (heap_alloc_last w _)) (by simp [Value.oneCell']) (by decide) (by unfold maxLen; omega) (by omega) (HPS.out _ (grown_trans (World.grownBy_alloc _ _ none) (grown_drewN _ _))) ?_; intro g9 c9 wB hoB hgB hat; obtain ⟨q1, q2, q3, q4⟩ := HFIN.out _ wB g9 c9 (grown_trans (World.grownBy_alloc _ _ none) (grown_drewN _ _)) hgB hoB hat; have HQ1 := show Hid _ from q4; clear q4 hoB hgB hat)
        | fail)
      all_goals go_wp2_with fail
      all_goals refine bodyPost_end (v := .tuple #[]) (by simp [results, Tryz.results57]) rfl ?_
      all_goals exact ⟨rfl, by rw [HA0.out]; exact HQ1.out⟩

end Go.Proofs.YthoamlahbnphkaaGreat.J

/-
  relate: what is handed out, pure.
-/
namespace Go.Proofs.YthoamlahbnphkaaGreat.J
open Go.RowKit Go.Maps Go.Shelf

theorem snoc_ind {α : Type} {P : List α → Prop} (h0 : P []) (h : ∀ l x, P l → P (l ++ [x])) (l : List α) : P l := by
  have key : ∀ m : List α, P m.reverse := fun m => by
    induction m with
    | nil => exact h0
    | cons x m ih => rw [List.reverse_cons]; exact h _ _ ih
  have := key l.reverse
  rwa [List.reverse_reverse] at this
theorem addL_mem (l : List Int) (x y : Int) : y ∈ addL l x ↔ y ∈ l ∨ y = x := by
  unfold addL
  by_cases h : l.getLast? = some x
  · rw [if_pos h]
    constructor
    · exact .inl
    · rintro (h1 | rfl)
      · exact h1
      · exact List.mem_of_getLast? h
  · rw [if_neg h, List.mem_append, List.mem_singleton]
theorem last_of_asc : ∀ (l : List Int), l.Pairwise (· < ·) → ∀ x, x ∈ l → (∀ y ∈ l, y ≤ x) → l.getLast? = some x
  | [], _, x, hx, _ => by cases hx
  | [a], _, x, hx, _ => by rw [List.mem_singleton.1 hx]; rfl
  | a :: b :: l, hp, x, hx, hy => by
    rw [List.getLast?_cons_cons]
    rw [List.pairwise_cons] at hp
    rcases List.mem_cons.1 hx with rfl | hx
    · have h1 := hp.1 b (List.mem_cons_self ..)
      have h2 := hy b (by simp)
      omega
    · exact last_of_asc (b :: l) hp.2 x hx fun y h => hy y (List.mem_cons_of_mem _ h)
theorem addL_asc {l : List Int} {x : Int} (h : l.Pairwise (· < ·)) (hx : ∀ y ∈ l, y ≤ x) : (addL l x).Pairwise (· < ·) := by
  unfold addL
  by_cases e : l.getLast? = some x
  · rw [if_pos e]; exact h
  · rw [if_neg e, List.pairwise_append]
    refine ⟨h, List.pairwise_singleton _ _, fun a ha b hb => ?_⟩
    rw [List.mem_singleton.1 hb]
    have h1 := hx a ha
    have h2 : a ≠ x := fun h2 => e (last_of_asc l h x (h2 ▸ ha) hx)
    omega
/-- Lists to which numbers were handed that do not fall: they rise, and have just those. -/
theorem foldQ_spec : ∀ (l : List (Nat × Int)), (l.Pairwise fun p q => p.1 = q.1 → p.2 ≤ q.2) → ∀ f, (∀ x, x ∈ foldQ (fun _ => []) l f ↔ (f, x) ∈ l) ∧ (foldQ (fun _ => []) l f).Pairwise (· < ·) := by
  refine snoc_ind (fun _ f => ⟨fun x => by simp [foldQ], List.Pairwise.nil⟩) (fun l p ih hp f => ?_)
  rw [List.pairwise_append] at hp
  obtain ⟨h1, h2⟩ := ih hp.1 f
  rw [foldQ_snoc]
  by_cases e : f = p.1
  · subst e
    rw [updL_same]
    refine ⟨fun x => ?_, addL_asc h2 fun y hy => hp.2.2 (p.1, y) ((h1 y).1 hy) p (List.mem_singleton.2 rfl) rfl⟩
    rw [addL_mem, h1, List.mem_append, List.mem_singleton]
    constructor
    · rintro (h | h)
      · exact .inl h
      · exact .inr (by rw [h])
    · rintro (h | h)
      · exact .inl h
      · exact .inr (by rw [← h])
  · rw [updL_other _ _ e]
    refine ⟨fun x => ?_, h2⟩
    rw [h1, List.mem_append, List.mem_singleton]
    constructor
    · exact .inl
    · rintro (h | h)
      · exact h
      · exact absurd (by rw [← h]) e

theorem trI_sub {tn : Nat} {es : List (List (Nat × Nat))} {b : Nat} : ∀ {N : Nat}, b < N → (trI tn (es.getD b []) b).Sublist (trT tn es N)
  | 0, h => absurd h (Nat.not_lt_zero _)
  | N + 1, h => by
    unfold trT
    by_cases e : b < N
    · exact (trI_sub e).trans (List.sublist_append_left _ _)
    · have e2 : b = N := by omega
      subst e2
      exact List.sublist_append_right _ _
theorem trI_in {tn : Nat} {l : List (Nat × Nat)} {i : Nat} {e : Nat × Nat} (he : e ∈ l) (h : tn ≤ e.1) : ((i : Int), (e.1 : Int)) ∈ trI tn l i := by
  unfold trI
  exact List.mem_map.2 ⟨e, List.mem_filter.2 ⟨he, by simpa using h⟩, rfl⟩
/-- What is handed out of one way, from the place i on towards the beginning. -/
def inW (tl : List It) (tn : Nat) (F : Nat → Bool) (sf : Nat → Nat) (row : List Int) (zt : Int) : Nat → List (Nat × Int)
  | 0 => []
  | i + 1 => if row.getD i 0 < (tn : Int) then [] else ((nmF tl (sf i) (row.getD i 0).toNat).toNat, zt) :: (if F ((row.getD i 0).toNat - tn) then inW tl tn F sf row zt i else [])
theorem mem_inW {tl : List It} {tn : Nat} {F : Nat → Bool} {sf : Nat → Nat} {row : List Int} {zt : Int} {p : Nat × Int} : ∀ {i : Nat}, p ∈ inW tl tn F sf row zt i ↔ p.2 = zt ∧ ∃ j, j < i ∧ (tn : Int) ≤ row.getD j 0 ∧ p.1 = (nmF tl (sf j) (row.getD j 0).toNat).toNat ∧ ∀ m, j < m → m < i → (tn : Int) ≤ row.getD m 0 ∧ F ((row.getD m 0).toNat - tn) = true
  | 0 => by simp [inW]
  | i + 1 => by
    rw [inW]
    by_cases h : row.getD i 0 < (tn : Int)
    · rw [if_pos h]
      constructor
      · intro h1; cases h1
      · rintro ⟨_, j, h1, h2, _, h4⟩
        by_cases e : j = i
        · subst e; omega
        · have := (h4 i (by omega) (by omega)).1
          omega
    · rw [if_neg h, List.mem_cons]
      constructor
      · rintro (h1 | h1)
        · rw [h1]
          exact ⟨rfl, i, Nat.lt_succ_self _, by omega, rfl, fun m h2 h3 => by omega⟩
        · by_cases hF : F ((row.getD i 0).toNat - tn) = true
          · rw [if_pos hF] at h1
            obtain ⟨h2, j, h3, h4, h5, h6⟩ := mem_inW.1 h1
            refine ⟨h2, j, by omega, h4, h5, fun m h7 h8 => ?_⟩
            by_cases e : m = i
            · subst e; exact ⟨by omega, hF⟩
            · exact h6 m h7 (by omega)
          · rw [if_neg hF] at h1; cases h1
      · rintro ⟨h1, j, h2, h3, h4, h5⟩
        by_cases e : j = i
        · subst e
          left
          exact Prod.ext h4 h1
        · right
          rw [if_pos (h5 i (by omega) (by omega)).2]
          exact mem_inW.2 ⟨h1, j, by omega, h3, h4, fun m h7 h8 => h5 m h7 (by omega)⟩
/-- What is handed out of a transition, by the productions below p. -/
def inK (es : List (List (Nat × Nat))) (tl : List It) (tn : Nat) (F : Nat → Bool) (L : Nat → Int) (R : Nat → List Int) (k : Nat) : Nat → List (Nat × Int)
  | 0 => []
  | p + 1 => inK es tl tn F L R k p ++ (if L p = (tl.getD k (0, 0)).2 then inW tl tn F (stF es (tl.getD k (0, 0)).1.toNat (R p)) (R p) (k : Int) (R p).length else [])
/-- .. of the transitions below k, by n productions. -/
def inT (es : List (List (Nat × Nat))) (tl : List It) (tn : Nat) (F : Nat → Bool) (n : Nat) (L : Nat → Int) (R : Nat → List Int) : Nat → List (Nat × Int)
  | 0 => []
  | k + 1 => inT es tl tn F n L R k ++ inK es tl tn F L R k n
theorem mem_inK {es : List (List (Nat × Nat))} {tl : List It} {tn : Nat} {F : Nat → Bool} {L : Nat → Int} {R : Nat → List Int} {k : Nat} {x : Nat × Int} : ∀ {p : Nat}, x ∈ inK es tl tn F L R k p ↔ ∃ p', p' < p ∧ L p' = (tl.getD k (0, 0)).2 ∧ x ∈ inW tl tn F (stF es (tl.getD k (0, 0)).1.toNat (R p')) (R p') (k : Int) (R p').length
  | 0 => by simp [inK]
  | p + 1 => by
    rw [inK, List.mem_append, mem_inK]
    constructor
    · rintro (⟨p', h1, h2⟩ | h)
      · exact ⟨p', by omega, h2⟩
      · by_cases e : L p = (tl.getD k (0, 0)).2
        · rw [if_pos e] at h; exact ⟨p, Nat.lt_succ_self _, e, h⟩
        · rw [if_neg e] at h; cases h
    · rintro ⟨p', h1, h2, h3⟩
      by_cases e : p' = p
      · subst e; right; rw [if_pos h2]; exact h3
      · exact .inl ⟨p', by omega, h2, h3⟩
theorem mem_inT {es : List (List (Nat × Nat))} {tl : List It} {tn : Nat} {F : Nat → Bool} {n : Nat} {L : Nat → Int} {R : Nat → List Int} {x : Nat × Int} : ∀ {k : Nat}, x ∈ inT es tl tn F n L R k ↔ ∃ k', k' < k ∧ x.2 = (k' : Int) ∧ x ∈ inK es tl tn F L R k' n
  | 0 => by simp [inT]
  | k + 1 => by
    have snd : ∀ {y : Nat × Int} {k' : Nat}, y ∈ inK es tl tn F L R k' n → y.2 = (k' : Int) := fun h => by
      obtain ⟨p', _, _, h3⟩ := mem_inK.1 h
      exact (mem_inW.1 h3).1
    rw [inT, List.mem_append, mem_inT]
    constructor
    · rintro (⟨k', h1, h2⟩ | h)
      · exact ⟨k', by omega, h2⟩
      · exact ⟨k, Nat.lt_succ_self _, snd h, h⟩
    · rintro ⟨k', h1, h2, h3⟩
      by_cases e : k' = k
      · subst e; exact .inr h3
      · exact .inl ⟨k', by omega, h2, h3⟩
theorem inK_snd {es : List (List (Nat × Nat))} {tl : List It} {tn : Nat} {F : Nat → Bool} {n : Nat} {L : Nat → Int} {R : Nat → List Int} {k : Nat} {y : Nat × Int} (h : y ∈ inK es tl tn F L R k n) : y.2 = (k : Int) := by
  obtain ⟨p', _, _, h3⟩ := mem_inK.1 h
  exact (mem_inW.1 h3).1
theorem inT_asc {es : List (List (Nat × Nat))} {tl : List It} {tn : Nat} {F : Nat → Bool} {n : Nat} {L : Nat → Int} {R : Nat → List Int} : ∀ k, (inT es tl tn F n L R k).Pairwise fun p q => p.1 = q.1 → p.2 ≤ q.2
  | 0 => List.Pairwise.nil
  | k + 1 => by
    rw [inT, List.pairwise_append]
    refine ⟨inT_asc k, ?_, fun p hp q hq _ => ?_⟩
    · refine List.Pairwise.imp_of_mem (R := fun _ _ => True) (fun {p q} hp hq _ _ => ?_) (List.pairwise_of_forall (fun _ _ => trivial))
      rw [inK_snd hp, inK_snd hq]; exact Int.le_refl _
    · obtain ⟨k', h1, h2, _⟩ := mem_inT.1 hp
      rw [h2, inK_snd hq]
      omega
end Go.Proofs.YthoamlahbnphkaaGreat.J
