import Derived.Test.YtfllgmbnljfboaaRows
import Derived.Test.YtfllgmbnljfboaaQcfblhjphihac
import Derived.Test.YtfllgmbnljfboaaQnpmfgjpklmba
import Derived.Deep.RegionHeld3

/-
  trans: what the laws' theorems share.
-/
namespace Go.Proofs.Ytfllgmbnljfboaa.J
open Go.ChangeShapes Go.WideShapes Go.ChangeAt Go.RowKit Go.Deep

theorem own : ownKnob Try.prog.godebug = none := by kernel_rfl
theorem laidOut : laidOutB Try.prog = true := by kernel_rfl

end Go.Proofs.Ytfllgmbnljfboaa.J

/-
  trans: the ways of Rights and Lefts, pure.
-/
namespace Go.Proofs.Ytfllgmbnljfboaa.J
open Go.RowKit Go.Maps Go.Shelf

/-- A kernel of a state but the first has begun items alone. -/
def PB (n : Nat) (R : Nat → List Int) (j : Nat) (k : List It) : Prop := PJ n R j k ∧ (j = 0 ∨ ∀ x ∈ k, 0 < x.2)
theorem CLo_item {tn n : Nat} {L : Nat → Int} {R : Nat → List Int} {k : List It} (hk : ∀ x ∈ k, itB n R x = true) : ∀ x ∈ CLo tn n L R k, itB n R x = true := by
  unfold CLo
  by_cases hh : ∃ l, IsClo tn n L R k l ∧ l.length ≤ k.length + 13000
  · rw [dif_pos hh]
    have h1 := Classical.choose_spec hh
    exact fun x hx => ((h1.1.mem x).1 hx).item hk
  · rw [dif_neg hh]
    exact fun x hx => absurd hx (by simp)
theorem mem_GG {tn n : Nat} {L : Nat → Int} {R : Nat → List Int} {k : List It} {s : Nat} {x : It} : x ∈ GG tn n L R k s ↔ ∃ y ∈ CLo tn n L R k, aheadV R y = (s : Int) ∧ (y.1, y.2 + 1) = x := by
  unfold GG kerT
  rw [List.mem_map]
  constructor
  · rintro ⟨y, hy, rfl⟩
    obtain ⟨h1, h2⟩ := List.mem_filter.1 hy
    exact ⟨y, h1, by simpa using h2, rfl⟩
  · rintro ⟨y, hy, h, rfl⟩
    exact ⟨y, List.mem_filter.2 ⟨hy, by simpa using h⟩, rfl⟩
theorem PB.GG {tn n : Nat} {L : Nat → Int} {R : Nat → List Int} {i m : Nat} {k : List It} (s : Nat) (h : PB n R i k) (hm : i < m) : PB n R m (GG tn n L R k s) := by
  refine ⟨h.1.GG s hm, .inr fun x hx => ?_⟩
  obtain ⟨y, hy, _, rfl⟩ := mem_GG.1 hx
  have h1 := CLo_item h.1.1 y hy
  unfold itB at h1
  simp only [Bool.and_eq_true, decide_eq_true_eq] at h1
  simp only
  omega
theorem begun_state {tn nn n : Nat} {L : Nat → Int} {R : Nat → List Int} (hn0 : 0 < n) {ks : List (List It)} {es : List (List (Nat × Nat))} (h : autoF (GG tn n L R) (tn + nn) 256 = some (ks, es)) {q : Nat} (hq : q < ks.length) : q = 0 ∨ ∀ x ∈ ks.getD q [], 0 < x.2 :=
  ((autoOK (P := PB n R) ⟨⟨fun x hx => by
    rw [List.mem_singleton.1 hx]
    unfold itB
    simp only [Bool.and_eq_true, decide_eq_true_eq]
    exact ⟨⟨⟨by omega, by omega⟩, by omega⟩, by omega⟩, by simp⟩, .inl rfl⟩ (fun _ _ _ s hp hm => hp.GG s hm) 256 h).kok.each q hq).2

section
variable {tn nn n : Nat} {L : Nat → Int} {R : Nat → List Int} {ks : List (List It)} {es : List (List (Nat × Nat))}
theorem edge_of (h : AutF (GG tn n L R) n R (tn + nn) ks es) {q s : Nat} (hq : q < ks.length) (hs : s < tn + nn) (hk : GG tn n L R (ks.getD q []) s ≠ []) : ∃ t : Nat, t < ks.length ∧ leadA es ((q : Int), (s : Int)) = some (t : Int) ∧ ks.getD t [] = GG tn n L R (ks.getD q []) s := by
  have h1 : s ∈ (es.getD q []).map Prod.fst := by rw [h.fst q hq]; exact mem_symsT.2 ⟨hs, hk⟩
  obtain ⟨e, he, rfl⟩ := List.mem_map.1 h1
  obtain ⟨t, h2, e', he', h3, h4⟩ := nextL_some he
  obtain ⟨_, h5, h6⟩ := h.snd q hq e' he'
  refine ⟨t, by rw [← h4]; exact h5, by rw [leadA_at es (by rw [h.len]; exact hq)]; exact h2, ?_⟩
  rw [← h4, h6, h3]
theorem no_edge (h : AutF (GG tn n L R) n R (tn + nn) ks es) {q s : Nat} (hq : q < ks.length) (hk : GG tn n L R (ks.getD q []) s = []) : leadA es ((q : Int), (s : Int)) = none := by
  rw [leadA_at es (by rw [h.len]; exact hq)]
  cases hn : nextL (es.getD q []) (s : Int) with
  | none => rfl
  | some v =>
    obtain ⟨x, hx, h1, _⟩ := nextL_mem hn
    have h2 : x.1 ∈ (es.getD q []).map Prod.fst := List.mem_map.2 ⟨x, hx, rfl⟩
    rw [h.fst q hq] at h2
    have h3 := (mem_symsT.1 h2).2
    rw [show x.1 = s by omega] at h3
    exact absurd hk h3
/-- An item that is not completed goes on. -/
theorem goes_on (h : AutF (GG tn n L R) n R (tn + nn) ks es) (hR : ∀ k, k < n → ∀ x ∈ R k, (0 : Int) < x ∧ x < ((tn + nn : Nat) : Int)) {q P d : Nat} (hq : q < ks.length) (hP : P < n) (hd : d < (R P).length) (hx : ((P : Int), (d : Int)) ∈ CLo tn n L R (ks.getD q [])) : ∃ t : Nat, t < ks.length ∧ leadA es ((q : Int), (R P).getD d 0) = some (t : Int) ∧ ((P : Int), ((d + 1 : Nat) : Int)) ∈ ks.getD t [] := by
  have hm : (R P).getD d 0 ∈ R P := by
    generalize R P = l at hd ⊢
    rw [List.getD_eq_getElem?_getD, List.getElem?_eq_getElem hd]; exact List.getElem_mem hd
  have h1 := hR P hP _ hm
  obtain ⟨s, hs⟩ : ∃ s : Nat, (R P).getD d 0 = (s : Int) := ⟨((R P).getD d 0).toNat, by omega⟩
  have ha : aheadV R ((P : Int), (d : Int)) = (s : Int) := by
    unfold aheadV
    rw [if_neg (by simp only [Int.toNat_natCast]; omega)]
    simp only [Int.toNat_natCast]
    exact hs
  have hg : ((P : Int), ((d + 1 : Nat) : Int)) ∈ GG tn n L R (ks.getD q []) s := mem_GG.2 ⟨_, hx, ha, by simp⟩
  obtain ⟨t, h2, h3, h4⟩ := edge_of (s := s) h hq (by rw [hs] at h1; omega) (fun e => by rw [e] at hg; cases hg)
  exact ⟨t, h2, by rw [hs]; exact h3, by rw [h4]; exact hg⟩
/-- A Right leads where it is completed. -/
theorem right_way (h : AutF (GG tn n L R) n R (tn + nn) ks es) (hR : ∀ k, k < n → ∀ x ∈ R k, (0 : Int) < x ∧ x < ((tn + nn : Nat) : Int)) (hCl : ∀ q, q < ks.length → IsClo tn n L R (ks.getD q []) (CLo tn n L R (ks.getD q []))) {q P : Nat} (hq : q < ks.length) (hP : P < n) (hx : ((P : Int), (0 : Int)) ∈ CLo tn n L R (ks.getD q [])) : ∀ d, d ≤ (R P).length → ∃ t : Nat, t < ks.length ∧ wayF es (some (q : Int)) ((R P).take d) = some (t : Int) ∧ ((P : Int), (d : Int)) ∈ CLo tn n L R (ks.getD t [])
  | 0, _ => ⟨q, hq, rfl, hx⟩
  | d + 1, hd => by
    obtain ⟨t, h1, h2, h3⟩ := right_way h hR hCl hq hP hx d (by omega)
    obtain ⟨u, h4, h5, h6⟩ := goes_on h hR h1 hP (by omega) h3
    refine ⟨u, h4, ?_, ((hCl u h4).mem _).2 (Clo.base h6)⟩
    rw [wayF_take es (by omega), h2]
    exact h5
/-- A Left leads somewhere. -/
theorem left_edge (h : AutF (GG tn n L R) n R (tn + nn) ks es) (hb : ∀ q, q < ks.length → q = 0 ∨ ∀ x ∈ ks.getD q [], 0 < x.2) (hCl : ∀ q, q < ks.length → IsClo tn n L R (ks.getD q []) (CLo tn n L R (ks.getD q []))) (hL : ∀ k, k < n → (tn : Int) ≤ L k ∧ L k < ((tn + nn : Nat) : Int)) {q P : Nat} (hq : q < ks.length) (hP : P < n) (hP0 : P ≠ 0) (hx : ((P : Int), (0 : Int)) ∈ CLo tn n L R (ks.getD q [])) : ∃ t : Nat, t < ks.length ∧ leadA es ((q : Int), L P) = some (t : Int) := by
  have key : ∀ y, Clo tn n L R (ks.getD q []) y → y ∈ CLo tn n L R (ks.getD q []) ∧ (y.2 = 0 → y.1 ≠ 0 → ∃ z ∈ CLo tn n L R (ks.getD q []), aheadV R z = L y.1.toNat) := fun y hy => hy (fun y => y ∈ CLo tn n L R (ks.getD q []) ∧ (y.2 = 0 → y.1 ≠ 0 → ∃ z ∈ CLo tn n L R (ks.getD q []), aheadV R z = L y.1.toNat))
    (fun y hy => ⟨((hCl q hq).mem y).2 (Clo.base hy), fun h1 h2 => by
      rcases hb q hq with h3 | h3
      · subst h3
        rw [h.head] at hy
        rw [List.mem_singleton.1 hy] at h2
        exact absurd rfl h2
      · have := h3 y hy
        omega⟩)
    (fun y k hy ht hk hl => ⟨((hCl q hq).mem _).2 ((((hCl q hq).mem y).1 hy.1).step ht hk hl), fun _ _ => ⟨y, hy.1, by simp only [Int.toNat_natCast]; exact hl.symm⟩⟩)
  obtain ⟨_, h1⟩ := key _ (((hCl q hq).mem _).1 hx)
  obtain ⟨z, hz, h2⟩ := h1 rfl (by simp only; omega)
  simp only [Int.toNat_natCast] at h2
  have h3 := hL P hP
  obtain ⟨s, hs⟩ : ∃ s : Nat, L P = (s : Int) := ⟨(L P).toNat, by omega⟩
  have hg : (z.1, z.2 + 1) ∈ GG tn n L R (ks.getD q []) s := mem_GG.2 ⟨z, hz, by rw [h2, hs], rfl⟩
  obtain ⟨t, h4, h5, _⟩ := edge_of (s := s) h hq (by rw [hs] at h3; omega) (fun e => by rw [e] at hg; cases hg)
  exact ⟨t, h4, by rw [hs]; exact h5⟩
/-- The added one leads nowhere. -/
theorem left_none (h : AutF (GG tn n L R) n R (tn + nn) ks es) (hNo : ∀ k, k < n → ∀ x ∈ R k, x ≠ (tn : Int)) {q : Nat} (hq : q < ks.length) : leadA es ((q : Int), (tn : Int)) = none := by
  refine no_edge h hq (List.eq_nil_iff_forall_not_mem.2 fun x hx => ?_)
  obtain ⟨y, hy, h1, _⟩ := mem_GG.1 hx
  have h2 := CLo_item (h.kok.each q hq).1 y hy
  unfold itB at h2
  simp only [Bool.and_eq_true, decide_eq_true_eq] at h2
  obtain ⟨⟨⟨a1, a2⟩, a3⟩, a4⟩ := h2
  unfold aheadV at h1
  by_cases e : y.2 = ((R y.1.toNat).length : Int)
  · rw [if_pos e] at h1; omega
  · rw [if_neg e] at h1
    have hl : y.2.toNat < (R y.1.toNat).length := by omega
    refine hNo y.1.toNat (by omega) ((R y.1.toNat).getD y.2.toNat 0) ?_ h1
    generalize R y.1.toNat = l at hl ⊢
    rw [List.getD_eq_getElem?_getD, List.getElem?_eq_getElem hl]; exact List.getElem_mem hl
end
/-- The added nonterminal stands in no Right. -/
theorem no_added {ts : List (ByteArray × Int)} {ns : List ByteArray} {lv : List Int} {st : Int} {n : Nat} {L : Nat → Int} {R : Nat → List Int} {V : Nat → Int} (h : closedOK ts ns lv st n L R V) : ∀ k, k < n → ∀ x ∈ R k, x ≠ (ts.length : Int) := by
  obtain ⟨ha, hf⟩ := h
  have hs := hf.start
  unfold isNonI at hs
  intro k hk x hx
  by_cases h0 : k = 0
  · subst h0
    rw [ha.right] at hx
    simp at hx
    omega
  · have := (hf.prods k (by omega) hk).2.2 x hx
    unfold isSymI isNonI at this
    omega

end Go.Proofs.Ytfllgmbnljfboaa.J

/-
  trans: the law TransRights, walked.
-/
namespace Go.Proofs.Ytfllgmbnljfboaa.J
open Go.RowKit Go.Maps Go.Shelf

attribute [local go_sem] Oper.semAt_some

theorem getD_memI {l : List It} {j : Nat} (h : j < l.length) : l.getD j (0, 0) ∈ l := by
  rw [List.getD_eq_getElem?_getD, List.getElem?_eq_getElem h]; exact List.getElem_mem h
theorem mem_take_succ {l : List It} {j : Nat} (h : j < l.length) (x : It) : x ∈ l.take (j + 1) ↔ x ∈ l.take j ∨ l.getD j (0, 0) = x := by
  rw [take_at h, List.mem_append, List.mem_singleton]
  exact ⟨fun h1 => h1.elim .inl fun h2 => .inr h2.symm, fun h1 => h1.elim .inl fun h2 => .inr h2.symm⟩

section
variable (ta na la pa : Option Addr) (tc nc lc pc : Nat) (n : Nat) (L : Nat → Int) (R : Nat → List Int) (ra : Nat → Option Addr) (rc : Nat → Nat) (V : Nat → Int) (st : Int) (w : World) (tn nn ln : Nat) (z : Int)

set_option maxRecDepth 100000 in
set_option maxHeartbeats 4000000 in
theorem rights_bad (ec : Int) (hec : ec = 1 ∨ ec = 11) (hO : OfBad ta na la pa tc nc lc pc n st w tn nn ln ec)
    (hBU : ∀ X, w.grownBy X none → Calls Try.prog 13 #[.agg #[.slice ta tn tc, .slice na nn nc, .slice la ln lc, .int .i64 st, .slice pa n pc]] X fun e y => e = .returned (.tuple #[.agg #[.slice none 0 0, .int .i64 0, .int .i64 0], .int .i64 ec]) ∧ X.grownBy y none) :
    Calls Try.prog 5 #[.agg #[.slice ta tn tc, .slice na nn nc, .slice la ln lc, .int .i64 st, .slice pa n pc], .int .i64 z] w fun e w' => e = .returned (.bool true) ∧ w.grownBy w' none := by
  have HBU := show Hid _ from hBU
  have HLI : Hid (∀ X, w.grownBy X none → Calls Try.prog 14 #[.agg #[.slice ta tn tc, .slice na nn nc, .slice la ln lc, .int .i64 st, .slice pa n pc]] X fun e y => e = .returned (.tuple #[.slice none 0 0, .int .i64 ec]) ∧ X.grownBy y none) := fun X hX => listX_bad ta na la pa tc nc lc pc n st X tn nn ln ec hec (fun Y hY => hO Y (grown_trans hX hY))
  have HX0 : Hid (PhAt w (w.alloc (.cells #[.slice ta tn tc, .slice na nn nc, .slice la ln lc, .int .i64 st, .slice pa n pc] 27)) w.heap.size #[.slice ta tn tc, .slice na nn nc, .slice la ln lc, .int .i64 st, .slice pa n pc]) := ⟨World.grownBy_alloc _ _ none, heap_alloc_last w _⟩
  have hne : (ec != 0) = true := bne_iff_ne.2 (by omega)
  have hee : (ec == ec) = true := beq_self_eq_true _
  clear hBU hO hec
  go_enter Try.func5, Try.ntmps5
  go_wp2_with fail
  refine Calls.mono (awake_any _) ?_
  rintro e w1 ⟨rfl, hg1⟩
  have HX1 : Hid (PhAt w w1 w.heap.size #[.slice ta tn tc, .slice na nn nc, .slice la ln lc, .int .i64 st, .slice pa n pc]) := HX0.out.kept hg1
  clear hg1 HX0
  obtain ⟨k0, k1, k2, k3, k4⟩ := HX1.out.cells
  go_wp2_with fail
  refine Calls.mono (HBU.out _ HX1.out.grown) ?_
  rintro e w2 ⟨rfl, hg2⟩
  have HX2 : Hid (PhAt w (w2.alloc (.cells #[.slice none 0 0, .int .i64 0, .int .i64 0] 42)) w.heap.size #[.slice ta tn tc, .slice na nn nc, .slice la ln lc, .int .i64 st, .slice pa n pc]) := HX1.out.kept (grown_trans hg2 (World.grownBy_alloc _ _ none))
  clear hg2 HX1 k0 k1 k2 k3 k4
  obtain ⟨k0, k1, k2, k3, k4⟩ := HX2.out.cells
  go_wp2_with fail
  refine Calls.mono (HLI.out _ HX2.out.grown) ?_
  rintro e w3 ⟨rfl, hg3⟩
  have HG3 : Hid (w.grownBy w3 none) := grown_trans HX2.out.grown hg3
  clear hg3 HX2 k0 k1 k2 k3 k4
  go_wp2_with fail
  go_ret
  exact ⟨rfl, HG3.out⟩

set_option maxRecDepth 100000 in
set_option maxHeartbeats 8000000 in
theorem rights_pos (N ask qn zn : Nat) (hz : z = (zn : Int)) (hzb : zn ≤ 9223372036854775807) (ks : List (List It)) (el : Nat → List It) (CL : Nat → List It) (hN : N = ks.length) (hqn : qn < N) (hqz : qn = zn % N) (hPr : ProdsAt w pa n L R ra rc V)
    (hCLb : ∀ q, q < N → (CL q).length ≤ 3354001) (hit : ∀ x ∈ CL qn, itB n R x = true)
    (hBU : ∀ X, w.grownBy X none → Calls Try.prog 13 #[.agg #[.slice ta tn tc, .slice na nn nc, .slice la ln lc, .int .i64 st, .slice pa n pc]] X fun e y => ∃ sa sc kv ev, e = .returned (.tuple #[.agg #[.slice sa N sc, .int .i64 (ask : Int), .int .i64 (N : Int)], .int .i64 0]) ∧ AutP X.heap.size y (.slice sa ks.length sc) ks el kv ev ∧ X.grownBy y none)
    (hCL : ∀ X a' c' q, w.grownBy X none → q < N → ItsAt X a' (ks.getD q []) → (a' = none → (ks.getD q []).length = 0 ∧ c' = 0) → Calls Try.prog 15 #[.agg #[.slice ta tn tc, .slice na nn nc, .slice la ln lc, .int .i64 st, .slice pa n pc], .slice a' (ks.getD q []).length c'] X fun e y => ItsErr (CL q) 0 X e y)
    (hWR : ∀ P, P < n → ((P : Int), (0 : Int)) ∈ CL qn → ∃ t : Nat, t < N ∧ ((P : Int), ((R P).length : Int)) ∈ CL t ∧ ∀ X, w.grownBy X none → Calls Try.prog 10 #[.agg #[.slice ta tn tc, .slice na nn nc, .slice la ln lc, .int .i64 st, .slice pa n pc], .int .i64 (qn : Int), .slice (ra P) (R P).length (rc P)] X fun e y => e = .returned (.tuple #[.int .i64 (t : Int), .int .i64 0]) ∧ X.grownBy y none)
    (hWL : ∀ P, P < n → ((P : Int), (0 : Int)) ∈ CL qn → ∃ v : Int, (decide (v < 0) = ((P : Int) == 0)) ∧ ∀ X b, w.grownBy X none → IntsAt X (some ⟨b, 0, none⟩) [L P] → Calls Try.prog 10 #[.agg #[.slice ta tn tc, .slice na nn nc, .slice la ln lc, .int .i64 st, .slice pa n pc], .int .i64 (qn : Int), .slice (some ⟨b, 0, none⟩) 1 1] X fun e y => e = .returned (.tuple #[.int .i64 v, .int .i64 0]) ∧ X.grownBy y none) :
    Calls Try.prog 5 #[.agg #[.slice ta tn tc, .slice na nn nc, .slice la ln lc, .int .i64 st, .slice pa n pc], .int .i64 z] w fun e w' => e = .returned (.bool true) ∧ w.grownBy w' none := by
  have HBU := show Hid _ from hBU
  have HCL := show Hid _ from hCL
  have HWR := show Hid _ from hWR
  have HWL := show Hid _ from hWL
  have HIT := show Hid _ from hit
  have HCB := show Hid _ from hCLb
  have HPR : Hid (∀ Y, w.grownBy Y none → ProdsAt Y pa n L R ra rc V) := fun Y hY => prods_kept hPr hY
  have HN : Hid (N = ks.length) := hN
  have HX0 : Hid (PhAt w (w.alloc (.cells #[.slice ta tn tc, .slice na nn nc, .slice la ln lc, .int .i64 st, .slice pa n pc] 27)) w.heap.size #[.slice ta tn tc, .slice na nn nc, .slice la ln lc, .int .i64 st, .slice pa n pc]) := ⟨World.grownBy_alloc _ _ none, heap_alloc_last w _⟩
  have hm : (zn : Int).tmod (N : Int) = (qn : Int) := by rw [hqz]; rfl
  have hN0 : ((N : Int) == 0) = false := beq_eq_false_iff_ne.2 (by omega)
  have hN1 : (N == 0) = false := beq_eq_false_iff_ne.2 (by omega)
  have hN2 : ¬ (N : Int) = 0 := by omega
  have hN3 : ¬ N = 0 := by omega
  have hq0 : (0 : Int) ≤ (qn : Int) := by omega
  have hq1 : (qn : Int) < (N : Int) := by omega
  have hgu := guard_item
  have hzd : decide (z < 0) = false := decide_eq_false (by omega)
  subst hz
  clear hBU hCL hWR hWL hit hCLb hPr hN hqz
  go_enter Try.func5, Try.ntmps5
  go_wp2_with fail
  refine Calls.mono (awake_any _) ?_
  rintro e w1 ⟨rfl, hg1⟩
  have HX1 : Hid (PhAt w w1 w.heap.size #[.slice ta tn tc, .slice na nn nc, .slice la ln lc, .int .i64 st, .slice pa n pc]) := HX0.out.kept hg1
  clear hg1 HX0
  obtain ⟨k0, k1, k2, k3, k4⟩ := HX1.out.cells
  go_wp2_with fail
  refine Calls.mono (HBU.out _ HX1.out.grown) ?_
  rintro e w2 ⟨sa, sc, kv, ev, rfl, hAP, hg2⟩
  obtain ⟨ab, hab⟩ : ∃ b, b = w2.heap.size := ⟨_, rfl⟩
  obtain ⟨W, hW⟩ : ∃ W, W = w2.alloc (.cells #[.slice sa N sc, .int .i64 (ask : Int), .int .i64 (N : Int)] 42) := ⟨_, rfl⟩
  have hgW : w2.grownBy W none := by rw [hW]; exact World.grownBy_alloc _ _ none
  have HXW : Hid (PhAt w W w.heap.size #[.slice ta tn tc, .slice na nn nc, .slice la ln lc, .int .i64 st, .slice pa n pc]) := HX1.out.kept (grown_trans hg2 hgW)
  have HAW : Hid (W.heap[ab]? = some (.cells #[.slice sa N sc, .int .i64 (ask : Int), .int .i64 (N : Int)] 42 (0, 0))) := by rw [hW, hab]; exact heap_alloc_last w2 _
  have HWE := show Hid _ from hW
  have HBE := show Hid _ from hab
  have hPW := hAP.kept hgW
  obtain ⟨sb, sc', hsv, -, -⟩ := hPW.st (q := qn) (by rw [← HN.out]; exact hqn)
  simp only [Value.slice.injEq] at hsv
  obtain ⟨rfl, _, rfl⟩ := hsv
  have HST : Hid (∀ q, q < N → ∃ ka kc, ∀ Y, W.grownBy Y none → Y.cell? ⟨sb, q * 2, none⟩ = some (.slice ka (ks.getD q []).length kc) ∧ ItsAt Y ka (ks.getD q []) ∧ (ka = none → (ks.getD q []).length = 0 ∧ kc = 0)) := fun q hq => by
    obtain ⟨sb2, sc2, hsv2, hs2, _⟩ := hPW.st (q := q) (by rw [← HN.out]; exact hq)
    simp only [Value.slice.injEq, Option.some.injEq, Addr.mk.injEq] at hsv2
    obtain ⟨⟨rfl, _⟩, _⟩ := hsv2
    obtain ⟨ka, kc, h1, h2, h3⟩ := hPW.kerAt (q := q) (by rw [← HN.out]; exact hq)
    rw [h1] at hs2
    exact ⟨ka, kc, fun Y hY => ⟨hY.cell hs2 (by simp), h2.kept hY, h3⟩⟩
  have HCE : Hid (∀ Y, W.grownBy Y none → (Y.cell? ⟨w.heap.size, 0, none⟩ = some (.slice ta tn tc) ∧ Y.cell? ⟨w.heap.size, 1, none⟩ = some (.slice na nn nc) ∧ Y.cell? ⟨w.heap.size, 2, none⟩ = some (.slice la ln lc) ∧ Y.cell? ⟨w.heap.size, 3, none⟩ = some (.int .i64 st) ∧ Y.cell? ⟨w.heap.size, 4, none⟩ = some (.slice pa n pc)) ∧ Y.cell? ⟨ab, 0, none⟩ = some (.slice (some ⟨sb, 0, none⟩) N sc)) := fun Y hY => ⟨(HXW.out.kept hY).cells, by rw [cell_of_row _ _ _ _ _ _ (box_kept HAW.out hY)]; rfl⟩
  clear hg2 hAP HX1 k0 k1 k2 k3 k4 hW hab hgW hPW
  obtain ⟨_, y0⟩ := HCE.out W (grown_refl _ _)
  rw [HWE.out, HBE.out] at y0
  go_wp2_with fail
  rw [← HWE.out, ← HBE.out]
  clear HWE HBE y0
  obtain ⟨ka, kc, hk⟩ := HST.out qn hqn
  have HK := show Hid _ from hk
  obtain ⟨kl, hkl⟩ : ∃ k, k = (ks.getD qn []).length := ⟨_, rfl⟩
  have HCC := show Hid _ from fun (Y : World) (hY : W.grownBy Y none) => HCL.out Y ka kc qn (grown_trans HXW.out.grown hY) hqn (HK.out Y hY).2.1 (HK.out Y hY).2.2
  rw [← hkl] at HCC HK
  have HKS : Hid (∀ Y, W.grownBy Y none → ((Y.cell? ⟨w.heap.size, 0, none⟩ = some (.slice ta tn tc) ∧ Y.cell? ⟨w.heap.size, 1, none⟩ = some (.slice na nn nc) ∧ Y.cell? ⟨w.heap.size, 2, none⟩ = some (.slice la ln lc) ∧ Y.cell? ⟨w.heap.size, 3, none⟩ = some (.int .i64 st) ∧ Y.cell? ⟨w.heap.size, 4, none⟩ = some (.slice pa n pc)) ∧ Y.cell? ⟨ab, 0, none⟩ = some (.slice (some ⟨sb, 0, none⟩) N sc)) ∧ Y.cell? ⟨sb, qn * 2, none⟩ = some (.slice ka kl kc)) := fun Y hY => ⟨HCE.out Y hY, (HK.out Y hY).1⟩
  have HUP : Hid (W.grownBy W.drew none) := grown_drewN _ 1
  clear hk hkl
  go_region_held3 (fun Y => ((Y.cell? ⟨w.heap.size, 0, none⟩ = some (.slice ta tn tc) ∧ Y.cell? ⟨w.heap.size, 1, none⟩ = some (.slice na nn nc) ∧ Y.cell? ⟨w.heap.size, 2, none⟩ = some (.slice la ln lc) ∧ Y.cell? ⟨w.heap.size, 3, none⟩ = some (.int .i64 st) ∧ Y.cell? ⟨w.heap.size, 4, none⟩ = some (.slice pa n pc)) ∧ Y.cell? ⟨ab, 0, none⟩ = some (.slice (some ⟨sb, 0, none⟩) N sc)) ∧ Y.cell? ⟨sb, qn * 2, none⟩ = some (.slice ka kl kc)) (first | exact HKS.out _ HUP.out | exact HKS.out _ HG3.out | go_keep)
    ((first
      | (go_at_call 15; refine Calls.mono (HCC.out _ HUP.out) ?_; rintro e w3 ⟨a3, c3, rfl, ho3, hg3⟩; have HG3 : Hid (W.grownBy w3 none) := grown_trans HUP.out hg3; have HI3 : Hid (∀ Y, w3.grownBy Y none → ItsAt Y a3 (CL qn)) := fun Y hY => (ItsAt.of ho3).kept hY; clear hg3 ho3)
      | fail))
  obtain ⟨l, hl⟩ : ∃ l, l = CL qn := ⟨_, rfl⟩
  have HL : Hid (l = CL qn) := hl
  rw [← hl] at HI3 HIT HWR HWL ⊢
  obtain ⟨M, hM⟩ : ∃ m, m = l.length := ⟨_, rfl⟩
  have HM : Hid (M = l.length) := hM
  have hMb : M ≤ 3354001 := by rw [hM, hl]; exact HCB.out qn hqn
  rw [← hM]
  clear hl hM HKS HUP HCC HK
  go_wp2_with fail
  go_loopg [13] M (fun gk v13 wr => ∃ i : Nat, i ≤ M ∧ gk = M - i ∧ v13 = .int .i64 i ∧ w3.grownBy wr none)
  case atStart => exact ⟨0, Nat.zero_le _, rfl, rfl, grown_refl _ _⟩
  case round =>
    obtain ⟨i, hi, hgi, rfl, hg⟩ := hrel
    have HGI : Hid (gk = M - i) := hgi
    have HGZ : Hid (w3.grownBy wr none) := hg
    clear hgi hg
    generalize wr = Z at *
    by_cases hlt : i < M
    · have hid : decide (i < M) = true := decide_eq_true hlt
      have hi0 : (0 : Int) ≤ (i : Int) := by omega
      have hi1 : (i : Int) < (M : Int) := by omega
      have hil : i < l.length := by rw [← HM.out]; exact hlt
      have hmem := getD_memI hil
      have hitx := HIT.out _ hmem
      obtain ⟨lb, lo, hla, c0, c1⟩ := (HI3.out Z HGZ.out).cellAt hil
      subst hla
      have HLC : Hid (∀ Y, w3.grownBy Y none → Y.cell? ⟨lb, lo + i * 2, none⟩ = some (.int .i64 (l.getD i (0, 0)).1) ∧ Y.cell? ⟨lb, lo + i * 2 + 1, none⟩ = some (.int .i64 (l.getD i (0, 0)).2)) := fun Y hY => by
        obtain ⟨b3, o3, h1, h2, h3⟩ := (HI3.out Y hY).cellAt hil
        simp only [Option.some.injEq, Addr.mk.injEq, and_true] at h1
        obtain ⟨rfl, rfl⟩ := h1
        exact ⟨h2, h3⟩
      obtain ⟨x, hx⟩ : ∃ x, x = l.getD i (0, 0) := ⟨_, rfl⟩
      rw [← hx] at c0 c1 hmem hitx HLC
      obtain ⟨xp, xd⟩ := x
      unfold itB at hitx
      simp only [Bool.and_eq_true, decide_eq_true_eq] at hitx
      obtain ⟨⟨⟨b1, b2⟩, b3⟩, b4⟩ := hitx
      simp only at c0 c1 HLC b1 b2 b3
      obtain ⟨P, rfl⟩ : ∃ P : Nat, xp = (P : Int) := ⟨xp.toNat, by omega⟩
      obtain ⟨d, rfl⟩ : ∃ d : Nat, xd = (d : Int) := ⟨xd.toNat, by omega⟩
      have hPn : P < n := by omega
      obtain ⟨⟨k0, k1, k2, k3, k4⟩, y0⟩ := HCE.out Z (grown_trans HG3.out HGZ.out)
      by_cases hd0 : d = 0
      · subst hd0
        have e1 : decide ((0 : Int) < ((0 : Nat) : Int)) = false := rfl
        have e2 : decide ((P : Int) < 0) = false := decide_eq_false (by omega)
        have e3 : decide (n ≤ P) = false := decide_eq_false (by omega)
        have e4 : decide ((n : Int) ≤ (P : Int)) = false := decide_eq_false (by omega)
        have hP0 : (0 : Int) ≤ (P : Int) := by omega
        have hP1 : (P : Int) < (n : Int) := by omega
        have c1' : Z.cell? ⟨lb, lo + i * 2 + 1, none⟩ = some (.int .i64 0) := c1
        obtain ⟨t, htN, htm, hWRt⟩ := HWR.out P hPn hmem
        obtain ⟨v, hvP, hWLv⟩ := HWL.out P hPn hmem
        have HTM : Hid (((P : Int), ((R P).length : Int)) ∈ CL t) := htm
        have HWT := show Hid _ from hWRt
        have HWV := show Hid _ from hWLv
        obtain ⟨bp, op, hpa, p0, p1, p2⟩ : ∃ bp op, pa = some ⟨bp, op, none⟩ ∧ Z.cell? ⟨bp, op + P * 3, none⟩ = some (.int .i64 (L P)) ∧ Z.cell? ⟨bp, op + P * 3 + 1, none⟩ = some (.slice (ra P) (R P).length (rc P)) ∧ Z.cell? ⟨bp, op + P * 3 + 2, none⟩ = some (.int .i64 (V P)) := by
          rcases HPR.out Z (grown_trans HXW.out.grown (grown_trans HG3.out HGZ.out)) with h | ⟨bp, op, e, h⟩
          · omega
          · exact ⟨bp, op, e, (h P hPn).1, (h P hPn).2.1, (h P hPn).2.2.1⟩
        subst hpa
        clear htm hWRt hWLv c1 b1 b2 b3 b4 hx hmem hil
        go_wp2_with fail
        go_quiet (fail)
        obtain ⟨Z1, hZ1⟩ : ∃ X, X = Z.drewN nq := ⟨_, rfl⟩
        rw [← hZ1]
        have HZ1 : Hid (Z.grownBy Z1 none) := by show Z.grownBy Z1 none; rw [hZ1]; exact grown_drewN _ _
        have q0 := HZ1.out.cell p0 (by simp)
        have q1 := HZ1.out.cell p1 (by simp)
        have q2 := HZ1.out.cell p2 (by simp)
        have q3 := HZ1.out.cell c0 (by simp)
        have q4 := HZ1.out.cell k4 (by simp)
        have q0' := fun o => (World.grownBy_alloc Z1 o none).cell q0 (by simp)
        have q1' := fun o => (World.grownBy_alloc Z1 o none).cell q1 (by simp)
        have q2' := fun o => (World.grownBy_alloc Z1 o none).cell q2 (by simp)
        have q3' := fun o => (World.grownBy_alloc Z1 o none).cell q3 (by simp)
        have q4' := fun o => (World.grownBy_alloc Z1 o none).cell q4 (by simp)
        clear hZ1 p0 p1 p2 c0 c1' k0 k1 k2 k3 k4 y0
        go_wp2_with fail
        go_region
        obtain ⟨Z2, hZ2⟩ : ∃ X, X = (Z1.alloc (.cells #[.int .i64 (L P), .slice (ra P) (R P).length (rc P), .int .i64 (V P)] 57)).drew := ⟨_, rfl⟩
        obtain ⟨pb, hpb⟩ : ∃ b, b = Z1.heap.size := ⟨_, rfl⟩
        have HG2 : Hid (w3.grownBy Z2 none) := by show w3.grownBy Z2 none; rw [hZ2]; exact grown_trans HGZ.out (grown_trans HZ1.out (grown_trans (World.grownBy_alloc _ _ none) (grown_drewN _ 1)))
        have HPB : Hid (Z2.heap[pb]? = some (.cells #[.int .i64 (L P), .slice (ra P) (R P).length (rc P), .int .i64 (V P)] 57 (0, 0))) := by rw [hZ2, hpb]; exact heap_alloc_last Z1 _
        rw [← hZ2, ← hpb]
        obtain ⟨rl, hrl⟩ : ∃ r, r = (R P).length := ⟨_, rfl⟩
        have hrlb : rl ≤ 17592186044416 := by rw [hrl]; exact gright (HPR.out w (grown_refl _ _)) P hPn
        rw [← hrl] at HPB HWT HTM
        rw [← hrl]
        have HPC : Hid (∀ Y, Z2.grownBy Y none → Y.cell? ⟨pb, 0, none⟩ = some (.int .i64 (L P)) ∧ Y.cell? ⟨pb, 1, none⟩ = some (.slice (ra P) rl (rc P))) := fun Y hY => ⟨by rw [cell_of_row _ _ _ _ _ _ (box_kept HPB.out hY)]; rfl, by rw [cell_of_row _ _ _ _ _ _ (box_kept HPB.out hY)]; rfl⟩
        clear hZ2 hpb hrl q0 q1 q2 q3 q4 q0' q1' q2' q3' q4'
        obtain ⟨⟨k0, k1, k2, k3, k4⟩, y0⟩ := HCE.out Z2 (grown_trans HG3.out HG2.out)
        obtain ⟨r0, r1⟩ := HPC.out Z2 (grown_refl _ _)
        have HWTC := show Hid _ from HWT.out Z2 (grown_trans HXW.out.grown (grown_trans HG3.out HG2.out))
        go_wp2_with fail
        refine Calls.mono HWTC.out ?_
        rintro e w5 ⟨rfl, hg5⟩
        have HG5 : Hid (Z2.grownBy w5 none) := hg5
        have HGW5 : Hid (W.grownBy w5 none) := grown_trans HG3.out (grown_trans HG2.out hg5)
        clear hg5 HWTC k0 k1 k2 k3 k4 y0 r0 r1
        have g1 : decide ((t : Int) < 0) = false := decide_eq_false (by omega)
        have g2 : decide (N ≤ t) = false := decide_eq_false (by omega)
        have g3 : decide ((N : Int) ≤ (t : Int)) = false := decide_eq_false (by omega)
        have ht0 : (0 : Int) ≤ (t : Int) := by omega
        have ht1 : (t : Int) < (N : Int) := by omega
        obtain ⟨_, y0⟩ := HCE.out w5 HGW5.out
        obtain ⟨ka2, kc2, hk2⟩ := HST.out t htN
        have HK2 := show Hid _ from hk2
        obtain ⟨kl2, hkl2⟩ : ∃ k, k = (ks.getD t []).length := ⟨_, rfl⟩
        have HCC2 := show Hid _ from fun (Y : World) (hY : W.grownBy Y none) => HCL.out Y ka2 kc2 t (grown_trans HXW.out.grown hY) htN (HK2.out Y hY).2.1 (HK2.out Y hY).2.2
        rw [← hkl2] at HCC2 HK2
        have HKS2 : Hid (∀ Y, W.grownBy Y none → ((Y.cell? ⟨w.heap.size, 0, none⟩ = some (.slice ta tn tc) ∧ Y.cell? ⟨w.heap.size, 1, none⟩ = some (.slice na nn nc) ∧ Y.cell? ⟨w.heap.size, 2, none⟩ = some (.slice la ln lc) ∧ Y.cell? ⟨w.heap.size, 3, none⟩ = some (.int .i64 st) ∧ Y.cell? ⟨w.heap.size, 4, none⟩ = some (.slice (some ⟨bp, op, none⟩) n pc)) ∧ Y.cell? ⟨ab, 0, none⟩ = some (.slice (some ⟨sb, 0, none⟩) N sc)) ∧ Y.cell? ⟨sb, t * 2, none⟩ = some (.slice ka2 kl2 kc2)) := fun Y hY => ⟨HCE.out Y hY, (HK2.out Y hY).1⟩
        have HUP2 : Hid (W.grownBy w5.drew none) := grown_trans HGW5.out (grown_drewN _ 1)
        have HUP3 : Hid (Z2.grownBy w5.drew none) := grown_trans HG5.out (grown_drewN _ 1)
        clear hk2 hkl2
        go_wp2_with fail
        clear y0
        go_region_held3 (fun Y => ((Y.cell? ⟨w.heap.size, 0, none⟩ = some (.slice ta tn tc) ∧ Y.cell? ⟨w.heap.size, 1, none⟩ = some (.slice na nn nc) ∧ Y.cell? ⟨w.heap.size, 2, none⟩ = some (.slice la ln lc) ∧ Y.cell? ⟨w.heap.size, 3, none⟩ = some (.int .i64 st) ∧ Y.cell? ⟨w.heap.size, 4, none⟩ = some (.slice (some ⟨bp, op, none⟩) n pc)) ∧ Y.cell? ⟨ab, 0, none⟩ = some (.slice (some ⟨sb, 0, none⟩) N sc)) ∧ Y.cell? ⟨sb, t * 2, none⟩ = some (.slice ka2 kl2 kc2)) (first | exact HKS2.out _ HUP2.out | exact HKS2.out _ HGW6.out | go_keep)
          ((first
            | (go_at_call 15; refine Calls.mono (HCC2.out _ HUP2.out) ?_; rintro e w6 ⟨a6, c6, rfl, ho6, hg6⟩; have HGW6 : Hid (W.grownBy w6 none) := grown_trans HUP2.out hg6; have HG6 : Hid (Z2.grownBy w6 none) := grown_trans HUP3.out hg6; have HI6 : Hid (∀ Y, w6.grownBy Y none → ItsAt Y a6 (CL t)) := fun Y hY => (ItsAt.of ho6).kept hY; clear hg6 ho6)
            | fail))
        obtain ⟨en, hen⟩ : ∃ l, l = CL t := ⟨_, rfl⟩
        have henb : en.length ≤ 3354001 := by rw [hen]; exact HCB.out t htN
        rw [← hen] at HI6 HTM ⊢
        obtain ⟨E, hE⟩ : ∃ m, m = en.length := ⟨_, rfl⟩
        have HE : Hid (E = en.length) := hE
        rw [← hE] at henb ⊢
        clear hen hE HKS2 HUP2 HUP3 HCC2 HK2
        go_wp2_with fail
        go_loopg [19, 20] E (fun gk v19 v20 wr => ∃ (o : Nat) (b : Bool), o ≤ E ∧ gk = E - o ∧ v20 = .int .i64 o ∧ v19 = .bool b ∧ w6.grownBy wr none ∧ (b = true ↔ ((P : Int), (rl : Int)) ∈ en.take o))
        case atStart => exact ⟨0, false, Nat.zero_le _, rfl, rfl, rfl, grown_refl _ _, by simp⟩
        case round =>
          obtain ⟨o, b, ho, hgo, rfl, rfl, hg7, hb⟩ := hrel
          have HGO : Hid (gk = E - o) := hgo
          have HG7 : Hid (w6.grownBy wr none) := hg7
          have HB : Hid (b = true ↔ ((P : Int), (rl : Int)) ∈ en.take o) := hb
          clear hgo hg7 hb
          by_cases hlo : o < E
          · have hod : decide (o < E) = true := decide_eq_true hlo
            have ho0 : (0 : Int) ≤ (o : Int) := by omega
            have ho1 : (o : Int) < (E : Int) := by omega
            have hol : o < en.length := by rw [← HE.out]; exact hlo
            obtain ⟨nb, no, hna, d0, d1⟩ := (HI6.out wr HG7.out).cellAt hol
            subst hna
            have HTS : Hid (((P : Int), (rl : Int)) ∈ en.take (o + 1) ↔ ((P : Int), (rl : Int)) ∈ en.take o ∨ en.getD o (0, 0) = ((P : Int), (rl : Int))) := mem_take_succ hol _
            obtain ⟨u0, -⟩ := HLC.out wr (grown_trans HG2.out (grown_trans HG6.out HG7.out))
            obtain ⟨-, u1⟩ := HPC.out wr (grown_trans HG6.out HG7.out)
            cases b with
            | true =>
              have HNX2 : Hid (((P : Int), (rl : Int)) ∈ en.take (o + 1)) := HTS.out.2 (.inl (HB.out.1 rfl))
              clear HB HTS d0 d1 u0 u1 hol
              go_wp2_with fail
              go_quiet (fail)
              go_wp2_with fail
              go_roundg (E - (o + 1))
              case measure => have := HGO.out; omega
              case rel => exact ⟨o + 1, true, by omega, rfl, by go_num, rfl, grown_trans HG7.out (grown_drewN _ _), ⟨fun _ => HNX2.out, fun _ => rfl⟩⟩
            | false =>
              obtain ⟨x, hx⟩ : ∃ x, x = en.getD o (0, 0) := ⟨_, rfl⟩
              rw [← hx] at d0 d1 HTS
              obtain ⟨bb, hbb⟩ : ∃ b, b = (x.1 == (P : Int) && x.2 == (rl : Int)) := ⟨_, rfl⟩
              have HNX : Hid (bb = true ↔ ((P : Int), (rl : Int)) ∈ en.take (o + 1)) := by
                show _ ↔ _
                rw [HTS.out, hbb, Bool.and_eq_true, beq_iff_eq, beq_iff_eq]
                constructor
                · intro h; exact .inr (Prod.ext h.1 h.2)
                · rintro (h | h)
                  · exact absurd (HB.out.2 h) (by decide)
                  · exact ⟨congrArg Prod.fst h, congrArg Prod.snd h⟩
              obtain ⟨xp, xd⟩ := x
              simp only at d0 d1 hbb
              have hEI : ∀ X : World, (binOp .eql 55 (.agg #[.int .i64 xp, .int .i64 xd]) (.agg #[.int .i64 (P : Int), .int .i64 (rl : Int)])).run Try.prog X = .ok (.bool bb) X := fun X => by rw [hbb]; exact eq_item xp xd (P : Int) (rl : Int) X
              clear HB HTS hbb hx hol
              go_wp2_with fail
              go_quiet (fail)
              go_wp2_with fail
              go_roundg (E - (o + 1))
              case measure => have := HGO.out; omega
              case rel => exact ⟨o + 1, bb, by omega, rfl, by go_num, rfl, grown_trans HG7.out (grown_drewN _ _), HNX.out⟩
          · have hoE : E = o := by omega
            subst hoE
            have hod : decide (E < E) = false := decide_eq_false (by omega)
            have hbt : b = true := HB.out.2 (by rw [HE.out, List.take_length]; exact HTM.out)
            subst hbt
            clear HB
            obtain ⟨⟨k0, k1, k2, k3, k4⟩, y0⟩ := HCE.out wr (grown_trans HGW6.out HG7.out)
            obtain ⟨r0, r1⟩ := HPC.out wr (grown_trans HG6.out HG7.out)
            have HWVC := show Hid _ from HWV.out (wr.alloc (.cells #[.int .i64 (L P)] 3)) wr.heap.size (grown_trans HXW.out.grown (grown_trans HGW6.out (grown_trans HG7.out (World.grownBy_alloc _ _ none)))) (.inr ⟨wr.heap.size, 0, rfl, fun i hi => by
              have h9 : i = 0 := by simp at hi; omega
              subst h9
              rw [cell_of_row _ _ _ _ _ _ (heap_alloc_last wr _)]; rfl⟩)
            go_wp2_with fail
            refine Calls.mono HWVC.out ?_
            rintro e w8 ⟨rfl, hg8⟩
            have HG8 : Hid (w3.grownBy w8 none) := grown_trans HG2.out (grown_trans HG6.out (grown_trans HG7.out (grown_trans (World.grownBy_alloc _ _ none) hg8)))
            clear hg8 HWVC k0 k1 k2 k3 k4 y0 r0 r1
            obtain ⟨u0, -⟩ := HLC.out w8 HG8.out
            obtain ⟨bb, hbb⟩ : ∃ b, b = ((P : Int) == 0) := ⟨_, rfl⟩
            rw [← hbb] at hvP
            have hbb' : ((P : Int) == 0) = bb := hbb.symm
            clear hbb
            cases bb
            all_goals
              go_wp2_with fail
              go_roundg (M - (i + 1))
            all_goals first
              | exact (show ∃ i' : Nat, _ from ⟨i + 1, by omega, rfl, by go_num, HG8.out⟩)
              | (have := HGI.out; omega)
      · have e1 : decide ((0 : Int) < (d : Int)) = true := decide_eq_true (by omega)
        have e2 : decide (0 < d) = true := decide_eq_true (by omega)
        clear hx hmem hil b1 b2 b3 b4
        go_wp2_with fail
        go_quiet (fail)
        go_wp2_with fail
        go_roundg (M - (i + 1))
        case measure => have := HGI.out; omega
        case rel => exact ⟨i + 1, by omega, rfl, by go_num, grown_trans HGZ.out (grown_drewN _ _)⟩
    · have hiM : M = i := by omega
      subst hiM
      have hid : decide (M < M) = false := decide_eq_false (by omega)
      go_wp2_with fail
      go_ret
      exact ⟨rfl, grown_trans HXW.out.grown (grown_trans HG3.out HGZ.out)⟩

set_option maxRecDepth 100000 in
set_option maxHeartbeats 8000000 in
theorem rights_neg (N ask qn zn : Nat) (hz : z = -(zn : Int) - 1) (hzb : zn ≤ 9223372036854775807) (ks : List (List It)) (el : Nat → List It) (CL : Nat → List It) (hN : N = ks.length) (hqn : qn < N) (hqz : qn = zn % N) (hPr : ProdsAt w pa n L R ra rc V)
    (hCLb : ∀ q, q < N → (CL q).length ≤ 3354001) (hit : ∀ x ∈ CL qn, itB n R x = true)
    (hBU : ∀ X, w.grownBy X none → Calls Try.prog 13 #[.agg #[.slice ta tn tc, .slice na nn nc, .slice la ln lc, .int .i64 st, .slice pa n pc]] X fun e y => ∃ sa sc kv ev, e = .returned (.tuple #[.agg #[.slice sa N sc, .int .i64 (ask : Int), .int .i64 (N : Int)], .int .i64 0]) ∧ AutP X.heap.size y (.slice sa ks.length sc) ks el kv ev ∧ X.grownBy y none)
    (hCL : ∀ X a' c' q, w.grownBy X none → q < N → ItsAt X a' (ks.getD q []) → (a' = none → (ks.getD q []).length = 0 ∧ c' = 0) → Calls Try.prog 15 #[.agg #[.slice ta tn tc, .slice na nn nc, .slice la ln lc, .int .i64 st, .slice pa n pc], .slice a' (ks.getD q []).length c'] X fun e y => ItsErr (CL q) 0 X e y)
    (hWR : ∀ P, P < n → ((P : Int), (0 : Int)) ∈ CL qn → ∃ t : Nat, t < N ∧ ((P : Int), ((R P).length : Int)) ∈ CL t ∧ ∀ X, w.grownBy X none → Calls Try.prog 10 #[.agg #[.slice ta tn tc, .slice na nn nc, .slice la ln lc, .int .i64 st, .slice pa n pc], .int .i64 (qn : Int), .slice (ra P) (R P).length (rc P)] X fun e y => e = .returned (.tuple #[.int .i64 (t : Int), .int .i64 0]) ∧ X.grownBy y none)
    (hWL : ∀ P, P < n → ((P : Int), (0 : Int)) ∈ CL qn → ∃ v : Int, (decide (v < 0) = ((P : Int) == 0)) ∧ ∀ X b, w.grownBy X none → IntsAt X (some ⟨b, 0, none⟩) [L P] → Calls Try.prog 10 #[.agg #[.slice ta tn tc, .slice na nn nc, .slice la ln lc, .int .i64 st, .slice pa n pc], .int .i64 (qn : Int), .slice (some ⟨b, 0, none⟩) 1 1] X fun e y => e = .returned (.tuple #[.int .i64 v, .int .i64 0]) ∧ X.grownBy y none) :
    Calls Try.prog 5 #[.agg #[.slice ta tn tc, .slice na nn nc, .slice la ln lc, .int .i64 st, .slice pa n pc], .int .i64 z] w fun e w' => e = .returned (.bool true) ∧ w.grownBy w' none := by
  have HBU := show Hid _ from hBU
  have HCL := show Hid _ from hCL
  have HWR := show Hid _ from hWR
  have HWL := show Hid _ from hWL
  have HIT := show Hid _ from hit
  have HCB := show Hid _ from hCLb
  have HPR : Hid (∀ Y, w.grownBy Y none → ProdsAt Y pa n L R ra rc V) := fun Y hY => prods_kept hPr hY
  have HN : Hid (N = ks.length) := hN
  have HX0 : Hid (PhAt w (w.alloc (.cells #[.slice ta tn tc, .slice na nn nc, .slice la ln lc, .int .i64 st, .slice pa n pc] 27)) w.heap.size #[.slice ta tn tc, .slice na nn nc, .slice la ln lc, .int .i64 st, .slice pa n pc]) := ⟨World.grownBy_alloc _ _ none, heap_alloc_last w _⟩
  have hm : (zn : Int).tmod (N : Int) = (qn : Int) := by rw [hqz]; rfl
  have hN0 : ((N : Int) == 0) = false := beq_eq_false_iff_ne.2 (by omega)
  have hN1 : (N == 0) = false := beq_eq_false_iff_ne.2 (by omega)
  have hN2 : ¬ (N : Int) = 0 := by omega
  have hN3 : ¬ N = 0 := by omega
  have hq0 : (0 : Int) ≤ (qn : Int) := by omega
  have hq1 : (qn : Int) < (N : Int) := by omega
  have hgu := guard_item
  have hzd : decide (z < 0) = true := decide_eq_true (by omega)
  have hz1 : IntKind.i64.wrap (z + 1) = z + 1 := by rw [IntKind.wrap_i64]; omega
  have hz2 : IntKind.i64.wrap (-(z + 1)) = (zn : Int) := by rw [IntKind.wrap_i64]; omega
  have hz3 : z < 0 := by omega
  clear hz hzb
  clear hBU hCL hWR hWL hit hCLb hPr hN hqz
  go_enter Try.func5, Try.ntmps5
  go_wp2_with fail
  refine Calls.mono (awake_any _) ?_
  rintro e w1 ⟨rfl, hg1⟩
  have HX1 : Hid (PhAt w w1 w.heap.size #[.slice ta tn tc, .slice na nn nc, .slice la ln lc, .int .i64 st, .slice pa n pc]) := HX0.out.kept hg1
  clear hg1 HX0
  obtain ⟨k0, k1, k2, k3, k4⟩ := HX1.out.cells
  go_wp2_with fail
  refine Calls.mono (HBU.out _ HX1.out.grown) ?_
  rintro e w2 ⟨sa, sc, kv, ev, rfl, hAP, hg2⟩
  obtain ⟨ab, hab⟩ : ∃ b, b = w2.heap.size := ⟨_, rfl⟩
  obtain ⟨W, hW⟩ : ∃ W, W = w2.alloc (.cells #[.slice sa N sc, .int .i64 (ask : Int), .int .i64 (N : Int)] 42) := ⟨_, rfl⟩
  have hgW : w2.grownBy W none := by rw [hW]; exact World.grownBy_alloc _ _ none
  have HXW : Hid (PhAt w W w.heap.size #[.slice ta tn tc, .slice na nn nc, .slice la ln lc, .int .i64 st, .slice pa n pc]) := HX1.out.kept (grown_trans hg2 hgW)
  have HAW : Hid (W.heap[ab]? = some (.cells #[.slice sa N sc, .int .i64 (ask : Int), .int .i64 (N : Int)] 42 (0, 0))) := by rw [hW, hab]; exact heap_alloc_last w2 _
  have HWE := show Hid _ from hW
  have HBE := show Hid _ from hab
  have hPW := hAP.kept hgW
  obtain ⟨sb, sc', hsv, -, -⟩ := hPW.st (q := qn) (by rw [← HN.out]; exact hqn)
  simp only [Value.slice.injEq] at hsv
  obtain ⟨rfl, _, rfl⟩ := hsv
  have HST : Hid (∀ q, q < N → ∃ ka kc, ∀ Y, W.grownBy Y none → Y.cell? ⟨sb, q * 2, none⟩ = some (.slice ka (ks.getD q []).length kc) ∧ ItsAt Y ka (ks.getD q []) ∧ (ka = none → (ks.getD q []).length = 0 ∧ kc = 0)) := fun q hq => by
    obtain ⟨sb2, sc2, hsv2, hs2, _⟩ := hPW.st (q := q) (by rw [← HN.out]; exact hq)
    simp only [Value.slice.injEq, Option.some.injEq, Addr.mk.injEq] at hsv2
    obtain ⟨⟨rfl, _⟩, _⟩ := hsv2
    obtain ⟨ka, kc, h1, h2, h3⟩ := hPW.kerAt (q := q) (by rw [← HN.out]; exact hq)
    rw [h1] at hs2
    exact ⟨ka, kc, fun Y hY => ⟨hY.cell hs2 (by simp), h2.kept hY, h3⟩⟩
  have HCE : Hid (∀ Y, W.grownBy Y none → (Y.cell? ⟨w.heap.size, 0, none⟩ = some (.slice ta tn tc) ∧ Y.cell? ⟨w.heap.size, 1, none⟩ = some (.slice na nn nc) ∧ Y.cell? ⟨w.heap.size, 2, none⟩ = some (.slice la ln lc) ∧ Y.cell? ⟨w.heap.size, 3, none⟩ = some (.int .i64 st) ∧ Y.cell? ⟨w.heap.size, 4, none⟩ = some (.slice pa n pc)) ∧ Y.cell? ⟨ab, 0, none⟩ = some (.slice (some ⟨sb, 0, none⟩) N sc)) := fun Y hY => ⟨(HXW.out.kept hY).cells, by rw [cell_of_row _ _ _ _ _ _ (box_kept HAW.out hY)]; rfl⟩
  clear hg2 hAP HX1 k0 k1 k2 k3 k4 hW hab hgW hPW
  obtain ⟨_, y0⟩ := HCE.out W (grown_refl _ _)
  rw [HWE.out, HBE.out] at y0
  go_wp2_with fail
  rw [← HWE.out, ← HBE.out]
  clear HWE HBE y0
  obtain ⟨ka, kc, hk⟩ := HST.out qn hqn
  have HK := show Hid _ from hk
  obtain ⟨kl, hkl⟩ : ∃ k, k = (ks.getD qn []).length := ⟨_, rfl⟩
  have HCC := show Hid _ from fun (Y : World) (hY : W.grownBy Y none) => HCL.out Y ka kc qn (grown_trans HXW.out.grown hY) hqn (HK.out Y hY).2.1 (HK.out Y hY).2.2
  rw [← hkl] at HCC HK
  have HKS : Hid (∀ Y, W.grownBy Y none → ((Y.cell? ⟨w.heap.size, 0, none⟩ = some (.slice ta tn tc) ∧ Y.cell? ⟨w.heap.size, 1, none⟩ = some (.slice na nn nc) ∧ Y.cell? ⟨w.heap.size, 2, none⟩ = some (.slice la ln lc) ∧ Y.cell? ⟨w.heap.size, 3, none⟩ = some (.int .i64 st) ∧ Y.cell? ⟨w.heap.size, 4, none⟩ = some (.slice pa n pc)) ∧ Y.cell? ⟨ab, 0, none⟩ = some (.slice (some ⟨sb, 0, none⟩) N sc)) ∧ Y.cell? ⟨sb, qn * 2, none⟩ = some (.slice ka kl kc)) := fun Y hY => ⟨HCE.out Y hY, (HK.out Y hY).1⟩
  have HUP : Hid (W.grownBy W.drew none) := grown_drewN _ 1
  clear hk hkl
  go_region_held3 (fun Y => ((Y.cell? ⟨w.heap.size, 0, none⟩ = some (.slice ta tn tc) ∧ Y.cell? ⟨w.heap.size, 1, none⟩ = some (.slice na nn nc) ∧ Y.cell? ⟨w.heap.size, 2, none⟩ = some (.slice la ln lc) ∧ Y.cell? ⟨w.heap.size, 3, none⟩ = some (.int .i64 st) ∧ Y.cell? ⟨w.heap.size, 4, none⟩ = some (.slice pa n pc)) ∧ Y.cell? ⟨ab, 0, none⟩ = some (.slice (some ⟨sb, 0, none⟩) N sc)) ∧ Y.cell? ⟨sb, qn * 2, none⟩ = some (.slice ka kl kc)) (first | exact HKS.out _ HUP.out | exact HKS.out _ HG3.out | go_keep)
    ((first
      | (go_at_call 15; refine Calls.mono (HCC.out _ HUP.out) ?_; rintro e w3 ⟨a3, c3, rfl, ho3, hg3⟩; have HG3 : Hid (W.grownBy w3 none) := grown_trans HUP.out hg3; have HI3 : Hid (∀ Y, w3.grownBy Y none → ItsAt Y a3 (CL qn)) := fun Y hY => (ItsAt.of ho3).kept hY; clear hg3 ho3)
      | fail))
  obtain ⟨l, hl⟩ : ∃ l, l = CL qn := ⟨_, rfl⟩
  have HL : Hid (l = CL qn) := hl
  rw [← hl] at HI3 HIT HWR HWL ⊢
  obtain ⟨M, hM⟩ : ∃ m, m = l.length := ⟨_, rfl⟩
  have HM : Hid (M = l.length) := hM
  have hMb : M ≤ 3354001 := by rw [hM, hl]; exact HCB.out qn hqn
  rw [← hM]
  clear hl hM HKS HUP HCC HK
  go_wp2_with fail
  go_loopg [13] M (fun gk v13 wr => ∃ i : Nat, i ≤ M ∧ gk = M - i ∧ v13 = .int .i64 i ∧ w3.grownBy wr none)
  case atStart => exact ⟨0, Nat.zero_le _, rfl, rfl, grown_refl _ _⟩
  case round =>
    obtain ⟨i, hi, hgi, rfl, hg⟩ := hrel
    have HGI : Hid (gk = M - i) := hgi
    have HGZ : Hid (w3.grownBy wr none) := hg
    clear hgi hg
    generalize wr = Z at *
    by_cases hlt : i < M
    · have hid : decide (i < M) = true := decide_eq_true hlt
      have hi0 : (0 : Int) ≤ (i : Int) := by omega
      have hi1 : (i : Int) < (M : Int) := by omega
      have hil : i < l.length := by rw [← HM.out]; exact hlt
      have hmem := getD_memI hil
      have hitx := HIT.out _ hmem
      obtain ⟨lb, lo, hla, c0, c1⟩ := (HI3.out Z HGZ.out).cellAt hil
      subst hla
      have HLC : Hid (∀ Y, w3.grownBy Y none → Y.cell? ⟨lb, lo + i * 2, none⟩ = some (.int .i64 (l.getD i (0, 0)).1) ∧ Y.cell? ⟨lb, lo + i * 2 + 1, none⟩ = some (.int .i64 (l.getD i (0, 0)).2)) := fun Y hY => by
        obtain ⟨b3, o3, h1, h2, h3⟩ := (HI3.out Y hY).cellAt hil
        simp only [Option.some.injEq, Addr.mk.injEq, and_true] at h1
        obtain ⟨rfl, rfl⟩ := h1
        exact ⟨h2, h3⟩
      obtain ⟨x, hx⟩ : ∃ x, x = l.getD i (0, 0) := ⟨_, rfl⟩
      rw [← hx] at c0 c1 hmem hitx HLC
      obtain ⟨xp, xd⟩ := x
      unfold itB at hitx
      simp only [Bool.and_eq_true, decide_eq_true_eq] at hitx
      obtain ⟨⟨⟨b1, b2⟩, b3⟩, b4⟩ := hitx
      simp only at c0 c1 HLC b1 b2 b3
      obtain ⟨P, rfl⟩ : ∃ P : Nat, xp = (P : Int) := ⟨xp.toNat, by omega⟩
      obtain ⟨d, rfl⟩ : ∃ d : Nat, xd = (d : Int) := ⟨xd.toNat, by omega⟩
      have hPn : P < n := by omega
      obtain ⟨⟨k0, k1, k2, k3, k4⟩, y0⟩ := HCE.out Z (grown_trans HG3.out HGZ.out)
      by_cases hd0 : d = 0
      · subst hd0
        have e1 : decide ((0 : Int) < ((0 : Nat) : Int)) = false := rfl
        have e2 : decide ((P : Int) < 0) = false := decide_eq_false (by omega)
        have e3 : decide (n ≤ P) = false := decide_eq_false (by omega)
        have e4 : decide ((n : Int) ≤ (P : Int)) = false := decide_eq_false (by omega)
        have hP0 : (0 : Int) ≤ (P : Int) := by omega
        have hP1 : (P : Int) < (n : Int) := by omega
        have c1' : Z.cell? ⟨lb, lo + i * 2 + 1, none⟩ = some (.int .i64 0) := c1
        obtain ⟨t, htN, htm, hWRt⟩ := HWR.out P hPn hmem
        obtain ⟨v, hvP, hWLv⟩ := HWL.out P hPn hmem
        have HTM : Hid (((P : Int), ((R P).length : Int)) ∈ CL t) := htm
        have HWT := show Hid _ from hWRt
        have HWV := show Hid _ from hWLv
        obtain ⟨bp, op, hpa, p0, p1, p2⟩ : ∃ bp op, pa = some ⟨bp, op, none⟩ ∧ Z.cell? ⟨bp, op + P * 3, none⟩ = some (.int .i64 (L P)) ∧ Z.cell? ⟨bp, op + P * 3 + 1, none⟩ = some (.slice (ra P) (R P).length (rc P)) ∧ Z.cell? ⟨bp, op + P * 3 + 2, none⟩ = some (.int .i64 (V P)) := by
          rcases HPR.out Z (grown_trans HXW.out.grown (grown_trans HG3.out HGZ.out)) with h | ⟨bp, op, e, h⟩
          · omega
          · exact ⟨bp, op, e, (h P hPn).1, (h P hPn).2.1, (h P hPn).2.2.1⟩
        subst hpa
        clear htm hWRt hWLv c1 b1 b2 b3 b4 hx hmem hil
        go_wp2_with fail
        go_quiet (fail)
        obtain ⟨Z1, hZ1⟩ : ∃ X, X = Z.drewN nq := ⟨_, rfl⟩
        rw [← hZ1]
        have HZ1 : Hid (Z.grownBy Z1 none) := by show Z.grownBy Z1 none; rw [hZ1]; exact grown_drewN _ _
        have q0 := HZ1.out.cell p0 (by simp)
        have q1 := HZ1.out.cell p1 (by simp)
        have q2 := HZ1.out.cell p2 (by simp)
        have q3 := HZ1.out.cell c0 (by simp)
        have q4 := HZ1.out.cell k4 (by simp)
        have q0' := fun o => (World.grownBy_alloc Z1 o none).cell q0 (by simp)
        have q1' := fun o => (World.grownBy_alloc Z1 o none).cell q1 (by simp)
        have q2' := fun o => (World.grownBy_alloc Z1 o none).cell q2 (by simp)
        have q3' := fun o => (World.grownBy_alloc Z1 o none).cell q3 (by simp)
        have q4' := fun o => (World.grownBy_alloc Z1 o none).cell q4 (by simp)
        clear hZ1 p0 p1 p2 c0 c1' k0 k1 k2 k3 k4 y0
        go_wp2_with fail
        go_region
        obtain ⟨Z2, hZ2⟩ : ∃ X, X = (Z1.alloc (.cells #[.int .i64 (L P), .slice (ra P) (R P).length (rc P), .int .i64 (V P)] 57)).drew := ⟨_, rfl⟩
        obtain ⟨pb, hpb⟩ : ∃ b, b = Z1.heap.size := ⟨_, rfl⟩
        have HG2 : Hid (w3.grownBy Z2 none) := by show w3.grownBy Z2 none; rw [hZ2]; exact grown_trans HGZ.out (grown_trans HZ1.out (grown_trans (World.grownBy_alloc _ _ none) (grown_drewN _ 1)))
        have HPB : Hid (Z2.heap[pb]? = some (.cells #[.int .i64 (L P), .slice (ra P) (R P).length (rc P), .int .i64 (V P)] 57 (0, 0))) := by rw [hZ2, hpb]; exact heap_alloc_last Z1 _
        rw [← hZ2, ← hpb]
        obtain ⟨rl, hrl⟩ : ∃ r, r = (R P).length := ⟨_, rfl⟩
        have hrlb : rl ≤ 17592186044416 := by rw [hrl]; exact gright (HPR.out w (grown_refl _ _)) P hPn
        rw [← hrl] at HPB HWT HTM
        rw [← hrl]
        have HPC : Hid (∀ Y, Z2.grownBy Y none → Y.cell? ⟨pb, 0, none⟩ = some (.int .i64 (L P)) ∧ Y.cell? ⟨pb, 1, none⟩ = some (.slice (ra P) rl (rc P))) := fun Y hY => ⟨by rw [cell_of_row _ _ _ _ _ _ (box_kept HPB.out hY)]; rfl, by rw [cell_of_row _ _ _ _ _ _ (box_kept HPB.out hY)]; rfl⟩
        clear hZ2 hpb hrl q0 q1 q2 q3 q4 q0' q1' q2' q3' q4'
        obtain ⟨⟨k0, k1, k2, k3, k4⟩, y0⟩ := HCE.out Z2 (grown_trans HG3.out HG2.out)
        obtain ⟨r0, r1⟩ := HPC.out Z2 (grown_refl _ _)
        have HWTC := show Hid _ from HWT.out Z2 (grown_trans HXW.out.grown (grown_trans HG3.out HG2.out))
        go_wp2_with fail
        refine Calls.mono HWTC.out ?_
        rintro e w5 ⟨rfl, hg5⟩
        have HG5 : Hid (Z2.grownBy w5 none) := hg5
        have HGW5 : Hid (W.grownBy w5 none) := grown_trans HG3.out (grown_trans HG2.out hg5)
        clear hg5 HWTC k0 k1 k2 k3 k4 y0 r0 r1
        have g1 : decide ((t : Int) < 0) = false := decide_eq_false (by omega)
        have g2 : decide (N ≤ t) = false := decide_eq_false (by omega)
        have g3 : decide ((N : Int) ≤ (t : Int)) = false := decide_eq_false (by omega)
        have ht0 : (0 : Int) ≤ (t : Int) := by omega
        have ht1 : (t : Int) < (N : Int) := by omega
        obtain ⟨_, y0⟩ := HCE.out w5 HGW5.out
        obtain ⟨ka2, kc2, hk2⟩ := HST.out t htN
        have HK2 := show Hid _ from hk2
        obtain ⟨kl2, hkl2⟩ : ∃ k, k = (ks.getD t []).length := ⟨_, rfl⟩
        have HCC2 := show Hid _ from fun (Y : World) (hY : W.grownBy Y none) => HCL.out Y ka2 kc2 t (grown_trans HXW.out.grown hY) htN (HK2.out Y hY).2.1 (HK2.out Y hY).2.2
        rw [← hkl2] at HCC2 HK2
        have HKS2 : Hid (∀ Y, W.grownBy Y none → ((Y.cell? ⟨w.heap.size, 0, none⟩ = some (.slice ta tn tc) ∧ Y.cell? ⟨w.heap.size, 1, none⟩ = some (.slice na nn nc) ∧ Y.cell? ⟨w.heap.size, 2, none⟩ = some (.slice la ln lc) ∧ Y.cell? ⟨w.heap.size, 3, none⟩ = some (.int .i64 st) ∧ Y.cell? ⟨w.heap.size, 4, none⟩ = some (.slice (some ⟨bp, op, none⟩) n pc)) ∧ Y.cell? ⟨ab, 0, none⟩ = some (.slice (some ⟨sb, 0, none⟩) N sc)) ∧ Y.cell? ⟨sb, t * 2, none⟩ = some (.slice ka2 kl2 kc2)) := fun Y hY => ⟨HCE.out Y hY, (HK2.out Y hY).1⟩
        have HUP2 : Hid (W.grownBy w5.drew none) := grown_trans HGW5.out (grown_drewN _ 1)
        have HUP3 : Hid (Z2.grownBy w5.drew none) := grown_trans HG5.out (grown_drewN _ 1)
        clear hk2 hkl2
        go_wp2_with fail
        clear y0
        go_region_held3 (fun Y => ((Y.cell? ⟨w.heap.size, 0, none⟩ = some (.slice ta tn tc) ∧ Y.cell? ⟨w.heap.size, 1, none⟩ = some (.slice na nn nc) ∧ Y.cell? ⟨w.heap.size, 2, none⟩ = some (.slice la ln lc) ∧ Y.cell? ⟨w.heap.size, 3, none⟩ = some (.int .i64 st) ∧ Y.cell? ⟨w.heap.size, 4, none⟩ = some (.slice (some ⟨bp, op, none⟩) n pc)) ∧ Y.cell? ⟨ab, 0, none⟩ = some (.slice (some ⟨sb, 0, none⟩) N sc)) ∧ Y.cell? ⟨sb, t * 2, none⟩ = some (.slice ka2 kl2 kc2)) (first | exact HKS2.out _ HUP2.out | exact HKS2.out _ HGW6.out | go_keep)
          ((first
            | (go_at_call 15; refine Calls.mono (HCC2.out _ HUP2.out) ?_; rintro e w6 ⟨a6, c6, rfl, ho6, hg6⟩; have HGW6 : Hid (W.grownBy w6 none) := grown_trans HUP2.out hg6; have HG6 : Hid (Z2.grownBy w6 none) := grown_trans HUP3.out hg6; have HI6 : Hid (∀ Y, w6.grownBy Y none → ItsAt Y a6 (CL t)) := fun Y hY => (ItsAt.of ho6).kept hY; clear hg6 ho6)
            | fail))
        obtain ⟨en, hen⟩ : ∃ l, l = CL t := ⟨_, rfl⟩
        have henb : en.length ≤ 3354001 := by rw [hen]; exact HCB.out t htN
        rw [← hen] at HI6 HTM ⊢
        obtain ⟨E, hE⟩ : ∃ m, m = en.length := ⟨_, rfl⟩
        have HE : Hid (E = en.length) := hE
        rw [← hE] at henb ⊢
        clear hen hE HKS2 HUP2 HUP3 HCC2 HK2
        go_wp2_with fail
        go_loopg [19, 20] E (fun gk v19 v20 wr => ∃ (o : Nat) (b : Bool), o ≤ E ∧ gk = E - o ∧ v20 = .int .i64 o ∧ v19 = .bool b ∧ w6.grownBy wr none ∧ (b = true ↔ ((P : Int), (rl : Int)) ∈ en.take o))
        case atStart => exact ⟨0, false, Nat.zero_le _, rfl, rfl, rfl, grown_refl _ _, by simp⟩
        case round =>
          obtain ⟨o, b, ho, hgo, rfl, rfl, hg7, hb⟩ := hrel
          have HGO : Hid (gk = E - o) := hgo
          have HG7 : Hid (w6.grownBy wr none) := hg7
          have HB : Hid (b = true ↔ ((P : Int), (rl : Int)) ∈ en.take o) := hb
          clear hgo hg7 hb
          by_cases hlo : o < E
          · have hod : decide (o < E) = true := decide_eq_true hlo
            have ho0 : (0 : Int) ≤ (o : Int) := by omega
            have ho1 : (o : Int) < (E : Int) := by omega
            have hol : o < en.length := by rw [← HE.out]; exact hlo
            obtain ⟨nb, no, hna, d0, d1⟩ := (HI6.out wr HG7.out).cellAt hol
            subst hna
            have HTS : Hid (((P : Int), (rl : Int)) ∈ en.take (o + 1) ↔ ((P : Int), (rl : Int)) ∈ en.take o ∨ en.getD o (0, 0) = ((P : Int), (rl : Int))) := mem_take_succ hol _
            obtain ⟨u0, -⟩ := HLC.out wr (grown_trans HG2.out (grown_trans HG6.out HG7.out))
            obtain ⟨-, u1⟩ := HPC.out wr (grown_trans HG6.out HG7.out)
            cases b with
            | true =>
              have HNX2 : Hid (((P : Int), (rl : Int)) ∈ en.take (o + 1)) := HTS.out.2 (.inl (HB.out.1 rfl))
              clear HB HTS d0 d1 u0 u1 hol
              go_wp2_with fail
              go_quiet (fail)
              go_wp2_with fail
              go_roundg (E - (o + 1))
              case measure => have := HGO.out; omega
              case rel => exact ⟨o + 1, true, by omega, rfl, by go_num, rfl, grown_trans HG7.out (grown_drewN _ _), ⟨fun _ => HNX2.out, fun _ => rfl⟩⟩
            | false =>
              obtain ⟨x, hx⟩ : ∃ x, x = en.getD o (0, 0) := ⟨_, rfl⟩
              rw [← hx] at d0 d1 HTS
              obtain ⟨bb, hbb⟩ : ∃ b, b = (x.1 == (P : Int) && x.2 == (rl : Int)) := ⟨_, rfl⟩
              have HNX : Hid (bb = true ↔ ((P : Int), (rl : Int)) ∈ en.take (o + 1)) := by
                show _ ↔ _
                rw [HTS.out, hbb, Bool.and_eq_true, beq_iff_eq, beq_iff_eq]
                constructor
                · intro h; exact .inr (Prod.ext h.1 h.2)
                · rintro (h | h)
                  · exact absurd (HB.out.2 h) (by decide)
                  · exact ⟨congrArg Prod.fst h, congrArg Prod.snd h⟩
              obtain ⟨xp, xd⟩ := x
              simp only at d0 d1 hbb
              have hEI : ∀ X : World, (binOp .eql 55 (.agg #[.int .i64 xp, .int .i64 xd]) (.agg #[.int .i64 (P : Int), .int .i64 (rl : Int)])).run Try.prog X = .ok (.bool bb) X := fun X => by rw [hbb]; exact eq_item xp xd (P : Int) (rl : Int) X
              clear HB HTS hbb hx hol
              go_wp2_with fail
              go_quiet (fail)
              go_wp2_with fail
              go_roundg (E - (o + 1))
              case measure => have := HGO.out; omega
              case rel => exact ⟨o + 1, bb, by omega, rfl, by go_num, rfl, grown_trans HG7.out (grown_drewN _ _), HNX.out⟩
          · have hoE : E = o := by omega
            subst hoE
            have hod : decide (E < E) = false := decide_eq_false (by omega)
            have hbt : b = true := HB.out.2 (by rw [HE.out, List.take_length]; exact HTM.out)
            subst hbt
            clear HB
            obtain ⟨⟨k0, k1, k2, k3, k4⟩, y0⟩ := HCE.out wr (grown_trans HGW6.out HG7.out)
            obtain ⟨r0, r1⟩ := HPC.out wr (grown_trans HG6.out HG7.out)
            have HWVC := show Hid _ from HWV.out (wr.alloc (.cells #[.int .i64 (L P)] 3)) wr.heap.size (grown_trans HXW.out.grown (grown_trans HGW6.out (grown_trans HG7.out (World.grownBy_alloc _ _ none)))) (.inr ⟨wr.heap.size, 0, rfl, fun i hi => by
              have h9 : i = 0 := by simp at hi; omega
              subst h9
              rw [cell_of_row _ _ _ _ _ _ (heap_alloc_last wr _)]; rfl⟩)
            go_wp2_with fail
            refine Calls.mono HWVC.out ?_
            rintro e w8 ⟨rfl, hg8⟩
            have HG8 : Hid (w3.grownBy w8 none) := grown_trans HG2.out (grown_trans HG6.out (grown_trans HG7.out (grown_trans (World.grownBy_alloc _ _ none) hg8)))
            clear hg8 HWVC k0 k1 k2 k3 k4 y0 r0 r1
            obtain ⟨u0, -⟩ := HLC.out w8 HG8.out
            obtain ⟨bb, hbb⟩ : ∃ b, b = ((P : Int) == 0) := ⟨_, rfl⟩
            rw [← hbb] at hvP
            have hbb' : ((P : Int) == 0) = bb := hbb.symm
            clear hbb
            cases bb
            all_goals
              go_wp2_with fail
              go_roundg (M - (i + 1))
            all_goals first
              | exact (show ∃ i' : Nat, _ from ⟨i + 1, by omega, rfl, by go_num, HG8.out⟩)
              | (have := HGI.out; omega)
      · have e1 : decide ((0 : Int) < (d : Int)) = true := decide_eq_true (by omega)
        have e2 : decide (0 < d) = true := decide_eq_true (by omega)
        clear hx hmem hil b1 b2 b3 b4
        go_wp2_with fail
        go_quiet (fail)
        go_wp2_with fail
        go_roundg (M - (i + 1))
        case measure => have := HGI.out; omega
        case rel => exact ⟨i + 1, by omega, rfl, by go_num, grown_trans HGZ.out (grown_drewN _ _)⟩
    · have hiM : M = i := by omega
      subst hiM
      have hid : decide (M < M) = false := decide_eq_false (by omega)
      go_wp2_with fail
      go_ret
      exact ⟨rfl, grown_trans HXW.out.grown (grown_trans HG3.out HGZ.out)⟩
end

end Go.Proofs.Ytfllgmbnljfboaa.J

/-
  trans: the law TransRights, for every input.
-/
namespace Go.Proofs.Ytfllgmbnljfboaa.J
open Go.RowKit Go.Maps Go.Shelf Go.ChangeShapes Go.WideShapes Go.ChangeAt Go.Deep

theorem calls_exR {P : Program} {f : FuncId} {args : Array Value} {w : World} {R : Ending → World → Prop} (h : Calls P f args w R) : ∃ e y, R e y := by
  obtain ⟨e, y, _, h1, _⟩ := h []
  exact ⟨e, y, h1⟩
theorem good_sym {S : Nat} {x : Int} (h : 0 ≤ x) (h2 : x < (S : Int)) : noB S x = false := by
  unfold noB
  rw [decide_eq_true ⟨h, h2⟩]; rfl

theorem rights_core (ta na la pa : Option Addr) (tc nc lc pc : Nat) (ts : List (ByteArray × Int)) (ns : List ByteArray) (lv : List Int) (n : Nat) (L : Nat → Int) (R : Nat → List Int) (ra : Nat → Option Addr) (rc : Nat → Nat) (V : Nat → Int) (st : Int) (w : World) (tn nn ln : Nat) (hlen : ts.length = tn ∧ ns.length = nn ∧ lv.length = ln) (hG : GAt w ta na la pa tc nc lc pc ts ns lv n L R ra rc V) (z : Int) (hz : -9223372036854775808 ≤ z ∧ z ≤ 9223372036854775807) : Calls Try.prog 5 #[.agg #[.slice ta tn tc, .slice na nn nc, .slice la ln lc, .int .i64 st, .slice pa n pc], .int .i64 z] w fun e w' => e = .returned (.bool true) ∧ w.grownBy w' none := by
  by_cases hc : closedOK ts ns lv st n L R V
  · have hM : MayOK tn nn n st L R true := by obtain ⟨rfl, rfl, rfl⟩ := hlen; exact mayOK_closed hc
    cases hau : autoF (GG tn n L R) (tn + nn) 256 with
    | none => exact rights_bad ta na la pa tc nc lc pc n st w tn nn ln z 11 (.inr rfl) (ofBad11 ta na la pa tc nc lc pc ts ns lv n L R ra rc V st w tn nn ln hlen hG hc hau) (build_none ta na la pa tc nc lc pc ts ns lv n L R ra rc V st w tn nn ln hlen hG hc hau)
    | some p =>
      obtain ⟨ks, es⟩ := p
      obtain ⟨hO, hE⟩ := ofOk ta na la pa tc nc lc pc ts ns lv n L R ra rc V st w tn nn ln hlen hG hc hau
      have hA := autF hM.p0 hau
      have hB := build_some ta na la pa tc nc lc pc ts ns lv n L R ra rc V st w tn nn ln hlen hG hc hau
      have hkl : ∀ q, q < ks.length → (ks.getD q []).length ≤ 3341001 := fun q hq => (hA.kok.each q hq).len (by have := hA.kok.le; omega)
      have hNo : ∀ k, k < n → ∀ x ∈ R k, x ≠ (tn : Int) := by rw [← hlen.1]; exact no_added hc
      have hCl : ∀ q, q < ks.length → IsClo tn n L R (ks.getD q []) (CLo tn n L R (ks.getD q [])) ∧ (CLo tn n L R (ks.getD q [])).length ≤ (ks.getD q []).length + 13000 := fun q hq => by
        obtain ⟨_, y, sa, sc, kv, ev, _, hAP, hg⟩ := calls_exR (hB w (grown_refl _ _))
        obtain ⟨a, c, _, hI, hn⟩ := hAP.kerAt hq
        obtain ⟨_, _, l, h1, h2, _⟩ := calls_exR (closureOk ta na la pa tc nc lc pc ts ns lv n L R ra rc V st y tn nn ln hlen (hG.kept hg) a c (ks.getD q []) hI (by have := hkl q hq; omega) hn hc (hA.kok.each q hq).1)
        rw [CLo_eq h1 h2]
        exact ⟨h1, h2⟩
      have hCL : ∀ X a' c' q, w.grownBy X none → q < ks.length → ItsAt X a' (ks.getD q []) → (a' = none → (ks.getD q []).length = 0 ∧ c' = 0) → Calls Try.prog 15 #[.agg #[.slice ta tn tc, .slice na nn nc, .slice la ln lc, .int .i64 st, .slice pa n pc], .slice a' (ks.getD q []).length c'] X fun e y => ItsErr (CLo tn n L R (ks.getD q [])) 0 X e y := fun X a' c' q hX hq hI hn => by
        refine (closureOk ta na la pa tc nc lc pc ts ns lv n L R ra rc V st X tn nn ln hlen (hG.kept hX) a' c' (ks.getD q []) hI (by have := hkl q hq; omega) hn hc (hA.kok.each q hq).1).mono ?_
        rintro e y ⟨l, h1, h2, he⟩
        rw [CLo_eq h1 h2]
        exact he
      have hCLb : ∀ q, q < ks.length → (CLo tn n L R (ks.getD q [])).length ≤ 3354001 := fun q hq => by
        have h1 := (hCl q hq).2
        have h2 := hkl q hq
        omega
      have hWR : ∀ qn, qn < ks.length → ∀ P, P < n → ((P : Int), (0 : Int)) ∈ CLo tn n L R (ks.getD qn []) → ∃ t : Nat, t < ks.length ∧ ((P : Int), ((R P).length : Int)) ∈ CLo tn n L R (ks.getD t []) ∧ ∀ X, w.grownBy X none → Calls Try.prog 10 #[.agg #[.slice ta tn tc, .slice na nn nc, .slice la ln lc, .int .i64 st, .slice pa n pc], .int .i64 (qn : Int), .slice (ra P) (R P).length (rc P)] X fun e y => e = .returned (.tuple #[.int .i64 (t : Int), .int .i64 0]) ∧ X.grownBy y none := fun qn hqn P hP hx => by
        obtain ⟨t, h1, h2, h3⟩ := right_way hA hM.right (fun q hq => (hCl q hq).1) hqn hP hx (R P).length (Nat.le_refl _)
        rw [List.take_length] at h2
        refine ⟨t, h1, h3, fun X hX => ?_⟩
        rcases prods_kept hG.prods hX with h0 | ⟨bp, op, _, h4⟩
        · omega
        · have h := walkX_ok ta na la pa tc nc lc pc n st X tn nn ln ks es hM.tmax hM.nmax hE.le hE.ok (fun Y hY => hO Y (grown_trans hX hY)) qn hqn (ra P) (rc P) (R P) (h4 P hP).2.2.2.1 (by have := (h4 P hP).2.2.2.2.2; omega) (fun x hx => good_sym (by have := (hM.right P hP x hx).1; omega) (hM.right P hP x hx).2)
          rw [h2] at h
          exact h
      have hWL : ∀ qn, qn < ks.length → ∀ P, P < n → ((P : Int), (0 : Int)) ∈ CLo tn n L R (ks.getD qn []) → ∃ v : Int, (decide (v < 0) = ((P : Int) == 0)) ∧ ∀ X b, w.grownBy X none → IntsAt X (some ⟨b, 0, none⟩) [L P] → Calls Try.prog 10 #[.agg #[.slice ta tn tc, .slice na nn nc, .slice la ln lc, .int .i64 st, .slice pa n pc], .int .i64 (qn : Int), .slice (some ⟨b, 0, none⟩) 1 1] X fun e y => e = .returned (.tuple #[.int .i64 v, .int .i64 0]) ∧ X.grownBy y none := fun qn hqn P hP hx => by
        have hw : ∀ X b, w.grownBy X none → IntsAt X (some ⟨b, 0, none⟩) [L P] → Calls Try.prog 10 #[.agg #[.slice ta tn tc, .slice na nn nc, .slice la ln lc, .int .i64 st, .slice pa n pc], .int .i64 (qn : Int), .slice (some ⟨b, 0, none⟩) 1 1] X fun e y => e = .returned (.tuple #[.int .i64 (wayV (leadA es ((qn : Int), L P))), .int .i64 0]) ∧ X.grownBy y none := fun X b hX hI =>
          walkX_ok ta na la pa tc nc lc pc n st X tn nn ln ks es hM.tmax hM.nmax hE.le hE.ok (fun Y hY => hO Y (grown_trans hX hY)) qn hqn (some ⟨b, 0, none⟩) 1 [L P] hI (by simp) (fun x hx => by
            rw [List.mem_singleton.1 hx]
            exact good_sym (by have := (hM.left P hP).1; omega) (hM.left P hP).2)
        by_cases h0 : P = 0
        · subst h0
          refine ⟨-1, rfl, fun X b hX hI => ?_⟩
          have h := hw X b hX hI
          rw [(hM.added rfl).1, left_none hA hNo hqn] at h
          exact h
        · obtain ⟨t, _, h2⟩ := left_edge hA (fun q hq => begun_state hM.p0 hau hq) (fun q hq => (hCl q hq).1) hM.left hqn hP h0 hx
          refine ⟨(t : Int), by rw [decide_eq_false (by omega), beq_eq_false_iff_ne.2 (by omega)], fun X b hX hI => ?_⟩
          have h := hw X b hX hI
          rw [h2] at h
          exact h
      have key : ∀ zn : Nat, zn % ks.length < ks.length := fun zn => Nat.mod_lt _ hA.pos
      by_cases h0 : 0 ≤ z
      · obtain ⟨zn, rfl⟩ : ∃ zn : Nat, z = (zn : Int) := ⟨z.toNat, by omega⟩
        exact rights_pos ta na la pa tc nc lc pc n L R ra rc V st w tn nn ln (zn : Int) ks.length (askN es) (zn % ks.length) zn rfl (by omega) ks (elF es) (fun q => CLo tn n L R (ks.getD q [])) rfl (key zn) rfl hG.prods hCLb (CLo_item (hA.kok.each _ (key zn)).1) hB hCL (hWR _ (key zn)) (hWL _ (key zn))
      · obtain ⟨zn, rfl⟩ : ∃ zn : Nat, z = -(zn : Int) - 1 := ⟨(-(z + 1)).toNat, by omega⟩
        exact rights_neg ta na la pa tc nc lc pc n L R ra rc V st w tn nn ln _ ks.length (askN es) (zn % ks.length) zn rfl (by omega) ks (elF es) (fun q => CLo tn n L R (ks.getD q [])) rfl (key zn) rfl hG.prods hCLb (CLo_item (hA.kok.each _ (key zn)).1) hB hCL (hWR _ (key zn)) (hWL _ (key zn))
  · exact rights_bad ta na la pa tc nc lc pc n st w tn nn ln z 1 (.inl rfl) (ofBad1 ta na la pa tc nc lc pc ts ns lv n L R ra rc V st w tn nn ln hlen hG hc) (fun X hX => buildBad ta na la pa tc nc lc pc ts ns lv n L R ra rc V st X tn nn ln hlen (hG.kept hX) hc)

set_option maxRecDepth 100000 in
theorem open_int {H : Type} {enc : TypeId × Value → H} {W : World} {base : Nat} {v : Value} {d : DataW H} {p : List MemPlace} (hv : Value.okWide Try.prog W .any base 3 v) (h : DataW.Trod enc Try.prog W 0 (fun _ => true) true 3 v d p) : ∃ z, v = .int .i64 z ∧ (Lit.int .i64 z).wf = true := by
  obtain ⟨z, rfl⟩ := okWide_int Try.underlying3 hv
  obtain ⟨fuel, hf⟩ := h
  have hf' : DataW.trod enc Try.prog W 0 (fun _ => true) true fuel 3 [.int .i64 z] = some (d, p) := hf
  obtain ⟨z', e, h2⟩ := DataW.trod_int Try.underlying3 hf'
  simp only [List.cons.injEq, Value.int.injEq, and_true, true_and] at e
  subst e
  exact ⟨z, rfl, h2.2⟩

end Go.Proofs.Ytfllgmbnljfboaa.J
