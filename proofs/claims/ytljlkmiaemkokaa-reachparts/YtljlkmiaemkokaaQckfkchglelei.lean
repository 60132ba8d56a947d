import Derived.Test.YtljlkmiaemkokaaQelgepdnbhjej

/-
  reach, pure: the productions of the reduced grammar are some of the grammar's, in their order, and like them.
-/
namespace Go.Proofs.Ytljlkmiaemkokaa

theorem namesTo_pre (g : Nat → Bool) (ns : List ByteArray) (k : Nat) : ∀ n, k ≤ n → ∃ t, namesTo g ns n = namesTo g ns k ++ t
  | 0, h => ⟨[], by obtain rfl : k = 0 := by omega
                    simp⟩
  | n + 1, h => by
    by_cases e : k = n + 1
    · exact ⟨[], by rw [e]; simp⟩
    · obtain ⟨t, ht⟩ := namesTo_pre g ns k n (by omega)
      cases hg : g n with
      | true => exact ⟨t ++ [ns.getD n ⟨#[]⟩], by rw [namesTo_yes hg, ht, List.append_assoc]⟩
      | false => exact ⟨t, by rw [namesTo_no hg, ht]⟩
/-- The name of a nonterminal that stays. -/
theorem names_at {g : Nat → Bool} {ns : List ByteArray} {i n : Nat} (hi : i < n) (hg : g i = true) : (namesTo g ns n).getD (1 + cntU g i) ⟨#[]⟩ = ns.getD i ⟨#[]⟩ := by
  obtain ⟨t, ht⟩ := namesTo_pre g ns (i + 1) n hi
  rw [ht, namesTo_yes hg, List.append_assoc, List.getD_eq_getElem?_getD, List.getElem?_append_right (by rw [namesTo_len]; omega), namesTo_len, Nat.sub_self]
  rfl

/-- The places in the grammar of what stays. -/
def placesOf (n : Nat) (go : Nat → Bool) : List Nat := (List.range n).filter go
theorem places_lt {n : Nat} {go : Nat → Bool} {i : Nat} (hi : i < (placesOf n go).length) : (placesOf n go).getD i 0 < n ∧ go ((placesOf n go).getD i 0) = true := by
  rw [List.getD_eq_getElem?_getD, List.getElem?_eq_getElem hi, Option.getD_some]
  have := List.getElem_mem hi
  unfold placesOf at this
  rw [List.mem_filter, List.mem_range] at this
  exact this
theorem places_up {n : Nat} {go : Nat → Bool} {i j : Nat} (hij : i < j) (hj : j < (placesOf n go).length) : (placesOf n go).getD i 0 < (placesOf n go).getD j 0 := by
  have hp : List.Pairwise (· < ·) (placesOf n go) := List.Pairwise.filter _ List.pairwise_lt_range
  have hi : i < (placesOf n go).length := by omega
  rw [List.getD_eq_getElem?_getD, List.getElem?_eq_getElem hi, List.getD_eq_getElem?_getD, List.getElem?_eq_getElem hj, Option.getD_some, Option.getD_some]
  exact List.pairwise_iff_getElem.1 hp i j hi hj hij

theorem red_like {ts : List (ByteArray × Int)} {ns : List ByteArray} {lv : List Int} {n : Nat} {L : Nat → Int} {R : Nat → List Int} {V : Nat → Int} {st : Int} {tn nn : Nat} {F G : Nat → Bool} (hM : MarksOf tn nn n st L R false F G) (C : GR) (hC : C = redGR ts ns lv tn nn n st L R V G (fun k => goD tn L R F k G)) :
    C.prods.length = 1 + (placesOf n fun k => goD tn L R F k G).length ∧ ∀ i, i < (placesOf n fun k => goD tn L R F k G).length →
      likeP tn tn ns C.nons (L ((placesOf n fun k => goD tn L R F k G).getD i 0)) (C.prods.getD (1 + i) ⟨0, [], 0⟩).left (V ((placesOf n fun k => goD tn L R F k G).getD i 0)) (C.prods.getD (1 + i) ⟨0, [], 0⟩).level (R ((placesOf n fun k => goD tn L R F k G).getD i 0)) (C.prods.getD (1 + i) ⟨0, [], 0⟩).right := by
  obtain ⟨ks, hks⟩ : ∃ ks, ks = placesOf n fun k => goD tn L R F k G := ⟨_, rfl⟩
  have eP : C.prods = ⟨(tn : Int), [numTo tn G nn st.toNat], 0⟩ :: ks.map (prOf (numTo tn G nn) L R V) := by rw [hC, hks]; rfl
  have eN : C.nons = namesTo G ns nn := by rw [hC]; rfl
  refine ⟨by rw [← hks, eP]; simp; omega, fun i hi => ?_⟩
  obtain ⟨hk, hg⟩ := places_lt hi
  rw [← hks] at hi hk hg ⊢
  have hat : C.prods.getD (1 + i) ⟨0, [], 0⟩ = prOf (numTo tn G nn) L R V (ks.getD i 0) := by
    rw [eP, Nat.add_comm]
    simp [List.getD, hi]
  rw [hat, eN]
  generalize ks.getD i 0 = k at *
  have hgl : G (L k - tn).toNat = true := by
    have h0 := hg
    unfold goD at h0
    rw [Bool.and_eq_true] at h0
    exact h0.1
  have hname : ∀ x : Int, (tn : Int) ≤ x → x < ((tn + nn : Nat) : Int) → G (x - tn).toNat = true → (tn : Int) ≤ numTo tn G nn x.toNat ∧ ns.getD (x - tn).toNat ⟨#[]⟩ = (namesTo G ns nn).getD (numTo tn G nn x.toNat - tn).toNat ⟨#[]⟩ := fun x h1 h2 h3 => by
    have e := numTo_use (nn := nn) h1 h2 h3
    refine ⟨by rw [e]; omega, ?_⟩
    have e2 : (numTo tn G nn x.toNat - (tn : Int)).toNat = 1 + cntU G (x - tn).toNat := by rw [e]; omega
    rw [e2, names_at (by omega) h3]
  obtain ⟨l1, l2⟩ := hM.may.left k hk
  refine ⟨by simp [prOf], rfl, (hname _ l1 l2 hgl).2, fun j hj => ?_⟩
  have hx : (R k).getD j 0 ∈ R k := by rw [List.getD_eq_getElem?_getD, List.getElem?_eq_getElem hj]; exact List.getElem_mem hj
  have ey : (prOf (numTo tn G nn) L R V k).right.getD j 0 = numTo tn G nn ((R k).getD j 0).toNat := by
    show ((R k).map fun x => numTo tn G nn x.toNat).getD j 0 = _
    rw [List.getD_eq_getElem?_getD, List.getElem?_map, List.getElem?_eq_getElem hj, List.getD_eq_getElem?_getD, List.getElem?_eq_getElem hj]
    rfl
  rw [ey]
  generalize (R k).getD j 0 = x at *
  obtain ⟨x1, x2⟩ := hM.may.right k hk x hx
  by_cases hxt : x < (tn : Int)
  · have e := numTo_term (nn := nn) (g := G) (show 0 ≤ x by omega) hxt
    rw [e]
    exact ⟨fun _ => rfl, fun h => by omega⟩
  · have hgx := hM.closedU k hk hg x hx (by omega)
    obtain ⟨y1, y2⟩ := hname x (by omega) x2 hgx
    exact ⟨fun h => by omega, fun _ _ => y2⟩

end Go.Proofs.Ytljlkmiaemkokaa

/-
  reach: the document's Marks and Used of the reduced grammar.
-/
namespace Go.Proofs.Ytljlkmiaemkokaa
open Go.RowKit Go.Maps Go.Shelf

/-- A row of marks, all true from the second on. -/
def AllTold (m : Nat) (X : World) (e : Ending) (y : World) : Prop := ∃ k f, e = .returned (.slice (some ⟨k, 0, none⟩) m m) ∧ BoolAt y k m f ∧ (∀ i, 1 ≤ i → i < m → f i = true) ∧ X.grownBy y none

section
variable {ts : List (ByteArray × Int)} {ns : List ByteArray} {lv : List Int} {n : Nat} {L : Nat → Int} {R : Nat → List Int} {V : Nat → Int} {st : Int} {tn nn ln : Nat} {F G : Nat → Bool} (hlen : ts.length = tn ∧ ns.length = nn ∧ lv.length = ln) (hval : validOK ts ns lv st n L R V) (hM : MarksOf tn nn n st L R false F G) (hp : F (st - tn).toNat = true) (C : GR) (hC : C = redGR ts ns lv tn nn n st L R V G (fun k => goD tn L R F k G)) (hb : CBound C)
  (X : World) (B : Nat) (ta na la pa : Option Addr) (tc nc lc pc : Nat) (hN : GramNew X B C (.slice ta C.terms.length tc) (.slice na C.nons.length nc) (.slice la C.levels.length lc) (.slice pa C.prods.length pc))
include hlen hval hM hp hC hb hN

theorem cmarks_any : Calls Try.prog 25 #[.agg #[.slice ta C.terms.length tc, .slice na C.nons.length nc, .slice la C.levels.length lc, .int .i64 C.start, .slice pa C.prods.length pc]] X fun e w' => AllTold C.nons.length X e w' := by
  have hcl := red_closed hlen hval hM hp C hC
  obtain ⟨F', G', hM'⟩ := (mayOK_closed hcl).marksOf
  have et : C.terms.length = tn := by rw [hC]; exact hlen.1
  have hall := red_all hM hp C hC (et ▸ hM')
  obtain ⟨r1, r2, g1⟩ := GramNew.gat hN hb.t hb.s hb.l hb.p hb.r
  have htn := hM'.may.tmax
  refine (rmarks_any ta na la pa C.terms.length C.nons.length C.levels.length C.prods.length tc nc lc pc C.start _ _ r1 r2 _ X g1.prods hM'.may.pmax (by have := hM'.may.nmax; omega) hM'.may.left (fun k hk x hx => ⟨by have := hM'.may.right k hk x hx; omega, (hM'.may.right k hk x hx).2⟩)).mono ?_
  rintro e w' ⟨k, rfl, hk, ⟨f, hB, hF⟩, hg⟩
  rw [hM'.f_eq hF] at hB
  exact ⟨k, F', rfl, hB, fun i h1 h2 => (hall i h1 h2).1, hg⟩

theorem cused_any : Calls Try.prog 24 #[.agg #[.slice ta C.terms.length tc, .slice na C.nons.length nc, .slice la C.levels.length lc, .int .i64 C.start, .slice pa C.prods.length pc]] X fun e w' => AllTold C.nons.length X e w' := by
  have hcl := red_closed hlen hval hM hp C hC
  obtain ⟨F', G', hM'⟩ := (mayOK_closed hcl).marksOf
  have et : C.terms.length = tn := by rw [hC]; exact hlen.1
  have hall := red_all hM hp C hC (et ▸ hM')
  obtain ⟨r1, r2, g1⟩ := GramNew.gat hN hb.t hb.s hb.l hb.p hb.r
  refine (rused_any ta na la pa tc nc lc pc C.terms C.nons C.levels C.prods.length _ _ r1 r2 _ C.start X C.terms.length C.nons.length C.levels.length ⟨rfl, rfl, rfl⟩ g1 true hM'.may ⟨fun _ => hcl.1.name, fun _ => rfl⟩).mono ?_
  rintro e w' ⟨k, may, F2, rfl, hk, hB, hF, hD, hg⟩
  rw [hM'.f_eq hF] at hD
  rw [hM'.g_eq hD] at hB
  exact ⟨k, G', rfl, hB, fun i h1 h2 => (hall i h1 h2).2, hg⟩
end

end Go.Proofs.Ytljlkmiaemkokaa

/-
  ReachParts, walked: of a grammar that may be, and has a sentence.
-/
namespace Go.Proofs.Ytljlkmiaemkokaa
open Go.RowKit Go.Maps Go.Shelf

attribute [local go_sem] Oper.semAt_some

set_option maxRecDepth 100000 in
set_option maxHeartbeats 1000000 in
theorem eparts_ok (ta na la pa : Option Addr) (tc nc lc pc : Nat) (ts : List (ByteArray × Int)) (ns : List ByteArray) (lv : List Int) (n : Nat) (L : Nat → Int) (R : Nat → List Int) (ra : Nat → Option Addr) (rc : Nat → Nat) (V : Nat → Int) (st : Int) (w : World) (tn nn ln : Nat) (hlen : ts.length = tn ∧ ns.length = nn ∧ lv.length = ln) (hG : GAt w ta na la pa tc nc lc pc ts ns lv n L R ra rc V) (hnt : ta = none → tn = 0 ∧ tc = 0) (hnl : la = none → ln = 0 ∧ lc = 0) (h1 : tn * 24 ≤ 140737488355328) (h2 : nn * 16 ≤ 140737488355328) (h4 : n * 40 ≤ 140737488355328) (hts : ∀ t ∈ ts, t.1.size ≤ 140737488355328) (hns : ∀ s ∈ ns, s.size ≤ 140737488355328) (hv : validOK ts ns lv st n L R V) (F G : Nat → Bool) (hM : MarksOf tn nn n st L R false F G) (hp : F (st - tn).toNat = true) :
    Calls Try.prog 6 #[.agg #[.slice ta tn tc, .slice na nn nc, .slice la ln lc, .int .i64 st, .slice pa n pc]] w fun e w' => e = .returned (.bool true) ∧ w.grownBy w' none := by
  have hV : true = true ↔ validOK ts ns lv st n L R V := ⟨fun _ => hv, fun _ => rfl⟩
  have hC : false = true ↔ closedOK ts ns lv st n L R V := ⟨fun h => (by cases h), fun h => absurd h.1.name (valid_name hv)⟩
  have HSUB : Hid (∀ i, G i = true → F i = true) := hM.sub'
  have hR : ∀ k, k < n → (R k).length ≤ 17592186044416 := fun k hk => by
    rcases hG.prods with h | ⟨b, off, e, h⟩
    · omega
    · exact (h k hk).2.2.2.2.2
  obtain ⟨C, hCC⟩ : ∃ C : GR, C = redGR ts ns lv tn nn n st L R V G (fun k => goD tn L R F k G) := ⟨_, rfl⟩
  have hb : CBound C := by
    have := redC_bound (rV := true) hlen hV (fun _ => hM) hR
    rw [redC_ok hp, ← hCC] at this
    exact this
  have hcl := red_closed hlen hv hM hp C hCC
  have hcs : (∀ t ∈ C.terms, t.1.size ≤ 140737488355328) ∧ (∀ s ∈ C.nons, s.size ≤ 140737488355328) := by
    rw [hCC]
    refine ⟨hts, fun s hs => ?_⟩
    have e0 : (redGR ts ns lv tn nn n st L R V G (fun k => goD tn L R F k G)).nons = namesTo G ns nn := rfl
    rw [e0] at hs
    unfold namesTo at hs
    simp only [List.mem_cons, List.mem_map, List.mem_filter, List.mem_range] at hs
    rcases hs with rfl | ⟨i, ⟨hi, _⟩, rfl⟩
    · decide
    · have hi' : i < ns.length := by rw [hlen.2.1]; exact hi
      rw [List.getD_eq_getElem?_getD, List.getElem?_eq_getElem hi']
      exact hns _ (List.getElem_mem hi')
  obtain ⟨t1, ht1⟩ : ∃ t : Nat, t = C.terms.length := ⟨_, rfl⟩
  obtain ⟨t2, ht2⟩ : ∃ t : Nat, t = C.nons.length := ⟨_, rfl⟩
  obtain ⟨t3, ht3⟩ : ∃ t : Nat, t = C.levels.length := ⟨_, rfl⟩
  obtain ⟨t4, ht4⟩ : ∃ t : Nat, t = C.prods.length := ⟨_, rfl⟩
  obtain ⟨cs, hst⟩ : ∃ s : Int, s = C.start := ⟨_, rfl⟩
  have HP97 : Hid (t4 ≤ 97) := by
    show t4 ≤ 97
    rw [ht4]; exact hcl.2.pn
  have HCLC : Hid (∀ (X : World) (B : Nat) (ta na la pa : Option Addr) (tc nc lc pc : Nat), CGr C t1 t2 t3 t4 X B ta na la pa tc nc lc pc → Calls Try.prog 18 #[.agg #[.slice ta t1 tc, .slice na t2 nc, .slice la t3 lc, .int .i64 cs, .slice pa t4 pc]] X fun e w' => e = .returned (.bool true) ∧ X.grownBy w' none) := fun X B ta na la pa tc nc lc pc hX => by
    rw [ht1, ht2, ht3, ht4] at hX
    obtain ⟨r1, r2, g1⟩ := GramNew.gat hX hb.t hb.s hb.l hb.p hb.r
    rw [ht1, ht2, ht3, ht4, hst]
    exact rclosed_any ta na la pa tc nc lc pc C.start C.terms C.nons C.levels C.prods.length _ _ r1 r2 _ X g1 hcs.1 hcs.2 true ⟨fun _ => hcl, fun _ => rfl⟩
  have HUSD : Hid (∀ (X : World) (B : Nat) (ta na la pa : Option Addr) (tc nc lc pc : Nat), CGr C t1 t2 t3 t4 X B ta na la pa tc nc lc pc → Calls Try.prog 24 #[.agg #[.slice ta t1 tc, .slice na t2 nc, .slice la t3 lc, .int .i64 cs, .slice pa t4 pc]] X fun e w' => AllTold t2 X e w') := fun X B ta na la pa tc nc lc pc hX => by
    rw [ht1, ht2, ht3, ht4] at hX
    rw [ht1, ht2, ht3, ht4, hst]
    exact cused_any hlen hv hM hp C hCC hb X B ta na la pa tc nc lc pc hX
  have HMKD : Hid (∀ (X : World) (B : Nat) (ta na la pa : Option Addr) (tc nc lc pc : Nat), CGr C t1 t2 t3 t4 X B ta na la pa tc nc lc pc → Calls Try.prog 25 #[.agg #[.slice ta t1 tc, .slice na t2 nc, .slice la t3 lc, .int .i64 cs, .slice pa t4 pc]] X fun e w' => AllTold t2 X e w') := fun X B ta na la pa tc nc lc pc hX => by
    rw [ht1, ht2, ht3, ht4] at hX
    rw [ht1, ht2, ht3, ht4, hst]
    exact cmarks_any hlen hv hM hp C hCC hb X B ta na la pa tc nc lc pc hX
  have HSTR : Hid (∀ (X : World) (B : Nat) (ta na la pa : Option Addr) (tc nc lc pc : Nat), CGr C t1 t2 t3 t4 X B ta na la pa tc nc lc pc → StrsAt X na C.nons ∧ C.nons.length = t2) := fun X B ta na la pa tc nc lc pc hX => by
    rw [ht1, ht2, ht3, ht4] at hX
    obtain ⟨r1, r2, g1⟩ := GramNew.gat hX hb.t hb.s hb.l hb.p hb.r
    exact ⟨g1.nons, ht2.symm⟩
  obtain ⟨ks, hks⟩ : ∃ ks, ks = placesOf n fun k => goD tn L R F k G := ⟨_, rfl⟩
  have HKS4 : Hid (t4 = ks.length + 1 ∧ (∀ j, j < ks.length → ks.getD j 0 < n) ∧ ∀ j, j + 1 < ks.length → ks.getD j 0 < ks.getD (j + 1) 0) := ⟨by rw [ht4, hks, (red_like hM C hCC).1]; omega, fun j hj => by rw [hks] at hj ⊢; exact (places_lt hj).1, fun j hj => by rw [hks] at hj ⊢; exact places_up (Nat.lt_succ_self _) hj⟩
  have HGC : Hid (∀ (X : World) (B : Nat) (ta na la pa : Option Addr) (tc nc lc pc : Nat), CGr C t1 t2 t3 t4 X B ta na la pa tc nc lc pc → ∃ r1 r2, GAt X ta na la pa tc nc lc pc C.terms C.nons C.levels t4 (fun i => (C.prods.getD i ⟨0, [], 0⟩).left) (fun i => (C.prods.getD i ⟨0, [], 0⟩).right) r1 r2 (fun i => (C.prods.getD i ⟨0, [], 0⟩).level)) := fun X B ta na la pa tc nc lc pc hX => by
    rw [ht1, ht2, ht3, ht4] at hX
    rw [ht4]
    exact GramNew.gat hX hb.t hb.s hb.l hb.p hb.r
  have HLK : Hid (∀ j, j < ks.length → ∀ kk, kk < n → ∃ r : Bool, (kk = ks.getD j 0 → r = true) ∧ ∀ (X : World) (ta' na' la' pa' : Option Addr) (tc' nc' lc' pc' : Nat) (r1 : Nat → Option Addr) (r2 : Nat → Nat), GAt X ta' na' la' pa' tc' nc' lc' pc' C.terms C.nons C.levels t4 (fun i => (C.prods.getD i ⟨0, [], 0⟩).left) (fun i => (C.prods.getD i ⟨0, [], 0⟩).right) r1 r2 (fun i => (C.prods.getD i ⟨0, [], 0⟩).level) → w.grownBy X none → Calls Try.prog 26 #[.agg #[.slice ta tn tc, .slice na nn nc, .slice la ln lc, .int .i64 st, .slice pa n pc], .agg #[.int .i64 (L kk), .slice (ra kk) (R kk).length (rc kk), .int .i64 (V kk)], .agg #[.slice ta' t1 tc', .slice na' t2 nc', .slice la' t3 lc', .int .i64 cs, .slice pa' t4 pc'], .agg #[.int .i64 (C.prods.getD (1 + j) ⟨0, [], 0⟩).left, .slice (r1 (1 + j)) (C.prods.getD (1 + j) ⟨0, [], 0⟩).right.length (r2 (1 + j)), .int .i64 (C.prods.getD (1 + j) ⟨0, [], 0⟩).level]] X fun e y => LikeTold r X e y) := fun j hj kk hkk => by
    have et : t1 = tn := by rw [ht1, hCC]; exact hlen.1
    obtain ⟨r, hr⟩ : ∃ r : Bool, r = true ↔ likeP tn t1 ns C.nons (L kk) (C.prods.getD (1 + j) ⟨0, [], 0⟩).left (V kk) (C.prods.getD (1 + j) ⟨0, [], 0⟩).level (R kk) (C.prods.getD (1 + j) ⟨0, [], 0⟩).right := by
      rcases Classical.em (likeP tn t1 ns C.nons (L kk) (C.prods.getD (1 + j) ⟨0, [], 0⟩).left (V kk) (C.prods.getD (1 + j) ⟨0, [], 0⟩).level (R kk) (C.prods.getD (1 + j) ⟨0, [], 0⟩).right) with h | h
      · exact ⟨true, fun _ => h, fun _ => rfl⟩
      · exact ⟨false, fun h2 => (by cases h2), fun h2 => absurd h2 h⟩
    refine ⟨r, fun hk2 => hr.2 ?_, fun X ta' na' la' pa' tc' nc' lc' pc' r1 r2 hX hwX => ?_⟩
    · rw [et, hk2, hks]
      exact (red_like hM C hCC).2 j (by rw [← hks]; exact hj)
    have hmc := mayOK_closed hcl
    have hj4 : 1 + j < t4 := by rw [ht4, (red_like hM C hCC).1, ← hks]; omega
    have hj5 : 1 + j < C.prods.length := by rw [← ht4]; exact hj4
    have hpx : IntsAt X (ra kk) (R kk) := by
      rcases (hG.kept hwX).prods with h | ⟨b, off, e, h⟩
      · omega
      · exact (h kk hkk).2.2.2.1
    have hqx : IntsAt X (r1 (1 + j)) (C.prods.getD (1 + j) ⟨0, [], 0⟩).right := by
      rcases hX.prods with h | ⟨b, off, e, h⟩
      · omega
      · exact (h (1 + j) hj4).2.2.2.1
    have hm1 := hM.may.nmax
    have hm2 := hmc.nmax
    rw [← ht2] at hm2
    exact like_any ta na la pa (ra kk) ta' na' la' pa' (r1 (1 + j)) tn nn ln n tc nc lc pc (rc kk) t1 t2 t3 t4 tc' nc' lc' pc' (r2 (1 + j)) st cs (L kk) _ (V kk) _ ns C.nons (R kk) _ X hlen.2.1 ht2.symm (hG.kept hwX).nons hX.nons hpx hqx (by omega) (by omega) (hR kk hkk) (hM.may.left kk hkk) (by rw [ht1, ht2]; exact hmc.left (1 + j) hj5) (fun x hx => ⟨by have := hM.may.right kk hkk x hx; omega, (hM.may.right kk hkk x hx).2⟩) (fun x hx => by rw [ht1, ht2]; exact ⟨by have := hmc.right (1 + j) hj5 x hx; omega, (hmc.right (1 + j) hj5 x hx).2⟩) r hr
  have HGG : Hid (GAt w ta na la pa tc nc lc pc ts ns lv n L R ra rc V) := hG
  have hpn : n ≤ 97 := hM.may.pmax
  have hp0 : 0 < n := hM.may.p0
  have HT2 : Hid (t2 = 1 + cntU G nn ∧ C.nons = namesTo G ns nn ∧ 0 < cntU G nn) := ⟨by rw [ht2, hCC]; exact namesTo_len _ _ _, by rw [hCC]; rfl, by
    have h5 := hM.may.start
    have := cntU_lt G (show (st - tn).toNat < nn by omega) (hM.start hp)
    omega⟩
  have HNS : Hid (StrsAt w na ns ∧ ns.length = nn) := ⟨hG.nons, hlen.2.1⟩
  obtain ⟨iS, hiS, hS0, hS1, hS2⟩ := info_parts infoStr
  have hnn : nn ≤ 65 := hM.may.nmax
  have hn0 : 0 < nn := hM.may.n0
  have HVL : Hid (∀ X, w.grownBy X none → Calls Try.prog 20 #[.agg #[.slice ta tn tc, .slice na nn nc, .slice la ln lc, .int .i64 st, .slice pa n pc]] X (fun e w' => e = .returned (.bool true) ∧ X.grownBy w' none)) := fun X hX => (rvc ta na la pa tc nc lc pc ts ns lv n L R ra rc V st w tn nn ln hlen hG hts hns X hX true false hV hC).1
  have HPR : Hid (∀ (X : World) (ta' na' la' pa' : Option Addr) (tc' nc' lc' pc' : Nat) (ra' : Nat → Option Addr) (rc' : Nat → Nat), GAt X ta' na' la' pa' tc' nc' lc' pc' ts ns lv n L R ra' rc' V → Calls Try.prog 9 #[.agg #[.slice ta' tn tc', .slice na' nn nc', .slice la' ln lc', .int .i64 st, .slice pa' n pc']] X fun e y => MTold 0 nn F X e y) := fun X ta' na' la' pa' tc' nc' lc' pc' ra' rc' hX => productive_any ta' na' la' pa' tc' nc' lc' pc' ts ns lv n L R ra' rc' V st X tn nn ln hlen hX true false hV hC F G (fun _ => hM)
  have HUS : Hid (∀ (X : World) (ta' na' la' pa' : Option Addr) (tc' nc' lc' pc' : Nat) (ra' : Nat → Option Addr) (rc' : Nat → Nat), GAt X ta' na' la' pa' tc' nc' lc' pc' ts ns lv n L R ra' rc' V → Calls Try.prog 10 #[.agg #[.slice ta' tn tc', .slice na' nn nc', .slice la' ln lc', .int .i64 st, .slice pa' n pc']] X fun e y => MTold 0 nn G X e y) := fun X ta' na' la' pa' tc' nc' lc' pc' ra' rc' hX => useful_any ta' na' la' pa' tc' nc' lc' pc' ts ns lv n L R ra' rc' V st X tn nn ln hlen hX true false hV hC F G (fun _ => hM)
  have HRE : Hid (∀ (X : World) (ta' na' la' pa' : Option Addr) (tc' nc' lc' pc' : Nat) (ra' : Nat → Option Addr) (rc' : Nat → Nat), GAt X ta' na' la' pa' tc' nc' lc' pc' ts ns lv n L R ra' rc' V → (ta' = none → tn = 0 ∧ tc' = 0) → (la' = none → ln = 0 ∧ lc' = 0) → Calls Try.prog 16 #[.agg #[.slice ta' tn tc', .slice na' nn nc', .slice la' ln lc', .int .i64 st, .slice pa' n pc']] X fun e y => CT 0 cs C t1 t2 t3 t4 X e y) := fun X ta' na' la' pa' tc' nc' lc' pc' ra' rc' hX e1 e2 => by
    have := reduce_any ta' na' la' pa' tc' nc' lc' pc' ts ns lv n L R ra' rc' V st X tn nn ln hlen hX e1 e2 true hV F G (fun _ => hM)
    rw [redC_ok hp, redE_ok hp, ← hCC] at this
    rw [ht1, ht2, ht3, ht4, hst]
    exact this
  have HCP : Hid (∀ X, w.grownBy X none → Calls Try.prog 8 #[.agg #[.slice ta tn tc, .slice na nn nc, .slice la ln lc, .int .i64 st, .slice pa n pc]] X fun e w' => ∃ ta' na' la' pa' tc' nc' lc' pc' ra' rc', e = .returned (.agg #[.slice ta' tn tc', .slice na' nn nc', .slice la' ln lc', .int .i64 st, .slice pa' n pc']) ∧ GAt w' ta' na' la' pa' tc' nc' lc' pc' ts ns lv n L R ra' rc' V ∧ (∀ i, i < n → (R i).length ≤ rc' i) ∧ (ta' = none → tn = 0 ∧ tc' = 0) ∧ (la' = none → ln = 0 ∧ lc' = 0) ∧ X.grownBy w' none) := fun X hX => rcopy_any ta na la pa tn nn ln n tc nc lc pc st ts ns lv L R ra rc V X hlen (hG.kept hX) hnt hnl h1 h2 h4
  have HX0 : Hid (PhAt w (w.alloc (.cells #[.slice ta tn tc, .slice na nn nc, .slice la ln lc, .int .i64 st, .slice pa n pc] 27)) w.heap.size #[.slice ta tn tc, .slice na nn nc, .slice la ln lc, .int .i64 st, .slice pa n pc]) := ⟨World.grownBy_alloc _ _ none, heap_alloc_last w _⟩
  clear hlen hG hnt hnl h1 h2 h4 hv hM hts hns hp hV hC hb hcl hcs ht1 ht2 ht3 ht4 hst hCC hR hks
  obtain ⟨k0, k1, k2, k3, k4⟩ := HX0.out.cells
  go_enter Try.func6, Try.ntmps6
  go_wp2_with fail
  refine Calls.mono (HCP.out _ HX0.out.grown) ?_
  rintro e w1 ⟨ta1, na1, la1, pa1, tc1, nc1, lc1, pc1, ra1, rc1, rfl, hG1, _, hn1, hl1, hg1⟩
  have HX1 : Hid (PhAt w w1 w.heap.size #[.slice ta tn tc, .slice na nn nc, .slice la ln lc, .int .i64 st, .slice pa n pc]) := HX0.out.kept hg1
  have HG1 := show Hid _ from hG1
  clear hg1 HX0 hG1 hn1 hl1 k0 k1 k2 k3 k4
  go_wp2_with fail
  refine Calls.mono (HPR.out w1 _ _ _ _ _ _ _ _ _ _ HG1.out) ?_
  rintro e w2 ⟨a, rfl, hA2', hg2⟩
  have hA2 : BRow w1 w2 a nn F := hA2'
  have HA2 : Hid (BAt w2 a nn F) := hA2.at
  have HX2 : Hid (PhAt w w2 w.heap.size #[.slice ta tn tc, .slice na nn nc, .slice la ln lc, .int .i64 st, .slice pa n pc]) := HX1.out.kept hg2
  clear hA2 hA2' hg2 HG1 HX1
  obtain ⟨k0, k1, k2, k3, k4⟩ := HX2.out.cells
  go_wp2_with fail
  refine Calls.mono (HCP.out _ HX2.out.grown) ?_
  rintro e w3 ⟨ta1, na1, la1, pa1, tc1, nc1, lc1, pc1, ra1, rc1, rfl, hG1, _, hn1, hl1, hg1⟩
  have HX3 : Hid (PhAt w w3 w.heap.size #[.slice ta tn tc, .slice na nn nc, .slice la ln lc, .int .i64 st, .slice pa n pc]) := HX2.out.kept hg1
  have HA3 : Hid (BAt w3 a nn F) := HA2.out.kept hg1
  have HG1 := show Hid _ from hG1
  clear hg1 HX2 hG1 hn1 hl1 k0 k1 k2 k3 k4 HA2
  go_wp2_with fail
  refine Calls.mono (HUS.out w3 _ _ _ _ _ _ _ _ _ _ HG1.out) ?_
  rintro e w4 ⟨b, rfl, hA2', hg2⟩
  have hA2 : BRow w3 w4 b nn G := hA2'
  have HB4 : Hid (BAt w4 b nn G) := hA2.at
  have HA4 : Hid (BAt w4 a nn F) := HA3.out.kept hg2
  have HX4 : Hid (PhAt w w4 w.heap.size #[.slice ta tn tc, .slice na nn nc, .slice la ln lc, .int .i64 st, .slice pa n pc]) := HX3.out.kept hg2
  clear hA2 hA2' hg2 HG1 HX3 HA3
  obtain ⟨k0, k1, k2, k3, k4⟩ := HX4.out.cells
  go_wp2_with fail
  refine Calls.mono (HCP.out _ HX4.out.grown) ?_
  rintro e w5 ⟨ta1, na1, la1, pa1, tc1, nc1, lc1, pc1, ra1, rc1, rfl, hG1, _, hn1, hl1, hg1⟩
  have HX5 : Hid (PhAt w w5 w.heap.size #[.slice ta tn tc, .slice na nn nc, .slice la ln lc, .int .i64 st, .slice pa n pc]) := HX4.out.kept hg1
  have HA5 : Hid (BAt w5 a nn F ∧ BAt w5 b nn G) := ⟨HA4.out.kept hg1, HB4.out.kept hg1⟩
  have HG1 := show Hid _ from hG1
  have HN1 : Hid ((ta1 = none → tn = 0 ∧ tc1 = 0) ∧ (la1 = none → ln = 0 ∧ lc1 = 0)) := ⟨hn1, hl1⟩
  clear hg1 HX4 hG1 hn1 hl1 k0 k1 k2 k3 k4 HA4 HB4
  go_wp2_with fail
  refine Calls.mono (HRE.out w5 _ _ _ _ _ _ _ _ _ _ HG1.out HN1.out.1 HN1.out.2) ?_
  rintro e w6 ⟨ca, cb, cc, cd, c1, c2, c3, c4, rfl, hC6', hg6⟩
  have HC6 : Hid (CGr C t1 t2 t3 t4 w6 w5.heap.size ca cb cc cd c1 c2 c3 c4) := hC6'
  obtain ⟨kc, hkc⟩ : ∃ kc, kc = w6.heap.size := ⟨_, rfl⟩
  obtain ⟨X6, hX6⟩ : ∃ X6, X6 = w6.alloc (.cells #[.slice ca t1 c1, .slice cb t2 c2, .slice cc t3 c3, .int .i64 cs, .slice cd t4 c4] 27) := ⟨_, rfl⟩
  have hgb : w6.grownBy X6 none := by rw [hX6]; exact World.grownBy_alloc _ _ none
  have HP : Hid (PtAt w X6 #[.slice ta tn tc, .slice na nn nc, .slice la ln lc, .int .i64 st, .slice pa n pc] #[.slice ca t1 c1, .slice cb t2 c2, .slice cc t3 c3, .int .i64 cs, .slice cd t4 c4] kc nn a b F G) :=
    have g56 := grown_trans hg6 hgb
    ⟨grown_trans HX5.out.grown g56, (boxKept HX5.out.box g56).out, by rw [hX6, hkc]; exact heap_alloc_last w6 _, HA5.out.1.kept g56, HA5.out.2.kept g56⟩
  have HGB6 : Hid (w6.grownBy X6 none) := hgb
  have HXE := show Hid _ from hX6
  have HKC : Hid (kc = w6.heap.size) := hkc
  obtain ⟨k0, k1, k2, k3, k4⟩ := PhAt.cells (w := w) ⟨HP.out.grown, HP.out.gbox⟩
  rw [hX6] at k0 k1 k2 k3 k4
  clear hC6' hg6 hgb hX6 hkc HX5 HA5 HG1 HN1
  go_wp2_with fail
  rw [← HXE.out, ← HKC.out]
  refine Calls.mono (HVL.out X6 HP.out.grown) ?_
  rintro e w7 ⟨rfl, hg7⟩
  have HCG : Hid (w6.grownBy w7 none) := grown_trans HGB6.out hg7
  have HP7 : Hid (PtAt w w7 #[.slice ta tn tc, .slice na nn nc, .slice la ln lc, .int .i64 st, .slice pa n pc] #[.slice ca t1 c1, .slice cb t2 c2, .slice cc t3 c3, .int .i64 cs, .slice cd t4 c4] kc nn a b F G) := HP.out.kept hg7
  clear hg7 HXE HKC k0 k1 k2 k3 k4
  have HC7 : Hid (CGr C t1 t2 t3 t4 w7 w5.heap.size ca cb cc cd c1 c2 c3 c4) := HC6.out.kept (HCG.out)
  clear HC6 HCG HP
  go_wp2_with fail
  go_loopg [10, 11] nn (fun gk v10 i wr => ∃ (k : Nat) (a' : Option Addr) (c' : Nat), k ≤ nn ∧ gk = nn - k ∧ i = .int .i64 k ∧ v10 = .slice a' (cntU G k) c' ∧ w7.grownBy wr none ∧ wr.ownsRow w7.heap.size 9 1 (.slice a' (cntU G k) c') (cntU G k) (((namesTo G ns k).drop 1).map Value.string))
  case atStart => exact ⟨0, none, 0, Nat.zero_le _, rfl, rfl, rfl, grown_refl _ _, World.ownsRow_nil _ _ _ _⟩
  case round =>
    obtain ⟨k, a', c', hk, hgk, rfl, rfl, hgw, hO⟩ := hrel
    have HGK : Hid (gk = nn - k) := hgk
    have HPK := show Hid _ from HP7.out.kept hgw
    have HGW : Hid (w7.grownBy wr none) := hgw
    have HO := show Hid _ from hO
    clear hgk hgw hO
    obtain ⟨ka, rfl, hBa⟩ : ∃ k, a = some ⟨k, 0, none⟩ ∧ BoolAt wr k nn F := by
      rcases HPK.out.a with h | h
      · omega
      · exact h
    obtain ⟨kb, rfl, hBb⟩ : ∃ k, b = some ⟨k, 0, none⟩ ∧ BoolAt wr k nn G := by
      rcases HPK.out.b with h | h
      · omega
      · exact h
    by_cases hlt : k < nn
    · have a0 := hBa.cell k hlt
      have b0 := hBb.cell k hlt
      have hvv := HSUB.out k
      obtain ⟨v, hv⟩ : ∃ v, v = G k := ⟨_, rfl⟩
      obtain ⟨u, hu⟩ : ∃ u, u = F k := ⟨_, rfl⟩
      rw [← hv] at b0 hvv
      rw [← hu] at a0 hvv
      have HVV : Hid (v = G k) := hv
      have hk0 : (0 : Int) ≤ (k : Int) := by omega
      have hk1 : (k : Int) < (nn : Int) := by omega
      have hkd : decide (k < nn) = true := decide_eq_true hlt
      clear hBa hBb hv hu
      cases v with
      | false =>
        clear hvv
        have hcu : cntU G (k + 1) = cntU G k := by rw [cntU_succ, ← HVV.out]; rfl
        have HCU : Hid (cntU G (k + 1) = cntU G k ∧ namesTo G ns (k + 1) = namesTo G ns k) := ⟨hcu, namesTo_no HVV.out.symm⟩
        clear hcu
        go_wp2_with fail
        go_roundg (nn - (k + 1))
        case measure => have := HGK.out; omega
        case rel => exact ⟨k + 1, a', c', by omega, rfl, by go_num, by rw [HCU.out.1], by first | exact HGW.out | exact grown_trans HGW.out (grown_drewN _ _), by rw [HCU.out.1, HCU.out.2]; exact HO.out⟩
      | true =>
        obtain rfl : u = true := hvv rfl
        clear hvv
        obtain ⟨k0, k1, k2, k3, k4⟩ := PhAt.cells (w := w) ⟨HPK.out.grown, HPK.out.gbox⟩
        obtain ⟨bn, on, rfl, hsc⟩ := strs_cell HNS.out.1 (i := k) (by rw [HNS.out.2]; exact hlt)
        have n0 := hsc wr HPK.out.grown
        obtain ⟨nm, hnm⟩ : ∃ nm, nm = ns.getD k ⟨#[]⟩ := ⟨_, rfl⟩
        rw [← hnm] at n0
        have HNM : Hid (nm = ns.getD k ⟨#[]⟩) := hnm
        have hcu : cntU G k ≤ k := cntU_le G k
        have hc1 : cntU G (k + 1) = cntU G k + 1 := by rw [cntU_succ, ← HVV.out]; rfl
        have HAL : Hid (w7.grownBy (wr.alloc (.cells #[.string nm] 9)) none) := grown_trans HGW.out (World.grownBy_alloc _ _ none)
        have HNR : Hid ((wr.alloc (.cells #[.string nm] 9)).ownsRow w7.heap.size 9 1 (.slice a' (cntU G k) c') (cntU G k) (((namesTo G ns k).drop 1).map Value.string)) := keep0 HO.out (World.grownBy_alloc _ _ none)
        have HF6 : Hid (∀ v6 wB, wB.ownsRow w7.heap.size 9 1 v6 (cntU G k + 1) (((namesTo G ns k).drop 1).map Value.string ++ [.string nm]) → (wr.alloc (.cells #[.string nm] 9)).grownBy wB (Value.slice a' (cntU G k) c').ownBlock → ∃ a c, v6 = .slice a (cntU G (k + 1)) c ∧ w7.grownBy wB none ∧ wB.ownsRow w7.heap.size 9 1 (.slice a (cntU G (k + 1)) c) (cntU G (k + 1)) (((namesTo G ns (k + 1)).drop 1).map Value.string)) := by
          intro v6 wB ho hg
          obtain ⟨a, c, rfl⟩ := owns_slice ho
          refine ⟨a, c, by rw [hc1], ?_, ?_⟩
          · cases hv : (Value.slice a' (cntU G k) c').ownBlock with
            | none => rw [hv] at hg; exact grown_trans HAL.out hg
            | some q => rw [hv] at hg; exact grown_at HAL.out hg (HNR.out.lt q hv).1
          · rw [hc1, namesTo_yes HVV.out.symm, ← hnm]
            have e1 : ((namesTo G ns k) ++ [nm]).drop 1 = (namesTo G ns k).drop 1 ++ [nm] := rfl
            rw [e1, List.map_append]
            exact ho
        have HNW : Hid (∀ j u, [Value.string nm][j]? = some u → (wr.alloc (.cells #[.string nm] 9)).cell? ((⟨wr.heap.size, 0, none⟩ : Addr).add j) = some u) := news_new wr _ _
        have HBB : Hid (w7.heap.size ≤ (wr.alloc (.cells #[.string nm] 9)).heap.size) := HAL.out.size
        clear hsc hnm hc1
        go_wp2_with (at_builtin; refine wpList_append_src rfl (.tmp 132) (.tmp 138) 23 rfl w7.heap.size 9 iS (.string ByteArray.empty) 1 16 Try.underlying23 hiS hS0 hS1 hS2 rfl (by decide) (.slice a' (cntU G k) c') (cntU G k) (((namesTo G ns k).drop 1).map Value.string) rfl HNR.out (some ⟨wr.heap.size, 0, none⟩) 1 1 [.string nm] rfl (fun h => by cases h) rfl (fun ad e => by cases e; exact HNW.out) (by simp [Value.oneCell']) (by unfold maxLen; omega) (by omega) HBB.out ?_; intro v6 wB hoB hgB; obtain ⟨a6, c6, rfl, y2, y3⟩ := HF6.out v6 wB hoB hgB; have HY2 := show Hid _ from y2; have HY3 := show Hid _ from y3; clear hoB hgB y2 y3)
        go_roundg (nn - (k + 1))
        case measure => have := HGK.out; omega
        case rel => exact ⟨k + 1, a6, c6, by omega, rfl, by go_num, rfl, HY2.out, HY3.out⟩
    · have hkn : nn = k := by omega
      subst hkn
      have hkd : decide (nn < nn) = false := decide_eq_false (by omega)
      obtain ⟨cu, hcu⟩ : ∃ cu, cu = cntU G nn := ⟨_, rfl⟩
      have HCU : Hid (cu = cntU G nn) := hcu
      have hcu0 : 0 < cu := by rw [hcu]; exact HT2.out.2.2
      have ht2 : t2 = cu + 1 := by rw [hcu]; have := HT2.out.1; omega
      have hcl : cu ≤ 65 := by have := cntU_le G nn; omega
      rw [← hcu] at HO
      rw [← hcu]
      subst ht2
      clear hBa hBb HGK hcu
      obtain ⟨k0, k1, k2, k3, k4⟩ := PhAt.cells (w := w) ⟨HPK.out.grown, HPK.out.cbox⟩
      have hcd : decide ((0 : Int) < (cu : Int)) = true := decide_eq_true (by omega)
      go_wp2_with fail
      refine Calls.mono (HCLC.out wr _ _ _ _ _ _ _ _ _ (HC7.out.kept HGW.out)) ?_
      rintro e w8 ⟨rfl, hg8⟩
      have HC8 : Hid (CGr C t1 (cu + 1) t3 t4 w8 w5.heap.size ca cb cc cd c1 c2 c3 c4) := HC7.out.kept (grown_trans HGW.out hg8)
      have HP8 := show Hid _ from HP7.out.kept (grown_trans HGW.out hg8)
      have hO8 := keep0 HO.out hg8
      have HNA : Hid (∀ i, i < cu → ∀ X, w8.grownBy X none → ∃ b1 o1 b2 o2 x, a' = some ⟨b1, o1, none⟩ ∧ cb = some ⟨b2, o2, none⟩ ∧ X.cell? ⟨b1, o1 + i, none⟩ = some (.string x) ∧ X.cell? ⟨b2, o2 + (i + 1), none⟩ = some (.string x)) := fun i hi X hX => by
        obtain ⟨s2, e2⟩ := HSTR.out w8 _ _ _ _ _ _ _ _ _ HC8.out
        have e3 := HT2.out.2.1
        have e4 : (namesTo G ns nn).length = cu + 1 := by rw [← e3]; exact e2
        have e5 : ((namesTo G ns nn).drop 1).length = cu := by rw [List.length_drop]; omega
        have s1 : StrsAt w8 a' ((namesTo G ns nn).drop 1) := StrsIn.strsAt (v := .slice a' ((namesTo G ns nn).drop 1).length c') (owns_base (by rw [e5]; exact hO8)) rfl
        obtain ⟨b1, o1, r1, f1⟩ := strs_cell s1 (i := i) (by rw [List.length_drop]; omega)
        obtain ⟨b2, o2, r2, f2⟩ := strs_cell s2 (i := i + 1) (by omega)
        refine ⟨b1, o1, b2, o2, _, r1, r2, f1 X hX, ?_⟩
        rw [f2 X hX, e3]
        congr 2
        all_goals rw [List.getD_eq_getElem?_getD, List.getD_eq_getElem?_getD, List.getElem?_drop]
        all_goals first | rfl | (rw [Nat.add_comm])
      clear hg8 hO8 HO HPK HGW HP7 HC7 k0 k1 k2 k3 k4
      go_wp2_with fail
      go_loopg [12] cu (fun gk i wr => ∃ k : Nat, k ≤ cu ∧ gk = cu - k ∧ i = .int .i64 k ∧ w8.grownBy wr none)
      case atStart => exact ⟨0, Nat.zero_le _, rfl, rfl, grown_refl _ _⟩
      case round =>
        obtain ⟨k, hk, hgk, rfl, hgw⟩ := hrel
        have HGK : Hid (gk = cu - k) := hgk
        have HGW : Hid (w8.grownBy wr none) := hgw
        clear hgk hgw
        have HPK := show Hid _ from HP8.out.kept HGW.out
        obtain ⟨k0, k1, k2, k3, k4⟩ := PhAt.cells (w := w) ⟨HPK.out.grown, HPK.out.cbox⟩
        by_cases hlt : k < cu
        · obtain ⟨b1, o1, b2, o2, x, rfl, rfl, n1, n2⟩ := HNA.out k hlt wr HGW.out
          have hk0 : (0 : Int) ≤ (k : Int) := by omega
          have hk1 : (k : Int) < (cu : Int) := by omega
          have hkd : decide (k < cu) = true := decide_eq_true hlt
          have hk2 : (0 : Int) ≤ (k : Int) + 1 := by omega
          have hk3 : (k : Int) + 1 < (cu : Int) + 1 := by omega
          have hk4 : ((k : Int) + 1).toNat = k + 1 := by omega
          have hk5 : IntKind.i64.wrap ((k : Int) + 1) = (k : Int) + 1 := by rw [IntKind.wrap_i64]; omega
          have hx1 : (x.toList == x.toList) = true := beq_self_eq_true _
          go_wp2_with fail
          go_quiet (fail)
          go_wp2_with fail
          go_roundg (cu - (k + 1))
          case measure => have := HGK.out; omega
          case rel => exact ⟨k + 1, by omega, rfl, by go_num, by first | exact HGW.out | exact grown_trans HGW.out (grown_drewN _ _)⟩
        · have hkn : cu = k := by omega
          subst hkn
          have hkd : decide (cu < cu) = false := decide_eq_false (by omega)
          clear HGK
          go_wp2_with fail
          refine Calls.mono (HUSD.out wr _ _ _ _ _ _ _ _ _ (HC8.out.kept HGW.out)) ?_
          rintro e w9 ⟨ku, fu, rfl, hU9, hUa, hg9⟩
          have HU9 : Hid (BoolAt w9 ku (cu + 1) fu) := hU9
          have HUA : Hid (∀ i, 1 ≤ i → i < cu + 1 → fu i = true) := hUa
          have HG9 : Hid (w8.grownBy w9 none) := grown_trans HGW.out hg9
          clear hU9 hUa hg9 k0 k1 k2 k3 k4 HPK HGW
          obtain ⟨k0, k1, k2, k3, k4⟩ := PhAt.cells (w := w) ⟨(HP8.out.kept HG9.out).grown, (HP8.out.kept HG9.out).cbox⟩
          go_wp2_with fail
          refine Calls.mono (HMKD.out w9 _ _ _ _ _ _ _ _ _ (HC8.out.kept HG9.out)) ?_
          rintro e w10 ⟨km, fm, rfl, hM10, hMa, hg10⟩
          have HM10 : Hid (BoolAt w10 km (cu + 1) fm ∧ BoolAt w10 ku (cu + 1) fu) := ⟨hM10, HU9.out.kept hg10⟩
          have HMA : Hid (∀ i, 1 ≤ i → i < cu + 1 → fm i = true) := hMa
          have HG10 : Hid (w8.grownBy w10 none) := grown_trans HG9.out hg10
          clear hM10 hMa hg10 k0 k1 k2 k3 k4 HG9 HU9
          go_wp2_with fail
          go_loopg [15] cu (fun gk i wr => ∃ k : Nat, k ≤ cu ∧ gk = cu - k ∧ i = .int .i64 ((k : Int) + 1) ∧ w10.grownBy wr none)
          case atStart => exact ⟨0, Nat.zero_le _, rfl, rfl, grown_refl _ _⟩
          case round =>
            obtain ⟨k, hk, hgk, rfl, hgw⟩ := hrel
            have HGK : Hid (gk = cu - k) := hgk
            have HGW : Hid (w10.grownBy wr none) := hgw
            clear hgk hgw
            have HPK := show Hid _ from HP8.out.kept (grown_trans HG10.out HGW.out)
            obtain ⟨k0, k1, k2, k3, k4⟩ := PhAt.cells (w := w) ⟨HPK.out.grown, HPK.out.cbox⟩
            by_cases hlt : k < cu
            · have n1 := (HM10.out.1.kept HGW.out).cell (k + 1) (by omega)
              have n2 := (HM10.out.2.kept HGW.out).cell (k + 1) (by omega)
              rw [HMA.out (k + 1) (by omega) (by omega)] at n1
              rw [HUA.out (k + 1) (by omega) (by omega)] at n2
              have hk2 : (0 : Int) ≤ (k : Int) + 1 := by omega
              have hk3 : (k : Int) + 1 < (cu : Int) + 1 := by omega
              have hk4 : ((k : Int) + 1).toNat = k + 1 := by omega
              have hk6 : decide ((k : Int) + 1 < (cu : Int) + 1) = true := decide_eq_true hk3
              go_wp2_with fail
              go_roundg (cu - (k + 1))
              case measure => have := HGK.out; omega
              case rel => exact ⟨k + 1, by omega, rfl, by go_num, by first | exact HGW.out | exact grown_trans HGW.out (grown_drewN _ _)⟩
            · have hkn : cu = k := by omega
              subst hkn
              have hkd : decide ((cu : Int) + 1 < (cu : Int) + 1) = false := decide_eq_false (by omega)
              clear HGK
              obtain ⟨r1, r2, hgc⟩ := HGC.out w8 _ _ _ _ _ _ _ _ _ HC8.out
              have HGC8 := show Hid _ from hgc
              have HG11 : Hid (w8.grownBy wr none) := grown_trans HG10.out HGW.out
              obtain ⟨p, hpk⟩ : ∃ p, p = ks.length := ⟨_, rfl⟩
              have ht4 : t4 = p + 1 := by rw [hpk]; exact HKS4.out.1
              have HPK2 : Hid (p = ks.length) := hpk
              subst ht4
              have hp97 : p + 1 ≤ 97 := HP97.out
              clear hgc hpk HPK HGW HM10 HMA HUA HG10
              generalize wr = w11 at *
              go_wp2_with fail
              clear k0 k1 k2 k3 k4
              go_loopg [16, 17] p (fun gk v16 i wr => ∃ (j kk : Nat), j ≤ p ∧ gk = p - j ∧ v16 = .int .i64 kk ∧ i = .int .i64 ((j : Int) + 1) ∧ kk ≤ n ∧ (j < p → kk ≤ ks.getD j 0) ∧ w11.grownBy wr none)
              case atStart => exact ⟨0, 0, Nat.zero_le _, rfl, rfl, rfl, Nat.zero_le _, fun _ => Nat.zero_le _, grown_refl _ _⟩
              case round =>
                obtain ⟨j, kk, hj, hgk, rfl, rfl, hkn, hkj, hgw⟩ := hrel
                have HGK : Hid (gk = p - j) := hgk
                have HGW : Hid (w11.grownBy wr none) := hgw
                have HKJ : Hid (j < p → kk ≤ ks.getD j 0) := hkj
                clear hgk hgw hkj
                have HPK := show Hid _ from HP8.out.kept (grown_trans HG11.out HGW.out)
                obtain ⟨k0, k1, k2, k3, k4⟩ := PhAt.cells (w := w) ⟨HPK.out.grown, HPK.out.cbox⟩
                by_cases hlt : j < p
                · have hkd : decide ((j : Int) + 1 < (p : Int) + 1) = true := decide_eq_true (by omega)
                  generalize wr = w12 at *
                  go_wp2_with fail
                  clear k0 k1 k2 k3 k4
                  have hjl : j < ks.length := by rw [← HPK2.out]; exact hlt
                  have hK : ks.getD j 0 < n := HKS4.out.2.1 j hjl
                  have hkK : kk ≤ ks.getD j 0 := HKJ.out hlt
                  obtain ⟨K, hKe⟩ : ∃ K, K = ks.getD j 0 := ⟨_, rfl⟩
                  have HKE : Hid (K = ks.getD j 0) := hKe
                  have HKN : Hid (j + 1 < p → K + 1 ≤ ks.getD (j + 1) 0) := fun h => by
                    rw [hKe]; exact HKS4.out.2.2 j (by rw [← HPK2.out]; exact h)
                  rw [← hKe] at hK hkK
                  obtain ⟨bg, og, hpa, hgp⟩ : ∃ b off, pa = some ⟨b, off, none⟩ ∧ ∀ k, k < n → ∀ X, w.grownBy X none → X.cell? ⟨b, off + k * 3, none⟩ = some (.int .i64 (L k)) ∧ X.cell? ⟨b, off + k * 3 + 1, none⟩ = some (.slice (ra k) (R k).length (rc k)) ∧ X.cell? ⟨b, off + k * 3 + 2, none⟩ = some (.int .i64 (V k)) := by
                    rcases HGG.out.prods with h | ⟨b, off, e, h⟩
                    · omega
                    · exact ⟨b, off, e, fun k hk X hX => ⟨hX.cell (h k hk).1 (by simp), hX.cell (h k hk).2.1 (by simp), hX.cell (h k hk).2.2.1 (by simp)⟩⟩
                  obtain ⟨bh, oh, hcd, hcp⟩ : ∃ b off, cd = some ⟨b, off, none⟩ ∧ ∀ X, w8.grownBy X none → X.cell? ⟨b, off + (1 + j) * 3, none⟩ = some (.int .i64 (C.prods.getD (1 + j) ⟨0, [], 0⟩).left) ∧ X.cell? ⟨b, off + (1 + j) * 3 + 1, none⟩ = some (.slice (r1 (1 + j)) (C.prods.getD (1 + j) ⟨0, [], 0⟩).right.length (r2 (1 + j))) ∧ X.cell? ⟨b, off + (1 + j) * 3 + 2, none⟩ = some (.int .i64 (C.prods.getD (1 + j) ⟨0, [], 0⟩).level) := by
                    have hj4 : 1 + j < p + 1 := by omega
                    rcases HGC8.out.prods with h | ⟨b, off, e, h⟩
                    · omega
                    · exact ⟨b, off, e, fun X hX => ⟨hX.cell (h (1 + j) hj4).1 (by simp), hX.cell (h (1 + j) hj4).2.1 (by simp), hX.cell (h (1 + j) hj4).2.2.1 (by simp)⟩⟩
                  have HALL : Hid (∀ q, q < n → ∃ (al : Int) (ar : Option Addr) (am ac : Nat) (av bl : Int) (br : Option Addr) (bm bc : Nat) (bv : Int) (r : Bool), (q = K → r = true) ∧ (∀ X, w8.grownBy X none → X.cell? ⟨bg, og + q * 3, none⟩ = some (.int .i64 al) ∧ X.cell? ⟨bg, og + q * 3 + 1, none⟩ = some (.slice ar am ac) ∧ X.cell? ⟨bg, og + q * 3 + 2, none⟩ = some (.int .i64 av) ∧ X.cell? ⟨bh, oh + (j + 1) * 3, none⟩ = some (.int .i64 bl) ∧ X.cell? ⟨bh, oh + (j + 1) * 3 + 1, none⟩ = some (.slice br bm bc) ∧ X.cell? ⟨bh, oh + (j + 1) * 3 + 2, none⟩ = some (.int .i64 bv) ∧ Calls Try.prog 26 #[.agg #[.slice ta tn tc, .slice na nn nc, .slice la ln lc, .int .i64 st, .slice (some ⟨bg, og, none⟩) n pc], .agg #[.int .i64 al, .slice ar am ac, .int .i64 av], .agg #[.slice ca t1 c1, .slice cb (cu + 1) c2, .slice cc t3 c3, .int .i64 cs, .slice (some ⟨bh, oh, none⟩) (p + 1) c4], .agg #[.int .i64 bl, .slice br bm bc, .int .i64 bv]] X fun e y => e = .returned (.bool r) ∧ X.grownBy y none)) := fun q hq => by
                    obtain ⟨r, h1, h2⟩ := HLK.out j hjl q hq
                    refine ⟨L q, ra q, (R q).length, rc q, V q, (C.prods.getD (j + 1) ⟨0, [], 0⟩).left, r1 (j + 1), (C.prods.getD (j + 1) ⟨0, [], 0⟩).right.length, r2 (j + 1), (C.prods.getD (j + 1) ⟨0, [], 0⟩).level, r, fun h => h1 (by rw [h, hKe]), fun X hX => ?_⟩
                    have hw8 := HP8.out.grown
                    have e1 := hgp q hq X (grown_trans hw8 hX)
                    have e2 := hcp X hX
                    have e3 := h2 X _ _ _ _ _ _ _ _ _ _ (HGC8.out.kept hX) (grown_trans hw8 hX)
                    rw [hpa, hcd] at e3
                    rw [Nat.add_comm 1 j] at e2 e3
                    exact ⟨e1.1, e1.2.1, e1.2.2, e2.1, e2.2.1, e2.2.2, e3⟩
                  have HBX : Hid (∀ X, w8.grownBy X none → (X.cell? ⟨w.heap.size, 0, none⟩ = some (.slice ta tn tc) ∧ X.cell? ⟨w.heap.size, 1, none⟩ = some (.slice na nn nc) ∧ X.cell? ⟨w.heap.size, 2, none⟩ = some (.slice la ln lc) ∧ X.cell? ⟨w.heap.size, 3, none⟩ = some (.int .i64 st) ∧ X.cell? ⟨w.heap.size, 4, none⟩ = some (.slice (some ⟨bg, og, none⟩) n pc)) ∧ (X.cell? ⟨kc, 0, none⟩ = some (.slice ca t1 c1) ∧ X.cell? ⟨kc, 1, none⟩ = some (.slice cb (cu + 1) c2) ∧ X.cell? ⟨kc, 2, none⟩ = some (.slice cc t3 c3) ∧ X.cell? ⟨kc, 3, none⟩ = some (.int .i64 cs) ∧ X.cell? ⟨kc, 4, none⟩ = some (.slice (some ⟨bh, oh, none⟩) (p + 1) c4))) := fun X hX => by
                    have e0 := HP8.out.kept hX
                    rw [hpa, hcd] at e0
                    exact ⟨PhAt.cells (w := w) ⟨e0.grown, e0.gbox⟩, PhAt.cells (w := w) ⟨e0.grown, e0.cbox⟩⟩
                  have HWW : Hid (w8.grownBy w12 none ∧ w.grownBy w8 none) := ⟨grown_trans HG11.out HGW.out, HP8.out.grown⟩
                  have HG12 : Hid (w11.grownBy w12 none) := HGW.out
                  clear hgp hcp hpa hcd hKe HKE HKJ HPK HLK HGG HGC8 HGW HG11
                  have hj0 : (0 : Int) ≤ (j : Int) + 1 := by omega
                  have hj1 : (j : Int) + 1 < (p : Int) + 1 := by omega
                  have hj2 : ((j : Int) + 1).toNat = j + 1 := by omega
                  go_loopg [16] (n - kk) (fun gk v16 wr => ∃ q : Nat, q ≤ K ∧ gk = n - q ∧ v16 = .int .i64 q ∧ w12.grownBy wr none)
                  case atStart => exact ⟨kk, hkK, rfl, rfl, by first | exact grown_refl _ _ | exact grown_drewN _ _⟩
                  case round =>
                    obtain ⟨q, hqK, hgk2, rfl, hgw2⟩ := hrel
                    have hqn : q < n := by omega
                    obtain ⟨al, ar, am, ac, av, bl, br, bm, bc, bv, r, hrK, hX⟩ := HALL.out q hqn
                    have HRK : Hid (q = K → r = true) := hrK
                    have HQK : Hid (gk = n - q) := hgk2
                    have HXX := show Hid _ from hX
                    clear hrK hgk2 hX
                    have hA : (fun x => w12.grownBy x none) wr.drew := grown_trans hgw2 (grown_drewN _ 1)
                    clear hgw2
                    haveI hne : Nonempty (WBox (fun x => w12.grownBy x none)) := ⟨⟨_, hA⟩⟩
                    have g0 := fun s : WBox (fun x => w12.grownBy x none) => (HBX.out s.w (grown_trans HWW.out.1 s.ok)).1.1
                    have g1 := fun s : WBox (fun x => w12.grownBy x none) => (HBX.out s.w (grown_trans HWW.out.1 s.ok)).1.2.1
                    have g2 := fun s : WBox (fun x => w12.grownBy x none) => (HBX.out s.w (grown_trans HWW.out.1 s.ok)).1.2.2.1
                    have g3 := fun s : WBox (fun x => w12.grownBy x none) => (HBX.out s.w (grown_trans HWW.out.1 s.ok)).1.2.2.2.1
                    have g4 := fun s : WBox (fun x => w12.grownBy x none) => (HBX.out s.w (grown_trans HWW.out.1 s.ok)).1.2.2.2.2
                    have e0 := fun s : WBox (fun x => w12.grownBy x none) => (HBX.out s.w (grown_trans HWW.out.1 s.ok)).2.1
                    have e1 := fun s : WBox (fun x => w12.grownBy x none) => (HBX.out s.w (grown_trans HWW.out.1 s.ok)).2.2.1
                    have e2 := fun s : WBox (fun x => w12.grownBy x none) => (HBX.out s.w (grown_trans HWW.out.1 s.ok)).2.2.2.1
                    have e3 := fun s : WBox (fun x => w12.grownBy x none) => (HBX.out s.w (grown_trans HWW.out.1 s.ok)).2.2.2.2.1
                    have e4 := fun s : WBox (fun x => w12.grownBy x none) => (HBX.out s.w (grown_trans HWW.out.1 s.ok)).2.2.2.2.2
                    have f0 := fun s : WBox (fun x => w12.grownBy x none) => (HXX.out s.w (grown_trans HWW.out.1 s.ok)).1
                    have f1 := fun s : WBox (fun x => w12.grownBy x none) => (HXX.out s.w (grown_trans HWW.out.1 s.ok)).2.1
                    have f2 := fun s : WBox (fun x => w12.grownBy x none) => (HXX.out s.w (grown_trans HWW.out.1 s.ok)).2.2.1
                    have f3 := fun s : WBox (fun x => w12.grownBy x none) => (HXX.out s.w (grown_trans HWW.out.1 s.ok)).2.2.2.1
                    have f4 := fun s : WBox (fun x => w12.grownBy x none) => (HXX.out s.w (grown_trans HWW.out.1 s.ok)).2.2.2.2.1
                    have f5 := fun s : WBox (fun x => w12.grownBy x none) => (HXX.out s.w (grown_trans HWW.out.1 s.ok)).2.2.2.2.2.1
                    have K1 : Hid (∀ s : WBox (fun x => w12.grownBy x none), Calls Try.prog 26 #[.agg #[.slice ta tn tc, .slice na nn nc, .slice la ln lc, .int .i64 st, .slice (some ⟨bg, og, none⟩) n pc], .agg #[.int .i64 al, .slice ar am ac, .int .i64 av], .agg #[.slice ca t1 c1, .slice cb (cu + 1) c2, .slice cc t3 c3, .int .i64 cs, .slice (some ⟨bh, oh, none⟩) (p + 1) c4], .agg #[.int .i64 bl, .slice br bm bc, .int .i64 bv]] s.w fun e w' => e = .returned (.bool r) ∧ ∃ s' : WBox (fun x => w12.grownBy x none), w' = s'.w) := fun s => calls_class ((HXX.out s.w (grown_trans HWW.out.1 s.ok)).2.2.2.2.2.2.mono fun e w' h => ⟨h.1, grown_trans s.ok h.2⟩)
                    have hq0 : (0 : Int) ≤ (q : Int) := by omega
                    have hq1 : (q : Int) < (n : Int) := by omega
                    have hq2 : decide ((q : Int) < (n : Int)) = true := decide_eq_true hq1
                    have hq3 : decide (q < n) = true := decide_eq_true hqn
                    have hq4 : ((q : Int) == (n : Int)) = false := beq_eq_false_iff_ne.2 (by omega)
                    go_wp2_with fail
                    refine wp_region_class (p := fun x => w12.grownBy x none) (by kernel_rfl) (by kernel_rfl) hA ?_
                    repeat (go_big_quiet_step (first | (go_at_call 26; rename_i s; with_reducible exact K1.out s)))
                    refine wpQuiet_nil ?_
                    rintro _ ⟨s, rfl⟩
                    cases r with
                    | true =>
                      go_wp2_with fail
                      go_roundg (p - (j + 1))
                      case measure => have := HGK.out; omega
                      case rel => exact ⟨j + 1, q + 1, by omega, rfl, by go_num, by go_num, by omega, fun h => by have := HKN.out h; omega, by first | exact grown_trans HG12.out s.ok | exact grown_trans HG12.out (grown_trans s.ok (grown_drewN _ _))⟩
                    | false =>
                      have hqne : q + 1 ≤ K := by
                        have : q ≠ K := fun h => by have := HRK.out h; cases this
                        omega
                      go_wp2_with fail
                      go_roundg (n - (q + 1))
                      case measure => have := HQK.out; omega
                      case rel => exact ⟨q + 1, hqne, rfl, by go_num, by first | exact s.ok | exact grown_trans s.ok (grown_drewN _ _)⟩
                · have hkn : p = j := by omega
                  subst hkn
                  have hkd : decide ((p : Int) + 1 < (p : Int) + 1) = false := decide_eq_false (by omega)
                  go_wp2_with fail
                  refine Calls.mono (eawake_any _) ?_
                  rintro e w13 ⟨rfl, hg13⟩
                  have HW13 : Hid (w.grownBy w13 none) := by first | exact grown_trans HPK.out.grown hg13 | exact grown_trans (grown_trans HPK.out.grown (grown_drewN _ _)) hg13
                  clear hg13
                  go_wp2_with fail
                  go_ret
                  exact ⟨rfl, HW13.out⟩

end Go.Proofs.Ytljlkmiaemkokaa

/-
  ReachParts, walked: of any grammar.
-/
namespace Go.Proofs.Ytljlkmiaemkokaa
open Go.RowKit Go.Maps Go.Shelf

theorem eparts_core (ta na la pa : Option Addr) (tc nc lc pc : Nat) (ts : List (ByteArray × Int)) (ns : List ByteArray) (lv : List Int) (n : Nat) (L : Nat → Int) (R : Nat → List Int) (ra : Nat → Option Addr) (rc : Nat → Nat) (V : Nat → Int) (st : Int) (w : World) (tn nn ln : Nat) (hlen : ts.length = tn ∧ ns.length = nn ∧ lv.length = ln) (hG : GAt w ta na la pa tc nc lc pc ts ns lv n L R ra rc V) (hnt : ta = none → tn = 0 ∧ tc = 0) (hnl : la = none → ln = 0 ∧ lc = 0) (h1 : tn * 24 ≤ 140737488355328) (h2 : nn * 16 ≤ 140737488355328) (h4 : n * 40 ≤ 140737488355328) (hts : ∀ t ∈ ts, t.1.size ≤ 140737488355328) (hns : ∀ s ∈ ns, s.size ≤ 140737488355328) :
    Calls Try.prog 6 #[.agg #[.slice ta tn tc, .slice na nn nc, .slice la ln lc, .int .i64 st, .slice pa n pc]] w fun e w' => e = .returned (.bool true) ∧ w.grownBy w' none := by
  by_cases hv : validOK ts ns lv st n L R V
  · have hV : true = true ↔ validOK ts ns lv st n L R V := ⟨fun _ => hv, fun _ => rfl⟩
    have hC : false = true ↔ closedOK ts ns lv st n L R V := ⟨fun h => (by cases h), fun h => absurd h.1.name (valid_name hv)⟩
    obtain ⟨F, G, hM0⟩ := marks_of hlen hV hC
    have hM : MarksOf tn nn n st L R false F G := hM0 rfl
    cases hp : F (st - tn).toNat with
    | true => exact eparts_ok ta na la pa tc nc lc pc ts ns lv n L R ra rc V st w tn nn ln hlen hG hnt hnl h1 h2 h4 hts hns hv F G hM hp
    | false => exact eparts_none ta na la pa tc nc lc pc ts ns lv n L R ra rc V st w tn nn ln hlen hG hnt hnl h1 h2 h4 hts hns hv F G hM hp
  · by_cases hc : closedOK ts ns lv st n L R V
    · exact eparts_closed ta na la pa tc nc lc pc ts ns lv n L R ra rc V st w tn nn ln hlen hG hnt hnl h1 h2 h4 hts hns hv hc
    · exact eparts_bad ta na la pa tc nc lc pc ts ns lv n L R ra rc V st w tn nn ln hlen hG hnt hnl h1 h2 h4 hv hc

end Go.Proofs.Ytljlkmiaemkokaa
