/-
  reach: the document's Reduce.
-/
import Derived.Test.YtljlkmiaemkokaaQojkbcmcinfbi
import Derived.Test.YtljlkmiaemkokaaQelohhadgjbce
import Derived.Test.YtljlkmiaemkokaaQgjchgghncfmd
namespace Go.Proofs.Ytljlkmiaemkokaa
open Go.RowKit Go.Maps Go.Shelf

attribute [local go_sem] Oper.semAt_some

/-- While the document reduces: the grammar's box, the result's, the marks, the numbers. -/
structure RrAt (w X : World) (gv : Array Value) (k1 k2 nb nn N : Nat) (F G : Nat → Bool) (num : Nat → Int) : Prop where
  grown : w.grownBy X none
  gbox : X.heap[w.heap.size]? = some (.cells gv 27 (0, 0))
  rbox : X.heap[w.heap.size + 1]? = some (.cells #[.slice none 0 0, .slice none 0 0, .slice none 0 0, .int .i64 0, .slice none 0 0] 27 (0, 0))
  may : BoolAt X k1 nn F
  used : BoolAt X k2 nn G
  nums : NumAt X nb N num
  lo : w.heap.size + 2 ≤ nb
section
variable {w X Y : World} {gv : Array Value} {k1 k2 nb nn N : Nat} {F G : Nat → Bool} {num : Nat → Int}
theorem RrAt.kept (h : RrAt w X gv k1 k2 nb nn N F G num) (hg : X.grownBy Y none) : RrAt w Y gv k1 k2 nb nn N F G num :=
  ⟨grown_trans h.grown hg, (boxKept h.gbox hg).out, (boxKept h.rbox hg).out, h.may.kept hg, h.used.kept hg, h.nums.kept hg, h.lo⟩
theorem RrAt.at {b : Nat} (h : RrAt w X gv k1 k2 nb nn N F G num) (hg : X.grownBy Y (some b)) (hb : w.heap.size + 2 ≤ b) (hn : nb ≠ b) (h1 : k1 ≠ b) (h2 : k2 ≠ b) : RrAt w Y gv k1 k2 nb nn N F G num :=
  ⟨grown_at h.grown hg (by omega), (hg.block _ (Array.getElem?_eq_some_iff.1 h.gbox).1 (by simp; omega)).trans h.gbox, (hg.block _ (Array.getElem?_eq_some_iff.1 h.rbox).1 (by simp; omega)).trans h.rbox, h.may.at hg h1, h.used.at hg h2, h.nums.at hg hn, h.lo⟩
theorem RrAt.ne {b : Nat} {cs : Array Value} {t : TypeId} (h : RrAt w X gv k1 k2 nb nn N F G num) (hb : X.heap[b]? = some (.cells cs t (0, 0))) (ht : t ≠ 3) (ht2 : t ≠ 4) : nb ≠ b ∧ k1 ≠ b ∧ k2 ≠ b := by
  refine ⟨?_, ?_, ?_⟩
  · rintro rfl
    have := h.nums
    unfold NumAt ValAt at this
    rw [hb] at this
    simp at this
    exact ht this.2
  · rintro rfl
    have := h.may
    unfold BoolAt at this
    rw [hb] at this
    simp at this
    exact ht2 this.2
  · rintro rfl
    have := h.used
    unfold BoolAt at this
    rw [hb] at this
    simp at this
    exact ht2 this.2
theorem RrAt.setNum (h : RrAt w X gv k1 k2 nb nn N F G num) (i : Nat) (v : Int) : RrAt w (X.setCell ⟨nb, i, none⟩ (.int .i64 v)) gv k1 k2 nb nn N F G (setN num i v) := by
  have hg : X.grownBy (X.setCell ⟨nb, i, none⟩ (.int .i64 v)) (some nb) := grown_setCell _ _ _
  have hb := h.lo
  have h1 : k1 ≠ nb := by
    rintro rfl
    have h9 := h.may
    have h8 := h.nums
    unfold BoolAt at h9
    unfold NumAt ValAt at h8
    rw [h9] at h8
    simp at h8
  have h2 : k2 ≠ nb := by
    rintro rfl
    have h9 := h.used
    have h8 := h.nums
    unfold BoolAt at h9
    unfold NumAt ValAt at h8
    rw [h9] at h8
    simp at h8
  exact ⟨grown_at h.grown hg (by omega), (hg.block _ (Array.getElem?_eq_some_iff.1 h.gbox).1 (by simp; omega)).trans h.gbox, (hg.block _ (Array.getElem?_eq_some_iff.1 h.rbox).1 (by simp; omega)).trans h.rbox, h.may.at hg h1, h.used.at hg h2, h.nums.set i v, h.lo⟩
theorem RrAt.g (h : RrAt w X gv k1 k2 nb nn N F G num) (k : Nat) (v : Value) (hv : gv[k]? = some v) : X.cell? ⟨w.heap.size, k, none⟩ = some v := by rw [cell_of_row _ _ _ _ _ _ h.gbox]; exact hv
theorem RrAt.row {B e s n : Nat} {v : Value} {xs : List Value} (h : RrAt w X gv k1 k2 nb nn N F G num) (ho : X.ownsRow B e s v n xs) (hB : w.heap.size + 2 ≤ B) (he : e ≠ 3) (he2 : e ≠ 4) (hg : X.grownBy Y v.ownBlock) : RrAt w Y gv k1 k2 nb nn N F G num := by
  cases hv : v.ownBlock with
  | none => rw [hv] at hg; exact h.kept hg
  | some q =>
    have h1 := (ho.lt q hv).1
    have h2 := owns_nebox ho (show X.heap[nb]? = some (.cells _ 3 (0, 0)) from h.nums) he
    have h3 := owns_nebox ho (show X.heap[k1]? = some (.cells _ 4 (0, 0)) from h.may) he2
    have h4 := owns_nebox ho (show X.heap[k2]? = some (.cells _ 4 (0, 0)) from h.used) he2
    rw [hv] at hg h2 h3 h4
    have ne : ∀ {z : Nat}, (some q = none ∨ some q ≠ some z) → z ≠ q := fun h e1 => by
      rcases h with h | h
      · cases h
      · exact h (by rw [e1])
    exact h.at hg (by omega) (ne h2) (ne h3) (ne h4)
end

theorem results_rreduce (tmps : Array Value) (w : World) (g : Nat) (cs : Array Value) (x : Value) (h2 : tmps.getD 2 undef = .pointer (some ⟨g, 0, none⟩)) (h3 : tmps.getD 3 undef = x) (hg : w.heap[g]? = some (.cells cs 27 (0, 0))) (hs : cs.size = 5) :
    (results Try.f17 tmps).run Try.prog w = .ok (.tuple #[.agg cs, x]) w := by
  have h2' : tmps[2]?.getD undef = .pointer (some ⟨g, 0, none⟩) := by simpa using h2
  have h3' : tmps[3]?.getD undef = x := by simpa using h3
  have hl := run_loadVar_row (P := Try.prog) w g 27 27 cs (0, 0) _ hg Try.underlying27 rfl (by rw [infoG, hs])
  simp [results, Try.results17, h2', h3', asAddr, hl]

/-- The answer of the document's Reduce, of a plain grammar. -/
def RTold (ts : List (ByteArray × Int)) (ns : List ByteArray) (lv : List Int) (tn nn n : Nat) (st : Int) (L : Nat → Int) (R : Nat → List Int) (V : Nat → Int) (F G : Nat → Bool) (w : World) (e : Ending) (y : World) : Prop :=
  w.grownBy y none ∧
    ((F (st - tn).toNat = false ∧ e = .returned (.tuple #[.agg #[.slice none 0 0, .slice none 0 0, .slice none 0 0, .int .i64 0, .slice none 0 0], .int .i64 12])) ∨
     (F (st - tn).toNat = true ∧ ∃ vt vn vl vp, e = .returned (.tuple #[.agg #[vt, vn, vl, .int .i64 (numTo tn G nn st.toNat), vp], .int .i64 0]) ∧ GramNew y w.heap.size (redGR ts ns lv tn nn n st L R V G (fun k => goD tn L R F k G)) vt vn vl vp))

set_option maxRecDepth 100000 in
set_option maxHeartbeats 2000000 in
theorem rreduce_ok (ta na la pa : Option Addr) (tc nc lc pc : Nat) (ts : List (ByteArray × Int)) (ns : List ByteArray) (lv : List Int) (n : Nat) (L : Nat → Int) (R : Nat → List Int) (ra : Nat → Option Addr) (rc : Nat → Nat) (V : Nat → Int) (st : Int) (w : World) (tn nn ln : Nat) (hlen : ts.length = tn ∧ ns.length = nn ∧ lv.length = ln) (hG : GAt w ta na la pa tc nc lc pc ts ns lv n L R ra rc V) (hnt : ta = none → tn = 0 ∧ tc = 0) (hnl : la = none → ln = 0 ∧ lc = 0) (hts : ∀ t ∈ ts, t.1.size ≤ 140737488355328) (hns : ∀ s ∈ ns, s.size ≤ 140737488355328) (hval : validOK ts ns lv st n L R V) (F G : Nat → Bool) (hM : MarksOf tn nn n st L R false F G) :
    Calls Try.prog 17 #[.agg #[.slice ta tn tc, .slice na nn nc, .slice la ln lc, .int .i64 st, .slice pa n pc]] w fun e y => RTold ts ns lv tn nn n st L R V F G w e y := by
  have hC : false = true ↔ closedOK ts ns lv st n L R V := ⟨fun h => (by cases h), fun h => absurd h.1.name (valid_name hval)⟩
  have hV : true = true ↔ validOK ts ns lv st n L R V := ⟨fun _ => hval, fun _ => rfl⟩
  have htn : tn ≤ 65 := hM.may.tmax
  have hnn : nn ≤ 65 := hM.may.nmax
  have hpn : n ≤ 97 := hM.may.pmax
  have hn0 : 0 < nn := hM.may.n0
  have HM : Hid (MarksOf tn nn n st L R false F G) := hM
  have HVL : Hid (∀ X, w.grownBy X none → Calls Try.prog 20 #[.agg #[.slice ta tn tc, .slice na nn nc, .slice la ln lc, .int .i64 st, .slice pa n pc]] X (fun e w' => e = .returned (.bool true) ∧ X.grownBy w' none)) := fun X hX => (rvc ta na la pa tc nc lc pc ts ns lv n L R ra rc V st w tn nn ln hlen hG hts hns X hX true false hV hC).1
  have HMK : Hid (∀ X, w.grownBy X none → Calls Try.prog 25 #[.agg #[.slice ta tn tc, .slice na nn nc, .slice la ln lc, .int .i64 st, .slice pa n pc]] X fun e w' => ∃ k, e = .returned (.slice (some ⟨k, 0, none⟩) nn nn) ∧ BoolAt w' k nn F ∧ X.grownBy w' none) := fun X hX => by
    refine (rmarks_any ta na la pa tn nn ln n tc nc lc pc st L R ra rc V X (hG.kept hX).prods hM.may.pmax (by omega) hM.may.left (fun k hk x hx => ⟨by have := hM.may.right k hk x hx; omega, (hM.may.right k hk x hx).2⟩)).mono ?_
    rintro e w' ⟨k, rfl, hk, ⟨f, hB, hF⟩, hg⟩
    rw [hM.f_eq hF] at hB
    exact ⟨k, rfl, hB, hg⟩
  have HUS : Hid (∀ X, w.grownBy X none → Calls Try.prog 24 #[.agg #[.slice ta tn tc, .slice na nn nc, .slice la ln lc, .int .i64 st, .slice pa n pc]] X fun e w' => ∃ k, e = .returned (.slice (some ⟨k, 0, none⟩) nn nn) ∧ BoolAt w' k nn G ∧ X.grownBy w' none) := fun X hX => by
    refine (rused_any ta na la pa tc nc lc pc ts ns lv n L R ra rc V st X tn nn ln hlen (hG.kept hX) false hM.may (closed_name (rV := true) hV hC rfl)).mono ?_
    rintro e w' ⟨k, may, F', rfl, hk, hB, hF, hD, hg⟩
    rw [hM.f_eq hF] at hD
    rw [hM.g_eq hD] at hB
    exact ⟨k, rfl, hB, hg⟩
  have HCP : Hid (∀ X, w.grownBy X none → Calls Try.prog 8 #[.agg #[.slice ta tn tc, .slice na nn nc, .slice la ln lc, .int .i64 st, .slice pa n pc]] X fun e w' => ∃ ta' na' la' pa' tc' nc' lc' pc', e = .returned (.agg #[.slice ta' tn tc', .slice na' nn nc', .slice la' ln lc', .int .i64 st, .slice pa' n pc']) ∧ (w'.ownsRow X.heap.size 57 2 (.slice ta' tn tc') ts.length (tmsL ts) ∧ w'.ownsRow X.heap.size 3 1 (.slice la' ln lc') lv.length (lv.map (Value.int .i64))) ∧ X.grownBy w' none) := fun X hX => by
    have hll := hG.llen
    rw [hlen.2.2] at hll
    refine (rcopy_core ta na la pa tn nn ln n tc nc lc pc st ts ns lv L R ra rc V X hlen (hG.kept hX) hnt hnl (by omega) (by omega) (by omega) (by omega)).mono ?_
    rintro e w' ⟨vt, vn, vl, vp, rfl, hN, hg⟩
    obtain ⟨a1, c1, e1⟩ := owns_slice hN.terms
    obtain ⟨a2, c2, e2⟩ := owns_slice hN.nons
    obtain ⟨a3, c3, e3⟩ := owns_slice hN.levels
    obtain ⟨rg, p1, _⟩ := hN.prods
    obtain ⟨a4, c4, e4⟩ := owns_slice p1
    have e1' : vt = .slice a1 tn c1 := by rw [e1]; show Value.slice a1 ts.length c1 = _; rw [hlen.1]
    have e2' : vn = .slice a2 nn c2 := by rw [e2]; show Value.slice a2 ns.length c2 = _; rw [hlen.2.1]
    have e3' : vl = .slice a3 ln c3 := by rw [e3]; show Value.slice a3 lv.length c3 = _; rw [hlen.2.2]
    have e4' : vp = .slice a4 n c4 := by rw [e4, grOf_len]
    subst e1' e2' e3' e4'
    exact ⟨a1, a2, a3, a4, c1, c2, c3, c4, rfl, ⟨hN.terms, hN.levels⟩, hg⟩
  have HFT : Hid (∀ k, k < n → ∀ (X : World) (k1 : Nat), w.grownBy X none → BoolAt X k1 nn F → Calls Try.prog 35 #[.agg #[.slice ta tn tc, .slice na nn nc, .slice la ln lc, .int .i64 st, .slice pa n pc], .slice (some ⟨k1, 0, none⟩) nn nn, .slice (ra k) (R k).length (rc k)] X fun e w' => e = .returned (.bool (fitsB tn F (R k))) ∧ X.grownBy w' none) := fun k hk X k1 hX hB => by
    have hp := (hG.kept hX).prods
    rcases hp with h | ⟨b, off, e, h⟩
    · omega
    · exact rfits_any ta na la pa (ra k) tn nn ln n tc nc lc pc (rc k) k1 st F (R k) X hB (h k hk).2.2.2.1 (h k hk).2.2.2.2.2 (by omega) (fun x hx => ⟨by have := hM.may.right k hk x hx; omega, (hM.may.right k hk x hx).2⟩) _ (fitsB_iff tn F (R k))
  have HGG : Hid (GAt w ta na la pa tc nc lc pc ts ns lv n L R ra rc V) := hG
  have HLN : Hid (ts.length = tn ∧ ns.length = nn ∧ lv.length = ln) := hlen
  obtain ⟨s, hs⟩ : ∃ s : Nat, st = ((tn + s : Nat) : Int) := ⟨(st - tn).toNat, by have := hM.may.start; omega⟩
  have hsn : s < nn := by have := hM.may.start; omega
  have HS2 : Hid ((st - (tn : Int)).toNat = s ∧ st.toNat = tn + s) := ⟨by omega, by omega⟩
  have HSS : Hid (st = ((tn + s : Nat) : Int)) := hs
  have b1 := heap_alloc_last w (.cells #[.slice ta tn tc, .slice na nn nc, .slice la ln lc, .int .i64 st, .slice pa n pc] 27)
  have b2 := heap_alloc_last (w.alloc (.cells #[.slice ta tn tc, .slice na nn nc, .slice la ln lc, .int .i64 st, .slice pa n pc] 27)) (.cells #[.slice none 0 0, .slice none 0 0, .slice none 0 0, .int .i64 0, .slice none 0 0] 27)
  rw [World.size_alloc] at b2
  have HB0 := show Hid _ from b2
  have HPH : Hid (PhAt w ((w.alloc (.cells #[.slice ta tn tc, .slice na nn nc, .slice la ln lc, .int .i64 st, .slice pa n pc] 27)).alloc (.cells #[.slice none 0 0, .slice none 0 0, .slice none 0 0, .int .i64 0, .slice none 0 0] 27)) w.heap.size #[.slice ta tn tc, .slice na nn nc, .slice la ln lc, .int .i64 st, .slice pa n pc]) := ⟨grown_trans (World.grownBy_alloc _ _ none) (World.grownBy_alloc _ _ none), (boxKept b1 (World.grownBy_alloc _ _ none)).out⟩
  obtain ⟨m0, m1, m2, m3, m4⟩ := HPH.out.cells
  clear hlen hG hnt hnl hts hns hval hC hV hM hs b1 b2
  obtain ⟨i0, hi, hz0, hz1, hz2⟩ := info_parts infoInt1
  go_enter Try.func17, Try.ntmps17
  go_wp2_with fail
  refine Calls.mono (HVL.out _ HPH.out.grown) ?_
  rintro e w1 ⟨rfl, hg1⟩
  have HP1 : Hid (PhAt w w1 w.heap.size #[.slice ta tn tc, .slice na nn nc, .slice la ln lc, .int .i64 st, .slice pa n pc]) := HPH.out.kept hg1
  have HB1 := boxKept HB0.out hg1
  clear hg1 m0 m1 m2 m3 m4 HPH HB0
  obtain ⟨m0, m1, m2, m3, m4⟩ := HP1.out.cells
  go_wp2_with fail
  refine Calls.mono (HMK.out _ HP1.out.grown) ?_
  rintro e w2 ⟨k1, rfl, hF2, hg2⟩
  have HF2 : Hid (BoolAt w2 k1 nn F) := hF2
  have HP2 : Hid (PhAt w w2 w.heap.size #[.slice ta tn tc, .slice na nn nc, .slice la ln lc, .int .i64 st, .slice pa n pc]) := HP1.out.kept hg2
  have HB2 := boxKept HB1.out hg2
  clear hg2 hF2 m0 m1 m2 m3 m4 HP1 HB1
  obtain ⟨m0, m1, m2, m3, m4⟩ := HP2.out.cells
  go_wp2_with fail
  refine Calls.mono (HUS.out _ HP2.out.grown) ?_
  rintro e w3 ⟨k2, rfl, hG3, hg3⟩
  have HG3 : Hid (BoolAt w3 k2 nn G) := hG3
  have HF3 : Hid (BoolAt w3 k1 nn F) := HF2.out.kept hg3
  have HP3 : Hid (PhAt w w3 w.heap.size #[.slice ta tn tc, .slice na nn nc, .slice la ln lc, .int .i64 st, .slice pa n pc]) := HP2.out.kept hg3
  have HB3 := boxKept HB2.out hg3
  clear hg3 hG3 m0 m1 m2 m3 m4 HP2 HB2 HF2
  obtain ⟨m0, m1, m2, m3, m4⟩ := HP3.out.cells
  have hd1 : st - (tn : Int) = (s : Int) := by have := HSS.out; omega
  have hd3 : IntKind.i64.wrap (s : Int) = (s : Int) := by rw [IntKind.wrap_i64]; omega
  have hv0 : (0 : Int) ≤ (s : Int) := by omega
  have hv1 : (s : Int) < (nn : Int) := by omega
  have a0 := HF3.out.cell s hsn
  obtain ⟨p, hp⟩ : ∃ p, p = F s := ⟨_, rfl⟩
  have HPP : Hid (p = F s) := hp
  rw [← hp] at a0
  clear hp
  cases p with
  | false =>
    obtain ⟨s0, s1, s2, s3, s4⟩ : w3.cell? ⟨w.heap.size + 1, 0, none⟩ = some (.slice none 0 0) ∧ w3.cell? ⟨w.heap.size + 1, 1, none⟩ = some (.slice none 0 0) ∧ w3.cell? ⟨w.heap.size + 1, 2, none⟩ = some (.slice none 0 0) ∧ w3.cell? ⟨w.heap.size + 1, 3, none⟩ = some (.int .i64 0) ∧ w3.cell? ⟨w.heap.size + 1, 4, none⟩ = some (.slice none 0 0) := by
      refine ⟨?_, ?_, ?_, ?_, ?_⟩ <;> rw [cell_of_row _ _ _ _ _ _ HB3.out] <;> rfl
    have sf : ∀ j, w3.frozen? ⟨w.heap.size + 1, j, none⟩ = false := fun j => frozen_of_row _ _ _ _ _ HB3.out
    have HST := show Hid _ from set5_grown w3 (w.heap.size + 1) (.slice none 0 0) (.slice none 0 0) (.slice none 0 0) (.int .i64 0) (.slice none 0 0)
    have HF9 := show Hid _ from set5_heap HB3.out (.slice none 0 0) (.slice none 0 0) (.slice none 0 0) (.int .i64 0) (.slice none 0 0)
    go_wp2_with fail
    exact bodyPost_ret (v := .tuple #[.agg #[.slice none 0 0, .slice none 0 0, .slice none 0 0, .int .i64 0, .slice none 0 0], .int .i64 12]) (results_rreduce _ _ (w.heap.size + 1) _ _ rfl rfl HF9.out rfl) rfl ⟨grown_at HP3.out.grown HST.out (by omega), .inl ⟨by rw [HS2.out.1]; exact HPP.out.symm, rfl⟩⟩
  | true =>
    go_wp2_with fail
    refine Calls.mono (HCP.out _ HP3.out.grown) ?_
    rintro e w5 ⟨ta', na', la', pa', tc', nc', lc', pc', rfl, hN5, hg5⟩
    obtain ⟨ob, hob⟩ : ∃ ob, ob = w5.heap.size + 1 + 1 := ⟨_, rfl⟩
    obtain ⟨nb, hnb⟩ : ∃ nb, nb = w5.heap.size + 1 + 1 + 1 := ⟨_, rfl⟩
    obtain ⟨X8, hX8⟩ : ∃ X8, X8 = ((w5.alloc (.cells #[.slice ta' tn tc', .slice na' nn nc', .slice la' ln lc', .int .i64 st, .slice pa' n pc'] 27)).alloc (.cells #[.string ⟨#[]⟩] 9)).alloc (.cells #[.slice ta' tn tc', .slice (some ⟨w5.heap.size + 1, 0, none⟩) 1 1, .slice la' ln lc', .int .i64 0, .slice none 0 0] 27) := ⟨_, rfl⟩
    obtain ⟨g8, c8, d8, e8⟩ := alloc3 w5 (.cells #[.slice ta' tn tc', .slice na' nn nc', .slice la' ln lc', .int .i64 st, .slice pa' n pc'] 27) (.cells #[.string ⟨#[]⟩] 9) (.cells #[.slice ta' tn tc', .slice (some ⟨w5.heap.size + 1, 0, none⟩) 1 1, .slice la' ln lc', .int .i64 0, .slice none 0 0] 27)
    rw [← hX8] at g8 c8 d8 e8
    have hlo5 : w.heap.size + 2 ≤ w3.heap.size := by have := (Array.getElem?_eq_some_iff.1 HB3.out).1; omega
    have hs5 := hg5.size
    have HP8 : Hid (PhAt w X8 w.heap.size #[.slice ta tn tc, .slice na nn nc, .slice la ln lc, .int .i64 st, .slice pa n pc]) := (HP3.out.kept hg5).kept g8
    have HB8 := boxKept (boxKept HB3.out hg5).out g8
    have HF8 : Hid (BoolAt X8 k1 nn F) := (HF3.out.kept hg5).kept g8
    have HG8 : Hid (BoolAt X8 k2 nn G) := (HG3.out.kept hg5).kept g8
    have HGM1 : Hid (GmAt X8 (w.heap.size + 2) ob (.slice ta' tn tc') (.slice (some ⟨w5.heap.size + 1, 0, none⟩) 1 1) (.slice la' ln lc') (.slice none 0 0) 0 ts [⟨#[]⟩] lv []) :=
      ⟨by rw [hob]; exact e8, owns_lower (keep0 hN5.1 g8) hlo5, ⟨rfl, .inr ⟨w5.heap.size + 1, 1, _, rfl, by omega, d8, Nat.le_refl _, by unfold maxLen; omega, rfl, rfl⟩⟩, owns_lower (keep0 hN5.2 g8) hlo5, [], rfl, World.ownsRow_nil _ _ _ _, fun i hi => absurd hi (Nat.not_lt_zero i)⟩
    have HVL2 : Hid ((Value.slice la' ln lc').ownBlock ≠ some nb) := by
      intro h9
      have h8 := (hN5.2.lt _ h9).2
      omega
    have hX8s : X8.heap.size = nb := by rw [hX8, hnb]; simp
    have hg5a := World.grownBy_alloc w5 (.cells #[.slice ta' tn tc', .slice na' nn nc', .slice la' ln lc', .int .i64 st, .slice pa' n pc'] 27) none
    have hbx := heap_alloc_last w5 (.cells #[.slice ta' tn tc', .slice na' nn nc', .slice la' ln lc', .int .i64 st, .slice pa' n pc'] 27)
    have f1 : (w5.alloc (.cells #[.slice ta' tn tc', .slice na' nn nc', .slice la' ln lc', .int .i64 st, .slice pa' n pc'] 27)).cell? ⟨w5.heap.size, 0, none⟩ = some (.slice ta' tn tc') := by rw [cell_of_row _ _ _ _ _ _ hbx]; rfl
    have f2 : (w5.alloc (.cells #[.slice ta' tn tc', .slice na' nn nc', .slice la' ln lc', .int .i64 st, .slice pa' n pc'] 27)).cell? ⟨w5.heap.size, 2, none⟩ = some (.slice la' ln lc') := by rw [cell_of_row _ _ _ _ _ _ hbx]; rfl
    clear m0 m1 m2 m3 m4
    obtain ⟨m0, m1, m2, m3, m4⟩ := HP8.out.cells
    rw [hX8] at m0 m1 m2 m3 m4
    have HXE := show Hid _ from hX8
    have HXS : Hid (X8.heap.size = nb) := hX8s
    have HOB : Hid (ob = w5.heap.size + 1 + 1) := hob
    have HNB : Hid (nb = w5.heap.size + 1 + 1 + 1) := hnb
    have hob2 : w.heap.size + 2 ≤ ob := by omega
    have hobn : ob < nb := by omega
    have HB9 : Hid (w.heap.size + 2 ≤ (((w5.alloc (.cells #[.slice ta' tn tc', .slice na' nn nc', .slice la' ln lc', .int .i64 st, .slice pa' n pc'] 27)).alloc (.cells #[.string ⟨#[]⟩] 9)).alloc (.cells #[.slice ta' tn tc', .slice (some ⟨w5.heap.size + 1, 0, none⟩) 1 1, .slice la' ln lc', .int .i64 0, .slice none 0 0] 27)).heap.size) := by rw [← hX8, hX8s]; show _ ≤ _; omega
    clear hN5 hg5 g8 c8 d8 e8 hX8 hg5a hbx hX8s hlo5 hs5 HF3 HG3 HB3 HP3 a0 hob hnb
    go_wp2_with (at_make; refine wpList_make_full _ rfl _ _ 24 rfl (w.heap.size + 2) 3 i0 (.int .i64 0) 1 Try.underlying24 hi hz0 hz1 .i64 .i64 _ _ (tn + nn) rfl rfl (by simp) (by simp) (by rw [hz2]; omega) (by unfold maxLen; omega) HB9.out ?_)
    intro w9 hown hgrow
    rw [← HXE.out] at hgrow
    have hnew : NumAt w9 nb (tn + nn) (numT 0) := by
      have h9 := made_nums (w := X8) (w1 := w9) (B := w.heap.size + 2) (n := tn + nn) (by rw [HXS.out, HNB.out]; simpa [Value.cells] using hown)
      rw [HXS.out] at h9
      exact NumAt.ext h9 fun i _ => by simp [numT]
    have HRD : Hid (RrAt w w9 #[.slice ta tn tc, .slice na nn nc, .slice la ln lc, .int .i64 st, .slice pa n pc] k1 k2 nb nn (tn + nn) F G (numT 0)) := ⟨(HP8.out.kept hgrow).grown, (HP8.out.kept hgrow).box, (boxKept HB8.out hgrow).out, HF8.out.kept hgrow, HG8.out.kept hgrow, hnew, by omega⟩
    have HGM : Hid (GmAt w9 (w.heap.size + 2) ob (.slice ta' tn tc') (.slice (some ⟨w5.heap.size + 1, 0, none⟩) 1 1) (.slice la' ln lc') (.slice none 0 0) 0 ts [⟨#[]⟩] lv []) := HGM1.out.kept hgrow
    clear hown hgrow hnew HGM1 HP8 HB8 HF8 HG8 hi hz0 hz1 hz2 HB9 f1 f2 m0 m1 m2 m3 m4 HXE
    rw [← HNB.out, ← HOB.out]
    obtain ⟨nz, hnz⟩ : ∃ nz, nz = w5.heap.size + 1 := ⟨_, rfl⟩
    rw [← hnz] at HGM ⊢
    clear hnz HOB HNB HXS HMK HUS HCP HVL
    go_wp2_with fail
    go_loopg [9] tn (fun gk i wr => ∃ k : Nat, k ≤ tn ∧ gk = tn - k ∧ i = .int .i64 k ∧ RrAt w wr #[.slice ta tn tc, .slice na nn nc, .slice la ln lc, .int .i64 st, .slice pa n pc] k1 k2 nb nn (tn + nn) F G (numT k) ∧ GmAt wr (w.heap.size + 2) ob (.slice ta' tn tc') (.slice (some ⟨nz, 0, none⟩) 1 1) (.slice la' ln lc') (.slice none 0 0) 0 ts [⟨#[]⟩] lv [])
    case atStart => exact ⟨0, Nat.zero_le _, rfl, rfl, HRD.out, HGM.out⟩
    case round =>
      obtain ⟨k, hk, hgk, rfl, hR, hQ⟩ := hrel
      have HGK : Hid (gk = tn - k) := hgk
      have HR : Hid (RrAt w wr #[.slice ta tn tc, .slice na nn nc, .slice la ln lc, .int .i64 st, .slice pa n pc] k1 k2 nb nn (tn + nn) F G (numT k)) := hR
      have HQ : Hid (GmAt wr (w.heap.size + 2) ob (.slice ta' tn tc') (.slice (some ⟨nz, 0, none⟩) 1 1) (.slice la' ln lc') (.slice none 0 0) 0 ts [⟨#[]⟩] lv []) := hQ
      clear hgk hR hQ HRD HGM
      have g0 := HR.out.g 0 _ rfl
      by_cases hlt : k < tn
      · have r0 := HR.out.nums.cell k (by omega)
        have rf := HR.out.nums.free k
        have hk0 : (0 : Int) ≤ (k : Int) := by omega
        have hk1 : (k : Int) < (tn : Int) := by omega
        have hkd : decide (k < tn) = true := decide_eq_true hlt
        have hk2 : (k : Int) < (tn : Int) + (nn : Int) := by omega
        obtain ⟨r, hr⟩ : ∃ r, r = numT k k := ⟨_, rfl⟩
        rw [← hr] at r0
        clear hr
        go_wp2_with fail
        go_roundg (tn - (k + 1))
        case measure => have := HGK.out; omega
        case rel => exact ⟨k + 1, by omega, rfl, by go_num, by rw [← numT_succ]; exact HR.out.setNum k k, HQ.out.elsewhere (show wr.heap[nb]? = some (.cells _ 3 (0, 0)) from HR.out.nums) HVL2.out (grown_setCell _ _ _)⟩
      · have hkn : tn = k := by omega
        subst hkn
        have hkd : decide (tn < tn) = false := decide_eq_false (by omega)
        have HR2 : Hid (RrAt w wr #[.slice ta tn tc, .slice na nn nc, .slice la ln lc, .int .i64 st, .slice pa n pc] k1 k2 nb nn (tn + nn) F G (numTo tn G 0)) := by rw [← numT_all]; exact HR.out
        have HQ2 : Hid (GmAt wr (w.heap.size + 2) ob (.slice ta' tn tc') (.slice (some ⟨nz, 0, none⟩) 1 1) (.slice la' ln lc') (.slice none 0 0) 0 ts (namesTo G ns 0) lv []) := HQ.out
        clear HGK HR HQ
        obtain ⟨iS, hiS, hS0, hS1, hS2⟩ := info_parts infoStr
        generalize wr = X9 at *
        go_wp2_with fail
        go_loopg [10] nn (fun gk i wr => ∃ (k ll : Nat) (a2 : Option Addr) (c2 : Nat), k ≤ nn ∧ gk = nn - k ∧ i = .int .i64 k ∧ ll = 1 + cntU G k ∧ RrAt w wr #[.slice ta tn tc, .slice na nn nc, .slice la ln lc, .int .i64 st, .slice pa n pc] k1 k2 nb nn (tn + nn) F G (numTo tn G k) ∧ GmAt wr (w.heap.size + 2) ob (.slice ta' tn tc') (.slice a2 ll c2) (.slice la' ln lc') (.slice none 0 0) 0 ts (namesTo G ns k) lv [])
        case atStart => exact ⟨0, 1, _, _, Nat.zero_le _, rfl, rfl, rfl, HR2.out, HQ2.out⟩
        case round =>
          obtain ⟨k, ll, a2, c2, hk, hgk, rfl, hll, hR, hQ⟩ := hrel
          have HGK : Hid (gk = nn - k) := hgk
          have HLL : Hid (ll = 1 + cntU G k) := hll
          have HR : Hid (RrAt w wr #[.slice ta tn tc, .slice na nn nc, .slice la ln lc, .int .i64 st, .slice pa n pc] k1 k2 nb nn (tn + nn) F G (numTo tn G k)) := hR
          have HQ : Hid (GmAt wr (w.heap.size + 2) ob (.slice ta' tn tc') (.slice a2 ll c2) (.slice la' ln lc') (.slice none 0 0) 0 ts (namesTo G ns k) lv []) := hQ
          have hll1 : ll ≤ 1024 := by have := cntU_le G k; omega
          clear hgk hR hQ HR2 HQ2 hll
          have g1 := HR.out.g 1 _ rfl
          by_cases hlt : k < nn
          · obtain ⟨bn, on, rfl, hcs⟩ : ∃ b off, na = some ⟨b, off, none⟩ ∧ ∀ i, i < ns.length → w.cell? ⟨b, off + i, none⟩ = some (.string (ns.getD i ⟨#[]⟩)) := by
              rcases HGG.out.nons with h | h
              · have := HLN.out.2.1; rw [h] at this; simp at this; omega
              · exact h
            have hkn2 : k < ns.length := by rw [HLN.out.2.1]; exact hlt
            have HC0 : Hid (∀ X, w.grownBy X none → X.cell? ⟨bn, on + k, none⟩ = some (.string (ns.getD k ⟨#[]⟩))) := fun X hX => hX.cell (hcs k hkn2) (by simp)
            obtain ⟨nm, hnm⟩ : ∃ nm, nm = ns.getD k ⟨#[]⟩ := ⟨_, rfl⟩
            have HNM : Hid (nm = ns.getD k ⟨#[]⟩) := hnm
            rw [← hnm] at HC0
            have hk0 : (0 : Int) ≤ (k : Int) := by omega
            have hk1 : (k : Int) < (nn : Int) := by omega
            have hkN : decide (k < nn) = true := decide_eq_true hlt
            have hs1 : ((tn : Int) + (k : Int)) < (tn : Int) + (nn : Int) := by omega
            have hs0 : (0 : Int) ≤ (tn : Int) + (k : Int) := by omega
            have u0 := HR.out.used.cell k hlt
            obtain ⟨b, hb⟩ : ∃ b, b = G k := ⟨_, rfl⟩
            have HBB : Hid (b = G k) := hb
            rw [← hb] at u0
            clear hb hcs hkn2 hnm
            cases b with
            | false =>
              go_wp2_with fail
              go_roundg (nn - (k + 1))
              case measure => have := HGK.out; omega
              case rel =>
                have hb : G k = false := HBB.out.symm
                refine ⟨k + 1, ll, a2, c2, by omega, rfl, by go_num, ?_, by rw [numTo_no hb]; exact HR.out, by rw [namesTo_no hb]; exact HQ.out⟩
                rw [HLL.out, ← namesTo_len _ ns, ← namesTo_len _ ns, namesTo_no hb]
            | true =>
              have HBT : Hid (G k = true) := HBB.out.symm
              have g0 := HR.out.g 0 _ rfl
              have r0 := HR.out.nums.cell (tn + k) (by omega)
              have rf := HR.out.nums.free (tn + k)
              obtain ⟨⟨q0, q1, q2, q3, q4⟩, qf⟩ := HQ.out.cells
              obtain ⟨rv, hrv⟩ : ∃ r, r = numTo tn G k (tn + k) := ⟨_, rfl⟩
              rw [← hrv] at r0
              have hna : nb ≠ ob := by omega
              have hnb2 : ob ≠ nb := by omega
              have HR6 : Hid (RrAt w (wr.setCell ⟨nb, tn + k, none⟩ (.int .i64 ((tn : Int) + (ll : Int)))) #[.slice ta tn tc, .slice (some ⟨bn, on, none⟩) nn nc, .slice la ln lc, .int .i64 st, .slice pa n pc] k1 k2 nb nn (tn + nn) F G (numTo tn G (k + 1))) := by
                rw [← numTo_yes HBT.out, HLL.out]; exact HR.out.setNum _ _
              have HQ6 : Hid (GmAt (wr.setCell ⟨nb, tn + k, none⟩ (.int .i64 ((tn : Int) + (ll : Int)))) (w.heap.size + 2) ob (.slice ta' tn tc') (.slice a2 ll c2) (.slice la' ln lc') (.slice none 0 0) 0 ts (namesTo G ns k) lv []) := HQ.out.elsewhere (show wr.heap[nb]? = some (.cells _ 3 (0, 0)) from HR.out.nums) HVL2.out (grown_setCell _ _ _)
              clear hrv q0 q2 q3 q4 qf
              go_wp2_with fail
              generalize wr.setCell ⟨nb, tn + k, none⟩ (.int .i64 ((tn : Int) + (ll : Int))) = X6 at *
              have hal := World.grownBy_alloc X6 (.cells #[.string nm] 9) none
              have hald : X6.grownBy (X6.alloc (.cells #[.string nm] 9)).drew none := grown_trans hal (grown_drewN _ 1)
              have HNR : Hid ((X6.alloc (.cells #[.string nm] 9)).drew.ownsRow (w.heap.size + 2) 9 1 (.slice a2 ll c2) ll ((namesTo G ns k).map Value.string)) := by
                have h := (HQ6.out.kept hald).nr
                rw [namesTo_len, ← HLL.out] at h
                exact h
              have HBL6 : Hid (w.heap.size + 2 ≤ (X6.alloc (.cells #[.string nm] 9)).drew.heap.size) := by show _ ≤ _; have := HQ6.out.lt; simp; omega
              have HNW : Hid (∀ j u, [Value.string nm][j]? = some u → (X6.alloc (.cells #[.string nm] 9)).drew.cell? ((⟨X6.heap.size, 0, none⟩ : Addr).add j) = some u) := news_new X6 _ _
              have HF6 : Hid (∀ v6 wB, wB.ownsRow (w.heap.size + 2) 9 1 v6 (ll + 1) ((namesTo G ns k).map Value.string ++ [.string nm]) → (X6.alloc (.cells #[.string nm] 9)).drew.grownBy wB (Value.slice a2 ll c2).ownBlock → ∃ a c, v6 = .slice a (ll + 1) c ∧ wB.cell? ⟨ob, 1, none⟩ = some (.slice a2 ll c2) ∧ wB.frozen? ⟨ob, 1, none⟩ = false ∧ RrAt w (wB.setCell ⟨ob, 1, none⟩ (.slice a (ll + 1) c)) #[.slice ta tn tc, .slice (some ⟨bn, on, none⟩) nn nc, .slice la ln lc, .int .i64 st, .slice pa n pc] k1 k2 nb nn (tn + nn) F G (numTo tn G (k + 1)) ∧ GmAt (wB.setCell ⟨ob, 1, none⟩ (.slice a (ll + 1) c)) (w.heap.size + 2) ob (.slice ta' tn tc') (.slice a (ll + 1) c) (.slice la' ln lc') (.slice none 0 0) 0 ts (namesTo G ns (k + 1)) lv []) := by
                intro v6 wB ho hg
                obtain ⟨a, c, rfl⟩ := owns_slice ho
                have hQ7 := HQ6.out.kept hald
                have hbx := hQ7.boxKept HNR.out (by decide) hg
                have hR7 := (HR6.out.kept hald).row HNR.out (Nat.le_refl _) (by decide) (by decide) hg
                have hne := hR7.ne hbx (by decide) (by decide)
                refine ⟨a, c, rfl, by rw [cell_of_row _ _ _ _ _ _ hbx]; rfl, frozen_of_row _ _ _ _ _ hbx, hR7.at (grown_setCell _ _ _) hob2 hne.1 hne.2.1 hne.2.2, ?_⟩
                have h8 : (namesTo G ns (k + 1)).length = ll + 1 := by rw [namesTo_yes HBT.out, List.length_append, namesTo_len, ← HLL.out]; rfl
                exact hQ7.setN (ns' := namesTo G ns (k + 1)) (v' := .slice a (ll + 1) c) (Y := wB) hg (by
                  rw [h8, namesTo_yes HBT.out, List.map_append, ← HNM.out]; exact ho)
              have y1 : X6.drew.cell? ⟨ob, 1, none⟩ = some (.slice a2 ll c2) := HQ6.out.cells.1.2.1
              have y2 : ∀ o, (X6.alloc o).drew.cell? ⟨ob, 1, none⟩ = some (.slice a2 ll c2) := fun o => (HQ6.out.kept (World.grownBy_alloc X6 o none)).cells.1.2.1
              have y3 : X6.drew.cell? ⟨w.heap.size, 1, none⟩ = some (.slice (some ⟨bn, on, none⟩) nn nc) := HR6.out.g 1 _ rfl
              have y4 : X6.drew.cell? ⟨bn, on + k, none⟩ = some (.string nm) := HC0.out X6.drew (HR6.out.kept (grown_drewN _ 1)).grown
              clear hal hald g0 g1 r0 rf q1 u0
              go_region_law (first
                | (refine step_append_src rfl (.tmp 87) (.tmp 93) 23 rfl (w.heap.size + 2) 9 iS (.string ByteArray.empty) 1 16 Try.underlying23 hiS hS0 hS1 hS2 rfl (by decide) (.slice a2 ll c2) ll ((namesTo G ns k).map Value.string) (by simp [Act.eval]) HNR.out (some ⟨X6.heap.size, 0, none⟩) 1 1 [.string nm] (by simp [Act.eval]) (fun h => by cases h) rfl (fun ad e => by cases e; exact HNW.out) (by simp [Value.oneCell']) (by unfold maxLen; omega) (by omega) HBL6.out ?_; intro v6 wB hoB hgB; obtain ⟨aB, cB, rfl, z0, z1, z2, z3⟩ := HF6.out v6 wB hoB hgB; have HY2 := show Hid _ from z2; have HY3 := show Hid _ from z3; clear z2 z3 hoB hgB))
              all_goals go_wp2_with fail
              all_goals go_roundg (nn - (k + 1))
              all_goals first
                | exact ⟨k + 1, ll + 1, aB, cB, by omega, rfl, by go_num, by rw [← namesTo_len _ ns, namesTo_yes HBT.out, List.length_append, namesTo_len, ← HLL.out]; rfl, HY2.out, HY3.out⟩
                | (have := HGK.out; omega)
          · have hkn : nn = k := by omega
            subst hkn
            have hkd : decide (nn < nn) = false := decide_eq_false (by omega)
            generalize wr = X10 at *
            have n0 := HR.out.nums.cell st.toNat (by rw [HS2.out.2]; omega)
            have hst0 : (0 : Int) ≤ st := by have := HSS.out; omega
            have hst1 : st < (tn : Int) + (nn : Int) := by have := HSS.out; omega
            obtain ⟨z, hz⟩ : ∃ z, z = numTo tn G nn st.toNat := ⟨_, rfl⟩
            have HZ : Hid (z = numTo tn G nn st.toNat) := hz
            rw [← hz] at n0
            have g3 := HR.out.g 3 _ rfl
            have g0 := HR.out.g 0 _ rfl
            obtain ⟨⟨q0, q1, q2, q3, q4⟩, qf⟩ := HQ.out.cells
            have qf3 := qf 3
            have hna : nb ≠ ob := by omega
            have hnb3 : ob ≠ nb := by omega
            have hgo1 : w.heap.size ≠ ob := by omega
            have hgo2 : ob ≠ w.heap.size := by omega
            have hneo := HR.out.ne HQ.out.box (by decide) (by decide)
            have HQ3 : Hid (GmAt (X10.setCell ⟨ob, 3, none⟩ (.int .i64 z)) (w.heap.size + 2) ob (.slice ta' tn tc') (.slice a2 ll c2) (.slice la' ln lc') (.slice none 0 0) z ts (namesTo G ns nn) lv []) := HQ.out.setStart
            have HR3 : Hid (RrAt w (X10.setCell ⟨ob, 3, none⟩ (.int .i64 z)) #[.slice ta tn tc, .slice na nn nc, .slice la ln lc, .int .i64 st, .slice pa n pc] k1 k2 nb nn (tn + nn) F G (numTo tn G nn)) := HR.out.at (grown_setCell _ _ _) hob2 hneo.1 hneo.2.1 hneo.2.2
            have HQ4 := show Hid _ from HQ3.out.firstP (l := (tn : Int)) (z := z) (by have := HQ3.out.lt; omega)
            have hs3 : (X10.setCell ⟨ob, 3, none⟩ (.int .i64 z)).heap.size = X10.heap.size := by simp
            rw [hs3] at HQ4
            have hal := grown_trans (World.grownBy_alloc (X10.setCell ⟨ob, 3, none⟩ (.int .i64 z)) (.cells #[.int .i64 z] 3) none) (World.grownBy_alloc ((X10.setCell ⟨ob, 3, none⟩ (.int .i64 z)).alloc (.cells #[.int .i64 z] 3)) (.cells #[.int .i64 (tn : Int), .slice (some ⟨X10.heap.size, 0, none⟩) 1 1, .int .i64 0] 45) none)
            have y1 := (HQ3.out.kept hal).cells.1.2.2.2.2
            have y2 := (HQ3.out.kept hal).cells.2 4
            have HR4 : Hid (RrAt w ((((X10.setCell ⟨ob, 3, none⟩ (.int .i64 z)).alloc (.cells #[.int .i64 z] 3)).alloc (.cells #[.int .i64 (tn : Int), .slice (some ⟨X10.heap.size, 0, none⟩) 1 1, .int .i64 0] 45)).setCell ⟨ob, 4, none⟩ (.slice (some ⟨X10.heap.size + 1, 0, none⟩) 1 1)) #[.slice ta tn tc, .slice na nn nc, .slice la ln lc, .int .i64 st, .slice pa n pc] k1 k2 nb nn (tn + nn) F G (numTo tn G nn)) := (HR3.out.kept hal).at (grown_setCell _ _ _) hob2 hneo.1 hneo.2.1 hneo.2.2
            clear hal hs3 q0 q1 q2 q4 qf hz HGK HLL HQ3 HR3
            go_wp2_with fail
            generalize (((X10.setCell ⟨ob, 3, none⟩ (.int .i64 z)).alloc (.cells #[.int .i64 z] 3)).alloc (.cells #[.int .i64 (tn : Int), .slice (some ⟨X10.heap.size, 0, none⟩) 1 1, .int .i64 0] 45)).setCell ⟨ob, 4, none⟩ (.slice (some ⟨X10.heap.size + 1, 0, none⟩) 1 1) = X11 at *
            clear y1 y2 HR HQ n0 g0 g3 g1 q3 qf3 hst0 hst1
            obtain ⟨iP, hiP, hP0, hP1, hP2⟩ := info_parts infoProd
            obtain ⟨iI, hiI, hI0, hI1, hI2⟩ := info_parts infoInt
            go_loopg [11] n (fun gk i wr => ∃ (k pl : Nat) (a4 : Option Addr) (c4 : Nat), k ≤ n ∧ gk = n - k ∧ i = .int .i64 k ∧ pl = (prodsTo tn (numTo tn G nn) st L R V (fun k => goD tn L R F k G) k).length ∧ RrAt w wr #[.slice ta tn tc, .slice na nn nc, .slice la ln lc, .int .i64 st, .slice pa n pc] k1 k2 nb nn (tn + nn) F G (numTo tn G nn) ∧ GmAt wr (w.heap.size + 2) ob (.slice ta' tn tc') (.slice a2 ll c2) (.slice la' ln lc') (.slice a4 pl c4) z ts (namesTo G ns nn) lv (prodsTo tn (numTo tn G nn) st L R V (fun k => goD tn L R F k G) k))
            case atStart => exact ⟨0, 1, _, _, Nat.zero_le _, rfl, rfl, rfl, HR4.out, by rw [HZ.out] at HQ4 ⊢; exact HQ4.out⟩
            case round =>
              obtain ⟨k, pl, a4, c4, hk, hgk, rfl, hpl, hR, hQ⟩ := hrel
              have HGK : Hid (gk = n - k) := hgk
              obtain ⟨go, hgo⟩ : ∃ go : Nat → Bool, go = fun k => goD tn L R F k G := ⟨_, rfl⟩
              have HGO : Hid (∀ k, go k = goD tn L R F k G) := fun k => by rw [hgo]
              have HGE := show Hid _ from hgo
              rw [← hgo] at hpl hQ
              have HPL : Hid (pl = (prodsTo tn (numTo tn G nn) st L R V go k).length) := hpl
              have HR : Hid (RrAt w wr #[.slice ta tn tc, .slice na nn nc, .slice la ln lc, .int .i64 st, .slice pa n pc] k1 k2 nb nn (tn + nn) F G (numTo tn G nn)) := hR
              have HQ : Hid (GmAt wr (w.heap.size + 2) ob (.slice ta' tn tc') (.slice a2 ll c2) (.slice la' ln lc') (.slice a4 pl c4) z ts (namesTo G ns nn) lv (prodsTo tn (numTo tn G nn) st L R V go k)) := hQ
              have hpl1 : pl ≤ 1024 := by have := prodsTo_len (tn := tn) (num := numTo tn G nn) (st := st) (L := L) (R := R) (V := V) (go := go) k; omega
              clear hgk hR hQ HR4 HQ4 hpl hgo
              have g4 := HR.out.g 4 _ rfl
              have g0 := HR.out.g 0 _ rfl
              by_cases hlt : k < n
              · obtain ⟨bp, op, rfl, hcs⟩ : ∃ b off, pa = some ⟨b, off, none⟩ ∧ ∀ k, k < n → w.cell? ⟨b, off + k * 3, none⟩ = some (.int .i64 (L k)) ∧ w.cell? ⟨b, off + k * 3 + 1, none⟩ = some (.slice (ra k) (R k).length (rc k)) ∧ w.cell? ⟨b, off + k * 3 + 2, none⟩ = some (.int .i64 (V k)) ∧ IntsAt w (ra k) (R k) ∧ (ra k = none → rc k = 0) ∧ (R k).length ≤ 17592186044416 := by
                  rcases HGG.out.prods with h | h
                  · omega
                  · exact h
                obtain ⟨h1, h2, h3, hI, _, hlen⟩ := hcs k hlt
                have c0 := HR.out.grown.cell h1 (by simp)
                have c1 := HR.out.grown.cell h2 (by simp)
                have c2' := HR.out.grown.cell h3 (by simp)
                obtain ⟨hl1, hl2⟩ := HM.out.may.left k hlt
                obtain ⟨v, hv⟩ : ∃ v : Nat, (L k - (tn : Int)).toNat = v := ⟨_, rfl⟩
                have hvn : v < nn := by omega
                have HFK := show Hid _ from HFT.out k hlt
                have HIK : Hid (IntsAt w (ra k) (R k) ∧ ∀ x ∈ R k, (0 : Int) < x ∧ x < ((tn + nn : Nat) : Int)) := ⟨hI, HM.out.may.right k hlt⟩
                obtain ⟨fb, hfb⟩ : ∃ fb, fb = fitsB tn F (R k) := ⟨_, rfl⟩
                have HGB : Hid (go k = (G v && fb)) := by show _ = _; rw [HGO.out k, hfb]; unfold goD; rw [hv]
                have HFK2 : Hid (∀ (X : World), w.grownBy X none → BoolAt X k1 nn F → Calls Try.prog 35 #[.agg #[.slice ta tn tc, .slice na nn nc, .slice la ln lc, .int .i64 st, .slice (some ⟨bp, op, none⟩) n pc], .slice (some ⟨k1, 0, none⟩) nn nn, .slice (ra k) (R k).length (rc k)] X fun e w' => e = .returned (.bool fb) ∧ X.grownBy w' none) := fun X hX hB => by rw [hfb]; exact HFK.out X k1 hX hB
                obtain ⟨l, hl⟩ : ∃ l, l = L k := ⟨_, rfl⟩
                obtain ⟨vv, hvv⟩ : ∃ vv, vv = V k := ⟨_, rfl⟩
                obtain ⟨d1, hd1e⟩ : ∃ d1, d1 = ra k := ⟨_, rfl⟩
                obtain ⟨rl, hrl⟩ : ∃ rl, rl = (R k).length := ⟨_, rfl⟩
                obtain ⟨d3, hd3e⟩ : ∃ d3, d3 = rc k := ⟨_, rfl⟩
                have HEQ : Hid (l = L k ∧ vv = V k ∧ rl = (R k).length) := ⟨hl, hvv, hrl⟩
                rw [← hl] at c0 hl1 hl2 hv
                rw [← hd1e, ← hrl, ← hd3e] at c1 HFK2
                rw [← hvv] at c2'
                rw [← hd1e] at HIK
                have hlen1 : rl ≤ 17592186044416 := by omega
                have hk0 : (0 : Int) ≤ (k : Int) := by omega
                have hk1 : (k : Int) < (n : Int) := by omega
                have hkN : decide (k < n) = true := decide_eq_true hlt
                have e1 : l - (tn : Int) = (v : Int) := by omega
                have e2 : IntKind.i64.wrap (v : Int) = (v : Int) := by rw [IntKind.wrap_i64]; omega
                have e3 : (0 : Int) ≤ (v : Int) := by omega
                have e4 : (v : Int) < (nn : Int) := by omega
                have e5 : (0 : Int) ≤ l := by omega
                have e6 : l < (tn : Int) + (nn : Int) := by omega
                have hAl := World.grownBy_alloc wr (.cells #[.int .i64 l, .slice d1 rl d3, .int .i64 vv] 45) none
                have HR5 : Hid (RrAt w (wr.alloc (.cells #[.int .i64 l, .slice d1 rl d3, .int .i64 vv] 45)) #[.slice ta tn tc, .slice na nn nc, .slice la ln lc, .int .i64 st, .slice (some ⟨bp, op, none⟩) n pc] k1 k2 nb nn (tn + nn) F G (numTo tn G nn)) := HR.out.kept hAl
                have HQ5 : Hid (GmAt (wr.alloc (.cells #[.int .i64 l, .slice d1 rl d3, .int .i64 vv] 45)) (w.heap.size + 2) ob (.slice ta' tn tc') (.slice a2 ll c2) (.slice la' ln lc') (.slice a4 pl c4) z ts (namesTo G ns nn) lv (prodsTo tn (numTo tn G nn) st L R V go k)) := HQ.out.kept hAl
                have HBX := show Hid _ from heap_alloc_last wr (.cells #[.int .i64 l, .slice d1 rl d3, .int .i64 vv] 45)
                clear hcs h1 h2 h3 hI hlen hl hvv hd1e hrl hd3e hfb hv hAl HFK HR HQ
                obtain ⟨⟨p0, p1, p2⟩, _⟩ := box3 HBX.out
                have u0 := HR5.out.used.cell v hvn
                have x0 := HR5.out.g 0 _ rfl
                have x1 := HR5.out.g 1 _ rfl
                have x2 := HR5.out.g 2 _ rfl
                have x3 := HR5.out.g 3 _ rfl
                have x4 := HR5.out.g 4 _ rfl
                obtain ⟨bx, hbx⟩ : ∃ bx, bx = wr.heap.size := ⟨_, rfl⟩
                have HBE : Hid (bx = wr.heap.size) := hbx
                clear hbx
                cases hgv : G v with
                | false =>
                  rw [hgv] at u0
                  have HE : Hid (go k = false) := by show _ = _; rw [HGB.out, hgv]; rfl
                  clear hgv
                  go_wp2_with fail
                  go_roundg (n - (k + 1))
                  case measure => have := HGK.out; omega
                  case rel => exact ⟨k + 1, pl, a4, c4, by omega, rfl, by go_num, by rw [← HGE.out, prodsTo_no HE.out]; exact HPL.out, HR5.out, by rw [← HGE.out, prodsTo_no HE.out]; exact HQ5.out⟩
                | true =>
                  rw [hgv] at u0
                  have HGV : Hid (G v = true) := hgv
                  clear hgv
                  go_wp2_with fail
                  refine Calls.mono (HFK2.out _ HR5.out.grown HR5.out.may) ?_
                  rintro e w6 ⟨rfl, hg6⟩
                  have HR6 : Hid (RrAt w w6 #[.slice ta tn tc, .slice na nn nc, .slice la ln lc, .int .i64 st, .slice (some ⟨bp, op, none⟩) n pc] k1 k2 nb nn (tn + nn) F G (numTo tn G nn)) := HR5.out.kept hg6
                  have HQ6 : Hid (GmAt w6 (w.heap.size + 2) ob (.slice ta' tn tc') (.slice a2 ll c2) (.slice la' ln lc') (.slice a4 pl c4) z ts (namesTo G ns nn) lv (prodsTo tn (numTo tn G nn) st L R V go k)) := HQ5.out.kept hg6
                  have HBY := boxKept HBX.out hg6
                  rw [← HBE.out] at HBY
                  rw [← HBE.out]
                  clear hg6 HR5 HQ5 HBX p0 p1 p2 u0 x0 x1 x2 x3 x4 c0 c1 c2' g0 g4
                  cases fb with
                  | false =>
                    have HE : Hid (go k = false) := by show _ = _; rw [HGB.out, Bool.and_false]
                    go_wp2_with fail
                    go_roundg (n - (k + 1))
                    case measure => have := HGK.out; omega
                    case rel => exact ⟨k + 1, pl, a4, c4, by omega, rfl, by go_num, by rw [← HGE.out, prodsTo_no HE.out]; exact HPL.out, HR6.out, by rw [← HGE.out, prodsTo_no HE.out]; exact HQ6.out⟩
                  | true =>
                    have HE : Hid (go k = true) := by show _ = _; rw [HGB.out, HGV.out]; rfl
                    obtain ⟨⟨p0, p1, p2⟩, _⟩ := box3 HBY.out
                    have n1 := HR6.out.nums.cell l.toNat (by omega)
                    obtain ⟨z1, hz1⟩ : ∃ z1, z1 = numTo tn G nn l.toNat := ⟨_, rfl⟩
                    have HZ1 : Hid (z1 = numTo tn G nn l.toNat) := hz1
                    rw [← hz1] at n1
                    have hb6 : bx < w6.heap.size := (Array.getElem?_eq_some_iff.1 HBY.out).1
                    clear hz1
                    go_wp2_with fail
                    go_cut [13] from 141 to 148 (fun v13 wx => v13 = .pointer (some ⟨w6.heap.size, 0, none⟩) ∧ PuAt w6 wx z1 [] vv (.slice none 0 0))
                    case first =>
                      go_region_held3 (fun x => x.cell? ⟨bx, 0, none⟩ = some (.int .i64 l) ∧ x.cell? ⟨bx, 2, none⟩ = some (.int .i64 vv) ∧ x.cell? ⟨nb, l.toNat, none⟩ = some (.int .i64 z1)) (go_keep) (fail)
                      all_goals go_wp2_with fail
                      all_goals go_meet
                      all_goals exact ⟨rfl, grown_trans (World.grownBy_alloc w6 _ none) (grown_drewN _ 1), heap_alloc_last w6 _, World.ownsRow_nil _ _ _ _⟩
                    case rest =>
                      obtain ⟨rfl, hPu⟩ := hcut
                      have HPU0 : Hid (PuAt w6 wc z1 [] vv (.slice none 0 0)) := hPu
                      obtain ⟨pz, hpz⟩ : ∃ pz, pz = w6.heap.size := ⟨_, rfl⟩
                      have HPZ : Hid (pz = w6.heap.size) := hpz
                      rw [← hpz]
                      clear hPu p0 p1 p2 n1 hpz
                      go_wp2_with fail
                      go_loopg [14] rl (fun gy i wr => ∃ (j : Nat) (av : Option Addr) (cv : Nat), j ≤ rl ∧ gy = rl - j ∧ i = .int .i64 j ∧ PuAt w6 wr z1 (((R k).take j).map fun x => numTo tn G nn x.toNat) vv (.slice av j cv))
                      case atStart => exact ⟨0, none, 0, Nat.zero_le _, rfl, rfl, HPU0.out⟩
                      case round =>
                        obtain ⟨j, av, cv, hj, hgy, rfl, hPu⟩ := hrel
                        have HGY : Hid (gk = rl - j) := hgy
                        have HPU : Hid (PuAt w6 wr z1 (((R k).take j).map fun x => numTo tn G nn x.toNat) vv (.slice av j cv)) := hPu
                        have HR7 : Hid (RrAt w wr #[.slice ta tn tc, .slice na nn nc, .slice la ln lc, .int .i64 st, .slice (some ⟨bp, op, none⟩) n pc] k1 k2 nb nn (tn + nn) F G (numTo tn G nn)) := HR6.out.kept hPu.grown
                        have HBZ := boxKept HBY.out hPu.grown
                        obtain ⟨⟨p0, p1, p2⟩, _⟩ := box3 HBZ.out
                        obtain ⟨t0, t1, t2⟩ := hPu.cells
                        have hpzs := hPu.lt
                        rw [← HPZ.out] at t0 t1 t2 hpzs
                        clear hgy hPu HPU0
                        have HLJ : Hid ((((R k).take j).map fun x => numTo tn G nn x.toNat).length = j) := by show _ = _; rw [List.length_map, List.length_take, ← HEQ.out.2.2]; omega
                        obtain ⟨lj, hlj⟩ : ∃ lj, lj = ((R k).take j).map fun x => numTo tn G nn x.toNat := ⟨_, rfl⟩
                        have HLE := show Hid _ from hlj
                        rw [← hlj] at HPU HLJ
                        clear hlj
                        by_cases hjl : j < rl
                        · have hjR : j < (R k).length := by rw [← HEQ.out.2.2]; exact hjl
                          obtain ⟨bq, oq, rfl, hcs⟩ : ∃ b off, d1 = some ⟨b, off, none⟩ ∧ ∀ i, i < (R k).length → w.cell? ⟨b, off + i, none⟩ = some (.int .i64 ((R k).getD i 0)) := by
                            rcases HIK.out.1 with h | h
                            · rw [h] at hjR; simp at hjR
                            · exact h
                          obtain ⟨hx1, hx2⟩ := HIK.out.2 _ (int_mem hjR)
                          obtain ⟨xv, hxv⟩ : ∃ xv, xv = (R k).getD j 0 := ⟨_, rfl⟩
                          have HCX : Hid (∀ X, w.grownBy X none → X.cell? ⟨bq, oq + j, none⟩ = some (.int .i64 xv)) := fun X hX => by rw [hxv]; exact hX.cell (hcs j hjR) (by simp)
                          rw [← hxv] at hx1 hx2
                          obtain ⟨xz, hxz⟩ : ∃ xz, xz = numTo tn G nn xv.toNat := ⟨_, rfl⟩
                          have HNX : Hid (∀ X, wr.grownBy X none → X.cell? ⟨nb, xv.toNat, none⟩ = some (.int .i64 xz)) := fun X hX => by rw [hxz]; exact (HR7.out.kept hX).nums.cell xv.toNat (by omega)
                          have HLS : Hid (((R k).take (j + 1)).map (fun x => numTo tn G nn x.toNat) = lj ++ [xz]) := by
                            show _ = _
                            rw [take_succ' hjR, List.map_append, HLE.out, hxz, hxv]; rfl
                          have hj0 : (0 : Int) ≤ (j : Int) := by omega
                          have hj1 : (j : Int) < (rl : Int) := by omega
                          have hjd : decide (j < rl) = true := decide_eq_true hjl
                          have hx3 : (0 : Int) ≤ xv := by omega
                          have hx4 : xv < (tn : Int) + (nn : Int) := by omega
                          clear hcs hxv hxz
                          have hald : wr.grownBy (wr.alloc (.cells #[.int .i64 xz] 3)).drew none := grown_trans (World.grownBy_alloc wr (.cells #[.int .i64 xz] 3) none) (grown_drewN _ 1)
                          have HPA : Hid (PuAt w6 (wr.alloc (.cells #[.int .i64 xz] 3)).drew z1 lj vv (.slice av j cv)) := HPU.out.kept hald
                          have HOW : Hid ((wr.alloc (.cells #[.int .i64 xz] 3)).drew.ownsRow (pz + 1) 3 1 (.slice av j cv) j (lj.map (Value.int .i64))) := by
                            have := HPA.out.row
                            rw [HLJ.out, ← HPZ.out] at this
                            exact this
                          have HNW : Hid (∀ j u, [Value.int .i64 xz][j]? = some u → (wr.alloc (.cells #[.int .i64 xz] 3)).drew.cell? ((⟨wr.heap.size, 0, none⟩ : Addr).add j) = some u) := news_new wr _ _
                          have HFN : Hid (∀ v6 wB, wB.ownsRow (pz + 1) 3 1 v6 (j + 1) (lj.map (Value.int .i64) ++ [.int .i64 xz]) → (wr.alloc (.cells #[.int .i64 xz] 3)).drew.grownBy wB (Value.slice av j cv).ownBlock → ∃ a c, v6 = .slice a (j + 1) c ∧ wB.cell? ⟨pz, 1, none⟩ = some (.slice av j cv) ∧ wB.frozen? ⟨pz, 1, none⟩ = false ∧ PuAt w6 (wB.setCell ⟨pz, 1, none⟩ (.slice a (j + 1) c)) z1 (lj ++ [xz]) vv (.slice a (j + 1) c)) := by
                            intro v6 wB ho hg
                            obtain ⟨a, c, rfl⟩ := owns_slice ho
                            obtain ⟨hbx, _⟩ := HPA.out.grew hg
                            rw [← HPZ.out] at hbx
                            refine ⟨a, c, rfl, by rw [cell_of_row _ _ _ _ _ _ hbx]; rfl, frozen_of_row _ _ _ _ _ hbx, ?_⟩
                            have := HPA.out.push (x := xz) hg (by rw [HLJ.out, ← HPZ.out]; exact ho)
                            rw [← HPZ.out] at this
                            exact this
                          have HBS : Hid (pz + 1 ≤ (wr.alloc (.cells #[.int .i64 xz] 3)).drew.heap.size) := by show _ ≤ _; simp; omega
                          have r1 : wr.drew.cell? ⟨pz, 1, none⟩ = some (.slice av j cv) := t1
                          have r2 : ∀ o, (wr.alloc o).drew.cell? ⟨pz, 1, none⟩ = some (.slice av j cv) := fun o => (World.grownBy_alloc wr o none).cell t1 (by simp)
                          have r3 : wr.drew.cell? ⟨bx, 1, none⟩ = some (.slice (some ⟨bq, oq, none⟩) rl d3) := p1
                          have r4 : wr.drew.cell? ⟨bq, oq + j, none⟩ = some (.int .i64 xv) := HCX.out wr.drew (HR7.out.kept (grown_drewN _ 1)).grown
                          have r5 : wr.drew.cell? ⟨nb, xv.toNat, none⟩ = some (.int .i64 xz) := HNX.out wr.drew (grown_drewN _ 1)
                          clear hald
                          go_wp2_with fail
                          go_region_law (first
                            | (refine step_append_src rfl (.tmp 157) (.tmp 166) 24 rfl (pz + 1) 3 iI (.int .i64 0) 1 8 Try.underlying24 hiI hI0 hI1 hI2 rfl (by decide) (.slice av j cv) j (lj.map (Value.int .i64)) (by simp [Act.eval]) HOW.out (some ⟨wr.heap.size, 0, none⟩) 1 1 [.int .i64 xz] (by simp [Act.eval]) (fun h => by cases h) rfl (fun ad e => by cases e; exact HNW.out) (by simp [Value.oneCell']) (by unfold maxLen; omega) (by omega) HBS.out ?_; intro v6 wB hoB hgB; obtain ⟨aB, cB, rfl, y0, y1, y2⟩ := HFN.out v6 wB hoB hgB; have HY2 := show Hid _ from y2; clear y2 hoB hgB))
                          all_goals go_wp2_with fail
                          all_goals go_roundg (rl - (j + 1))
                          all_goals first
                            | exact ⟨j + 1, aB, cB, by omega, rfl, by go_num, by rw [HLS.out]; exact HY2.out⟩
                            | (have := HGY.out; omega)
                        · have hjn : j = rl := by omega
                          have hjd : decide (j < rl) = false := decide_eq_false hjl
                          have HLA : Hid (lj = (R k).map fun x => numTo tn G nn x.toNat) := by
                            show _ = _
                            rw [HLE.out, hjn, HEQ.out.2.2, List.take_length]
                          have HQ7 : Hid (GmAt wr (w.heap.size + 2) ob (.slice ta' tn tc') (.slice a2 ll c2) (.slice la' ln lc') (.slice a4 pl c4) z ts (namesTo G ns nn) lv (prodsTo tn (numTo tn G nn) st L R V go k)) := HQ6.out.kept HPU.out.grown
                          obtain ⟨⟨q0, q1, q2, q3, q4⟩, qf⟩ := HQ7.out.cells
                          obtain ⟨rs, f1, f2, f3⟩ := HQ7.out.pr
                          obtain ⟨fl, hfl⟩ : ∃ fl, fl = ((prodsTo tn (numTo tn G nn) st L R V go k).zip rs).flatMap fun x => prL x.1 x.2 := ⟨_, rfl⟩
                          have hal := World.grownBy_alloc wr (.cells #[.int .i64 z1, .slice av j cv, .int .i64 vv] 45) none
                          have HPR4 : Hid ((wr.alloc (.cells #[.int .i64 z1, .slice av j cv, .int .i64 vv] 45)).ownsRow (w.heap.size + 2) 45 3 (.slice a4 pl c4) pl fl) := by
                            have h := keep0 f2 hal
                            rw [← HPL.out] at h
                            rw [hfl]; exact h
                          have HFIN : Hid (∀ (wB : World) (v6 : Value), wB.ownsRow (w.heap.size + 2) 45 3 v6 (pl + 1) (fl ++ [.int .i64 z1, .slice av j cv, .int .i64 vv]) → (wr.alloc (.cells #[.int .i64 z1, .slice av j cv, .int .i64 vv] 45)).grownBy wB (Value.slice a4 pl c4).ownBlock → ∃ a c, v6 = .slice a (pl + 1) c ∧ wB.cell? ⟨ob, 4, none⟩ = some (.slice a4 pl c4) ∧ wB.frozen? ⟨ob, 4, none⟩ = false ∧ RrAt w (wB.setCell ⟨ob, 4, none⟩ (.slice a (pl + 1) c)) #[.slice ta tn tc, .slice na nn nc, .slice la ln lc, .int .i64 st, .slice (some ⟨bp, op, none⟩) n pc] k1 k2 nb nn (tn + nn) F G (numTo tn G nn) ∧ GmAt (wB.setCell ⟨ob, 4, none⟩ (.slice a (pl + 1) c)) (w.heap.size + 2) ob (.slice ta' tn tc') (.slice a2 ll c2) (.slice la' ln lc') (.slice a (pl + 1) c) z ts (namesTo G ns nn) lv (prodsTo tn (numTo tn G nn) st L R V go (k + 1))) := by
                            intro wB v6 ho hg
                            obtain ⟨a, c, rfl⟩ := owns_slice ho
                            have hQ8 := HQ7.out.kept hal
                            have hbx := hQ8.boxKept HPR4.out (by decide) hg
                            have hR8 := (HR7.out.kept hal).row HPR4.out (Nat.le_refl _) (by decide) (by decide) hg
                            have hne := hR8.ne hbx (by decide) (by decide)
                            refine ⟨a, c, rfl, by rw [cell_of_row _ _ _ _ _ _ hbx]; rfl, frozen_of_row _ _ _ _ _ hbx, hR8.at (grown_setCell _ _ _) hob2 hne.1 hne.2.1 hne.2.2, ?_⟩
                            rw [prodsTo_yes HE.out]
                            have hrow : (wr.alloc (.cells #[.int .i64 z1, .slice av j cv, .int .i64 vv] 45)).ownsRow (w.heap.size + 2) 3 1 (.slice av j cv) ((R k).map fun x => numTo tn G nn x.toNat).length (((R k).map fun x => numTo tn G nn x.toNat).map (Value.int .i64)) := by
                              rw [← HLA.out]
                              exact owns_lower (HPU.out.kept hal).row (by have := HQ6.out.lt; omega)
                            refine GmAt.pushP (p := prOf (numTo tn G nn) L R V k) (v := .slice av j cv) hQ8 hg hrow rs f1 (keep0 f2 hal) (fun i hi => keep0 (f3 i hi) hal) ?_
                            have e9 : prL (prOf (numTo tn G nn) L R V k) (.slice av j cv) = [.int .i64 z1, .slice av j cv, .int .i64 vv] := by
                              rw [HZ1.out, HEQ.out.1, HEQ.out.2.1]; rfl
                            rw [e9, ← HPL.out, ← hfl]; exact ho
                          have HBS : Hid (w.heap.size + 2 ≤ (wr.alloc (.cells #[.int .i64 z1, .slice av j cv, .int .i64 vv] 45)).heap.size) := by show _ ≤ _; have := HQ7.out.lt; simp; omega
                          clear hal hfl q0 q1 q2 q3 qf hjn f1 f2 f3
                          go_wp2_with (at_builtin; refine wpList_append_src rfl (.tmp 170) (.tmp 172) 25 rfl (w.heap.size + 2) 45 iP (.agg #[.int .i64 0, .slice none 0 0, .int .i64 0]) 3 40 Try.underlying25 hiP hP0 hP1 hP2 rfl (by decide) (.slice a4 pl c4) pl fl rfl HPR4.out (some ⟨wr.heap.size, 0, none⟩) 1 1 [.int .i64 z1, .slice av j cv, .int .i64 vv] rfl (fun h => by cases h) rfl (fun ad e => by cases e; exact news_new wr _ _) (by simp [Value.oneCell']) (by unfold maxLen; omega) (by omega) HBS.out ?_; intro v6 wB hoB hgB; obtain ⟨aB, cB, rfl, y0, y1, y2, y3⟩ := HFIN.out wB v6 hoB hgB; have HY2 := show Hid _ from y2; have HY3 := show Hid _ from y3; clear hoB hgB y2 y3)
                          go_roundg (n - (k + 1))
                          case measure => have := HGK.out; omega
                          case rel => exact ⟨k + 1, pl + 1, aB, cB, by omega, rfl, by go_num, by rw [← HGE.out, prodsTo_yes HE.out, List.length_append, ← HPL.out]; rfl, HY2.out, by rw [← HGE.out]; exact HY3.out⟩
              · have hkn : n = k := by omega
                subst hkn
                have hkd : decide (n < n) = false := decide_eq_false (by omega)
                obtain ⟨⟨q0, q1, q2, q3, q4⟩, qf⟩ := HQ.out.cells
                have hrb := HR.out.rbox
                obtain ⟨s0, s1, s2, s3, s4⟩ : wr.cell? ⟨w.heap.size + 1, 0, none⟩ = some (.slice none 0 0) ∧ wr.cell? ⟨w.heap.size + 1, 1, none⟩ = some (.slice none 0 0) ∧ wr.cell? ⟨w.heap.size + 1, 2, none⟩ = some (.slice none 0 0) ∧ wr.cell? ⟨w.heap.size + 1, 3, none⟩ = some (.int .i64 0) ∧ wr.cell? ⟨w.heap.size + 1, 4, none⟩ = some (.slice none 0 0) := by
                  refine ⟨?_, ?_, ?_, ?_, ?_⟩ <;> rw [cell_of_row _ _ _ _ _ _ hrb] <;> rfl
                have sf : ∀ j, wr.frozen? ⟨w.heap.size + 1, j, none⟩ = false := fun j => frozen_of_row _ _ _ _ _ hrb
                have HST := show Hid _ from set5_grown wr (w.heap.size + 1) (.slice ta' tn tc') (.slice a2 ll c2) (.slice la' ln lc') (.int .i64 z) (.slice a4 pl c4)
                have HF9 := show Hid _ from set5_heap hrb (.slice ta' tn tc') (.slice a2 ll c2) (.slice la' ln lc') (.int .i64 z) (.slice a4 pl c4)
                clear hrb HGK
                go_wp2_with fail
                refine bodyPost_ret (v := .tuple #[.agg #[.slice ta' tn tc', .slice a2 ll c2, .slice la' ln lc', .int .i64 z, .slice a4 pl c4], .int .i64 0]) (results_rreduce _ _ (w.heap.size + 1) _ _ rfl rfl HF9.out rfl) rfl ?_
                have hN := HQ.out.gram
                have hN2 := hN.off (B := w.heap.size) (k := w.heap.size + 1) rfl HST.out (by omega)
                refine ⟨grown_at HR.out.grown HST.out (by omega), .inr ⟨by rw [HS2.out.1]; exact HPP.out.symm, .slice ta' tn tc', .slice a2 ll c2, .slice la' ln lc', .slice a4 pl c4, by rw [← HZ.out], ?_⟩⟩
                unfold redGR
                rw [← HZ.out, ← HGE.out]
                exact hN2

end Go.Proofs.Ytljlkmiaemkokaa
