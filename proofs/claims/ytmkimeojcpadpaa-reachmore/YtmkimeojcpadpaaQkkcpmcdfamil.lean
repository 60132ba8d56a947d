import Derived.Test.YtmkimeojcpadpaaQopenfjhneloc
import Derived.Test.YtmkimeojcpadpaaQgioeohkkmcng
import Derived.Test.YtmkimeojcpadpaaQapcnjagfdbcf

/-
  reach: the program's marks in the law's form; the law's bools.
-/
namespace Go.Proofs.Ytmkimeojcpadpaa
open Go.RowKit Go.Maps Go.Shelf

attribute [local go_sem] Oper.semAt_some

theorem closed_name {ts : List (ByteArray × Int)} {ns : List ByteArray} {lv : List Int} {st : Int} {n : Nat} {L : Nat → Int} {R : Nat → List Int} {V : Nat → Int} {rV rC : Bool} (hV : rV = true ↔ validOK ts ns lv st n L R V) (hC : rC = true ↔ closedOK ts ns lv st n L R V) (hok : (rV || rC) = true) : rC = true ↔ ns.getD 0 ⟨#[]⟩ = ⟨#[]⟩ := by
  constructor
  · exact fun h => (hC.1 h).1.name
  · intro h
    cases hc : rC with
    | true => rfl
    | false =>
      rw [hc, Bool.or_false] at hok
      exact absurd h (valid_name (hV.1 hok))
theorem may_of {ts : List (ByteArray × Int)} {ns : List ByteArray} {lv : List Int} {st : Int} {n : Nat} {L : Nat → Int} {R : Nat → List Int} {V : Nat → Int} {rV rC : Bool} {tn nn ln : Nat} (hlen : ts.length = tn ∧ ns.length = nn ∧ lv.length = ln) (hV : rV = true ↔ validOK ts ns lv st n L R V) (hC : rC = true ↔ closedOK ts ns lv st n L R V) (hok : (rV || rC) = true) : MayOK tn nn n st L R rC := by
  obtain ⟨rfl, rfl, rfl⟩ := hlen
  cases hc : rC with
  | true => exact mayOK_closed (hC.1 hc)
  | false => rw [hc, Bool.or_false] at hok; exact mayOK_valid (hV.1 hok)
/-- The marks of a grammar, if it may be. -/
theorem marks_of {ts : List (ByteArray × Int)} {ns : List ByteArray} {lv : List Int} {st : Int} {n : Nat} {L : Nat → Int} {R : Nat → List Int} {V : Nat → Int} {rV rC : Bool} {tn nn ln : Nat} (hlen : ts.length = tn ∧ ns.length = nn ∧ lv.length = ln) (hV : rV = true ↔ validOK ts ns lv st n L R V) (hC : rC = true ↔ closedOK ts ns lv st n L R V) : ∃ F G, (rV || rC) = true → MarksOf tn nn n st L R rC F G := by
  by_cases h : (rV || rC) = true
  · obtain ⟨F, G, hM⟩ := (may_of hlen hV hC h).marksOf
    exact ⟨F, G, fun _ => hM⟩
  · exact ⟨fun _ => false, fun _ => false, fun h' => absurd h' h⟩

section
variable (ta na la pa : Option Addr) (tc nc lc pc : Nat) (ts : List (ByteArray × Int)) (ns : List ByteArray) (lv : List Int) (n : Nat) (L : Nat → Int) (R : Nat → List Int) (ra : Nat → Option Addr) (rc : Nat → Nat) (V : Nat → Int) (st : Int) (w : World) (tn nn ln : Nat) (hlen : ts.length = tn ∧ ns.length = nn ∧ lv.length = ln) (hG : GAt w ta na la pa tc nc lc pc ts ns lv n L R ra rc V) (rV rC : Bool) (hV : rV = true ↔ validOK ts ns lv st n L R V) (hC : rC = true ↔ closedOK ts ns lv st n L R V) (F G : Nat → Bool) (hM : (rV || rC) = true → MarksOf tn nn n st L R rC F G)
include hlen hG hV hC hM

theorem productive_any :
    Calls Try.prog 9 #[.agg #[.slice ta tn tc, .slice na nn nc, .slice la ln lc, .int .i64 st, .slice pa n pc]] w fun e y => MTold (if (rV || rC) = true then 0 else 1) (if (rV || rC) = true then nn else 0) F w e y := by
  by_cases hok : (rV || rC) = true
  · rw [if_pos hok, if_pos hok]
    refine (productive_ok ta na la pa tc nc lc pc ts ns lv n L R ra rc V st w tn nn ln hlen hG rC hC (fun h => hV.1 (by rw [h, Bool.or_false] at hok; exact hok))).mono ?_
    rintro e y ⟨k, f, rfl, hk, hB, hF, hg⟩
    rw [(hM hok).f_eq hF] at hB
    exact ⟨some ⟨k, 0, none⟩, rfl, .inr ⟨k, rfl, hk, hB⟩, hg⟩
  · rw [if_neg hok, if_neg hok]
    rw [Bool.not_eq_true, Bool.or_eq_false_iff] at hok
    refine (productive_bad ta na la pa tc nc lc pc ts ns lv n L R ra rc V st w tn nn ln hlen hG (fun h => by rw [hV.2 h] at hok; cases hok.1) (fun h => by rw [hC.2 h] at hok; cases hok.2)).mono ?_
    rintro e y ⟨rfl, hg⟩
    exact ⟨none, rfl, .inl ⟨rfl, rfl⟩, hg⟩
theorem useful_any :
    Calls Try.prog 10 #[.agg #[.slice ta tn tc, .slice na nn nc, .slice la ln lc, .int .i64 st, .slice pa n pc]] w fun e y => MTold (if (rV || rC) = true then 0 else 1) (if (rV || rC) = true then nn else 0) G w e y := by
  by_cases hok : (rV || rC) = true
  · rw [if_pos hok, if_pos hok]
    refine (useful_ok ta na la pa tc nc lc pc ts ns lv n L R ra rc V st w tn nn ln hlen hG rC hC (fun h => hV.1 (by rw [h, Bool.or_false] at hok; exact hok))).mono ?_
    rintro e y ⟨k, u, f, rfl, hk, hB, hF, hD, hg⟩
    rw [(hM hok).f_eq hF] at hD
    exact ⟨some ⟨k, 0, none⟩, rfl, .inr ⟨k, rfl, hk, hB.ext fun i hi => (hM hok).u_eq hD i hi⟩, hg⟩
  · rw [if_neg hok, if_neg hok]
    rw [Bool.not_eq_true, Bool.or_eq_false_iff] at hok
    refine (useful_bad ta na la pa tc nc lc pc ts ns lv n L R ra rc V st w tn nn ln hlen hG (fun h => by rw [hV.2 h] at hok; cases hok.1) (fun h => by rw [hC.2 h] at hok; cases hok.2)).mono ?_
    rintro e y ⟨rfl, hg⟩
    exact ⟨none, rfl, .inl ⟨rfl, rfl⟩, hg⟩
end

/-- A row of marks, or none of them. -/
def BAt (w : World) (a : Option Addr) (m : Nat) (f : Nat → Bool) : Prop := m = 0 ∨ ∃ k, a = some ⟨k, 0, none⟩ ∧ BoolAt w k m f
theorem BRow.at {w y : World} {a : Option Addr} {m : Nat} {f : Nat → Bool} (h : BRow w y a m f) : BAt y a m f := by
  rcases h with ⟨_, h⟩ | ⟨k, e, _, h⟩
  · exact .inl h
  · exact .inr ⟨k, e, h⟩
theorem BAt.kept {w y : World} {a : Option Addr} {m : Nat} {f : Nat → Bool} (h : BAt w a m f) (hg : w.grownBy y none) : BAt y a m f := by
  rcases h with h | ⟨k, e, h⟩
  · exact .inl h
  · exact .inr ⟨k, e, h.kept hg⟩

set_option maxRecDepth 100000 in
set_option maxHeartbeats 1000000 in
theorem bools_same (a b : Option Addr) (m : Nat) (f : Nat → Bool) (w : World) (ha : BAt w a m f) (hb : BAt w b m f) (hm : m ≤ 1000) :
    Calls Try.prog 13 #[.slice a m m, .slice b m m] w fun e w' => e = .returned (.bool true) ∧ w.grownBy w' none := by
  have HA : Hid (BAt w a m f) := ha
  have HB : Hid (BAt w b m f) := hb
  clear ha hb
  go_enter Try.func13, Try.ntmps13
  go_wp2_with fail
  go_loopg [5] m (fun gk i wr => ∃ k : Nat, k ≤ m ∧ gk = m - k ∧ i = .int .i64 k ∧ w.grownBy wr none)
  case atStart => exact ⟨0, Nat.zero_le _, rfl, rfl, grown_refl _ _⟩
  case round =>
    obtain ⟨k, hk, hgk, rfl, hg⟩ := hrel
    have HGK : Hid (gk = m - k) := hgk
    have HG : Hid (w.grownBy wr none) := hg
    clear hgk hg
    by_cases hlt : k < m
    · obtain ⟨x, rfl, hx⟩ : ∃ x, a = some ⟨x, 0, none⟩ ∧ BoolAt w x m f := by
        rcases HA.out with h | h
        · omega
        · exact h
      obtain ⟨y, rfl, hy⟩ : ∃ y, b = some ⟨y, 0, none⟩ ∧ BoolAt w y m f := by
        rcases HB.out with h | h
        · omega
        · exact h
      have c0 := (hx.kept HG.out).cell k hlt
      have c1 := (hy.kept HG.out).cell k hlt
      obtain ⟨z, hz⟩ : ∃ z, z = f k := ⟨_, rfl⟩
      rw [← hz] at c0 c1
      have hk0 : (0 : Int) ≤ (k : Int) := by omega
      have hk1 : (k : Int) < (m : Int) := by omega
      have hkd : decide (k < m) = true := decide_eq_true hlt
      clear hx hy hz
      go_wp2_with fail
      go_region_held3 (fun u => u.cell? ⟨x, k, none⟩ = some (.bool z) ∧ u.cell? ⟨y, k, none⟩ = some (.bool z)) (exact ⟨c0, c1⟩) (fail)
      go_wp2_with fail
      go_roundg (m - (k + 1))
      case measure => have := HGK.out; omega
      case rel => exact ⟨k + 1, by omega, rfl, by go_num, grown_trans HG.out (grown_drewN _ 1)⟩
    · have hkn : m = k := by omega
      subst hkn
      go_wp2_with fail
      go_ret
      exact ⟨rfl, HG.out⟩

end Go.Proofs.Ytmkimeojcpadpaa

/-
  reach, pure: a production more.
-/
namespace Go.Proofs.Ytmkimeojcpadpaa
open Go.RowKit Go.Maps Go.Shelf

theorem leftsTo_congr {L L' : Nat → Int} : ∀ n, (∀ i, i < n → L i = L' i) → leftsTo L n = leftsTo L' n
  | 0, _ => rfl
  | n + 1, h => by
    rw [leftsTo_succ, leftsTo_succ, leftsTo_congr n fun i hi => h i (by omega)]
    unfold leftStep
    rw [h n (by omega)]

theorem more_valid {ts : List (ByteArray × Int)} {ns : List ByteArray} {lv : List Int} {st : Int} {n : Nat} {L L' : Nat → Int} {R R' : Nat → List Int} {V V' : Nat → Int} (h : validOK ts ns lv st n L R V) (hL : ∀ i, i < n → L i = L' i) (hR : ∀ i, i < n → R i = R' i) (hV : ∀ i, i < n → V i = V' i) (r : Nat) (hr : r < ns.length) (hl : L' n = ((ts.length + r : Nat) : Int)) (hR2 : ∀ x ∈ R' n, (0 : Int) < x ∧ x < ((ts.length + ns.length : Nat) : Int)) (hV2 : V' n = 0) (hn : n < 96) :
    validOK ts ns lv st (n + 1) L' R' V' := by
  obtain ⟨hh, ha⟩ := h
  have hb : ∀ x ∈ leftsTo L n, (ts.length : Int) ≤ x ∧ x < (ts.length : Int) + ns.length := fun x hx => by
    obtain ⟨i, hi, rfl⟩ := (leftsTo_mem L x n).1 hx
    have := (hh.prods i hi).1
    unfold isNonI at this
    omega
  have hfill := asc_fill hh.lefts ha (leftsTo_nodup L n) hb
  have hmem : L' n ∈ leftsTo L n := by
    have h1 := hfill r hr
    have h2 : r < (leftsTo L n).length := by rw [hh.lefts]; exact hr
    have h3 := int_mem h2
    rw [h1] at h3
    rw [hl]
    have e : ((ts.length + r : Nat) : Int) = (ts.length : Int) + r := by omega
    rw [e]; exact h3
  have hsame : leftsTo L' (n + 1) = leftsTo L n := by
    rw [leftsTo_succ, ← leftsTo_congr n hL]
    unfold leftStep
    simp [hmem]
  refine ⟨⟨hh.syms, by omega, hh.terms, hh.nons, hh.levels, fun i hi => ?_, by rw [hsame]; exact hh.lefts, hh.start⟩, by rw [hsame]; exact ha⟩
  by_cases e : i = n
  · subst e
    refine ⟨?_, ?_, fun x hx => ?_⟩
    · unfold isNonI; rw [hl]; omega
    · rw [hV2]; omega
    · have := hR2 x hx
      unfold isSymI isNonI
      omega
  · have hi' : i < n := by omega
    rw [← hL i hi', ← hR i hi', ← hV i hi']
    exact hh.prods i hi'

/-- What was productive still is. -/
theorem more_marks {tn nn n : Nat} {st : Int} {L L' : Nat → Int} {R R' : Nat → List Int} {cl cl' : Bool} {F G F' G' : Nat → Bool} (h : MarksOf tn nn n st L R cl F G) (h' : MarksOf tn nn (n + 1) st L' R' cl' F' G') (hL : ∀ i, i < n → L i = L' i) (hR : ∀ i, i < n → R i = R' i) : ∀ i, F i = true → F' i = true := by
  refine h.f.inv (fun f => ∀ i, f i = true → F' i = true) (fun k f hk hf i hi => ?_) (fun i hi => by cases hi)
  unfold stM at hi
  split at hi
  · rename_i hc
    unfold mark at hi
    by_cases e : i = (L k - tn).toNat
    · subst e
      have hs := h'.f.stay (fun k s hs => stM_same tn L' R' k s hs) k (by omega)
      unfold chM at hc hs
      rw [Bool.and_eq_true] at hc
      have hfit : fitsB tn F' (R' k) = true := by
        rw [← hR k hk, fitsB_iff]
        intro x hx hxt
        exact hf _ ((fitsB_iff tn f (R k)).1 hc.2 x hx hxt)
      rw [hfit, Bool.and_true, ← hL k hk] at hs
      simpa using hs
    · rw [if_neg e] at hi
      exact hf i hi
  · exact hf i hi

end Go.Proofs.Ytmkimeojcpadpaa

/-
  ReachMore, walked.
-/
namespace Go.Proofs.Ytmkimeojcpadpaa
open Go.RowKit Go.Maps Go.Shelf

attribute [local go_sem] Oper.semAt_some

set_option maxRecDepth 100000 in
theorem epick_any (c : Int) (hlo : -9223372036854775808 ≤ c) (hhi : c ≤ 9223372036854775807) (n : Nat) (hn : 0 < n) (hn2 : n ≤ 1048577) (w : World) : Calls Try.prog 27 #[.int .i64 c, .int .i64 n] w fun e w' => (∃ r : Nat, r < n ∧ e = .returned (.int .i64 r)) ∧ w' = w := by
  by_cases h : c < 0
  · have hd : decide (c < 0) = true := decide_eq_true h
    go_enter Try.func27, Try.ntmps27
    go_wp2_with fail
    go_ret
    have e : -((c + 1).tmod (n : Int)) = (-(c + 1)) % (n : Int) := by rw [← Int.neg_tmod, Int.tmod_eq_emod_of_nonneg (by omega)]
    refine ⟨⟨((-(c + 1)) % (n : Int)).toNat, ?_, ?_⟩, rfl⟩
    · have h1 := Int.emod_lt_of_pos (-(c + 1)) (show (0 : Int) < n by omega)
      have h2 := Int.emod_nonneg (-(c + 1)) (show (n : Int) ≠ 0 by omega)
      omega
    · have h2 := Int.emod_nonneg (-(c + 1)) (show (n : Int) ≠ 0 by omega)
      rw [Int.toNat_of_nonneg h2, ← e]
      rfl
  · have hd : decide (c < 0) = false := decide_eq_false h
    go_enter Try.func27, Try.ntmps27
    go_wp2_with fail
    go_ret
    refine ⟨⟨(c % (n : Int)).toNat, ?_, ?_⟩, rfl⟩
    · have h1 := Int.emod_lt_of_pos c (show (0 : Int) < n by omega)
      have h2 := Int.emod_nonneg c (show (n : Int) ≠ 0 by omega)
      omega
    · have h2 := Int.emod_nonneg c (show (n : Int) ≠ 0 by omega)
      rw [Int.toNat_of_nonneg h2]
      rfl

/-- A grammar in new memory, with a box of its own. -/
theorem GmAt.of_gram {X : World} {B cb : Nat} {G : GR} {vt vn vl vp : Value} (h : GramNew X B G vt vn vl vp) (hb : X.heap[cb]? = some (.cells #[vt, vn, vl, .int .i64 G.start, vp] 27 (0, 0))) : GmAt X B cb vt vn vl vp G.start G.terms G.nons G.levels G.prods := by
  obtain ⟨rg, p1, p2⟩ := h.prods
  refine ⟨hb, h.terms, h.nons, h.levels, (List.range G.prods.length).map rg, by simp, ?_, fun i hi => ?_⟩
  · rw [flat_prodRow _ _ (by simp), prodRow_ext (n := G.prods.length) (L' := fun i => (G.prods.getD i ⟨0, [], 0⟩).left) (r' := rg) (V' := fun i => (G.prods.getD i ⟨0, [], 0⟩).level) (fun _ _ => rfl) (fun i hi => by simp [List.getD, hi]) (fun _ _ => rfl)]
    exact p1
  · have : ((List.range G.prods.length).map rg).getD i undef = rg i := by simp [List.getD, hi]
    rw [this]
    exact p2 i hi

section
variable (ta na la pa : Option Addr) (tc nc lc pc : Nat) (ts : List (ByteArray × Int)) (ns : List ByteArray) (lv : List Int) (n : Nat) (L : Nat → Int) (R : Nat → List Int) (ra : Nat → Option Addr) (rc : Nat → Nat) (V : Nat → Int) (st : Int) (w : World) (tn nn ln : Nat) (hlen : ts.length = tn ∧ ns.length = nn ∧ lv.length = ln) (hG : GAt w ta na la pa tc nc lc pc ts ns lv n L R ra rc V) (hnt : ta = none → tn = 0 ∧ tc = 0) (hnl : la = none → ln = 0 ∧ lc = 0) (h1 : tn * 24 ≤ 140737488355328) (h2 : nn * 16 ≤ 140737488355328) (h4 : n * 40 ≤ 140737488355328) (hts : ∀ t ∈ ts, t.1.size ≤ 140737488355328) (hns : ∀ s ∈ ns, s.size ≤ 140737488355328)
include hlen hG hnt hnl h1 h2 h4 hts hns

set_option maxRecDepth 100000 in
set_option maxHeartbeats 1000000 in
theorem more_bad (left : Int) (rv : Value) (hno : ¬ validOK ts ns lv st n L R V) :
    Calls Try.prog 7 #[.agg #[.slice ta tn tc, .slice na nn nc, .slice la ln lc, .int .i64 st, .slice pa n pc], .int .i64 left, rv] w fun e w' => e = .returned (.bool true) ∧ w.grownBy w' none := by
  obtain ⟨rC, hC⟩ := boolOf (closedOK ts ns lv st n L R V)
  have hV : false = true ↔ validOK ts ns lv st n L R V := ⟨fun h => (by cases h), fun h => absurd h hno⟩
  obtain ⟨F, G, hM⟩ := marks_of hlen hV hC
  obtain ⟨ec, hec⟩ : ∃ ec : Int, ec = if (false || rC) = true then 0 else 1 := ⟨_, rfl⟩
  obtain ⟨m, hm⟩ : ∃ m : Nat, m = if (false || rC) = true then nn else 0 := ⟨_, rfl⟩
  have hec0 : (ec == 0) = rC := by rw [hec]; cases rC <;> rfl
  have HCP : Hid (∀ X, w.grownBy X none → Calls Try.prog 8 #[.agg #[.slice ta tn tc, .slice na nn nc, .slice la ln lc, .int .i64 st, .slice pa n pc]] X fun e w' => ∃ ta' na' la' pa' tc' nc' lc' pc' ra' rc', e = .returned (.agg #[.slice ta' tn tc', .slice na' nn nc', .slice la' ln lc', .int .i64 st, .slice pa' n pc']) ∧ GAt w' ta' na' la' pa' tc' nc' lc' pc' ts ns lv n L R ra' rc' V ∧ (∀ i, i < n → (R i).length ≤ rc' i) ∧ (ta' = none → tn = 0 ∧ tc' = 0) ∧ (la' = none → ln = 0 ∧ lc' = 0) ∧ X.grownBy w' none) := fun X hX => rcopy_any ta na la pa tn nn ln n tc nc lc pc st ts ns lv L R ra rc V X hlen (hG.kept hX) hnt hnl h1 h2 h4
  have HIN : Hid (∀ (X : World) (ta' na' la' pa' : Option Addr) (tc' nc' lc' pc' : Nat) (ra' : Nat → Option Addr) (rc' : Nat → Nat), GAt X ta' na' la' pa' tc' nc' lc' pc' ts ns lv n L R ra' rc' V → Calls Try.prog 9 #[.agg #[.slice ta' tn tc', .slice na' nn nc', .slice la' ln lc', .int .i64 st, .slice pa' n pc']] X fun e y => MTold ec m F X e y) := fun X ta' na' la' pa' tc' nc' lc' pc' ra' rc' hX => by
    rw [hec, hm]
    exact productive_any ta' na' la' pa' tc' nc' lc' pc' ts ns lv n L R ra' rc' V st X tn nn ln hlen hX false rC hV hC F G hM
  have HVC : Hid (∀ X, w.grownBy X none → Calls Try.prog 20 #[.agg #[.slice ta tn tc, .slice na nn nc, .slice la ln lc, .int .i64 st, .slice pa n pc]] X (fun e w' => e = .returned (.bool false) ∧ X.grownBy w' none) ∧ Calls Try.prog 18 #[.agg #[.slice ta tn tc, .slice na nn nc, .slice la ln lc, .int .i64 st, .slice pa n pc]] X (fun e w' => e = .returned (.bool rC) ∧ X.grownBy w' none)) := fun X hX => rvc ta na la pa tc nc lc pc ts ns lv n L R ra rc V st w tn nn ln hlen hG hts hns X hX false rC hV hC
  have HX0 : Hid (PhAt w (w.alloc (.cells #[.slice ta tn tc, .slice na nn nc, .slice la ln lc, .int .i64 st, .slice pa n pc] 27)) w.heap.size #[.slice ta tn tc, .slice na nn nc, .slice la ln lc, .int .i64 st, .slice pa n pc]) := ⟨World.grownBy_alloc _ _ none, heap_alloc_last w _⟩
  clear hlen hG hnt hnl h1 h2 h4 hts hns hC hV hM hec hm hno
  go_enter Try.func7, Try.ntmps7
  go_wp2_with fail
  refine Calls.mono (HVC.out _ HX0.out.grown).1 ?_
  rintro e w1 ⟨rfl, hg1⟩
  have HX1 : Hid (PhAt w w1 w.heap.size #[.slice ta tn tc, .slice na nn nc, .slice la ln lc, .int .i64 st, .slice pa n pc]) := HX0.out.kept hg1
  obtain ⟨k0, k1, k2, k3, k4⟩ := HX1.out.cells
  clear hg1 HX0
  go_wp2_with fail
  refine Calls.mono (HCP.out _ HX1.out.grown) ?_
  rintro e w2 ⟨ta', na', la', pa', tc', nc', lc', pc', ra', rc', rfl, hG2, _, _, _, hg2⟩
  have HG2 : Hid (GAt w2 ta' na' la' pa' tc' nc' lc' pc' ts ns lv n L R ra' rc' V) := hG2
  have HX2 : Hid (PhAt w w2 w.heap.size #[.slice ta tn tc, .slice na nn nc, .slice la ln lc, .int .i64 st, .slice pa n pc]) := HX1.out.kept hg2
  clear hG2 hg2 k0 k1 k2 k3 k4 HX1
  go_wp2_with fail
  refine Calls.mono (HIN.out w2 _ _ _ _ _ _ _ _ _ _ HG2.out) ?_
  rintro e w3 ⟨a, rfl, hB3, hg3⟩
  have HX3 : Hid (PhAt w w3 w.heap.size #[.slice ta tn tc, .slice na nn nc, .slice la ln lc, .int .i64 st, .slice pa n pc]) := HX2.out.kept hg3
  clear hB3 hg3 HX2
  obtain ⟨k0, k1, k2, k3, k4⟩ := HX3.out.cells
  go_wp2_with fail
  refine Calls.mono (HVC.out _ HX3.out.grown).2 ?_
  rintro e w4 ⟨rfl, hg4⟩
  have HG4 : Hid (w.grownBy w4 none) := grown_trans HX3.out.grown hg4
  clear hg4 k0 k1 k2 k3 k4 HX3
  go_wp2_with fail
  refine Calls.mono (eawake_any w4) ?_
  rintro e w5 ⟨rfl, hg5⟩
  have HG5 : Hid (w.grownBy w5 none) := grown_trans HG4.out hg5
  clear hg5
  go_wp2_with fail
  go_ret
  exact ⟨rfl, HG5.out⟩
end

end Go.Proofs.Ytmkimeojcpadpaa
