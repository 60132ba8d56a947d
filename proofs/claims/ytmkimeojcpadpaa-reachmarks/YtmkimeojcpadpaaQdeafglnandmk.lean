import Derived.Test.YtmkimeojcpadpaaQopenfjhneloc
import Derived.Test.YtmkimeojcpadpaaQapcnjagfdbcf
import Derived.ProofKit
import Derived.OpenShut
import Derived.SliceStrings
import Derived.Deep.Slices
import Derived.SizedLaws

/-
  reach: the program's marks in the law's form; the law's bools.
-/
namespace Go.Proofs.Ytmkimeojcpadpaa
open Go.RowKit Go.Maps Go.Shelf

attribute [local go_sem] Oper.semAt_some

theorem closed_name {ts : List (ByteArray × Int)} {ns : List ByteArray} {lv : List Int} {st : Int} {n : Nat} {L : Nat → Int} {R : Nat → List Int} {V : Nat → Int} {rV rC : Bool} (hV : rV = true ↔ validOK ts ns lv st n L R V) (hC : rC = true ↔ closedOK ts ns lv st n L R V) (hok : (rV || rC) = true) : rC = true ↔ ns.getD 0 ⟨#[]⟩ = ⟨#[]⟩ := by
  constructor
  · exact fun h => (hC.1 h).1.name
  · intro h
    cases hc : rC with
    | true => rfl
    | false =>
      rw [hc, Bool.or_false] at hok
      exact absurd h (valid_name (hV.1 hok))
theorem may_of {ts : List (ByteArray × Int)} {ns : List ByteArray} {lv : List Int} {st : Int} {n : Nat} {L : Nat → Int} {R : Nat → List Int} {V : Nat → Int} {rV rC : Bool} {tn nn ln : Nat} (hlen : ts.length = tn ∧ ns.length = nn ∧ lv.length = ln) (hV : rV = true ↔ validOK ts ns lv st n L R V) (hC : rC = true ↔ closedOK ts ns lv st n L R V) (hok : (rV || rC) = true) : MayOK tn nn n st L R rC := by
  obtain ⟨rfl, rfl, rfl⟩ := hlen
  cases hc : rC with
  | true => exact mayOK_closed (hC.1 hc)
  | false => rw [hc, Bool.or_false] at hok; exact mayOK_valid (hV.1 hok)
/-- The marks of a grammar, if it may be. -/
theorem marks_of {ts : List (ByteArray × Int)} {ns : List ByteArray} {lv : List Int} {st : Int} {n : Nat} {L : Nat → Int} {R : Nat → List Int} {V : Nat → Int} {rV rC : Bool} {tn nn ln : Nat} (hlen : ts.length = tn ∧ ns.length = nn ∧ lv.length = ln) (hV : rV = true ↔ validOK ts ns lv st n L R V) (hC : rC = true ↔ closedOK ts ns lv st n L R V) : ∃ F G, (rV || rC) = true → MarksOf tn nn n st L R rC F G := by
  by_cases h : (rV || rC) = true
  · obtain ⟨F, G, hM⟩ := (may_of hlen hV hC h).marksOf
    exact ⟨F, G, fun _ => hM⟩
  · exact ⟨fun _ => false, fun _ => false, fun h' => absurd h' h⟩

section
variable (ta na la pa : Option Addr) (tc nc lc pc : Nat) (ts : List (ByteArray × Int)) (ns : List ByteArray) (lv : List Int) (n : Nat) (L : Nat → Int) (R : Nat → List Int) (ra : Nat → Option Addr) (rc : Nat → Nat) (V : Nat → Int) (st : Int) (w : World) (tn nn ln : Nat) (hlen : ts.length = tn ∧ ns.length = nn ∧ lv.length = ln) (hG : GAt w ta na la pa tc nc lc pc ts ns lv n L R ra rc V) (rV rC : Bool) (hV : rV = true ↔ validOK ts ns lv st n L R V) (hC : rC = true ↔ closedOK ts ns lv st n L R V) (F G : Nat → Bool) (hM : (rV || rC) = true → MarksOf tn nn n st L R rC F G)
include hlen hG hV hC hM

theorem productive_any :
    Calls Try.prog 9 #[.agg #[.slice ta tn tc, .slice na nn nc, .slice la ln lc, .int .i64 st, .slice pa n pc]] w fun e y => MTold (if (rV || rC) = true then 0 else 1) (if (rV || rC) = true then nn else 0) F w e y := by
  by_cases hok : (rV || rC) = true
  · rw [if_pos hok, if_pos hok]
    refine (productive_ok ta na la pa tc nc lc pc ts ns lv n L R ra rc V st w tn nn ln hlen hG rC hC (fun h => hV.1 (by rw [h, Bool.or_false] at hok; exact hok))).mono ?_
    rintro e y ⟨k, f, rfl, hk, hB, hF, hg⟩
    rw [(hM hok).f_eq hF] at hB
    exact ⟨some ⟨k, 0, none⟩, rfl, .inr ⟨k, rfl, hk, hB⟩, hg⟩
  · rw [if_neg hok, if_neg hok]
    rw [Bool.not_eq_true, Bool.or_eq_false_iff] at hok
    refine (productive_bad ta na la pa tc nc lc pc ts ns lv n L R ra rc V st w tn nn ln hlen hG (fun h => by rw [hV.2 h] at hok; cases hok.1) (fun h => by rw [hC.2 h] at hok; cases hok.2)).mono ?_
    rintro e y ⟨rfl, hg⟩
    exact ⟨none, rfl, .inl ⟨rfl, rfl⟩, hg⟩
theorem useful_any :
    Calls Try.prog 10 #[.agg #[.slice ta tn tc, .slice na nn nc, .slice la ln lc, .int .i64 st, .slice pa n pc]] w fun e y => MTold (if (rV || rC) = true then 0 else 1) (if (rV || rC) = true then nn else 0) G w e y := by
  by_cases hok : (rV || rC) = true
  · rw [if_pos hok, if_pos hok]
    refine (useful_ok ta na la pa tc nc lc pc ts ns lv n L R ra rc V st w tn nn ln hlen hG rC hC (fun h => hV.1 (by rw [h, Bool.or_false] at hok; exact hok))).mono ?_
    rintro e y ⟨k, u, f, rfl, hk, hB, hF, hD, hg⟩
    rw [(hM hok).f_eq hF] at hD
    exact ⟨some ⟨k, 0, none⟩, rfl, .inr ⟨k, rfl, hk, hB.ext fun i hi => (hM hok).u_eq hD i hi⟩, hg⟩
  · rw [if_neg hok, if_neg hok]
    rw [Bool.not_eq_true, Bool.or_eq_false_iff] at hok
    refine (useful_bad ta na la pa tc nc lc pc ts ns lv n L R ra rc V st w tn nn ln hlen hG (fun h => by rw [hV.2 h] at hok; cases hok.1) (fun h => by rw [hC.2 h] at hok; cases hok.2)).mono ?_
    rintro e y ⟨rfl, hg⟩
    exact ⟨none, rfl, .inl ⟨rfl, rfl⟩, hg⟩
end

/-- A row of marks, or none of them. -/
def BAt (w : World) (a : Option Addr) (m : Nat) (f : Nat → Bool) : Prop := m = 0 ∨ ∃ k, a = some ⟨k, 0, none⟩ ∧ BoolAt w k m f
theorem BRow.at {w y : World} {a : Option Addr} {m : Nat} {f : Nat → Bool} (h : BRow w y a m f) : BAt y a m f := by
  rcases h with ⟨_, h⟩ | ⟨k, e, _, h⟩
  · exact .inl h
  · exact .inr ⟨k, e, h⟩
theorem BAt.kept {w y : World} {a : Option Addr} {m : Nat} {f : Nat → Bool} (h : BAt w a m f) (hg : w.grownBy y none) : BAt y a m f := by
  rcases h with h | ⟨k, e, h⟩
  · exact .inl h
  · exact .inr ⟨k, e, h.kept hg⟩

set_option maxRecDepth 100000 in
set_option maxHeartbeats 1000000 in
theorem bools_same (a b : Option Addr) (m : Nat) (f : Nat → Bool) (w : World) (ha : BAt w a m f) (hb : BAt w b m f) (hm : m ≤ 1000) :
    Calls Try.prog 13 #[.slice a m m, .slice b m m] w fun e w' => e = .returned (.bool true) ∧ w.grownBy w' none := by
  have HA : Hid (BAt w a m f) := ha
  have HB : Hid (BAt w b m f) := hb
  clear ha hb
  go_enter Try.func13, Try.ntmps13
  go_wp2_with fail
  go_loopg [5] m (fun gk i wr => ∃ k : Nat, k ≤ m ∧ gk = m - k ∧ i = .int .i64 k ∧ w.grownBy wr none)
  case atStart => exact ⟨0, Nat.zero_le _, rfl, rfl, grown_refl _ _⟩
  case round =>
    obtain ⟨k, hk, hgk, rfl, hg⟩ := hrel
    have HGK : Hid (gk = m - k) := hgk
    have HG : Hid (w.grownBy wr none) := hg
    clear hgk hg
    by_cases hlt : k < m
    · obtain ⟨x, rfl, hx⟩ : ∃ x, a = some ⟨x, 0, none⟩ ∧ BoolAt w x m f := by
        rcases HA.out with h | h
        · omega
        · exact h
      obtain ⟨y, rfl, hy⟩ : ∃ y, b = some ⟨y, 0, none⟩ ∧ BoolAt w y m f := by
        rcases HB.out with h | h
        · omega
        · exact h
      have c0 := (hx.kept HG.out).cell k hlt
      have c1 := (hy.kept HG.out).cell k hlt
      obtain ⟨z, hz⟩ : ∃ z, z = f k := ⟨_, rfl⟩
      rw [← hz] at c0 c1
      have hk0 : (0 : Int) ≤ (k : Int) := by omega
      have hk1 : (k : Int) < (m : Int) := by omega
      have hkd : decide (k < m) = true := decide_eq_true hlt
      clear hx hy hz
      go_wp2_with fail
      go_region_held3 (fun u => u.cell? ⟨x, k, none⟩ = some (.bool z) ∧ u.cell? ⟨y, k, none⟩ = some (.bool z)) (exact ⟨c0, c1⟩) (fail)
      go_wp2_with fail
      go_roundg (m - (k + 1))
      case measure => have := HGK.out; omega
      case rel => exact ⟨k + 1, by omega, rfl, by go_num, grown_trans HG.out (grown_drewN _ 1)⟩
    · have hkn : m = k := by omega
      subst hkn
      go_wp2_with fail
      go_ret
      exact ⟨rfl, HG.out⟩

end Go.Proofs.Ytmkimeojcpadpaa

/-
  ReachMarks, walked.
-/
namespace Go.Proofs.Ytmkimeojcpadpaa
open Go.RowKit Go.Maps Go.Shelf

attribute [local go_sem] Oper.semAt_some

/-- A told row lies behind a world. -/
theorem BRow.cases {w y : World} {a : Option Addr} {m : Nat} {f : Nat → Bool} (h : BRow w y a m f) : (m = 0) ∨ ∃ k, a = some ⟨k, 0, none⟩ ∧ w.heap.size ≤ k ∧ BoolAt y k m f := by
  rcases h with ⟨_, h⟩ | h
  · exact .inl h
  · exact .inr h
/-- A row of marks that may be written, in a block of its own from lo on, below hi. -/
def BOwn (y : World) (a : Option Addr) (m lo hi : Nat) : Prop := m = 0 ∨ ∃ k f, a = some ⟨k, 0, none⟩ ∧ lo ≤ k ∧ k < hi ∧ BoolAt y k m f
theorem BRow.own {w y z : World} {a : Option Addr} {m lo : Nat} {f : Nat → Bool} (h : BRow w y a m f) (hl : lo ≤ w.heap.size) (hg : y.grownBy z none) : BOwn z a m lo y.heap.size := by
  rcases h with ⟨_, h⟩ | ⟨k, e, h1, h2⟩
  · exact .inl h
  · exact .inr ⟨k, f, e, by omega, h2.lt, h2.kept hg⟩
/-- A row of marks from lo on. -/
def BFrom (y : World) (a : Option Addr) (m lo : Nat) (f : Nat → Bool) : Prop := m = 0 ∨ ∃ k, a = some ⟨k, 0, none⟩ ∧ lo ≤ k ∧ BoolAt y k m f
theorem BRow.from {w y : World} {a : Option Addr} {m lo : Nat} {f : Nat → Bool} (h : BRow w y a m f) (hl : lo ≤ w.heap.size) : BFrom y a m lo f := by
  rcases h with ⟨_, h⟩ | ⟨k, e, h1, h2⟩
  · exact .inl h
  · exact .inr ⟨k, e, by omega, h2⟩
section
variable {y z : World} {a : Option Addr} {m lo hi : Nat} {f : Nat → Bool}
theorem BFrom.kept (h : BFrom y a m lo f) (hg : y.grownBy z none) : BFrom z a m lo f := by
  rcases h with h | ⟨k, e, h1, h2⟩
  · exact .inl h
  · exact .inr ⟨k, e, h1, h2.kept hg⟩
theorem BFrom.at {b : Nat} (h : BFrom y a m lo f) (hg : y.grownBy z (some b)) (hb : b < lo) : BFrom z a m lo f := by
  rcases h with h | ⟨k, e, h1, h2⟩
  · exact .inl h
  · exact .inr ⟨k, e, h1, h2.at hg (by omega)⟩
theorem BFrom.bat (h : BFrom y a m lo f) : BAt y a m f := by
  rcases h with h | ⟨k, e, h1, h2⟩
  · exact .inl h
  · exact .inr ⟨k, e, h2⟩
theorem BOwn.kept (h : BOwn y a m lo hi) (hg : y.grownBy z none) : BOwn z a m lo hi := by
  rcases h with h | ⟨k, f, e, h1, h2, h3⟩
  · exact .inl h
  · exact .inr ⟨k, f, e, h1, h2, h3.kept hg⟩
theorem BOwn.at {b : Nat} (h : BOwn y a m lo hi) (hg : y.grownBy z (some b)) (hb : b < lo ∨ hi ≤ b) : BOwn z a m lo hi := by
  rcases h with h | ⟨k, f, e, h1, h2, h3⟩
  · exact .inl h
  · exact .inr ⟨k, f, e, h1, h2, h3.at hg (by omega)⟩
end

/-- The memory of ReachMarks, once the four have told. -/
structure ML (X1 y : World) (a b x z : Option Addr) (m l1 l2 : Nat) (F G : Nat → Bool) : Prop where
  grown : X1.grownBy y none
  pa : BOwn y a m X1.heap.size l1
  pb : BOwn y b m l1 l2
  px : BFrom y x m l2 F
  pz : BFrom y z m l2 G
  h1 : X1.heap.size ≤ l1
  h2 : l1 ≤ l2
section
variable {X1 y v : World} {a b x z : Option Addr} {m l1 l2 : Nat} {F G : Nat → Bool}
theorem ML.kept (h : ML X1 y a b x z m l1 l2 F G) (hg : y.grownBy v none) : ML X1 v a b x z m l1 l2 F G := ⟨grown_trans h.grown hg, h.pa.kept hg, h.pb.kept hg, h.px.kept hg, h.pz.kept hg, h.h1, h.h2⟩
theorem ML.setA {k i : Nat} {c : Bool} {f : Nat → Bool} (h : ML X1 y (some ⟨k, 0, none⟩) b x z m l1 l2 F G) (hk : X1.heap.size ≤ k) (hk2 : k < l1) (hB : BoolAt y k m f) : ML X1 (y.setCell ⟨k, i, none⟩ (.bool c)) (some ⟨k, 0, none⟩) b x z m l1 l2 F G := by
  have hg := grown_setCell (w := y) k i (.bool c)
  have h2 := h.h2
  exact ⟨grown_at h.grown hg hk, .inr ⟨k, _, rfl, hk, hk2, hB.set i c⟩, h.pb.at hg (.inl hk2), h.px.at hg (by omega), h.pz.at hg (by omega), h.h1, h.h2⟩
theorem ML.setB {k i : Nat} {c : Bool} {f : Nat → Bool} (h : ML X1 y a (some ⟨k, 0, none⟩) x z m l1 l2 F G) (hk : l1 ≤ k) (hk2 : k < l2) (hB : BoolAt y k m f) : ML X1 (y.setCell ⟨k, i, none⟩ (.bool c)) a (some ⟨k, 0, none⟩) x z m l1 l2 F G := by
  have hg := grown_setCell (w := y) k i (.bool c)
  have h1 := h.h1
  exact ⟨grown_at h.grown hg (by omega), h.pa.at hg (.inr hk), .inr ⟨k, _, rfl, hk, hk2, hB.set i c⟩, h.px.at hg hk2, h.pz.at hg hk2, h.h1, h.h2⟩
end

set_option maxRecDepth 100000 in
set_option maxHeartbeats 1000000 in
theorem emarks_core (ta na la pa : Option Addr) (tc nc lc pc : Nat) (ts : List (ByteArray × Int)) (ns : List ByteArray) (lv : List Int) (n : Nat) (L : Nat → Int) (R : Nat → List Int) (ra : Nat → Option Addr) (rc : Nat → Nat) (V : Nat → Int) (st : Int) (w : World) (tn nn ln : Nat) (hlen : ts.length = tn ∧ ns.length = nn ∧ lv.length = ln) (hG : GAt w ta na la pa tc nc lc pc ts ns lv n L R ra rc V) (hnt : ta = none → tn = 0 ∧ tc = 0) (hnl : la = none → ln = 0 ∧ lc = 0) (h1 : tn * 24 ≤ 140737488355328) (h2 : nn * 16 ≤ 140737488355328) (h4 : n * 40 ≤ 140737488355328) (hts : ∀ t ∈ ts, t.1.size ≤ 140737488355328) (hns : ∀ s ∈ ns, s.size ≤ 140737488355328) :
    Calls Try.prog 3 #[.agg #[.slice ta tn tc, .slice na nn nc, .slice la ln lc, .int .i64 st, .slice pa n pc]] w fun e w' => e = .returned (.bool true) ∧ w.grownBy w' none := by
  obtain ⟨rV, hV⟩ := boolOf (validOK ts ns lv st n L R V)
  obtain ⟨rC, hC⟩ := boolOf (closedOK ts ns lv st n L R V)
  obtain ⟨F, G, hM⟩ := marks_of hlen hV hC
  obtain ⟨ec, hec⟩ : ∃ ec : Int, ec = if (rV || rC) = true then 0 else 1 := ⟨_, rfl⟩
  obtain ⟨m, hm⟩ : ∃ m : Nat, m = if (rV || rC) = true then nn else 0 := ⟨_, rfl⟩
  have hm1 : m ≤ 1000 := by
    rw [hm]
    by_cases h : (rV || rC) = true
    · rw [if_pos h]; have := (hM h).may.nmax; omega
    · rw [if_neg h]; omega
  have HCP : Hid (∀ X, w.grownBy X none → Calls Try.prog 8 #[.agg #[.slice ta tn tc, .slice na nn nc, .slice la ln lc, .int .i64 st, .slice pa n pc]] X fun e w' => ∃ ta' na' la' pa' tc' nc' lc' pc' ra' rc', e = .returned (.agg #[.slice ta' tn tc', .slice na' nn nc', .slice la' ln lc', .int .i64 st, .slice pa' n pc']) ∧ GAt w' ta' na' la' pa' tc' nc' lc' pc' ts ns lv n L R ra' rc' V ∧ (∀ i, i < n → (R i).length ≤ rc' i) ∧ (ta' = none → tn = 0 ∧ tc' = 0) ∧ (la' = none → ln = 0 ∧ lc' = 0) ∧ X.grownBy w' none) := fun X hX => rcopy_any ta na la pa tn nn ln n tc nc lc pc st ts ns lv L R ra rc V X hlen (hG.kept hX) hnt hnl h1 h2 h4
  have HRP : Hid (∀ X, w.grownBy X none → Calls Try.prog 11 #[.agg #[.slice ta tn tc, .slice na nn nc, .slice la ln lc, .int .i64 st, .slice pa n pc]] X fun e y => MTold ec m F X e y) := fun X hX => by
    rw [hec, hm]; exact rproductive_any ta na la pa tc nc lc pc ts ns lv n L R ra rc V st X tn nn ln hlen (hG.kept hX) hts hns rV rC hV hC rC F G hM
  have HRU : Hid (∀ X, w.grownBy X none → Calls Try.prog 12 #[.agg #[.slice ta tn tc, .slice na nn nc, .slice la ln lc, .int .i64 st, .slice pa n pc]] X fun e y => MTold ec m G X e y) := fun X hX => by
    rw [hec, hm]; exact ruseful_any ta na la pa tc nc lc pc ts ns lv n L R ra rc V st X tn nn ln hlen (hG.kept hX) hts hns rV rC hV hC rC F G hM (closed_name hV hC)
  have HIN : Hid (∀ (X : World) (ta' na' la' pa' : Option Addr) (tc' nc' lc' pc' : Nat) (ra' : Nat → Option Addr) (rc' : Nat → Nat), GAt X ta' na' la' pa' tc' nc' lc' pc' ts ns lv n L R ra' rc' V → (Calls Try.prog 9 #[.agg #[.slice ta' tn tc', .slice na' nn nc', .slice la' ln lc', .int .i64 st, .slice pa' n pc']] X fun e y => MTold ec m F X e y) ∧ (Calls Try.prog 10 #[.agg #[.slice ta' tn tc', .slice na' nn nc', .slice la' ln lc', .int .i64 st, .slice pa' n pc']] X fun e y => MTold ec m G X e y) ∧ (w.grownBy X none → Calls Try.prog 14 #[.agg #[.slice ta' tn tc', .slice na' nn nc', .slice la' ln lc', .int .i64 st, .slice pa' n pc'], .agg #[.slice ta tn tc, .slice na nn nc, .slice la ln lc, .int .i64 st, .slice pa n pc]] X fun e w' => e = .returned (.bool true) ∧ X.grownBy w' none)) := fun X ta' na' la' pa' tc' nc' lc' pc' ra' rc' hX => by
    rw [hec, hm]
    refine ⟨productive_any ta' na' la' pa' tc' nc' lc' pc' ts ns lv n L R ra' rc' V st X tn nn ln hlen hX rV rC hV hC F G hM, useful_any ta' na' la' pa' tc' nc' lc' pc' ts ns lv n L R ra' rc' V st X tn nn ln hlen hX rV rC hV hC F G hM, fun hg => ?_⟩
    have := rsame_any (st := st) (st' := st) hX (hG.kept hg) true ⟨fun _ => ⟨rfl, rfl, rfl, rfl, rfl, fun i hi => ⟨rfl, rfl, rfl⟩⟩, fun _ => rfl⟩
    rwa [hlen.1, hlen.2.1, hlen.2.2] at this
  have HX0 : Hid (PhAt w (w.alloc (.cells #[.slice ta tn tc, .slice na nn nc, .slice la ln lc, .int .i64 st, .slice pa n pc] 27)) w.heap.size #[.slice ta tn tc, .slice na nn nc, .slice la ln lc, .int .i64 st, .slice pa n pc]) := ⟨World.grownBy_alloc _ _ none, heap_alloc_last w _⟩
  clear hlen hG hnt hnl h1 h2 h4 hts hns hV hC hM hec hm
  go_enter Try.func3, Try.ntmps3
  go_wp2_with fail
  refine Calls.mono (HCP.out _ HX0.out.grown) ?_
  rintro e w1 ⟨ta', na', la', pa', tc', nc', lc', pc', ra', rc', rfl, hG1, _, _, _, hg1⟩
  have HG1 : Hid (GAt w1 ta' na' la' pa' tc' nc' lc' pc' ts ns lv n L R ra' rc' V) := hG1
  have HX1 : Hid (PhAt w w1 w.heap.size #[.slice ta tn tc, .slice na nn nc, .slice la ln lc, .int .i64 st, .slice pa n pc]) := HX0.out.kept hg1
  obtain ⟨ib, hib⟩ : ∃ ib, ib = w1.heap.size := ⟨_, rfl⟩
  obtain ⟨X1, hX1⟩ : ∃ X1, X1 = w1.alloc (.cells #[.slice ta' tn tc', .slice na' nn nc', .slice la' ln lc', .int .i64 st, .slice pa' n pc'] 27) := ⟨_, rfl⟩
  have hga : w1.grownBy X1 none := by rw [hX1]; exact World.grownBy_alloc _ _ none
  have HPX : Hid (PhAt w X1 w.heap.size #[.slice ta tn tc, .slice na nn nc, .slice la ln lc, .int .i64 st, .slice pa n pc]) := HX1.out.kept hga
  have HPI : Hid (PhAt w X1 ib #[.slice ta' tn tc', .slice na' nn nc', .slice la' ln lc', .int .i64 st, .slice pa' n pc']) := ⟨grown_trans HX1.out.grown hga, by rw [hX1, hib]; exact heap_alloc_last w1 _⟩
  have HGI : Hid (GAt X1 ta' na' la' pa' tc' nc' lc' pc' ts ns lv n L R ra' rc' V) := hG1.kept hga
  have HXE := show Hid _ from hX1
  obtain ⟨k0, k1, k2, k3, k4⟩ := HPX.out.cells
  obtain ⟨j0, j1, j2, j3, j4⟩ := HPI.out.cells
  rw [hX1] at j0 j1 j2 j3 j4 k0 k1 k2 k3 k4
  rw [hib] at j0 j1 j2 j3 j4
  have HIB : Hid (ib = w1.heap.size) := hib
  clear hG1 hg1 HX0 HCP hga hX1 HG1 HX1 hib
  go_wp2_with fail
  rw [← HXE.out, ← HIB.out]
  refine Calls.mono (HIN.out X1 _ _ _ _ _ _ _ _ _ _ HGI.out).1 ?_
  rintro e w2 ⟨a, rfl, hA2, hg2⟩
  have HA2 : Hid (BRow X1 w2 a m F) := hA2
  have HG2 : Hid (X1.grownBy w2 none) := hg2
  clear hA2 hg2 k0 k1 k2 k3 k4 j0 j1 j2 j3 j4 HXE
  obtain ⟨k0, k1, k2, k3, k4⟩ := (HPX.out.kept HG2.out).cells
  obtain ⟨j0, j1, j2, j3, j4⟩ := (HPI.out.kept HG2.out).cells
  go_wp2_with fail
  refine Calls.mono (HIN.out w2 _ _ _ _ _ _ _ _ _ _ (HGI.out.kept HG2.out)).2.1 ?_
  rintro e w3 ⟨b, rfl, hB3, hg3⟩
  have HB3 : Hid (BRow w2 w3 b m G) := hB3
  have HG3 : Hid (w2.grownBy w3 none) := hg3
  have HX3 : Hid (X1.grownBy w3 none) := grown_trans HG2.out hg3
  clear hB3 hg3 k0 k1 k2 k3 k4 j0 j1 j2 j3 j4
  obtain ⟨k0, k1, k2, k3, k4⟩ := (HPX.out.kept HX3.out).cells
  go_wp2_with fail
  refine Calls.mono (HRP.out w3 (HPX.out.kept HX3.out).grown) ?_
  rintro e w4 ⟨x, rfl, hX4, hg4⟩
  have HX4 : Hid (BRow w3 w4 x m F) := hX4
  have HG4 : Hid (w3.grownBy w4 none) := hg4
  have HY4 : Hid (X1.grownBy w4 none) := grown_trans HX3.out hg4
  clear hX4 hg4 k0 k1 k2 k3 k4
  obtain ⟨k0, k1, k2, k3, k4⟩ := (HPX.out.kept HY4.out).cells
  go_wp2_with fail
  refine Calls.mono (HRU.out w4 (HPX.out.kept HY4.out).grown) ?_
  rintro e w5 ⟨z, rfl, hZ5', hg5⟩
  have hZ5 : BRow w4 w5 z m G := hZ5'
  clear hZ5'
  have HML : Hid (ML X1 w5 a b x z m w2.heap.size w3.heap.size F G ∧ BAt w5 a m F ∧ BAt w5 b m G) := by
    have s1 := HG2.out.size
    have s2 := HG3.out.size
    have s3 := HG4.out.size
    have g35 := grown_trans HG4.out hg5
    have g25 := grown_trans HG3.out g35
    exact ⟨⟨grown_trans HY4.out hg5, HA2.out.own (Nat.le_refl _) g25, HB3.out.own (Nat.le_refl _) g35, (HX4.out.from (Nat.le_refl _)).kept hg5, hZ5.from s3, s1, s2⟩, HA2.out.at.kept g25, HB3.out.at.kept g35⟩
  clear hZ5 hg5 k0 k1 k2 k3 k4 HA2 HB3 HX4 HG2 HG3 HG4 HX3 HY4
  go_wp2_with fail
  refine Calls.mono (bools_same a x m F w5 HML.out.2.1 HML.out.1.px.bat hm1) ?_
  rintro e w6 ⟨rfl, hg6⟩
  have HM6 : Hid (ML X1 w6 a b x z m w2.heap.size w3.heap.size F G ∧ BAt w6 b m G) := ⟨HML.out.1.kept hg6, HML.out.2.2.kept hg6⟩
  clear hg6 HML
  go_wp2_with fail
  refine Calls.mono (bools_same b z m G w6 HM6.out.2 HM6.out.1.pz.bat hm1) ?_
  rintro e w7 ⟨rfl, hg7⟩
  have HM7 : Hid (ML X1 w7 a b x z m w2.heap.size w3.heap.size F G) := HM6.out.1.kept hg7
  clear hg7 HM6
  generalize w2.heap.size = l1 at *
  generalize w3.heap.size = l2 at *
  go_wp2_with fail
  go_loopg [12] m (fun gk i wr => ∃ k : Nat, k ≤ m ∧ gk = m - k ∧ i = .int .i64 k ∧ ML X1 wr a b x z m l1 l2 F G)
  case atStart => exact ⟨0, Nat.zero_le _, rfl, rfl, HM7.out⟩
  case round =>
    obtain ⟨k, hk, hgk, rfl, hN⟩ := hrel
    have HGK : Hid (gk = m - k) := hgk
    have HN : Hid (ML X1 wr a b x z m l1 l2 F G) := hN
    clear hgk hN HM7
    by_cases hlt : k < m
    · obtain ⟨ka, fa, rfl, hka1, hka2, hBa⟩ : ∃ k f, a = some ⟨k, 0, none⟩ ∧ X1.heap.size ≤ k ∧ k < l1 ∧ BoolAt wr k m f := by
        rcases HN.out.pa with h | h
        · omega
        · exact h
      have HBA : Hid (BoolAt wr ka m fa) := hBa
      have c0 := hBa.cell k hlt
      have cf := hBa.free k
      obtain ⟨v, hv⟩ : ∃ v, v = fa k := ⟨_, rfl⟩
      rw [← hv] at c0
      have hk0 : (0 : Int) ≤ (k : Int) := by omega
      have hk1 : (k : Int) < (m : Int) := by omega
      have hkd : decide (k < m) = true := decide_eq_true hlt
      clear hBa hv
      go_wp2_with fail
      go_roundg (m - (k + 1))
      case measure => have := HGK.out; omega
      case rel => exact ⟨k + 1, by omega, rfl, by go_num, HN.out.setA hka1 hka2 HBA.out⟩
    · have hkn : m = k := by omega
      subst hkn
      have hkd : decide (m < m) = false := decide_eq_false (by omega)
      clear HGK
      generalize wr = W8 at *
      go_wp2_with fail
      go_loopg [13] m (fun gk i wr => ∃ k : Nat, k ≤ m ∧ gk = m - k ∧ i = .int .i64 k ∧ ML X1 wr a b x z m l1 l2 F G)
      case atStart => exact ⟨0, Nat.zero_le _, rfl, rfl, HN.out⟩
      case round =>
        obtain ⟨k, hk, hgk, rfl, hN⟩ := hrel
        have HGK : Hid (gk = m - k) := hgk
        have HN2 : Hid (ML X1 wr a b x z m l1 l2 F G) := hN
        clear hgk hN HN
        by_cases hlt : k < m
        · obtain ⟨kb, fb, rfl, hkb1, hkb2, hBb⟩ : ∃ k f, b = some ⟨k, 0, none⟩ ∧ l1 ≤ k ∧ k < l2 ∧ BoolAt wr k m f := by
            rcases HN2.out.pb with h | h
            · omega
            · exact h
          have HBB : Hid (BoolAt wr kb m fb) := hBb
          have c0 := hBb.cell k hlt
          have cf := hBb.free k
          obtain ⟨v, hv⟩ : ∃ v, v = fb k := ⟨_, rfl⟩
          rw [← hv] at c0
          have hk0 : (0 : Int) ≤ (k : Int) := by omega
          have hk1 : (k : Int) < (m : Int) := by omega
          have hkd : decide (k < m) = true := decide_eq_true hlt
          clear hBb hv
          go_wp2_with fail
          go_roundg (m - (k + 1))
          case measure => have := HGK.out; omega
          case rel => exact ⟨k + 1, by omega, rfl, by go_num, HN2.out.setB hkb1 hkb2 HBB.out⟩
        · have hkn : m = k := by omega
          subst hkn
          clear HGK
          generalize wr = W9 at *
          obtain ⟨j0, j1, j2, j3, j4⟩ := (HPI.out.kept HN2.out.grown).cells
          go_wp2_with fail
          refine Calls.mono (HIN.out W9 _ _ _ _ _ _ _ _ _ _ (HGI.out.kept HN2.out.grown)).1 ?_
          rintro e w10 ⟨c, rfl, hC10', hg10⟩
          have hC10 : BRow W9 w10 c m F := hC10'
          have HM10 : Hid (ML X1 w10 a b x z m l1 l2 F G ∧ BAt w10 c m F) := ⟨HN2.out.kept hg10, hC10.at⟩
          clear hC10 hC10' hg10 HN2 j0 j1 j2 j3 j4
          obtain ⟨j0, j1, j2, j3, j4⟩ := (HPI.out.kept HM10.out.1.grown).cells
          go_wp2_with fail
          refine Calls.mono (HIN.out w10 _ _ _ _ _ _ _ _ _ _ (HGI.out.kept HM10.out.1.grown)).2.1 ?_
          rintro e w11 ⟨d, rfl, hD11', hg11⟩
          have hD11 : BRow w10 w11 d m G := hD11'
          have HM11 : Hid (ML X1 w11 a b x z m l1 l2 F G ∧ BAt w11 c m F ∧ BAt w11 d m G) := ⟨HM10.out.1.kept hg11, HM10.out.2.kept hg11, hD11.at⟩
          clear hD11 hD11' hg11 HM10 j0 j1 j2 j3 j4
          go_wp2_with fail
          refine Calls.mono (bools_same c x m F w11 HM11.out.2.1 HM11.out.1.px.bat hm1) ?_
          rintro e w12 ⟨rfl, hg12⟩
          have HM12 : Hid (ML X1 w12 a b x z m l1 l2 F G ∧ BAt w12 d m G) := ⟨HM11.out.1.kept hg12, HM11.out.2.2.kept hg12⟩
          clear hg12 HM11
          go_wp2_with fail
          refine Calls.mono (bools_same d z m G w12 HM12.out.2 HM12.out.1.pz.bat hm1) ?_
          rintro e w13 ⟨rfl, hg13⟩
          have HM13 : Hid (ML X1 w13 a b x z m l1 l2 F G) := HM12.out.1.kept hg13
          clear hg13 HM12
          obtain ⟨k0, k1, k2, k3, k4⟩ := (HPX.out.kept HM13.out.grown).cells
          obtain ⟨j0, j1, j2, j3, j4⟩ := (HPI.out.kept HM13.out.grown).cells
          go_wp2_with fail
          refine Calls.mono ((HIN.out w13 _ _ _ _ _ _ _ _ _ _ (HGI.out.kept HM13.out.grown)).2.2 (HPX.out.kept HM13.out.grown).grown) ?_
          rintro e w14 ⟨rfl, hg14⟩
          have HG14 : Hid (w.grownBy w14 none) := grown_trans (HPX.out.kept HM13.out.grown).grown hg14
          clear hg14 HM13 k0 k1 k2 k3 k4 j0 j1 j2 j3 j4
          go_wp2_with fail
          refine Calls.mono (eawake_any w14) ?_
          rintro e w15 ⟨rfl, hg15⟩
          have HG15 : Hid (w.grownBy w15 none) := grown_trans HG14.out hg15
          clear hg15
          go_wp2_with fail
          go_ret
          exact ⟨rfl, HG15.out⟩

end Go.Proofs.Ytmkimeojcpadpaa

/-
  A grammar that came in, as the walks take it.
-/
namespace Go.Proofs.Ytmkimeojcpadpaa
open Go.ChangeShapes Go.WideShapes Go.ChangeAt Go.RowKit Go.Deep

theorem cellsInt : Try.prog.cellsOf 3 = 1 := by kernel_rfl
theorem cellsStr : Try.prog.cellsOf 9 = 1 := by kernel_rfl
theorem cellsInts : Try.prog.cellsOf 24 = 1 := by kernel_rfl
theorem cellsTerm : Try.prog.cellsOf 57 = 2 := by kernel_rfl
theorem cellsProd : Try.prog.cellsOf 45 = 3 := by kernel_rfl
theorem cellsTerms : Try.prog.cellsOf 22 = 1 := by kernel_rfl
theorem cellsStrs : Try.prog.cellsOf 23 = 1 := by kernel_rfl
theorem cellsProds : Try.prog.cellsOf 25 = 1 := by kernel_rfl
theorem cellsGram : Try.prog.cellsOf 27 = 5 := by kernel_rfl
theorem bytesInt : Try.prog.bytesOf 3 = 8 := by kernel_rfl
theorem bytesStr : Try.prog.bytesOf 9 = 16 := by kernel_rfl
theorem bytesTerm : Try.prog.bytesOf 57 = 24 := by kernel_rfl
theorem bytesProd : Try.prog.bytesOf 45 = 40 := by kernel_rfl

theorem weights_mem_all {H : Type} {P : Program} {e : TypeId} {d : DataW H} : ∀ {l : List (DataW H)}, d ∈ l → ∀ n ∈ d.weights P e, n ∈ DataW.weightsAll P e l
  | d0 :: l, hd, n, hn => by
    simp only [DataW.weightsAll, List.mem_append]
    rcases List.mem_cons.1 hd with rfl | h
    · exact .inl hn
    · exact .inr (weights_mem_all h n hn)

theorem ints_of_open {W : World} {x : Addr} {len cap : Nat} {zs : List Int} (hl : len ≤ cap) (hz : zs.length = cap) (hc : ∀ i, i < zs.length → W.cell? (x.add i) = some (.int .i64 (zs.getD i 0))) :
    IntsAt W (some x) (zs.take len) := by
  by_cases h0 : len = 0
  · subst h0; exact .inl (by simp)
  · obtain ⟨b, off, spot⟩ := x
    have h1 := hc 0 (by omega)
    have hs : spot = none := by simpa [Addr.add] using World.cell?_spot h1
    subst hs
    refine .inr ⟨b, off, rfl, fun i hi => ?_⟩
    have hi' : i < len := by simp at hi; omega
    have h2 := hc i (by omega)
    rw [Addr.add_mid] at h2
    rw [h2]
    congr 2
    simp [List.getD, hi']
theorem strs_of_open {W : World} {x : Addr} {len cap : Nat} {zs : List ByteArray} (hl : len ≤ cap) (hz : zs.length = cap) (hc : ∀ i, i < zs.length → W.cell? (x.add i) = some (.string (zs.getD i ByteArray.empty))) :
    StrsAt W (some x) (zs.take len) := by
  by_cases h0 : len = 0
  · subst h0; exact .inl (by simp)
  · obtain ⟨b, off, spot⟩ := x
    have h1 := hc 0 (by omega)
    have hs : spot = none := by simpa [Addr.add] using World.cell?_spot h1
    subst hs
    refine .inr ⟨b, off, rfl, fun i hi => ?_⟩
    have hi' : i < len := by simp at hi; omega
    have h2 := hc i (by omega)
    rw [Addr.add_mid] at h2
    rw [h2]
    congr 2
    have hi2 : i < zs.length := by omega
    simp [List.getD, hi', hi2]

section
variable {H : Type} {enc : TypeId × Value → H} {W : World} {fuel : Nat} {cs : List Value} {x : DataW H × List MemPlace}

theorem open_ints_in (h : DataW.trod enc Try.prog W 0 (fun _ => true) true fuel 24 cs = some x) (hw : ∀ n ∈ x.1.weights Try.prog 24, n ≤ reachBytes) :
    ∃ (a : Option Addr) (l : List Int) (c : Nat), cs = [.slice a l.length c] ∧ IntsAt W a l ∧ l.length ≤ 17592186044416 ∧ l.length ≤ c ∧ (a = none → l.length = 0 ∧ c = 0) ∧ ∀ z ∈ l, (Lit.int .i64 z).wf = true := by
  rcases open_ints Try.underlying24 Try.underlying3 cellsInt h with ⟨hcs, _⟩ | ⟨y, l, c, zs, hcs, _, hl, hm, hz, hx, hcell, hwz⟩
  · exact ⟨none, [], 0, hcs, .inl rfl, by decide, Nat.le_refl _, fun _ => ⟨rfl, rfl⟩, by simp⟩
  · have hz' : zs.length = c := by simpa using hz
    have hlen : (zs.take l).length = l := by rw [List.length_take]; omega
    refine ⟨some y, zs.take l, c, by rw [hlen]; exact hcs, ints_of_open hl hz' hcell, ?_, by rw [hlen]; exact hl, (fun h => by cases h), fun z hz => hwz z (List.mem_of_mem_take hz)⟩
    have := hw ((lits (H := H) .i64 (zs.take l)).length * 8 + (lits (H := H) .i64 (zs.drop l)).length * 8) (by rw [hx]; simp [DataW.weights, Try.underlying24, bytesInt, Nat.add_mul])
    simp only [lits, List.length_map, List.length_take, List.length_drop, reachBytes] at this
    rw [hlen]
    omega

theorem open_strs_in (h : DataW.trod enc Try.prog W 0 (fun _ => true) true fuel 23 cs = some x) (hw : ∀ n ∈ x.1.weights Try.prog 23, n ≤ reachBytes) :
    ∃ (a : Option Addr) (l : List ByteArray) (c : Nat), cs = [.slice a l.length c] ∧ StrsAt W a l ∧ l.length ≤ 8796093022208 ∧ l.length ≤ c ∧ (a = none → l.length = 0 ∧ c = 0) ∧ ∀ s ∈ l, s.size ≤ 140737488355328 := by
  rcases open_strings Try.underlying23 Try.underlying9 cellsStr h with ⟨hcs, _⟩ | ⟨y, l, c, zs, hcs, _, hl, hm, hz, hx, hcell, hwz⟩
  · exact ⟨none, [], 0, hcs, .inl rfl, by decide, Nat.le_refl _, fun _ => ⟨rfl, rfl⟩, by simp⟩
  · have hz' : zs.length = c := by simpa using hz
    have hlen : (zs.take l).length = l := by rw [List.length_take]; omega
    refine ⟨some y, zs.take l, c, by rw [hlen]; exact hcs, strs_of_open hl hz' hcell, ?_, by rw [hlen]; exact hl, (fun h => by cases h), fun s hs => ?_⟩
    rotate_left
    · have := hw s.data.toList.length (by
        rw [hx]
        simp only [DataW.weights, Try.underlying23, List.mem_cons, List.mem_append]
        exact .inr (.inl (weights_mem_all (List.mem_map.2 ⟨s, hs, rfl⟩) _ (by simp [DataW.weights]))))
      have e : s.data.toList.length = s.size := by simp
      unfold reachBytes at this
      omega
    have := hw ((strs (H := H) (zs.take l)).length * 16 + (strs (H := H) (zs.drop l)).length * 16) (by rw [hx]; simp [DataW.weights, Try.underlying23, bytesStr, Nat.add_mul])
    simp only [strs, List.length_map, List.length_take, List.length_drop, reachBytes] at this
    rw [hlen]
    omega

set_option maxRecDepth 100000 in
theorem open_terms_in (h : DataW.trod enc Try.prog W 0 (fun _ => true) true fuel 22 cs = some x) (hw : ∀ n ∈ x.1.weights Try.prog 22, n ≤ reachBytes) :
    ∃ (a : Option Addr) (l : List (ByteArray × Int)) (c : Nat), cs = [.slice a l.length c] ∧ TermsAt W a l ∧ l.length ≤ 5864062014805 ∧ l.length ≤ c ∧ (a = none → l.length = 0 ∧ c = 0) ∧ ∀ t ∈ l, (Lit.int .i64 t.2).wf = true ∧ t.1.size ≤ 140737488355328 := by
  rcases open_slice Try.underlying22 h with ⟨hcs, _⟩ | ⟨ad, len, cap, m, n, D, Pl, hcs, _, hl, hm, hmm, hx, heach⟩
  · exact ⟨none, [], 0, hcs, .inl rfl, by decide, Nat.le_refl _, fun _ => ⟨rfl, rfl⟩, by simp⟩
  · simp only [if_true] at hmm
    subst hx
    rw [cellsTerm] at heach
    have hlen : len ≤ 5864062014805 := by
      have := hw (((List.range len).map D).length * 24 + ((List.range (m - len)).map fun j => D (len + j)).length * 24) (by simp [DataW.weights, Try.underlying22, bytesTerm, Nat.add_mul])
      simp only [List.length_map, List.length_range, reachBytes] at this
      omega
    have each : ∀ i, i < len → ∃ t : ByteArray × Int, ∃ b off, ad = ⟨b, off, none⟩ ∧ W.cell? ⟨b, off + i * 2, none⟩ = some (.string t.1) ∧ W.cell? ⟨b, off + i * 2 + 1, none⟩ = some (.int .i64 t.2) ∧ (Lit.int .i64 t.2).wf = true ∧ t.1.size ≤ 140737488355328 := by
      intro i hi
      obtain ⟨cs', h1, h2⟩ := heach i (by omega)
      obtain ⟨_, hcl, hcell⟩ := World.cells?_some h1
      obtain ⟨xs, k, hk, hxy, _, hxl, hfs⟩ := DataW.trod_struct Try.underlying57 h2
      match xs, hxl, cs', hcl with
      | [y0, y1], _, [v0, v1], _ =>
        have g0 := hfs 0 _ rfl
        have g1 := hfs 1 _ rfl
        simp [cellsInt, cellsStr] at g0 g1
        simp only [Prod.mk.injEq] at hxy
        obtain ⟨s0, e0, ed0, _⟩ := DataW.trod_string Try.underlying9 g0
        have hsz : s0.size ≤ 140737488355328 := by
          have := hw s0.data.toList.length (by
            simp only [DataW.weights, Try.underlying22, List.mem_cons, List.mem_append]
            refine .inr (.inl (weights_mem_all (List.mem_map.2 ⟨i, List.mem_range.2 hi, rfl⟩) _ ?_))
            rw [hxy.1]
            simp only [DataW.weights, Try.underlying57]
            refine DataW.weights_mem_each (j := 0) (t := 9) (d := y0.1) rfl rfl _ ?_
            rw [show y0.1 = .lit (.string s0.data.toList) from congrArg Prod.fst ed0]
            simp [DataW.weights])
          have e : s0.data.toList.length = s0.size := by simp
          unfold reachBytes at this
          omega
        obtain ⟨z1, e1, _, w1⟩ := DataW.trod_int Try.underlying3 g1
        simp only [List.cons.injEq, and_true] at e0 e1
        subst e0 e1
        have c0 := hcell 0 (by omega)
        have c1 := hcell 1 (by omega)
        rw [Deep.add_add] at c0 c1
        obtain ⟨b, off, spot⟩ := ad
        have hs : spot = none := by
          obtain ⟨cs0, h10, _⟩ := heach 0 (by omega)
          obtain ⟨_, hcl0, hcell0⟩ := World.cells?_some h10
          have q0 := hcell0 0 (by omega)
          rw [List.getElem?_eq_getElem (by omega)] at q0
          simpa [Addr.add] using World.cell?_spot q0
        subst hs
        rw [add_plain] at c0 c1
        exact ⟨(s0, z1), b, off, rfl, by simpa using c0, by simpa [Nat.add_assoc] using c1, w1, hsz⟩
    obtain ⟨S, hS⟩ := choose_lt (α := ByteArray × Int) each
    have hg : ∀ i, i < len → ((List.range len).map S).getD i (⟨#[]⟩, 0) = S i := fun i hi => by simp [List.getD, hi]
    refine ⟨some ad, (List.range len).map S, cap, by simpa using hcs, ?_, by simpa using hlen, by simpa using hl, fun h => (by cases h), fun t ht => ?_⟩
    · by_cases h0 : len = 0
      · subst h0; exact .inl (by simp)
      · obtain ⟨b, off, rfl, _⟩ := hS 0 (by omega)
        refine .inr ⟨b, off, rfl, fun i hi => ?_⟩
        have hi' : i < len := by simpa using hi
        obtain ⟨b', off', e, r1, r2, _⟩ := hS i hi'
        simp only [Addr.mk.injEq, and_true] at e
        obtain ⟨rfl, rfl⟩ := e
        rw [hg i hi']
        exact ⟨r1, r2⟩
    · obtain ⟨i, hi, rfl⟩ := List.mem_map.1 ht
      obtain ⟨_, _, _, _, _, hwf⟩ := hS i (by simpa using hi)
      exact hwf

set_option maxRecDepth 100000 in
theorem open_prods_in (h : DataW.trod enc Try.prog W 0 (fun _ => true) true fuel 25 cs = some x) (hw : ∀ n ∈ x.1.weights Try.prog 25, n ≤ reachBytes) :
    ∃ (a : Option Addr) (n c : Nat) (L V : Nat → Int) (R : Nat → List Int) (ra : Nat → Option Addr) (rc : Nat → Nat), cs = [.slice a n c] ∧ ProdsAt W a n L R ra rc V ∧ n ≤ 3518437208883 ∧ n ≤ c ∧ (a = none → n = 0 ∧ c = 0) ∧ ∀ i, i < n → (R i).length ≤ rc i ∧ (Lit.int .i64 (L i)).wf = true ∧ (Lit.int .i64 (V i)).wf = true ∧ ∀ z ∈ R i, (Lit.int .i64 z).wf = true := by
  rcases open_slice Try.underlying25 h with ⟨hcs, _⟩ | ⟨ad, len, cap, m, n, D, Pl, hcs, _, hl, hm, hmm, hx, heach⟩
  · exact ⟨none, 0, 0, fun _ => 0, fun _ => 0, fun _ => [], fun _ => none, fun _ => 0, hcs, .inl rfl, by decide, Nat.le_refl _, fun _ => ⟨rfl, rfl⟩, fun i hi => absurd hi (Nat.not_lt_zero i)⟩
  · simp only [if_true] at hmm
    subst hx
    rw [cellsProd] at heach
    have hlen : len ≤ 3518437208883 := by
      have := hw (((List.range len).map D).length * 40 + ((List.range (m - len)).map fun j => D (len + j)).length * 40) (by simp [DataW.weights, Try.underlying25, bytesProd, Nat.add_mul])
      simp only [List.length_map, List.length_range, reachBytes] at this
      omega
    have each : ∀ i, i < len → ∃ t : Int × Int × List Int × Option Addr × Nat, ∃ b off, ad = ⟨b, off, none⟩ ∧ (W.cell? ⟨b, off + i * 3, none⟩ = some (.int .i64 t.1) ∧ W.cell? ⟨b, off + i * 3 + 1, none⟩ = some (.slice t.2.2.2.1 t.2.2.1.length t.2.2.2.2) ∧ W.cell? ⟨b, off + i * 3 + 2, none⟩ = some (.int .i64 t.2.1) ∧ IntsAt W t.2.2.2.1 t.2.2.1 ∧ (t.2.2.2.1 = none → t.2.2.2.2 = 0) ∧ t.2.2.1.length ≤ 17592186044416) ∧
        t.2.2.1.length ≤ t.2.2.2.2 ∧ (Lit.int .i64 t.1).wf = true ∧ (Lit.int .i64 t.2.1).wf = true ∧ ∀ z ∈ t.2.2.1, (Lit.int .i64 z).wf = true := by
      intro i hi
      obtain ⟨cs', h1, h2⟩ := heach i (by omega)
      obtain ⟨_, hcl, hcell⟩ := World.cells?_some h1
      obtain ⟨xs, k, hk, hxy, _, hxl, hfs⟩ := DataW.trod_struct Try.underlying45 h2
      have hDw : ∀ n ∈ (D i).weights Try.prog 45, n ≤ reachBytes := fun q hq => hw q (by
        simp only [DataW.weights, Try.underlying25, List.mem_cons, List.mem_append]
        exact .inr (.inl (weights_mem_all (List.mem_map.2 ⟨i, List.mem_range.2 hi, rfl⟩) q hq)))
      match xs, hxl, cs', hcl with
      | [y0, y1, y2], _, [v0, v1, v2], _ =>
        have g0 := hfs 0 _ rfl
        have g1 := hfs 1 _ rfl
        have g2 := hfs 2 _ rfl
        simp [cellsInt, cellsInts] at g0 g1 g2
        simp only [Prod.mk.injEq] at hxy
        have hw1 : ∀ n ∈ y1.1.weights Try.prog 24, n ≤ reachBytes := fun q hq => hDw q (by
          rw [hxy.1]
          simp only [DataW.weights, Try.underlying45]
          exact DataW.weights_mem_each (j := 1) (t := 24) (d := y1.1) rfl rfl q hq)
        obtain ⟨z0, e0, _, w0⟩ := DataW.trod_int Try.underlying3 g0
        obtain ⟨la, l, lc, e1, hints, hll, hlc, hnil, hwl⟩ := open_ints_in g1 hw1
        obtain ⟨z2, e2, _, w2⟩ := DataW.trod_int Try.underlying3 g2
        simp only [List.cons.injEq, and_true] at e0 e1 e2
        subst e0 e1 e2
        have c0 := hcell 0 (by omega)
        have c1 := hcell 1 (by omega)
        have c2 := hcell 2 (by omega)
        rw [Deep.add_add] at c0 c1 c2
        obtain ⟨b, off, spot⟩ := ad
        have hs : spot = none := by
          obtain ⟨cs0, h10, _⟩ := heach 0 (by omega)
          obtain ⟨_, hcl0, hcell0⟩ := World.cells?_some h10
          have q0 := hcell0 0 (by omega)
          rw [List.getElem?_eq_getElem (by omega)] at q0
          simpa [Addr.add] using World.cell?_spot q0
        subst hs
        rw [add_plain] at c0 c1 c2
        exact ⟨(z0, z2, l, la, lc), b, off, rfl, ⟨by simpa using c0, by simpa [Nat.add_assoc] using c1, by simpa [Nat.add_assoc] using c2, hints, fun h => (hnil h).2, hll⟩, hlc, w0, w2, hwl⟩
    obtain ⟨S, hS⟩ := choose_lt (α := Int × Int × List Int × Option Addr × Nat) each
    refine ⟨some ad, len, cap, fun i => (S i).1, fun i => (S i).2.1, fun i => (S i).2.2.1, fun i => (S i).2.2.2.1, fun i => (S i).2.2.2.2, hcs, ?_, hlen, hl, fun h => (by cases h), fun i hi => ?_⟩
    · by_cases h0 : len = 0
      · exact .inl h0
      · obtain ⟨b, off, rfl, _⟩ := hS 0 (by omega)
        refine .inr ⟨b, off, rfl, fun i hi => ?_⟩
        obtain ⟨b', off', e, r, _⟩ := hS i hi
        simp only [Addr.mk.injEq, and_true] at e
        obtain ⟨rfl, rfl⟩ := e
        exact r
    · obtain ⟨_, _, _, _, r⟩ := hS i hi
      exact r

/-- What else is known of a grammar that came in. -/
structure GIn (ta la : Option Addr) (tc lc : Nat) (ts : List (ByteArray × Int)) (lv : List Int) (n : Nat) (L : Nat → Int) (R : Nat → List Int) (rc : Nat → Nat) (V : Nat → Int) (st : Int) (ns : List ByteArray) : Prop where
  tn : ts.length ≤ 5864062014805
  nn : ns.length ≤ 8796093022208
  pn : n ≤ 3518437208883
  tnil : ta = none → ts.length = 0 ∧ tc = 0
  lnil : la = none → lv.length = 0 ∧ lc = 0
  lcap : lv.length ≤ lc
  rcap : ∀ i, i < n → (R i).length ≤ rc i
  lvl : ∀ t ∈ ts, (Lit.int .i64 t.2).wf = true ∧ t.1.size ≤ 140737488355328
  nsz : ∀ s ∈ ns, s.size ≤ 140737488355328
  lvw : ∀ z ∈ lv, (Lit.int .i64 z).wf = true
  stw : (Lit.int .i64 st).wf = true
  prw : ∀ i, i < n → (Lit.int .i64 (L i)).wf = true ∧ (Lit.int .i64 (V i)).wf = true ∧ ∀ z ∈ R i, (Lit.int .i64 z).wf = true

set_option maxRecDepth 100000 in
theorem open_gram {base : Nat} {v : Value} {d : DataW H} {p : List MemPlace} (hv : Value.okWide Try.prog W .any base 27 v) (h : DataW.Trod enc Try.prog W 0 (fun _ => true) true 27 v d p) (hw : ∀ n ∈ d.weights Try.prog 27, n ≤ reachBytes) :
    ∃ ta na la pa tc nc lc pc ts ns lv n L R ra rc V st, v = .agg #[.slice ta ts.length tc, .slice na ns.length nc, .slice la lv.length lc, .int .i64 st, .slice pa n pc] ∧ GAt W ta na la pa tc nc lc pc ts ns lv n L R ra rc V ∧ GIn ta la tc lc ts lv n L R rc V st ns := by
  obtain ⟨cs, rfl, hsz⟩ := okWide_struct Try.underlying27 hv
  obtain ⟨fuel, hf⟩ := h
  obtain ⟨xs, k, hk, hxy, hcl, hxl, hfs⟩ := DataW.trod_struct Try.underlying27 hf
  rw [cellsGram] at hsz
  obtain ⟨l, rfl⟩ : ∃ l : List Value, cs = l.toArray := ⟨cs.toList, by simp⟩
  simp only [Value.cells] at hfs hcl
  have hl : l.length = 5 := by simpa using hsz
  match xs, hxl, l, hl with
  | [y0, y1, y2, y3, y4], _, [v0, v1, v2, v3, v4], _ =>
    have g0 := hfs 0 _ rfl
    have g1 := hfs 1 _ rfl
    have g2 := hfs 2 _ rfl
    have g3 := hfs 3 _ rfl
    have g4 := hfs 4 _ rfl
    simp [cellsInt, cellsInts, cellsTerms, cellsStrs, cellsProds] at g0 g1 g2 g3 g4
    simp only [Prod.mk.injEq] at hxy
    have hwj : ∀ (j : Nat) (t : TypeId) (y : DataW H × List MemPlace), ((Try.prog.fieldsOf 27).toList.map (·.type))[j]? = some t → ([y0, y1, y2, y3, y4].map (·.1))[j]? = some y.1 → ∀ n ∈ y.1.weights Try.prog t, n ≤ reachBytes := fun j t y h1 h2 q hq => hw q (by
      rw [hxy.1]
      simp only [DataW.weights, Try.underlying27]
      simp only [Program.fieldsOf, Try.underlying27] at h1
      exact DataW.weights_mem_each (j := j) (t := t) (d := y.1) h1 h2 q hq)
    have hw0 := hwj 0 22 y0 (by kernel_rfl) rfl
    have hw1 := hwj 1 23 y1 (by kernel_rfl) rfl
    have hw2 := hwj 2 24 y2 (by kernel_rfl) rfl
    have hw4 := hwj 4 25 y4 (by kernel_rfl) rfl
    obtain ⟨ta, ts, tc, e0, hT, hTl, hTc, hTn, hTw⟩ := open_terms_in g0 hw0
    obtain ⟨na, ns, nc, e1, hN, hNl, hNc, hNn, hNs⟩ := open_strs_in g1 hw1
    obtain ⟨la, lv, lc, e2, hL, hLl, hLc, hLn, hLw⟩ := open_ints_in g2 hw2
    obtain ⟨st, e3, _, w3⟩ := DataW.trod_int Try.underlying3 g3
    obtain ⟨pa, n, pc, L, V, R, ra, rc, e4, hP, hPl, hPc, hPn, hPw⟩ := open_prods_in g4 hw4
    simp only [List.cons.injEq, and_true] at e0 e1 e2 e3 e4
    subst e0 e1 e2 e3 e4
    exact ⟨ta, na, la, pa, tc, nc, lc, pc, ts, ns, lv, n, L, R, ra, rc, V, st, rfl, ⟨hT, hN, hL, hP, hTc, hNc, hPc, hNn, hPn, by omega, by omega, by omega, by omega⟩, hTl, hNl, hPl, hTn, hLn, hLc, fun i hi => (hPw i hi).1, hTw, hNs, hLw, w3, fun i hi => (hPw i hi).2⟩
end

end Go.Proofs.Ytmkimeojcpadpaa
