import Derived.Test.YtkhmhcinepfemaaQdkngbpjlaagm
import Derived.Test.YtkhmhcinepfemaaQldmlliecijje
import Derived.Deep.RegionHeld3
import Derived.Test.YtkhmhcinepfemaaQlhfmolkpbchf

/-
  show's writer: the end of a line, and a symbol.
-/
namespace Go.Proofs.Ytkhmhcinepfemaa
open Go.RowKit Go.Maps Go.Shelf

theorem strs_new {w X : World} {b : Nat} (ps : List ByteArray) (hb : b < w.heap.size) (h : Lib.OthersKept 5 (some b) (w.alloc (.cells (ps.map Value.string).toArray 9)) X) : StrsAt X (some ⟨w.heap.size, 0, none⟩) ps := by
  have hX := h w.heap.size _ (heap_alloc_last w _) (by simp; omega) (by intro c fz; simp)
  refine .inr ⟨w.heap.size, 0, rfl, fun i hi => ?_⟩
  rw [cell_of_row _ _ _ _ _ _ hX]
  simp [List.getD, hi]

theorem WrAt.lt {W0 w : World} {b : Nat} {gv : Value × Value × Value × Value × Value} {bs : List UInt8} {inl : Bool} (h : WrAt W0 w b gv bs inl) : b < w.heap.size := by
  obtain ⟨p, v, _, h⟩ := h
  exact h.lt

def sp (inl : Bool) : List UInt8 := if inl then [32] else []

set_option maxRecDepth 100000 in
theorem end_at {W0 w : World} {b : Nat} {gv : Value × Value × Value × Value × Value} {bs : List UInt8} {inl : Bool} (h : WrAt W0 w b gv bs inl) (hl : bs.length + 3 ≤ 140737488355328) :
    Calls Try.prog 63 #[.pointer (some ⟨b, 0, none⟩)] w fun e w' => e = .returned (.tuple #[]) ∧ WrAt W0 w' b gv (bs ++ sp inl ++ [59, 10]) false ∧ Lib.OthersKept 5 (some b) w w' := by
  have H : Hid (WrAt W0 w b gv bs inl) := h
  clear h
  go_enter Try.func63, Try.ntmps63
  go_wp2_with fail
  refine (word_at _ 1 1 [⟨#[59]⟩] rfl (H.out.kept (World.grownBy_alloc w _ none)) (fun X hX => strs_new [⟨#[59]⟩] H.out.lt hX) (by simp [piecesB]; omega) (by decide)).mono ?_
  rintro e w1 ⟨rfl, hW, hK⟩
  have HW : Hid (WrAt W0 w1 b gv (bs ++ sp inl ++ [59]) true) := hW
  have HK : Hid (Lib.OthersKept 5 (some b) w w1) := ((Lib.OthersKept.refl _ _ w).alloc _).trans hK
  have hlen : (bs ++ sp inl ++ [59]).length + 1 ≤ 140737488355328 := by
    simp only [List.length_append, List.length_singleton, sp]
    split <;> simp <;> omega
  clear hW hK
  go_wp2_with fail
  refine (writeByte_at (10 : UInt8) HW.out hlen).mono ?_
  rintro e w2 ⟨rfl, ⟨p, v, hp, hB⟩, hk⟩
  have c7 := hB.cell 7 _ rfl
  have f7 := hB.free 7
  have HW2 : Hid (WrAt W0 (w2.setCell ⟨b, 7, none⟩ (.bool false)) b gv (bs ++ sp inl ++ [59] ++ [10]) false) := ⟨p, v, hp, hB.setL false⟩
  have HK2 : Hid (Lib.OthersKept 5 (some b) w (w2.setCell ⟨b, 7, none⟩ (.bool false))) := (HK.out.trans hk).setCell ⟨b, 7, none⟩ rfl _
  clear hB hp hk HW HK hlen
  go_wp2_with fail
  go_end0
  exact ⟨rfl, by simpa using HW2.out, HK2.out⟩

/-- The writer's grammar. -/
def gvOf (ta na la pa : Option Addr) (tn nn ln n tc nc lc pc : Nat) (st : Int) : Value × Value × Value × Value × Value := (.slice ta tn tc, .slice na nn nc, .slice la ln lc, .int .i64 st, .slice pa n pc)

theorem WrAt.cells {W0 w : World} {b : Nat} {ta na la pa : Option Addr} {tn nn ln n tc nc lc pc : Nat} {st : Int} {bs : List UInt8} {inl : Bool} (h : WrAt W0 w b (gvOf ta na la pa tn nn ln n tc nc lc pc st) bs inl) :
    w.cell? ⟨b, 2, none⟩ = some (.slice ta tn tc) ∧ w.cell? ⟨b, 3, none⟩ = some (.slice na nn nc) ∧ w.cell? ⟨b, 4, none⟩ = some (.slice la ln lc) ∧ w.cell? ⟨b, 5, none⟩ = some (.int .i64 st) ∧ w.cell? ⟨b, 6, none⟩ = some (.slice pa n pc) ∧ W0.grownBy w none := by
  obtain ⟨p, v, _, h⟩ := h
  exact ⟨h.cell 2 _ rfl, h.cell 3 _ rfl, h.cell 4 _ rfl, h.cell 5 _ rfl, h.cell 6 _ rfl, h.grown⟩

set_option maxRecDepth 100000 in
theorem wnonName_at {W0 w : World} {b : Nat} {ta na la pa : Option Addr} {tn nn ln n tc nc lc pc : Nat} {st : Int} {bs : List UInt8} {inl : Bool} {ns : List ByteArray} (h : WrAt W0 w b (gvOf ta na la pa tn nn ln n tc nc lc pc st) bs inl) (hN : StrsAt W0 na ns) (hnn : ns.length = nn) (k : Nat) (hk : k < nn) (hn : nn ≤ 17592186044416) (i : Int) (hi : i = (tn : Int) + k) :
    Calls Try.prog 64 #[.pointer (some ⟨b, 0, none⟩), .int .i64 i] w fun e w' => e = .returned (.string (ns.getD k ByteArray.empty)) ∧ w.grownBy w' none := by
  obtain ⟨c2, c3, _, _, _, hg⟩ := h.cells
  obtain ⟨nb, no, rfl, hc⟩ : ∃ nb no, na = some ⟨nb, no, none⟩ ∧ ∀ i, i < ns.length → W0.cell? ⟨nb, no + i, none⟩ = some (.string (ns.getD i ByteArray.empty)) := by
    rcases hN with h | h
    · rw [h] at hnn; simp at hnn; omega
    · exact h
  have d0 := hg.cell (hc k (by omega)) (by simp)
  have hd : i - (tn : Int) = (k : Int) := by omega
  have hw : IntKind.i64.wrap (i - (tn : Int)) = (k : Int) := by rw [hd]; simp [IntKind.wrap, IntKind.signed, IntKind.bits]; omega
  obtain ⟨s, hs⟩ : ∃ s, s = ns.getD k ByteArray.empty := ⟨_, rfl⟩
  rw [← hs] at d0 ⊢
  have hk0 : (0 : Int) ≤ (k : Int) := by omega
  have hk1 : (k : Int) < (nn : Int) := by omega
  clear hc hs hN hg h hnn hd hi
  go_enter Try.func64, Try.ntmps64
  go_wp2_with fail
  have HKP : Hid (w.drew.cell? ⟨b, 3, none⟩ = some (.slice (some ⟨nb, no, none⟩) nn nc) ∧ w.drew.cell? ⟨b, 2, none⟩ = some (.slice ta tn tc) ∧ w.drew.cell? ⟨nb, no + k, none⟩ = some (.string s)) := ⟨c3, c2, d0⟩
  go_region_held3 (fun w' => w'.cell? ⟨b, 3, none⟩ = some (.slice (some ⟨nb, no, none⟩) nn nc) ∧ w'.cell? ⟨b, 2, none⟩ = some (.slice ta tn tc) ∧ w'.cell? ⟨nb, no + k, none⟩ = some (.string s)) (first | exact HKP.out | go_keep) (fail)
  go_wp2_with fail
  go_ret
  exact ⟨rfl, grown_drewN w 1⟩

set_option maxRecDepth 100000 in
theorem wisAdded_at {W0 w : World} {b : Nat} {ta na la pa : Option Addr} {tn nn ln n tc nc lc pc : Nat} {st : Int} {bs : List UInt8} {inl : Bool} {ns : List ByteArray} (h : WrAt W0 w b (gvOf ta na la pa tn nn ln n tc nc lc pc st) bs inl) (hN : StrsAt W0 na ns) (hnn : ns.length = nn) (k : Nat) (hk : k < nn) (hn : nn ≤ 17592186044416) (i : Int) (hi : i = (tn : Int) + k) :
    Calls Try.prog 50 #[.pointer (some ⟨b, 0, none⟩), .int .i64 i] w fun e w' => e = .returned (.bool (decide (ns.getD k ByteArray.empty = ⟨#[]⟩))) ∧ w.grownBy w' none := by
  have HC := wnonName_at h hN hnn k hk hn i hi
  obtain ⟨s, hs⟩ : ∃ s, s = ns.getD k ByteArray.empty := ⟨_, rfl⟩
  rw [← hs] at HC ⊢
  clear hs h hN hnn hk hn hi
  go_enter Try.func50, Try.ntmps50
  go_wp2_with fail
  refine HC.mono ?_
  rintro e w1 ⟨rfl, hg⟩
  have HG : Hid (w.grownBy w1 none) := hg
  clear hg
  go_wp2_with fail
  go_ret
  refine ⟨?_, HG.out⟩
  by_cases h0 : s = ⟨#[]⟩
  · subst h0
    simp
  · simp [h0, isEmpty_false h0]

/-- A symbol's text. -/
def symT (ts : List (ByteArray × Int)) (ns : List ByteArray) (k : Nat) : List UInt8 :=
  if k = 0 then [36, 101, 110, 100]
  else if k < ts.length then [39] ++ (ts.getD k (ByteArray.empty, 0)).1.data.toList ++ [39]
  else if ns.getD (k - ts.length) ByteArray.empty = ⟨#[]⟩ then [36, 115, 116, 97, 114, 116]
  else (ns.getD (k - ts.length) ByteArray.empty).data.toList

set_option maxHeartbeats 1000000 in
set_option maxRecDepth 100000 in
theorem symbol_at {W0 w : World} {b : Nat} {ta na la pa : Option Addr} {tn nn ln n tc nc lc pc : Nat} {st : Int} {bs : List UInt8} {inl : Bool} {ts : List (ByteArray × Int)} {ns : List ByteArray} (h : WrAt W0 w b (gvOf ta na la pa tn nn ln n tc nc lc pc st) bs inl) (hT : TermsAt W0 ta ts) (hN : StrsAt W0 na ns) (htn : ts.length = tn) (hnn : ns.length = nn) (k : Nat) (hk : k < tn + nn) (hn : nn ≤ 17592186044416) (hl : bs.length + 1 + (symT ts ns k).length ≤ 140737488355328) :
    Calls Try.prog 52 #[.pointer (some ⟨b, 0, none⟩), .int .i64 k] w fun e w' => e = .returned (.tuple #[]) ∧ WrAt W0 w' b (gvOf ta na la pa tn nn ln n tc nc lc pc st) (bs ++ sp inl ++ symT ts ns k) true ∧ Lib.OthersKept 5 (some b) w w' := by
  have H : Hid (WrAt W0 w b (gvOf ta na la pa tn nn ln n tc nc lc pc st) bs inl) := h
  obtain ⟨c2, c3, _, _, _, hg⟩ := h.cells
  have HG : Hid (W0.grownBy w none) := hg
  have HT : Hid (TermsAt W0 ta ts) := hT
  have HN : Hid (StrsAt W0 na ns) := hN
  have HLT : Hid (ts.length = tn) := htn
  have HLN : Hid (ns.length = nn) := hnn
  have HL : Hid (bs.length + 1 + (symT ts ns k).length ≤ 140737488355328) := hl
  clear h hg hT hN htn hnn hl
  by_cases h0 : k = 0
  · subst h0
    have hl := HL.out
    simp [symT] at hl
    go_enter Try.func52, Try.ntmps52
    go_wp2_with fail
    refine (word_at _ 1 1 [⟨#[36, 101, 110, 100]⟩] rfl (H.out.kept (World.grownBy_alloc w _ none)) (fun X hX => strs_new [⟨#[36, 101, 110, 100]⟩] H.out.lt hX) (by simp [piecesB]; omega) (by decide)).mono ?_
    rintro e w1 ⟨rfl, hW, hK⟩
    have HW : Hid (WrAt W0 w1 b (gvOf ta na la pa tn nn ln n tc nc lc pc st) (bs ++ sp inl ++ symT ts ns 0) true) := hW
    have HK : Hid (Lib.OthersKept 5 (some b) w w1) := ((Lib.OthersKept.refl _ _ w).alloc _).trans hK
    clear hW hK
    go_wp2_with fail
    go_end0
    exact ⟨rfl, HW.out, HK.out⟩
  · by_cases h1 : k < tn
    · obtain ⟨tb, tf, rfl, hc⟩ : ∃ tb tf, ta = some ⟨tb, tf, none⟩ ∧ ∀ i, i < ts.length → W0.cell? ⟨tb, tf + i * 2, none⟩ = some (.string (ts.getD i (ByteArray.empty, 0)).1) ∧ W0.cell? ⟨tb, tf + i * 2 + 1, none⟩ = some (.int .i64 (ts.getD i (ByteArray.empty, 0)).2) := by
        rcases HT.out with h | h
        · have := HLT.out; rw [h] at this; simp at this; omega
        · exact h
      have d0 := HG.out.cell (hc k (by rw [HLT.out]; exact h1)).1 (by simp)
      obtain ⟨s, hs⟩ : ∃ s, s = (ts.getD k (ByteArray.empty, 0)).1 := ⟨_, rfl⟩
      rw [← hs] at d0
      have HE : Hid (symT ts ns k = [39] ++ s.data.toList ++ [39]) := by
        show _ = _
        rw [symT, if_neg h0, if_pos (by rw [HLT.out]; exact h1), hs]
      have hl := HL.out
      rw [HE.out] at hl
      simp only [List.length_append, List.length_singleton] at hl
      clear hc hs
      have hk0 : ¬ (k : Int) = 0 := by omega
      have hk1 : (k : Int) < (tn : Int) := by omega
      have hk2 : (0 : Int) ≤ (k : Int) := by omega
      go_enter Try.func52, Try.ntmps52
      go_wp2_with fail
      refine (word_at _ 3 3 [⟨#[39]⟩, s, ⟨#[39]⟩] rfl (H.out.kept (World.grownBy_alloc w _ none)) (fun X hX => strs_new [⟨#[39]⟩, s, ⟨#[39]⟩] H.out.lt hX) (by simp [piecesB]; simp at hl; omega) (by decide)).mono ?_
      rintro e w1 ⟨rfl, hW, hK⟩
      have HW : Hid (WrAt W0 w1 b (gvOf (some ⟨tb, tf, none⟩) na la pa tn nn ln n tc nc lc pc st) (bs ++ sp inl ++ symT ts ns k) true) := by
        show WrAt _ _ _ _ _ _
        rw [HE.out]
        simpa [piecesB, sp] using hW
      have HK : Hid (Lib.OthersKept 5 (some b) w w1) := ((Lib.OthersKept.refl _ _ w).alloc _).trans hK
      clear hW hK
      go_wp2_with fail
      go_end0
      exact ⟨rfl, HW.out, HK.out⟩
    · obtain ⟨j, hj⟩ : ∃ j, j = k - tn := ⟨_, rfl⟩
      obtain ⟨s, hs⟩ : ∃ s, s = ns.getD j ByteArray.empty := ⟨_, rfl⟩
      have HA := wisAdded_at H.out HN.out HLN.out j (by omega) hn (k : Int) (by omega)
      have HNM : Hid (∀ X, w.grownBy X none → Calls Try.prog 64 #[.pointer (some ⟨b, 0, none⟩), .int .i64 k] X fun e w' => e = .returned (.string s) ∧ X.grownBy w' none) := fun X hX => by
        rw [hs]; exact wnonName_at (H.out.kept hX) HN.out HLN.out j (by omega) hn (k : Int) (by omega)
      rw [← hs] at HA
      have HE : Hid (symT ts ns k = if s = ⟨#[]⟩ then [36, 115, 116, 97, 114, 116] else s.data.toList) := by
        show _ = _
        rw [symT, if_neg h0, if_neg (by rw [HLT.out]; exact h1), HLT.out, ← hj, ← hs]
      have hk0 : ¬ (k : Int) = 0 := by omega
      have hk1 : ¬ (k : Int) < (tn : Int) := by omega
      clear hs hj
      by_cases hz : s = ⟨#[]⟩
      · rw [decide_eq_true hz] at HA
        have hl := HL.out
        rw [HE.out, if_pos hz] at hl
        simp at hl
        go_enter Try.func52, Try.ntmps52
        go_wp2_with fail
        refine HA.mono ?_
        rintro e w1 ⟨rfl, hg1⟩
        have H1 : Hid (WrAt W0 w1 b (gvOf ta na la pa tn nn ln n tc nc lc pc st) bs inl) := H.out.kept hg1
        have HO : Hid (Lib.OthersKept 5 (some b) w w1) := (Lib.OthersKept.refl _ _ w).grown hg1 (fun g h => by cases h)
        clear hg1
        go_wp2_with fail
        refine (word_at _ 1 1 [⟨#[36, 115, 116, 97, 114, 116]⟩] rfl (H1.out.kept (World.grownBy_alloc w1 _ none)) (fun X hX => strs_new [⟨#[36, 115, 116, 97, 114, 116]⟩] H1.out.lt hX) (by simp [piecesB]; omega) (by decide)).mono ?_
        rintro e w2 ⟨rfl, hW, hK⟩
        have HW : Hid (WrAt W0 w2 b (gvOf ta na la pa tn nn ln n tc nc lc pc st) (bs ++ sp inl ++ symT ts ns k) true) := by
          show WrAt _ _ _ _ _ _
          rw [HE.out, if_pos hz]
          simpa [piecesB, sp] using hW
        have HK : Hid (Lib.OthersKept 5 (some b) w w2) := (HO.out.alloc _).trans hK
        clear hW hK
        go_wp2_with fail
        go_end0
        exact ⟨rfl, HW.out, HK.out⟩
      · rw [decide_eq_false hz] at HA
        have hl := HL.out
        rw [HE.out, if_neg hz] at hl
        go_enter Try.func52, Try.ntmps52
        go_wp2_with fail
        refine HA.mono ?_
        rintro e w1 ⟨rfl, hg1⟩
        have HG1 : Hid (w.grownBy w1 none) := hg1
        clear hg1
        go_wp2_with fail
        refine Calls.mono (HNM.out w1 HG1.out) ?_
        rintro e w2 ⟨rfl, hg2⟩
        have H1 : Hid (WrAt W0 w2 b (gvOf ta na la pa tn nn ln n tc nc lc pc st) bs inl) := H.out.kept (grown_trans HG1.out hg2)
        have HO : Hid (Lib.OthersKept 5 (some b) w w2) := (Lib.OthersKept.refl _ _ w).grown (grown_trans HG1.out hg2) (fun g h => by cases h)
        clear hg2
        go_wp2_with fail
        refine (word_at _ 1 1 [s] rfl (H1.out.kept (World.grownBy_alloc w2 _ none)) (fun X hX => strs_new [s] H1.out.lt hX) (by simp [piecesB]; simp at hl; omega) (by decide)).mono ?_
        rintro e w3 ⟨rfl, hW, hK⟩
        have HW : Hid (WrAt W0 w3 b (gvOf ta na la pa tn nn ln n tc nc lc pc st) (bs ++ sp inl ++ symT ts ns k) true) := by
          show WrAt _ _ _ _ _ _
          rw [HE.out, if_neg hz]
          simpa [piecesB, sp] using hW
        have HK : Hid (Lib.OthersKept 5 (some b) w w3) := (HO.out.alloc _).trans hK
        clear hW hK
        go_wp2_with fail
        go_end0
        exact ⟨rfl, HW.out, HK.out⟩

end Go.Proofs.Ytkhmhcinepfemaa

/-
  show's writer: symbols, one behind the other.
-/
namespace Go.Proofs.Ytkhmhcinepfemaa
open Go.RowKit Go.Maps Go.Shelf

def symsT (ts : List (ByteArray × Int)) (ns : List ByteArray) : Bool → List Int → List UInt8
  | _, [] => []
  | inl, z :: r => sp inl ++ symT ts ns z.toNat ++ symsT ts ns true r

theorem symsT_append (ts : List (ByteArray × Int)) (ns : List ByteArray) : ∀ (inl : Bool) (l m : List Int), symsT ts ns inl (l ++ m) = symsT ts ns inl l ++ symsT ts ns (inl || !l.isEmpty) m
  | inl, [], m => by simp [symsT]
  | inl, z :: r, m => by simp [symsT, symsT_append ts ns true r m]
theorem sp_le (inl : Bool) : (sp inl).length ≤ 1 := by cases inl <;> simp [sp]
theorem symsT_le (ts : List (ByteArray × Int)) (ns : List ByteArray) (inl : Bool) (l : List Int) : (symsT ts ns inl l).length ≤ (symsT ts ns true l).length := by
  cases l with
  | nil => simp [symsT]
  | cons z r =>
    have := sp_le inl
    simp only [symsT, List.length_append]
    have : (sp true).length = 1 := rfl
    omega
theorem take_succ_getD {l : List Int} {k : Nat} (h : k < l.length) : l.take (k + 1) = l.take k ++ [l.getD k 0] := by rw [List.take_add_one]; simp [h, List.getD]
theorem symsT_room (ts : List (ByteArray × Int)) (ns : List ByteArray) (inl : Bool) (l : List Int) {k : Nat} (h : k < l.length) : (symsT ts ns inl (l.take k)).length + 1 + (symT ts ns (l.getD k 0).toNat).length ≤ (symsT ts ns true l).length := by
  have e1 : symsT ts ns true l = symsT ts ns true (l.take (k + 1)) ++ symsT ts ns (true || !(l.take (k + 1)).isEmpty) (l.drop (k + 1)) := by rw [← symsT_append, List.take_append_drop]
  rw [take_succ_getD h, symsT_append] at e1
  have h1 := symsT_le ts ns inl (l.take k)
  rw [e1]
  simp only [List.length_append, symsT, Bool.true_or]
  have : (sp true).length = 1 := rfl
  simp only [List.length_nil]
  omega

set_option maxRecDepth 100000 in
theorem symbols_at {W0 w : World} {b : Nat} {ta na la pa : Option Addr} {tn nn ln n tc nc lc pc : Nat} {st : Int} {bs : List UInt8} {inl : Bool} {ts : List (ByteArray × Int)} {ns : List ByteArray} (h : WrAt W0 w b (gvOf ta na la pa tn nn ln n tc nc lc pc st) bs inl) (hT : TermsAt W0 ta ts) (hN : StrsAt W0 na ns) (htn : ts.length = tn) (hnn : ns.length = nn) (hn : nn ≤ 17592186044416)
    (sa : Option Addr) (m cap : Nat) (l : List Int) (hm : l.length = m) (hs : ∀ X, W0.grownBy X none → Lib.OthersKept 5 (some b) w X → IntsAt X sa l) (hok : ∀ i, i < m → 0 ≤ l.getD i 0 ∧ l.getD i 0 < (tn : Int) + nn) (hmm : m ≤ 17592186044416) (hl : bs.length + (symsT ts ns true l).length ≤ 140737488355328) :
    Calls Try.prog 35 #[.pointer (some ⟨b, 0, none⟩), .slice sa m cap] w fun e w' => e = .returned (.tuple #[]) ∧ WrAt W0 w' b (gvOf ta na la pa tn nn ln n tc nc lc pc st) (bs ++ symsT ts ns inl l) (inl || !l.isEmpty) ∧ Lib.OthersKept 5 (some b) w w' := by
  have H : Hid (WrAt W0 w b (gvOf ta na la pa tn nn ln n tc nc lc pc st) bs inl) := h
  have HM : Hid (l.length = m) := hm
  have HS : Hid (∀ X, W0.grownBy X none → Lib.OthersKept 5 (some b) w X → IntsAt X sa l) := hs
  have HC : Hid (∀ X bs' inl' (k : Nat), WrAt W0 X b (gvOf ta na la pa tn nn ln n tc nc lc pc st) bs' inl' → k < tn + nn → bs'.length + 1 + (symT ts ns k).length ≤ 140737488355328 → Calls Try.prog 52 #[.pointer (some ⟨b, 0, none⟩), .int .i64 k] X fun e w' => e = .returned (.tuple #[]) ∧ WrAt W0 w' b (gvOf ta na la pa tn nn ln n tc nc lc pc st) (bs' ++ sp inl' ++ symT ts ns k) true ∧ Lib.OthersKept 5 (some b) X w') := fun X bs' inl' k hX hk hb => symbol_at hX hT hN htn hnn k hk hn hb
  have HL : Hid (bs.length + (symsT ts ns true l).length ≤ 140737488355328) := hl
  have HOK : Hid (∀ i, i < m → 0 ≤ l.getD i 0 ∧ l.getD i 0 < (tn : Int) + nn) := hok
  clear h hT hN htn hnn hm hs hl hok
  go_enter Try.func35, Try.ntmps35
  go_wp2_with fail
  go_loopg [5, 8] m (fun gk v5 i wr => ∃ k : Nat, k ≤ m ∧ gk = m - k ∧ i = .int .i64 k ∧ WrAt W0 wr b (gvOf ta na la pa tn nn ln n tc nc lc pc st) (bs ++ symsT ts ns inl (l.take k)) (inl || !(l.take k).isEmpty) ∧ Lib.OthersKept 5 (some b) w wr)
  case atStart => exact ⟨0, Nat.zero_le _, rfl, rfl, by simpa [symsT] using H.out, Lib.OthersKept.refl _ _ _⟩
  case round =>
    obtain ⟨k, hk, hgk, rfl, hW, hK⟩ := hrel
    have HW2 : Hid (WrAt W0 wr b (gvOf ta na la pa tn nn ln n tc nc lc pc st) (bs ++ symsT ts ns inl (l.take k)) (inl || !(l.take k).isEmpty)) := hW
    have HK2 : Hid (Lib.OthersKept 5 (some b) w wr) := hK
    have HGK : Hid (gk = m - k) := hgk
    clear hW hK hgk H
    by_cases hlt : k < m
    · obtain ⟨sb, so, rfl, hc⟩ : ∃ sb so, sa = some ⟨sb, so, none⟩ ∧ ∀ i, i < l.length → wr.cell? ⟨sb, so + i, none⟩ = some (.int .i64 (l.getD i 0)) := by
        rcases HS.out wr HW2.out.cells.2.2.2.2.2 HK2.out with h | h
        · have h9 := HM.out; rw [h] at h9; simp at h9; omega
        · exact h
      have c0 := hc k (by rw [HM.out]; exact hlt)
      have hok := HOK.out k hlt
      have hroom := symsT_room ts ns inl l (k := k) (by rw [HM.out]; exact hlt)
      obtain ⟨z, hz⟩ : ∃ z : Nat, z = (l.getD k 0).toNat := ⟨_, rfl⟩
      have hzi : l.getD k 0 = (z : Int) := by omega
      rw [← hz] at hroom
      have HT : Hid (symsT ts ns inl (l.take (k + 1)) = symsT ts ns inl (l.take k) ++ sp (inl || !(l.take k).isEmpty) ++ symT ts ns z) := by
        show _ = _
        rw [take_succ_getD (by rw [HM.out]; exact hlt), symsT_append, hzi]
        simp [symsT]
      have HE : Hid ((inl || !(l.take (k + 1)).isEmpty) = true) := by
        show _ = _
        rw [take_succ_getD (by rw [HM.out]; exact hlt)]
        simp
      rw [hzi] at c0 hok
      have HC2 : Hid (Calls Try.prog 52 #[.pointer (some ⟨b, 0, none⟩), .int .i64 z] wr fun e w' => e = .returned (.tuple #[]) ∧ WrAt W0 w' b (gvOf ta na la pa tn nn ln n tc nc lc pc st) (bs ++ symsT ts ns inl (l.take k) ++ sp (inl || !(l.take k).isEmpty) ++ symT ts ns z) true ∧ Lib.OthersKept 5 (some b) wr w') :=
        HC.out wr _ _ z HW2.out (by omega) (by have := HL.out; simp only [List.length_append]; omega)
      clear hc hz hzi hroom hok
      go_wp2_with fail
      refine Calls.mono HC2.out ?_
      rintro e w3 ⟨rfl, hW3, hK3⟩
      have HW3 : Hid (WrAt W0 w3 b (gvOf ta na la pa tn nn ln n tc nc lc pc st) (bs ++ symsT ts ns inl (l.take (k + 1))) (inl || !(l.take (k + 1)).isEmpty)) := by
        show WrAt _ _ _ _ _ _
        rw [HT.out, HE.out]
        simpa using hW3
      have HK3 : Hid (Lib.OthersKept 5 (some b) w w3) := HK2.out.trans hK3
      clear hW3 hK3 HW2 HK2 HC2
      go_wp2_with fail
      go_roundg (m - (k + 1))
      case measure => have := HGK.out; omega
      case rel => exact ⟨k + 1, by omega, rfl, by go_num, HW3.out, HK3.out⟩
    · obtain rfl : m = k := by omega
      go_wp2_with fail
      go_end0
      refine ⟨rfl, ?_, HK2.out⟩
      have := HW2.out
      rwa [List.take_of_length_le (by rw [HM.out]; exact Nat.le_refl _)] at this

end Go.Proofs.Ytkhmhcinepfemaa

/-
  hasAdded of any grammar.
-/
namespace Go.Proofs.Ytkhmhcinepfemaa
open Go.RowKit Go.Maps Go.Shelf

/-- Are the first nonterminal and production 0 the added ones? -/
structure addedOK (ts : List (ByteArray × Int)) (ns : List ByteArray) (st : Int) (n : Nat) (L : Nat → Int) (R : Nat → List Int) (V : Nat → Int) : Prop where
  nn : 0 < ns.length
  name : ns.getD 0 ⟨#[]⟩ = ⟨#[]⟩
  pn : 0 < n
  left : L 0 = ts.length
  right : R 0 = [st]
  level : V 0 = 0

attribute [local go_sem] Oper.semAt_some

set_option maxRecDepth 100000 in
set_option maxHeartbeats 1000000 in
theorem hasAdded_look (bn on bp op : Nat) (ta la ra : Option Addr) (tn nn ln pn tc nc lc pc rc : Nat) (st L0 V0 : Int) (R0 : List Int) (w : World) (hn : w.cell? ⟨bn, on, none⟩ = some (.string ⟨#[]⟩)) (h0 : 0 < nn) (hp : 0 < pn)
    (p0 : w.cell? ⟨bp, op, none⟩ = some (.int .i64 L0)) (p1 : w.cell? ⟨bp, op + 1, none⟩ = some (.slice ra R0.length rc)) (p2 : w.cell? ⟨bp, op + 2, none⟩ = some (.int .i64 V0)) (hR : IntsAt w ra R0) (hRl : R0.length ≤ 17592186044416) (r : Bool) (hr : r = true ↔ (L0 = tn ∧ R0 = [st] ∧ V0 = 0)) :
    Calls Try.prog 62 #[.agg #[.slice ta tn tc, .slice (some ⟨bn, on, none⟩) nn nc, .slice la ln lc, .int .i64 st, .slice (some ⟨bp, op, none⟩) pn pc]] w fun e w' => e = .returned (.bool r) ∧ w.grownBy w' none := by
  have HSP : Hid (∀ W a, w.grownBy W none → IntsAt W a [st] → Calls Try.prog 77 #[.agg #[.int .i64 L0, .slice ra R0.length rc, .int .i64 V0], .agg #[.int .i64 tn, .slice a 1 1, .int .i64 0]] W fun e w' => e = .returned (.bool r) ∧ W.grownBy w' none) := fun W a hg ha =>
    sameProd_any L0 tn V0 0 ra a rc 1 R0 [st] W (hR.kept hg) ha hRl r hr
  have hd : decide (0 < (nn : Int)) = true := decide_eq_true (by omega)
  have hd' : decide (0 < nn) = true := decide_eq_true h0
  have hd2 : decide (0 < (pn : Int)) = true := decide_eq_true (by omega)
  have hd2' : decide (0 < pn) = true := decide_eq_true hp
  obtain ⟨W, hW⟩ : ∃ W, W = w.alloc (.cells #[.slice ta tn tc, .slice (some ⟨bn, on, none⟩) nn nc, .slice la ln lc, .int .i64 st, .slice (some ⟨bp, op, none⟩) pn pc] 27) := ⟨_, rfl⟩
  have HW := show Hid _ from hW
  have hgW : w.grownBy W none := by rw [hW]; exact World.grownBy_alloc w _ none
  have hbox : W.heap[w.heap.size]? = some (.cells #[.slice ta tn tc, .slice (some ⟨bn, on, none⟩) nn nc, .slice la ln lc, .int .i64 st, .slice (some ⟨bp, op, none⟩) pn pc] 27 (0, 0)) := by rw [hW]; exact heap_alloc_last w _
  have HGW := show Hid _ from hgW
  have b0 : W.cell? ⟨w.heap.size, 0, none⟩ = some (.slice ta tn tc) := by rw [cell_of_row _ _ _ _ _ _ hbox]; rfl
  have b1 : W.cell? ⟨w.heap.size, 1, none⟩ = some (.slice (some ⟨bn, on, none⟩) nn nc) := by rw [cell_of_row _ _ _ _ _ _ hbox]; rfl
  have b3 : W.cell? ⟨w.heap.size, 3, none⟩ = some (.int .i64 st) := by rw [cell_of_row _ _ _ _ _ _ hbox]; rfl
  have b4 : W.cell? ⟨w.heap.size, 4, none⟩ = some (.slice (some ⟨bp, op, none⟩) pn pc) := by rw [cell_of_row _ _ _ _ _ _ hbox]; rfl
  have n0 : W.cell? ⟨bn, on, none⟩ = some (.string ⟨#[]⟩) := hgW.cell hn (by simp)
  have q0 : W.cell? ⟨bp, op, none⟩ = some (.int .i64 L0) := hgW.cell p0 (by simp)
  have q1 : W.cell? ⟨bp, op + 1, none⟩ = some (.slice ra R0.length rc) := hgW.cell p1 (by simp)
  have q2 : W.cell? ⟨bp, op + 2, none⟩ = some (.int .i64 V0) := hgW.cell p2 (by simp)
  have hgA : W.grownBy (W.alloc (.cells #[.int .i64 st] 3)).drew none := grown_trans (World.grownBy_alloc W _ none) (grown_drewN _ 1)
  have HKP : Hid (∀ w1, (W.alloc (.cells #[.int .i64 st] 3)).drew.grownBy w1 none → w1.cell? ⟨w.heap.size, 0, none⟩ = some (.slice ta tn tc) ∧ w1.cell? ⟨w.heap.size, 1, none⟩ = some (.slice (some ⟨bn, on, none⟩) nn nc) ∧ w1.cell? ⟨w.heap.size, 3, none⟩ = some (.int .i64 st) ∧ w1.cell? ⟨w.heap.size, 4, none⟩ = some (.slice (some ⟨bp, op, none⟩) pn pc) ∧ w1.cell? ⟨bn, on, none⟩ = some (.string ⟨#[]⟩) ∧ w1.cell? ⟨bp, op, none⟩ = some (.int .i64 L0) ∧ w1.cell? ⟨bp, op + 1, none⟩ = some (.slice ra R0.length rc) ∧ w1.cell? ⟨bp, op + 2, none⟩ = some (.int .i64 V0)) := fun w1 h1 => by
    have hg := grown_trans hgA h1
    exact ⟨hg.cell b0 (by simp), hg.cell b1 (by simp), hg.cell b3 (by simp), hg.cell b4 (by simp), hg.cell n0 (by simp), hg.cell q0 (by simp), hg.cell q1 (by simp), hg.cell q2 (by simp)⟩
  have HC := show Hid _ from HSP.out (W.alloc (.cells #[.int .i64 st] 3)).drew (some ⟨W.heap.size, 0, none⟩) (grown_trans hgW hgA) (.inr ⟨W.heap.size, 0, rfl, fun i hi => by
    have : i = 0 := by simp at hi; omega
    subst this
    show (W.alloc (.cells #[.int .i64 st] 3)).cell? _ = _
    rw [cell_of_row _ _ _ _ _ _ (heap_alloc_last W _)]; rfl⟩)
  have HGA : Hid (w.grownBy (W.alloc (.cells #[.int .i64 st] 3)).drew none) := grown_trans hgW hgA
  clear hn p0 p1 p2 hR hr hW hgW hbox hgA HSP
  go_enter Try.func62, Try.ntmps62
  go_wp2_with fail
  rw [← HW.out]
  generalize w.heap.size = gb at *
  go_region_held3 (fun w' => w'.cell? ⟨gb, 0, none⟩ = some (.slice ta tn tc) ∧ w'.cell? ⟨gb, 1, none⟩ = some (.slice (some ⟨bn, on, none⟩) nn nc) ∧ w'.cell? ⟨gb, 3, none⟩ = some (.int .i64 st) ∧ w'.cell? ⟨gb, 4, none⟩ = some (.slice (some ⟨bp, op, none⟩) pn pc) ∧ w'.cell? ⟨bn, on, none⟩ = some (.string ⟨#[]⟩) ∧ w'.cell? ⟨bp, op, none⟩ = some (.int .i64 L0) ∧ w'.cell? ⟨bp, op + 1, none⟩ = some (.slice ra R0.length rc) ∧ w'.cell? ⟨bp, op + 2, none⟩ = some (.int .i64 V0)) (first | go_keep | exact HKP.out _ hg1) ((go_at_call 77; refine Calls.mono HC.out ?_; rintro e w1 ⟨rfl, hg1⟩))
  all_goals go_wp2_with fail
  all_goals go_ret
  all_goals exact ⟨rfl, grown_trans HGA.out (by first | exact hg1 | exact grown_trans hg1 (grown_drewN _ 1))⟩

set_option maxRecDepth 100000 in
set_option maxHeartbeats 1000000 in
theorem hasAdded_nons (ta na la pa : Option Addr) (tn ln pn tc nc lc pc : Nat) (st : Int) (w : World) :
    Calls Try.prog 62 #[.agg #[.slice ta tn tc, .slice na 0 nc, .slice la ln lc, .int .i64 st, .slice pa pn pc]] w fun e w' => e = .returned (.bool false) ∧ w.grownBy w' none := by
  go_enter Try.func62, Try.ntmps62
  go_wp2_with fail
  go_quiet (fail)
  go_wp2
  go_ret
  exact ⟨by first | rfl | simp, grown_trans (World.grownBy_alloc _ _ none) (grown_drewN _ _)⟩

set_option maxRecDepth 100000 in
set_option maxHeartbeats 1000000 in
theorem hasAdded_prods (bn on : Nat) (ta la pa : Option Addr) (tn nn ln tc nc lc pc : Nat) (st : Int) (w : World) (hn : w.cell? ⟨bn, on, none⟩ = some (.string ⟨#[]⟩)) (h0 : 0 < nn) :
    Calls Try.prog 62 #[.agg #[.slice ta tn tc, .slice (some ⟨bn, on, none⟩) nn nc, .slice la ln lc, .int .i64 st, .slice pa 0 pc]] w fun e w' => e = .returned (.bool false) ∧ w.grownBy w' none := by
  have hc' : ∀ o, (w.alloc o).cell? ⟨bn, on, none⟩ = some (.string ⟨#[]⟩) := fun o => (World.grownBy_alloc w o none).cell hn (by simp)
  have hc2 : ∀ o, (w.alloc o).drew.cell? ⟨bn, on, none⟩ = some (.string ⟨#[]⟩) := fun o => hc' o
  have hd : decide (0 < (nn : Int)) = true := decide_eq_true (by omega)
  have hd' : decide (0 < nn) = true := decide_eq_true h0
  clear hn
  go_enter Try.func62, Try.ntmps62
  go_wp2_with fail
  go_quiet (fail)
  go_wp2
  go_ret
  exact ⟨by first | rfl | simp, grown_trans (World.grownBy_alloc _ _ none) (grown_drewN _ _)⟩

theorem hasAdded_any {w : World} {ta na la pa : Option Addr} {tc nc lc pc : Nat} {ts : List (ByteArray × Int)} {ns : List ByteArray} {lv : List Int} {n : Nat} {L : Nat → Int} {R : Nat → List Int} {ra : Nat → Option Addr} {rc : Nat → Nat} {V : Nat → Int} (st : Int) (hG : GAt w ta na la pa tc nc lc pc ts ns lv n L R ra rc V) (r : Bool) (hr : r = true ↔ addedOK ts ns st n L R V) :
    Calls Try.prog 62 #[.agg #[.slice ta ts.length tc, .slice na ns.length nc, .slice la lv.length lc, .int .i64 st, .slice pa n pc]] w fun e w' => e = .returned (.bool r) ∧ w.grownBy w' none := by
  have no : ¬ addedOK ts ns st n L R V → r = false := fun h => Bool.eq_false_iff.2 fun hh => h (hr.1 hh)
  by_cases h0 : ns.length = 0
  · rw [no (fun h => by have := h.nn; omega), h0]
    exact hasAdded_nons ta na la pa _ _ _ _ _ _ _ st w
  · obtain ⟨bn, on, rfl, hns⟩ : ∃ b off, na = some ⟨b, off, none⟩ ∧ ∀ i, i < ns.length → w.cell? ⟨b, off + i, none⟩ = some (.string (ns.getD i ⟨#[]⟩)) := by
      rcases hG.nons with h | h
      · rw [h] at h0; simp at h0
      · exact h
    have hc := hns 0 (by omega)
    by_cases hs : ns.getD 0 ⟨#[]⟩ = ⟨#[]⟩
    · rw [hs] at hc
      by_cases hp : n = 0
      · subst hp
        rw [no (fun h => by have := h.pn; omega)]
        exact hasAdded_prods bn on ta la pa _ _ _ _ _ _ _ st w hc (by omega)
      · obtain ⟨bp, op, rfl, hps⟩ : ∃ b off, pa = some ⟨b, off, none⟩ ∧ ∀ k, k < n → w.cell? ⟨b, off + k * 3, none⟩ = some (.int .i64 (L k)) ∧ w.cell? ⟨b, off + k * 3 + 1, none⟩ = some (.slice (ra k) (R k).length (rc k)) ∧ w.cell? ⟨b, off + k * 3 + 2, none⟩ = some (.int .i64 (V k)) ∧ IntsAt w (ra k) (R k) ∧ (ra k = none → rc k = 0) ∧ (R k).length ≤ 17592186044416 := by
          rcases hG.prods with h | h
          · exact absurd h hp
          · exact h
        obtain ⟨p0, p1, p2, p3, _, p5⟩ := hps 0 (by omega)
        simp only [Nat.zero_mul, Nat.add_zero] at p0 p1 p2
        refine hasAdded_look bn on bp op ta la (ra 0) ts.length ns.length lv.length n tc nc lc pc (rc 0) st (L 0) (V 0) (R 0) w hc (by omega) (by omega) p0 p1 p2 p3 p5 r ?_
        rw [hr]
        exact ⟨fun h => ⟨h.left, h.right, h.level⟩, fun ⟨h1, h2, h3⟩ => ⟨by omega, hs, by omega, h1, h2, h3⟩⟩
    · rw [no (fun h => hs h.name)]
      refine hasAdded_no bn on ta la pa _ _ _ _ _ _ _ _ st (ns.getD 0 ⟨#[]⟩) w hc (by omega) ?_
      apply Nat.pos_of_ne_zero
      intro hz
      apply hs
      cases hh : ns.getD 0 ⟨#[]⟩ with
      | mk d =>
        rw [hh] at hz
        have : d.size = 0 := hz
        rw [Array.eq_empty_of_size_eq_zero this]

end Go.Proofs.Ytkhmhcinepfemaa
