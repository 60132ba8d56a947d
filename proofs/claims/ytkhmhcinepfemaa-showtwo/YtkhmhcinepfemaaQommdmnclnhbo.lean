import Derived.Test.YtkhmhcinepfemaaQoljnmgciggna
import Derived.Test.YtkhmhcinepfemaaQldmlliecijje
import Derived.Deep.RegionHeld3
import Derived.Test.YtkhmhcinepfemaaQdfgafndcgglo
import Derived.Outline

/-
  show's writer: the end of a line, and a symbol.
-/
namespace Go.Proofs.Ytkhmhcinepfemaa
open Go.RowKit Go.Maps Go.Shelf

theorem strs_new {w X : World} {b : Nat} (ps : List ByteArray) (hb : b < w.heap.size) (h : Lib.OthersKept 5 (some b) (w.alloc (.cells (ps.map Value.string).toArray 9)) X) : StrsAt X (some ⟨w.heap.size, 0, none⟩) ps := by
  have hX := h w.heap.size _ (heap_alloc_last w _) (by simp; omega) (by intro c fz; simp)
  refine .inr ⟨w.heap.size, 0, rfl, fun i hi => ?_⟩
  rw [cell_of_row _ _ _ _ _ _ hX]
  simp [List.getD, hi]

theorem WrAt.lt {W0 w : World} {b : Nat} {gv : Value × Value × Value × Value × Value} {bs : List UInt8} {inl : Bool} (h : WrAt W0 w b gv bs inl) : b < w.heap.size := by
  obtain ⟨p, v, _, h⟩ := h
  exact h.lt

def sp (inl : Bool) : List UInt8 := if inl then [32] else []

set_option maxRecDepth 100000 in
theorem end_at {W0 w : World} {b : Nat} {gv : Value × Value × Value × Value × Value} {bs : List UInt8} {inl : Bool} (h : WrAt W0 w b gv bs inl) (hl : bs.length + 3 ≤ 140737488355328) :
    Calls Try.prog 63 #[.pointer (some ⟨b, 0, none⟩)] w fun e w' => e = .returned (.tuple #[]) ∧ WrAt W0 w' b gv (bs ++ sp inl ++ [59, 10]) false ∧ Lib.OthersKept 5 (some b) w w' := by
  have H : Hid (WrAt W0 w b gv bs inl) := h
  clear h
  go_enter Try.func63, Try.ntmps63
  go_wp2_with fail
  refine (word_at _ 1 1 [⟨#[59]⟩] rfl (H.out.kept (World.grownBy_alloc w _ none)) (fun X hX => strs_new [⟨#[59]⟩] H.out.lt hX) (by simp [piecesB]; omega) (by decide)).mono ?_
  rintro e w1 ⟨rfl, hW, hK⟩
  have HW : Hid (WrAt W0 w1 b gv (bs ++ sp inl ++ [59]) true) := hW
  have HK : Hid (Lib.OthersKept 5 (some b) w w1) := ((Lib.OthersKept.refl _ _ w).alloc _).trans hK
  have hlen : (bs ++ sp inl ++ [59]).length + 1 ≤ 140737488355328 := by
    simp only [List.length_append, List.length_singleton, sp]
    split <;> simp <;> omega
  clear hW hK
  go_wp2_with fail
  refine (writeByte_at (10 : UInt8) HW.out hlen).mono ?_
  rintro e w2 ⟨rfl, ⟨p, v, hp, hB⟩, hk⟩
  have c7 := hB.cell 7 _ rfl
  have f7 := hB.free 7
  have HW2 : Hid (WrAt W0 (w2.setCell ⟨b, 7, none⟩ (.bool false)) b gv (bs ++ sp inl ++ [59] ++ [10]) false) := ⟨p, v, hp, hB.setL false⟩
  have HK2 : Hid (Lib.OthersKept 5 (some b) w (w2.setCell ⟨b, 7, none⟩ (.bool false))) := (HK.out.trans hk).setCell ⟨b, 7, none⟩ rfl _
  clear hB hp hk HW HK hlen
  go_wp2_with fail
  go_end0
  exact ⟨rfl, by simpa using HW2.out, HK2.out⟩

/-- The writer's grammar. -/
def gvOf (ta na la pa : Option Addr) (tn nn ln n tc nc lc pc : Nat) (st : Int) : Value × Value × Value × Value × Value := (.slice ta tn tc, .slice na nn nc, .slice la ln lc, .int .i64 st, .slice pa n pc)

theorem WrAt.cells {W0 w : World} {b : Nat} {ta na la pa : Option Addr} {tn nn ln n tc nc lc pc : Nat} {st : Int} {bs : List UInt8} {inl : Bool} (h : WrAt W0 w b (gvOf ta na la pa tn nn ln n tc nc lc pc st) bs inl) :
    w.cell? ⟨b, 2, none⟩ = some (.slice ta tn tc) ∧ w.cell? ⟨b, 3, none⟩ = some (.slice na nn nc) ∧ w.cell? ⟨b, 4, none⟩ = some (.slice la ln lc) ∧ w.cell? ⟨b, 5, none⟩ = some (.int .i64 st) ∧ w.cell? ⟨b, 6, none⟩ = some (.slice pa n pc) ∧ W0.grownBy w none := by
  obtain ⟨p, v, _, h⟩ := h
  exact ⟨h.cell 2 _ rfl, h.cell 3 _ rfl, h.cell 4 _ rfl, h.cell 5 _ rfl, h.cell 6 _ rfl, h.grown⟩

set_option maxRecDepth 100000 in
theorem wnonName_at {W0 w : World} {b : Nat} {ta na la pa : Option Addr} {tn nn ln n tc nc lc pc : Nat} {st : Int} {bs : List UInt8} {inl : Bool} {ns : List ByteArray} (h : WrAt W0 w b (gvOf ta na la pa tn nn ln n tc nc lc pc st) bs inl) (hN : StrsAt W0 na ns) (hnn : ns.length = nn) (k : Nat) (hk : k < nn) (hn : nn ≤ 17592186044416) (i : Int) (hi : i = (tn : Int) + k) :
    Calls Try.prog 64 #[.pointer (some ⟨b, 0, none⟩), .int .i64 i] w fun e w' => e = .returned (.string (ns.getD k ByteArray.empty)) ∧ w.grownBy w' none := by
  obtain ⟨c2, c3, _, _, _, hg⟩ := h.cells
  obtain ⟨nb, no, rfl, hc⟩ : ∃ nb no, na = some ⟨nb, no, none⟩ ∧ ∀ i, i < ns.length → W0.cell? ⟨nb, no + i, none⟩ = some (.string (ns.getD i ByteArray.empty)) := by
    rcases hN with h | h
    · rw [h] at hnn; simp at hnn; omega
    · exact h
  have d0 := hg.cell (hc k (by omega)) (by simp)
  have hd : i - (tn : Int) = (k : Int) := by omega
  have hw : IntKind.i64.wrap (i - (tn : Int)) = (k : Int) := by rw [hd]; simp [IntKind.wrap, IntKind.signed, IntKind.bits]; omega
  obtain ⟨s, hs⟩ : ∃ s, s = ns.getD k ByteArray.empty := ⟨_, rfl⟩
  rw [← hs] at d0 ⊢
  have hk0 : (0 : Int) ≤ (k : Int) := by omega
  have hk1 : (k : Int) < (nn : Int) := by omega
  clear hc hs hN hg h hnn hd hi
  go_enter Try.func64, Try.ntmps64
  go_wp2_with fail
  have HKP : Hid (w.drew.cell? ⟨b, 3, none⟩ = some (.slice (some ⟨nb, no, none⟩) nn nc) ∧ w.drew.cell? ⟨b, 2, none⟩ = some (.slice ta tn tc) ∧ w.drew.cell? ⟨nb, no + k, none⟩ = some (.string s)) := ⟨c3, c2, d0⟩
  go_region_held3 (fun w' => w'.cell? ⟨b, 3, none⟩ = some (.slice (some ⟨nb, no, none⟩) nn nc) ∧ w'.cell? ⟨b, 2, none⟩ = some (.slice ta tn tc) ∧ w'.cell? ⟨nb, no + k, none⟩ = some (.string s)) (first | exact HKP.out | go_keep) (fail)
  go_wp2_with fail
  go_ret
  exact ⟨rfl, grown_drewN w 1⟩

set_option maxRecDepth 100000 in
theorem wisAdded_at {W0 w : World} {b : Nat} {ta na la pa : Option Addr} {tn nn ln n tc nc lc pc : Nat} {st : Int} {bs : List UInt8} {inl : Bool} {ns : List ByteArray} (h : WrAt W0 w b (gvOf ta na la pa tn nn ln n tc nc lc pc st) bs inl) (hN : StrsAt W0 na ns) (hnn : ns.length = nn) (k : Nat) (hk : k < nn) (hn : nn ≤ 17592186044416) (i : Int) (hi : i = (tn : Int) + k) :
    Calls Try.prog 50 #[.pointer (some ⟨b, 0, none⟩), .int .i64 i] w fun e w' => e = .returned (.bool (decide (ns.getD k ByteArray.empty = ⟨#[]⟩))) ∧ w.grownBy w' none := by
  have HC := wnonName_at h hN hnn k hk hn i hi
  obtain ⟨s, hs⟩ : ∃ s, s = ns.getD k ByteArray.empty := ⟨_, rfl⟩
  rw [← hs] at HC ⊢
  clear hs h hN hnn hk hn hi
  go_enter Try.func50, Try.ntmps50
  go_wp2_with fail
  refine HC.mono ?_
  rintro e w1 ⟨rfl, hg⟩
  have HG : Hid (w.grownBy w1 none) := hg
  clear hg
  go_wp2_with fail
  go_ret
  refine ⟨?_, HG.out⟩
  by_cases h0 : s = ⟨#[]⟩
  · subst h0
    simp
  · simp [h0, isEmpty_false h0]

/-- A symbol's text. -/
def symT (ts : List (ByteArray × Int)) (ns : List ByteArray) (k : Nat) : List UInt8 :=
  if k = 0 then [36, 101, 110, 100]
  else if k < ts.length then [39] ++ (ts.getD k (ByteArray.empty, 0)).1.data.toList ++ [39]
  else if ns.getD (k - ts.length) ByteArray.empty = ⟨#[]⟩ then [36, 115, 116, 97, 114, 116]
  else (ns.getD (k - ts.length) ByteArray.empty).data.toList

set_option maxHeartbeats 1000000 in
set_option maxRecDepth 100000 in
theorem symbol_at {W0 w : World} {b : Nat} {ta na la pa : Option Addr} {tn nn ln n tc nc lc pc : Nat} {st : Int} {bs : List UInt8} {inl : Bool} {ts : List (ByteArray × Int)} {ns : List ByteArray} (h : WrAt W0 w b (gvOf ta na la pa tn nn ln n tc nc lc pc st) bs inl) (hT : TermsAt W0 ta ts) (hN : StrsAt W0 na ns) (htn : ts.length = tn) (hnn : ns.length = nn) (k : Nat) (hk : k < tn + nn) (hn : nn ≤ 17592186044416) (hl : bs.length + 1 + (symT ts ns k).length ≤ 140737488355328) :
    Calls Try.prog 52 #[.pointer (some ⟨b, 0, none⟩), .int .i64 k] w fun e w' => e = .returned (.tuple #[]) ∧ WrAt W0 w' b (gvOf ta na la pa tn nn ln n tc nc lc pc st) (bs ++ sp inl ++ symT ts ns k) true ∧ Lib.OthersKept 5 (some b) w w' := by
  have H : Hid (WrAt W0 w b (gvOf ta na la pa tn nn ln n tc nc lc pc st) bs inl) := h
  obtain ⟨c2, c3, _, _, _, hg⟩ := h.cells
  have HG : Hid (W0.grownBy w none) := hg
  have HT : Hid (TermsAt W0 ta ts) := hT
  have HN : Hid (StrsAt W0 na ns) := hN
  have HLT : Hid (ts.length = tn) := htn
  have HLN : Hid (ns.length = nn) := hnn
  have HL : Hid (bs.length + 1 + (symT ts ns k).length ≤ 140737488355328) := hl
  clear h hg hT hN htn hnn hl
  by_cases h0 : k = 0
  · subst h0
    have hl := HL.out
    simp [symT] at hl
    go_enter Try.func52, Try.ntmps52
    go_wp2_with fail
    refine (word_at _ 1 1 [⟨#[36, 101, 110, 100]⟩] rfl (H.out.kept (World.grownBy_alloc w _ none)) (fun X hX => strs_new [⟨#[36, 101, 110, 100]⟩] H.out.lt hX) (by simp [piecesB]; omega) (by decide)).mono ?_
    rintro e w1 ⟨rfl, hW, hK⟩
    have HW : Hid (WrAt W0 w1 b (gvOf ta na la pa tn nn ln n tc nc lc pc st) (bs ++ sp inl ++ symT ts ns 0) true) := hW
    have HK : Hid (Lib.OthersKept 5 (some b) w w1) := ((Lib.OthersKept.refl _ _ w).alloc _).trans hK
    clear hW hK
    go_wp2_with fail
    go_end0
    exact ⟨rfl, HW.out, HK.out⟩
  · by_cases h1 : k < tn
    · obtain ⟨tb, tf, rfl, hc⟩ : ∃ tb tf, ta = some ⟨tb, tf, none⟩ ∧ ∀ i, i < ts.length → W0.cell? ⟨tb, tf + i * 2, none⟩ = some (.string (ts.getD i (ByteArray.empty, 0)).1) ∧ W0.cell? ⟨tb, tf + i * 2 + 1, none⟩ = some (.int .i64 (ts.getD i (ByteArray.empty, 0)).2) := by
        rcases HT.out with h | h
        · have := HLT.out; rw [h] at this; simp at this; omega
        · exact h
      have d0 := HG.out.cell (hc k (by rw [HLT.out]; exact h1)).1 (by simp)
      obtain ⟨s, hs⟩ : ∃ s, s = (ts.getD k (ByteArray.empty, 0)).1 := ⟨_, rfl⟩
      rw [← hs] at d0
      have HE : Hid (symT ts ns k = [39] ++ s.data.toList ++ [39]) := by
        show _ = _
        rw [symT, if_neg h0, if_pos (by rw [HLT.out]; exact h1), hs]
      have hl := HL.out
      rw [HE.out] at hl
      simp only [List.length_append, List.length_singleton] at hl
      clear hc hs
      have hk0 : ¬ (k : Int) = 0 := by omega
      have hk1 : (k : Int) < (tn : Int) := by omega
      have hk2 : (0 : Int) ≤ (k : Int) := by omega
      go_enter Try.func52, Try.ntmps52
      go_wp2_with fail
      refine (word_at _ 3 3 [⟨#[39]⟩, s, ⟨#[39]⟩] rfl (H.out.kept (World.grownBy_alloc w _ none)) (fun X hX => strs_new [⟨#[39]⟩, s, ⟨#[39]⟩] H.out.lt hX) (by simp [piecesB]; simp at hl; omega) (by decide)).mono ?_
      rintro e w1 ⟨rfl, hW, hK⟩
      have HW : Hid (WrAt W0 w1 b (gvOf (some ⟨tb, tf, none⟩) na la pa tn nn ln n tc nc lc pc st) (bs ++ sp inl ++ symT ts ns k) true) := by
        show WrAt _ _ _ _ _ _
        rw [HE.out]
        simpa [piecesB, sp] using hW
      have HK : Hid (Lib.OthersKept 5 (some b) w w1) := ((Lib.OthersKept.refl _ _ w).alloc _).trans hK
      clear hW hK
      go_wp2_with fail
      go_end0
      exact ⟨rfl, HW.out, HK.out⟩
    · obtain ⟨j, hj⟩ : ∃ j, j = k - tn := ⟨_, rfl⟩
      obtain ⟨s, hs⟩ : ∃ s, s = ns.getD j ByteArray.empty := ⟨_, rfl⟩
      have HA := wisAdded_at H.out HN.out HLN.out j (by omega) hn (k : Int) (by omega)
      have HNM : Hid (∀ X, w.grownBy X none → Calls Try.prog 64 #[.pointer (some ⟨b, 0, none⟩), .int .i64 k] X fun e w' => e = .returned (.string s) ∧ X.grownBy w' none) := fun X hX => by
        rw [hs]; exact wnonName_at (H.out.kept hX) HN.out HLN.out j (by omega) hn (k : Int) (by omega)
      rw [← hs] at HA
      have HE : Hid (symT ts ns k = if s = ⟨#[]⟩ then [36, 115, 116, 97, 114, 116] else s.data.toList) := by
        show _ = _
        rw [symT, if_neg h0, if_neg (by rw [HLT.out]; exact h1), HLT.out, ← hj, ← hs]
      have hk0 : ¬ (k : Int) = 0 := by omega
      have hk1 : ¬ (k : Int) < (tn : Int) := by omega
      clear hs hj
      by_cases hz : s = ⟨#[]⟩
      · rw [decide_eq_true hz] at HA
        have hl := HL.out
        rw [HE.out, if_pos hz] at hl
        simp at hl
        go_enter Try.func52, Try.ntmps52
        go_wp2_with fail
        refine HA.mono ?_
        rintro e w1 ⟨rfl, hg1⟩
        have H1 : Hid (WrAt W0 w1 b (gvOf ta na la pa tn nn ln n tc nc lc pc st) bs inl) := H.out.kept hg1
        have HO : Hid (Lib.OthersKept 5 (some b) w w1) := (Lib.OthersKept.refl _ _ w).grown hg1 (fun g h => by cases h)
        clear hg1
        go_wp2_with fail
        refine (word_at _ 1 1 [⟨#[36, 115, 116, 97, 114, 116]⟩] rfl (H1.out.kept (World.grownBy_alloc w1 _ none)) (fun X hX => strs_new [⟨#[36, 115, 116, 97, 114, 116]⟩] H1.out.lt hX) (by simp [piecesB]; omega) (by decide)).mono ?_
        rintro e w2 ⟨rfl, hW, hK⟩
        have HW : Hid (WrAt W0 w2 b (gvOf ta na la pa tn nn ln n tc nc lc pc st) (bs ++ sp inl ++ symT ts ns k) true) := by
          show WrAt _ _ _ _ _ _
          rw [HE.out, if_pos hz]
          simpa [piecesB, sp] using hW
        have HK : Hid (Lib.OthersKept 5 (some b) w w2) := (HO.out.alloc _).trans hK
        clear hW hK
        go_wp2_with fail
        go_end0
        exact ⟨rfl, HW.out, HK.out⟩
      · rw [decide_eq_false hz] at HA
        have hl := HL.out
        rw [HE.out, if_neg hz] at hl
        go_enter Try.func52, Try.ntmps52
        go_wp2_with fail
        refine HA.mono ?_
        rintro e w1 ⟨rfl, hg1⟩
        have HG1 : Hid (w.grownBy w1 none) := hg1
        clear hg1
        go_wp2_with fail
        refine Calls.mono (HNM.out w1 HG1.out) ?_
        rintro e w2 ⟨rfl, hg2⟩
        have H1 : Hid (WrAt W0 w2 b (gvOf ta na la pa tn nn ln n tc nc lc pc st) bs inl) := H.out.kept (grown_trans HG1.out hg2)
        have HO : Hid (Lib.OthersKept 5 (some b) w w2) := (Lib.OthersKept.refl _ _ w).grown (grown_trans HG1.out hg2) (fun g h => by cases h)
        clear hg2
        go_wp2_with fail
        refine (word_at _ 1 1 [s] rfl (H1.out.kept (World.grownBy_alloc w2 _ none)) (fun X hX => strs_new [s] H1.out.lt hX) (by simp [piecesB]; simp at hl; omega) (by decide)).mono ?_
        rintro e w3 ⟨rfl, hW, hK⟩
        have HW : Hid (WrAt W0 w3 b (gvOf ta na la pa tn nn ln n tc nc lc pc st) (bs ++ sp inl ++ symT ts ns k) true) := by
          show WrAt _ _ _ _ _ _
          rw [HE.out, if_neg hz]
          simpa [piecesB, sp] using hW
        have HK : Hid (Lib.OthersKept 5 (some b) w w3) := (HO.out.alloc _).trans hK
        clear hW hK
        go_wp2_with fail
        go_end0
        exact ⟨rfl, HW.out, HK.out⟩

end Go.Proofs.Ytkhmhcinepfemaa

/-
  show's writer: symbols, one behind the other.
-/
namespace Go.Proofs.Ytkhmhcinepfemaa
open Go.RowKit Go.Maps Go.Shelf

def symsT (ts : List (ByteArray × Int)) (ns : List ByteArray) : Bool → List Int → List UInt8
  | _, [] => []
  | inl, z :: r => sp inl ++ symT ts ns z.toNat ++ symsT ts ns true r

theorem symsT_append (ts : List (ByteArray × Int)) (ns : List ByteArray) : ∀ (inl : Bool) (l m : List Int), symsT ts ns inl (l ++ m) = symsT ts ns inl l ++ symsT ts ns (inl || !l.isEmpty) m
  | inl, [], m => by simp [symsT]
  | inl, z :: r, m => by simp [symsT, symsT_append ts ns true r m]
theorem sp_le (inl : Bool) : (sp inl).length ≤ 1 := by cases inl <;> simp [sp]
theorem symsT_le (ts : List (ByteArray × Int)) (ns : List ByteArray) (inl : Bool) (l : List Int) : (symsT ts ns inl l).length ≤ (symsT ts ns true l).length := by
  cases l with
  | nil => simp [symsT]
  | cons z r =>
    have := sp_le inl
    simp only [symsT, List.length_append]
    have : (sp true).length = 1 := rfl
    omega
theorem take_succ_getD {l : List Int} {k : Nat} (h : k < l.length) : l.take (k + 1) = l.take k ++ [l.getD k 0] := by rw [List.take_add_one]; simp [h, List.getD]
theorem symsT_room (ts : List (ByteArray × Int)) (ns : List ByteArray) (inl : Bool) (l : List Int) {k : Nat} (h : k < l.length) : (symsT ts ns inl (l.take k)).length + 1 + (symT ts ns (l.getD k 0).toNat).length ≤ (symsT ts ns true l).length := by
  have e1 : symsT ts ns true l = symsT ts ns true (l.take (k + 1)) ++ symsT ts ns (true || !(l.take (k + 1)).isEmpty) (l.drop (k + 1)) := by rw [← symsT_append, List.take_append_drop]
  rw [take_succ_getD h, symsT_append] at e1
  have h1 := symsT_le ts ns inl (l.take k)
  rw [e1]
  simp only [List.length_append, symsT, Bool.true_or]
  have : (sp true).length = 1 := rfl
  simp only [List.length_nil]
  omega

set_option maxRecDepth 100000 in
theorem symbols_at {W0 w : World} {b : Nat} {ta na la pa : Option Addr} {tn nn ln n tc nc lc pc : Nat} {st : Int} {bs : List UInt8} {inl : Bool} {ts : List (ByteArray × Int)} {ns : List ByteArray} (h : WrAt W0 w b (gvOf ta na la pa tn nn ln n tc nc lc pc st) bs inl) (hT : TermsAt W0 ta ts) (hN : StrsAt W0 na ns) (htn : ts.length = tn) (hnn : ns.length = nn) (hn : nn ≤ 17592186044416)
    (sa : Option Addr) (m cap : Nat) (l : List Int) (hm : l.length = m) (hs : ∀ X, W0.grownBy X none → Lib.OthersKept 5 (some b) w X → IntsAt X sa l) (hok : ∀ i, i < m → 0 ≤ l.getD i 0 ∧ l.getD i 0 < (tn : Int) + nn) (hmm : m ≤ 17592186044416) (hl : bs.length + (symsT ts ns true l).length ≤ 140737488355328) :
    Calls Try.prog 35 #[.pointer (some ⟨b, 0, none⟩), .slice sa m cap] w fun e w' => e = .returned (.tuple #[]) ∧ WrAt W0 w' b (gvOf ta na la pa tn nn ln n tc nc lc pc st) (bs ++ symsT ts ns inl l) (inl || !l.isEmpty) ∧ Lib.OthersKept 5 (some b) w w' := by
  have H : Hid (WrAt W0 w b (gvOf ta na la pa tn nn ln n tc nc lc pc st) bs inl) := h
  have HM : Hid (l.length = m) := hm
  have HS : Hid (∀ X, W0.grownBy X none → Lib.OthersKept 5 (some b) w X → IntsAt X sa l) := hs
  have HC : Hid (∀ X bs' inl' (k : Nat), WrAt W0 X b (gvOf ta na la pa tn nn ln n tc nc lc pc st) bs' inl' → k < tn + nn → bs'.length + 1 + (symT ts ns k).length ≤ 140737488355328 → Calls Try.prog 52 #[.pointer (some ⟨b, 0, none⟩), .int .i64 k] X fun e w' => e = .returned (.tuple #[]) ∧ WrAt W0 w' b (gvOf ta na la pa tn nn ln n tc nc lc pc st) (bs' ++ sp inl' ++ symT ts ns k) true ∧ Lib.OthersKept 5 (some b) X w') := fun X bs' inl' k hX hk hb => symbol_at hX hT hN htn hnn k hk hn hb
  have HL : Hid (bs.length + (symsT ts ns true l).length ≤ 140737488355328) := hl
  have HOK : Hid (∀ i, i < m → 0 ≤ l.getD i 0 ∧ l.getD i 0 < (tn : Int) + nn) := hok
  clear h hT hN htn hnn hm hs hl hok
  go_enter Try.func35, Try.ntmps35
  go_wp2_with fail
  go_loopg [5, 8] m (fun gk v5 i wr => ∃ k : Nat, k ≤ m ∧ gk = m - k ∧ i = .int .i64 k ∧ WrAt W0 wr b (gvOf ta na la pa tn nn ln n tc nc lc pc st) (bs ++ symsT ts ns inl (l.take k)) (inl || !(l.take k).isEmpty) ∧ Lib.OthersKept 5 (some b) w wr)
  case atStart => exact ⟨0, Nat.zero_le _, rfl, rfl, by simpa [symsT] using H.out, Lib.OthersKept.refl _ _ _⟩
  case round =>
    obtain ⟨k, hk, hgk, rfl, hW, hK⟩ := hrel
    have HW2 : Hid (WrAt W0 wr b (gvOf ta na la pa tn nn ln n tc nc lc pc st) (bs ++ symsT ts ns inl (l.take k)) (inl || !(l.take k).isEmpty)) := hW
    have HK2 : Hid (Lib.OthersKept 5 (some b) w wr) := hK
    have HGK : Hid (gk = m - k) := hgk
    clear hW hK hgk H
    by_cases hlt : k < m
    · obtain ⟨sb, so, rfl, hc⟩ : ∃ sb so, sa = some ⟨sb, so, none⟩ ∧ ∀ i, i < l.length → wr.cell? ⟨sb, so + i, none⟩ = some (.int .i64 (l.getD i 0)) := by
        rcases HS.out wr HW2.out.cells.2.2.2.2.2 HK2.out with h | h
        · have h9 := HM.out; rw [h] at h9; simp at h9; omega
        · exact h
      have c0 := hc k (by rw [HM.out]; exact hlt)
      have hok := HOK.out k hlt
      have hroom := symsT_room ts ns inl l (k := k) (by rw [HM.out]; exact hlt)
      obtain ⟨z, hz⟩ : ∃ z : Nat, z = (l.getD k 0).toNat := ⟨_, rfl⟩
      have hzi : l.getD k 0 = (z : Int) := by omega
      rw [← hz] at hroom
      have HT : Hid (symsT ts ns inl (l.take (k + 1)) = symsT ts ns inl (l.take k) ++ sp (inl || !(l.take k).isEmpty) ++ symT ts ns z) := by
        show _ = _
        rw [take_succ_getD (by rw [HM.out]; exact hlt), symsT_append, hzi]
        simp [symsT]
      have HE : Hid ((inl || !(l.take (k + 1)).isEmpty) = true) := by
        show _ = _
        rw [take_succ_getD (by rw [HM.out]; exact hlt)]
        simp
      rw [hzi] at c0 hok
      have HC2 : Hid (Calls Try.prog 52 #[.pointer (some ⟨b, 0, none⟩), .int .i64 z] wr fun e w' => e = .returned (.tuple #[]) ∧ WrAt W0 w' b (gvOf ta na la pa tn nn ln n tc nc lc pc st) (bs ++ symsT ts ns inl (l.take k) ++ sp (inl || !(l.take k).isEmpty) ++ symT ts ns z) true ∧ Lib.OthersKept 5 (some b) wr w') :=
        HC.out wr _ _ z HW2.out (by omega) (by have := HL.out; simp only [List.length_append]; omega)
      clear hc hz hzi hroom hok
      go_wp2_with fail
      refine Calls.mono HC2.out ?_
      rintro e w3 ⟨rfl, hW3, hK3⟩
      have HW3 : Hid (WrAt W0 w3 b (gvOf ta na la pa tn nn ln n tc nc lc pc st) (bs ++ symsT ts ns inl (l.take (k + 1))) (inl || !(l.take (k + 1)).isEmpty)) := by
        show WrAt _ _ _ _ _ _
        rw [HT.out, HE.out]
        simpa using hW3
      have HK3 : Hid (Lib.OthersKept 5 (some b) w w3) := HK2.out.trans hK3
      clear hW3 hK3 HW2 HK2 HC2
      go_wp2_with fail
      go_roundg (m - (k + 1))
      case measure => have := HGK.out; omega
      case rel => exact ⟨k + 1, by omega, rfl, by go_num, HW3.out, HK3.out⟩
    · obtain rfl : m = k := by omega
      go_wp2_with fail
      go_end0
      refine ⟨rfl, ?_, HK2.out⟩
      have := HW2.out
      rwa [List.take_of_length_le (by rw [HM.out]; exact Nat.le_refl _)] at this

end Go.Proofs.Ytkhmhcinepfemaa

/-
  Grammar of a builder, walked.
-/
namespace Go.Proofs.Ytkhmhcinepfemaa
open Go.RowKit Go.Maps Go.Shelf

attribute [local go_sem] Oper.semAt_some

/-- The zero grammar's cells. -/
def zeroGC : Array Value := #[.slice none 0 0, .slice none 0 0, .slice none 0 0, .int .i64 0, .slice none 0 0]

theorem grown_setRow (w : World) (g : Nat) (cs : Array Value) : w.grownBy (w.setRow g cs) (some g) := by
  refine ⟨rfl, rfl, rfl, ?_, fun k hk hne => ?_⟩
  · unfold World.setRow; simp
  · have hne' : g ≠ k := fun e => hne (by rw [e])
    unfold World.setRow
    simp [Array.getElem?_modify, hne']

theorem set5_heap {w : World} {g : Nat} {t : TypeId} {a0 a1 a2 a3 a4 : Value} (h : w.heap[g]? = some (.cells #[a0, a1, a2, a3, a4] t (0, 0))) (v0 v1 v2 v3 v4 : Value) :
    (((((w.setCell ⟨g, 0, none⟩ v0).setCell ⟨g, 1, none⟩ v1).setCell ⟨g, 2, none⟩ v2).setCell ⟨g, 3, none⟩ v3).setCell ⟨g, 4, none⟩ v4).heap[g]? = some (.cells #[v0, v1, v2, v3, v4] t (0, 0)) := by
  have h0 := heap_setCell_same w g 0 _ _ v0 h
  have h1 := heap_setCell_same _ g 1 _ _ v1 h0
  have h2 := heap_setCell_same _ g 2 _ _ v2 h1
  have h3 := heap_setCell_same _ g 3 _ _ v3 h2
  exact heap_setCell_same _ g 4 _ _ v4 h3
theorem set5_grown (w : World) (g : Nat) (v0 v1 v2 v3 v4 : Value) :
    w.grownBy (((((w.setCell ⟨g, 0, none⟩ v0).setCell ⟨g, 1, none⟩ v1).setCell ⟨g, 2, none⟩ v2).setCell ⟨g, 3, none⟩ v3).setCell ⟨g, 4, none⟩ v4) (some g) :=
  grown_trans (grown_trans (grown_trans (grown_trans (grown_setCell _ _ _) (grown_setCell _ _ _)) (grown_setCell _ _ _)) (grown_setCell _ _ _)) (grown_setCell _ _ _)

theorem step_store_row {ops : Array Oper} {o : Oper} {a : Act} {w : World} {K : Act → World → Prop} {Q : Exit → Act → World → Prop} {E : Prop} (hgd : o.guard = none) (ty : TypeId) (x y : Operand) (ho : o.op = .store ty x y)
    (g : Nat) (cells : Array Value) (hx : a.eval x = .pointer (some ⟨g, 0, none⟩)) (hy : a.eval y = .agg cells)
    (t : TypeId) (old : Array Value) (hg : w.heap[g]? = some (.cells old t (0, 0))) (hi : (Try.prog.info? ty).map (·.size) = some cells.size)
    (hold : old.size = cells.size) (h1 : cells.all (·.oneCell') = true) (h : K (a.put o.dst undef) (w.setRow g cells)) :
    if Region.wanted o (yielded ops a.tmps) = true then Oper.wp Try.prog o a w K Q else E := by
  have hw : Region.wanted o (yielded ops a.tmps) = true := by simp [Region.wanted, hgd]
  rw [if_pos hw]
  exact wp_store_row ty x y ho g cells hx hy t old hg hi hold h1 h

end Go.Proofs.Ytkhmhcinepfemaa

/-
  Grammar of a builder, where there is one to tell.
-/
namespace Go.Proofs.Ytkhmhcinepfemaa
open Go.RowKit Go.Maps Go.Shelf

attribute [local go_sem] Oper.semAt_some

theorem keepR {W W' : World} {B e s n : Nat} {v : Value} {xs : List Value} (h : W.ownsRow B e s v n xs) (hg : W.grownBy W' none) : Hid (W'.ownsRow B e s v n xs) := h.kept hg (by cases hv : v.ownBlock <;> simp)
theorem owns_hid {W : World} {B B' e s n : Nat} {v : Value} {xs : List Value} (h : W.ownsRow B e s v n xs) (hle : B' ≤ B) : Hid (W.ownsRow B' e s v n xs) := owns_lower h hle

/-- The told productions, in their own memory. -/
structure PNew (W : World) (B : Nat) (v : Value) (S : BS) (rg : Nat → Value) : Prop where
  row : W.ownsRow B 47 3 v S.prods.length (prodRow S.prods.length (fun i => sg S.sym (S.prods.getD i ⟨0, [], 0⟩).left) rg (fun i => (S.prods.getD i ⟨0, [], 0⟩).level))
  rights : ∀ i, i < S.prods.length → W.ownsRow B 3 1 (rg i) ((S.prods.getD i ⟨0, [], 0⟩).right.map (sg S.sym)).length (((S.prods.getD i ⟨0, [], 0⟩).right.map (sg S.sym)).map (Value.int .i64))
theorem keepP {W W' : World} {B : Nat} {v : Value} {S : BS} {rg : Nat → Value} (h : PNew W B v S rg) (hg : W.grownBy W' none) : Hid (PNew W' B v S rg) :=
  ⟨h.row.kept hg (by cases hv : v.ownBlock <;> simp), fun i hi => (h.rights i hi).kept hg (by cases hv : (rg i).ownBlock <;> simp)⟩
theorem pnew_of {X W : World} {B : Nat} {v : Value} {S : BS} {rg : Nat → Value} (h : NewProds X W X.heap.size v S.prods.length S.prods.length (fun i => sg S.sym (S.prods.getD i ⟨0, [], 0⟩).left) (fun i => (S.prods.getD i ⟨0, [], 0⟩).right.map (sg S.sym)) (fun i => (S.prods.getD i ⟨0, [], 0⟩).level) rg) (hle : B ≤ X.heap.size) : Hid (PNew W B v S rg) :=
  ⟨owns_lower h.row hle, fun i hi => owns_lower (h.rights i hi) hle⟩

theorem owns_off {W W' : World} {B e s n k : Nat} {v : Value} {xs : List Value} (h : W.ownsRow (k + 1) e s v n xs) (hst : W.grownBy W' (some k)) (hB : B ≤ k) : W'.ownsRow B e s v n xs := by
  refine owns_lower (h.kept hst ?_) (Nat.le_trans hB (Nat.le_succ k))
  cases hv : v.ownBlock with
  | none => exact .inl rfl
  | some g => have := (h.lt g hv).1; exact .inr (by simp; omega)

theorem wrapJ (j : Nat) (h : j ≤ 64) : IntKind.i64.wrap (j : Int) = (j : Int) := by
  simp [IntKind.wrap, IntKind.signed, IntKind.bits]
  omega

theorem first_ok {S : BS} (h : S.OK) (h0 : 0 < S.prods.length) : ∃ j : Nat, S.first = -(j : Int) ∧ 1 ≤ j ∧ j ≤ S.nons.length := by
  have hb : -(S.nons.length : Int) ≤ S.first ∧ S.first < 0 := by
    unfold BS.first
    split
    · refine h.pl _ ?_
      have : S.prods.getD 0 ⟨0, [], 0⟩ = S.prods[0] := by simp [List.getD, h0]
      rw [this]; exact List.getElem_mem _
    · next hne =>
      rcases h.st with h' | h'
      · exact absurd h' hne
      · exact h'
  obtain ⟨j, hj⟩ := Int.eq_ofNat_of_zero_le (show 0 ≤ -S.first by omega)
  exact ⟨j, by omega, by omega, by omega⟩

end Go.Proofs.Ytkhmhcinepfemaa

/-
  A told grammar, as Valid takes it.
-/
namespace Go.Proofs.Ytkhmhcinepfemaa
open Go.RowKit Go.Maps Go.Shelf

attribute [local go_sem] Oper.semAt_some

set_option maxRecDepth 100000 in
set_option maxHeartbeats 400000 in
theorem hasAdded_no (b off : Nat) (ta la pa : Option Addr) (tn nn ln pn tc nc lc pc : Nat) (st : Int) (s : ByteArray) (w : World) (hc : w.cell? ⟨b, off, none⟩ = some (.string s)) (h0 : 0 < nn) (hs : 0 < s.size) :
    Calls Try.prog 62 #[.agg #[.slice ta tn tc, .slice (some ⟨b, off, none⟩) nn nc, .slice la ln lc, .int .i64 st, .slice pa pn pc]] w fun e w' => e = .returned (.bool false) ∧ w.grownBy w' none := by
  have hc' : ∀ o, (w.alloc o).cell? ⟨b, off, none⟩ = some (.string s) := fun o => (World.grownBy_alloc w o none).cell hc (by simp)
  have hc2 : ∀ o, (w.alloc o).drew.cell? ⟨b, off, none⟩ = some (.string s) := fun o => hc' o
  have hd : decide (0 < (nn : Int)) = true := decide_eq_true (by omega)
  have hd' : decide (0 < nn) = true := decide_eq_true h0
  have hne : (s.toList == (ByteArray.mk #[]).toList) = false := by
    rw [Bool.eq_false_iff]
    intro h
    have := (toList_empty s).1 (by simpa using h)
    rw [this] at hs
    simp [ByteArray.size] at hs
  have hne2 : s.toList.isEmpty = false := by
    cases h : s.toList with
    | nil =>
      rw [ByteArray.toList_eq] at h
      have : s.size = 0 := by show s.data.size = 0; rw [← Array.length_toList, h]; rfl
      omega
    | cons x r => rfl
  clear hc hs
  go_enter Try.func62, Try.ntmps62
  go_wp2_with fail
  go_quiet (fail)
  go_wp2
  go_ret
  exact ⟨by first | rfl | simp, grown_trans (World.grownBy_alloc _ _ none) (grown_drewN _ _)⟩

theorem closed_no (b off : Nat) (ta la pa : Option Addr) (tn nn ln pn tc nc lc pc : Nat) (st : Int) (s : ByteArray) (w : World) (hc : w.cell? ⟨b, off, none⟩ = some (.string s)) (h0 : 0 < nn) (hs : 0 < s.size) :
    Calls Try.prog 45 #[.agg #[.slice ta tn tc, .slice (some ⟨b, off, none⟩) nn nc, .slice la ln lc, .int .i64 st, .slice pa pn pc]] w fun e w' => e = .returned (.bool false) ∧ w.grownBy w' none := by
  have HA : Hid (∀ o, Calls Try.prog 62 #[.agg #[.slice ta tn tc, .slice (some ⟨b, off, none⟩) nn nc, .slice la ln lc, .int .i64 st, .slice pa pn pc]] (w.alloc o) fun e w' => e = .returned (.bool false) ∧ (w.alloc o).grownBy w' none) := fun o => hasAdded_no b off ta la pa tn nn ln pn tc nc lc pc st s (w.alloc o) ((World.grownBy_alloc w o none).cell hc (by simp)) h0 hs
  clear hc h0 hs
  go_enter Try.func45, Try.ntmps45
  go_wp2_with fail
  refine (HA.out _).mono ?_
  rintro e w2 ⟨rfl, hg2⟩
  have HG2 : Hid (w.grownBy w2 none) := grown_trans (World.grownBy_alloc _ _ none) hg2
  clear hg2
  go_wp2_with fail
  go_ret
  exact ⟨rfl, HG2.out⟩

end Go.Proofs.Ytkhmhcinepfemaa

namespace Go.Proofs.Ytkhmhcinepfemaa
open Go.RowKit Go.Maps Go.Shelf

theorem tmsL_at : ∀ (ts : List (ByteArray × Int)) (k : Nat), k < ts.length → (tmsL ts)[k * 2]? = some (.string (ts.getD k (⟨#[]⟩, 0)).1) ∧ (tmsL ts)[k * 2 + 1]? = some (.int .i64 (ts.getD k (⟨#[]⟩, 0)).2)
  | [], k, hk => by simp at hk
  | t :: ts, 0, _ => by simp [tmsL, tmL]
  | t :: ts, k + 1, hk => by
    have h := tmsL_at ts k (by simpa using hk)
    have e : tmsL (t :: ts) = [Value.string t.1, .int .i64 t.2] ++ tmsL ts := by simp [tmsL, tmL]
    rw [e]
    constructor
    · rw [List.getElem?_append_right (by simp; omega)]
      have e2 : (k + 1) * 2 - [Value.string t.1, .int .i64 t.2].length = k * 2 := by simp; omega
      rw [e2, h.1]; simp
    · rw [List.getElem?_append_right (by simp; omega)]
      have e2 : (k + 1) * 2 + 1 - [Value.string t.1, .int .i64 t.2].length = k * 2 + 1 := by simp; omega
      rw [e2, h.2]; simp

theorem owns_termsAt {w : World} {B n c : Nat} {a : Option Addr} {ts : List (ByteArray × Int)} (h : w.ownsRow B 60 2 (.slice a n c) n (tmsL ts)) (hn : n = ts.length) : TermsAt w a ts ∧ n ≤ c := by
  have h' := h
  rcases h.2 with ⟨hv, h0⟩ | ⟨g, cap, cur, hv, _, _, hle, _⟩
  · exact ⟨.inl (List.eq_nil_of_length_eq_zero (by omega)), by omega⟩
  · simp at hv
    obtain ⟨rfl, rfl⟩ := hv
    refine ⟨.inr ⟨g, 0, rfl, fun i hi => ?_⟩, hle⟩
    obtain ⟨h1, h2⟩ := tmsL_at ts i hi
    rw [Nat.zero_add]
    exact ⟨owns_cell h' h1, owns_cell h' h2⟩

theorem owns_bounds {w : World} {B e s n c : Nat} {a : Option Addr} {xs : List Value} (h : w.ownsRow B e s (.slice a n c) n xs) : n ≤ c ∧ (a = none → n = 0 ∧ c = 0) := by
  rcases h.2 with ⟨hv, h0⟩ | ⟨g, cap, cur, hv, _, _, hle, _⟩
  · simp at hv
    obtain ⟨rfl, rfl, rfl⟩ := hv
    exact ⟨Nat.le_refl _, fun _ => ⟨rfl, rfl⟩⟩
  · simp at hv
    obtain ⟨rfl, rfl⟩ := hv
    exact ⟨hle, fun h => by cases h⟩

theorem GramNew.gat {w : World} {B : Nat} {G : GR} {ta na la pa : Option Addr} {tc nc lc pc : Nat} (h : GramNew w B G (.slice ta G.terms.length tc) (.slice na G.nons.length nc) (.slice la G.levels.length lc) (.slice pa G.prods.length pc))
    (h1 : G.terms.length ≤ 17592186044416) (h2 : G.nons.length ≤ 17592186044416) (h3 : G.levels.length ≤ 17592186044416) (h4 : G.prods.length ≤ 17592186044416) (h5 : ∀ i, i < G.prods.length → (G.prods.getD i ⟨0, [], 0⟩).right.length ≤ 17592186044416) :
    ∃ ra rc, GAt w ta na la pa tc nc lc pc G.terms G.nons G.levels G.prods.length (fun i => (G.prods.getD i ⟨0, [], 0⟩).left) (fun i => (G.prods.getD i ⟨0, [], 0⟩).right) ra rc (fun i => (G.prods.getD i ⟨0, [], 0⟩).level) := by
  obtain ⟨hT, htc⟩ := owns_termsAt h.terms rfl
  obtain ⟨hnc, hnn⟩ := owns_bounds h.nons
  obtain ⟨rg, hp, hr⟩ := h.prods
  obtain ⟨hpc, hpn⟩ := owns_bounds hp
  have hI : ∀ k, ∃ a c, k < G.prods.length → rg k = .slice a (G.prods.getD k ⟨0, [], 0⟩).right.length c ∧ IntsAt w a (G.prods.getD k ⟨0, [], 0⟩).right ∧ (a = none → c = 0) := fun k => by
    by_cases hk : k < G.prods.length
    · have h0 : IntsIn w (rg k) (G.prods.getD k ⟨0, [], 0⟩).right := owns_base (hr k hk)
      obtain ⟨a, c, hv', h6, _, h7⟩ := h0.at
      exact ⟨a, c, fun _ => ⟨hv', h6, fun h => (h7 h).2⟩⟩
    · exact ⟨none, 0, fun h => absurd h hk⟩
  refine ⟨fun k => Classical.choose (hI k), fun k => Classical.choose (Classical.choose_spec (hI k)), hT, StrsIn.strsAt (v := .slice na G.nons.length nc) (owns_base h.nons) rfl, owns_intsAt h.levels rfl, ?_, htc, hnc, hpc, hnn, hpn, h1, h2, h3, h4⟩
  by_cases h0 : G.prods.length = 0
  · exact .inl h0
  · rcases hp.2 with ⟨_, hz⟩ | ⟨g, cap, cur, hv, _⟩
    · exact absurd hz h0
    · simp at hv
      obtain ⟨rfl, rfl⟩ := hv
      refine .inr ⟨g, 0, rfl, fun k hk => ?_⟩
      obtain ⟨e1, e2, e3⟩ := Classical.choose_spec (Classical.choose_spec (hI k)) hk
      have c0 := prodRow_at (fun i => (G.prods.getD i ⟨0, [], 0⟩).left) rg (fun i => (G.prods.getD i ⟨0, [], 0⟩).level) G.prods.length k hk 0 (by omega)
      have c1 := prodRow_at (fun i => (G.prods.getD i ⟨0, [], 0⟩).left) rg (fun i => (G.prods.getD i ⟨0, [], 0⟩).level) G.prods.length k hk 1 (by omega)
      have c2 := prodRow_at (fun i => (G.prods.getD i ⟨0, [], 0⟩).left) rg (fun i => (G.prods.getD i ⟨0, [], 0⟩).level) G.prods.length k hk 2 (by omega)
      rw [e1] at c1
      rw [Nat.zero_add]
      exact ⟨owns_cell hp (by rw [Nat.add_zero] at c0; exact c0), owns_cell hp c1, owns_cell hp c2, e2, e3, h5 k hk⟩

end Go.Proofs.Ytkhmhcinepfemaa

/-
  awake, walked.
-/
namespace Go.Proofs.Ytkhmhcinepfemaa
open Go.RowKit Go.Maps Go.Shelf

def SA : BS := (BS.zero.term ⟨#[43]⟩).2.2
def SB : BS := (SA.non ⟨#[101]⟩).2.2
def SC : BS := (SB.rule (-1) [-1, 1]).2.2
theorem sa_ans : (BS.zero.term ⟨#[43]⟩).1 = 1 ∧ (BS.zero.term ⟨#[43]⟩).2.1 = 0 := ⟨rfl, rfl⟩
theorem sb_ans : (SA.non ⟨#[101]⟩).1 = -1 ∧ (SA.non ⟨#[101]⟩).2.1 = 0 := ⟨rfl, rfl⟩
theorem sc_ans : (SB.rule (-1) [-1, 1]).1 = 0 ∧ (SB.rule (-1) [-1, 1]).2.1 = 0 := ⟨rfl, rfl⟩
theorem sc_terms : SC.gram.terms = [(⟨#[]⟩, 0), (⟨#[43]⟩, 0)] := rfl
theorem sc_nons : SC.gram.nons = [⟨#[101]⟩] := rfl
theorem sc_levels : SC.gram.levels = [] := rfl
theorem sc_start : SC.gram.start = 2 := rfl
theorem sc_prods : SC.gram.prods = [⟨2, [2, 1], 0⟩] := rfl
theorem sc_tells : 0 < SC.prods.length ∧ SC.nons.length ≤ (ordOf SC.prods).length := ⟨by decide, by decide⟩

theorem sc_valid : validOK [(⟨#[]⟩, 0), (⟨#[43]⟩, 0)] [⟨#[101]⟩] [] 2 1 (fun i => (SC.gram.prods.getD i ⟨0, [], 0⟩).left) (fun i => (SC.gram.prods.getD i ⟨0, [], 0⟩).right) (fun i => (SC.gram.prods.getD i ⟨0, [], 0⟩).level) := by
  refine ⟨⟨by decide, by decide, ⟨[(⟨#[43]⟩, 0)], rfl, fun t ht => ?_, by simp⟩, ⟨fun s hs => ?_, by simp⟩, fun j hj => by simp at hj, fun i hi => ?_, by decide, ⟨by decide, by decide⟩⟩, fun i hi => ?_⟩
  · simp at ht
    subst ht
    exact ⟨by decide, by decide, by decide⟩
  · simp at hs
    subst hs
    decide
  · obtain rfl : i = 0 := by omega
    refine ⟨⟨by decide, by decide⟩, ⟨by decide, by decide⟩, fun x hx => ?_⟩
    have hx' : x = 2 ∨ x = 1 := by
      have : x ∈ [(2 : Int), 1] := hx
      simpa using this
    rcases hx' with rfl | rfl
    · exact .inr ⟨by decide, by decide⟩
    · exact .inl ⟨by decide, by decide⟩
  · have : (leftsTo (fun i => (SC.gram.prods.getD i ⟨0, [], 0⟩).left) 1).length = 1 := by decide
    omega

end Go.Proofs.Ytkhmhcinepfemaa

namespace Go.Proofs.Ytkhmhcinepfemaa
open Go.RowKit Go.Maps Go.Shelf

attribute [local go_sem] Oper.semAt_some

end Go.Proofs.Ytkhmhcinepfemaa

/-
  Lists that are compared: slices.Equal of numbers, texts, terminals; the document's SameInts.
-/
namespace Go.Proofs.Ytkhmhcinepfemaa
open Go.RowKit Go.Maps Go.Shelf

attribute [local go_sem] Oper.semAt_some

theorem list_same {α : Type} (d : α) {l m : List α} (hn : l.length = m.length) (h : ∀ i, i < l.length → l.getD i d = m.getD i d) : l = m := by
  apply List.ext_getElem hn
  intro i h1 h2
  have := h i h1
  simpa [List.getD, h1, h2] using this
theorem bytes_toList (s t : ByteArray) : (s.toList = t.toList) ↔ s = t := by
  rw [ByteArray.toList_eq, ByteArray.toList_eq]
  exact ⟨bytes_ext, fun h => by rw [h]⟩

set_option maxRecDepth 100000 in
set_option maxHeartbeats 1000000 in
theorem equalInt_any (a1 a2 : Option Addr) (c1 c2 : Nat) (l1 l2 : List Int) (w : World) (h1 : IntsAt w a1 l1) (h2 : IntsAt w a2 l2) (hb : l1.length ≤ 17592186044416) (r : Bool) (hr : r = true ↔ l1 = l2) :
    Calls Try.prog 89 #[.slice a1 l1.length c1, .slice a2 l2.length c2] w fun e w' => e = .returned (.bool r) ∧ ∃ q, w' = w.drewN q := by
  have H1 : Hid (IntsAt w a1 l1) := h1
  have H2 : Hid (IntsAt w a2 l2) := h2
  have HRT : Hid (l1.length = l2.length → (∀ i, i < l1.length → l1.getD i 0 = l2.getD i 0) → r = true) := fun hn h => hr.2 (list_same 0 hn h)
  have HRF : Hid (∀ i, l1.getD i 0 ≠ l2.getD i 0 → r = false) := fun i h => Bool.eq_false_iff.2 fun hh => h (by rw [hr.1 hh])
  have HRN : Hid (l1.length ≠ l2.length → r = false) := fun h => Bool.eq_false_iff.2 fun hh => h (by rw [hr.1 hh])
  obtain ⟨n, hn⟩ : ∃ n, n = l1.length := ⟨_, rfl⟩
  obtain ⟨m, hm⟩ : ∃ m, m = l2.length := ⟨_, rfl⟩
  have HN : Hid (l1.length = n ∧ l2.length = m) := ⟨hn.symm, hm.symm⟩
  rw [← hn] at hb ⊢
  rw [← hm]
  clear h1 h2 hr hn hm
  by_cases hnm : n = m
  · subst hnm
    go_enter Try.func89, Try.ntmps89
    go_wp2_with fail
    go_loopw [13] (fun i wr => ∃ k : Nat, k ≤ n ∧ i = .int .i64 k ∧ (∃ q, wr = w.drewN q) ∧ ∀ j, j < k → l1.getD j 0 = l2.getD j 0) (fun i _ => n - (intOf i).toNat)
    case atStart => exact ⟨0, Nat.zero_le _, rfl, ⟨0, rfl⟩, fun j hj => by omega⟩
    case round =>
      obtain ⟨k, hk, rfl, ⟨q, rfl⟩, hall⟩ := hrel
      have HA : Hid (∀ j, j < k → l1.getD j 0 = l2.getD j 0) := hall
      clear hall
      by_cases hlt : k < n
      · obtain ⟨b1, o1, rfl, hc1⟩ : ∃ b off, a1 = some ⟨b, off, none⟩ ∧ ∀ i, i < l1.length → w.cell? ⟨b, off + i, none⟩ = some (.int .i64 (l1.getD i 0)) := by
          rcases H1.out with h | h
          · have := HN.out.1; subst h; simp at this; omega
          · exact h
        obtain ⟨b2, o2, rfl, hc2⟩ : ∃ b off, a2 = some ⟨b, off, none⟩ ∧ ∀ i, i < l2.length → w.cell? ⟨b, off + i, none⟩ = some (.int .i64 (l2.getD i 0)) := by
          rcases H2.out with h | h
          · have := HN.out.2; subst h; simp at this; omega
          · exact h
        have d1 := hc1 k (by rw [HN.out.1]; exact hlt)
        have d2 := hc2 k (by rw [HN.out.2]; exact hlt)
        have HF : Hid (l1.getD k 0 ≠ l2.getD k 0 → r = false) := HRF.out k
        have HS : Hid (l1.getD k 0 = l2.getD k 0 → ∀ j, j < k + 1 → l1.getD j 0 = l2.getD j 0) := fun h j hj => by
          by_cases e : j = k
          · rw [e]; exact h
          · exact HA.out j (by omega)
        clear hc1 hc2
        generalize l1.getD k 0 = x at *
        generalize l2.getD k 0 = y at *
        by_cases hxy : x = y
        · have hd : (x != y) = false := by simp [hxy]
          have HS' := HS.out hxy
          have HS2 : Hid (∀ j, j < k + 1 → l1.getD j 0 = l2.getD j 0) := HS'
          clear hxy HS' HS HF
          go_wp2_with fail
          go_quiet (fail)
          go_wp2
          go_roundw
          case rel => exact ⟨k + 1, by omega, by go_num, ⟨_, rfl⟩, HS2.out⟩
          case measure => simp [intOf]; omega
        · have hd : (x != y) = true := by simp [hxy]
          have hrf := HF.out hxy
          clear hxy HS HF
          go_wp2_with fail
          go_quiet (fail)
          go_wp2
          go_ret
          exact ⟨by rw [hrf]; rfl, q + nq, by simp⟩
      · obtain rfl : k = n := by omega
        have hrt : r = true := HRT.out (by rw [HN.out.1, HN.out.2]) fun i hi => HA.out i (by rw [← HN.out.1]; exact hi)
        go_wp2_with fail
        go_ret
        exact ⟨by rw [hrt]; rfl, q, rfl⟩
  · have hd : ((n : Int) != (m : Int)) = true := by simp; omega
    have hrf : r = false := HRN.out (by rw [HN.out.1, HN.out.2]; exact hnm)
    clear hnm
    go_enter Try.func89, Try.ntmps89
    go_wp2_with fail
    go_ret
    exact ⟨by rw [hrf]; rfl, 0, rfl⟩

set_option maxRecDepth 100000 in
set_option maxHeartbeats 1000000 in
theorem sameInts_any (a1 a2 : Option Addr) (c1 c2 : Nat) (l1 l2 : List Int) (w : World) (h1 : IntsAt w a1 l1) (h2 : IntsAt w a2 l2) (hb : l1.length ≤ 17592186044416) (r : Bool) (hr : r = true ↔ l1 = l2) :
    Calls Try.prog 33 #[.slice a1 l1.length c1, .slice a2 l2.length c2] w fun e w' => e = .returned (.bool r) ∧ ∃ q, w' = w.drewN q := by
  have H1 : Hid (IntsAt w a1 l1) := h1
  have H2 : Hid (IntsAt w a2 l2) := h2
  have HRT : Hid (l1.length = l2.length → (∀ i, i < l1.length → l1.getD i 0 = l2.getD i 0) → r = true) := fun hn h => hr.2 (list_same 0 hn h)
  have HRF : Hid (∀ i, l1.getD i 0 ≠ l2.getD i 0 → r = false) := fun i h => Bool.eq_false_iff.2 fun hh => h (by rw [hr.1 hh])
  have HRN : Hid (l1.length ≠ l2.length → r = false) := fun h => Bool.eq_false_iff.2 fun hh => h (by rw [hr.1 hh])
  obtain ⟨n, hn⟩ : ∃ n, n = l1.length := ⟨_, rfl⟩
  obtain ⟨m, hm⟩ : ∃ m, m = l2.length := ⟨_, rfl⟩
  have HN : Hid (l1.length = n ∧ l2.length = m) := ⟨hn.symm, hm.symm⟩
  rw [← hn] at hb ⊢
  rw [← hm]
  clear h1 h2 hr hn hm
  by_cases hnm : n = m
  · subst hnm
    go_enter Try.func33, Try.ntmps33
    go_wp2_with fail
    go_loopw [5] (fun i wr => ∃ k : Nat, k ≤ n ∧ i = .int .i64 k ∧ (∃ q, wr = w.drewN q) ∧ ∀ j, j < k → l1.getD j 0 = l2.getD j 0) (fun i _ => n - (intOf i).toNat)
    case atStart => exact ⟨0, Nat.zero_le _, rfl, ⟨0, rfl⟩, fun j hj => by omega⟩
    case round =>
      obtain ⟨k, hk, rfl, ⟨q, rfl⟩, hall⟩ := hrel
      have HA : Hid (∀ j, j < k → l1.getD j 0 = l2.getD j 0) := hall
      clear hall
      by_cases hlt : k < n
      · obtain ⟨b1, o1, rfl, hc1⟩ : ∃ b off, a1 = some ⟨b, off, none⟩ ∧ ∀ i, i < l1.length → w.cell? ⟨b, off + i, none⟩ = some (.int .i64 (l1.getD i 0)) := by
          rcases H1.out with h | h
          · have := HN.out.1; subst h; simp at this; omega
          · exact h
        obtain ⟨b2, o2, rfl, hc2⟩ : ∃ b off, a2 = some ⟨b, off, none⟩ ∧ ∀ i, i < l2.length → w.cell? ⟨b, off + i, none⟩ = some (.int .i64 (l2.getD i 0)) := by
          rcases H2.out with h | h
          · have := HN.out.2; subst h; simp at this; omega
          · exact h
        have d1 := hc1 k (by rw [HN.out.1]; exact hlt)
        have d2 := hc2 k (by rw [HN.out.2]; exact hlt)
        have HF : Hid (l1.getD k 0 ≠ l2.getD k 0 → r = false) := HRF.out k
        have HS : Hid (l1.getD k 0 = l2.getD k 0 → ∀ j, j < k + 1 → l1.getD j 0 = l2.getD j 0) := fun h j hj => by
          by_cases e : j = k
          · rw [e]; exact h
          · exact HA.out j (by omega)
        clear hc1 hc2
        generalize l1.getD k 0 = x at *
        generalize l2.getD k 0 = y at *
        by_cases hxy : x = y
        · have hd : (x != y) = false := by simp [hxy]
          have HS' := HS.out hxy
          have HS2 : Hid (∀ j, j < k + 1 → l1.getD j 0 = l2.getD j 0) := HS'
          clear hxy HS' HS HF
          go_wp2_with fail
          go_quiet (fail)
          go_wp2
          go_roundw
          case rel => exact ⟨k + 1, by omega, by go_num, ⟨_, rfl⟩, HS2.out⟩
          case measure => simp [intOf]; omega
        · have hd : (x != y) = true := by simp [hxy]
          have hrf := HF.out hxy
          clear hxy HS HF
          go_wp2_with fail
          go_quiet (fail)
          go_wp2
          go_ret
          exact ⟨by rw [hrf]; rfl, q + nq, by simp⟩
      · obtain rfl : k = n := by omega
        have hrt : r = true := HRT.out (by rw [HN.out.1, HN.out.2]) fun i hi => HA.out i (by rw [← HN.out.1]; exact hi)
        go_wp2_with fail
        go_ret
        exact ⟨by rw [hrt]; rfl, q, rfl⟩
  · have hd : ((n : Int) != (m : Int)) = true := by simp; omega
    have hrf : r = false := HRN.out (by rw [HN.out.1, HN.out.2]; exact hnm)
    clear hnm
    go_enter Try.func33, Try.ntmps33
    go_wp2_with fail
    go_ret
    exact ⟨by rw [hrf]; rfl, 0, rfl⟩

end Go.Proofs.Ytkhmhcinepfemaa
