import Derived.Test.YtkhmhcinepfemaaQejpkdhbolflg
import Derived.Test.YtkhmhcinepfemaaQbfoegajdkjhm
import Derived.Lib.AppendStr
import Derived.Lib.ConvBytes
import Derived.Laws.IdiomStrings

/-
  The document's texts of symbols.
-/
namespace Go.Proofs.Ytkhmhcinepfemaa
open Go.RowKit Go.Maps Go.Shelf

/-- A text of these bytes. -/
def strOf (l : List UInt8) : ByteArray := ⟨l.toArray⟩
theorem strOf_append (a b : List UInt8) : strOf a ++ strOf b = strOf (a ++ b) := by
  apply ByteArray.ext
  simp [strOf, ByteArray.data_append]
theorem strOf_data (s : ByteArray) : strOf s.data.toList = s := by
  apply ByteArray.ext
  simp [strOf]
theorem strOf_size (l : List UInt8) : (strOf l).size = l.length := by simp [strOf, ByteArray.size]

set_option maxRecDepth 100000 in
theorem rsymbol_any (ta na la pa : Option Addr) (tn nn ln n tc nc lc pc : Nat) (st : Int) (ts : List (ByteArray × Int)) (ns : List ByteArray) (w : World) (hT : TermsAt w ta ts) (hN : StrsAt w na ns) (htn : ts.length = tn) (hnn : ns.length = nn) (k : Nat) (hk : k < tn + nn) (hn : nn ≤ 17592186044416) (hl : (symT ts ns k).length ≤ 1000) :
    Calls Try.prog 32 #[.agg #[.slice ta tn tc, .slice na nn nc, .slice la ln lc, .int .i64 st, .slice pa n pc], .int .i64 k] w fun e w' => e = .returned (.string (strOf (symT ts ns k))) ∧ w.grownBy w' none := by
  have HX0 : Hid (PhAt w (w.alloc (.cells #[.slice ta tn tc, .slice na nn nc, .slice la ln lc, .int .i64 st, .slice pa n pc] 27)) w.heap.size #[.slice ta tn tc, .slice na nn nc, .slice la ln lc, .int .i64 st, .slice pa n pc]) := ⟨World.grownBy_alloc _ _ none, heap_alloc_last w _⟩
  have HT : Hid (TermsAt w ta ts) := hT
  have HN : Hid (StrsAt w na ns) := hN
  have HLT : Hid (ts.length = tn) := htn
  have HLN : Hid (ns.length = nn) := hnn
  have HL : Hid ((symT ts ns k).length ≤ 1000) := hl
  clear hT hN htn hnn hl
  by_cases h0 : k = 0
  · subst h0
    go_enter Try.func32, Try.ntmps32
    go_wp2_with fail
    go_ret
    exact ⟨by simp [symT, strOf], HX0.out.grown⟩
  · have hk0 : ¬ (k : Int) = 0 := by omega
    by_cases h1 : k < tn
    · obtain ⟨tb, tf, rfl, hc⟩ : ∃ tb tf, ta = some ⟨tb, tf, none⟩ ∧ ∀ i, i < ts.length → w.cell? ⟨tb, tf + i * 2, none⟩ = some (.string (ts.getD i (ByteArray.empty, 0)).1) ∧ w.cell? ⟨tb, tf + i * 2 + 1, none⟩ = some (.int .i64 (ts.getD i (ByteArray.empty, 0)).2) := by
        rcases HT.out with h | h
        · have := HLT.out; rw [h] at this; simp at this; omega
        · exact h
      have d0 := HX0.out.grown.cell (hc k (by rw [HLT.out]; exact h1)).1 (by simp)
      obtain ⟨s, hs⟩ : ∃ s, s = (ts.getD k (ByteArray.empty, 0)).1 := ⟨_, rfl⟩
      rw [← hs] at d0
      have HE : Hid (symT ts ns k = [39] ++ s.data.toList ++ [39]) := by
        show _ = _
        rw [symT, if_neg h0, if_pos (by rw [HLT.out]; exact h1), hs]
      have hsz : s.size ≤ 1000 := by
        have h9 := HL.out
        rw [HE.out] at h9
        simp only [List.length_append, List.length_singleton] at h9
        have e : s.data.toList.length = s.size := by rw [Array.length_toList]; rfl
        omega
      clear hc hs
      have hk1 : (k : Int) < (tn : Int) := by omega
      have hk2 : (0 : Int) ≤ (k : Int) := by omega
      go_enter Try.func32, Try.ntmps32
      go_wp2_with fail
      go_ret
      refine ⟨?_, HX0.out.grown⟩
      rw [HE.out, ← strOf_append, ← strOf_append, strOf_data]
      rfl
    · obtain ⟨j, hj⟩ : ∃ j, k = tn + j := ⟨k - tn, by omega⟩
      subst hj
      obtain ⟨nb, nf, rfl, hc⟩ : ∃ b off, na = some ⟨b, off, none⟩ ∧ ∀ i, i < ns.length → w.cell? ⟨b, off + i, none⟩ = some (.string (ns.getD i ByteArray.empty)) := by
        rcases HN.out with h | h
        · have := HLN.out; rw [h] at this; simp at this; omega
        · exact h
      have d0 := HX0.out.grown.cell (hc j (by rw [HLN.out]; omega)) (by simp)
      obtain ⟨s, hs⟩ : ∃ s, s = ns.getD j ByteArray.empty := ⟨_, rfl⟩
      rw [← hs] at d0
      have HE : Hid (symT ts ns (tn + j) = if s = ⟨#[]⟩ then [36, 115, 116, 97, 114, 116] else s.data.toList) := by
        show _ = _
        rw [symT, if_neg h0, if_neg (by rw [HLT.out]; exact h1), HLT.out, hs]
        simp
      clear hc hs
      have hk1 : ¬ ((tn : Int) + (j : Int) < (tn : Int)) := by omega
      have hwr : IntKind.i64.wrap ((tn : Int) + (j : Int) - (tn : Int)) = (j : Int) := by simp [IntKind.wrap, IntKind.signed, IntKind.bits]; omega
      by_cases hz : s = ⟨#[]⟩
      · have d1 : s.toList.isEmpty = true := by rw [hz]; simp
        have HZ : Hid (s = ⟨#[]⟩) := hz
        clear hz
        go_enter Try.func32, Try.ntmps32
        go_wp2_with fail
        go_ret
        refine ⟨?_, HX0.out.grown⟩
        rw [HE.out, if_pos HZ.out]
        rfl
      · have d1 := isEmpty_false hz
        have HZ : Hid (¬ s = ⟨#[]⟩) := hz
        clear hz
        go_enter Try.func32, Try.ntmps32
        go_wp2_with fail
        go_ret
        refine ⟨?_, HX0.out.grown⟩
        rw [HE.out, if_neg HZ.out, strOf_data]
        rfl

set_option maxRecDepth 100000 in
theorem rEither_any (ta na la pa : Option Addr) (tc nc lc pc : Nat) (ts : List (ByteArray × Int)) (ns : List ByteArray) (lv : List Int) (n : Nat) (L : Nat → Int) (R : Nat → List Int) (ra : Nat → Option Addr) (rc : Nat → Nat) (V : Nat → Int) (st : Int) (w : World) (tn nn ln : Nat) (hlen : ts.length = tn ∧ ns.length = nn ∧ lv.length = ln) (hG : GAt w ta na la pa tc nc lc pc ts ns lv n L R ra rc V) (hwf : ∀ t ∈ ts, t.1.size ≤ 140737488355328) (hnz : ∀ s ∈ ns, s.size ≤ 140737488355328) (r : Bool) (hr : r = true ↔ validOK ts ns lv st n L R V ∨ closedOK ts ns lv st n L R V) :
    Calls Try.prog 22 #[.agg #[.slice ta tn tc, .slice na nn nc, .slice la ln lc, .int .i64 st, .slice pa n pc]] w fun e w' => e = .returned (.bool r) ∧ w.grownBy w' none := by
  obtain ⟨rV, hrV⟩ := boolOf (validOK ts ns lv st n L R V)
  obtain ⟨rC, hrC⟩ := boolOf (closedOK ts ns lv st n L R V)
  have HV : Hid (∀ Y, w.grownBy Y none → Calls Try.prog 24 #[.agg #[.slice ta tn tc, .slice na nn nc, .slice la ln lc, .int .i64 st, .slice pa n pc]] Y fun e w' => e = .returned (.bool rV) ∧ Y.grownBy w' none) := fun Y hY => by
    have := rvalid_any ta na la pa tc nc lc pc st ts ns lv n L R ra rc V Y (hG.kept hY) hwf hnz rV hrV
    rwa [hlen.1, hlen.2.1, hlen.2.2] at this
  have HC : Hid (∀ Y, w.grownBy Y none → Calls Try.prog 41 #[.agg #[.slice ta tn tc, .slice na nn nc, .slice la ln lc, .int .i64 st, .slice pa n pc]] Y fun e w' => e = .returned (.bool rC) ∧ Y.grownBy w' none) := fun Y hY => by
    have := rclosed_any ta na la pa tc nc lc pc st ts ns lv n L R ra rc V Y (hG.kept hY) hwf hnz rC hrC
    rwa [hlen.1, hlen.2.1, hlen.2.2] at this
  have hre : r = (rV || rC) := by
    rw [Bool.eq_iff_iff, hr, Bool.or_eq_true, hrV, hrC]
  have HX0 : Hid (PhAt w (w.alloc (.cells #[.slice ta tn tc, .slice na nn nc, .slice la ln lc, .int .i64 st, .slice pa n pc] 27)) w.heap.size #[.slice ta tn tc, .slice na nn nc, .slice la ln lc, .int .i64 st, .slice pa n pc]) := ⟨World.grownBy_alloc _ _ none, heap_alloc_last w _⟩
  clear hG hlen hr hrV hrC hwf hnz
  subst hre
  cases rV
  · go_enter Try.func22, Try.ntmps22
    go_wp2_with fail
    refine Calls.mono (HV.out _ HX0.out.grown) ?_
    rintro e w1 ⟨rfl, hg1⟩
    have HX1 : Hid (PhAt w w1 w.heap.size #[.slice ta tn tc, .slice na nn nc, .slice la ln lc, .int .i64 st, .slice pa n pc]) := HX0.out.kept hg1
    obtain ⟨k0, k1, k2, k3, k4⟩ := HX1.out.cells
    clear hg1 HX0
    go_wp2_with fail
    refine Calls.mono (HC.out w1 HX1.out.grown) ?_
    rintro e w2 ⟨rfl, hg2⟩
    have HG2 : Hid (w.grownBy w2 none) := grown_trans HX1.out.grown hg2
    clear hg2 HX1 HC HV
    go_wp2_with fail
    go_ret
    exact ⟨by simp, HG2.out⟩
  · go_enter Try.func22, Try.ntmps22
    go_wp2_with fail
    refine Calls.mono (HV.out _ HX0.out.grown) ?_
    rintro e w1 ⟨rfl, hg1⟩
    have HX1 : Hid (PhAt w w1 w.heap.size #[.slice ta tn tc, .slice na nn nc, .slice la ln lc, .int .i64 st, .slice pa n pc]) := HX0.out.kept hg1
    obtain ⟨k0, k1, k2, k3, k4⟩ := HX1.out.cells
    clear hg1 HX0
    go_wp2_with fail
    go_ret
    exact ⟨by simp, HX1.out.grown⟩

end Go.Proofs.Ytkhmhcinepfemaa

/-
  A row of bytes that a function makes for itself: out of a text, or out of nothing; texts appended to it; read as a text.
-/
namespace Go.Proofs.Ytkhmhcinepfemaa
open Go.RowKit Go.Maps Go.Shelf

/-- The slice v of n bytes has the bytes bs in a row of its own; what is frozen of that row lies behind its capacity. -/
def BRowAt (w : World) (base : Nat) (v : Value) (bs : List UInt8) : Prop :=
  (v = .slice none 0 0 ∧ bs = []) ∨
   ∃ g cap cur fz, v = .slice (some ⟨g, 0, none⟩) bs.length cap ∧ base ≤ g ∧ w.heap[g]? = some (.cells cur 5 fz) ∧ (fz.2 = 0 ∨ cap ≤ fz.1) ∧ bs.length ≤ cap ∧ cap ≤ maxLen ∧ cur.size = cap ∧ cur.toList.take bs.length = Lib.byteCells bs

theorem BRowAt.nil (w : World) (base : Nat) : BRowAt w base (.slice none 0 0) [] := .inl ⟨rfl, rfl⟩
theorem BRowAt.of {w : World} {base : Nat} {v : Value} {bs : List UInt8} (h : w.ownsRow base 5 1 v bs.length (Lib.byteCells bs)) : BRowAt w base v bs := by
  rcases h.2 with ⟨rfl, h0⟩ | ⟨g, cap, cur, hv, hb, hg, h1, h2, h3, h4⟩
  · exact .inl ⟨rfl, List.eq_nil_of_length_eq_zero h0⟩
  · exact .inr ⟨g, cap, cur, (0, 0), hv, hb, hg, .inl rfl, h1, h2, by simpa using h3, by simpa using h4⟩
theorem BRowAt.kept {w w' : World} {base : Nat} {v : Value} {bs : List UInt8} (h : BRowAt w base v bs) (hg : w.grownBy w' none) : BRowAt w' base v bs := by
  rcases h with h | ⟨g, cap, cur, fz, hv, hb, hc, r⟩
  · exact .inl h
  · exact .inr ⟨g, cap, cur, fz, hv, hb, (hg.block g (Array.getElem?_eq_some_iff.1 hc).1 (by simp)).trans hc, r⟩
theorem BRowAt.lt {w : World} {base : Nat} {v : Value} {bs : List UInt8} (h : BRowAt w base v bs) : ∀ k, v.ownBlock = some k → base ≤ k ∧ k < w.heap.size := by
  intro k hk
  rcases h with ⟨rfl, _⟩ | ⟨g, cap, cur, fz, rfl, hb, hc, r⟩
  · simp [Value.ownBlock] at hk
  · simp [Value.ownBlock] at hk
    subst hk
    exact ⟨hb, (Array.getElem?_eq_some_iff.1 hc).1⟩
theorem BRowAt.lower {w : World} {base base' : Nat} {v : Value} {bs : List UInt8} (h : BRowAt w base v bs) (hle : base' ≤ base) : BRowAt w base' v bs := by
  rcases h with h | ⟨g, cap, cur, fz, hv, hb, r⟩
  · exact .inl h
  · exact .inr ⟨g, cap, cur, fz, hv, Nat.le_trans hle hb, r⟩
theorem BRowAt.slice {w : World} {base : Nat} {v : Value} {bs : List UInt8} (h : BRowAt w base v bs) : ∃ a cap, v = .slice a bs.length cap := by
  rcases h with ⟨rfl, rfl⟩ | ⟨g, cap, cur, fz, rfl, _⟩
  · exact ⟨_, _, rfl⟩
  · exact ⟨_, _, rfl⟩
theorem BRowAt.grown {X w w' : World} {base : Nat} {v : Value} {bs : List UInt8} (h : BRowAt w base v bs) (hX : X.grownBy w none) (hB : X.heap.size ≤ base) (hg : w.grownBy w' v.ownBlock) : X.grownBy w' none := by
  cases hv : v.ownBlock with
  | none => rw [hv] at hg; exact grown_trans hX hg
  | some q => rw [hv] at hg; exact grown_new hX hg (Nat.le_trans hB (h.lt q hv).1)

theorem byteCells_len (l : List UInt8) : (Lib.byteCells l).length = l.length := by simp [Lib.byteCells]
theorem byteCells_app (a b : List UInt8) : Lib.byteCells (a ++ b) = Lib.byteCells a ++ Lib.byteCells b := by simp [Lib.byteCells]
theorem strCells_strOf (l : List UInt8) : Lib.strCells (strOf l) = Lib.byteCells l := rfl

/-- A text as a row of bytes. -/
theorem conv_bytes (w : World) (l : List UInt8) (hl : l.length ≤ 140737488355328) :
    ∃ v, (∀ u : World, u = w → (convert 9 51 (.string (strOf l))).run Try.prog u = .ok v (Lib.bytesWorld w 5 (strOf l))) ∧ BRowAt (Lib.bytesWorld w 5 (strOf l)) w.heap.size v l ∧ w.grownBy (Lib.bytesWorld w 5 (strOf l)) none := by
  have hr := Lib.run_convert_string_bytes (P := Try.prog) w 9 51 5 (strOf l) Try.underlying9 Try.underlying51 Try.underlying5
  have hsz : (strOf l).size = l.length := strOf_size l
  have hge := grownCap_ge w l.length 0 5
  have hle : grownCap w l.length 0 5 ≤ maxLen := grownCap_le_maxLen w l.length 0 5 (by unfold maxLen; omega)
  rw [hsz] at hr
  refine ⟨_, fun u hu => by rw [hu]; exact hr, .inr ⟨w.heap.size, grownCap w l.length 0 5, _, _, rfl, Nat.le_refl _, Lib.bytesWorld_at_new w 5 (strOf l), .inr ?_, hge, hle, ?_, ?_⟩, ⟨rfl, rfl, rfl, by rw [Lib.bytesWorld_size]; omega, fun k hk _ => Lib.bytesWorld_at_old w _ _ k hk⟩⟩
  · simp [Lib.bytesCells, hsz]
    omega
  · simp [Lib.bytesCells, hsz]
    omega
  · simp [Lib.bytesCells, strOf, Lib.byteCells]

/-- A row of bytes as a text. -/
theorem conv_string {w : World} {base : Nat} {v : Value} {bs : List UInt8} (h : BRowAt w base v bs) : (convert 51 9 v).run Try.prog w = .ok (.string (strOf bs)) w := by
  rcases h with ⟨rfl, rfl⟩ | ⟨g, cap, cur, fz, rfl, _, hg, _, hn, _, hs, ht⟩
  · exact run_convert_bytes_nil w 51 5 Try.underlying51 Try.underlying5 0 0 9 Try.underlying9
  · refine run_convert_bytes_back w 51 9 5 ⟨g, 0, none⟩ cap bs Try.underlying51 Try.underlying5 Try.underlying9 fun j hj => ?_
    rw [Addr.add_mid, Nat.zero_add, cell_of_row w g j cur _ fz hg]
    have h1 : (cur.toList.take bs.length)[j]? = some (.int .u8 (bs[j].toNat : Int)) := by rw [ht]; simp [Lib.byteCells, hj]
    rw [List.getElem?_take, if_pos hj] at h1
    simpa using h1

/-- Cells laid into a row, one behind the other, where nothing is frozen. -/
theorem store_free (g : Nat) (t : TypeId) (fz : Nat × Nat) : ∀ (vs : List Value) (o i : Nat) (cur : Array Value) (w : World), w.heap[g]? = some (.cells cur t fz) → (fz.2 = 0 ∨ o + i + vs.length ≤ fz.1) → o + i + vs.length ≤ cur.size → (∀ v ∈ vs, v.oneCell' = true) →
    (storeCells ⟨g, o, none⟩ vs i).run Try.prog w = .ok () (w.setRow g (cur.toList.take (o + i) ++ vs ++ cur.toList.drop (o + i + vs.length)).toArray)
  | [], o, i, cur, w, hg, _, _, _ => by
    simp only [storeCells, List.append_nil, List.length_nil, Nat.add_zero, List.take_append_drop, Array.toArray_toList]
    rw [setRow_self w g cur t fz hg]
    rfl
  | v :: r, o, i, cur, w, hg, hf, hl, h1 => by
    have hlen : (v :: r).length = r.length + 1 := rfl
    rw [hlen] at hf hl
    have hin : o + i < cur.size := by omega
    have hc : w.cell? ⟨g, o + i, none⟩ = some cur[o + i] := by rw [cell_of_row w g _ cur t fz hg]; exact Array.getElem?_eq_getElem hin
    have hfr : w.frozen? ⟨g, o + i, none⟩ = false := by
      obtain ⟨lo, hi⟩ := fz
      simp only [World.frozen?, hg, Bool.and_eq_false_iff, decide_eq_false_iff_not]
      simp only at hf
      rcases hf with h | h
      · exact .inr (by omega)
      · exact .inl (by omega)
    have h2 : (store ((⟨g, o, none⟩ : Addr).add i) v).run Try.prog w = .ok () (w.setRow g (cur.setIfInBounds (o + i) v)) := by
      rw [Addr.add_mid, run_store Try.prog w _ v _ (h1 v (List.mem_cons_self ..)), hc]
      simp [hfr, setCell_eq_setRow w g (o + i) cur t fz v hg]
    have h3 := store_free g t fz r o (i + 1) (cur.setIfInBounds (o + i) v) (w.setRow g (cur.setIfInBounds (o + i) v)) (setRow_heap w g cur _ t _ hg) (by omega) (by rw [Array.size_setIfInBounds]; omega) (fun u hu => h1 u (List.mem_cons_of_mem _ hu))
    simp only [storeCells, Sem.run_bind, h2, Result.andThen_ok, h3, setRow_setRow]
    congr 3
    have e := list_seg_step cur.toList (o + i) v r (by simp; omega)
    simpa [Array.toList_setIfInBounds, Nat.add_assoc] using e

/-- A text appended to a row of bytes. -/
theorem append_bytes {w : World} {base : Nat} {v : Value} {bs : List UInt8} (h : BRowAt w base v bs) (ty : TypeId) (l : List UInt8) (hl : bs.length + l.length ≤ 140737488355328) (hb : base ≤ w.heap.size) :
    ∃ v' w', (Builtin.append_ #[51, 9] ty #[v, .string (strOf l)]).run Try.prog w = .ok v' w' ∧ BRowAt w' base v' (bs ++ l) ∧ w.grownBy w' v.ownBlock := by
  obtain ⟨i0, hi, hz0, hz1, hz2⟩ := info_parts infoByte
  have hsz : (strOf l).size = l.length := strOf_size l
  have own : w.ownsRow base 5 1 v bs.length (Lib.byteCells bs) → ∃ v' w', (Builtin.append_ #[51, 9] ty #[v, .string (strOf l)]).run Try.prog w = .ok v' w' ∧ BRowAt w' base v' (bs ++ l) ∧ w.grownBy w' v.ownBlock := fun ho => by
    obtain ⟨v', w', h1, h2, h3, _⟩ := Lib.run_append_own_string (P := Try.prog) w base 51 9 ty 5 i0 Try.underlying51 Try.underlying9 hi hz0 hz1 hz2 v bs.length (Lib.byteCells bs) ho (strOf l) (by unfold maxLen; omega) (by omega) hb
    refine ⟨v', w', h1, BRowAt.of ?_, h3⟩
    rw [List.length_append, byteCells_app, ← hsz]
    exact h2
  rcases h with ⟨rfl, rfl⟩ | ⟨g, cap, cur, fz, rfl, hbg, hg, hf, hn, hm, hs, ht⟩
  · exact own (World.ownsRow_nil _ _ _ _)
  · by_cases hroom : bs.length + l.length ≤ cap
    · have hst := store_free g 5 fz (Lib.strCells (strOf l)) bs.length 0 cur w hg (by rw [strCells_strOf, byteCells_len]; omega) (by rw [strCells_strOf, byteCells_len]; omega) (Lib.strCells_oneCell _)
      have hfc := Lib.run_firstCells_string (P := Try.prog) w 1 (strOf l)
      rw [hsz] at hfc
      simp only [Nat.add_zero, Lib.strCells_length, hsz] at hst
      refine ⟨.slice (some ⟨g, 0, none⟩) (bs.length + l.length) cap, w.setRow g (cur.toList.take bs.length ++ Lib.strCells (strOf l) ++ cur.toList.drop (bs.length + l.length)).toArray, ?_, .inr ⟨g, cap, _, fz, by rw [List.length_append], hbg, setRow_heap w g cur _ _ _ hg, hf, by rw [List.length_append]; exact hroom, hm, ?_, ?_⟩, ⟨rfl, rfl, rfl, by simp, fun k _ hk => setRow_other w g k _ (fun e => hk (by simp [Value.ownBlock, e]))⟩⟩
      · simp [Builtin.append_, run_underlying Try.underlying51, run_underlying Try.underlying9, sizeOf, typeInfo, hi, hz1, Builtin.lenOf, hsz, hroom, hfc, Addr.add_lit, hst]
      · rw [strCells_strOf]
        simp only [List.size_toArray, List.length_append, List.length_take, List.length_drop, Array.length_toList, byteCells_len]
        omega
      · rw [ht, strCells_strOf, ← byteCells_app, ← byteCells_len (bs ++ l)]
        exact List.take_left
    · have holds : ∀ j u, (Lib.byteCells bs)[j]? = some u → w.cell? ((⟨g, 0, none⟩ : Addr).add j) = some u := fun j u hu => by
        rw [Addr.add_mid, Nat.zero_add, cell_of_row w g j cur _ fz hg]
        rw [← ht, List.getElem?_take] at hu
        split at hu
        · simpa using hu
        · cases hu
      have hr := Lib.run_append_grow_string (P := Try.prog) w 51 9 ty 5 i0 (.int .u8 0) Try.underlying51 Try.underlying9 hi hz0 ⟨g, 0, none⟩ bs.length cap (Lib.byteCells bs) (by rw [hz1, byteCells_len, Nat.mul_one]) holds (strOf l) (by omega) (by omega) (by rw [hz2]; exact growslice_fits (by omega) (by omega))
      rw [hsz] at hr
      have hge := grownCap_ge w (bs.length + l.length) cap 5
      have hcm2 := grownCap_le_maxLen w (bs.length + l.length) cap 5 (by unfold maxLen; omega)
      refine ⟨_, _, hr, .inr ⟨w.heap.size, _, _, (0, 0), by rw [List.length_append], hb, heap_alloc_new w.drew _, .inl rfl, by rw [List.length_append]; exact hge, hcm2, ?_, ?_⟩, ⟨rfl, rfl, rfl, by simp, fun k hk _ => heap_alloc_old w.drew _ hk⟩⟩
      · have hz1 : (Value.int IntKind.u8 0).cells.size = 1 := rfl
        simp only [Array.size_append, List.size_toArray, size_zeroCells, hz1, byteCells_len, strCells_strOf]
        omega
      · simp only [Array.toList_append, List.append_assoc]
        rw [strCells_strOf, ← List.append_assoc, ← byteCells_app, ← byteCells_len (bs ++ l)]
        exact List.take_left

theorem wpList_append_B {w : World} {ops : Array Oper} {rest : List Oper} {o : Oper} {a : Act} {Q : Exit → Act → World → Prop} (hgd : o.guard = none) (sl x : Operand)
    (ho : o.op = .call { callee := .builtin .append, args := #[sl, x], argTypes := #[51, 9] }) (base : Nat) (v : Value) (bs l : List UInt8) (s : ByteArray) (hsl : s = strOf l) (hs : a.eval sl = v) (hx : a.eval x = .string s) (hB : BRowAt w base v bs)
    (hl : bs.length + l.length ≤ 140737488355328) (hb : base ≤ w.heap.size)
    (h : ∀ v' w', BRowAt w' base v' (bs ++ l) → w.grownBy w' v.ownBlock → wpList Try.prog ops Q rest (a.put o.dst v') w') : wpList Try.prog ops Q (o :: rest) a w := by
  subst hsl
  refine wpList_plain hgd fun K hK => ?_
  obtain ⟨v', w', hr, h2, h3⟩ := append_bytes hB o.type l hl hb
  unfold Oper.wp execOp
  simp only [ho, resolve, invoke, builtin, Sem.run_bind, Sem.run_pure, Result.andThen_ok, List.map_toArray, List.map_cons, List.map_nil, hs, hx, hr]
  exact hK _ _ (h v' w' h2 h3)

theorem step_append_B {w : World} {ops : Array Oper} {o : Oper} {a : Act} {K : Act → World → Prop} {Q : Exit → Act → World → Prop} {E : Prop} (hg : o.guard = none) (sl x : Operand)
    (ho : o.op = .call { callee := .builtin .append, args := #[sl, x], argTypes := #[51, 9] }) (base : Nat) (v : Value) (bs l : List UInt8) (s : ByteArray) (hsl : s = strOf l) (hs : a.eval sl = v) (hx : a.eval x = .string s) (hB : BRowAt w base v bs)
    (hl : bs.length + l.length ≤ 140737488355328) (hb : base ≤ w.heap.size)
    (h : ∀ v' w', BRowAt w' base v' (bs ++ l) → w.grownBy w' v.ownBlock → K (a.put o.dst v') w') : if Region.wanted o (yielded ops a.tmps) = true then Oper.wp Try.prog o a w K Q else E := by
  have hw : Region.wanted o (yielded ops a.tmps) = true := by simp [Region.wanted, hg]
  rw [if_pos hw]
  subst hsl
  obtain ⟨v', w', hr, h2, h3⟩ := append_bytes hB o.type l hl hb
  unfold Oper.wp execOp
  simp only [ho, resolve, invoke, builtin, Sem.run_bind, Sem.run_pure, Result.andThen_ok, List.map_toArray, List.map_cons, List.map_nil, hs, hx, hr]
  exact h v' w' h2 h3

end Go.Proofs.Ytkhmhcinepfemaa
