/-
  termsHold, walked: the end marker ahead, then terminals' texts, no two alike, their levels.
-/
import Derived.Test.YtkbpnafahimeiaaLeftsWalk
import Derived.Laws.StructEq
namespace Go.Proofs.Ytkbpnafahimeiaa
open Go.RowKit Go.Maps Go.Shelf

attribute [local go_sem] Oper.semAt_some

theorem neqTerm (s s' : ByteArray) (l l' : Int) (w : World) : (binOp .neq 74 (.agg #[.string s, .int .i64 l]) (.agg #[.string s', .int .i64 l'])).run Try.prog w = .ok (.bool (!(s.toList == s'.toList && l == l'))) w := by
  have u3 := Try.underlying3
  have u9 := Try.underlying9
  have hS : Try.prog.underlying 74 = some (.struct (Try.prog.fieldsOf 74)) := by kernel_rfl
  have hp : Try.prog.stoodInHeld 74 = false := by kernel_rfl
  rw [run_neq_struct, show (10000 : Nat) = 9999 + 1 from rfl, run_equalIn_agg w 9999 74 _ _ hS hp]
  simp only [Program.fieldsOf, Try.underlying74]
  go_simp
  by_cases h1 : s.toList = s'.toList <;> by_cases h2 : l = l' <;> simp [h1, h2]

/-- Terminals, wherever they lie. -/
def TermsAt (w : World) (a : Option Addr) (ts : List (ByteArray × Int)) : Prop :=
  ts = [] ∨ ∃ b off, a = some ⟨b, off, none⟩ ∧ ∀ i, i < ts.length → w.cell? ⟨b, off + i * 2, none⟩ = some (.string (ts.getD i (⟨#[]⟩, 0)).1) ∧ w.cell? ⟨b, off + i * 2 + 1, none⟩ = some (.int .i64 (ts.getD i (⟨#[]⟩, 0)).2)

theorem TermsAt.kept {w w' : World} {a : Option Addr} {ts : List (ByteArray × Int)} (h : TermsAt w a ts) (hg : w.grownBy w' none) : TermsAt w' a ts := by
  rcases h with h | ⟨b, off, ha, hc⟩
  · exact .inl h
  · exact .inr ⟨b, off, ha, fun i hi => ⟨hg.cell (hc i hi).1 (by simp), hg.cell (hc i hi).2 (by simp)⟩⟩

def termOK (ln : Nat) (t : ByteArray × Int) : Prop := isTextB t.1 = true ∧ 0 ≤ t.2 ∧ t.2 ≤ ln
def termsOK (ts : List (ByteArray × Int)) (ln : Nat) : Prop := ∃ rest, ts = (⟨#[]⟩, 0) :: rest ∧ (∀ t ∈ rest, termOK ln t) ∧ (rest.map (·.1)).Nodup

theorem toList_empty (s : ByteArray) : s.toList = (ByteArray.mk #[]).toList ↔ s = ⟨#[]⟩ := by
  rw [ByteArray.toList_eq, ByteArray.toList_eq]
  exact ⟨bytes_ext, fun h => by rw [h]⟩

theorem termsHold_none (ta na la pa : Option Addr) (nn ln pn tc nc lc pc : Nat) (st : Int) (w : World) :
    Calls Try.prog 64 #[.agg #[.slice ta 0 tc, .slice na nn nc, .slice la ln lc, .int .i64 st, .slice pa pn pc]] w fun e w' => e = .returned (.bool false) ∧ w.grownBy w' none := by
  go_enter Try.func64, Try.ntmps64
  go_wp2_with fail
  go_ret
  exact ⟨rfl, World.grownBy_alloc _ _ none⟩

/-- The texts of the first k. -/
structure TxAt (w wr : World) (Bg : Nat) (cs : Array Value) (rest : List (ByteArray × Int)) (ln k : Nat) (v : Value) : Prop where
  own : wr.ownsRow (Bg + 1) 9 1 v k ((rest.take k).map fun t => Value.string t.1)
  ok : ∀ t ∈ rest.take k, termOK ln t
  grown : w.grownBy wr none
  box : wr.heap[Bg]? = some (.cells cs 42 (0, 0))
  lo : w.heap.size ≤ Bg

theorem TxAt.kept {w wr wx : World} {Bg ln k : Nat} {cs : Array Value} {rest : List (ByteArray × Int)} {v : Value} (h : TxAt w wr Bg cs rest ln k v) (hg : wr.grownBy wx none) : TxAt w wx Bg cs rest ln k v :=
  ⟨h.own.kept hg (by cases hv : v.ownBlock <;> simp), h.ok, grown_trans h.grown hg, (hg.block Bg (Array.getElem?_eq_some_iff.1 h.box).1 (by simp)).trans h.box, h.lo⟩
theorem TxAt.push {w wr w1 w3 : World} {Bg ln k g c : Nat} {cs : Array Value} {rest : List (ByteArray × Int)} {v : Value} (h : TxAt w wr Bg cs rest ln k v) (hk : k < rest.length) (hg1 : wr.grownBy w1 none) (ht : termOK ln (rest.getD k (⟨#[]⟩, 0)))
    (hown : w3.ownsRow (Bg + 1) 9 1 (.slice (some ⟨g, 0, none⟩) (k + 1) c) (k + 1) (((rest.take k).map fun t => Value.string t.1) ++ [.string (rest.getD k (⟨#[]⟩, 0)).1])) (hg3 : w1.grownBy w3 v.ownBlock) : TxAt w w3 Bg cs rest ln (k + 1) (.slice (some ⟨g, 0, none⟩) (k + 1) c) := by
  have htk : rest.take (k + 1) = rest.take k ++ [rest.getD k (⟨#[]⟩, 0)] := by rw [List.take_succ_eq_append_getElem hk]; simp [List.getD, hk]
  have hlt : Bg < wr.heap.size := (Array.getElem?_eq_some_iff.1 h.box).1
  have hne : ∀ i, i ≤ Bg → some i ≠ v.ownBlock := fun i hi e => by
    have := (h.own.lt i e.symm).1
    omega
  have hlo := h.lo
  refine ⟨by rw [htk, List.map_append]; exact hown, fun t hm => ?_, ?_, ?_, h.lo⟩
  · rw [htk] at hm
    rcases List.mem_append.1 hm with hm | hm
    · exact h.ok t hm
    · simp only [List.mem_singleton] at hm; rw [hm]; exact ht
  · have hG := grown_trans h.grown hg1
    exact ⟨hg3.os.trans hG.os, hg3.tape.trans hG.tape, hg3.output.trans hG.output, Nat.le_trans hG.size hg3.size, fun i hi _ => (hg3.block i (Nat.lt_of_lt_of_le hi hG.size) (hne i (by omega))).trans (hG.block i hi (by simp))⟩
  · rw [hg3.block Bg (Nat.lt_of_lt_of_le hlt hg1.size) (hne Bg (Nat.le_refl _)), hg1.block Bg hlt (by simp)]
    exact h.box

set_option maxRecDepth 100000 in
set_option maxHeartbeats 600000 in
theorem termsHold_some (b off : Nat) (na la pa : Option Addr) (nn ln pn tc nc lc pc : Nat) (st : Int) (ts : List (ByteArray × Int)) (w : World) (hT : TermsAt w (some ⟨b, off, none⟩) ts) (h0 : 0 < ts.length) (hn : ts.length ≤ 65) (hc : ts.length ≤ tc) (htc : ¬ tc = 1) (r : Bool) (hr : r = true ↔ termsOK ts ln) :
    Calls Try.prog 64 #[.agg #[.slice (some ⟨b, off, none⟩) ts.length tc, .slice na nn nc, .slice la ln lc, .int .i64 st, .slice pa pn pc]] w fun e w' => e = .returned (.bool r) ∧ w.grownBy w' none := by
  obtain ⟨j0, hj, hy0, hy1, hy2⟩ := info_parts infoStr
  obtain ⟨t0, rest, rfl⟩ : ∃ t0 rest, ts = t0 :: rest := by
    cases ts with
    | nil => simp at h0
    | cons t0 rest => exact ⟨t0, rest, rfl⟩
  obtain ⟨s0, l0⟩ := t0
  have hcs : ∀ i, i < rest.length + 1 → w.cell? ⟨b, off + i * 2, none⟩ = some (.string (((s0, l0) :: rest).getD i (⟨#[]⟩, 0)).1) ∧ w.cell? ⟨b, off + i * 2 + 1, none⟩ = some (.int .i64 (((s0, l0) :: rest).getD i (⟨#[]⟩, 0)).2) := by
    rcases hT with h | ⟨b', off', he, h⟩
    · cases h
    · simp only [Option.some.injEq, Addr.mk.injEq, and_true] at he
      obtain ⟨rfl, rfl⟩ := he
      exact h
  obtain ⟨m, hm⟩ : ∃ m, m = rest.length := ⟨_, rfl⟩
  have HM : Hid (rest.length = m) := hm.symm
  have hlen : ((s0, l0) :: rest).length = m + 1 := by rw [hm]; rfl
  rw [hlen] at hn hc ⊢
  have c0 : ∀ X, w.grownBy X none → X.cell? ⟨b, off, none⟩ = some (.string s0) ∧ X.cell? ⟨b, off + 1, none⟩ = some (.int .i64 l0) := fun X hX => by
    obtain ⟨h1, h2⟩ := hcs 0 (by omega)
    exact ⟨hX.cell (by simpa using h1) (by simp), hX.cell (by simpa using h2) (by simp)⟩
  have HCS : Hid (∀ X, w.grownBy X none → ∀ i, i < rest.length → X.cell? ⟨b, off + 2 + i * 2, none⟩ = some (.string (rest.getD i (⟨#[]⟩, 0)).1) ∧ X.cell? ⟨b, off + 2 + i * 2 + 1, none⟩ = some (.int .i64 (rest.getD i (⟨#[]⟩, 0)).2)) := fun X hX i hi => by
    obtain ⟨h1, h2⟩ := hcs (i + 1) (by omega)
    have e : off + (i + 1) * 2 = off + 2 + i * 2 := by omega
    rw [e] at h1 h2
    exact ⟨hX.cell (by simpa using h1) (by simp), hX.cell (by simpa using h2) (by simp)⟩
  have HRR : Hid (r = true ↔ termsOK ((s0, l0) :: rest) ln) := hr
  have hA := c0 (w.alloc (.cells #[.slice (some ⟨b, off, none⟩) (m + 1) tc, .slice na nn nc, .slice la ln lc, .int .i64 st, .slice pa pn pc] 42)) (World.grownBy_alloc _ _ none)
  obtain ⟨hA1, hA2⟩ := hA
  have hq := fun w => neqTerm s0 ⟨#[]⟩ l0 0 w
  have hqg : Try.prog.eqGuardType Try.prog.depth 74 = false := by kernel_rfl
  clear hcs hT h0 hlen hr c0 hm
  by_cases hmk : s0 = ⟨#[]⟩ ∧ l0 = 0
  · obtain ⟨rfl, rfl⟩ := hmk
    have hq' : ∀ w, (binOp .neq 74 (.agg #[.string ⟨#[]⟩, .int .i64 0]) (.agg #[.string ⟨#[]⟩, .int .i64 0])).run Try.prog w = .ok (.bool false) w := fun w => by rw [hq]; simp
    clear hq
    have HBX : Hid (∀ w1, (w.alloc (.cells #[.slice (some ⟨b, off, none⟩) (m + 1) tc, .slice na nn nc, .slice la ln lc, .int .i64 st, .slice pa pn pc] 42)).grownBy w1 none → w1.heap[w.heap.size]? = some (.cells #[.slice (some ⟨b, off, none⟩) (m + 1) tc, .slice na nn nc, .slice la ln lc, .int .i64 st, .slice pa pn pc] 42 (0, 0))) := fun w1 hg => (hg.block w.heap.size (by simp) (by simp)).trans (heap_alloc_last w _)
    have HSL : Hid (∀ W, w.grownBy W none → ∀ g c, W.ownsRow (w.heap.size + 1) 9 1 (.slice g m c) m ((rest.take m).map fun t => Value.string t.1) → (∀ t ∈ rest.take m, termOK ln t) → Calls Try.prog 90 #[.slice g m c] W fun e w' => e = .returned (.bool r) ∧ W.grownBy w' none) := fun W hW g c hown hall => by
      have ht : rest.take m = rest := List.take_of_length_le (Nat.le_of_eq HM.out)
      rw [ht] at hown hall
      have e1 : (rest.map fun t => Value.string t.1) = (rest.map (·.1)).map Value.string := by simp
      have hlm : (rest.map (·.1)).length = m := by rw [List.length_map]; exact HM.out
      rw [e1] at hown
      have hS : StrsIn W (.slice g m c) (rest.map (·.1)) := by unfold StrsIn; rw [hlm]; exact owns_base hown
      have := noTwoAlike_any g c (rest.map (·.1)) W (hS.strsAt rfl) (by omega) (fun s hs => by
        obtain ⟨t, ht, rfl⟩ := List.mem_map.1 hs
        exact isTextB_size (hall t ht).1)
      rw [hlm] at this
      refine this.mono ?_
      rintro e w' ⟨r', rfl, hr', hg⟩
      have : r' = r := by
        rw [Bool.eq_iff_iff, hr', HRR.out]
        constructor
        · intro hnd; exact ⟨rest, rfl, hall, hnd⟩
        · rintro ⟨rest', he, _, hnd⟩
          simp at he
          rw [he]; exact hnd
      rw [this]
      exact ⟨rfl, hg⟩
    have HRF : Hid (∀ i, i < m → ¬ termOK ln (rest.getD i (⟨#[]⟩, 0)) → r = false) := fun i hi hno => Bool.eq_false_iff.2 fun hh => by
      obtain ⟨rest', he, hall, _⟩ := HRR.out.1 hh
      simp at he
      rw [← he] at hall
      have hil : i < rest.length := by rw [HM.out]; exact hi
      refine hno (hall _ ?_)
      have : rest.getD i (⟨#[]⟩, 0) = rest[i] := by simp [List.getD, hil]
      rw [this]; exact List.getElem_mem _
    go_enter Try.func64, Try.ntmps64
    go_wp2_with (at_make; refine wpList_make_own _ rfl _ _ 29 rfl (w.heap.size + 1) 9 j0 (.string ByteArray.empty) 1 Try.underlying29 hj hy0 hy1 .i64 .i64 _ m rfl rfl (by simp) (by rw [hy2]; omega) (by unfold maxLen; omega) (by simp) ?_; intro w1 hown1 hg1; have hbx1 := HBX.out w1 hg1; have k0 := cell_of_row w1 w.heap.size 0 _ _ _ hbx1; simp only [List.getElem?_toArray, List.getElem?_cons_zero] at k0)
    clear hA1 hA2
    have HX0 : Hid (TxAt w w1 w.heap.size #[.slice (some ⟨b, off, none⟩) (m + 1) tc, .slice na nn nc, .slice la ln lc, .int .i64 st, .slice pa pn pc] rest ln 0 (.slice (some ⟨w.heap.size + 1, 0, none⟩) 0 m)) := ⟨by simpa using hown1, fun t ht => by simp at ht, grown_trans (World.grownBy_alloc _ _ none) hg1, hbx1, Nat.le_refl _⟩
    clear hown1 hg1 hbx1 k0
    go_loopw [27, 3] (fun i v3 wr => ∃ k : Nat, k ≤ m ∧ i = .int .i64 k ∧ ∃ g c, v3 = .slice (some ⟨g, 0, none⟩) k c ∧ TxAt w wr w.heap.size #[.slice (some ⟨b, off, none⟩) (m + 1) tc, .slice na nn nc, .slice la ln lc, .int .i64 st, .slice pa pn pc] rest ln k (.slice (some ⟨g, 0, none⟩) k c)) (fun i _ _ => m - (intOf i).toNat)
    case atStart => exact ⟨0, Nat.zero_le _, rfl, _, m, rfl, HX0.out⟩
    case round =>
      obtain ⟨k, hk, rfl, g3, c3, rfl, hX⟩ := hrel
      have HX : Hid (TxAt w wr w.heap.size #[.slice (some ⟨b, off, none⟩) (m + 1) tc, .slice na nn nc, .slice la ln lc, .int .i64 st, .slice pa pn pc] rest ln k (.slice (some ⟨g3, 0, none⟩) k c3)) := hX
      clear hX HX0
      by_cases hlt : k < m
      · have hkr : k < rest.length := by rw [HM.out]; exact hlt
        obtain ⟨h1, h2⟩ := HCS.out wr HX.out.grown k hkr
        have hrf := HRF.out k hlt
        have hbx := HX.out.box
        obtain ⟨s, hs⟩ : ∃ s, s = (rest.getD k (⟨#[]⟩, 0)).1 := ⟨_, rfl⟩
        obtain ⟨l, hl⟩ : ∃ l, l = (rest.getD k (⟨#[]⟩, 0)).2 := ⟨_, rfl⟩
        have HT : Hid (rest.getD k (⟨#[]⟩, 0) = (s, l)) := by
          show rest.getD k (⟨#[]⟩, 0) = (s, l)
          rw [hs, hl]
        rw [← hs] at h1
        rw [← hl] at h2
        clear hs hl
        have hIT := fun o => isText_any s (wr.alloc o)
        have hIL := fun o => isLevel_any (some ⟨b, off, none⟩) na la pa (m + 1) nn ln pn tc nc lc pc st l (wr.alloc o)
        have k0 : ∀ o, (wr.alloc o).cell? ⟨w.heap.size, 0, none⟩ = some (.slice (some ⟨b, off, none⟩) (m + 1) tc) := fun o => (World.grownBy_alloc wr o none).cell (by rw [cell_of_row wr w.heap.size 0 _ _ _ hbx]; rfl) (by simp)
        have k1 : ∀ o, (wr.alloc o).cell? ⟨w.heap.size, 1, none⟩ = some (.slice na nn nc) := fun o => (World.grownBy_alloc wr o none).cell (by rw [cell_of_row wr w.heap.size 1 _ _ _ hbx]; rfl) (by simp)
        have k2 : ∀ o, (wr.alloc o).cell? ⟨w.heap.size, 2, none⟩ = some (.slice la ln lc) := fun o => (World.grownBy_alloc wr o none).cell (by rw [cell_of_row wr w.heap.size 2 _ _ _ hbx]; rfl) (by simp)
        have k3 : ∀ o, (wr.alloc o).cell? ⟨w.heap.size, 3, none⟩ = some (.int .i64 st) := fun o => (World.grownBy_alloc wr o none).cell (by rw [cell_of_row wr w.heap.size 3 _ _ _ hbx]; rfl) (by simp)
        have k4 : ∀ o, (wr.alloc o).cell? ⟨w.heap.size, 4, none⟩ = some (.slice pa pn pc) := fun o => (World.grownBy_alloc wr o none).cell (by rw [cell_of_row wr w.heap.size 4 _ _ _ hbx]; rfl) (by simp)
        clear hbx
        cases htx : isTextB s with
        | false =>
          have hf : r = false := hrf (by rw [HT.out]; exact fun h => by have := h.1; simp [htx] at this)
          have HG : Hid (∀ o, w.grownBy (wr.alloc o) none) := fun o => grown_trans HX.out.grown (World.grownBy_alloc _ _ none)
          clear hrf HSL HRF HX HCS hIL
          go_wp2_with (go_at_call 48; refine (hIT _).mono ?_; rintro e w' ⟨rfl, hw'⟩; subst hw'; rw [htx])
          go_ret
          exact ⟨by first | rfl | (rw [hf]; rfl), HG.out _⟩
        | true =>
          cases hlv : (decide (0 ≤ l) && decide (l ≤ (ln : Int))) with
          | false =>
            have hf : r = false := hrf (by rw [HT.out]; exact fun h => by have h3 := h.2.1; have h4 := h.2.2; simp at h3 h4; simp [h3, h4] at hlv)
            have HG : Hid (∀ o, w.grownBy (wr.alloc o) none) := fun o => grown_trans HX.out.grown (World.grownBy_alloc _ _ none)
            clear hrf HSL HRF HX HCS
            go_wp2_with (go_at_call 48; refine (hIT _).mono ?_; rintro e w' ⟨rfl, hw'⟩; subst hw'; rw [htx])
            refine (hIL _).mono ?_
            rintro e w2 ⟨rfl, hg2⟩
            rw [hlv]
            have HG2 : Hid (w.grownBy w2 none) := grown_trans (HG.out _) hg2
            clear hg2 hIL hIT
            go_wp2_with fail
            go_ret
            exact ⟨by first | rfl | (rw [hf]; rfl), HG2.out⟩
          | true =>
            have HTK : Hid (termOK ln (rest.getD k (⟨#[]⟩, 0))) := by
              show termOK ln (rest.getD k (⟨#[]⟩, 0))
              rw [HT.out]
              simp at hlv
              exact ⟨htx, hlv.1, hlv.2⟩
            clear hrf HSL HRF HCS
            go_wp2_with (go_at_call 48; refine (hIT _).mono ?_; rintro e w' ⟨rfl, hw'⟩; subst hw'; rw [htx])
            refine (hIL _).mono ?_
            rintro e w2 ⟨rfl, hg2⟩
            rw [hlv]
            have hcp : w2.cell? ⟨wr.heap.size, 0, none⟩ = some (.string s) := hg2.cell (by rw [cell_of_row _ _ _ _ _ _ (heap_alloc_last wr _)]; rfl) (by simp)
            have hG2 : wr.grownBy w2 none := grown_trans (World.grownBy_alloc _ _ none) hg2
            have HG2 : Hid (wr.grownBy w2 none) := hG2
            have HX2 : Hid (TxAt w w2 w.heap.size #[.slice (some ⟨b, off, none⟩) (m + 1) tc, .slice na nn nc, .slice la ln lc, .int .i64 st, .slice pa pn pc] rest ln k (.slice (some ⟨g3, 0, none⟩) k c3)) := HX.out.kept hG2
            have hsz : w.heap.size < w2.heap.size := (Array.getElem?_eq_some_iff.1 HX2.out.box).1
            clear hg2 hG2 hIL hIT k0 k1 k2 k3 k4 HX
            go_wp2_with (at_builtin; refine wpList_append_lies _ rfl _ _ 29 rfl (w.heap.size + 1) 9 j0 (.string ByteArray.empty) 1 16 Try.underlying29 hj hy0 hy1 hy2 rfl (by decide) (.slice (some ⟨g3, 0, none⟩) k c3) k ((rest.take k).map fun t => Value.string t.1) rfl (HX2.out.own.alloc _) ⟨w2.heap.size, 0, none⟩ 1 1 [.string s] rfl rfl (cell_one_new _ _ _) (str_oneCell s) (by omega) (by unfold maxLen; omega) (by omega) (by simp; omega) _ rfl ?_; intro g4 c4 w4 hown4 hg4 hloc4 hlt4)
            have HFIN : Hid (TxAt w w4 w.heap.size #[.slice (some ⟨b, off, none⟩) (m + 1) tc, .slice na nn nc, .slice la ln lc, .int .i64 st, .slice pa pn pc] rest ln (k + 1) (.slice (some ⟨g4, 0, none⟩) (k + 1) c4)) := HX2.out.push hkr (World.grownBy_alloc _ _ none) HTK.out (by rw [HT.out]; exact hown4) hg4
            clear hown4 hg4 hloc4 hlt4
            go_wp2_with fail
            go_roundw
            case rel => exact ⟨k + 1, by omega, by go_num, g4, c4, rfl, HFIN.out⟩
            case measure => simp [intOf]; omega
      · obtain rfl : k = m := by omega
        have hnt := HSL.out wr HX.out.grown (some ⟨g3, 0, none⟩) c3 HX.out.own HX.out.ok
        have HG : Hid (w.grownBy wr none) := HX.out.grown
        clear HSL HRF HX HCS
        go_wp2_with fail
        refine hnt.mono ?_
        rintro e w5 ⟨rfl, hg5⟩
        go_wp2_with fail
        go_ret
        exact ⟨rfl, grown_trans HG.out hg5⟩
  · have hb : (!(s0.toList == (ByteArray.mk #[]).toList && l0 == 0)) = true := by
      rw [Bool.not_eq_true', Bool.eq_false_iff]
      intro h
      rw [Bool.and_eq_true] at h
      exact hmk ⟨(toList_empty s0).1 (by simpa using h.1), by simpa using h.2⟩
    rw [hb] at hq
    have hrf : r = false := Bool.eq_false_iff.2 fun hh => by
      obtain ⟨rest', he, _⟩ := HRR.out.1 hh
      simp at he
      exact hmk he.1
    clear hb hmk
    go_enter Try.func64, Try.ntmps64
    go_wp2_with fail
    go_ret
    exact ⟨by first | rfl | (rw [hrf]; rfl), World.grownBy_alloc _ _ none⟩

end Go.Proofs.Ytkbpnafahimeiaa
