import Derived.Test.YthoamlahbnphkaaGreatQfkkcbeaigjcf
import Derived.Laws.StructEq
import Derived.Deep.LoopGhost

/-
  termsHold, walked: the end marker ahead, then terminals' texts, no two alike, their levels.
-/
namespace Go.Proofs.YthoamlahbnphkaaGreat
open Go.RowKit Go.Maps Go.Shelf

attribute [local go_sem] Oper.semAt_some

theorem neqTerm (s s' : ByteArray) (l l' : Int) (w : World) : (binOp .neq 88 (.agg #[.string s, .int .i64 l]) (.agg #[.string s', .int .i64 l'])).run Tryz.prog w = .ok (.bool (!(s.toList == s'.toList && l == l'))) w := by
  have u3 := Tryz.underlying3
  have u9 := Tryz.underlying9
  have hS : Tryz.prog.underlying 88 = some (.struct (Tryz.prog.fieldsOf 88)) := by kernel_rfl
  have hp : Tryz.prog.stoodInHeld 88 = false := by kernel_rfl
  rw [run_neq_struct, show (10000 : Nat) = 9999 + 1 from rfl, run_equalIn_agg w 9999 88 _ _ hS hp]
  simp only [Program.fieldsOf, Tryz.underlying88]
  go_simp
  by_cases h1 : s.toList = s'.toList <;> by_cases h2 : l = l' <;> simp [h1, h2]

/-- Terminals, wherever they lie. -/
def TermsAt (w : World) (a : Option Addr) (ts : List (ByteArray × Int)) : Prop :=
  ts = [] ∨ ∃ b off, a = some ⟨b, off, none⟩ ∧ ∀ i, i < ts.length → w.cell? ⟨b, off + i * 2, none⟩ = some (.string (ts.getD i (⟨#[]⟩, 0)).1) ∧ w.cell? ⟨b, off + i * 2 + 1, none⟩ = some (.int .i64 (ts.getD i (⟨#[]⟩, 0)).2)

theorem TermsAt.kept {w w' : World} {a : Option Addr} {ts : List (ByteArray × Int)} (h : TermsAt w a ts) (hg : w.grownBy w' none) : TermsAt w' a ts := by
  rcases h with h | ⟨b, off, ha, hc⟩
  · exact .inl h
  · exact .inr ⟨b, off, ha, fun i hi => ⟨hg.cell (hc i hi).1 (by simp), hg.cell (hc i hi).2 (by simp)⟩⟩

def termOK (ln : Nat) (t : ByteArray × Int) : Prop := isTextB t.1 = true ∧ 0 ≤ t.2 ∧ t.2 ≤ ln
def termsOK (ts : List (ByteArray × Int)) (ln : Nat) : Prop := ∃ rest, ts = (⟨#[]⟩, 0) :: rest ∧ (∀ t ∈ rest, termOK ln t) ∧ (rest.map (·.1)).Nodup

theorem toList_empty (s : ByteArray) : s.toList = (ByteArray.mk #[]).toList ↔ s = ⟨#[]⟩ := by
  rw [ByteArray.toList_eq, ByteArray.toList_eq]
  exact ⟨bytes_ext, fun h => by rw [h]⟩

theorem termsHold_none (ta na la pa : Option Addr) (nn ln pn tc nc lc pc : Nat) (st : Int) (w : World) :
    Calls Tryz.prog 106 #[.agg #[.slice ta 0 tc, .slice na nn nc, .slice la ln lc, .int .i64 st, .slice pa pn pc]] w fun e w' => e = .returned (.bool false) ∧ w.grownBy w' none := by
  go_enter Tryz.func106, Tryz.ntmps106
  go_wp2_with fail
  go_ret
  exact ⟨rfl, World.grownBy_alloc _ _ none⟩

/-- The texts of the first k. -/
structure TxAt (w wr : World) (Bg : Nat) (cs : Array Value) (rest : List (ByteArray × Int)) (ln k : Nat) (v : Value) : Prop where
  own : wr.ownsRow (Bg + 1) 9 1 v k ((rest.take k).map fun t => Value.string t.1)
  ok : ∀ t ∈ rest.take k, termOK ln t
  grown : w.grownBy wr none
  box : wr.heap[Bg]? = some (.cells cs 27 (0, 0))
  lo : w.heap.size ≤ Bg

theorem TxAt.kept {w wr wx : World} {Bg ln k : Nat} {cs : Array Value} {rest : List (ByteArray × Int)} {v : Value} (h : TxAt w wr Bg cs rest ln k v) (hg : wr.grownBy wx none) : TxAt w wx Bg cs rest ln k v :=
  ⟨h.own.kept hg (by cases hv : v.ownBlock <;> simp), h.ok, grown_trans h.grown hg, (hg.block Bg (Array.getElem?_eq_some_iff.1 h.box).1 (by simp)).trans h.box, h.lo⟩
theorem TxAt.push {w wr w1 w3 : World} {Bg ln k g c : Nat} {cs : Array Value} {rest : List (ByteArray × Int)} {v : Value} (h : TxAt w wr Bg cs rest ln k v) (hk : k < rest.length) (hg1 : wr.grownBy w1 none) (ht : termOK ln (rest.getD k (⟨#[]⟩, 0)))
    (hown : w3.ownsRow (Bg + 1) 9 1 (.slice (some ⟨g, 0, none⟩) (k + 1) c) (k + 1) (((rest.take k).map fun t => Value.string t.1) ++ [.string (rest.getD k (⟨#[]⟩, 0)).1])) (hg3 : w1.grownBy w3 v.ownBlock) : TxAt w w3 Bg cs rest ln (k + 1) (.slice (some ⟨g, 0, none⟩) (k + 1) c) := by
  have htk : rest.take (k + 1) = rest.take k ++ [rest.getD k (⟨#[]⟩, 0)] := by rw [List.take_succ_eq_append_getElem hk]; simp [List.getD, hk]
  have hlt : Bg < wr.heap.size := (Array.getElem?_eq_some_iff.1 h.box).1
  have hne : ∀ i, i ≤ Bg → some i ≠ v.ownBlock := fun i hi e => by
    have := (h.own.lt i e.symm).1
    omega
  have hlo := h.lo
  refine ⟨by rw [htk, List.map_append]; exact hown, fun t hm => ?_, ?_, ?_, h.lo⟩
  · rw [htk] at hm
    rcases List.mem_append.1 hm with hm | hm
    · exact h.ok t hm
    · simp only [List.mem_singleton] at hm; rw [hm]; exact ht
  · have hG := grown_trans h.grown hg1
    exact ⟨hg3.os.trans hG.os, hg3.tape.trans hG.tape, hg3.output.trans hG.output, Nat.le_trans hG.size hg3.size, fun i hi _ => (hg3.block i (Nat.lt_of_lt_of_le hi hG.size) (hne i (by omega))).trans (hG.block i hi (by simp))⟩
  · rw [hg3.block Bg (Nat.lt_of_lt_of_le hlt hg1.size) (hne Bg (Nat.le_refl _)), hg1.block Bg hlt (by simp)]
    exact h.box

set_option maxRecDepth 100000 in
set_option maxHeartbeats 600000 in
theorem termsHold_some (b off : Nat) (na la pa : Option Addr) (nn ln pn tc nc lc pc : Nat) (st : Int) (ts : List (ByteArray × Int)) (w : World) (hT : TermsAt w (some ⟨b, off, none⟩) ts) (h0 : 0 < ts.length) (hn : ts.length ≤ 65) (hc : ts.length ≤ tc) (htc : ¬ tc = 1) (r : Bool) (hr : r = true ↔ termsOK ts ln) :
    Calls Tryz.prog 106 #[.agg #[.slice (some ⟨b, off, none⟩) ts.length tc, .slice na nn nc, .slice la ln lc, .int .i64 st, .slice pa pn pc]] w fun e w' => e = .returned (.bool r) ∧ w.grownBy w' none := by
  obtain ⟨j0, hj, hy0, hy1, hy2⟩ := info_parts infoStr
  obtain ⟨t0, rest, rfl⟩ : ∃ t0 rest, ts = t0 :: rest := by
    cases ts with
    | nil => simp at h0
    | cons t0 rest => exact ⟨t0, rest, rfl⟩
  obtain ⟨s0, l0⟩ := t0
  have hcs : ∀ i, i < rest.length + 1 → w.cell? ⟨b, off + i * 2, none⟩ = some (.string (((s0, l0) :: rest).getD i (⟨#[]⟩, 0)).1) ∧ w.cell? ⟨b, off + i * 2 + 1, none⟩ = some (.int .i64 (((s0, l0) :: rest).getD i (⟨#[]⟩, 0)).2) := by
    rcases hT with h | ⟨b', off', he, h⟩
    · cases h
    · simp only [Option.some.injEq, Addr.mk.injEq, and_true] at he
      obtain ⟨rfl, rfl⟩ := he
      exact h
  obtain ⟨m, hm⟩ : ∃ m, m = rest.length := ⟨_, rfl⟩
  have HM : Hid (rest.length = m) := hm.symm
  have hlen : ((s0, l0) :: rest).length = m + 1 := by rw [hm]; rfl
  rw [hlen] at hn hc ⊢
  have c0 : ∀ X, w.grownBy X none → X.cell? ⟨b, off, none⟩ = some (.string s0) ∧ X.cell? ⟨b, off + 1, none⟩ = some (.int .i64 l0) := fun X hX => by
    obtain ⟨h1, h2⟩ := hcs 0 (by omega)
    exact ⟨hX.cell (by simpa using h1) (by simp), hX.cell (by simpa using h2) (by simp)⟩
  have HCS : Hid (∀ X, w.grownBy X none → ∀ i, i < rest.length → X.cell? ⟨b, off + 2 + i * 2, none⟩ = some (.string (rest.getD i (⟨#[]⟩, 0)).1) ∧ X.cell? ⟨b, off + 2 + i * 2 + 1, none⟩ = some (.int .i64 (rest.getD i (⟨#[]⟩, 0)).2)) := fun X hX i hi => by
    obtain ⟨h1, h2⟩ := hcs (i + 1) (by omega)
    have e : off + (i + 1) * 2 = off + 2 + i * 2 := by omega
    rw [e] at h1 h2
    exact ⟨hX.cell (by simpa using h1) (by simp), hX.cell (by simpa using h2) (by simp)⟩
  have HRR : Hid (r = true ↔ termsOK ((s0, l0) :: rest) ln) := hr
  have hA := c0 (w.alloc (.cells #[.slice (some ⟨b, off, none⟩) (m + 1) tc, .slice na nn nc, .slice la ln lc, .int .i64 st, .slice pa pn pc] 27)) (World.grownBy_alloc _ _ none)
  obtain ⟨hA1, hA2⟩ := hA
  have hq := fun w => neqTerm s0 ⟨#[]⟩ l0 0 w
  have hqg : Tryz.prog.eqGuardType Tryz.prog.depth 88 = false := by kernel_rfl
  clear hcs hT h0 hlen hr c0 hm
  by_cases hmk : s0 = ⟨#[]⟩ ∧ l0 = 0
  · obtain ⟨rfl, rfl⟩ := hmk
    have hq' : ∀ w, (binOp .neq 88 (.agg #[.string ⟨#[]⟩, .int .i64 0]) (.agg #[.string ⟨#[]⟩, .int .i64 0])).run Tryz.prog w = .ok (.bool false) w := fun w => by rw [hq]; simp
    clear hq
    have HBX : Hid (∀ w1, (w.alloc (.cells #[.slice (some ⟨b, off, none⟩) (m + 1) tc, .slice na nn nc, .slice la ln lc, .int .i64 st, .slice pa pn pc] 27)).grownBy w1 none → w1.heap[w.heap.size]? = some (.cells #[.slice (some ⟨b, off, none⟩) (m + 1) tc, .slice na nn nc, .slice la ln lc, .int .i64 st, .slice pa pn pc] 27 (0, 0))) := fun w1 hg => (hg.block w.heap.size (by simp) (by simp)).trans (heap_alloc_last w _)
    have HSL : Hid (∀ W, w.grownBy W none → ∀ g c, W.ownsRow (w.heap.size + 1) 9 1 (.slice g m c) m ((rest.take m).map fun t => Value.string t.1) → (∀ t ∈ rest.take m, termOK ln t) → Calls Tryz.prog 132 #[.slice g m c] W fun e w' => e = .returned (.bool r) ∧ W.grownBy w' none) := fun W hW g c hown hall => by
      have ht : rest.take m = rest := List.take_of_length_le (Nat.le_of_eq HM.out)
      rw [ht] at hown hall
      have e1 : (rest.map fun t => Value.string t.1) = (rest.map (·.1)).map Value.string := by simp
      have hlm : (rest.map (·.1)).length = m := by rw [List.length_map]; exact HM.out
      rw [e1] at hown
      have hS : StrsIn W (.slice g m c) (rest.map (·.1)) := by unfold StrsIn; rw [hlm]; exact owns_base hown
      have := noTwoAlike_any g c (rest.map (·.1)) W (hS.strsAt rfl) (by omega) (fun s hs => by
        obtain ⟨t, ht, rfl⟩ := List.mem_map.1 hs
        exact isTextB_size (hall t ht).1)
      rw [hlm] at this
      refine this.mono ?_
      rintro e w' ⟨r', rfl, hr', hg⟩
      have : r' = r := by
        rw [Bool.eq_iff_iff, hr', HRR.out]
        constructor
        · intro hnd; exact ⟨rest, rfl, hall, hnd⟩
        · rintro ⟨rest', he, _, hnd⟩
          simp at he
          rw [he]; exact hnd
      rw [this]
      exact ⟨rfl, hg⟩
    have HRF : Hid (∀ i, i < m → ¬ termOK ln (rest.getD i (⟨#[]⟩, 0)) → r = false) := fun i hi hno => Bool.eq_false_iff.2 fun hh => by
      obtain ⟨rest', he, hall, _⟩ := HRR.out.1 hh
      simp at he
      rw [← he] at hall
      have hil : i < rest.length := by rw [HM.out]; exact hi
      refine hno (hall _ ?_)
      have : rest.getD i (⟨#[]⟩, 0) = rest[i] := by simp [List.getD, hil]
      rw [this]; exact List.getElem_mem _
    go_enter Tryz.func106, Tryz.ntmps106
    go_wp2_with (at_make; refine wpList_make_own _ rfl _ _ 23 rfl (w.heap.size + 1) 9 j0 (.string ByteArray.empty) 1 Tryz.underlying23 hj hy0 hy1 .i64 .i64 _ m rfl rfl (by simp) (by rw [hy2]; omega) (by unfold maxLen; omega) (by simp) ?_; intro w1 hown1 hg1; have hbx1 := HBX.out w1 hg1; have k0 := cell_of_row w1 w.heap.size 0 _ _ _ hbx1; simp only [List.getElem?_toArray, List.getElem?_cons_zero] at k0)
    clear hA1 hA2
    have HX0 : Hid (TxAt w w1 w.heap.size #[.slice (some ⟨b, off, none⟩) (m + 1) tc, .slice na nn nc, .slice la ln lc, .int .i64 st, .slice pa pn pc] rest ln 0 (.slice (some ⟨w.heap.size + 1, 0, none⟩) 0 m)) := ⟨by simpa using hown1, fun t ht => by simp at ht, grown_trans (World.grownBy_alloc _ _ none) hg1, hbx1, Nat.le_refl _⟩
    clear hown1 hg1 hbx1 k0
    go_loopw [27, 3] (fun i v3 wr => ∃ k : Nat, k ≤ m ∧ i = .int .i64 k ∧ ∃ g c, v3 = .slice (some ⟨g, 0, none⟩) k c ∧ TxAt w wr w.heap.size #[.slice (some ⟨b, off, none⟩) (m + 1) tc, .slice na nn nc, .slice la ln lc, .int .i64 st, .slice pa pn pc] rest ln k (.slice (some ⟨g, 0, none⟩) k c)) (fun i _ _ => m - (intOf i).toNat)
    case atStart => exact ⟨0, Nat.zero_le _, rfl, _, m, rfl, HX0.out⟩
    case round =>
      obtain ⟨k, hk, rfl, g3, c3, rfl, hX⟩ := hrel
      have HX : Hid (TxAt w wr w.heap.size #[.slice (some ⟨b, off, none⟩) (m + 1) tc, .slice na nn nc, .slice la ln lc, .int .i64 st, .slice pa pn pc] rest ln k (.slice (some ⟨g3, 0, none⟩) k c3)) := hX
      clear hX HX0
      by_cases hlt : k < m
      · have hkr : k < rest.length := by rw [HM.out]; exact hlt
        obtain ⟨h1, h2⟩ := HCS.out wr HX.out.grown k hkr
        have hrf := HRF.out k hlt
        have hbx := HX.out.box
        obtain ⟨s, hs⟩ : ∃ s, s = (rest.getD k (⟨#[]⟩, 0)).1 := ⟨_, rfl⟩
        obtain ⟨l, hl⟩ : ∃ l, l = (rest.getD k (⟨#[]⟩, 0)).2 := ⟨_, rfl⟩
        have HT : Hid (rest.getD k (⟨#[]⟩, 0) = (s, l)) := by
          show rest.getD k (⟨#[]⟩, 0) = (s, l)
          rw [hs, hl]
        rw [← hs] at h1
        rw [← hl] at h2
        clear hs hl
        have hIT := fun o => isText_any s (wr.alloc o)
        have hIL := fun o => isLevel_any (some ⟨b, off, none⟩) na la pa (m + 1) nn ln pn tc nc lc pc st l (wr.alloc o)
        have k0 : ∀ o, (wr.alloc o).cell? ⟨w.heap.size, 0, none⟩ = some (.slice (some ⟨b, off, none⟩) (m + 1) tc) := fun o => (World.grownBy_alloc wr o none).cell (by rw [cell_of_row wr w.heap.size 0 _ _ _ hbx]; rfl) (by simp)
        have k1 : ∀ o, (wr.alloc o).cell? ⟨w.heap.size, 1, none⟩ = some (.slice na nn nc) := fun o => (World.grownBy_alloc wr o none).cell (by rw [cell_of_row wr w.heap.size 1 _ _ _ hbx]; rfl) (by simp)
        have k2 : ∀ o, (wr.alloc o).cell? ⟨w.heap.size, 2, none⟩ = some (.slice la ln lc) := fun o => (World.grownBy_alloc wr o none).cell (by rw [cell_of_row wr w.heap.size 2 _ _ _ hbx]; rfl) (by simp)
        have k3 : ∀ o, (wr.alloc o).cell? ⟨w.heap.size, 3, none⟩ = some (.int .i64 st) := fun o => (World.grownBy_alloc wr o none).cell (by rw [cell_of_row wr w.heap.size 3 _ _ _ hbx]; rfl) (by simp)
        have k4 : ∀ o, (wr.alloc o).cell? ⟨w.heap.size, 4, none⟩ = some (.slice pa pn pc) := fun o => (World.grownBy_alloc wr o none).cell (by rw [cell_of_row wr w.heap.size 4 _ _ _ hbx]; rfl) (by simp)
        clear hbx
        cases htx : isTextB s with
        | false =>
          have hf : r = false := hrf (by rw [HT.out]; exact fun h => by have := h.1; simp [htx] at this)
          have HG : Hid (∀ o, w.grownBy (wr.alloc o) none) := fun o => grown_trans HX.out.grown (World.grownBy_alloc _ _ none)
          clear hrf HSL HRF HX HCS hIL
          go_wp2_with (go_at_call 130; refine (hIT _).mono ?_; rintro e w' ⟨rfl, hw'⟩; subst hw'; rw [htx])
          go_ret
          exact ⟨by first | rfl | (rw [hf]; rfl), HG.out _⟩
        | true =>
          cases hlv : (decide (0 ≤ l) && decide (l ≤ (ln : Int))) with
          | false =>
            have hf : r = false := hrf (by rw [HT.out]; exact fun h => by have h3 := h.2.1; have h4 := h.2.2; simp at h3 h4; simp [h3, h4] at hlv)
            have HG : Hid (∀ o, w.grownBy (wr.alloc o) none) := fun o => grown_trans HX.out.grown (World.grownBy_alloc _ _ none)
            clear hrf HSL HRF HX HCS
            go_wp2_with (go_at_call 130; refine (hIT _).mono ?_; rintro e w' ⟨rfl, hw'⟩; subst hw'; rw [htx])
            refine (hIL _).mono ?_
            rintro e w2 ⟨rfl, hg2⟩
            rw [hlv]
            have HG2 : Hid (w.grownBy w2 none) := grown_trans (HG.out _) hg2
            clear hg2 hIL hIT
            go_wp2_with fail
            go_ret
            exact ⟨by first | rfl | (rw [hf]; rfl), HG2.out⟩
          | true =>
            have HTK : Hid (termOK ln (rest.getD k (⟨#[]⟩, 0))) := by
              show termOK ln (rest.getD k (⟨#[]⟩, 0))
              rw [HT.out]
              simp at hlv
              exact ⟨htx, hlv.1, hlv.2⟩
            clear hrf HSL HRF HCS
            go_wp2_with (go_at_call 130; refine (hIT _).mono ?_; rintro e w' ⟨rfl, hw'⟩; subst hw'; rw [htx])
            refine (hIL _).mono ?_
            rintro e w2 ⟨rfl, hg2⟩
            rw [hlv]
            have hcp : w2.cell? ⟨wr.heap.size, 0, none⟩ = some (.string s) := hg2.cell (by rw [cell_of_row _ _ _ _ _ _ (heap_alloc_last wr _)]; rfl) (by simp)
            have hG2 : wr.grownBy w2 none := grown_trans (World.grownBy_alloc _ _ none) hg2
            have HG2 : Hid (wr.grownBy w2 none) := hG2
            have HX2 : Hid (TxAt w w2 w.heap.size #[.slice (some ⟨b, off, none⟩) (m + 1) tc, .slice na nn nc, .slice la ln lc, .int .i64 st, .slice pa pn pc] rest ln k (.slice (some ⟨g3, 0, none⟩) k c3)) := HX.out.kept hG2
            have hsz : w.heap.size < w2.heap.size := (Array.getElem?_eq_some_iff.1 HX2.out.box).1
            clear hg2 hG2 hIL hIT k0 k1 k2 k3 k4 HX
            go_wp2_with (at_builtin; refine wpList_append_lies _ rfl _ _ 23 rfl (w.heap.size + 1) 9 j0 (.string ByteArray.empty) 1 16 Tryz.underlying23 hj hy0 hy1 hy2 rfl (by decide) (.slice (some ⟨g3, 0, none⟩) k c3) k ((rest.take k).map fun t => Value.string t.1) rfl (HX2.out.own.alloc _) ⟨w2.heap.size, 0, none⟩ 1 1 [.string s] rfl rfl (cell_one_new _ _ _) (str_oneCell s) (by omega) (by unfold maxLen; omega) (by omega) (by simp; omega) _ rfl ?_; intro g4 c4 w4 hown4 hg4 hloc4 hlt4)
            have HFIN : Hid (TxAt w w4 w.heap.size #[.slice (some ⟨b, off, none⟩) (m + 1) tc, .slice na nn nc, .slice la ln lc, .int .i64 st, .slice pa pn pc] rest ln (k + 1) (.slice (some ⟨g4, 0, none⟩) (k + 1) c4)) := HX2.out.push hkr (World.grownBy_alloc _ _ none) HTK.out (by rw [HT.out]; exact hown4) hg4
            clear hown4 hg4 hloc4 hlt4
            go_wp2_with fail
            go_roundw
            case rel => exact ⟨k + 1, by omega, by go_num, g4, c4, rfl, HFIN.out⟩
            case measure => simp [intOf]; omega
      · obtain rfl : k = m := by omega
        have hnt := HSL.out wr HX.out.grown (some ⟨g3, 0, none⟩) c3 HX.out.own HX.out.ok
        have HG : Hid (w.grownBy wr none) := HX.out.grown
        clear HSL HRF HX HCS
        go_wp2_with fail
        refine hnt.mono ?_
        rintro e w5 ⟨rfl, hg5⟩
        go_wp2_with fail
        go_ret
        exact ⟨rfl, grown_trans HG.out hg5⟩
  · have hb : (!(s0.toList == (ByteArray.mk #[]).toList && l0 == 0)) = true := by
      rw [Bool.not_eq_true', Bool.eq_false_iff]
      intro h
      rw [Bool.and_eq_true] at h
      exact hmk ⟨(toList_empty s0).1 (by simpa using h.1), by simpa using h.2⟩
    rw [hb] at hq
    have hrf : r = false := Bool.eq_false_iff.2 fun hh => by
      obtain ⟨rest', he, _⟩ := HRR.out.1 hh
      simp at he
      exact hmk he.1
    clear hb hmk
    go_enter Tryz.func106, Tryz.ntmps106
    go_wp2_with fail
    go_ret
    exact ⟨by first | rfl | (rw [hrf]; rfl), World.grownBy_alloc _ _ none⟩

end Go.Proofs.YthoamlahbnphkaaGreat

/-
  prodsHold, walked: each production's left side is a nonterminal, its level one, its right side's symbols terminals or nonterminals.
-/
namespace Go.Proofs.YthoamlahbnphkaaGreat
open Go.RowKit Go.Maps Go.Shelf

attribute [local go_sem] Oper.semAt_some

def isNonI (tn nn ad : Nat) (x : Int) : Prop := (tn : Int) + ad ≤ x ∧ x < (tn : Int) + nn
def isSymI (tn nn ad : Nat) (x : Int) : Prop := (0 < x ∧ x < tn) ∨ isNonI tn nn ad x
def prodOK (tn nn ln ad : Nat) (L : Int) (R : List Int) (V : Int) : Prop := isNonI tn nn ad L ∧ (0 ≤ V ∧ V ≤ ln) ∧ ∀ x ∈ R, isSymI tn nn ad x

/-- The grammar's box, and all that was, stand. -/
structure PhAt (w wr : World) (Bg : Nat) (cs : Array Value) : Prop where
  grown : w.grownBy wr none
  box : wr.heap[Bg]? = some (.cells cs 27 (0, 0))
theorem PhAt.kept {w wr wx : World} {Bg : Nat} {cs : Array Value} (h : PhAt w wr Bg cs) (hg : wr.grownBy wx none) : PhAt w wx Bg cs :=
  ⟨grown_trans h.grown hg, (hg.block Bg (Array.getElem?_eq_some_iff.1 h.box).1 (by simp)).trans h.box⟩
theorem PhAt.cells {w wr : World} {Bg : Nat} {v0 v1 v2 v3 v4 : Value} (h : PhAt w wr Bg #[v0, v1, v2, v3, v4]) : wr.cell? ⟨Bg, 0, none⟩ = some v0 ∧ wr.cell? ⟨Bg, 1, none⟩ = some v1 ∧ wr.cell? ⟨Bg, 2, none⟩ = some v2 ∧ wr.cell? ⟨Bg, 3, none⟩ = some v3 ∧ wr.cell? ⟨Bg, 4, none⟩ = some v4 := by
  refine ⟨?_, ?_, ?_, ?_, ?_⟩ <;> rw [cell_of_row _ _ _ _ _ _ h.box] <;> rfl

set_option maxRecDepth 100000 in
set_option maxHeartbeats 1000000 in
theorem prodsHold_any (ta na la pa qa : Option Addr) (tn nn ln pn tc nc lc pc n qc ad : Nat) (st : Int) (L : Nat → Int) (R : Nat → List Int) (ra : Nat → Option Addr) (rc : Nat → Nat) (V : Nat → Int) (w : World) (hP : ProdsAt w qa n L R ra rc V) (hn : n ≤ 97) (ht : tn ≤ 140737488355328) (hnn : nn ≤ 140737488355328) (had : ad ≤ 1)
    (r : Bool) (hr : r = true ↔ ∀ i, i < n → prodOK tn nn ln ad (L i) (R i) (V i)) :
    Calls Tryz.prog 109 #[.agg #[.slice ta tn tc, .slice na nn nc, .slice la ln lc, .int .i64 st, .slice pa pn pc], .slice qa n qc, .int .i64 ad] w fun e w' => e = .returned (.bool r) ∧ w.grownBy w' none := by
  have HP : Hid (ProdsAt w qa n L R ra rc V) := hP
  have HRR : Hid (r = true ↔ ∀ i, i < n → prodOK tn nn ln ad (L i) (R i) (V i)) := hr
  clear hP hr
  have HX0 : Hid (PhAt w (w.alloc (.cells #[.slice ta tn tc, .slice na nn nc, .slice la ln lc, .int .i64 st, .slice pa pn pc] 27)) w.heap.size #[.slice ta tn tc, .slice na nn nc, .slice la ln lc, .int .i64 st, .slice pa pn pc]) := ⟨World.grownBy_alloc _ _ none, heap_alloc_last w _⟩
  go_enter Tryz.func109, Tryz.ntmps109
  go_wp2_with fail
  go_loopg [13] n (fun gk i wr => ∃ k : Nat, k ≤ n ∧ gk = n - k ∧ i = .int .i64 k ∧ PhAt w wr w.heap.size #[.slice ta tn tc, .slice na nn nc, .slice la ln lc, .int .i64 st, .slice pa pn pc] ∧ ∀ j, j < k → prodOK tn nn ln ad (L j) (R j) (V j))
  case atStart => exact ⟨0, Nat.zero_le _, rfl, rfl, HX0.out, fun j hj => absurd hj (Nat.not_lt_zero _)⟩
  case round =>
    obtain ⟨k, hk, hgk, rfl, hX, hall⟩ := hrel
    have HX : Hid (PhAt w wr w.heap.size #[.slice ta tn tc, .slice na nn nc, .slice la ln lc, .int .i64 st, .slice pa pn pc]) := hX
    have HA : Hid (∀ j, j < k → prodOK tn nn ln ad (L j) (R j) (V j)) := hall
    have HGK : Hid (gk = n - k) := hgk
    clear hX hall hgk HX0
    by_cases hlt : k < n
    · obtain ⟨bp, off, rfl, hcs⟩ : ∃ b off, qa = some ⟨b, off, none⟩ ∧ ∀ k, k < n → w.cell? ⟨b, off + k * 3, none⟩ = some (.int .i64 (L k)) ∧ w.cell? ⟨b, off + k * 3 + 1, none⟩ = some (.slice (ra k) (R k).length (rc k)) ∧ w.cell? ⟨b, off + k * 3 + 2, none⟩ = some (.int .i64 (V k)) ∧ IntsAt w (ra k) (R k) ∧ (ra k = none → rc k = 0) ∧ (R k).length ≤ 17592186044416 := by
        rcases HP.out with h | h
        · omega
        · exact h
      obtain ⟨h1, h2, h3, hI, _, hlen⟩ := hcs k hlt
      have d0 := HX.out.grown.cell h1 (by simp)
      have d1 := HX.out.grown.cell h2 (by simp)
      have d2 := HX.out.grown.cell h3 (by simp)
      have HI : Hid (IntsAt w (ra k) (R k)) := hI
      have HRF : Hid (¬ prodOK tn nn ln ad (L k) (R k) (V k) → r = false) := fun hno => Bool.eq_false_iff.2 fun hh => hno (HRR.out.1 hh k hlt)
      clear hcs h1 h2 h3 hI
      obtain ⟨Lk, hLk⟩ : ∃ x, x = L k := ⟨_, rfl⟩
      obtain ⟨Vk, hVk⟩ : ∃ x, x = V k := ⟨_, rfl⟩
      rw [← hLk] at d0 HRF
      rw [← hVk] at d2 HRF
      have HLV : Hid (Lk = L k ∧ Vk = V k) := ⟨hLk, hVk⟩
      clear hLk hVk
      have HXA : Hid (∀ o, PhAt w (wr.alloc o) w.heap.size #[.slice ta tn tc, .slice na nn nc, .slice la ln lc, .int .i64 st, .slice pa pn pc]) := fun o => HX.out.kept (World.grownBy_alloc _ _ none)
      have k0 := fun o => (HXA.out o).cells.1
      have k1 := fun o => (HXA.out o).cells.2.1
      have k2 := fun o => (HXA.out o).cells.2.2.1
      have k3 := fun o => (HXA.out o).cells.2.2.2.1
      have k4 := fun o => (HXA.out o).cells.2.2.2.2
      have HIN := fun o => isNonOf_any ta na la pa tn nn ln pn tc nc lc pc ad st Lk (wr.alloc o) ht hnn had
      cases hlf : (decide ((tn : Int) + ad ≤ Lk) && decide (Lk < (tn : Int) + nn)) with
      | false =>
        have hf : r = false := HRF.out fun h => by have h4 := h.1; simp [isNonI] at h4; simp [h4] at hlf
        clear HX
        go_wp2_with fail
        refine (HIN _).mono ?_
        rintro e w2 ⟨rfl, hg2⟩
        rw [hlf]
        have HG2 : Hid (w.grownBy w2 none) := grown_trans (HXA.out _).grown hg2
        clear hg2 HIN k0 k1 k2 k3 k4 HXA
        go_wp2_with fail
        go_ret
        exact ⟨by first | rfl | (rw [hf]; rfl), HG2.out⟩
      | true =>
        clear HX
        go_wp2_with fail
        refine (HIN _).mono ?_
        rintro e w2 ⟨rfl, hg2⟩
        rw [hlf]
        have hX2 := (HXA.out _).kept hg2
        have q1 : w2.cell? ⟨wr.heap.size, 1, none⟩ = some (.slice (ra k) (R k).length (rc k)) := hg2.cell (by rw [cell_of_row _ _ _ _ _ _ (heap_alloc_last wr _)]; rfl) (by simp)
        have q2 : w2.cell? ⟨wr.heap.size, 2, none⟩ = some (.int .i64 Vk) := hg2.cell (by rw [cell_of_row _ _ _ _ _ _ (heap_alloc_last wr _)]; rfl) (by simp)
        obtain ⟨m0, m1, m2, m3, m4⟩ := hX2.cells
        have HX2 : Hid (PhAt w w2 w.heap.size #[.slice ta tn tc, .slice na nn nc, .slice la ln lc, .int .i64 st, .slice pa pn pc]) := hX2
        have HIL := isLevel_any ta na la pa tn nn ln pn tc nc lc pc st Vk w2
        clear hg2 HIN k0 k1 k2 k3 k4 HXA hX2 d0 d1 d2
        cases hlv : (decide (0 ≤ Vk) && decide (Vk ≤ (ln : Int))) with
        | false =>
          have hf : r = false := HRF.out fun h => by have h4 := h.2.1; simp [h4] at hlv
          rw [hlv] at HIL
          go_wp2_with fail
          refine HIL.mono ?_
          rintro e w3 ⟨rfl, hg3⟩
          have HG3 : Hid (w.grownBy w3 none) := grown_trans HX2.out.grown hg3
          clear hg3 HIL
          go_wp2_with fail
          go_ret
          exact ⟨by first | rfl | (rw [hf]; rfl), HG3.out⟩
        | true =>
          rw [hlv] at HIL
          go_wp2_with fail
          refine HIL.mono ?_
          rintro e w3 ⟨rfl, hg3⟩
          have q3 : w3.cell? ⟨wr.heap.size, 1, none⟩ = some (.slice (ra k) (R k).length (rc k)) := hg3.cell q1 (by simp)
          have HX3 : Hid (PhAt w w3 w.heap.size #[.slice ta tn tc, .slice na nn nc, .slice la ln lc, .int .i64 st, .slice pa pn pc]) := HX2.out.kept hg3
          have HOK : Hid (isNonI tn nn ad Lk ∧ 0 ≤ Vk ∧ Vk ≤ (ln : Int)) := by
            simp at hlf hlv
            exact ⟨hlf, hlv⟩
          clear hg3 HIL q1 q2 m0 m1 m2 m3 m4 HX2 hlf hlv
          go_wp2_with fail
          obtain ⟨len, hle⟩ : ∃ len, len = (R k).length := ⟨_, rfl⟩
          have HLE : Hid ((R k).length = len) := hle.symm
          rw [← hle] at hlen ⊢
          clear hle q3
          obtain ⟨ak, hak⟩ : ∃ ak, ak = ra k := ⟨_, rfl⟩
          rw [← hak] at HI ⊢
          clear hak
          go_loopg [33] len (fun gx i wr => ∃ x : Nat, x ≤ len ∧ gx = len - x ∧ i = .int .i64 x ∧ PhAt w wr w.heap.size #[.slice ta tn tc, .slice na nn nc, .slice la ln lc, .int .i64 st, .slice pa pn pc] ∧ ∀ y ∈ (R k).take x, isSymI tn nn ad y)
          case atStart => exact ⟨0, Nat.zero_le _, rfl, rfl, HX3.out, fun y hy => by simp at hy⟩
          case round =>
            obtain ⟨x, hx, hgx, rfl, hX, hall⟩ := hrel
            have HX : Hid (PhAt w wr w.heap.size #[.slice ta tn tc, .slice na nn nc, .slice la ln lc, .int .i64 st, .slice pa pn pc]) := hX
            have HY : Hid (∀ y ∈ (R k).take x, isSymI tn nn ad y) := hall
            have HGX : Hid (gk = len - x) := hgx
            clear hX hall hgx HX3
            by_cases hlx : x < len
            · have hxl : x < (R k).length := by rw [HLE.out]; exact hlx
              obtain ⟨bl, of2, rfl, hcs⟩ : ∃ b off, ak = some ⟨b, off, none⟩ ∧ ∀ i, i < (R k).length → wr.cell? ⟨b, off + i, none⟩ = some (.int .i64 ((R k).getD i 0)) := by
                rcases HI.out.kept HX.out.grown with h | h
                · rw [h] at hxl; simp at hxl
                · exact h
              have hch := hcs x hxl
              have hmem : (R k).getD x 0 ∈ R k := by
                have e : (R k).getD x 0 = (R k)[x] := by simp [List.getD, hxl]
                rw [e]; exact List.getElem_mem _
              have htk : (R k).take (x + 1) = (R k).take x ++ [(R k).getD x 0] := by rw [List.take_succ_eq_append_getElem hxl]; simp [List.getD, hxl]
              obtain ⟨h, hh⟩ : ∃ h, h = (R k).getD x 0 := ⟨_, rfl⟩
              rw [← hh] at hch hmem htk
              have HST : Hid (isSymI tn nn ad h → ∀ y ∈ (R k).take (x + 1), isSymI tn nn ad y) := fun hs y hy => by
                rw [htk] at hy
                rcases List.mem_append.1 hy with hy | hy
                · exact HY.out y hy
                · simp only [List.mem_singleton] at hy; rw [hy]; exact hs
              have HNO : Hid (¬ isSymI tn nn ad h → r = false) := fun hno => HRF.out fun hp => hno (hp.2.2 h hmem)
              clear hcs hmem htk hh
              obtain ⟨m0, m1, m2, m3, m4⟩ := HX.out.cells
              have HIT := isTermOf_any ta na la pa tn nn ln pn tc nc lc pc st h wr
              cases htf : (decide (0 < h) && decide (h < (tn : Int))) with
              | true =>
                rw [htf] at HIT
                have HS : Hid (∀ y ∈ (R k).take (x + 1), isSymI tn nn ad y) := HST.out (.inl (by simpa using htf))
                go_wp2_with fail
                refine HIT.mono ?_
                rintro e w4 ⟨rfl, hg4⟩
                have HX4 : Hid (PhAt w w4 w.heap.size #[.slice ta tn tc, .slice na nn nc, .slice la ln lc, .int .i64 st, .slice pa pn pc]) := HX.out.kept hg4
                clear hg4 HIT m0 m1 m2 m3 m4 HX
                go_wp2_with fail
                go_roundg (len - (x + 1))
                case measure => have := HGX.out; omega
                case rel => exact ⟨x + 1, by omega, rfl, by go_num, HX4.out, HS.out⟩
              | false =>
                rw [htf] at HIT
                go_wp2_with fail
                refine HIT.mono ?_
                rintro e w4 ⟨rfl, hg4⟩
                have HX4 : Hid (PhAt w w4 w.heap.size #[.slice ta tn tc, .slice na nn nc, .slice la ln lc, .int .i64 st, .slice pa pn pc]) := HX.out.kept hg4
                clear hg4 HIT m0 m1 m2 m3 m4 HX
                obtain ⟨m0, m1, m2, m3, m4⟩ := HX4.out.cells
                have HIN := isNonOf_any ta na la pa tn nn ln pn tc nc lc pc ad st h w4 ht hnn had
                cases hnf : (decide ((tn : Int) + ad ≤ h) && decide (h < (tn : Int) + nn)) with
                | true =>
                  rw [hnf] at HIN
                  have HS : Hid (∀ y ∈ (R k).take (x + 1), isSymI tn nn ad y) := HST.out (.inr (by simp at hnf; exact hnf))
                  go_wp2_with fail
                  refine HIN.mono ?_
                  rintro e w5 ⟨rfl, hg5⟩
                  have HX5 : Hid (PhAt w w5 w.heap.size #[.slice ta tn tc, .slice na nn nc, .slice la ln lc, .int .i64 st, .slice pa pn pc]) := HX4.out.kept hg5
                  clear hg5 HIN m0 m1 m2 m3 m4 HX4
                  go_wp2_with fail
                  go_roundg (len - (x + 1))
                  case measure => have := HGX.out; omega
                  case rel => exact ⟨x + 1, by omega, rfl, by go_num, HX5.out, HS.out⟩
                | false =>
                  rw [hnf] at HIN
                  have hf : r = false := HNO.out fun hs => by
                    rcases hs with hs | hs
                    · simp [hs] at htf
                    · have h4 : (tn : Int) + ad ≤ h ∧ h < (tn : Int) + nn := hs
                      simp [h4] at hnf
                  go_wp2_with fail
                  refine HIN.mono ?_
                  rintro e w5 ⟨rfl, hg5⟩
                  have HG5 : Hid (w.grownBy w5 none) := grown_trans HX4.out.grown hg5
                  clear hg5 HIN m0 m1 m2 m3 m4 HX4
                  go_wp2_with fail
                  go_ret
                  exact ⟨by first | rfl | (rw [hf]; rfl), HG5.out⟩
            · obtain rfl : x = len := by omega
              have ht2 : (R k).take x = R k := List.take_of_length_le (Nat.le_of_eq HLE.out)
              have HA2 : Hid (∀ j, j < k + 1 → prodOK tn nn ln ad (L j) (R j) (V j)) := fun j hj => by
                by_cases e : j = k
                · subst e
                  have h4 := HY.out
                  rw [ht2] at h4
                  rw [← HLV.out.1, ← HLV.out.2]
                  exact ⟨HOK.out.1, HOK.out.2, h4⟩
                · exact HA.out j (by omega)
              clear ht2
              go_wp2_with fail
              go_roundg (n - (k + 1))
              case measure => have := HGK.out; omega
              case rel => exact ⟨k + 1, by omega, rfl, by go_num, HX.out, HA2.out⟩
    · obtain rfl : k = n := by omega
      have hrt : r = true := HRR.out.2 HA.out
      have HG : Hid (w.grownBy wr none) := HX.out.grown
      clear HA HX
      go_wp2_with fail
      go_ret
      exact ⟨by first | rfl | (rw [hrt]; rfl), HG.out⟩

end Go.Proofs.YthoamlahbnphkaaGreat

/-
  levelsHold itself.
-/
namespace Go.Proofs.YthoamlahbnphkaaGreat
open Go.RowKit Go.Maps Go.Shelf

attribute [local go_sem] Oper.semAt_some

theorem isSide_any (x : Int) (w : World) : Calls Tryz.prog 135 #[.int .i64 x] w fun e w' => e = .returned (.bool (decide (1 ≤ x) && decide (x ≤ 3))) ∧ w' = w := by
  by_cases h0 : 1 ≤ x
  · have hd : decide (1 ≤ x) = true := decide_eq_true h0
    go_enter Tryz.func135, Tryz.ntmps135
    go_wp2_with fail
    go_ret
    exact ⟨by simp [h0], rfl⟩
  · have hd : decide (1 ≤ x) = false := decide_eq_false h0
    go_enter Tryz.func135, Tryz.ntmps135
    go_wp2_with fail
    go_ret
    exact ⟨by simp, rfl⟩

theorem hasLevel_any (s : ByteArray) (l i : Int) (Bi : Nat) (w : World) (hc : w.cell? ⟨Bi, 0, none⟩ = some (.int .i64 i)) (hb : 0 ≤ i ∧ i ≤ 140737488355328) :
    Calls Tryz.prog 134 #[.agg #[.string s, .int .i64 l], .pointer (some ⟨Bi, 0, none⟩)] w fun e w' => e = .returned (.bool (l == i + 1)) ∧ w.grownBy w' none := by
  have hc' : ∀ o, (w.alloc o).cell? ⟨Bi, 0, none⟩ = some (.int .i64 i) := fun o => (World.grownBy_alloc w o none).cell hc (by simp)
  go_enter Tryz.func134, Tryz.ntmps134
  go_wp2_with fail
  go_ret
  exact ⟨rfl, World.grownBy_alloc _ _ none⟩

set_option maxRecDepth 100000 in
theorem indexFunc_any (a : Option Addr) (cap Bi : Nat) (ts : List (ByteArray × Int)) (i : Int) (w : World) (hl : TermsAt w a ts) (hn : ts.length ≤ 65) (hc : w.cell? ⟨Bi, 0, none⟩ = some (.int .i64 i)) (hb : 0 ≤ i ∧ i ≤ 140737488355328) :
    Calls Tryz.prog 157 #[.slice a ts.length cap, .func (.func 134) #[] #[.pointer (some ⟨Bi, 0, none⟩)]] w fun e w' => (∃ q : Int, e = .returned (.int .i64 q) ∧ -1 ≤ q ∧ (0 ≤ q ↔ ∃ t ∈ ts, t.2 = i + 1)) ∧ w.grownBy w' none := by
  have HL : Hid (TermsAt w a ts) := hl
  obtain ⟨n, hln⟩ : ∃ n, n = ts.length := ⟨_, rfl⟩
  have HLN : Hid (ts.length = n) := hln.symm
  rw [← hln] at hn ⊢
  have HC : Hid (w.cell? ⟨Bi, 0, none⟩ = some (.int .i64 i)) := hc
  clear hl hln hc
  go_enter Tryz.func157, Tryz.ntmps157
  go_wp2_with fail
  go_loopw [8] (fun j wr => ∃ k : Nat, k ≤ n ∧ j = .int .i64 k ∧ w.grownBy wr none ∧ ¬ ∃ t ∈ ts.take k, t.2 = i + 1) (fun j _ => n - (intOf j).toNat)
  case atStart => exact ⟨0, Nat.zero_le _, rfl, grown_refl _ _, by simp⟩
  case round =>
    obtain ⟨k, hk, rfl, hg, hno⟩ := hrel
    have HG : Hid (w.grownBy wr none) := hg
    have HA : Hid (¬ ∃ t ∈ ts.take k, t.2 = i + 1) := hno
    clear hno hg
    by_cases hlt : k < n
    · have hkl : k < ts.length := by rw [HLN.out]; exact hlt
      obtain ⟨bl, off, rfl, hcells⟩ : ∃ b off, a = some ⟨b, off, none⟩ ∧ ∀ i, i < ts.length → wr.cell? ⟨b, off + i * 2, none⟩ = some (.string (ts.getD i (⟨#[]⟩, 0)).1) ∧ wr.cell? ⟨b, off + i * 2 + 1, none⟩ = some (.int .i64 (ts.getD i (⟨#[]⟩, 0)).2) := by
        rcases HL.out.kept HG.out with h | h
        · subst h; simp at hkl
        · exact h
      obtain ⟨h1, h2⟩ := hcells k hkl
      have hmem : ts.getD k (⟨#[]⟩, 0) ∈ ts := by
        have : ts.getD k (⟨#[]⟩, 0) = ts[k] := by simp [List.getD, hkl]
        rw [this]; exact List.getElem_mem _
      have htk : ts.take (k + 1) = ts.take k ++ [ts.getD k (⟨#[]⟩, 0)] := by rw [List.take_succ_eq_append_getElem hkl]; simp [List.getD, hkl]
      generalize ts.getD k (⟨#[]⟩, 0) = t at *
      obtain ⟨s, l⟩ := t
      have hH := hasLevel_any s l i Bi wr (HG.out.cell HC.out (by simp)) hb
      by_cases he : l = i + 1
      · have hbq : (l == i + 1) = true := beq_iff_eq.2 he
        have HM : Hid (∃ t ∈ ts, t.2 = i + 1) := ⟨_, hmem, he⟩
        rw [hbq] at hH
        clear hcells hmem htk he
        go_wp2_with fail
        refine hH.mono ?_
        rintro e w2 ⟨rfl, hg2⟩
        have HG2 : Hid (w.grownBy w2 none) := grown_trans HG.out hg2
        clear hH hg2
        go_wp2_with fail
        go_ret
        exact ⟨⟨k, rfl, by omega, ⟨fun _ => HM.out, fun _ => by omega⟩⟩, HG2.out⟩
      · have hbq : (l == i + 1) = false := beq_eq_false_iff_ne.2 he
        have HA' : Hid (¬ ∃ t ∈ ts.take (k + 1), t.2 = i + 1) := by
          rintro ⟨t, ht, h3⟩
          rw [htk] at ht
          rcases List.mem_append.1 ht with ht | ht
          · exact HA.out ⟨t, ht, h3⟩
          · simp only [List.mem_singleton] at ht; rw [ht] at h3; exact he h3
        rw [hbq] at hH
        clear hcells hmem htk he
        go_wp2_with fail
        refine hH.mono ?_
        rintro e w2 ⟨rfl, hg2⟩
        have HG2 : Hid (w.grownBy w2 none) := grown_trans HG.out hg2
        clear hH hg2
        go_wp2_with fail
        go_roundw
        case rel => exact ⟨k + 1, by omega, by go_num, HG2.out, HA'.out⟩
        case measure => simp [intOf]; omega
    · obtain rfl : k = n := by omega
      have ht : ts.take k = ts := List.take_of_length_le (Nat.le_of_eq HLN.out)
      rw [ht] at HA
      go_wp2_with fail
      go_ret
      exact ⟨⟨-1, rfl, by omega, ⟨fun h => absurd h (by omega), fun h => absurd h HA.out⟩⟩, HG.out⟩

theorem containsFunc_any (a : Option Addr) (cap Bi : Nat) (ts : List (ByteArray × Int)) (i : Int) (w : World) (hl : TermsAt w a ts) (hn : ts.length ≤ 65) (hc : w.cell? ⟨Bi, 0, none⟩ = some (.int .i64 i)) (hb : 0 ≤ i ∧ i ≤ 140737488355328) (r : Bool) (hr : r = true ↔ ∃ t ∈ ts, t.2 = i + 1) :
    Calls Tryz.prog 136 #[.slice a ts.length cap, .func (.func 134) #[] #[.pointer (some ⟨Bi, 0, none⟩)]] w fun e w' => e = .returned (.bool r) ∧ w.grownBy w' none := by
  have hI := indexFunc_any a cap Bi ts i w hl hn hc hb
  have HR : Hid (r = true ↔ ∃ t ∈ ts, t.2 = i + 1) := hr
  clear hl hc hr
  go_enter Tryz.func136, Tryz.ntmps136
  go_wp2_with fail
  refine hI.mono ?_
  rintro e w2 ⟨⟨q, rfl, h1, h2⟩, hg⟩
  have HQ : Hid (decide (0 ≤ q) = r) := by
    show decide (0 ≤ q) = r
    rw [Bool.eq_iff_iff, decide_eq_true_eq, h2, HR.out]
  clear h2 hI
  go_wp2_with fail
  go_ret
  exact ⟨by rw [← HQ.out]; rfl, hg⟩

end Go.Proofs.YthoamlahbnphkaaGreat

namespace Go.Proofs.YthoamlahbnphkaaGreat
open Go.RowKit Go.Maps Go.Shelf

attribute [local go_sem] Oper.semAt_some

def levelOK (ts : List (ByteArray × Int)) (lv : List Int) (j : Nat) : Prop := (1 ≤ lv.getD j 0 ∧ lv.getD j 0 ≤ 3) ∧ ∃ t ∈ ts, t.2 = (j : Int) + 1

set_option maxRecDepth 100000 in
set_option maxHeartbeats 1000000 in
theorem levelsHold_any (ta na la pa : Option Addr) (nn pn tc nc lc pc : Nat) (st : Int) (ts : List (ByteArray × Int)) (lv : List Int) (w : World) (hT : TermsAt w ta ts) (hL : IntsAt w la lv) (hn : ts.length ≤ 65) (hlv : lv.length ≤ 17592186044416) (r : Bool) (hr : r = true ↔ ∀ j, j < lv.length → levelOK ts lv j) :
    Calls Tryz.prog 108 #[.agg #[.slice ta ts.length tc, .slice na nn nc, .slice la lv.length lc, .int .i64 st, .slice pa pn pc]] w fun e w' => e = .returned (.bool r) ∧ w.grownBy w' none := by
  have HT : Hid (TermsAt w ta ts) := hT
  have HL : Hid (IntsAt w la lv) := hL
  obtain ⟨n, hln⟩ : ∃ n, n = lv.length := ⟨_, rfl⟩
  have HLN : Hid (lv.length = n) := hln.symm
  rw [← hln] at hlv hr ⊢
  have HRR : Hid (r = true ↔ ∀ j, j < n → levelOK ts lv j) := hr
  have HN : Hid (ts.length ≤ 65) := hn
  have HX0 : Hid (PhAt w (w.alloc (.cells #[.slice ta ts.length tc, .slice na nn nc, .slice la n lc, .int .i64 st, .slice pa pn pc] 27)) w.heap.size #[.slice ta ts.length tc, .slice na nn nc, .slice la n lc, .int .i64 st, .slice pa pn pc]) := ⟨World.grownBy_alloc _ _ none, heap_alloc_last w _⟩
  clear hT hL hr hln
  go_enter Tryz.func108, Tryz.ntmps108
  go_wp2_with fail
  go_loopw [9] (fun i wr => ∃ k : Nat, k ≤ n ∧ i = .int .i64 k ∧ PhAt w wr w.heap.size #[.slice ta ts.length tc, .slice na nn nc, .slice la n lc, .int .i64 st, .slice pa pn pc] ∧ ∀ j, j < k → levelOK ts lv j) (fun i _ => n - (intOf i).toNat)
  case atStart => exact ⟨0, Nat.zero_le _, rfl, HX0.out, fun j hj => absurd hj (Nat.not_lt_zero _)⟩
  case round =>
    obtain ⟨k, hk, rfl, hX, hall⟩ := hrel
    have HX : Hid (PhAt w wr w.heap.size #[.slice ta ts.length tc, .slice na nn nc, .slice la n lc, .int .i64 st, .slice pa pn pc]) := hX
    have HA : Hid (∀ j, j < k → levelOK ts lv j) := hall
    clear hX hall HX0
    by_cases hlt : k < n
    · have hkl : k < lv.length := by rw [HLN.out]; exact hlt
      obtain ⟨bl, off, rfl, hcells⟩ : ∃ b off, la = some ⟨b, off, none⟩ ∧ ∀ i, i < lv.length → wr.cell? ⟨b, off + i, none⟩ = some (.int .i64 (lv.getD i 0)) := by
        rcases HL.out.kept HX.out.grown with h | h
        · subst h; simp at hkl
        · exact h
      have hck := hcells k hkl
      obtain ⟨y, hy⟩ : ∃ y, y = lv.getD k 0 := ⟨_, rfl⟩
      rw [← hy] at hck
      have HY : Hid (y = lv.getD k 0) := hy
      have HRF : Hid (¬ levelOK ts lv k → r = false) := fun hno => Bool.eq_false_iff.2 fun hh => hno (HRR.out.1 hh k hlt)
      have HXA : Hid (∀ o, PhAt w (wr.alloc o) w.heap.size #[.slice ta ts.length tc, .slice na nn nc, .slice (some ⟨bl, off, none⟩) n lc, .int .i64 st, .slice pa pn pc]) := fun o => HX.out.kept (World.grownBy_alloc _ _ none)
      have k0 := fun o => (HXA.out o).cells.1
      have hIS := fun o => isSide_any y (wr.alloc o)
      have HCF : Hid (∀ r', (r' = true ↔ ∃ t ∈ ts, t.2 = (k : Int) + 1) → Calls Tryz.prog 136 #[.slice ta ts.length tc, .func (.func 134) #[] #[.pointer (some ⟨wr.heap.size, 0, none⟩)]] (wr.alloc (.cells #[.int .i64 k] 3)) fun e w' => e = .returned (.bool r') ∧ (wr.alloc (.cells #[.int .i64 k] 3)).grownBy w' none) := fun r' hr' =>
        containsFunc_any ta tc wr.heap.size ts k _ (HT.out.kept (HXA.out _).grown) HN.out (by rw [cell_of_row _ _ _ _ _ _ (heap_alloc_last wr _)]; rfl) (by omega) r' hr'
      clear hcells hy
      cases hsd : (decide (1 ≤ y) && decide (y ≤ 3)) with
      | false =>
        have hf : r = false := HRF.out fun h => by have h4 := h.1; rw [← HY.out] at h4; simp [h4] at hsd
        clear HX HCF
        go_wp2_with fail
        refine (hIS _).mono ?_
        rintro e w2 ⟨rfl, hw2⟩
        rw [hsd]
        have HG2 : Hid (w.grownBy w2 none) := by rw [hw2]; exact (HXA.out _).grown
        clear hw2 k0
        go_wp2_with fail
        go_ret
        exact ⟨by first | rfl | (rw [hf]; rfl), HG2.out⟩
      | true =>
        by_cases hex : ∃ t ∈ ts, t.2 = (k : Int) + 1
        · have hcf := HCF.out true ⟨fun _ => hex, fun _ => rfl⟩
          have HA2 : Hid (∀ j, j < k + 1 → levelOK ts lv j) := fun j hj => by
            by_cases e : j = k
            · subst e
              refine ⟨?_, hex⟩
              rw [← HY.out]
              simpa using hsd
            · exact HA.out j (by omega)
          clear HX HCF hex
          go_wp2_with (go_at_call 135; refine (hIS _).mono ?_; rintro e w2 ⟨rfl, hw2⟩; subst hw2; rw [hsd])
          refine hcf.mono ?_
          rintro e w3 ⟨rfl, hg3⟩
          have HX3 : Hid (PhAt w w3 w.heap.size #[.slice ta ts.length tc, .slice na nn nc, .slice (some ⟨bl, off, none⟩) n lc, .int .i64 st, .slice pa pn pc]) := (HXA.out _).kept hg3
          clear hg3 hcf k0 hIS
          go_wp2_with fail
          go_roundw
          case rel => exact ⟨k + 1, by omega, by go_num, HX3.out, HA2.out⟩
          case measure => simp [intOf]; omega
        · have hcf := HCF.out false ⟨fun h => absurd h (by decide), fun h => absurd h hex⟩
          have hf : r = false := HRF.out fun h => hex h.2
          clear HX HCF hex
          go_wp2_with (go_at_call 135; refine (hIS _).mono ?_; rintro e w2 ⟨rfl, hw2⟩; subst hw2; rw [hsd])
          refine hcf.mono ?_
          rintro e w3 ⟨rfl, hg3⟩
          have HG3 : Hid (w.grownBy w3 none) := grown_trans (HXA.out _).grown hg3
          clear hg3 hcf k0 hIS
          go_wp2_with fail
          go_ret
          exact ⟨by first | rfl | (rw [hf]; rfl), HG3.out⟩
    · obtain rfl : k = n := by omega
      have hrt : r = true := HRR.out.2 HA.out
      have HG : Hid (w.grownBy wr none) := HX.out.grown
      clear HA HX
      go_wp2_with fail
      go_ret
      exact ⟨by first | rfl | (rw [hrt]; rfl), HG.out⟩

end Go.Proofs.YthoamlahbnphkaaGreat
