/-
  lefts and IsSorted, walked.
-/
import Derived.Test.YtkbpnafahimeiaaCopiedWalk
import Derived.Test.YtkbpnafahimeiaaSmall
namespace Go.Proofs.Ytkbpnafahimeiaa
open Go.RowKit Go.Maps Go.Shelf

attribute [local go_sem] Oper.semAt_some

/-- A grammar by value. -/
def gramV (ta na la pa : Option Addr) (tn nn ln pn tc nc lc pc : Nat) (st : Int) : Value := .agg #[.slice ta tn tc, .slice na nn nc, .slice la ln lc, .int .i64 st, .slice pa pn pc]

theorem isLevel_any (ta na la pa : Option Addr) (tn nn ln pn tc nc lc pc : Nat) (st x : Int) (w : World) :
    Calls Try.prog 89 #[.agg #[.slice ta tn tc, .slice na nn nc, .slice la ln lc, .int .i64 st, .slice pa pn pc], .int .i64 x] w fun e w' => e = .returned (.bool (decide (0 ≤ x) && decide (x ≤ ln))) ∧ w.grownBy w' none := by
  by_cases h0 : 0 ≤ x
  · have hd : decide (0 ≤ x) = true := decide_eq_true h0
    go_enter Try.func89, Try.ntmps89
    go_wp2_with fail
    go_ret
    exact ⟨by simp [h0], World.grownBy_alloc _ _ none⟩
  · have hd : decide (0 ≤ x) = false := decide_eq_false h0
    go_enter Try.func89, Try.ntmps89
    go_wp2_with fail
    go_ret
    exact ⟨by simp, World.grownBy_alloc _ _ none⟩
theorem isTermOf_any (ta na la pa : Option Addr) (tn nn ln pn tc nc lc pc : Nat) (st x : Int) (w : World) :
    Calls Try.prog 93 #[.agg #[.slice ta tn tc, .slice na nn nc, .slice la ln lc, .int .i64 st, .slice pa pn pc], .int .i64 x] w fun e w' => e = .returned (.bool (decide (0 < x) && decide (x < tn))) ∧ w.grownBy w' none := by
  by_cases h0 : 0 < x
  · have hd : decide (0 < x) = true := decide_eq_true h0
    go_enter Try.func93, Try.ntmps93
    go_wp2_with fail
    go_ret
    exact ⟨by simp [h0], World.grownBy_alloc _ _ none⟩
  · have hd : decide (0 < x) = false := decide_eq_false h0
    go_enter Try.func93, Try.ntmps93
    go_wp2_with fail
    go_ret
    exact ⟨by simp, World.grownBy_alloc _ _ none⟩
theorem isNonOf_any (ta na la pa : Option Addr) (tn nn ln pn tc nc lc pc ad : Nat) (st x : Int) (w : World) (ht : tn ≤ 140737488355328) (hn : nn ≤ 140737488355328) (ha : ad ≤ 1) :
    Calls Try.prog 69 #[.agg #[.slice ta tn tc, .slice na nn nc, .slice la ln lc, .int .i64 st, .slice pa pn pc], .int .i64 x, .int .i64 ad] w fun e w' => e = .returned (.bool (decide ((tn : Int) + ad ≤ x) && decide (x < (tn : Int) + nn))) ∧ w.grownBy w' none := by
  by_cases h0 : (tn : Int) + ad ≤ x
  · have hd : decide ((tn : Int) + ad ≤ x) = true := decide_eq_true h0
    go_enter Try.func69, Try.ntmps69
    go_wp2_with fail
    go_ret
    exact ⟨by simp [h0], World.grownBy_alloc _ _ none⟩
  · have hd : decide ((tn : Int) + ad ≤ x) = false := decide_eq_false h0
    go_enter Try.func69, Try.ntmps69
    go_wp2_with fail
    go_ret
    exact ⟨by simp, World.grownBy_alloc _ _ none⟩

/-- Index: somewhere, or -1. -/
theorem index_any (a : Option Addr) (cap : Nat) (l : List Int) (x : Int) (w : World) (hl : IntsAt w a l) (hn : l.length ≤ 140737488355328) :
    Calls Try.prog 99 #[.slice a l.length cap, .int .i64 x] w fun e w' => (∃ r : Int, e = .returned (.int .i64 r) ∧ -1 ≤ r ∧ (0 ≤ r ↔ x ∈ l)) ∧ w' = w := by
  have HL : Hid (IntsAt w a l) := hl
  obtain ⟨n, hln⟩ : ∃ n, n = l.length := ⟨_, rfl⟩
  have HLN : Hid (l.length = n) := hln.symm
  rw [← hln] at hn ⊢
  clear hl hln
  go_enter Try.func99, Try.ntmps99
  go_wp2_with fail
  go_loopw [8] (fun i wr => ∃ k : Nat, k ≤ n ∧ i = .int .i64 k ∧ wr = w ∧ x ∉ l.take k) (fun i _ => n - (intOf i).toNat)
  case atStart => exact ⟨0, Nat.zero_le _, rfl, rfl, by simp⟩
  case round =>
    obtain ⟨k, hk, rfl, hw, hno⟩ := hrel
    subst hw
    have HA : Hid (x ∉ l.take k) := hno
    clear hno
    by_cases hlt : k < n
    · have hkl : k < l.length := by rw [HLN.out]; exact hlt
      obtain ⟨bl, off, rfl, hcells⟩ : ∃ b off, a = some ⟨b, off, none⟩ ∧ ∀ i, i < l.length → wr.cell? ⟨b, off + i, none⟩ = some (.int .i64 (l.getD i 0)) := by
        rcases HL.out with h | h
        · subst h; simp at hkl
        · exact h
      have hck := hcells k hkl
      have hmem : l.getD k 0 ∈ l := by
        have : l.getD k 0 = l[k] := by simp [List.getD, hkl]
        rw [this]; exact List.getElem_mem _
      have htk : l.take (k + 1) = l.take k ++ [l.getD k 0] := by rw [List.take_succ_eq_append_getElem hkl]; simp [List.getD, hkl]
      generalize l.getD k 0 = y at *
      by_cases he : x = y
      · have hb : (x == y) = true := beq_iff_eq.2 he
        have HM : Hid (x ∈ l) := by rw [he]; exact hmem
        clear hcells hmem htk he
        go_wp2_with fail
        go_ret
        exact ⟨⟨k, rfl, by omega, ⟨fun _ => HM.out, fun _ => by omega⟩⟩, rfl⟩
      · have hb : (x == y) = false := beq_eq_false_iff_ne.2 he
        have HA' : Hid (x ∉ l.take (k + 1)) := by
          show x ∉ l.take (k + 1)
          rw [htk, List.mem_append, not_or]
          exact ⟨HA.out, by simpa using he⟩
        clear hcells hmem htk he
        go_wp2_with fail
        go_roundw
        case rel => exact ⟨k + 1, by omega, by go_num, trivial, HA'.out⟩
        case measure => simp [intOf]; omega
    · obtain rfl : k = n := by omega
      have ht : l.take k = l := List.take_of_length_le (Nat.le_of_eq HLN.out)
      rw [ht] at HA
      go_wp2_with fail
      go_ret
      exact ⟨⟨-1, rfl, by omega, ⟨fun h => absurd h (by omega), fun h => absurd h HA.out⟩⟩, rfl⟩

theorem contains_any (a : Option Addr) (cap : Nat) (l : List Int) (x : Int) (w : World) (hl : IntsAt w a l) (hn : l.length ≤ 140737488355328) :
    Calls Try.prog 94 #[.slice a l.length cap, .int .i64 x] w fun e w' => e = .returned (.bool (decide (x ∈ l))) ∧ w' = w := by
  have hI := index_any a cap l x w hl hn
  clear hl
  go_enter Try.func94, Try.ntmps94
  go_wp2_with fail
  refine hI.mono ?_
  rintro e w' ⟨⟨r, rfl, h1, h2⟩, rfl⟩
  go_wp2_with fail
  go_ret
  refine ⟨?_, rfl⟩
  congr 2

theorem less_any (x y : Int) (w : World) : Calls Try.prog 95 #[.int .i64 x, .int .i64 y] w fun e w' => e = .returned (.bool (decide (x < y))) ∧ w' = w := by
  have hN : Calls Try.prog 100 #[.int .i64 x] w fun e w' => e = .returned (.bool false) ∧ w' = w := by
    go_enter Try.func100, Try.ntmps100
    go_wp2_with fail
    go_ret
    exact ⟨by simp, rfl⟩
  go_enter Try.func95, Try.ntmps95
  go_wp2_with (go_at_call 100; refine hN.mono ?_; rintro e w' ⟨rfl, rfl⟩)
  go_ret
  exact ⟨rfl, rfl⟩

end Go.Proofs.Ytkbpnafahimeiaa

namespace Go.Proofs.Ytkbpnafahimeiaa
open Go.RowKit Go.Maps Go.Shelf

attribute [local go_sem] Oper.semAt_some

def leftStep (L : Nat → Int) (out : List Int) (i : Nat) : List Int := if L i ∈ out then out else out ++ [L i]
def leftsTo (L : Nat → Int) (n : Nat) : List Int := (List.range n).foldl (leftStep L) []
theorem leftsTo_succ (L : Nat → Int) (n : Nat) : leftsTo L (n + 1) = leftStep L (leftsTo L n) n := by simp [leftsTo, List.range_succ]
theorem leftsTo_le (L : Nat → Int) : ∀ n, (leftsTo L n).length ≤ n
  | 0 => by simp [leftsTo]
  | n + 1 => by
    rw [leftsTo_succ]
    have := leftsTo_le L n
    unfold leftStep
    split
    · omega
    · simp; omega

theorem owns_intsAt {w : World} {B n c : Nat} {a : Option Addr} {l : List Int} (h : w.ownsRow B 3 1 (.slice a n c) n (l.map (Value.int .i64))) (hn : n = l.length) : IntsAt w a l := by
  subst hn
  have h0 := owns_base h
  obtain ⟨a', c', hv, hI, _⟩ := IntsIn.at (l := l) h0
  simp at hv
  obtain ⟨rfl, rfl⟩ := hv
  exact hI

set_option maxRecDepth 100000 in
set_option maxHeartbeats 1000000 in
theorem lefts_any (a : Option Addr) (n cap : Nat) (L : Nat → Int) (R : Nat → List Int) (ra : Nat → Option Addr) (rc : Nat → Nat) (V : Nat → Int) (w : World) (hP : ProdsAt w a n L R ra rc V) (hn : n ≤ 97) :
    Calls Try.prog 68 #[.slice a n cap] w fun e w' => ∃ a' c', e = .returned (.slice a' (leftsTo L n).length c') ∧ w'.ownsRow w.heap.size 3 1 (.slice a' (leftsTo L n).length c') (leftsTo L n).length ((leftsTo L n).map (Value.int .i64)) ∧ w.grownBy w' none := by
  obtain ⟨i0, hi, hz0, hz1, hz2⟩ := info_parts infoInt
  have HP : Hid (ProdsAt w a n L R ra rc V) := hP
  clear hP
  go_enter Try.func68, Try.ntmps68
  go_wp2_with fail
  go_loopw [8, 3] (fun i v3 wr => ∃ k : Nat, k ≤ n ∧ i = .int .i64 k ∧ ∃ a' c', v3 = .slice a' (leftsTo L k).length c' ∧ wr.ownsRow w.heap.size 3 1 (.slice a' (leftsTo L k).length c') (leftsTo L k).length ((leftsTo L k).map (Value.int .i64)) ∧ w.grownBy wr none) (fun i _ _ => n - (intOf i).toNat)
  case atStart => exact ⟨0, Nat.zero_le _, rfl, none, 0, rfl, World.ownsRow_nil _ _ _ _, grown_refl _ _⟩
  case round =>
    obtain ⟨k, hk, rfl, a3, c3, rfl, hown, hg⟩ := hrel
    have HO : Hid (wr.ownsRow w.heap.size 3 1 (.slice a3 (leftsTo L k).length c3) (leftsTo L k).length ((leftsTo L k).map (Value.int .i64))) := hown
    have HG : Hid (w.grownBy wr none) := hg
    clear hown hg
    by_cases hlt : k < n
    · obtain ⟨bp, off, rfl, hcs⟩ : ∃ b off, a = some ⟨b, off, none⟩ ∧ ∀ k, k < n → w.cell? ⟨b, off + k * 3, none⟩ = some (.int .i64 (L k)) ∧ w.cell? ⟨b, off + k * 3 + 1, none⟩ = some (.slice (ra k) (R k).length (rc k)) ∧ w.cell? ⟨b, off + k * 3 + 2, none⟩ = some (.int .i64 (V k)) ∧ IntsAt w (ra k) (R k) ∧ (ra k = none → rc k = 0) ∧ (R k).length ≤ 17592186044416 := by
        rcases HP.out with h | h
        · omega
        · exact h
      obtain ⟨h1, h2, h3, _⟩ := hcs k hlt
      have d0 := HG.out.cell h1 (by simp)
      have d1 := HG.out.cell h2 (by simp)
      have d2 := HG.out.cell h3 (by simp)
      have hle := leftsTo_le L k
      have hstep := leftsTo_succ L k
      have hst : leftsTo L (k + 1) = if L k ∈ leftsTo L k then leftsTo L k else leftsTo L k ++ [L k] := hstep
      have HST : Hid (leftsTo L (k + 1) = if L k ∈ leftsTo L k then leftsTo L k else leftsTo L k ++ [L k]) := hst
      have hC : ∀ o, Calls Try.prog 94 #[.slice a3 (leftsTo L k).length c3, .int .i64 (L k)] (wr.alloc o) fun e w' => e = .returned (.bool (decide (L k ∈ leftsTo L k))) ∧ w' = wr.alloc o := fun o =>
        contains_any a3 c3 (leftsTo L k) (L k) (wr.alloc o) ((owns_intsAt HO.out rfl).kept (World.grownBy_alloc _ _ none)) (by omega)
      have HC : Hid (∀ o, Calls Try.prog 94 #[.slice a3 (leftsTo L k).length c3, .int .i64 (L k)] (wr.alloc o) fun e w' => e = .returned (.bool (decide (L k ∈ leftsTo L k))) ∧ w' = wr.alloc o) := hC
      have hsz := HG.out.size
      generalize leftsTo L k = out at *
      clear hcs h1 h2 h3 hst hC hstep
      by_cases hm : L k ∈ out
      · have hmd : decide (L k ∈ out) = true := decide_eq_true hm
        have hs2 := HST.out
        rw [if_pos hm] at hs2
        have HS2 : Hid (leftsTo L (k + 1) = out) := hs2
        rw [hmd] at HC
        clear hm HST hs2 hmd
        go_wp2_with fail
        refine (HC.out _).mono ?_
        rintro e w2 ⟨rfl, hw2⟩
        have HO2 : Hid (w2.ownsRow w.heap.size 3 1 (.slice a3 out.length c3) out.length (out.map (Value.int .i64))) := by rw [hw2]; exact HO.out.alloc _
        have HG2 : Hid (w.grownBy w2 none) := by rw [hw2]; exact grown_trans HG.out (World.grownBy_alloc _ _ none)
        clear hw2
        go_wp2_with fail
        go_roundw
        case rel => exact ⟨k + 1, by omega, by go_num, a3, c3, by rw [HS2.out], by rw [HS2.out]; exact HO2.out, HG2.out⟩
        case measure => simp [intOf]; omega
      · have hmd : decide (L k ∈ out) = false := decide_eq_false hm
        have hs2 := HST.out
        rw [if_neg hm] at hs2
        have HS2 : Hid (leftsTo L (k + 1) = out ++ [L k]) := hs2
        rw [hmd] at HC
        clear hm HST hs2 hmd
        go_wp2_with fail
        refine (HC.out _).mono ?_
        rintro e w2 ⟨rfl, hw2⟩
        have HO2 : Hid (w2.ownsRow w.heap.size 3 1 (.slice a3 out.length c3) out.length (out.map (Value.int .i64))) := by rw [hw2]; exact HO.out.alloc _
        have HG2 : Hid (w.grownBy w2 none) := by rw [hw2]; exact grown_trans HG.out (World.grownBy_alloc _ _ none)
        have hcp : w2.cell? ⟨wr.heap.size, 0, none⟩ = some (.int .i64 (L k)) := by
          rw [hw2, cell_of_row _ _ _ _ _ _ (heap_alloc_last wr _)]
          rfl
        have hsz2 := HG2.out.size
        clear hw2
        go_wp2_with (at_builtin; refine wpList_append_lies _ rfl _ _ 30 rfl w.heap.size 3 i0 (.int .i64 0) 1 8 Try.underlying30 hi hz0 hz1 hz2 rfl (by decide) (.slice a3 out.length c3) out.length (out.map (Value.int .i64)) rfl (HO2.out.alloc _) ⟨w2.heap.size, 0, none⟩ 1 1 [.int .i64 (L k)] rfl rfl (cell_one_new _ _ _) (ints_oneCell' [L k]) (by omega) (by unfold maxLen; omega) (by omega) (by simp; omega) _ rfl ?_; intro g4 c4 w4 hown4 hg4 hloc4 hlt4)
        have HFIN : Hid (w4.ownsRow w.heap.size 3 1 (.slice (some ⟨g4, 0, none⟩) (out ++ [L k]).length c4) (out ++ [L k]).length ((out ++ [L k]).map (Value.int .i64)) ∧ w.grownBy w4 none) := by
          refine ⟨by simpa using hown4, ?_⟩
          have hA := grown_trans HG2.out (World.grownBy_alloc w2 (.cells #[.int .i64 (L k)] 3) none)
          cases hv : (Value.slice a3 out.length c3).ownBlock with
          | none => rw [hv] at hg4; exact grown_trans hA hg4
          | some q => rw [hv] at hg4; exact grown_new hA hg4 (HO2.out.lt q hv).1
        clear hown4 hg4 hloc4 hlt4
        go_wp2_with fail
        go_roundw
        case rel => exact ⟨k + 1, by omega, by go_num, some ⟨g4, 0, none⟩, c4, by rw [HS2.out]; simp, by rw [HS2.out]; exact HFIN.out.1, HFIN.out.2⟩
        case measure => simp [intOf]; omega
    · obtain rfl : k = n := by omega
      go_wp2_with fail
      go_ret
      exact ⟨a3, c3, rfl, HO.out, HG.out⟩

theorem less_quiet (x y : Int) (w : World) (q : Nat) : Calls Try.prog 95 #[.int .i64 x, .int .i64 y] (w.drewN q) fun e w' => e = .returned (.bool (decide (x < y))) ∧ w' = w.drewN q := less_any x y _

def Asc (l : List Int) : Prop := ∀ i, i + 1 < l.length → l.getD i 0 ≤ l.getD (i + 1) 0

/-- IsSorted: no number is below the one ahead of it. -/
theorem isSorted_any (a : Option Addr) (cap : Nat) (l : List Int) (w : World) (hl : IntsAt w a l) (hn : l.length ≤ 97) (r : Bool) (hr : r = true ↔ Asc l) :
    Calls Try.prog 70 #[.slice a l.length cap] w fun e w' => e = .returned (.bool r) ∧ w.grownBy w' none := by
  have HRR : Hid (r = true ↔ Asc l) := hr
  clear hr
  have HL : Hid (IntsAt w a l) := hl
  obtain ⟨n, hln⟩ : ∃ n, n = l.length := ⟨_, rfl⟩
  have HLN : Hid (l.length = n) := hln.symm
  rw [← hln] at hn ⊢
  clear hl hln
  go_enter Try.func70, Try.ntmps70
  go_wp2_with fail
  go_loopw [3] (fun i wr => ∃ k : Int, -1 ≤ k ∧ k < n ∧ i = .int .i64 k ∧ w.grownBy wr none ∧ ∀ j : Nat, k ≤ j → j + 1 < n → l.getD j 0 ≤ l.getD (j + 1) 0) (fun i _ => (intOf i + 1).toNat)
  case atStart => exact ⟨(n : Int) - 1, by omega, by omega, rfl, grown_refl _ _, fun j h1 h2 => by omega⟩
  case round =>
    obtain ⟨k, hk1, hk2, rfl, hg, hall⟩ := hrel
    have HG : Hid (w.grownBy wr none) := hg
    have HA : Hid (∀ j : Nat, k ≤ j → j + 1 < n → l.getD j 0 ≤ l.getD (j + 1) 0) := hall
    clear hg hall
    by_cases hpos : 0 < k
    · obtain ⟨m, rfl⟩ : ∃ m : Nat, k = (m : Int) + 1 := ⟨(k - 1).toNat, by omega⟩
      obtain ⟨bl, off, rfl, hcells⟩ : ∃ b off, a = some ⟨b, off, none⟩ ∧ ∀ i, i < l.length → wr.cell? ⟨b, off + i, none⟩ = some (.int .i64 (l.getD i 0)) := by
        rcases HL.out.kept HG.out with h | h
        · have := HLN.out; subst h; simp at this; omega
        · exact h
      have hln := HLN.out
      have h1 := hcells m (by omega)
      have h2 := hcells (m + 1) (by omega)
      obtain ⟨x, hx⟩ : ∃ x, x = l.getD m 0 := ⟨_, rfl⟩
      obtain ⟨y, hy⟩ : ∃ y, y = l.getD (m + 1) 0 := ⟨_, rfl⟩
      rw [← hx] at h1
      rw [← hy] at h2
      have hb1 : (m : Int) < n := by omega
      have hb2 : (m : Int) + 1 < n := by omega
      have hm64 : m ≤ 97 := by omega
      have HXY : Hid (x = l.getD m 0 ∧ y = l.getD (m + 1) 0) := ⟨hx, hy⟩
      clear hcells hln hx hy
      cases hd : decide (y < x) with
      | true =>
        have hrf : r = false := Bool.eq_false_iff.2 fun hh => by
          have h3 := HRR.out.1 hh m (by rw [HLN.out]; omega)
          rw [← HXY.out.1, ← HXY.out.2] at h3
          have := of_decide_eq_true hd
          omega
        have HLS : Hid (∀ q, Calls Try.prog 95 #[.int .i64 y, .int .i64 x] (wr.drewN q) fun e w' => e = .returned (.bool true) ∧ w' = wr.drewN q) := fun q => by have := less_quiet y x wr q; rwa [hd] at this
        go_wp2_with fail
        go_quiet (first | (go_at_call 95; with_reducible exact Calls.quiet_of_same (HLS.out _)))
        go_wp2
        go_ret
        exact ⟨by rw [hrf]; rfl, grown_trans HG.out (grown_drewN _ _)⟩
      | false =>
        have HA' : Hid (∀ j : Nat, (m : Int) ≤ j → j + 1 < n → l.getD j 0 ≤ l.getD (j + 1) 0) := fun j h3 h4 => by
          by_cases e : j = m
          · subst e
            rw [← HXY.out.1, ← HXY.out.2]
            have := of_decide_eq_false hd
            omega
          · exact HA.out j (by omega) h4
        have HLS : Hid (∀ q, Calls Try.prog 95 #[.int .i64 y, .int .i64 x] (wr.drewN q) fun e w' => e = .returned (.bool false) ∧ w' = wr.drewN q) := fun q => by have := less_quiet y x wr q; rwa [hd] at this
        go_wp2_with fail
        go_quiet (first | (go_at_call 95; with_reducible exact Calls.quiet_of_same (HLS.out _)))
        go_wp2
        go_roundw
        case rel => exact ⟨m, by omega, by omega, by go_num, grown_trans HG.out (grown_drewN _ _), HA'.out⟩
        case measure => simp [intOf]; omega
    · have hd : decide (0 < k) = false := decide_eq_false hpos
      have hrt : r = true := HRR.out.2 fun i hi => HA.out i (by omega) (by rw [← HLN.out]; exact hi)
      go_wp2_with fail
      go_ret
      exact ⟨by first | rfl | (rw [hrt]; rfl), HG.out⟩

end Go.Proofs.Ytkbpnafahimeiaa
