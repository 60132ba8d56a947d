import Derived.Test.YtdhojilmgnodeaaDoorQocchkiekhmfo
import Derived.Laws.StructEq

/-
  lefts and IsSorted, walked.
-/
namespace Go.Proofs.YtdhojilmgnodeaaDoor
open Go.RowKit Go.Maps Go.Shelf

attribute [local go_sem] Oper.semAt_some

/-- A grammar by value. -/
def gramV (ta na la pa : Option Addr) (tn nn ln pn tc nc lc pc : Nat) (st : Int) : Value := .agg #[.slice ta tn tc, .slice na nn nc, .slice la ln lc, .int .i64 st, .slice pa pn pc]

theorem isLevel_any (ta na la pa : Option Addr) (tn nn ln pn tc nc lc pc : Nat) (st x : Int) (w : World) :
    Calls Tryd.prog 83 #[.agg #[.slice ta tn tc, .slice na nn nc, .slice la ln lc, .int .i64 st, .slice pa pn pc], .int .i64 x] w fun e w' => e = .returned (.bool (decide (0 ≤ x) && decide (x ≤ ln))) ∧ w.grownBy w' none := by
  by_cases h0 : 0 ≤ x
  · have hd : decide (0 ≤ x) = true := decide_eq_true h0
    go_enter Tryd.func83, Tryd.ntmps83
    go_wp2_with fail
    go_ret
    exact ⟨by simp [h0], World.grownBy_alloc _ _ none⟩
  · have hd : decide (0 ≤ x) = false := decide_eq_false h0
    go_enter Tryd.func83, Tryd.ntmps83
    go_wp2_with fail
    go_ret
    exact ⟨by simp, World.grownBy_alloc _ _ none⟩
theorem isTermOf_any (ta na la pa : Option Addr) (tn nn ln pn tc nc lc pc : Nat) (st x : Int) (w : World) :
    Calls Tryd.prog 89 #[.agg #[.slice ta tn tc, .slice na nn nc, .slice la ln lc, .int .i64 st, .slice pa pn pc], .int .i64 x] w fun e w' => e = .returned (.bool (decide (0 < x) && decide (x < tn))) ∧ w.grownBy w' none := by
  by_cases h0 : 0 < x
  · have hd : decide (0 < x) = true := decide_eq_true h0
    go_enter Tryd.func89, Tryd.ntmps89
    go_wp2_with fail
    go_ret
    exact ⟨by simp [h0], World.grownBy_alloc _ _ none⟩
  · have hd : decide (0 < x) = false := decide_eq_false h0
    go_enter Tryd.func89, Tryd.ntmps89
    go_wp2_with fail
    go_ret
    exact ⟨by simp, World.grownBy_alloc _ _ none⟩
theorem isNonOf_any (ta na la pa : Option Addr) (tn nn ln pn tc nc lc pc ad : Nat) (st x : Int) (w : World) (ht : tn ≤ 140737488355328) (hn : nn ≤ 140737488355328) (ha : ad ≤ 1) :
    Calls Tryd.prog 79 #[.agg #[.slice ta tn tc, .slice na nn nc, .slice la ln lc, .int .i64 st, .slice pa pn pc], .int .i64 x, .int .i64 ad] w fun e w' => e = .returned (.bool (decide ((tn : Int) + ad ≤ x) && decide (x < (tn : Int) + nn))) ∧ w.grownBy w' none := by
  by_cases h0 : (tn : Int) + ad ≤ x
  · have hd : decide ((tn : Int) + ad ≤ x) = true := decide_eq_true h0
    go_enter Tryd.func79, Tryd.ntmps79
    go_wp2_with fail
    go_ret
    exact ⟨by simp [h0], World.grownBy_alloc _ _ none⟩
  · have hd : decide ((tn : Int) + ad ≤ x) = false := decide_eq_false h0
    go_enter Tryd.func79, Tryd.ntmps79
    go_wp2_with fail
    go_ret
    exact ⟨by simp, World.grownBy_alloc _ _ none⟩

/-- Index: somewhere, or -1. -/
theorem index_any (a : Option Addr) (cap : Nat) (l : List Int) (x : Int) (w : World) (hl : IntsAt w a l) (hn : l.length ≤ 140737488355328) :
    Calls Tryd.prog 97 #[.slice a l.length cap, .int .i64 x] w fun e w' => (∃ r : Int, e = .returned (.int .i64 r) ∧ -1 ≤ r ∧ (0 ≤ r ↔ x ∈ l)) ∧ w' = w := by
  have HL : Hid (IntsAt w a l) := hl
  obtain ⟨n, hln⟩ : ∃ n, n = l.length := ⟨_, rfl⟩
  have HLN : Hid (l.length = n) := hln.symm
  rw [← hln] at hn ⊢
  clear hl hln
  go_enter Tryd.func97, Tryd.ntmps97
  go_wp2_with fail
  go_loopw [8] (fun i wr => ∃ k : Nat, k ≤ n ∧ i = .int .i64 k ∧ wr = w ∧ x ∉ l.take k) (fun i _ => n - (intOf i).toNat)
  case atStart => exact ⟨0, Nat.zero_le _, rfl, rfl, by simp⟩
  case round =>
    obtain ⟨k, hk, rfl, hw, hno⟩ := hrel
    subst hw
    have HA : Hid (x ∉ l.take k) := hno
    clear hno
    by_cases hlt : k < n
    · have hkl : k < l.length := by rw [HLN.out]; exact hlt
      obtain ⟨bl, off, rfl, hcells⟩ : ∃ b off, a = some ⟨b, off, none⟩ ∧ ∀ i, i < l.length → wr.cell? ⟨b, off + i, none⟩ = some (.int .i64 (l.getD i 0)) := by
        rcases HL.out with h | h
        · subst h; simp at hkl
        · exact h
      have hck := hcells k hkl
      have hmem : l.getD k 0 ∈ l := by
        have : l.getD k 0 = l[k] := by simp [List.getD, hkl]
        rw [this]; exact List.getElem_mem _
      have htk : l.take (k + 1) = l.take k ++ [l.getD k 0] := by rw [List.take_succ_eq_append_getElem hkl]; simp [List.getD, hkl]
      generalize l.getD k 0 = y at *
      by_cases he : x = y
      · have hb : (x == y) = true := beq_iff_eq.2 he
        have HM : Hid (x ∈ l) := by rw [he]; exact hmem
        clear hcells hmem htk he
        go_wp2_with fail
        go_ret
        exact ⟨⟨k, rfl, by omega, ⟨fun _ => HM.out, fun _ => by omega⟩⟩, rfl⟩
      · have hb : (x == y) = false := beq_eq_false_iff_ne.2 he
        have HA' : Hid (x ∉ l.take (k + 1)) := by
          show x ∉ l.take (k + 1)
          rw [htk, List.mem_append, not_or]
          exact ⟨HA.out, by simpa using he⟩
        clear hcells hmem htk he
        go_wp2_with fail
        go_roundw
        case rel => exact ⟨k + 1, by omega, by go_num, trivial, HA'.out⟩
        case measure => simp [intOf]; omega
    · obtain rfl : k = n := by omega
      have ht : l.take k = l := List.take_of_length_le (Nat.le_of_eq HLN.out)
      rw [ht] at HA
      go_wp2_with fail
      go_ret
      exact ⟨⟨-1, rfl, by omega, ⟨fun h => absurd h (by omega), fun h => absurd h HA.out⟩⟩, rfl⟩

theorem contains_any (a : Option Addr) (cap : Nat) (l : List Int) (x : Int) (w : World) (hl : IntsAt w a l) (hn : l.length ≤ 140737488355328) :
    Calls Tryd.prog 90 #[.slice a l.length cap, .int .i64 x] w fun e w' => e = .returned (.bool (decide (x ∈ l))) ∧ w' = w := by
  have hI := index_any a cap l x w hl hn
  clear hl
  go_enter Tryd.func90, Tryd.ntmps90
  go_wp2_with fail
  refine hI.mono ?_
  rintro e w' ⟨⟨r, rfl, h1, h2⟩, rfl⟩
  go_wp2_with fail
  go_ret
  refine ⟨?_, rfl⟩
  congr 2

theorem less_any (x y : Int) (w : World) : Calls Tryd.prog 91 #[.int .i64 x, .int .i64 y] w fun e w' => e = .returned (.bool (decide (x < y))) ∧ w' = w := by
  have hN : Calls Tryd.prog 98 #[.int .i64 x] w fun e w' => e = .returned (.bool false) ∧ w' = w := by
    go_enter Tryd.func98, Tryd.ntmps98
    go_wp2_with fail
    go_ret
    exact ⟨by simp, rfl⟩
  go_enter Tryd.func91, Tryd.ntmps91
  go_wp2_with (go_at_call 98; refine hN.mono ?_; rintro e w' ⟨rfl, rfl⟩)
  go_ret
  exact ⟨rfl, rfl⟩

end Go.Proofs.YtdhojilmgnodeaaDoor

namespace Go.Proofs.YtdhojilmgnodeaaDoor
open Go.RowKit Go.Maps Go.Shelf

attribute [local go_sem] Oper.semAt_some

def leftStep (L : Nat → Int) (out : List Int) (i : Nat) : List Int := if L i ∈ out then out else out ++ [L i]
def leftsTo (L : Nat → Int) (n : Nat) : List Int := (List.range n).foldl (leftStep L) []
theorem leftsTo_succ (L : Nat → Int) (n : Nat) : leftsTo L (n + 1) = leftStep L (leftsTo L n) n := by simp [leftsTo, List.range_succ]
theorem leftsTo_le (L : Nat → Int) : ∀ n, (leftsTo L n).length ≤ n
  | 0 => by simp [leftsTo]
  | n + 1 => by
    rw [leftsTo_succ]
    have := leftsTo_le L n
    unfold leftStep
    split
    · omega
    · simp; omega

theorem owns_intsAt {w : World} {B n c : Nat} {a : Option Addr} {l : List Int} (h : w.ownsRow B 3 1 (.slice a n c) n (l.map (Value.int .i64))) (hn : n = l.length) : IntsAt w a l := by
  subst hn
  have h0 := owns_base h
  obtain ⟨a', c', hv, hI, _⟩ := IntsIn.at (l := l) h0
  simp at hv
  obtain ⟨rfl, rfl⟩ := hv
  exact hI

set_option maxRecDepth 100000 in
set_option maxHeartbeats 1000000 in
theorem lefts_any (a : Option Addr) (n cap : Nat) (L : Nat → Int) (R : Nat → List Int) (ra : Nat → Option Addr) (rc : Nat → Nat) (V : Nat → Int) (w : World) (hP : ProdsAt w a n L R ra rc V) (hn : n ≤ 97) :
    Calls Tryd.prog 78 #[.slice a n cap] w fun e w' => ∃ a' c', e = .returned (.slice a' (leftsTo L n).length c') ∧ w'.ownsRow w.heap.size 3 1 (.slice a' (leftsTo L n).length c') (leftsTo L n).length ((leftsTo L n).map (Value.int .i64)) ∧ w.grownBy w' none := by
  obtain ⟨i0, hi, hz0, hz1, hz2⟩ := info_parts infoInt
  have HP : Hid (ProdsAt w a n L R ra rc V) := hP
  clear hP
  go_enter Tryd.func78, Tryd.ntmps78
  go_wp2_with fail
  go_loopw [8, 3] (fun i v3 wr => ∃ k : Nat, k ≤ n ∧ i = .int .i64 k ∧ ∃ a' c', v3 = .slice a' (leftsTo L k).length c' ∧ wr.ownsRow w.heap.size 3 1 (.slice a' (leftsTo L k).length c') (leftsTo L k).length ((leftsTo L k).map (Value.int .i64)) ∧ w.grownBy wr none) (fun i _ _ => n - (intOf i).toNat)
  case atStart => exact ⟨0, Nat.zero_le _, rfl, none, 0, rfl, World.ownsRow_nil _ _ _ _, grown_refl _ _⟩
  case round =>
    obtain ⟨k, hk, rfl, a3, c3, rfl, hown, hg⟩ := hrel
    have HO : Hid (wr.ownsRow w.heap.size 3 1 (.slice a3 (leftsTo L k).length c3) (leftsTo L k).length ((leftsTo L k).map (Value.int .i64))) := hown
    have HG : Hid (w.grownBy wr none) := hg
    clear hown hg
    by_cases hlt : k < n
    · obtain ⟨bp, off, rfl, hcs⟩ : ∃ b off, a = some ⟨b, off, none⟩ ∧ ∀ k, k < n → w.cell? ⟨b, off + k * 3, none⟩ = some (.int .i64 (L k)) ∧ w.cell? ⟨b, off + k * 3 + 1, none⟩ = some (.slice (ra k) (R k).length (rc k)) ∧ w.cell? ⟨b, off + k * 3 + 2, none⟩ = some (.int .i64 (V k)) ∧ IntsAt w (ra k) (R k) ∧ (ra k = none → rc k = 0) ∧ (R k).length ≤ 17592186044416 := by
        rcases HP.out with h | h
        · omega
        · exact h
      obtain ⟨h1, h2, h3, _⟩ := hcs k hlt
      have d0 := HG.out.cell h1 (by simp)
      have d1 := HG.out.cell h2 (by simp)
      have d2 := HG.out.cell h3 (by simp)
      have hle := leftsTo_le L k
      have hstep := leftsTo_succ L k
      have hst : leftsTo L (k + 1) = if L k ∈ leftsTo L k then leftsTo L k else leftsTo L k ++ [L k] := hstep
      have HST : Hid (leftsTo L (k + 1) = if L k ∈ leftsTo L k then leftsTo L k else leftsTo L k ++ [L k]) := hst
      have hC : ∀ o, Calls Tryd.prog 90 #[.slice a3 (leftsTo L k).length c3, .int .i64 (L k)] (wr.alloc o) fun e w' => e = .returned (.bool (decide (L k ∈ leftsTo L k))) ∧ w' = wr.alloc o := fun o =>
        contains_any a3 c3 (leftsTo L k) (L k) (wr.alloc o) ((owns_intsAt HO.out rfl).kept (World.grownBy_alloc _ _ none)) (by omega)
      have HC : Hid (∀ o, Calls Tryd.prog 90 #[.slice a3 (leftsTo L k).length c3, .int .i64 (L k)] (wr.alloc o) fun e w' => e = .returned (.bool (decide (L k ∈ leftsTo L k))) ∧ w' = wr.alloc o) := hC
      have hsz := HG.out.size
      generalize leftsTo L k = out at *
      clear hcs h1 h2 h3 hst hC hstep
      by_cases hm : L k ∈ out
      · have hmd : decide (L k ∈ out) = true := decide_eq_true hm
        have hs2 := HST.out
        rw [if_pos hm] at hs2
        have HS2 : Hid (leftsTo L (k + 1) = out) := hs2
        rw [hmd] at HC
        clear hm HST hs2 hmd
        go_wp2_with fail
        refine (HC.out _).mono ?_
        rintro e w2 ⟨rfl, hw2⟩
        have HO2 : Hid (w2.ownsRow w.heap.size 3 1 (.slice a3 out.length c3) out.length (out.map (Value.int .i64))) := by rw [hw2]; exact HO.out.alloc _
        have HG2 : Hid (w.grownBy w2 none) := by rw [hw2]; exact grown_trans HG.out (World.grownBy_alloc _ _ none)
        clear hw2
        go_wp2_with fail
        go_roundw
        case rel => exact ⟨k + 1, by omega, by go_num, a3, c3, by rw [HS2.out], by rw [HS2.out]; exact HO2.out, HG2.out⟩
        case measure => simp [intOf]; omega
      · have hmd : decide (L k ∈ out) = false := decide_eq_false hm
        have hs2 := HST.out
        rw [if_neg hm] at hs2
        have HS2 : Hid (leftsTo L (k + 1) = out ++ [L k]) := hs2
        rw [hmd] at HC
        clear hm HST hs2 hmd
        go_wp2_with fail
        refine (HC.out _).mono ?_
        rintro e w2 ⟨rfl, hw2⟩
        have HO2 : Hid (w2.ownsRow w.heap.size 3 1 (.slice a3 out.length c3) out.length (out.map (Value.int .i64))) := by rw [hw2]; exact HO.out.alloc _
        have HG2 : Hid (w.grownBy w2 none) := by rw [hw2]; exact grown_trans HG.out (World.grownBy_alloc _ _ none)
        have hcp : w2.cell? ⟨wr.heap.size, 0, none⟩ = some (.int .i64 (L k)) := by
          rw [hw2, cell_of_row _ _ _ _ _ _ (heap_alloc_last wr _)]
          rfl
        have hsz2 := HG2.out.size
        clear hw2
        go_wp2_with (at_builtin; refine wpList_append_lies _ rfl _ _ 24 rfl w.heap.size 3 i0 (.int .i64 0) 1 8 Tryd.underlying24 hi hz0 hz1 hz2 rfl (by decide) (.slice a3 out.length c3) out.length (out.map (Value.int .i64)) rfl (HO2.out.alloc _) ⟨w2.heap.size, 0, none⟩ 1 1 [.int .i64 (L k)] rfl rfl (cell_one_new _ _ _) (ints_oneCell' [L k]) (by omega) (by unfold maxLen; omega) (by omega) (by simp; omega) _ rfl ?_; intro g4 c4 w4 hown4 hg4 hloc4 hlt4)
        have HFIN : Hid (w4.ownsRow w.heap.size 3 1 (.slice (some ⟨g4, 0, none⟩) (out ++ [L k]).length c4) (out ++ [L k]).length ((out ++ [L k]).map (Value.int .i64)) ∧ w.grownBy w4 none) := by
          refine ⟨by simpa using hown4, ?_⟩
          have hA := grown_trans HG2.out (World.grownBy_alloc w2 (.cells #[.int .i64 (L k)] 3) none)
          cases hv : (Value.slice a3 out.length c3).ownBlock with
          | none => rw [hv] at hg4; exact grown_trans hA hg4
          | some q => rw [hv] at hg4; exact grown_new hA hg4 (HO2.out.lt q hv).1
        clear hown4 hg4 hloc4 hlt4
        go_wp2_with fail
        go_roundw
        case rel => exact ⟨k + 1, by omega, by go_num, some ⟨g4, 0, none⟩, c4, by rw [HS2.out]; simp, by rw [HS2.out]; exact HFIN.out.1, HFIN.out.2⟩
        case measure => simp [intOf]; omega
    · obtain rfl : k = n := by omega
      go_wp2_with fail
      go_ret
      exact ⟨a3, c3, rfl, HO.out, HG.out⟩

theorem less_quiet (x y : Int) (w : World) (q : Nat) : Calls Tryd.prog 91 #[.int .i64 x, .int .i64 y] (w.drewN q) fun e w' => e = .returned (.bool (decide (x < y))) ∧ w' = w.drewN q := less_any x y _

def Asc (l : List Int) : Prop := ∀ i, i + 1 < l.length → l.getD i 0 ≤ l.getD (i + 1) 0

/-- IsSorted: no number is below the one ahead of it. -/
theorem isSorted_any (a : Option Addr) (cap : Nat) (l : List Int) (w : World) (hl : IntsAt w a l) (hn : l.length ≤ 97) (r : Bool) (hr : r = true ↔ Asc l) :
    Calls Tryd.prog 80 #[.slice a l.length cap] w fun e w' => e = .returned (.bool r) ∧ w.grownBy w' none := by
  have HRR : Hid (r = true ↔ Asc l) := hr
  clear hr
  have HL : Hid (IntsAt w a l) := hl
  obtain ⟨n, hln⟩ : ∃ n, n = l.length := ⟨_, rfl⟩
  have HLN : Hid (l.length = n) := hln.symm
  rw [← hln] at hn ⊢
  clear hl hln
  go_enter Tryd.func80, Tryd.ntmps80
  go_wp2_with fail
  go_loopw [3] (fun i wr => ∃ k : Int, -1 ≤ k ∧ k < n ∧ i = .int .i64 k ∧ w.grownBy wr none ∧ ∀ j : Nat, k ≤ j → j + 1 < n → l.getD j 0 ≤ l.getD (j + 1) 0) (fun i _ => (intOf i + 1).toNat)
  case atStart => exact ⟨(n : Int) - 1, by omega, by omega, rfl, grown_refl _ _, fun j h1 h2 => by omega⟩
  case round =>
    obtain ⟨k, hk1, hk2, rfl, hg, hall⟩ := hrel
    have HG : Hid (w.grownBy wr none) := hg
    have HA : Hid (∀ j : Nat, k ≤ j → j + 1 < n → l.getD j 0 ≤ l.getD (j + 1) 0) := hall
    clear hg hall
    by_cases hpos : 0 < k
    · obtain ⟨m, rfl⟩ : ∃ m : Nat, k = (m : Int) + 1 := ⟨(k - 1).toNat, by omega⟩
      obtain ⟨bl, off, rfl, hcells⟩ : ∃ b off, a = some ⟨b, off, none⟩ ∧ ∀ i, i < l.length → wr.cell? ⟨b, off + i, none⟩ = some (.int .i64 (l.getD i 0)) := by
        rcases HL.out.kept HG.out with h | h
        · have := HLN.out; subst h; simp at this; omega
        · exact h
      have hln := HLN.out
      have h1 := hcells m (by omega)
      have h2 := hcells (m + 1) (by omega)
      obtain ⟨x, hx⟩ : ∃ x, x = l.getD m 0 := ⟨_, rfl⟩
      obtain ⟨y, hy⟩ : ∃ y, y = l.getD (m + 1) 0 := ⟨_, rfl⟩
      rw [← hx] at h1
      rw [← hy] at h2
      have hb1 : (m : Int) < n := by omega
      have hb2 : (m : Int) + 1 < n := by omega
      have hm64 : m ≤ 97 := by omega
      have HXY : Hid (x = l.getD m 0 ∧ y = l.getD (m + 1) 0) := ⟨hx, hy⟩
      clear hcells hln hx hy
      cases hd : decide (y < x) with
      | true =>
        have hrf : r = false := Bool.eq_false_iff.2 fun hh => by
          have h3 := HRR.out.1 hh m (by rw [HLN.out]; omega)
          rw [← HXY.out.1, ← HXY.out.2] at h3
          have := of_decide_eq_true hd
          omega
        have HLS : Hid (∀ q, Calls Tryd.prog 91 #[.int .i64 y, .int .i64 x] (wr.drewN q) fun e w' => e = .returned (.bool true) ∧ w' = wr.drewN q) := fun q => by have := less_quiet y x wr q; rwa [hd] at this
        go_wp2_with fail
        go_quiet (first | (go_at_call 91; with_reducible exact Calls.quiet_of_same (HLS.out _)))
        go_wp2
        go_ret
        exact ⟨by rw [hrf]; rfl, grown_trans HG.out (grown_drewN _ _)⟩
      | false =>
        have HA' : Hid (∀ j : Nat, (m : Int) ≤ j → j + 1 < n → l.getD j 0 ≤ l.getD (j + 1) 0) := fun j h3 h4 => by
          by_cases e : j = m
          · subst e
            rw [← HXY.out.1, ← HXY.out.2]
            have := of_decide_eq_false hd
            omega
          · exact HA.out j (by omega) h4
        have HLS : Hid (∀ q, Calls Tryd.prog 91 #[.int .i64 y, .int .i64 x] (wr.drewN q) fun e w' => e = .returned (.bool false) ∧ w' = wr.drewN q) := fun q => by have := less_quiet y x wr q; rwa [hd] at this
        go_wp2_with fail
        go_quiet (first | (go_at_call 91; with_reducible exact Calls.quiet_of_same (HLS.out _)))
        go_wp2
        go_roundw
        case rel => exact ⟨m, by omega, by omega, by go_num, grown_trans HG.out (grown_drewN _ _), HA'.out⟩
        case measure => simp [intOf]; omega
    · have hd : decide (0 < k) = false := decide_eq_false hpos
      have hrt : r = true := HRR.out.2 fun i hi => HA.out i (by omega) (by rw [← HLN.out]; exact hi)
      go_wp2_with fail
      go_ret
      exact ⟨by first | rfl | (rw [hrt]; rfl), HG.out⟩

end Go.Proofs.YtdhojilmgnodeaaDoor

/-
  termsHold, walked: the end marker ahead, then terminals' texts, no two alike, their levels.
-/
namespace Go.Proofs.YtdhojilmgnodeaaDoor
open Go.RowKit Go.Maps Go.Shelf

attribute [local go_sem] Oper.semAt_some

theorem neqTerm (s s' : ByteArray) (l l' : Int) (w : World) : (binOp .neq 77 (.agg #[.string s, .int .i64 l]) (.agg #[.string s', .int .i64 l'])).run Tryd.prog w = .ok (.bool (!(s.toList == s'.toList && l == l'))) w := by
  have u3 := Tryd.underlying3
  have u9 := Tryd.underlying9
  have hS : Tryd.prog.underlying 77 = some (.struct (Tryd.prog.fieldsOf 77)) := by kernel_rfl
  have hp : Tryd.prog.stoodInHeld 77 = false := by kernel_rfl
  rw [run_neq_struct, show (10000 : Nat) = 9999 + 1 from rfl, run_equalIn_agg w 9999 77 _ _ hS hp]
  simp only [Program.fieldsOf, Tryd.underlying77]
  go_simp
  by_cases h1 : s.toList = s'.toList <;> by_cases h2 : l = l' <;> simp [h1, h2]

/-- Terminals, wherever they lie. -/
def TermsAt (w : World) (a : Option Addr) (ts : List (ByteArray × Int)) : Prop :=
  ts = [] ∨ ∃ b off, a = some ⟨b, off, none⟩ ∧ ∀ i, i < ts.length → w.cell? ⟨b, off + i * 2, none⟩ = some (.string (ts.getD i (⟨#[]⟩, 0)).1) ∧ w.cell? ⟨b, off + i * 2 + 1, none⟩ = some (.int .i64 (ts.getD i (⟨#[]⟩, 0)).2)

theorem TermsAt.kept {w w' : World} {a : Option Addr} {ts : List (ByteArray × Int)} (h : TermsAt w a ts) (hg : w.grownBy w' none) : TermsAt w' a ts := by
  rcases h with h | ⟨b, off, ha, hc⟩
  · exact .inl h
  · exact .inr ⟨b, off, ha, fun i hi => ⟨hg.cell (hc i hi).1 (by simp), hg.cell (hc i hi).2 (by simp)⟩⟩

def termOK (ln : Nat) (t : ByteArray × Int) : Prop := isTextB t.1 = true ∧ 0 ≤ t.2 ∧ t.2 ≤ ln
def termsOK (ts : List (ByteArray × Int)) (ln : Nat) : Prop := ∃ rest, ts = (⟨#[]⟩, 0) :: rest ∧ (∀ t ∈ rest, termOK ln t) ∧ (rest.map (·.1)).Nodup

theorem toList_empty (s : ByteArray) : s.toList = (ByteArray.mk #[]).toList ↔ s = ⟨#[]⟩ := by
  rw [ByteArray.toList_eq, ByteArray.toList_eq]
  exact ⟨bytes_ext, fun h => by rw [h]⟩

theorem termsHold_none (ta na la pa : Option Addr) (nn ln pn tc nc lc pc : Nat) (st : Int) (w : World) :
    Calls Tryd.prog 74 #[.agg #[.slice ta 0 tc, .slice na nn nc, .slice la ln lc, .int .i64 st, .slice pa pn pc]] w fun e w' => e = .returned (.bool false) ∧ w.grownBy w' none := by
  go_enter Tryd.func74, Tryd.ntmps74
  go_wp2_with fail
  go_ret
  exact ⟨rfl, World.grownBy_alloc _ _ none⟩

/-- The texts of the first k. -/
structure TxAt (w wr : World) (Bg : Nat) (cs : Array Value) (rest : List (ByteArray × Int)) (ln k : Nat) (v : Value) : Prop where
  own : wr.ownsRow (Bg + 1) 9 1 v k ((rest.take k).map fun t => Value.string t.1)
  ok : ∀ t ∈ rest.take k, termOK ln t
  grown : w.grownBy wr none
  box : wr.heap[Bg]? = some (.cells cs 27 (0, 0))
  lo : w.heap.size ≤ Bg

theorem TxAt.kept {w wr wx : World} {Bg ln k : Nat} {cs : Array Value} {rest : List (ByteArray × Int)} {v : Value} (h : TxAt w wr Bg cs rest ln k v) (hg : wr.grownBy wx none) : TxAt w wx Bg cs rest ln k v :=
  ⟨h.own.kept hg (by cases hv : v.ownBlock <;> simp), h.ok, grown_trans h.grown hg, (hg.block Bg (Array.getElem?_eq_some_iff.1 h.box).1 (by simp)).trans h.box, h.lo⟩
theorem TxAt.push {w wr w1 w3 : World} {Bg ln k g c : Nat} {cs : Array Value} {rest : List (ByteArray × Int)} {v : Value} (h : TxAt w wr Bg cs rest ln k v) (hk : k < rest.length) (hg1 : wr.grownBy w1 none) (ht : termOK ln (rest.getD k (⟨#[]⟩, 0)))
    (hown : w3.ownsRow (Bg + 1) 9 1 (.slice (some ⟨g, 0, none⟩) (k + 1) c) (k + 1) (((rest.take k).map fun t => Value.string t.1) ++ [.string (rest.getD k (⟨#[]⟩, 0)).1])) (hg3 : w1.grownBy w3 v.ownBlock) : TxAt w w3 Bg cs rest ln (k + 1) (.slice (some ⟨g, 0, none⟩) (k + 1) c) := by
  have htk : rest.take (k + 1) = rest.take k ++ [rest.getD k (⟨#[]⟩, 0)] := by rw [List.take_succ_eq_append_getElem hk]; simp [List.getD, hk]
  have hlt : Bg < wr.heap.size := (Array.getElem?_eq_some_iff.1 h.box).1
  have hne : ∀ i, i ≤ Bg → some i ≠ v.ownBlock := fun i hi e => by
    have := (h.own.lt i e.symm).1
    omega
  have hlo := h.lo
  refine ⟨by rw [htk, List.map_append]; exact hown, fun t hm => ?_, ?_, ?_, h.lo⟩
  · rw [htk] at hm
    rcases List.mem_append.1 hm with hm | hm
    · exact h.ok t hm
    · simp only [List.mem_singleton] at hm; rw [hm]; exact ht
  · have hG := grown_trans h.grown hg1
    exact ⟨hg3.os.trans hG.os, hg3.tape.trans hG.tape, hg3.output.trans hG.output, Nat.le_trans hG.size hg3.size, fun i hi _ => (hg3.block i (Nat.lt_of_lt_of_le hi hG.size) (hne i (by omega))).trans (hG.block i hi (by simp))⟩
  · rw [hg3.block Bg (Nat.lt_of_lt_of_le hlt hg1.size) (hne Bg (Nat.le_refl _)), hg1.block Bg hlt (by simp)]
    exact h.box

set_option maxRecDepth 100000 in
set_option maxHeartbeats 600000 in
theorem termsHold_some (b off : Nat) (na la pa : Option Addr) (nn ln pn tc nc lc pc : Nat) (st : Int) (ts : List (ByteArray × Int)) (w : World) (hT : TermsAt w (some ⟨b, off, none⟩) ts) (h0 : 0 < ts.length) (hn : ts.length ≤ 65) (hc : ts.length ≤ tc) (htc : ¬ tc = 1) (r : Bool) (hr : r = true ↔ termsOK ts ln) :
    Calls Tryd.prog 74 #[.agg #[.slice (some ⟨b, off, none⟩) ts.length tc, .slice na nn nc, .slice la ln lc, .int .i64 st, .slice pa pn pc]] w fun e w' => e = .returned (.bool r) ∧ w.grownBy w' none := by
  obtain ⟨j0, hj, hy0, hy1, hy2⟩ := info_parts infoStr
  obtain ⟨t0, rest, rfl⟩ : ∃ t0 rest, ts = t0 :: rest := by
    cases ts with
    | nil => simp at h0
    | cons t0 rest => exact ⟨t0, rest, rfl⟩
  obtain ⟨s0, l0⟩ := t0
  have hcs : ∀ i, i < rest.length + 1 → w.cell? ⟨b, off + i * 2, none⟩ = some (.string (((s0, l0) :: rest).getD i (⟨#[]⟩, 0)).1) ∧ w.cell? ⟨b, off + i * 2 + 1, none⟩ = some (.int .i64 (((s0, l0) :: rest).getD i (⟨#[]⟩, 0)).2) := by
    rcases hT with h | ⟨b', off', he, h⟩
    · cases h
    · simp only [Option.some.injEq, Addr.mk.injEq, and_true] at he
      obtain ⟨rfl, rfl⟩ := he
      exact h
  obtain ⟨m, hm⟩ : ∃ m, m = rest.length := ⟨_, rfl⟩
  have HM : Hid (rest.length = m) := hm.symm
  have hlen : ((s0, l0) :: rest).length = m + 1 := by rw [hm]; rfl
  rw [hlen] at hn hc ⊢
  have c0 : ∀ X, w.grownBy X none → X.cell? ⟨b, off, none⟩ = some (.string s0) ∧ X.cell? ⟨b, off + 1, none⟩ = some (.int .i64 l0) := fun X hX => by
    obtain ⟨h1, h2⟩ := hcs 0 (by omega)
    exact ⟨hX.cell (by simpa using h1) (by simp), hX.cell (by simpa using h2) (by simp)⟩
  have HCS : Hid (∀ X, w.grownBy X none → ∀ i, i < rest.length → X.cell? ⟨b, off + 2 + i * 2, none⟩ = some (.string (rest.getD i (⟨#[]⟩, 0)).1) ∧ X.cell? ⟨b, off + 2 + i * 2 + 1, none⟩ = some (.int .i64 (rest.getD i (⟨#[]⟩, 0)).2)) := fun X hX i hi => by
    obtain ⟨h1, h2⟩ := hcs (i + 1) (by omega)
    have e : off + (i + 1) * 2 = off + 2 + i * 2 := by omega
    rw [e] at h1 h2
    exact ⟨hX.cell (by simpa using h1) (by simp), hX.cell (by simpa using h2) (by simp)⟩
  have HRR : Hid (r = true ↔ termsOK ((s0, l0) :: rest) ln) := hr
  have hA := c0 (w.alloc (.cells #[.slice (some ⟨b, off, none⟩) (m + 1) tc, .slice na nn nc, .slice la ln lc, .int .i64 st, .slice pa pn pc] 27)) (World.grownBy_alloc _ _ none)
  obtain ⟨hA1, hA2⟩ := hA
  have hq := fun w => neqTerm s0 ⟨#[]⟩ l0 0 w
  have hqg : Tryd.prog.eqGuardType Tryd.prog.depth 77 = false := by kernel_rfl
  clear hcs hT h0 hlen hr c0 hm
  by_cases hmk : s0 = ⟨#[]⟩ ∧ l0 = 0
  · obtain ⟨rfl, rfl⟩ := hmk
    have hq' : ∀ w, (binOp .neq 77 (.agg #[.string ⟨#[]⟩, .int .i64 0]) (.agg #[.string ⟨#[]⟩, .int .i64 0])).run Tryd.prog w = .ok (.bool false) w := fun w => by rw [hq]; simp
    clear hq
    have HBX : Hid (∀ w1, (w.alloc (.cells #[.slice (some ⟨b, off, none⟩) (m + 1) tc, .slice na nn nc, .slice la ln lc, .int .i64 st, .slice pa pn pc] 27)).grownBy w1 none → w1.heap[w.heap.size]? = some (.cells #[.slice (some ⟨b, off, none⟩) (m + 1) tc, .slice na nn nc, .slice la ln lc, .int .i64 st, .slice pa pn pc] 27 (0, 0))) := fun w1 hg => (hg.block w.heap.size (by simp) (by simp)).trans (heap_alloc_last w _)
    have HSL : Hid (∀ W, w.grownBy W none → ∀ g c, W.ownsRow (w.heap.size + 1) 9 1 (.slice g m c) m ((rest.take m).map fun t => Value.string t.1) → (∀ t ∈ rest.take m, termOK ln t) → Calls Tryd.prog 84 #[.slice g m c] W fun e w' => e = .returned (.bool r) ∧ W.grownBy w' none) := fun W hW g c hown hall => by
      have ht : rest.take m = rest := List.take_of_length_le (Nat.le_of_eq HM.out)
      rw [ht] at hown hall
      have e1 : (rest.map fun t => Value.string t.1) = (rest.map (·.1)).map Value.string := by simp
      have hlm : (rest.map (·.1)).length = m := by rw [List.length_map]; exact HM.out
      rw [e1] at hown
      have hS : StrsIn W (.slice g m c) (rest.map (·.1)) := by unfold StrsIn; rw [hlm]; exact owns_base hown
      have := noTwoAlike_any g c (rest.map (·.1)) W (hS.strsAt rfl) (by omega) (fun s hs => by
        obtain ⟨t, ht, rfl⟩ := List.mem_map.1 hs
        exact isTextB_size (hall t ht).1)
      rw [hlm] at this
      refine this.mono ?_
      rintro e w' ⟨r', rfl, hr', hg⟩
      have : r' = r := by
        rw [Bool.eq_iff_iff, hr', HRR.out]
        constructor
        · intro hnd; exact ⟨rest, rfl, hall, hnd⟩
        · rintro ⟨rest', he, _, hnd⟩
          simp at he
          rw [he]; exact hnd
      rw [this]
      exact ⟨rfl, hg⟩
    have HRF : Hid (∀ i, i < m → ¬ termOK ln (rest.getD i (⟨#[]⟩, 0)) → r = false) := fun i hi hno => Bool.eq_false_iff.2 fun hh => by
      obtain ⟨rest', he, hall, _⟩ := HRR.out.1 hh
      simp at he
      rw [← he] at hall
      have hil : i < rest.length := by rw [HM.out]; exact hi
      refine hno (hall _ ?_)
      have : rest.getD i (⟨#[]⟩, 0) = rest[i] := by simp [List.getD, hil]
      rw [this]; exact List.getElem_mem _
    go_enter Tryd.func74, Tryd.ntmps74
    go_wp2_with (at_make; refine wpList_make_own _ rfl _ _ 23 rfl (w.heap.size + 1) 9 j0 (.string ByteArray.empty) 1 Tryd.underlying23 hj hy0 hy1 .i64 .i64 _ m rfl rfl (by simp) (by rw [hy2]; omega) (by unfold maxLen; omega) (by simp) ?_; intro w1 hown1 hg1; have hbx1 := HBX.out w1 hg1; have k0 := cell_of_row w1 w.heap.size 0 _ _ _ hbx1; simp only [List.getElem?_toArray, List.getElem?_cons_zero] at k0)
    clear hA1 hA2
    have HX0 : Hid (TxAt w w1 w.heap.size #[.slice (some ⟨b, off, none⟩) (m + 1) tc, .slice na nn nc, .slice la ln lc, .int .i64 st, .slice pa pn pc] rest ln 0 (.slice (some ⟨w.heap.size + 1, 0, none⟩) 0 m)) := ⟨by simpa using hown1, fun t ht => by simp at ht, grown_trans (World.grownBy_alloc _ _ none) hg1, hbx1, Nat.le_refl _⟩
    clear hown1 hg1 hbx1 k0
    go_loopw [27, 3] (fun i v3 wr => ∃ k : Nat, k ≤ m ∧ i = .int .i64 k ∧ ∃ g c, v3 = .slice (some ⟨g, 0, none⟩) k c ∧ TxAt w wr w.heap.size #[.slice (some ⟨b, off, none⟩) (m + 1) tc, .slice na nn nc, .slice la ln lc, .int .i64 st, .slice pa pn pc] rest ln k (.slice (some ⟨g, 0, none⟩) k c)) (fun i _ _ => m - (intOf i).toNat)
    case atStart => exact ⟨0, Nat.zero_le _, rfl, _, m, rfl, HX0.out⟩
    case round =>
      obtain ⟨k, hk, rfl, g3, c3, rfl, hX⟩ := hrel
      have HX : Hid (TxAt w wr w.heap.size #[.slice (some ⟨b, off, none⟩) (m + 1) tc, .slice na nn nc, .slice la ln lc, .int .i64 st, .slice pa pn pc] rest ln k (.slice (some ⟨g3, 0, none⟩) k c3)) := hX
      clear hX HX0
      by_cases hlt : k < m
      · have hkr : k < rest.length := by rw [HM.out]; exact hlt
        obtain ⟨h1, h2⟩ := HCS.out wr HX.out.grown k hkr
        have hrf := HRF.out k hlt
        have hbx := HX.out.box
        obtain ⟨s, hs⟩ : ∃ s, s = (rest.getD k (⟨#[]⟩, 0)).1 := ⟨_, rfl⟩
        obtain ⟨l, hl⟩ : ∃ l, l = (rest.getD k (⟨#[]⟩, 0)).2 := ⟨_, rfl⟩
        have HT : Hid (rest.getD k (⟨#[]⟩, 0) = (s, l)) := by
          show rest.getD k (⟨#[]⟩, 0) = (s, l)
          rw [hs, hl]
        rw [← hs] at h1
        rw [← hl] at h2
        clear hs hl
        have hIT := fun o => isText_any s (wr.alloc o)
        have hIL := fun o => isLevel_any (some ⟨b, off, none⟩) na la pa (m + 1) nn ln pn tc nc lc pc st l (wr.alloc o)
        have k0 : ∀ o, (wr.alloc o).cell? ⟨w.heap.size, 0, none⟩ = some (.slice (some ⟨b, off, none⟩) (m + 1) tc) := fun o => (World.grownBy_alloc wr o none).cell (by rw [cell_of_row wr w.heap.size 0 _ _ _ hbx]; rfl) (by simp)
        have k1 : ∀ o, (wr.alloc o).cell? ⟨w.heap.size, 1, none⟩ = some (.slice na nn nc) := fun o => (World.grownBy_alloc wr o none).cell (by rw [cell_of_row wr w.heap.size 1 _ _ _ hbx]; rfl) (by simp)
        have k2 : ∀ o, (wr.alloc o).cell? ⟨w.heap.size, 2, none⟩ = some (.slice la ln lc) := fun o => (World.grownBy_alloc wr o none).cell (by rw [cell_of_row wr w.heap.size 2 _ _ _ hbx]; rfl) (by simp)
        have k3 : ∀ o, (wr.alloc o).cell? ⟨w.heap.size, 3, none⟩ = some (.int .i64 st) := fun o => (World.grownBy_alloc wr o none).cell (by rw [cell_of_row wr w.heap.size 3 _ _ _ hbx]; rfl) (by simp)
        have k4 : ∀ o, (wr.alloc o).cell? ⟨w.heap.size, 4, none⟩ = some (.slice pa pn pc) := fun o => (World.grownBy_alloc wr o none).cell (by rw [cell_of_row wr w.heap.size 4 _ _ _ hbx]; rfl) (by simp)
        clear hbx
        cases htx : isTextB s with
        | false =>
          have hf : r = false := hrf (by rw [HT.out]; exact fun h => by have := h.1; simp [htx] at this)
          have HG : Hid (∀ o, w.grownBy (wr.alloc o) none) := fun o => grown_trans HX.out.grown (World.grownBy_alloc _ _ none)
          clear hrf HSL HRF HX HCS hIL
          go_wp2_with (go_at_call 82; refine (hIT _).mono ?_; rintro e w' ⟨rfl, hw'⟩; subst hw'; rw [htx])
          go_ret
          exact ⟨by first | rfl | (rw [hf]; rfl), HG.out _⟩
        | true =>
          cases hlv : (decide (0 ≤ l) && decide (l ≤ (ln : Int))) with
          | false =>
            have hf : r = false := hrf (by rw [HT.out]; exact fun h => by have h3 := h.2.1; have h4 := h.2.2; simp at h3 h4; simp [h3, h4] at hlv)
            have HG : Hid (∀ o, w.grownBy (wr.alloc o) none) := fun o => grown_trans HX.out.grown (World.grownBy_alloc _ _ none)
            clear hrf HSL HRF HX HCS
            go_wp2_with (go_at_call 82; refine (hIT _).mono ?_; rintro e w' ⟨rfl, hw'⟩; subst hw'; rw [htx])
            refine (hIL _).mono ?_
            rintro e w2 ⟨rfl, hg2⟩
            rw [hlv]
            have HG2 : Hid (w.grownBy w2 none) := grown_trans (HG.out _) hg2
            clear hg2 hIL hIT
            go_wp2_with fail
            go_ret
            exact ⟨by first | rfl | (rw [hf]; rfl), HG2.out⟩
          | true =>
            have HTK : Hid (termOK ln (rest.getD k (⟨#[]⟩, 0))) := by
              show termOK ln (rest.getD k (⟨#[]⟩, 0))
              rw [HT.out]
              simp at hlv
              exact ⟨htx, hlv.1, hlv.2⟩
            clear hrf HSL HRF HCS
            go_wp2_with (go_at_call 82; refine (hIT _).mono ?_; rintro e w' ⟨rfl, hw'⟩; subst hw'; rw [htx])
            refine (hIL _).mono ?_
            rintro e w2 ⟨rfl, hg2⟩
            rw [hlv]
            have hcp : w2.cell? ⟨wr.heap.size, 0, none⟩ = some (.string s) := hg2.cell (by rw [cell_of_row _ _ _ _ _ _ (heap_alloc_last wr _)]; rfl) (by simp)
            have hG2 : wr.grownBy w2 none := grown_trans (World.grownBy_alloc _ _ none) hg2
            have HG2 : Hid (wr.grownBy w2 none) := hG2
            have HX2 : Hid (TxAt w w2 w.heap.size #[.slice (some ⟨b, off, none⟩) (m + 1) tc, .slice na nn nc, .slice la ln lc, .int .i64 st, .slice pa pn pc] rest ln k (.slice (some ⟨g3, 0, none⟩) k c3)) := HX.out.kept hG2
            have hsz : w.heap.size < w2.heap.size := (Array.getElem?_eq_some_iff.1 HX2.out.box).1
            clear hg2 hG2 hIL hIT k0 k1 k2 k3 k4 HX
            go_wp2_with (at_builtin; refine wpList_append_lies _ rfl _ _ 23 rfl (w.heap.size + 1) 9 j0 (.string ByteArray.empty) 1 16 Tryd.underlying23 hj hy0 hy1 hy2 rfl (by decide) (.slice (some ⟨g3, 0, none⟩) k c3) k ((rest.take k).map fun t => Value.string t.1) rfl (HX2.out.own.alloc _) ⟨w2.heap.size, 0, none⟩ 1 1 [.string s] rfl rfl (cell_one_new _ _ _) (str_oneCell s) (by omega) (by unfold maxLen; omega) (by omega) (by simp; omega) _ rfl ?_; intro g4 c4 w4 hown4 hg4 hloc4 hlt4)
            have HFIN : Hid (TxAt w w4 w.heap.size #[.slice (some ⟨b, off, none⟩) (m + 1) tc, .slice na nn nc, .slice la ln lc, .int .i64 st, .slice pa pn pc] rest ln (k + 1) (.slice (some ⟨g4, 0, none⟩) (k + 1) c4)) := HX2.out.push hkr (World.grownBy_alloc _ _ none) HTK.out (by rw [HT.out]; exact hown4) hg4
            clear hown4 hg4 hloc4 hlt4
            go_wp2_with fail
            go_roundw
            case rel => exact ⟨k + 1, by omega, by go_num, g4, c4, rfl, HFIN.out⟩
            case measure => simp [intOf]; omega
      · obtain rfl : k = m := by omega
        have hnt := HSL.out wr HX.out.grown (some ⟨g3, 0, none⟩) c3 HX.out.own HX.out.ok
        have HG : Hid (w.grownBy wr none) := HX.out.grown
        clear HSL HRF HX HCS
        go_wp2_with fail
        refine hnt.mono ?_
        rintro e w5 ⟨rfl, hg5⟩
        go_wp2_with fail
        go_ret
        exact ⟨rfl, grown_trans HG.out hg5⟩
  · have hb : (!(s0.toList == (ByteArray.mk #[]).toList && l0 == 0)) = true := by
      rw [Bool.not_eq_true', Bool.eq_false_iff]
      intro h
      rw [Bool.and_eq_true] at h
      exact hmk ⟨(toList_empty s0).1 (by simpa using h.1), by simpa using h.2⟩
    rw [hb] at hq
    have hrf : r = false := Bool.eq_false_iff.2 fun hh => by
      obtain ⟨rest', he, _⟩ := HRR.out.1 hh
      simp at he
      exact hmk he.1
    clear hb hmk
    go_enter Tryd.func74, Tryd.ntmps74
    go_wp2_with fail
    go_ret
    exact ⟨by first | rfl | (rw [hrf]; rfl), World.grownBy_alloc _ _ none⟩

end Go.Proofs.YtdhojilmgnodeaaDoor
