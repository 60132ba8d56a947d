import Derived.Test.YtgpmmhkdpjlimaaQalcflebehkig
import Derived.Test.YtgpmmhkdpjlimaaQpjanbimcklkf
import Derived.Test.YtgpmmhkdpjlimaaQajljlaphnafk

/-
  lr0: the document's isItem, After, has; its closures, pure.
-/
namespace Go.Proofs.Ytgpmmhkdpjlimaa.J
open Go.RowKit Go.Maps Go.Shelf

attribute [local go_sem] Oper.semAt_some

section
variable (ta na la pa : Option Addr) (tc nc lc pc : Nat) (ts : List (ByteArray × Int)) (ns : List ByteArray) (lv : List Int) (n : Nat) (L : Nat → Int) (R : Nat → List Int) (ra : Nat → Option Addr) (rc : Nat → Nat) (V : Nat → Int) (st : Int) (w : World) (tn nn ln : Nat)

set_option maxRecDepth 100000 in
set_option maxHeartbeats 1000000 in
theorem risItem_any (hP : ProdsAt w pa n L R ra rc V) (x : It) : Calls Try.prog 56 #[.agg #[.slice ta tn tc, .slice na nn nc, .slice la ln lc, .int .i64 st, .slice pa n pc], .agg #[.int .i64 x.1, .int .i64 x.2]] w fun e y => e = .returned (.bool (itB n R x)) ∧ w.grownBy y none := by
  obtain ⟨p, d⟩ := x
  simp only
  have HG0 : Hid (w.grownBy ((w.alloc (.cells #[.slice ta tn tc, .slice na nn nc, .slice la ln lc, .int .i64 st, .slice pa n pc] 27)).alloc (.cells #[.int .i64 p, .int .i64 d] 49)) none) := grown_trans (World.grownBy_alloc _ _ none) (World.grownBy_alloc _ _ none)
  by_cases h0 : 0 ≤ p
  · have d0 : decide (0 ≤ p) = true := decide_eq_true h0
    obtain ⟨k, rfl⟩ : ∃ k : Nat, p = (k : Int) := ⟨p.toNat, by omega⟩
    by_cases h1 : k < n
    · have d1 : decide (k < n) = true := decide_eq_true h1
      obtain ⟨bp, op, rfl, hp⟩ : ∃ bp op, pa = some ⟨bp, op, none⟩ ∧ w.cell? ⟨bp, op + k * 3 + 1, none⟩ = some (.slice (ra k) (R k).length (rc k)) := by
        rcases hP with h | ⟨bp, op, e, h⟩
        · omega
        · exact ⟨bp, op, e, (h k h1).2.1⟩
      have hk0 : (0 : Int) ≤ (k : Int) := by omega
      have hk1 : (k : Int) < (n : Int) := by omega
      obtain ⟨rl, hrl⟩ : ∃ r, r = (R k).length := ⟨_, rfl⟩
      rw [← hrl] at hp
      have p1 : ((w.alloc (.cells #[.slice ta tn tc, .slice na nn nc, .slice la ln lc, .int .i64 st, .slice (some ⟨bp, op, none⟩) n pc] 27)).alloc (.cells #[.int .i64 (k : Int), .int .i64 d] 49)).cell? ⟨bp, op + k * 3 + 1, none⟩ = some (.slice (ra k) rl (rc k)) := HG0.out.cell hp (by simp)
      by_cases h2 : 0 ≤ d
      · have d2 : decide (0 ≤ d) = true := decide_eq_true h2
        obtain ⟨j, rfl⟩ : ∃ j : Nat, d = (j : Int) := ⟨d.toNat, by omega⟩
        have HR : Hid (itB n R ((k : Int), (j : Int)) = decide (j ≤ rl)) := by
          show _ = _
          unfold itB
          simp only [Int.toNat_natCast, ← hrl]
          rw [d0, d2, decide_eq_true hk1]
          simp
        clear hrl hP hp
        by_cases h3 : j ≤ rl
        · have d3 : decide (j ≤ rl) = true := decide_eq_true h3
          go_enter Try.func56, Try.ntmps56
          go_wp2_with fail
          go_quiet (fail)
          go_wp2_with fail
          go_ret
          exact ⟨by rw [HR.out, d3]; rfl, grown_trans HG0.out (grown_drewN _ _)⟩
        · have d3 : decide (j ≤ rl) = false := decide_eq_false h3
          go_enter Try.func56, Try.ntmps56
          go_wp2_with fail
          go_quiet (fail)
          go_wp2_with fail
          go_ret
          exact ⟨by rw [HR.out, d3]; rfl, grown_trans HG0.out (grown_drewN _ _)⟩
      · have d2 : decide (0 ≤ d) = false := decide_eq_false h2
        have HR : Hid (itB n R ((k : Int), d) = false) := by show _ = _; unfold itB; simp only; rw [d2]; simp
        clear hrl hP hp p1
        go_enter Try.func56, Try.ntmps56
        go_wp2_with fail
        go_quiet (fail)
        go_wp2_with fail
        go_ret
        exact ⟨by rw [HR.out]; rfl, grown_trans HG0.out (grown_drewN _ _)⟩
    · have d1 : decide (k < n) = false := decide_eq_false h1
      have HR : Hid (itB n R ((k : Int), d) = false) := by show _ = _; unfold itB; simp only; rw [decide_eq_false (by omega : ¬ (k : Int) < (n : Int))]; simp
      clear hP
      go_enter Try.func56, Try.ntmps56
      go_wp2_with fail
      go_quiet (fail)
      go_wp2_with fail
      go_ret
      exact ⟨by rw [HR.out]; rfl, grown_trans HG0.out (grown_drewN _ _)⟩
  · have d0 : decide (0 ≤ p) = false := decide_eq_false h0
    have HR : Hid (itB n R (p, d) = false) := by show _ = _; unfold itB; simp only; rw [d0]; simp
    clear hP
    go_enter Try.func56, Try.ntmps56
    go_wp2_with fail
    go_quiet (fail)
    go_wp2_with fail
    go_ret
    exact ⟨by rw [HR.out]; rfl, grown_trans HG0.out (grown_drewN _ _)⟩

set_option maxRecDepth 100000 in
set_option maxHeartbeats 1000000 in
theorem rafter_any (hP : ProdsAt w pa n L R ra rc V) (x : It) (hx : itB n R x = true) : Calls Try.prog 41 #[.agg #[.slice ta tn tc, .slice na nn nc, .slice la ln lc, .int .i64 st, .slice pa n pc], .agg #[.int .i64 x.1, .int .i64 x.2]] w fun e y => e = .returned (.int .i64 (aheadV R x)) ∧ w.grownBy y none := by
  obtain ⟨p, d⟩ := x
  simp only
  have HG0 : Hid (w.grownBy ((w.alloc (.cells #[.slice ta tn tc, .slice na nn nc, .slice la ln lc, .int .i64 st, .slice pa n pc] 27)).alloc (.cells #[.int .i64 p, .int .i64 d] 49)) none) := grown_trans (World.grownBy_alloc _ _ none) (World.grownBy_alloc _ _ none)
  unfold itB at hx
  simp only [Bool.and_eq_true, decide_eq_true_eq] at hx
  obtain ⟨⟨⟨h0, h1⟩, h2⟩, h3⟩ := hx
  obtain ⟨k, rfl⟩ : ∃ k : Nat, p = (k : Int) := ⟨p.toNat, by omega⟩
  obtain ⟨j, rfl⟩ : ∃ j : Nat, d = (j : Int) := ⟨d.toNat, by omega⟩
  rw [Int.toNat_natCast] at h3
  have hkn : k < n := by omega
  obtain ⟨bp, op, rfl, hp, hI, hrb⟩ : ∃ bp op, pa = some ⟨bp, op, none⟩ ∧ w.cell? ⟨bp, op + k * 3 + 1, none⟩ = some (.slice (ra k) (R k).length (rc k)) ∧ IntsAt w (ra k) (R k) ∧ (R k).length ≤ 17592186044416 := by
    rcases hP with h | ⟨bp, op, e, h⟩
    · omega
    · exact ⟨bp, op, e, (h k hkn).2.1, (h k hkn).2.2.2.1, (h k hkn).2.2.2.2.2⟩
  have hk0 : (0 : Int) ≤ (k : Int) := by omega
  have hk1 : (k : Int) < (n : Int) := by omega
  obtain ⟨rl, hrl⟩ : ∃ r, r = (R k).length := ⟨_, rfl⟩
  rw [← hrl] at hp hrb h3
  have p1 : ((w.alloc (.cells #[.slice ta tn tc, .slice na nn nc, .slice la ln lc, .int .i64 st, .slice (some ⟨bp, op, none⟩) n pc] 27)).alloc (.cells #[.int .i64 (k : Int), .int .i64 (j : Int)] 49)).cell? ⟨bp, op + k * 3 + 1, none⟩ = some (.slice (ra k) rl (rc k)) := HG0.out.cell hp (by simp)
  by_cases he : j = rl
  · have hd : ((j : Int) == (rl : Int)) = true := beq_iff_eq.2 (by omega)
    have hd2 : (j == rl) = true := beq_iff_eq.2 he
    have HR : Hid (aheadV R ((k : Int), (j : Int)) = -1) := by
      show _ = _
      unfold aheadV
      rw [if_pos (by simp only [Int.toNat_natCast]; rw [← hrl]; omega)]
    clear hP hp hI hrl he h3
    go_enter Try.func41, Try.ntmps41
    go_wp2_with fail
    go_ret
    exact ⟨by rw [HR.out]; rfl, HG0.out⟩
  · have hjl : j < rl := by omega
    have hd : ((j : Int) == (rl : Int)) = false := beq_eq_false_iff_ne.2 (by omega)
    have hd2 : (j == rl) = false := beq_eq_false_iff_ne.2 he
    have hj0 : (0 : Int) ≤ (j : Int) := by omega
    have hj1 : (j : Int) < (rl : Int) := by omega
    obtain ⟨rb, ro, hrk, hc⟩ : ∃ rb ro, ra k = some ⟨rb, ro, none⟩ ∧ w.cell? ⟨rb, ro + j, none⟩ = some (.int .i64 ((R k).getD j 0)) := by
      rcases hI with h | ⟨b, off, e, h⟩
      · rw [hrl, h] at hjl; cases hjl
      · exact ⟨b, off, e, h j (by rw [← hrl]; exact hjl)⟩
    rw [hrk] at p1
    have c1 : ((w.alloc (.cells #[.slice ta tn tc, .slice na nn nc, .slice la ln lc, .int .i64 st, .slice (some ⟨bp, op, none⟩) n pc] 27)).alloc (.cells #[.int .i64 (k : Int), .int .i64 (j : Int)] 49)).cell? ⟨rb, ro + j, none⟩ = some (.int .i64 ((R k).getD j 0)) := HG0.out.cell hc (by simp)
    have HR : Hid (aheadV R ((k : Int), (j : Int)) = (R k).getD j 0) := by
      show _ = _
      unfold aheadV
      rw [if_neg (by simp only [Int.toNat_natCast]; rw [← hrl]; omega)]
      simp only [Int.toNat_natCast]
    obtain ⟨z, hz⟩ : ∃ z, z = (R k).getD j 0 := ⟨_, rfl⟩
    rw [← hz] at c1 HR
    clear hP hp hI hrl he hc hz hrk h3
    go_enter Try.func41, Try.ntmps41
    go_wp2_with fail
    go_ret
    exact ⟨by rw [HR.out]; rfl, HG0.out⟩
end

set_option maxRecDepth 100000 in
theorem rhas_any (a : Option Addr) (c : Nat) (l : List It) (x : It) (w : World) (hl : ItsAt w a l) (hb : l.length ≤ 1099511627776000) (r : Bool) (hr : r = true ↔ x ∈ l) :
    Calls Try.prog 42 #[.slice a l.length c, .agg #[.int .i64 x.1, .int .i64 x.2]] w fun e y => e = .returned (.bool r) ∧ w.grownBy y none := by
  obtain ⟨xp, xd⟩ := x
  simp only
  obtain ⟨n1, hn1⟩ : ∃ n, n = l.length := ⟨_, rfl⟩
  have HR : Hid (r = true ↔ (xp, xd) ∈ l) := hr
  have HN : Hid (n1 = l.length) := hn1
  have HI : Hid (∀ X, w.grownBy X none → ItsAt X a l) := fun X hX => hl.kept hX
  have HX0 : Hid (w.grownBy (w.alloc (.cells #[.int .i64 xp, .int .i64 xd] 49)) none) := World.grownBy_alloc _ _ none
  have HB0 : Hid ((w.alloc (.cells #[.int .i64 xp, .int .i64 xd] 49)).heap[w.heap.size]? = some (.cells #[.int .i64 xp, .int .i64 xd] 49 (0, 0))) := heap_alloc_last w _
  rw [← hn1] at hb
  rw [← hn1]
  have hgu := guard_item
  clear hr hn1 hl
  go_enter Try.func42, Try.ntmps42
  go_wp2_with fail
  go_loopg [5] n1 (fun gk v5 wr => ∃ j : Nat, j ≤ n1 ∧ gk = n1 - j ∧ v5 = .int .i64 j ∧ w.grownBy wr none ∧ wr.heap[w.heap.size]? = some (.cells #[.int .i64 xp, .int .i64 xd] 49 (0, 0)) ∧ ∀ i, i < j → l.getD i (0, 0) ≠ (xp, xd))
  case atStart => exact ⟨0, Nat.zero_le _, rfl, rfl, HX0.out, HB0.out, fun i hi => absurd hi (Nat.not_lt_zero _)⟩
  case round =>
    obtain ⟨j, hj, hgj, rfl, hg, hbx, hs⟩ := hrel
    have HGJ : Hid (gk = n1 - j) := hgj
    have HG : Hid (w.grownBy wr none) := hg
    have HBX : Hid (wr.heap[w.heap.size]? = some (.cells #[.int .i64 xp, .int .i64 xd] 49 (0, 0))) := hbx
    have HS : Hid (∀ i, i < j → l.getD i (0, 0) ≠ (xp, xd)) := hs
    clear hgj hg hs hbx HX0 HB0
    have z0 : wr.cell? ⟨w.heap.size, 0, none⟩ = some (.int .i64 xp) := by rw [cell_of_row _ _ _ _ _ _ HBX.out]; rfl
    have z1 : wr.cell? ⟨w.heap.size, 1, none⟩ = some (.int .i64 xd) := by rw [cell_of_row _ _ _ _ _ _ HBX.out]; rfl
    by_cases hlt : j < n1
    · have hj0 : (0 : Int) ≤ (j : Int) := by omega
      have hj1 : (j : Int) < (n1 : Int) := by omega
      have hjd : decide (j < n1) = true := decide_eq_true hlt
      have hjl : j < l.length := by rw [← HN.out]; exact hlt
      obtain ⟨b1, o1, rfl, c0, c1'⟩ := (HI.out wr HG.out).at hjl
      have HME : Hid (l.getD j (0, 0) ∈ l) := by show _ ∈ _; rw [List.getD_eq_getElem?_getD, List.getElem?_eq_getElem hjl]; exact List.getElem_mem hjl
      obtain ⟨y, hy⟩ : ∃ y, y = l.getD j (0, 0) := ⟨_, rfl⟩
      have HY : Hid (y = l.getD j (0, 0)) := hy
      rw [← hy] at c0 c1'
      clear hy hjl
      obtain ⟨yp, yd⟩ := y
      simp only at c0 c1'
      obtain ⟨bb, hbb⟩ : ∃ b, b = (yp == xp && yd == xd) := ⟨_, rfl⟩
      have HBB : Hid (bb = true ↔ l.getD j (0, 0) = (xp, xd)) := by
        rw [← HY.out, hbb, Bool.and_eq_true, beq_iff_eq, beq_iff_eq]
        exact ⟨fun h => Prod.ext h.1 h.2, fun h => ⟨congrArg Prod.fst h, congrArg Prod.snd h⟩⟩
      have hE : ∀ X : World, (binOp .eql 49 (.agg #[.int .i64 yp, .int .i64 yd]) (.agg #[.int .i64 xp, .int .i64 xd])).run Try.prog X = .ok (.bool bb) X := fun X => by rw [hbb]; exact eq_item yp yd xp xd X
      clear hbb
      cases bb with
      | true =>
        have HRT : Hid (r = true) := HR.out.2 (by rw [← HBB.out.1 rfl]; exact HME.out)
        clear HBB
        go_wp2_with fail
        go_quiet (fail)
        go_wp2_with fail
        go_ret
        exact ⟨by rw [HRT.out]; rfl, grown_trans HG.out (grown_drewN _ _)⟩
      | false =>
        have HNE : Hid (l.getD j (0, 0) ≠ (xp, xd)) := fun h => absurd (HBB.out.2 h) (by decide)
        clear HBB
        go_wp2_with fail
        go_quiet (fail)
        go_wp2_with fail
        go_roundg (n1 - (j + 1))
        case measure => have := HGJ.out; omega
        case rel => exact ⟨j + 1, by omega, rfl, by go_num, grown_trans HG.out (grown_drewN _ _), HBX.out, fun i hi => by
          by_cases e : i = j
          · rw [e]; exact HNE.out
          · exact HS.out i (by omega)⟩
    · have hjn : n1 = j := by omega
      subst hjn
      have hjd : decide (n1 < n1) = false := decide_eq_false (by omega)
      have HRF : Hid (r = false) := by
        show _ = _
        cases hrr : r with
        | false => rfl
        | true =>
          obtain ⟨i, hi, e⟩ := List.getElem_of_mem (HR.out.1 hrr)
          exact absurd (by rw [List.getD_eq_getElem?_getD, List.getElem?_eq_getElem hi, e]; rfl) (HS.out i (by rw [HN.out]; exact hi))
      go_wp2_with fail
      go_ret
      exact ⟨by rw [HRF.out]; rfl, HG.out⟩

section
variable {tn n : Nat} {L : Nat → Int} {R : Nat → List Int} {I : List It}
theorem CwP.start' {A : List It} (h : ∀ x, x ∈ A ↔ x ∈ I) : CwP tn n L R I A (fun _ => false) 0 := ⟨fun x hx => Clo.base ((h x).1 hx), fun x hx => (h x).2 hx, fun _ h => (by simp at h), fun _ h => absurd h (Nat.not_lt_zero _)⟩
theorem CwP.bring' {A M : List It} {b b' : Nat → Bool} {i s : Nat} (h : CwP tn n L R I A b i) (hi : i < A.length) (hs : aheadV R (A.getD i (0, 0)) = (s : Int)) (ht : tn ≤ s) (hb : ∀ j, b' j = true ↔ j = s ∨ b j = true) (hM : ∀ x ∈ M, ∃ k : Nat, k < n ∧ L k = (s : Int) ∧ x = ((k : Int), (0 : Int))) (hall : ∀ k : Nat, k < n → L k = (s : Int) → ((k : Int), (0 : Int)) ∈ A ++ M) : CwP tn n L R I (A ++ M) b' (i + 1) := by
  have hA : A.getD i (0, 0) ∈ A := by rw [List.getD_eq_getElem?_getD, List.getElem?_eq_getElem hi]; exact List.getElem_mem hi
  refine ⟨fun x hx => ?_, fun x hx => List.mem_append_left _ (h.all x hx), fun s' hs' k hk hl => ?_, fun j hj hl hta => ?_⟩
  · rcases List.mem_append.1 hx with hx | hx
    · exact h.mem x hx
    · obtain ⟨k, hk, hl, rfl⟩ := hM x hx
      exact (h.mem _ hA).step (by rw [hs]; omega) hk (by rw [hs]; exact hl)
  · rcases (hb s').1 hs' with e | e
    · subst e; exact hall k hk hl
    · exact List.mem_append_left _ (h.brt s' e k hk hl)
  · have hjA : j < A.length := by omega
    have e : (A ++ M).getD j (0, 0) = A.getD j (0, 0) := by
      rw [List.getD_eq_getElem?_getD, List.getElem?_append_left hjA, ← List.getD_eq_getElem?_getD]
    rw [e] at hta ⊢
    rw [hb]
    by_cases e2 : j = i
    · subst e2; left; rw [hs]; simp
    · right; exact h.done j (by omega) hjA hta
end

end Go.Proofs.Ytgpmmhkdpjlimaa.J

/-
  lr0: the document's Closed.
-/
namespace Go.Proofs.Ytgpmmhkdpjlimaa.J
open Go.RowKit Go.Maps Go.Shelf

attribute [local go_sem] Oper.semAt_some

set_option maxRecDepth 100000 in
set_option maxHeartbeats 4000000 in
theorem rclos_any (ta na la pa : Option Addr) (tc nc lc pc : Nat) (n : Nat) (L : Nat → Int) (R : Nat → List Int) (ra : Nat → Option Addr) (rc : Nat → Nat) (V : Nat → Int) (st : Int) (w : World) (tn nn ln : Nat) (hP : ProdsAt w pa n L R ra rc V) (hn : n ≤ 97) (hn0 : 0 < n) (htn : tn ≤ 65) (hnn : nn ≤ 65) (hR : ∀ k, k < n → ∀ x ∈ R k, (0 : Int) ≤ x ∧ x < ((tn + nn : Nat) : Int)) (a : Option Addr) (cap : Nat) (I : List It) (hI : ItsAt w a I) (hIb : I.length ≤ 8796093022208) (hit : ∀ x ∈ I, itB n R x = true) :
    Calls Try.prog 27 #[.agg #[.slice ta tn tc, .slice na nn nc, .slice la ln lc, .int .i64 st, .slice pa n pc], .slice a I.length cap] w fun e y => CloTold tn n L R I w e y := by
  obtain ⟨S, hS⟩ : ∃ S, S = tn + nn := ⟨_, rfl⟩
  have HSE : Hid (S = tn + nn) := hS
  have hSz : S ≤ 130 := by omega
  have HSY : Hid (∀ X, Calls Try.prog 24 #[.agg #[.slice ta tn tc, .slice na nn nc, .slice la ln lc, .int .i64 st, .slice pa n pc]] X fun e y => e = .returned (.int .i64 (S : Int)) ∧ X.grownBy y none) := fun X => by
    refine (Go.Proofs.Ytgpmmhkdpjlimaa.symbols_any ta na la pa tn nn ln n tc nc lc pc st X (by omega) (by omega)).mono ?_
    rintro e y ⟨rfl, hg⟩
    exact ⟨by rw [hS, Int.natCast_add], hg⟩
  have HAH : Hid (∀ X x, w.grownBy X none → itB n R x = true → Calls Try.prog 41 #[.agg #[.slice ta tn tc, .slice na nn nc, .slice la ln lc, .int .i64 st, .slice pa n pc], .agg #[.int .i64 x.1, .int .i64 x.2]] X fun e y => e = .returned (.int .i64 (aheadV R x)) ∧ X.grownBy y none) := fun X x hX hx => rafter_any ta na la pa tc nc lc pc n L R ra rc V st X tn nn ln (prods_kept hP hX) x hx
  have HAR : Hid (∀ x, itB n R x = true → aheadV R x = -1 ∨ ((0 : Int) ≤ aheadV R x ∧ aheadV R x < (S : Int))) := fun x hx => aheadV_range (by rw [hS]; exact hR) hx
  have HIT : Hid (∀ x ∈ I, itB n R x = true) := hit
  obtain ⟨bp, op, rfl, hp⟩ : ∃ bp op, pa = some ⟨bp, op, none⟩ ∧ ∀ k, k < n → w.cell? ⟨bp, op + k * 3, none⟩ = some (.int .i64 (L k)) := by
    rcases hP with h | ⟨bp, op, e, h⟩
    · omega
    · exact ⟨bp, op, e, fun k hk => (h k hk).1⟩
  have HPC : Hid (∀ k, k < n → ∀ X, w.grownBy X none → X.cell? ⟨bp, op + k * 3, none⟩ = some (.int .i64 (L k))) := fun k hk X hX => hX.cell (hp k hk) (by simp)
  obtain ⟨ll, hle⟩ : ∃ m, m = I.length := ⟨_, rfl⟩
  have HLE : Hid (ll = I.length) := hle
  have HLA : Hid (∀ X, w.grownBy X none → Calls Try.prog 25 #[.slice a ll cap] X fun e y => LaidTold I X e y) := fun X hX => by rw [hle]; exact laid_any a cap I X (hI.kept hX) (by omega)
  rw [← hle] at hIb
  rw [← hle]
  have HX0 : Hid (PhAt w (w.alloc (.cells #[.slice ta tn tc, .slice na nn nc, .slice la ln lc, .int .i64 st, .slice (some ⟨bp, op, none⟩) n pc] 27)) w.heap.size #[.slice ta tn tc, .slice na nn nc, .slice la ln lc, .int .i64 st, .slice (some ⟨bp, op, none⟩) n pc]) := ⟨World.grownBy_alloc _ _ none, heap_alloc_last w _⟩
  obtain ⟨i0, hi0, hz0, hz1, hz2⟩ := info_parts infoItem
  obtain ⟨i1, hi1, hy0, hy1, hy2⟩ := info_parts infoBool
  clear hP hR hI hit hle hS hp
  go_enter Try.func27, Try.ntmps27
  go_wp2_with fail
  refine Calls.mono (HLA.out _ HX0.out.grown) ?_
  rintro e w1 ⟨A0, hA1, hA2, hA3, a5, c5, rfl, ho1, hg1⟩
  have HA0 : Hid (∀ x, x ∈ A0 ↔ x ∈ I) := hA2
  obtain ⟨q0, hq0⟩ : ∃ q, q = A0.length := ⟨_, rfl⟩
  have HQ0 : Hid (q0 = A0.length ∧ q0 ≤ ll) := ⟨hq0, by rw [hq0, HLE.out]; exact hA3⟩
  rw [← hq0] at ho1
  rw [← hq0]
  have HX1 : Hid (PhAt w w1 w.heap.size #[.slice ta tn tc, .slice na nn nc, .slice la ln lc, .int .i64 st, .slice (some ⟨bp, op, none⟩) n pc]) := HX0.out.kept hg1
  have HO1 : Hid (w1.ownsRow w.heap.size 49 2 (.slice a5 q0 c5) q0 (itsV A0)) := owns_lowJ ho1 HX0.out.grown.size
  clear hA1 hA2 hA3 ho1 hg1 hq0 HX0
  obtain ⟨k0, k1, k2, k3, k4⟩ := HX1.out.cells
  go_wp2_with fail
  refine Calls.mono (HSY.out _) ?_
  rintro e w2 ⟨rfl, hg2⟩
  have HX2 : Hid (PhAt w w2 w.heap.size #[.slice ta tn tc, .slice na nn nc, .slice la ln lc, .int .i64 st, .slice (some ⟨bp, op, none⟩) n pc]) := HX1.out.kept hg2
  have HO2 : Hid (w2.ownsRow w.heap.size 49 2 (.slice a5 q0 c5) q0 (itsV A0)) := keep0 HO1.out hg2
  clear hg2 k0 k1 k2 k3 k4 HX1 HO1
  go_wp2_with (at_make; refine wpList_make_full _ rfl _ _ 54 rfl w2.heap.size 4 i1 (.bool false) 1 Try.underlying54 hi1 hy0 hy1 .i64 .i64 _ _ S rfl rfl (by simp) (by simp) (by rw [hy2]; omega) (by unfold maxLen; omega) (by simp) ?_)
  intro w3 hown hgrow
  have hval : ValAt w3 w2.heap.size S 4 (fun _ => .bool false) := made_rowK (B := w2.heap.size) rfl (by simpa [Value.cells] using hown)
  obtain ⟨mb, hmb⟩ : ∃ mb, mb = w2.heap.size := ⟨_, rfl⟩
  rw [← hmb] at hval
  rw [← hmb]
  have HC0 : Hid (ClAt w w3 #[.slice ta tn tc, .slice na nn nc, .slice la ln lc, .int .i64 st, .slice (some ⟨bp, op, none⟩) n pc] mb S (fun _ => false) a5 q0 c5 A0) := ⟨grown_trans HX2.out.grown hgrow, box_kept HX2.out.box hgrow, hval, by have := (Array.getElem?_eq_some_iff.1 HX2.out.box).1; omega, keep0 HO2.out hgrow⟩
  have HW0 : Hid (CwP tn n L R I A0 (fun _ => false) 0) := CwP.start' HA0.out
  have HU0 : Hid (q0 + unm S (fun _ => false) * 97 ≤ ll + 12610) := by have := unm_le S (fun _ => false); have := HQ0.out.2; show _ ≤ _; omega
  clear hown hgrow hval hmb HX2 HO2
  go_wp2_with fail
  go_loopg [5, 7] (unm S (fun _ => false) * 98 + q0) (fun gk v5 v7 wr => ∃ (i q c' : Nat) (a' : Option Addr) (b : Nat → Bool) (A : List It), v5 = .slice a' q c' ∧ v7 = .int .i64 i ∧ q = A.length ∧ i ≤ q ∧ gk = unm S b * 98 + (q - i) ∧ q + unm S b * 97 ≤ ll + 12610 ∧ CwP tn n L R I A b i ∧ ClAt w wr #[.slice ta tn tc, .slice na nn nc, .slice la ln lc, .int .i64 st, .slice (some ⟨bp, op, none⟩) n pc] mb S b a' q c' A)
  case atStart => exact ⟨0, q0, c5, a5, fun _ => false, A0, rfl, rfl, HQ0.out.1, Nat.zero_le _, rfl, HU0.out, HW0.out, HC0.out⟩
  case round =>
    obtain ⟨i, q, c', a', b, A, rfl, rfl, hq, hiq, hgk, hub, hW, hC⟩ := hrel
    have HQ : Hid (q = A.length) := hq
    have HGK : Hid (gk = unm S b * 98 + (q - i)) := hgk
    have HUB : Hid (q + unm S b * 97 ≤ ll + 12610) := hub
    have HW : Hid (CwP tn n L R I A b i) := hW
    have HC : Hid (ClAt w wr #[.slice ta tn tc, .slice na nn nc, .slice la ln lc, .int .i64 st, .slice (some ⟨bp, op, none⟩) n pc] mb S b a' q c' A) := hC
    have hqb : q ≤ 8796093034818 := by omega
    clear hq hgk hub hW hC HC0 HW0 HU0
    obtain ⟨k0, k1, k2, k3, k4⟩ := HC.out.ph.cells
    by_cases hlt : i < q
    · have hi0' : (0 : Int) ≤ (i : Int) := by omega
      have hi1' : (i : Int) < (q : Int) := by omega
      have hid : decide (i < q) = true := decide_eq_true hlt
      have hiA : i < A.length := by rw [← HQ.out]; exact hlt
      obtain ⟨gb, rfl, c0, c1⟩ : ∃ gb, a' = some ⟨gb, 0, none⟩ ∧ wr.cell? ⟨gb, i * 2, none⟩ = some (.int .i64 (A.getD i (0, 0)).1) ∧ wr.cell? ⟨gb, i * 2 + 1, none⟩ = some (.int .i64 (A.getD i (0, 0)).2) := by
        have ho := HC.out.own
        rcases ho.2 with ⟨_, h⟩ | ⟨g, cap, cur, hv, hB, hh, _, _, hs, ht⟩
        · omega
        · simp only [Value.slice.injEq] at hv
          refine ⟨g, hv.1, ?_⟩
          obtain ⟨h3, h4⟩ := itsV_at A i hiA
          rw [← ht, List.getElem?_take, if_pos (by omega)] at h3 h4
          rw [cell_of_row _ _ _ _ _ _ hh, cell_of_row _ _ _ _ _ _ hh]
          exact ⟨by simpa using h3, by simpa using h4⟩
      have hxi : itB n R (A.getD i (0, 0)) = true := by
        refine (HW.out.mem _ ?_).item HIT.out
        rw [List.getD_eq_getElem?_getD, List.getElem?_eq_getElem hiA]; exact List.getElem_mem hiA
      have hrg := HAR.out _ hxi
      have HAC : Hid (∀ X, wr.grownBy X none → Calls Try.prog 41 #[.agg #[.slice ta tn tc, .slice na nn nc, .slice la ln lc, .int .i64 st, .slice (some ⟨bp, op, none⟩) n pc], .agg #[.int .i64 (A.getD i (0, 0)).1, .int .i64 (A.getD i (0, 0)).2]] X fun e y => e = .returned (.int .i64 (aheadV R (A.getD i (0, 0)))) ∧ X.grownBy y none) := fun X hX => HAH.out X _ (grown_trans HC.out.grown hX) hxi
      obtain ⟨sv, hsv⟩ : ∃ s, s = aheadV R (A.getD i (0, 0)) := ⟨_, rfl⟩
      have HSV : Hid (sv = aheadV R (A.getD i (0, 0))) := hsv
      rw [← hsv] at HAC hrg
      obtain ⟨x, hx⟩ : ∃ x, x = A.getD i (0, 0) := ⟨_, rfl⟩
      rw [← hx] at HAC c0 c1
      clear hsv hx hxi
      obtain ⟨p, d⟩ := x
      simp only at HAC c0 c1
      have HUP : Hid (wr.grownBy wr.drew none) := grown_drewN wr 1
      have HKS : Hid (∀ Y, wr.grownBy Y none → (Y.cell? ⟨w.heap.size, 0, none⟩ = some (.slice ta tn tc) ∧ Y.cell? ⟨w.heap.size, 1, none⟩ = some (.slice na nn nc) ∧ Y.cell? ⟨w.heap.size, 2, none⟩ = some (.slice la ln lc) ∧ Y.cell? ⟨w.heap.size, 3, none⟩ = some (.int .i64 st) ∧ Y.cell? ⟨w.heap.size, 4, none⟩ = some (.slice (some ⟨bp, op, none⟩) n pc)) ∧ Y.cell? ⟨gb, i * 2, none⟩ = some (.int .i64 p) ∧ Y.cell? ⟨gb, i * 2 + 1, none⟩ = some (.int .i64 d)) := fun Y hY => ⟨(HC.out.kept hY).ph.cells, hY.cell c0 (by simp), hY.cell c1 (by simp)⟩
      clear k0 k1 k2 k3 k4 c0 c1
      go_wp2_with fail
      go_region_held3 (fun Y => (Y.cell? ⟨w.heap.size, 0, none⟩ = some (.slice ta tn tc) ∧ Y.cell? ⟨w.heap.size, 1, none⟩ = some (.slice na nn nc) ∧ Y.cell? ⟨w.heap.size, 2, none⟩ = some (.slice la ln lc) ∧ Y.cell? ⟨w.heap.size, 3, none⟩ = some (.int .i64 st) ∧ Y.cell? ⟨w.heap.size, 4, none⟩ = some (.slice (some ⟨bp, op, none⟩) n pc)) ∧ Y.cell? ⟨gb, i * 2, none⟩ = some (.int .i64 p) ∧ Y.cell? ⟨gb, i * 2 + 1, none⟩ = some (.int .i64 d)) (first | exact HKS.out _ HUP.out | exact HKS.out _ HG4.out | go_keep)
        ((first
          | (go_at_call 41; refine Calls.mono (HAC.out _ HUP.out) ?_; rintro e w4 ⟨rfl, hg4⟩; have HG4 : Hid (wr.grownBy w4 none) := grown_trans HUP.out hg4; clear hg4)
          | fail))
      have HC4 : Hid (ClAt w w4 #[.slice ta tn tc, .slice na nn nc, .slice la ln lc, .int .i64 st, .slice (some ⟨bp, op, none⟩) n pc] mb S b (some ⟨gb, 0, none⟩) q c' A) := HC.out.kept HG4.out
      clear HKS HUP HAC HC
      obtain ⟨k0, k1, k2, k3, k4⟩ := HC4.out.ph.cells
      by_cases hst : sv < (tn : Int)
      · have hd : decide (sv < (tn : Int)) = true := decide_eq_true hst
        have HSK : Hid (CwP tn n L R I A b (i + 1)) := HW.out.skip fun h => absurd h (by rw [← HSV.out]; omega)
        clear hst hrg
        go_wp2_with fail
        go_roundg (unm S b * 98 + (q - (i + 1)))
        case measure => have := HGK.out; omega
        case rel => exact ⟨i + 1, q, c', _, b, A, rfl, by go_num, HQ.out, by omega, rfl, HUB.out, HSK.out, HC4.out⟩
      · obtain ⟨s, rfl⟩ : ∃ s : Nat, sv = (s : Int) := ⟨sv.toNat, by omega⟩
        have hsS : s < S := by omega
        have hts : tn ≤ s := by omega
        have hd : decide (s < tn) = false := decide_eq_false (by omega)
        have hd2 : decide ((s : Int) < (tn : Int)) = false := decide_eq_false (by omega)
        have hs0 : (0 : Int) ≤ (s : Int) := by omega
        have hs1 : (s : Int) < (S : Int) := by omega
        have m0 := HC4.out.mark.cell s hsS
        have m1 := HC4.out.mark.free s
        obtain ⟨bs, hbs⟩ : ∃ x, x = b s := ⟨_, rfl⟩
        have HBSV : Hid (bs = b s) := hbs
        rw [← hbs] at m0
        clear hst hrg hbs
        cases bs with
        | true =>
          have HSK : Hid (CwP tn n L R I A b (i + 1)) := HW.out.skip fun _ => by rw [← HSV.out, Int.toNat_natCast]; exact HBSV.out.symm
          go_wp2_with fail
          go_roundg (unm S b * 98 + (q - (i + 1)))
          case measure => have := HGK.out; omega
          case rel => exact ⟨i + 1, q, c', _, b, A, rfl, by go_num, HQ.out, by omega, rfl, HUB.out, HSK.out, HC4.out⟩
        | false =>
          have HUM : Hid (unm S (markT b s) + 1 = unm S b) := unm_mark b s HBSV.out.symm S hsS
          have HCT : Hid (ClAt w (w4.setCell ⟨mb, s, none⟩ (.bool true)) #[.slice ta tn tc, .slice na nn nc, .slice la ln lc, .int .i64 st, .slice (some ⟨bp, op, none⟩) n pc] mb S (markT b s) (some ⟨gb, 0, none⟩) q c' A) := HC4.out.tick
          obtain ⟨X5, hX5⟩ : ∃ X5, X5 = w4.setCell ⟨mb, s, none⟩ (.bool true) := ⟨_, rfl⟩
          have HX5 : Hid (X5 = w4.setCell ⟨mb, s, none⟩ (.bool true)) := hX5
          rw [← hX5] at HCT
          clear hX5 HC4 k0 k1 k2 k3 k4
          have k0 : True := trivial
          go_wp2_with fail
          rw [← HX5.out]
          clear m0 m1 k0
          go_loopg [5, 9] n (fun gp v5 v9 wr => ∃ (pp q2 c2 : Nat) (a2 : Option Addr) (M : List It), pp ≤ n ∧ gp = n - pp ∧ v5 = .slice a2 q2 c2 ∧ v9 = .int .i64 pp ∧ q2 = (A ++ M).length ∧ q2 ≤ q + pp ∧ (∀ x ∈ M, ∃ k : Nat, k < n ∧ L k = (s : Int) ∧ x = ((k : Int), (0 : Int))) ∧ (∀ k : Nat, k < pp → L k = (s : Int) → ((k : Int), (0 : Int)) ∈ A ++ M) ∧ ClAt w wr #[.slice ta tn tc, .slice na nn nc, .slice la ln lc, .int .i64 st, .slice (some ⟨bp, op, none⟩) n pc] mb S (markT b s) a2 q2 c2 (A ++ M))
          case atStart => exact ⟨0, q, c', _, [], Nat.zero_le _, rfl, rfl, rfl, by rw [List.append_nil]; exact HQ.out, Nat.le_refl _, fun x hx => (by cases hx), fun k hk => absurd hk (Nat.not_lt_zero _), by rw [List.append_nil]; exact HCT.out⟩
          case round =>
            obtain ⟨pp, q2, c2, a2, M, hpn, hgp, rfl, rfl, hq2, hqp, hM, hall, hC5⟩ := hrel
            have HGP : Hid (gk = n - pp) := hgp
            have HQ2 : Hid (q2 = (A ++ M).length) := hq2
            have HMM : Hid (∀ x ∈ M, ∃ k : Nat, k < n ∧ L k = (s : Int) ∧ x = ((k : Int), (0 : Int))) := hM
            have HALL : Hid (∀ k : Nat, k < pp → L k = (s : Int) → ((k : Int), (0 : Int)) ∈ A ++ M) := hall
            have HC5 : Hid (ClAt w wr #[.slice ta tn tc, .slice na nn nc, .slice la ln lc, .int .i64 st, .slice (some ⟨bp, op, none⟩) n pc] mb S (markT b s) a2 q2 c2 (A ++ M)) := hC5
            clear hgp hq2 hM hall hC5 HCT
            obtain ⟨k0, k1, k2, k3, k4⟩ := HC5.out.ph.cells
            by_cases hpl : pp < n
            · have hp0 : (0 : Int) ≤ (pp : Int) := by omega
              have hp1 : (pp : Int) < (n : Int) := by omega
              have hpd : decide (pp < n) = true := decide_eq_true hpl
              obtain ⟨Y, hY⟩ : ∃ Y, Y = wr.alloc (.cells #[.int .i64 (pp : Int), .int .i64 0] 49) := ⟨_, rfl⟩
              have HYE : Hid (Y = wr.alloc (.cells #[.int .i64 (pp : Int), .int .i64 0] 49)) := hY
              have HGY : Hid (wr.grownBy Y none) := by rw [hY]; exact World.grownBy_alloc _ _ none
              have HBY : Hid (Y.heap[wr.heap.size]? = some (.cells #[.int .i64 (pp : Int), .int .i64 0] 49 (0, 0))) := by rw [hY]; exact heap_alloc_last wr _
              have HCY : Hid (ClAt w Y #[.slice ta tn tc, .slice na nn nc, .slice la ln lc, .int .i64 st, .slice (some ⟨bp, op, none⟩) n pc] mb S (markT b s) a2 q2 c2 (A ++ M)) := HC5.out.kept HGY.out
              have p0 := HPC.out pp hpl Y HCY.out.grown
              obtain ⟨j0, j1, j2, j3, j4⟩ := HCY.out.ph.cells
              obtain ⟨lk, hlk⟩ : ∃ x, x = L pp := ⟨_, rfl⟩
              have HLK : Hid (lk = L pp) := hlk
              rw [← hlk] at p0
              rw [hY] at p0 j0 j1 j2 j3 j4
              clear hlk hY
              by_cases hls : lk = (s : Int)
              · have hne : (lk != (s : Int)) = false := by rw [hls]; exact bne_self_eq_false _
                obtain ⟨rh, hrh⟩ := boolOf (((pp : Int), (0 : Int)) ∈ A ++ M)
                have HRH : Hid (rh = true ↔ ((pp : Int), (0 : Int)) ∈ A ++ M) := hrh
                have HHA : Hid (Calls Try.prog 42 #[.slice a2 q2 c2, .agg #[.int .i64 (pp : Int), .int .i64 0]] Y fun e y => e = .returned (.bool rh) ∧ Y.grownBy y none) := by
                  have ho := HCY.out.own
                  rw [HQ2.out] at ho ⊢
                  exact rhas_any a2 c2 (A ++ M) ((pp : Int), 0) Y (ItsAt.of ho) (by rw [← HQ2.out]; omega) rh hrh
                have HLS : Hid (L pp = (s : Int)) := by show _ = _; rw [← HLK.out]; exact hls
                clear hrh hls
                go_wp2_with fail
                rw [← HYE.out]
                refine Calls.mono HHA.out ?_
                rintro e w7 ⟨rfl, hg7⟩
                have HC7 : Hid (ClAt w w7 #[.slice ta tn tc, .slice na nn nc, .slice la ln lc, .int .i64 st, .slice (some ⟨bp, op, none⟩) n pc] mb S (markT b s) a2 q2 c2 (A ++ M)) := HCY.out.kept hg7
                have HB7 : Hid (w7.heap[wr.heap.size]? = some (.cells #[.int .i64 (pp : Int), .int .i64 0] 49 (0, 0))) := box_kept HBY.out hg7
                clear hg7 p0 j0 j1 j2 j3 j4 k0 k1 k2 k3 k4 HHA
                cases rh with
                | true =>
                  have HAL2 : Hid (∀ k : Nat, k < pp + 1 → L k = (s : Int) → ((k : Int), (0 : Int)) ∈ A ++ M) := fun k hk hl => by
                    by_cases e : k = pp
                    · rw [e]; exact HRH.out.1 rfl
                    · exact HALL.out k (by omega) hl
                  clear HRH
                  go_wp2_with fail
                  go_roundg (n - (pp + 1))
                  case measure => have := HGP.out; omega
                  case rel => exact ⟨pp + 1, q2, c2, a2, M, by omega, rfl, rfl, by go_num, HQ2.out, by omega, HMM.out, HAL2.out, HC7.out⟩
                | false =>
                  have b0 : w7.cell? ⟨wr.heap.size, 0, none⟩ = some (.int .i64 (pp : Int)) := by rw [cell_of_row _ _ _ _ _ _ HB7.out]; rfl
                  have b1 : w7.cell? ⟨wr.heap.size, 1, none⟩ = some (.int .i64 0) := by rw [cell_of_row _ _ _ _ _ _ HB7.out]; rfl
                  have HAL2 : Hid (∀ k : Nat, k < pp + 1 → L k = (s : Int) → ((k : Int), (0 : Int)) ∈ A ++ (M ++ [((pp : Int), (0 : Int))])) := fun k hk hl => by
                    rw [← List.append_assoc]
                    by_cases e : k = pp
                    · rw [e]; simp
                    · exact List.mem_append_left _ (HALL.out k (by omega) hl)
                  have HMM2 : Hid (∀ x ∈ M ++ [((pp : Int), (0 : Int))], ∃ k : Nat, k < n ∧ L k = (s : Int) ∧ x = ((k : Int), (0 : Int))) := fun x hx => by
                    rcases List.mem_append.1 hx with hx | hx
                    · exact HMM.out x hx
                    · exact ⟨pp, hpl, HLS.out, List.mem_singleton.1 hx⟩
                  have HOW : Hid (ClAt w (w7.alloc (.cells #[.int .i64 (pp : Int), .int .i64 0] 49)) #[.slice ta tn tc, .slice na nn nc, .slice la ln lc, .int .i64 st, .slice (some ⟨bp, op, none⟩) n pc] mb S (markT b s) a2 q2 c2 (A ++ M)) := HC7.out.kept (World.grownBy_alloc _ _ none)
                  have HNW : Hid (∀ j z, [Value.int .i64 (pp : Int), Value.int .i64 0][j]? = some z → (w7.alloc (.cells #[.int .i64 (pp : Int), .int .i64 0] 49)).cell? ((⟨w7.heap.size, 0, none⟩ : Addr).add j) = some z) := news_new w7 _ _
                  clear HRH
                  go_wp2_with (at_builtin; refine wpList_append_srcW rfl (.tmp 65) (.tmp 67) 40 rfl w.heap.size 49 i0 (.agg #[.int .i64 0, .int .i64 0]) 2 16 Try.underlying40 hi0 hz0 hz1 hz2 rfl (by decide) (.slice a2 q2 c2) q2 (itsV (A ++ M)) rfl HOW.out.own (some ⟨w7.heap.size, 0, none⟩) 1 1 [.int .i64 (pp : Int), .int .i64 0] rfl (fun h => by cases h) rfl (fun ad e => by cases e; exact HNW.out) (by simp [Value.oneCell']) (by unfold maxLen; omega) (by omega) HOW.out.grown.size ?_; intro v8 wB hoB hgB; have hoB2 : wB.ownsRow w.heap.size 49 2 v8 (q2 + 1) (itsV (A ++ (M ++ [((pp : Int), (0 : Int))]))) := (by rw [← List.append_assoc, itsV_append]; exact hoB); obtain ⟨a8, c8, rfl, hC8⟩ := HOW.out.more hgB hoB2; have HC8 := show Hid _ from hC8; clear hoB hgB hC8 hoB2)
                  go_roundg (n - (pp + 1))
                  case measure => have := HGP.out; omega
                  case rel => exact ⟨pp + 1, q2 + 1, c8, a8, M ++ [((pp : Int), (0 : Int))], by omega, rfl, rfl, by go_num, by rw [← List.append_assoc, List.length_append, ← HQ2.out]; rfl, by omega, HMM2.out, HAL2.out, HC8.out⟩
              · have hne : (lk != (s : Int)) = true := bne_iff_ne.2 hls
                have HAL2 : Hid (∀ k : Nat, k < pp + 1 → L k = (s : Int) → ((k : Int), (0 : Int)) ∈ A ++ M) := fun k hk hl => by
                  by_cases e : k = pp
                  · rw [e] at hl; exact absurd (HLK.out.trans hl) hls
                  · exact HALL.out k (by omega) hl
                clear hls
                go_wp2_with fail
                rw [← HYE.out]
                go_roundg (n - (pp + 1))
                case measure => have := HGP.out; omega
                case rel => exact ⟨pp + 1, q2, c2, a2, M, by omega, rfl, rfl, by go_num, HQ2.out, by omega, HMM.out, HAL2.out, HCY.out⟩
            · have hpk : n = pp := by omega
              subst hpk
              have hpd : decide (n < n) = false := decide_eq_false (by omega)
              have HBR : Hid (CwP tn n L R I (A ++ M) (markT b s) (i + 1)) := HW.out.bring' (by rw [← HQ.out]; exact hlt) HSV.out.symm hts (fun j => by
                unfold markT
                by_cases e : j = s
                · simp [e]
                · simp [e]) HMM.out HALL.out
              go_wp2_with fail
              go_roundg (unm S (markT b s) * 98 + (q2 - (i + 1)))
              case measure => have h1 := HGK.out; have h2 := HUM.out; omega
              case rel => exact ⟨i + 1, q2, c2, a2, markT b s, A ++ M, rfl, by go_num, HQ2.out, by
                have h1 := HQ2.out
                rw [List.length_append, ← HQ.out] at h1
                omega, rfl, by have h1 := HUB.out; have h2 := HUM.out; omega, HBR.out, HC5.out⟩
    · have hin : q = i := by omega
      subst hin
      have hid : decide (q < q) = false := decide_eq_false (by omega)
      have HMEM : Hid (∀ x, x ∈ A ↔ Clo tn n L R I x) := HW.out.fin (by rw [HQ.out]; exact Nat.le_refl _)
      have HLF : Hid (Calls Try.prog 25 #[.slice a' q c'] wr fun e y => LaidTold A wr e y) := by
        have ho := HC.out.own
        rw [HQ.out] at ho ⊢
        exact laid_any a' c' A wr (ItsAt.of ho) (by rw [← HQ.out]; omega)
      clear k0 k1 k2 k3 k4
      go_wp2_with fail
      refine Calls.mono HLF.out ?_
      rintro e w4 ⟨l', h1, h2, h3, a4, c4, rfl, ho4, hg4⟩
      have HIC : Hid (IsClo tn n L R I l') := ⟨h1, fun x => (h2 x).trans (HMEM.out x)⟩
      have HL4 : Hid (l'.length ≤ q) := by rw [HQ.out]; exact h3
      have HG4 : Hid (w.grownBy w4 none) := grown_trans HC.out.grown hg4
      have HO4 : Hid (w4.ownsRow w.heap.size 49 2 (.slice a4 l'.length c4) l'.length (itsV l')) := owns_lowJ ho4 HC.out.grown.size
      obtain ⟨m, hm⟩ : ∃ m, m = l'.length := ⟨_, rfl⟩
      have HM : Hid (m = l'.length) := hm
      rw [← hm]
      clear h1 h2 h3 ho4 hg4 hm HLF HC HW
      go_wp2_with fail
      go_ret
      refine ⟨l', HIC.out, ?_, a4, c4, by rw [← HM.out]; rfl, HO4.out, HG4.out⟩
      have h2 := HL4.out
      have h3 := HUB.out
      rw [← HLE.out]
      omega

end Go.Proofs.Ytgpmmhkdpjlimaa.J
