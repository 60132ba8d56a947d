/-
  ScanNames, walked.
-/
import Derived.Test.YtpjckjggmcijjabDoorSNamesMath
import Derived.Deep.CutRange
namespace Go.Proofs.YtpjckjggmcijjabDoor
open Go.RowKit

attribute [local go_sem] Oper.semAt_some

/-- What Words has told. -/
def Told (s : ByteArray) (ws : List El) (c p : Int) : Prop := (scanW s = (ws, none) ∧ c = 0 ∧ p = 0) ∨ (ws = [] ∧ c = 10 ∧ ∃ (ws0 : List El) (q : Nat), scanW s = (ws0, some q) ∧ p = q)
theorem words_both (s : ByteArray) (w : World) (hO : Ords w) : Calls Tryd.prog 10 #[.string s] w fun e w' =>
    ∃ a c k p, ∃ ws : List El, e = .returned (.tuple #[.slice a ws.length c, .agg #[.int .i64 k, .int .i64 p, .slice none 0 0]]) ∧ w'.ownsRow w.heap.size 36 3 (.slice a ws.length c) ws.length (ws.flatMap elL) ∧ Told s ws k p ∧ w.grownBy w' none := by
  obtain ⟨ws, en, h⟩ : ∃ ws en, scanW s = (ws, en) := ⟨_, _, rfl⟩
  cases en with
  | none =>
    refine (words_ok s w hO ws h).mono ?_
    rintro e w' ⟨a, c, he, ho, hg⟩
    exact ⟨a, c, 0, 0, ws, he, ho, .inl ⟨h, rfl, rfl⟩, hg⟩
  | some q =>
    refine (words_bad s w hO ws q h).mono ?_
    rintro e w' ⟨he, hg⟩
    exact ⟨none, 0, 10, q, [], he, World.ownsRow_nil _ _ _ _, .inr ⟨rfl, rfl, ws, q, h, rfl⟩, hg⟩

theorem told_one {s : ByteArray} {x : El} {p : Int} (h : Told s [x] 0 p) (k : Nat) (t : ByteArray) : (((x.1 : Int) == (k : Int) && x.2.1.toList == t.toList && (x.2.2 : Int) == 0) = true ↔ scanW s = ([(k, t, 0)], none)) := by
  obtain ⟨x1, x2, x3⟩ := x
  rcases h with ⟨h, _⟩ | ⟨h, _⟩
  · rw [h]
    simp only [Bool.and_eq_true, beq_iff_eq, bytes_toList, Prod.mk.injEq, List.cons.injEq, and_true]
    constructor
    · rintro ⟨⟨h1, h2⟩, h3⟩
      exact ⟨by omega, h2, by omega⟩
    · rintro ⟨h1, h2, h3⟩
      exact ⟨⟨by omega, h2⟩, by omega⟩
  · cases h
theorem told_not {s : ByteArray} {ws : List El} {c p : Int} (h : Told s ws c p) (hn : c ≠ 0 ∨ ws.length ≠ 1) (k : Nat) (t : ByteArray) : scanW s ≠ ([(k, t, 0)], none) := fun e => by
  rcases h with ⟨h, h2, _⟩ | ⟨_, _, ws0, q, h, _⟩
  · rw [h] at e
    cases e
    rcases hn with hn | hn
    · exact hn h2
    · exact hn rfl
  · rw [h] at e
    cases e
theorem told_code {s : ByteArray} {ws : List El} {c p : Int} (h : Told s ws c p) : c = 0 ∨ c = 10 := by
  rcases h with ⟨_, h, _⟩ | ⟨_, h, _⟩
  · exact .inl h
  · exact .inr h

set_option maxRecDepth 100000 in
set_option maxHeartbeats 1000000 in
theorem names_core (s : ByteArray) (w : World) (n t : Bool) (hO : Ords w) (HN : Hid (∀ W, Calls Tryd.prog 15 #[.string s] W fun e w' => e = .returned (.bool n) ∧ w' = W)) (HT : Hid (∀ W, Calls Tryd.prog 16 #[.string s] W fun e w' => e = .returned (.bool t) ∧ w' = W))
    (HRN : Hid (∀ W, Calls Tryd.prog 17 #[.string s] W fun e w' => e = .returned (.bool n) ∧ w' = W)) (HRT : Hid (∀ W, Calls Tryd.prog 18 #[.string s] W fun e w' => e = .returned (.bool t) ∧ w' = W)) (himp : n = true → t = true)
    (HQ : Hid (t = true ↔ scanW (quotedB s) = ([(2, s, 0)], none))) (HM : Hid (n = true ↔ scanW s = ([(1, s, 0)], none))) (hs : s.size ≤ 140737488355328) :
    Calls Tryd.prog 5 #[.string s] w fun e w' => e = .returned (.bool true) ∧ w.grownBy w' none := by
  have HO : Hid (Ords w) := hO
  have HAW : Hid (Calls Tryd.prog 8 #[] w fun e w' => e = .returned (.bool true) ∧ w.grownBy w' none) := awake_any w hO
  clear hO
  obtain ⟨tb, hq1, hq2⟩ : ∃ tb : Bool, (tb = true ↔ scanW (quotedB s) = ([(2, s, 0)], none)) ∧ tb = t := ⟨t, HQ.out, rfl⟩
  obtain ⟨nb, hm1, hm2⟩ : ∃ nb : Bool, (nb = true ↔ scanW s = ([(1, s, 0)], none)) ∧ nb = n := ⟨n, HM.out, rfl⟩
  have HQ1 : Hid (tb = true ↔ scanW (quotedB s) = ([(2, s, 0)], none)) := hq1
  have HQ2 : Hid (tb = t) := hq2
  have HM1 : Hid (nb = true ↔ scanW s = ([(1, s, 0)], none)) := hm1
  have HM2 : Hid (nb = n) := hm2
  clear hq1 hq2 hm1 hm2 HQ HM
  cases n <;> cases t
  case true.false => exact absurd (himp rfl) (by simp)
  all_goals
    clear himp
    go_enter Tryd.func5, Tryd.ntmps5
    go_wp2_with fail
    refine HAW.out.mono ?_
    rintro e w1 ⟨rfl, hg1⟩
    have HG1 : Hid (w.grownBy w1 none) := hg1
    have HO1 : Hid (Ords w1) := HO.out.grown0 hg1
    clear hg1 HAW
    go_wp2_with (first | (go_at_call 15; refine (HN.out _).mono ?_; rintro e w' ⟨rfl, hw⟩; subst hw) | (go_at_call 16; refine (HT.out _).mono ?_; rintro e w' ⟨rfl, hw⟩; subst hw) | (go_at_call 17; refine (HRN.out _).mono ?_; rintro e w' ⟨rfl, hw⟩; subst hw) | (go_at_call 18; refine (HRT.out _).mono ?_; rintro e w' ⟨rfl, hw⟩; subst hw))
    refine (words_both (quotedB s) _ HO1.out).mono ?_
    rintro e w2 ⟨a, c, k, p, ws, rfl, ho, hT, hg2⟩
    have hAt := owns_words ho
    have HTL : Hid (Told (quotedB s) ws k p) := hT
    have HG2 : Hid (w.grownBy w2 none) := grown_trans HG1.out hg2
    have HW : Hid (WordsAt w2 a ws) := hAt
    clear ho hT hg2 hAt HG1 HO1 HN HT HRN HRT
    go_upto_region 8 with fail
    go_cut [7] from 41 to 56 (fun v7 wx => v7 = .bool tb ∧ w.grownBy wx none)
    case first =>
      by_cases hk : k = 0
      · subst hk
        by_cases hl : ws.length = 1
        · obtain ⟨x, rfl⟩ := List.length_eq_one_iff.1 hl
          have hone := told_one HTL.out 2 s
          rcases HW.out with h | ⟨b, off, rfl, hcs⟩
          · cases h
          · obtain ⟨x0, x1, x2⟩ := hcs 0 (by simp)
            have k0 := fun o => (World.grownBy_alloc w2 o none).cell x0 (by simp)
            have k1 := fun o => (World.grownBy_alloc w2 o none).cell x1 (by simp)
            have k2 := fun o => (World.grownBy_alloc w2 o none).cell x2 (by simp)
            simp only [List.getD, List.getElem?_cons_zero, Option.getD_some, Nat.zero_mul, Nat.add_zero] at k0 k1 k2
            have hq := fun w => eqWord x.1 2 x.2.2 0 x.2.1 s w
            have hb : ((x.1 : Int) == 2 && x.2.1.toList == s.toList && (x.2.2 : Int) == 0) = tb := Bool.eq_iff_iff.2 (hone.trans HQ1.out.symm)
            rw [hb] at hq
            clear hone hb hcs x0 x1 x2 hl
            go_wp2_with fail
            go_meet
            exact ⟨rfl, grown_trans HG2.out (World.grownBy_alloc _ _ none)⟩
        · have hd : ((ws.length : Int) == 1) = false := by simp; omega
          have hf : tb = false := Bool.eq_false_iff.2 fun hh => told_not HTL.out (.inr hl) 2 s (HQ1.out.1 hh)
          clear hl
          go_wp2_with fail
          go_meet
          exact ⟨by rw [hf], grown_trans HG2.out (World.grownBy_alloc _ _ none)⟩
      · have hd : (k == 0) = false := by simp [hk]
        have hf : tb = false := Bool.eq_false_iff.2 fun hh => told_not HTL.out (.inl hk) 2 s (HQ1.out.1 hh)
        clear hk
        go_wp2_with fail
        go_meet
        exact ⟨by rw [hf], grown_trans HG2.out (World.grownBy_alloc _ _ none)⟩
    case rest =>
      obtain ⟨hv7, hg3⟩ := hcut
      have htb := HQ2.out
      subst htb
      have HG3 : Hid (w.grownBy wc none) := hg3
      have HO3 : Hid (Ords wc) := HO.out.grown0 hg3
      rw [hv7]
      clear hg3 hv7 HG2 HW HTL HQ1 HQ2
      go_wp2_with fail
      refine (words_both s _ HO3.out).mono ?_
      rintro e w4 ⟨a4, c4, k4, p4, ws4, rfl, ho4, hT4, hg4⟩
      have hAt4 := owns_words ho4
      have HTL4 : Hid (Told s ws4 k4 p4) := hT4
      have HG4 : Hid (w.grownBy w4 none) := grown_trans HG3.out hg4
      have HW4 : Hid (WordsAt w4 a4 ws4) := hAt4
      clear ho4 hT4 hg4 hAt4 HG3 HO3
      go_upto_region 10 with fail
      go_cut [10] from 62 to 77 (fun v10 wx => v10 = .bool nb ∧ w.grownBy wx none)
      case first =>
        by_cases hk : k4 = 0
        · subst hk
          by_cases hl : ws4.length = 1
          · obtain ⟨x, rfl⟩ := List.length_eq_one_iff.1 hl
            have hone := told_one HTL4.out 1 s
            rcases HW4.out with h | ⟨b, off, rfl, hcs⟩
            · cases h
            · obtain ⟨x0, x1, x2⟩ := hcs 0 (by simp)
              have k0 := fun o => (World.grownBy_alloc w4 o none).cell x0 (by simp)
              have k1 := fun o => (World.grownBy_alloc w4 o none).cell x1 (by simp)
              have k2 := fun o => (World.grownBy_alloc w4 o none).cell x2 (by simp)
              simp only [List.getD, List.getElem?_cons_zero, Option.getD_some, Nat.zero_mul, Nat.add_zero] at k0 k1 k2
              have hq := fun w => eqWord x.1 1 x.2.2 0 x.2.1 s w
              have hb : ((x.1 : Int) == 1 && x.2.1.toList == s.toList && (x.2.2 : Int) == 0) = nb := Bool.eq_iff_iff.2 (hone.trans HM1.out.symm)
              rw [hb] at hq
              clear hone hb hcs x0 x1 x2 hl
              go_wp2_with fail
              go_meet
              exact ⟨rfl, grown_trans HG4.out (World.grownBy_alloc _ _ none)⟩
          · have hd : ((ws4.length : Int) == 1) = false := by simp; omega
            have hf : nb = false := Bool.eq_false_iff.2 fun hh => told_not HTL4.out (.inr hl) 1 s (HM1.out.1 hh)
            clear hl
            go_wp2_with fail
            go_meet
            exact ⟨by rw [hf], grown_trans HG4.out (World.grownBy_alloc _ _ none)⟩
        · have hd : (k4 == 0) = false := by simp [hk]
          have hf : nb = false := Bool.eq_false_iff.2 fun hh => told_not HTL4.out (.inl hk) 1 s (HM1.out.1 hh)
          clear hk
          go_wp2_with fail
          go_meet
          exact ⟨by rw [hf], grown_trans HG4.out (World.grownBy_alloc _ _ none)⟩
      case rest =>
        obtain ⟨hv10, hg5⟩ := hcut
        have hnb := HM2.out
        subst hnb
        have HG5 : Hid (w.grownBy wc none) := hg5
        rw [hv10]
        clear hg5 hv10 HG4 HW4 HTL4 HM1 HM2
        go_wp2_with fail
        go_ret
        exact ⟨rfl, HG5.out⟩

theorem names_any (s : ByteArray) (w : World) (hO : Ords w) (hs : s.size ≤ 140737488355328) : Calls Tryd.prog 5 #[.string s] w fun e w' => e = .returned (.bool true) ∧ w.grownBy w' none :=
  names_core s w (nameOK s) (termOK s) hO (fun W => isName_any s W) (fun W => isTerm_any s W) (fun W => rname_any s W) (fun W => rterm_any s W hs) name_term ⟨term_words, words_term⟩ ⟨name_words, words_name⟩ hs

end Go.Proofs.YtpjckjggmcijjabDoor
