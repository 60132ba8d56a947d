/-
  lr0: areItems.
-/
import Derived.Test.YthoamlahbnphkaaGreatQlhahfpaifago
import Derived.Test.YthoamlahbnphkaaGreatQkcobfonflehg
namespace Go.Proofs.YthoamlahbnphkaaGreat.J
open Go.RowKit Go.Maps Go.Shelf

attribute [local go_sem] Oper.semAt_some

theorem box_kept {X Y : World} {b : Nat} {o : Obj} (h : X.heap[b]? = some o) (hg : X.grownBy Y none) : Y.heap[b]? = some o := (hg.block b (Array.getElem?_eq_some_iff.1 h).1 (by simp)).trans h
theorem prods_kept {X Y : World} {pa : Option Addr} {n : Nat} {L : Nat → Int} {R : Nat → List Int} {ra : Nat → Option Addr} {rc : Nat → Nat} {V : Nat → Int} (h : ProdsAt X pa n L R ra rc V) (hg : X.grownBy Y none) : ProdsAt Y pa n L R ra rc V := by
  rcases h with h | ⟨b, off, e, h⟩
  · exact .inl h
  · exact .inr ⟨b, off, e, fun k hk => ⟨hg.cell (h k hk).1 (by simp), hg.cell (h k hk).2.1 (by simp), hg.cell (h k hk).2.2.1 (by simp), (h k hk).2.2.2.1.kept hg, (h k hk).2.2.2.2⟩⟩

section
variable (ta na la pa : Option Addr) (tc nc lc pc : Nat) (n : Nat) (L : Nat → Int) (R : Nat → List Int) (ra : Nat → Option Addr) (rc : Nat → Nat) (V : Nat → Int) (st : Int) (w : World) (tn nn ln : Nat)

theorem are1_any (gb : Nat) (hP : ProdsAt w pa n L R ra rc V) (x : It) (hB : w.heap[gb]? = some (.cells #[.slice ta tn tc, .slice na nn nc, .slice la ln lc, .int .i64 st, .slice pa n pc] 27 (0, 0))) :
    Calls Tryz.prog 75 #[.agg #[.int .i64 x.1, .int .i64 x.2], .pointer (some ⟨gb, 0, none⟩)] w fun e y => e = .returned (.bool (!itB n R x)) ∧ w.grownBy y none := by
  obtain ⟨b, hb⟩ : ∃ b, b = itB n R x := ⟨_, rfl⟩
  have HG0 : Hid (w.grownBy (w.alloc (.cells #[.int .i64 x.1, .int .i64 x.2] 69)) none) := World.grownBy_alloc _ _ none
  have HI : Hid (Calls Tryz.prog 76 #[.agg #[.slice ta tn tc, .slice na nn nc, .slice la ln lc, .int .i64 st, .slice pa n pc], .agg #[.int .i64 x.1, .int .i64 x.2]] (w.alloc (.cells #[.int .i64 x.1, .int .i64 x.2] 69)) fun e y => e = .returned (.bool b) ∧ (w.alloc (.cells #[.int .i64 x.1, .int .i64 x.2] 69)).grownBy y none) := by rw [hb]; exact isItem_any ta na la pa tc nc lc pc n L R ra rc V st _ tn nn ln (prods_kept hP HG0.out) x
  obtain ⟨k0, k1, k2, k3, k4⟩ := PhAt.cells (w := w) ⟨HG0.out, box_kept hB HG0.out⟩
  rw [← hb]
  clear hb hB hP
  go_enter Tryz.func75, Tryz.ntmps75
  go_wp2_with fail
  refine Calls.mono HI.out ?_
  rintro e w1 ⟨rfl, hg1⟩
  go_wp2_with fail
  go_ret
  exact ⟨rfl, grown_trans HG0.out hg1⟩

set_option maxRecDepth 100000 in
theorem indexF_any (gb : Nat) (hP : ProdsAt w pa n L R ra rc V) (a : Option Addr) (cap : Nat) (l : List It) (hl : ItsAt w a l) (hn : l.length ≤ 17592186044416) (hB : w.heap[gb]? = some (.cells #[.slice ta tn tc, .slice na nn nc, .slice la ln lc, .int .i64 st, .slice pa n pc] 27 (0, 0))) :
    Calls Tryz.prog 114 #[.slice a l.length cap, .func (.func 75) #[] #[.pointer (some ⟨gb, 0, none⟩)]] w fun e w' => (∃ q : Int, e = .returned (.int .i64 q) ∧ -1 ≤ q ∧ (0 ≤ q ↔ ∃ x ∈ l, itB n R x = false)) ∧ w.grownBy w' none := by
  have HL : Hid (ItsAt w a l) := hl
  obtain ⟨m, hln⟩ : ∃ m, m = l.length := ⟨_, rfl⟩
  have HLN : Hid (l.length = m) := hln.symm
  rw [← hln] at hn ⊢
  have HRO : Hid (∀ x X, w.grownBy X none → Calls Tryz.prog 75 #[.agg #[.int .i64 x.1, .int .i64 x.2], .pointer (some ⟨gb, 0, none⟩)] X fun e w' => e = .returned (.bool (!itB n R x)) ∧ X.grownBy w' none) := fun x X hX => are1_any ta na la pa tc nc lc pc n L R ra rc V st X tn nn ln gb (prods_kept hP hX) x (box_kept hB hX)
  clear hl hln hB hP
  go_enter Tryz.func114, Tryz.ntmps114
  go_wp2_with fail
  go_loopg [8] m (fun gk j wr => ∃ k : Nat, k ≤ m ∧ gk = m - k ∧ j = .int .i64 k ∧ w.grownBy wr none ∧ ¬ ∃ x ∈ l.take k, itB n R x = false)
  case atStart => exact ⟨0, Nat.zero_le _, rfl, rfl, grown_refl _ _, by simp⟩
  case round =>
    obtain ⟨k, hk, hgk, rfl, hg, hno⟩ := hrel
    have HGK : Hid (gk = m - k) := hgk
    have HG : Hid (w.grownBy wr none) := hg
    have HA : Hid (¬ ∃ x ∈ l.take k, itB n R x = false) := hno
    clear hno hg hgk
    by_cases hlt : k < m
    · have hkl : k < l.length := by rw [HLN.out]; exact hlt
      obtain ⟨bl, off, rfl, hc0, hc1⟩ : ∃ b off, a = some ⟨b, off, none⟩ ∧ wr.cell? ⟨b, off + k * 2, none⟩ = some (.int .i64 (l.getD k (0, 0)).1) ∧ wr.cell? ⟨b, off + k * 2 + 1, none⟩ = some (.int .i64 (l.getD k (0, 0)).2) := by
        rcases HL.out.kept HG.out with h | ⟨b, off, e, h⟩
        · rw [h] at hkl; cases hkl
        · exact ⟨b, off, e, (h k hkl).1, (h k hkl).2⟩
      obtain ⟨x, hx⟩ : ∃ x, x = l.getD k (0, 0) := ⟨_, rfl⟩
      have HMM : Hid (x ∈ l ∧ l.take (k + 1) = l.take k ++ [x]) := by
        have e : l.getD k (0, 0) = l[k] := by rw [List.getD_eq_getElem?_getD, List.getElem?_eq_getElem hkl]; rfl
        refine ⟨by rw [hx, e]; exact List.getElem_mem _, by rw [List.take_succ_eq_append_getElem hkl, hx, e]⟩
      rw [← hx] at hc0 hc1
      have hk0 : (0 : Int) ≤ (k : Int) := by omega
      have hk1 : (k : Int) < (m : Int) := by omega
      have hkd : decide (k < m) = true := decide_eq_true hlt
      have HH := show Hid _ from HRO.out x wr HG.out
      obtain ⟨b, hb⟩ : ∃ b, b = itB n R x := ⟨_, rfl⟩
      have HBE : Hid (b = itB n R x) := hb
      rw [← hb] at HH
      clear hx hb
      obtain ⟨p, d⟩ := x
      simp only at hc0 hc1 HH
      go_wp2_with fail
      refine Calls.mono HH.out ?_
      rintro e w2 ⟨rfl, hg2⟩
      have HG2 : Hid (w.grownBy w2 none) := grown_trans HG.out hg2
      clear HH hg2 hc0 hc1
      cases b with
      | false =>
        go_wp2_with fail
        go_ret
        exact ⟨⟨k, rfl, by omega, ⟨fun _ => ⟨(p, d), HMM.out.1, HBE.out.symm⟩, fun _ => by omega⟩⟩, HG2.out⟩
      | true =>
        go_wp2_with fail
        go_roundg (m - (k + 1))
        case measure => have := HGK.out; omega
        case rel => exact ⟨k + 1, by omega, rfl, by go_num, HG2.out, by
          rintro ⟨y, hy, h3⟩
          rw [HMM.out.2] at hy
          rcases List.mem_append.1 hy with hy | hy
          · exact HA.out ⟨y, hy, h3⟩
          · simp only [List.mem_singleton] at hy
            rw [hy, ← HBE.out] at h3
            cases h3⟩
    · have hkn : m = k := by omega
      subst hkn
      have hkd : decide (m < m) = false := decide_eq_false (by omega)
      have ht : l.take m = l := List.take_of_length_le (Nat.le_of_eq HLN.out)
      rw [ht] at HA
      go_wp2_with fail
      go_ret
      exact ⟨⟨-1, rfl, by omega, ⟨fun h => absurd h (by omega), fun h => absurd h HA.out⟩⟩, HG.out⟩

theorem containsF_any (gb : Nat) (hP : ProdsAt w pa n L R ra rc V) (a : Option Addr) (cap : Nat) (l : List It) (hl : ItsAt w a l) (hn : l.length ≤ 17592186044416) (hB : w.heap[gb]? = some (.cells #[.slice ta tn tc, .slice na nn nc, .slice la ln lc, .int .i64 st, .slice pa n pc] 27 (0, 0))) (r : Bool) (hr : r = true ↔ ∃ x ∈ l, itB n R x = false) :
    Calls Tryz.prog 74 #[.slice a l.length cap, .func (.func 75) #[] #[.pointer (some ⟨gb, 0, none⟩)]] w fun e w' => e = .returned (.bool r) ∧ w.grownBy w' none := by
  have hI := indexF_any ta na la pa tc nc lc pc n L R ra rc V st w tn nn ln gb hP a cap l hl hn hB
  have HR : Hid (r = true ↔ ∃ x ∈ l, itB n R x = false) := hr
  clear hl hr hB hP
  go_enter Tryz.func74, Tryz.ntmps74
  go_wp2_with fail
  refine hI.mono ?_
  rintro e w2 ⟨⟨q, rfl, h1, h2⟩, hg⟩
  have HQ : Hid (decide (0 ≤ q) = r) := by
    show decide (0 ≤ q) = r
    rw [Bool.eq_iff_iff, decide_eq_true_eq, h2, HR.out]
  clear h2 hI
  go_wp2_with fail
  go_ret
  exact ⟨by rw [← HQ.out]; rfl, hg⟩

/-- Are all of them items? -/
theorem areItems_any (hP : ProdsAt w pa n L R ra rc V) (a : Option Addr) (cap : Nat) (l : List It) (hl : ItsAt w a l) (hn : l.length ≤ 17592186044416) (r : Bool) (hr : r = true ↔ ∀ x ∈ l, itB n R x = true) :
    Calls Tryz.prog 47 #[.agg #[.slice ta tn tc, .slice na nn nc, .slice la ln lc, .int .i64 st, .slice pa n pc], .slice a l.length cap] w fun e w' => e = .returned (.bool r) ∧ w.grownBy w' none := by
  have HG0 : Hid (w.grownBy (w.alloc (.cells #[.slice ta tn tc, .slice na nn nc, .slice la ln lc, .int .i64 st, .slice pa n pc] 27)) none) := World.grownBy_alloc _ _ none
  have HC : Hid (Calls Tryz.prog 74 #[.slice a l.length cap, .func (.func 75) #[] #[.pointer (some ⟨w.heap.size, 0, none⟩)]] (w.alloc (.cells #[.slice ta tn tc, .slice na nn nc, .slice la ln lc, .int .i64 st, .slice pa n pc] 27)) fun e w' => e = .returned (.bool (!r)) ∧ (w.alloc (.cells #[.slice ta tn tc, .slice na nn nc, .slice la ln lc, .int .i64 st, .slice pa n pc] 27)).grownBy w' none) := containsF_any ta na la pa tc nc lc pc n L R ra rc V st _ tn nn ln w.heap.size (prods_kept hP HG0.out) a cap l (hl.kept HG0.out) hn (heap_alloc_last w _) (!r) (by
    cases r with
    | true =>
      refine ⟨fun h => (by cases h), fun ⟨x, h1, h2⟩ => ?_⟩
      rw [hr.1 rfl x h1] at h2; cases h2
    | false =>
      refine ⟨fun _ => ?_, fun _ => rfl⟩
      apply Classical.byContradiction
      intro h
      have h2 : ∀ x ∈ l, itB n R x = true := fun x hx => by
        cases hb : itB n R x with
        | true => rfl
        | false => exact absurd ⟨x, hx, hb⟩ h
      have := hr.2 h2
      cases this)
  obtain ⟨m, hm⟩ : ∃ m, m = l.length := ⟨_, rfl⟩
  rw [← hm] at HC
  rw [← hm]
  clear hP hl hn hr hm
  go_enter Tryz.func47, Tryz.ntmps47
  go_wp2_with fail
  refine Calls.mono HC.out ?_
  rintro e w1 ⟨rfl, hg1⟩
  have HG1 : Hid (w.grownBy w1 none) := grown_trans HG0.out hg1
  clear hg1
  cases r with
  | true =>
    go_wp2_with fail
    go_ret
    exact ⟨rfl, HG1.out⟩
  | false =>
    go_wp2_with fail
    go_ret
    exact ⟨rfl, HG1.out⟩
end

end Go.Proofs.YthoamlahbnphkaaGreat.J
