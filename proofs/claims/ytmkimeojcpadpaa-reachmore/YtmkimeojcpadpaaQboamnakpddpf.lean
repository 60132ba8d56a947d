import Derived.Test.YtmkimeojcpadpaaQbgmfhiifeakh
import Derived.Test.YtmkimeojcpadpaaQhlhnkogmmgln
import Derived.Test.YtmkimeojcpadpaaQngknggfkmnao
import Derived.Test.YtmkimeojcpadpaaQdfameikifabc

/-
  reach: sets of symbols in a grammar's memory: marksOf, covers, ofNons.
-/
namespace Go.Proofs.Ytmkimeojcpadpaa
open Go.RowKit Go.Maps Go.Shelf

theorem grown_of_below {w w' : World} (h : Below w.heap.size w w') : w.grownBy w' none := ⟨h.os, h.tape, h.output, h.size, fun k hk _ => h.block k hk⟩
theorem below_of_grown {w w' : World} (h : w.grownBy w' none) : Below w.heap.size w w' := ⟨h.os, h.tape, h.output, h.size, fun k hk => h.block k hk (by simp)⟩
theorem SetM_kept {w w' : World} {b n m : Nat} (h : B.SetM w (some ⟨b, 0, none⟩) n m) (hg : w.grownBy w' none) : B.SetM w' (some ⟨b, 0, none⟩) n m := B.SetM.keep h (below_of_grown hg)
theorem SetM_row {w : World} {b n m : Nat} (h : B.SetM w (some ⟨b, 0, none⟩) n m) : B.RowAt w b n (B.wd m) := by
  rcases h.2.2 with ⟨h, _⟩ | ⟨b', e, hr⟩
  · simp at h
  · simp at e; rw [e]; exact hr
theorem SetM_lt {w : World} {b n m : Nat} (h : B.SetM w (some ⟨b, 0, none⟩) n m) : b < w.heap.size := (SetM_row h).lt

theorem grown_at {w w1 w2 : World} {b : Nat} (h : w.grownBy w1 none) (hg : w1.grownBy w2 (some b)) (hb : w.heap.size ≤ b) : w.grownBy w2 none :=
  ⟨hg.os.trans h.os, hg.tape.trans h.tape, hg.output.trans h.output, Nat.le_trans h.size hg.size, fun k hk _ => (hg.block k (Nat.lt_of_lt_of_le hk h.size) (by simp; omega)).trans (h.block k hk (by simp))⟩
theorem SetM_at {w w' : World} {b c n m : Nat} (h : B.SetM w (some ⟨b, 0, none⟩) n m) (hg : w.grownBy w' (some c)) (hne : b ≠ c) : B.SetM w' (some ⟨b, 0, none⟩) n m :=
  B.SetM.of ((hg.block b (SetM_lt h) (by simpa using hne)).trans (SetM_row h)) h.1 h.2.1
theorem infoMarks : (Try.prog.info? 51).map (·.size) = some 1 := by kernel_rfl

theorem addStep_bit (n m k : Nat) (x : Int) (i : Nat) : (B.addStep n (m, k) x).1.testBit i = (m.testBit i || (decide (i < n) && decide ((i : Int) = x))) := by
  unfold B.addStep
  by_cases h : (B.inB n x && !B.hasB m x) = true
  · rw [if_pos h]
    simp [B.inB] at h
    obtain ⟨y, rfl⟩ := Int.eq_ofNat_of_zero_le h.1.1
    have hy : y < n := by omega
    rw [Nat.testBit_or, Nat.testBit_two_pow]
    by_cases e : i = y
    · subst e; simp [hy]
    · have e1 : ¬ y = i := fun h => e h.symm
      simp [e1]
      intro _ h2; exact absurd (by omega) e
  · rw [if_neg h]
    by_cases e : (i : Int) = x
    · subst e
      by_cases hi : i < n
      · have : m.testBit i = true := by simpa [B.inB, B.hasB, hi] using h
        simp [this]
      · simp [hi]
    · simp [e]

theorem addS_bit (n : Nat) (l : List Int) (i : Nat) : ∀ m : Nat, (B.addS n m l).1.testBit i = (m.testBit i || (decide (i < n) && l.contains (i : Int))) := by
  unfold B.addS
  generalize 0 = k
  induction l generalizing k with
  | nil => intro m; simp
  | cons x l ih =>
    intro m
    rw [List.foldl_cons]
    rcases hs : B.addStep n (m, k) x with ⟨m2, k2⟩
    rw [ih k2 m2]
    have := addStep_bit n m k x i
    rw [hs] at this
    rw [this]
    by_cases e : (i : Int) = x
    · simp [e]
      intro h _; exact Or.inr h
    · have e2 : ((i : Int) == x) = false := by simp [e]
      simp only [List.contains_cons, e2, Bool.false_or, e, decide_false, Bool.and_false, Bool.or_false]

theorem clampN_sum (a b : Nat) (h : a + b ≤ 1024) : B.clampN ((a : Int) + (b : Int)) = a + b := by unfold B.clampN; omega

theorem marksOf_any (ta na la pa a : Option Addr) (tn nn ln n tc nc lc pc cap : Nat) (st : Int) (l : List Int) (w : World) (hl : IntsAt w a l) (hlen : l.length ≤ 17592186044416) (hz : tn + nn ≤ 1024) :
    Calls Try.prog 41 #[.agg #[.slice ta tn tc, .slice na nn nc, .slice la ln lc, .int .i64 st, .slice pa n pc], .slice a l.length cap] w fun e w' =>
      ∃ b, e = .returned (.agg #[.pointer (some ⟨b, 0, none⟩)]) ∧ w.heap.size ≤ b ∧ B.SetM w' (some ⟨b, 0, none⟩) (tn + nn) (B.addS (tn + nn) 0 l).1 ∧ w.grownBy w' none := by
  have HL : Hid (IntsAt w a l) := hl
  have HZ : Hid (B.clampN ((tn : Int) + (nn : Int)) = tn + nn) := clampN_sum tn nn hz
  clear hl
  go_enter Try.func41, Try.ntmps41
  go_wp2_with fail
  refine (B.of_any ((tn : Int) + (nn : Int)) a cap l _ (IntsAt.kept HL.out (grown_trans (World.grownBy_alloc w _ none) (World.grownBy_alloc _ _ none))) (by omega)).mono ?_
  rintro e w1 ⟨rfl, hS, hb⟩
  rw [HZ.out] at hS
  have hbox : w1.heap[w.heap.size + 1]? = some (.cells #[.pointer none] 51 (0, 0)) := by
    rw [hb.block _ (by simp)]
    have := heap_alloc_last (w.alloc (.cells #[.slice ta tn tc, .slice na nn nc, .slice la ln lc, .int .i64 st, .slice pa n pc] 27)) (.cells #[.pointer none] 51)
    rw [World.size_alloc] at this
    exact this
  have HS : Hid (B.SetM w1 (some ⟨w.heap.size + 1 + 1, 0, none⟩) (tn + nn) (B.addS (tn + nn) 0 l).1) := by show B.SetM _ _ _ _; simpa using hS
  have HG : Hid (w.grownBy w1 none) := grown_trans (grown_trans (World.grownBy_alloc w _ none) (World.grownBy_alloc _ _ none)) (grown_of_below hb)
  have hc : w1.cell? ⟨w.heap.size + 1, 0, none⟩ = some (.pointer none) := by rw [cell_of_row _ _ _ _ _ _ hbox]; rfl
  have hf : w1.frozen? ⟨w.heap.size + 1, 0, none⟩ = false := frozen_of_row _ _ _ _ _ hbox
  have HBX : Hid (w1.heap[w.heap.size + 1]? = some (.cells #[.pointer none] 51 (0, 0))) := hbox
  clear hS hb hbox
  go_wp2_with fail
  refine bodyPost_ret (v := .agg #[.pointer (some ⟨w.heap.size + 1 + 1, 0, none⟩)]) (results_cell_row (fr := (0, 0)) rfl _ _ (w.heap.size + 1) 51 #[.pointer (some ⟨w.heap.size + 1 + 1, 0, none⟩)] _ rfl (by rw [heap_setCell_same _ _ _ _ _ _ HBX.out]; rfl) Try.underlying51 rfl infoMarks) rfl ⟨w.heap.size + 1 + 1, rfl, by omega, ?_, ?_⟩
  · exact SetM_at HS.out (grown_setCell _ _ _) (by simp)
  · exact grown_at HG.out (grown_setCell _ _ _) (by simp)

end Go.Proofs.Ytmkimeojcpadpaa

/-
  reach: covers, ofNons.
-/
namespace Go.Proofs.Ytmkimeojcpadpaa
open Go.RowKit Go.Maps Go.Shelf

theorem pc_or (k : Nat) : ∀ a b : Nat, B.pc k a ≤ B.pc k (a ||| b) ∧ (B.pc k (a ||| b) = B.pc k a ↔ ∀ i, i < k → b.testBit i = true → a.testBit i = true) := by
  unfold B.pc
  induction k with
  | zero => intro a b; simp [B.ds]
  | succ k ih =>
    intro a b
    have h1 := ih (a / 2) (b / 2)
    rw [← Nat.or_div_two] at h1
    have h0 : (a ||| b).testBit 0 = (a.testBit 0 || b.testBit 0) := Nat.testBit_or a b 0
    simp only [Nat.testBit_zero] at h0
    simp only [B.ds]
    generalize B.ds 2 k ((a ||| b) / 2) = x at *
    have ha := Nat.mod_two_eq_zero_or_one a
    have hb := Nat.mod_two_eq_zero_or_one b
    have hab := Nat.mod_two_eq_zero_or_one (a ||| b)
    have hle : a % 2 ≤ (a ||| b) % 2 := by
      rcases ha with ha | ha <;> rcases hb with hb | hb <;> rcases hab with hab | hab <;> simp [ha, hb, hab] at h0 ⊢
    refine ⟨by omega, ?_⟩
    constructor
    · intro h i hi
      have e1 : (a ||| b) % 2 = a % 2 := by omega
      cases i with
      | zero =>
        simp only [Nat.testBit_zero]
        rw [e1] at h0
        intro h2
        rw [h2, Bool.or_true] at h0
        exact h0
      | succ i => simp only [Nat.testBit_succ]; exact h1.2.1 (by omega) i (by omega)
    · intro h
      have e2 : x = _ := h1.2.2 fun i hi => by have := h (i + 1) (by omega); simpa only [Nat.testBit_succ] using this
      have e0 := h 0 (by omega)
      simp only [Nat.testBit_zero] at e0
      have e1 : (a ||| b) % 2 = a % 2 := by
        rcases ha with ha | ha <;> rcases hb with hb | hb <;> rcases hab with hab | hab <;> simp [ha, hb, hab] at h0 e0 ⊢
      omega

theorem cov_pure {n m s : Nat} (hn : n ≤ 1024) (hs : s < 2 ^ n) (r : Bool) (hr : r = true ↔ ∀ i, s.testBit i = true → m.testBit i = true) :
    (((B.cnt (m ||| (s &&& (2 ^ n - 1))) : Nat) : Int) - (B.cnt m : Nat) == 0) = r := by
  have e : s &&& (2 ^ n - 1) = s := by rw [Nat.and_two_pow_sub_one_eq_mod, Nat.mod_eq_of_lt hs]
  rw [e]
  have h := pc_or 1024 m s
  unfold B.cnt
  rw [Bool.eq_iff_iff, hr, beq_iff_eq]
  constructor
  · intro h1 i hi
    have hi2 : i < 1024 := Decidable.byContradiction fun hc => by
      rw [Nat.testBit_lt_two_pow (Nat.lt_of_lt_of_le hs (Nat.pow_le_pow_right (by decide) (by omega)))] at hi
      simp at hi
    exact h.2.1 (by omega) i hi2 hi
  · intro h1
    have := h.2.2 fun i _ hi => h1 i hi
    omega

theorem cnt_le (x : Nat) : B.cnt x ≤ 1024 := B.pc_le _ _

theorem new_cell (w : World) (v : Value) (t : TypeId) : (w.alloc (.cells #[v] t)).cell? ⟨w.heap.size, 0, none⟩ = some v := by
  rw [cell_of_row _ _ _ _ _ _ (heap_alloc_last w _)]; rfl

theorem calls_at {P : Program} {f : FuncId} {args : Array Value} {w : World} {Q : Ending → World → Prop} (w0 : World) (e : w = w0) (h : Calls P f args w0 Q) : Calls P f args w Q := by rw [e]; exact h

/-- A union with one other. -/
theorem union_one (b c n m s bl : Nat) (w : World) (hm : B.SetM w (some ⟨b, 0, none⟩) n m) (hs : B.SetM w (some ⟨c, 0, none⟩) n s) (hne : c ≠ b) (hnl : bl ≠ b) (hl : w.cell? ⟨bl, 0, none⟩ = some (.pointer (some ⟨c, 0, none⟩))) (z : Int) (hz : z = ((B.cnt (m ||| (s &&& (2 ^ n - 1))) : Nat) : Int) - (B.cnt m : Nat)) (u : Nat) (hu : u = m ||| (s &&& (2 ^ n - 1))) :
    Calls Try.prog 49 #[.pointer (some ⟨b, 0, none⟩), .slice (some ⟨bl, 0, none⟩) 1 1] w fun e w' =>
      e = .returned (.int .i64 z) ∧ B.SetM w' (some ⟨b, 0, none⟩) n u ∧ w.grownBy w' (some b) := by
  have h := B.union_core b n m bl 0 1 B.cnt [(some ⟨c, 0, none⟩, s)] w B.countIs cnt_le hm.1 hm.2.1 (SetM_row hm) hnl (by simp) (World.block_lt_of_cell? w _ hl)
    (fun i hi => by have : i = 0 := by simpa using hi
                    subst this; exact hl)
    (fun i hi => by have : i = 0 := by simpa using hi
                    subst this; exact .inr ⟨fun h => hne (by injection h with h1; injection h1), n, hs⟩)
  refine Calls.mono h ?_
  rintro e w' ⟨he, hr, hb⟩
  rw [hz, hu]
  refine ⟨he, B.SetM.of hr hm.1 (B.lt_or hm.2.1 (B.lt_and_right (B.ones_lt n))), hb.os, hb.tape, hb.output, hb.size, fun k hk hne => hb.block k hk (by simpa using hne)⟩

set_option maxRecDepth 100000 in
set_option maxHeartbeats 1000000 in
theorem covers_any (b c n m s : Nat) (w : World) (hm : B.SetM w (some ⟨b, 0, none⟩) n m) (hs : B.SetM w (some ⟨c, 0, none⟩) n s) (r : Bool) (hr : r = true ↔ ∀ i, s.testBit i = true → m.testBit i = true) :
    Calls Try.prog 45 #[.agg #[.pointer (some ⟨b, 0, none⟩)], .agg #[.pointer (some ⟨c, 0, none⟩)]] w fun e w' => e = .returned (.bool r) ∧ w.grownBy w' none := by
  have HM : Hid (B.SetM w (some ⟨b, 0, none⟩) n m) := hm
  have HS : Hid (B.SetM w (some ⟨c, 0, none⟩) n s) := hs
  have HZ := cov_pure hm.1 hs.2.1 r hr
  obtain ⟨z, hz⟩ : ∃ z : Int, z = ((B.cnt (m ||| (s &&& (2 ^ n - 1))) : Nat) : Int) - (B.cnt m : Nat) := ⟨_, rfl⟩
  rw [← hz] at HZ
  have HZE : Hid (z = ((B.cnt (m ||| (s &&& (2 ^ n - 1))) : Nat) : Int) - (B.cnt m : Nat)) := hz
  have hW : w.grownBy ((w.alloc (.cells #[.pointer (some ⟨b, 0, none⟩)] 51)).alloc (.cells #[.pointer (some ⟨c, 0, none⟩)] 51)) none := grown_trans (World.grownBy_alloc _ _ none) (World.grownBy_alloc _ _ none)
  have hY0 : ((w.alloc (.cells #[.pointer (some ⟨b, 0, none⟩)] 51)).alloc (.cells #[.pointer (some ⟨c, 0, none⟩)] 51)).cell? ⟨w.heap.size, 0, none⟩ = some (.pointer (some ⟨b, 0, none⟩)) := by
    rw [World.cell?_of_block ((World.grownBy_alloc (w.alloc _) _ none).block _ (by simp) (by simp)), cell_of_row _ _ _ _ _ _ (heap_alloc_last w _)]; rfl
  have hY1 : ((w.alloc (.cells #[.pointer (some ⟨b, 0, none⟩)] 51)).alloc (.cells #[.pointer (some ⟨c, 0, none⟩)] 51)).cell? ⟨w.heap.size + 1, 0, none⟩ = some (.pointer (some ⟨c, 0, none⟩)) := by
    have h := heap_alloc_last (w.alloc (.cells #[.pointer (some ⟨b, 0, none⟩)] 51)) (.cells #[.pointer (some ⟨c, 0, none⟩)] 51)
    rw [World.size_alloc] at h
    rw [cell_of_row _ _ _ _ _ _ h]; rfl
  have HKS : Hid (∀ x, ((w.alloc (.cells #[.pointer (some ⟨b, 0, none⟩)] 51)).alloc (.cells #[.pointer (some ⟨c, 0, none⟩)] 51)).grownBy x none → x.cell? ⟨w.heap.size, 0, none⟩ = some (.pointer (some ⟨b, 0, none⟩)) ∧ x.cell? ⟨w.heap.size + 1, 0, none⟩ = some (.pointer (some ⟨c, 0, none⟩))) := fun x hx => ⟨hx.cell hY0 (by simp), hx.cell hY1 (by simp)⟩
  have HGc : Hid (((w.alloc (.cells #[.pointer (some ⟨b, 0, none⟩)] 51)).alloc (.cells #[.pointer (some ⟨c, 0, none⟩)] 51)).grownBy ((w.alloc (.cells #[.pointer (some ⟨b, 0, none⟩)] 51)).alloc (.cells #[.pointer (some ⟨c, 0, none⟩)] 51)).drew none) := grown_drewN _ 1
  have HW : Hid (w.grownBy ((w.alloc (.cells #[.pointer (some ⟨b, 0, none⟩)] 51)).alloc (.cells #[.pointer (some ⟨c, 0, none⟩)] 51)) none) := hW
  have HDR : Hid (((w.alloc (.cells #[.pointer (some ⟨b, 0, none⟩)] 51)).alloc (.cells #[.pointer (some ⟨c, 0, none⟩)] 51)).drew.grownBy ((((w.alloc (.cells #[.pointer (some ⟨b, 0, none⟩)] 51)).alloc (.cells #[.pointer (some ⟨c, 0, none⟩)] 51)).alloc (.cells #[.pointer (some ⟨c, 0, none⟩)] 49)).drew) none) := World.grownBy_alloc ((w.alloc (.cells #[.pointer (some ⟨b, 0, none⟩)] 51)).alloc (.cells #[.pointer (some ⟨c, 0, none⟩)] 51)).drew _ none
  have HYP : Hid (∀ p, w.heap.size + 2 ≤ p → ((w.alloc (.cells #[.pointer (some ⟨b, 0, none⟩)] 51)).alloc (.cells #[.pointer (some ⟨c, 0, none⟩)] 51)).heap.size ≤ p) := fun p hp => by simp; omega
  have HNEW : Hid ((((w.alloc (.cells #[.pointer (some ⟨b, 0, none⟩)] 51)).alloc (.cells #[.pointer (some ⟨c, 0, none⟩)] 51)).drew.alloc (.cells #[.pointer (some ⟨c, 0, none⟩)] 49)).cell? ⟨w.heap.size + 1 + 1, 0, none⟩ = some (.pointer (some ⟨c, 0, none⟩))) := by
    have h := new_cell ((w.alloc (.cells #[.pointer (some ⟨b, 0, none⟩)] 51)).alloc (.cells #[.pointer (some ⟨c, 0, none⟩)] 51)).drew (.pointer (some ⟨c, 0, none⟩)) 49
    have e8 : ((w.alloc (.cells #[.pointer (some ⟨b, 0, none⟩)] 51)).alloc (.cells #[.pointer (some ⟨c, 0, none⟩)] 51)).drew.heap.size = w.heap.size + 1 + 1 := by simp
    rw [e8] at h
    exact h
  clear hm hs hz hr hW hY0 hY1
  go_enter Try.func45, Try.ntmps45
  go_wp2_with fail
  go_region_held3 (fun w' => w'.cell? ⟨w.heap.size, 0, none⟩ = some (.pointer (some ⟨b, 0, none⟩)) ∧ w'.cell? ⟨w.heap.size + 1, 0, none⟩ = some (.pointer (some ⟨c, 0, none⟩))) (first | exact HKS.out _ HGc.out | exact HKS.out _ (grown_trans HGc.out (World.grownBy_alloc _ _ none)) | go_keep)
    ((first
      | (go_at_call 65; refine calls_at ((w.alloc (.cells #[.pointer (some ⟨b, 0, none⟩)] 51)).alloc (.cells #[.pointer (some ⟨c, 0, none⟩)] 51)).drew (by with_reducible rfl) ?_; have hC := B.copy_any _ n m ((w.alloc (.cells #[.pointer (some ⟨b, 0, none⟩)] 51)).alloc (.cells #[.pointer (some ⟨c, 0, none⟩)] 51)).drew (SetM_kept HM.out (grown_trans HW.out HGc.out)); refine Calls.mono hC ?_; clear hC; rintro e w1 ⟨p, rfl, hp, hr, hb⟩; have HCP : Hid (B.SetM w1 (some ⟨p, 0, none⟩) n m) := B.SetM.of hr HM.out.1 HM.out.2.1; have HPB : Hid (w.heap.size + 2 ≤ p) := by { have h9 := hp; simp at h9; show _ ≤ _; omega }; have HGc : Hid (((w.alloc (.cells #[.pointer (some ⟨b, 0, none⟩)] 51)).alloc (.cells #[.pointer (some ⟨c, 0, none⟩)] 51)).grownBy w1 none) := grown_trans HGc.out (grown_of_below hb); clear hp hr hb)
      | (go_at_call 49; refine calls_at (w1.alloc (.cells #[.pointer (some ⟨c, 0, none⟩)] 49)) (by with_reducible rfl) ?_; have hU := union_one p c n m s w1.heap.size (w1.alloc (.cells #[.pointer (some ⟨c, 0, none⟩)] 49)) (SetM_kept HCP.out (World.grownBy_alloc _ _ none)) (SetM_kept HS.out (grown_trans HW.out (grown_trans HGc.out (World.grownBy_alloc _ _ none)))) (by { have h1 := SetM_lt HS.out; have h2 := HPB.out; omega }) (by { have h1 := SetM_lt HCP.out; omega }) (new_cell w1 _ _) z HZE.out _ rfl; refine Calls.mono hU ?_; clear hU; rintro e w2 ⟨rfl, _, hg⟩; have HGc : Hid (((w.alloc (.cells #[.pointer (some ⟨b, 0, none⟩)] 51)).alloc (.cells #[.pointer (some ⟨c, 0, none⟩)] 51)).grownBy w2 none) := grown_at (grown_trans HGc.out (World.grownBy_alloc _ _ none)) hg (HYP.out p HPB.out); clear hg)
      | (go_at_call 49; refine calls_at w1 (by with_reducible rfl) ?_; have hU := union_one p c n m s (w.heap.size + 1 + 1) w1 HCP.out (SetM_kept HS.out (grown_trans HW.out HGc.out)) (by { have h1 := SetM_lt HS.out; have h2 := HPB.out; omega }) HSL.out.2 HSL.out.1 z HZE.out _ rfl; refine Calls.mono hU ?_; clear hU; rintro e w2 ⟨rfl, _, hg⟩; have HGc : Hid (((w.alloc (.cells #[.pointer (some ⟨b, 0, none⟩)] 51)).alloc (.cells #[.pointer (some ⟨c, 0, none⟩)] 51)).grownBy w2 none) := grown_at HGc.out hg (HYP.out p HPB.out); clear hg)
      | (go_at_call 65; refine calls_at (((w.alloc (.cells #[.pointer (some ⟨b, 0, none⟩)] 51)).alloc (.cells #[.pointer (some ⟨c, 0, none⟩)] 51)).alloc (.cells #[.pointer (some ⟨c, 0, none⟩)] 49)).drew (by with_reducible rfl) ?_; have hC := B.copy_any _ n m ((((w.alloc (.cells #[.pointer (some ⟨b, 0, none⟩)] 51)).alloc (.cells #[.pointer (some ⟨c, 0, none⟩)] 51)).alloc (.cells #[.pointer (some ⟨c, 0, none⟩)] 49)).drew) (SetM_kept HM.out (grown_trans HW.out (grown_trans HGc.out (HDR.out)))); refine Calls.mono hC ?_; clear hC; rintro e w1 ⟨p, rfl, hp, hr, hb⟩; have HCP : Hid (B.SetM w1 (some ⟨p, 0, none⟩) n m) := B.SetM.of hr HM.out.1 HM.out.2.1; have HPB : Hid (w.heap.size + 2 ≤ p) := by { have h9 := hp; simp at h9; show _ ≤ _; omega }; have HSL : Hid (w1.cell? ⟨w.heap.size + 1 + 1, 0, none⟩ = some (.pointer (some ⟨c, 0, none⟩)) ∧ w.heap.size + 1 + 1 ≠ p) := ⟨(World.cell?_of_block (hb.block _ (by simp))).trans (HNEW.out), by { have h9 := hp; simp at h9; omega }⟩; have HGc : Hid (((w.alloc (.cells #[.pointer (some ⟨b, 0, none⟩)] 51)).alloc (.cells #[.pointer (some ⟨c, 0, none⟩)] 51)).grownBy w1 none) := grown_trans (grown_trans HGc.out HDR.out) (grown_of_below hb); clear hp hr hb)))
  all_goals go_wp2_with fail
  all_goals go_ret
  all_goals exact ⟨rfl, grown_trans HW.out HGc.out⟩

end Go.Proofs.Ytmkimeojcpadpaa

/-
  reach: the document's Fits; rows of marks.
-/
namespace Go.Proofs.Ytmkimeojcpadpaa
open Go.RowKit Go.Maps Go.Shelf

attribute [local go_sem] Oper.semAt_some

/-- A row of marks, whole in block k. -/
def boolsL (n : Nat) (f : Nat → Bool) : List Value := (List.range n).map fun i => Value.bool (f i)
def BoolAt (w : World) (k n : Nat) (f : Nat → Bool) : Prop := w.heap[k]? = some (.cells (boolsL n f).toArray 4 (0, 0))
theorem boolsL_length (n : Nat) (f : Nat → Bool) : (boolsL n f).length = n := by simp [boolsL]
theorem BoolAt.cell {w : World} {k n : Nat} {f : Nat → Bool} (h : BoolAt w k n f) (i : Nat) (hi : i < n) : w.cell? ⟨k, i, none⟩ = some (.bool (f i)) := by
  rw [cell_of_row _ _ _ _ _ _ h]; simp [boolsL, hi]
theorem BoolAt.free {w : World} {k n : Nat} {f : Nat → Bool} (h : BoolAt w k n f) (i : Nat) : w.frozen? ⟨k, i, none⟩ = false := frozen_of_row _ _ _ _ _ h
theorem BoolAt.lt {w : World} {k n : Nat} {f : Nat → Bool} (h : BoolAt w k n f) : k < w.heap.size := (Array.getElem?_eq_some_iff.1 h).1
theorem BoolAt.kept {w w' : World} {k n : Nat} {f : Nat → Bool} (h : BoolAt w k n f) (hg : w.grownBy w' none) : BoolAt w' k n f := (hg.block k h.lt (by simp)).trans h
theorem BoolAt.at {w w' : World} {k c n : Nat} {f : Nat → Bool} (h : BoolAt w k n f) (hg : w.grownBy w' (some c)) (hne : k ≠ c) : BoolAt w' k n f := (hg.block k h.lt (by simpa using hne)).trans h
/-- The marks with one more. -/
def mark (f : Nat → Bool) (x : Nat) (b : Bool) : Nat → Bool := fun i => if i = x then b else f i
theorem BoolAt.set {w : World} {k n : Nat} {f : Nat → Bool} (h : BoolAt w k n f) (x : Nat) (b : Bool) : BoolAt (w.setCell ⟨k, x, none⟩ (.bool b)) k n (mark f x b) := by
  unfold BoolAt
  rw [heap_setCell_same _ _ _ _ _ _ h]
  congr 2
  apply Array.ext'
  apply List.ext_getElem?
  intro i
  simp only [Array.toList_setIfInBounds, boolsL, mark, List.getElem?_set, List.getElem?_map]
  by_cases hi : i < n
  · by_cases e : x = i
    · subst e; simp [hi]
    · have e2 : ¬ i = x := fun h => e h.symm
      simp [e, e2, hi]
  · by_cases e : x = i
    · subst e; simp [hi]
    · simp [e, hi]

theorem int_mem {l : List Int} {k : Nat} (h : k < l.length) : l.getD k 0 ∈ l := by
  rw [List.getD_eq_getElem?_getD, List.getElem?_eq_getElem h, Option.getD_some]; exact List.getElem_mem h

/-- Are all nonterminals of a row marked? -/
def fitsP (tn : Nat) (f : Nat → Bool) (l : List Int) : Prop := ∀ x ∈ l, (tn : Int) ≤ x → f (x - tn).toNat = true

set_option maxRecDepth 100000 in
set_option maxHeartbeats 1000000 in
theorem rfits_any (ta na la pa ra : Option Addr) (tn nn ln n tc nc lc pc rc km : Nat) (st : Int) (f : Nat → Bool) (l : List Int) (w : World) (hB : BoolAt w km nn f) (hl : IntsAt w ra l) (hlen : l.length ≤ 17592186044416) (hnn : nn ≤ 1000) (hx : ∀ x ∈ l, 0 ≤ x ∧ x < ((tn + nn : Nat) : Int)) (r : Bool) (hr : r = true ↔ fitsP tn f l) :
    Calls Try.prog 35 #[.agg #[.slice ta tn tc, .slice na nn nc, .slice la ln lc, .int .i64 st, .slice pa n pc], .slice (some ⟨km, 0, none⟩) nn nn, .slice ra l.length rc] w fun e w' => e = .returned (.bool r) ∧ w.grownBy w' none := by
  have HB : Hid (BoolAt w km nn f) := hB
  have HL : Hid (IntsAt w ra l) := hl
  have HXX : Hid (∀ x ∈ l, 0 ≤ x ∧ x < ((tn + nn : Nat) : Int)) := hx
  have HR : Hid (r = true ↔ fitsP tn f l) := hr
  have HX0 : Hid (PhAt w (w.alloc (.cells #[.slice ta tn tc, .slice na nn nc, .slice la ln lc, .int .i64 st, .slice pa n pc] 27)) w.heap.size #[.slice ta tn tc, .slice na nn nc, .slice la ln lc, .int .i64 st, .slice pa n pc]) := ⟨World.grownBy_alloc _ _ none, heap_alloc_last w _⟩
  clear hB hl hx hr
  obtain ⟨m, hm⟩ : ∃ m, m = l.length := ⟨_, rfl⟩
  rw [← hm] at hlen ⊢
  have HM : Hid (m = l.length) := hm
  clear hm
  go_enter Try.func35, Try.ntmps35
  go_wp2_with fail
  go_loopg [7] m (fun gk i wr => ∃ k : Nat, k ≤ m ∧ gk = m - k ∧ i = .int .i64 k ∧ PhAt w wr w.heap.size #[.slice ta tn tc, .slice na nn nc, .slice la ln lc, .int .i64 st, .slice pa n pc] ∧ ∀ j, j < k → (tn : Int) ≤ l.getD j 0 → f (l.getD j 0 - tn).toNat = true)
  case atStart => exact ⟨0, Nat.zero_le _, rfl, rfl, HX0.out, fun j h1 => by omega⟩
  case round =>
    obtain ⟨k, hk, hgk, rfl, hX, hall⟩ := hrel
    have HX : Hid (PhAt w wr w.heap.size #[.slice ta tn tc, .slice na nn nc, .slice la ln lc, .int .i64 st, .slice pa n pc]) := hX
    have HA : Hid (∀ j, j < k → (tn : Int) ≤ l.getD j 0 → f (l.getD j 0 - tn).toNat = true) := hall
    have HGK : Hid (gk = m - k) := hgk
    clear hX hall hgk HX0
    obtain ⟨m0, m1, m2, m3, m4⟩ := HX.out.cells
    by_cases hlt : k < m
    · obtain ⟨b, off, rfl, hcs⟩ : ∃ b off, ra = some ⟨b, off, none⟩ ∧ ∀ i, i < l.length → w.cell? ⟨b, off + i, none⟩ = some (.int .i64 (l.getD i 0)) := by
        rcases HL.out with h | h
        · have := HM.out; rw [h] at this; simp at this; omega
        · exact h
      have c0 := HX.out.grown.cell (hcs k (by rw [← HM.out]; exact hlt)) (by simp)
      have hxx := HXX.out _ (int_mem (by rw [← HM.out]; exact hlt) : l.getD k 0 ∈ l)
      have HST : Hid (((tn : Int) ≤ l.getD k 0 → f (l.getD k 0 - tn).toNat = true) → ∀ j, j < k + 1 → (tn : Int) ≤ l.getD j 0 → f (l.getD j 0 - tn).toNat = true) := fun h j hj => by
        by_cases e : j = k
        · rw [e]; exact h
        · exact HA.out j (by omega)
      have HNO : Hid (¬ ((tn : Int) ≤ l.getD k 0 → f (l.getD k 0 - tn).toNat = true) → r = false) := fun h => Bool.eq_false_iff.2 fun hh => h (HR.out.1 hh _ (int_mem (by rw [← HM.out]; exact hlt)))
      generalize l.getD k 0 = x at c0 hxx HST HNO
      clear hcs
      obtain ⟨y, rfl⟩ := Int.eq_ofNat_of_zero_le hxx.1
      have hyn : y < tn + nn := by omega
      clear hxx
      have hk0 : (0 : Int) ≤ (k : Int) := by omega
      have hk1 : (k : Int) < (m : Int) := by omega
      by_cases hq : tn ≤ y
      · obtain ⟨v, hvy⟩ : ∃ v, y = tn + v := ⟨y - tn, by omega⟩
        have hv : v < nn := by omega
        have b0 := (HB.out.kept HX.out.grown).cell v hv
        have ev : ((y : Int) - (tn : Int)).toNat = v := by omega
        rw [ev] at HST HNO
        have d1 : decide ((tn : Int) ≤ (y : Int)) = true := decide_eq_true (by omega)
        have d1n : decide (tn ≤ y) = true := decide_eq_true hq
        have d2 : (y : Int) - (tn : Int) = (v : Int) := by omega
        have hv0 : (0 : Int) ≤ (v : Int) := by omega
        have hv1 : (v : Int) < (nn : Int) := by omega
        have d3 : IntKind.i64.wrap (v : Int) = (v : Int) := by rw [IntKind.wrap_i64]; omega
        have HQ : Hid (tn ≤ y) := hq
        clear ev hvy hq
        cases hfv : f v with
        | true =>
          rw [hfv] at b0
          have HFV : Hid (f v = true) := hfv
          clear hfv
          go_wp2_with fail
          go_quiet (fail)
          go_wp2_with fail
          go_roundg (m - (k + 1))
          case measure => have := HGK.out; omega
          case rel => exact ⟨k + 1, by omega, rfl, by go_num, HX.out.kept (grown_drewN _ _), HST.out (fun _ => HFV.out)⟩
        | false =>
          rw [hfv] at b0
          have hf := HNO.out (fun h => by have := h (by have := HQ.out; omega); rw [hfv] at this; cases this)
          clear hfv
          go_wp2_with fail
          go_quiet (fail)
          go_wp2_with fail
          go_ret
          exact ⟨by first | rfl | (rw [hf]; rfl), grown_trans HX.out.grown (grown_drewN _ _)⟩
      · have d1 : decide ((tn : Int) ≤ (y : Int)) = false := decide_eq_false (by omega)
        have d1n : decide (tn ≤ y) = false := decide_eq_false hq
        have HQ : Hid (¬ tn ≤ y) := hq
        clear hq
        go_wp2_with fail
        go_quiet (fail)
        go_wp2_with fail
        go_roundg (m - (k + 1))
        case measure => have := HGK.out; omega
        case rel => exact ⟨k + 1, by omega, rfl, by go_num, HX.out.kept (grown_drewN _ _), HST.out (fun h => absurd (by omega) HQ.out)⟩
    · have hkm : k = m := by omega
      subst hkm
      have hf : r = true := HR.out.2 fun x hx hle => by
        obtain ⟨i, hi, rfl⟩ := List.getElem_of_mem hx
        have := HA.out i (by rw [HM.out]; exact hi)
        rw [List.getD_eq_getElem?_getD, List.getElem?_eq_getElem hi, Option.getD_some] at this
        exact this hle
      go_wp2_with fail
      go_ret
      exact ⟨by first | rfl | (rw [hf]; rfl), HX.out.grown⟩

end Go.Proofs.Ytmkimeojcpadpaa

/-
  reach, pure: rounds of steps until a round turns nothing.
-/
namespace Go.Proofs.Ytmkimeojcpadpaa

section
variable {σ : Type} (step : Nat → σ → σ) (chg : Nat → σ → Bool)
/-- The first n steps of a round. -/
def rnd : Nat → σ → σ
  | 0, s => s
  | n + 1, s => step n (rnd n s)
/-- Did one of them turn anything? -/
def rchg : Nat → σ → Bool
  | 0, _ => false
  | n + 1, s => rchg n s || chg n (rnd step n s)
/-- So many rounds. -/
def itr (n : Nat) : Nat → σ → σ
  | 0, s => s
  | t + 1, s => rnd step n (itr n t s)
/-- What rounds come to, once one has turned nothing. -/
def Fix (n : Nat) (s0 F : σ) : Prop := ∃ t, F = itr step n t s0 ∧ rchg step chg n F = false

theorem rnd_same (h : ∀ k s, chg k s = false → step k s = s) (s : σ) : ∀ n, rchg step chg n s = false → rnd step n s = s
  | 0, _ => rfl
  | n + 1, hn => by
    simp only [rchg, Bool.or_eq_false_iff] at hn
    have e := rnd_same h s n hn.1
    simp only [rnd]
    rw [h n _ hn.2, e]

theorem itr_stay (h : ∀ k s, chg k s = false → step k s = s) (n : Nat) (s0 : σ) (t : Nat) (hf : rchg step chg n (itr step n t s0) = false) : ∀ d, itr step n (t + d) s0 = itr step n t s0
  | 0 => rfl
  | d + 1 => by
    show rnd step n (itr step n (t + d) s0) = _
    rw [itr_stay h n s0 t hf d]
    exact rnd_same step chg h _ n hf

theorem Fix.unique (h : ∀ k s, chg k s = false → step k s = s) {n : Nat} {s0 F F' : σ} (h1 : Fix step chg n s0 F) (h2 : Fix step chg n s0 F') : F = F' := by
  obtain ⟨t, rfl, f1⟩ := h1
  obtain ⟨t', rfl, f2⟩ := h2
  rcases Nat.le_total t t' with hle | hle
  · obtain ⟨d, rfl⟩ := Nat.le.dest hle
    exact (itr_stay step chg h n s0 t f1 d).symm
  · obtain ⟨d, rfl⟩ := Nat.le.dest hle
    exact itr_stay step chg h n s0 t' f2 d
end

/-- How many of the first n are not marked. -/
def un : Nat → (Nat → Bool) → Nat
  | 0, _ => 0
  | n + 1, f => un n f + (if f n then 0 else 1)
theorem un_out (f : Nat → Bool) (x : Nat) (b : Bool) : ∀ n, n ≤ x → un n (mark f x b) = un n f
  | 0, _ => rfl
  | n + 1, h => by
    have e : mark f x b n = f n := by unfold mark; rw [if_neg (by omega)]
    simp only [un, un_out f x b n (by omega), e]
theorem un_mark (f : Nat → Bool) (x : Nat) (hf : f x = false) : ∀ n, x < n → un n (mark f x true) + 1 = un n f
  | 0, h => by omega
  | n + 1, h => by
    by_cases e : x = n
    · subst e
      have e1 : mark f x true x = true := by simp [mark]
      simp [un, un_out f x true x (Nat.le_refl _), e1, hf]
    · have e1 : mark f x true n = f n := by unfold mark; rw [if_neg (fun h => e h.symm)]
      have ih := un_mark f x hf n (by omega)
      simp only [un, e1]
      omega
theorem un_le (f : Nat → Bool) : ∀ n, un n f ≤ n
  | 0 => Nat.le_refl _
  | n + 1 => by have := un_le f n; simp only [un]; split <;> omega

/-- Are all nonterminals of a row marked? -/
def fitsB (tn : Nat) (f : Nat → Bool) (l : List Int) : Bool := l.all fun x => decide (x < (tn : Int)) || f (x - tn).toNat
theorem fitsB_iff (tn : Nat) (f : Nat → Bool) (l : List Int) : fitsB tn f l = true ↔ fitsP tn f l := by
  unfold fitsB fitsP
  rw [List.all_eq_true]
  refine forall_congr' fun x => forall_congr' fun _ => ?_
  by_cases h : x < (tn : Int)
  · simp [h]; omega
  · simp [h]; omega

/-- A production's step: its left side is marked, if all of its right side is. -/
def chM (tn : Nat) (L : Nat → Int) (R : Nat → List Int) (k : Nat) (f : Nat → Bool) : Bool := !f (L k - tn).toNat && fitsB tn f (R k)
def stM (tn : Nat) (L : Nat → Int) (R : Nat → List Int) (k : Nat) (f : Nat → Bool) : Nat → Bool := if chM tn L R k f = true then mark f (L k - tn).toNat true else f
theorem stM_same (tn : Nat) (L : Nat → Int) (R : Nat → List Int) (k : Nat) (f : Nat → Bool) (h : chM tn L R k f = false) : stM tn L R k f = f := by unfold stM; rw [if_neg (by rw [h]; simp)]
theorem un_rnd (tn nn : Nat) (L : Nat → Int) (R : Nat → List Int) (f : Nat → Bool) : ∀ n, (∀ k, k < n → (tn : Int) ≤ L k ∧ L k < ((tn + nn : Nat) : Int)) → un nn (rnd (stM tn L R) n f) + (rchg (stM tn L R) (chM tn L R) n f).toNat ≤ un nn f
  | 0, _ => by simp [rnd, rchg]
  | n + 1, h => by
    have ih := un_rnd tn nn L R f n fun k hk => h k (by omega)
    obtain ⟨h1, h2⟩ := h n (by omega)
    simp only [rnd, rchg]
    generalize rnd (stM tn L R) n f = g at *
    cases hc : chM tn L R n g with
    | false => rw [stM_same _ _ _ _ _ hc, Bool.or_false]; exact ih
    | true =>
      have hg : g (L n - tn).toNat = false := by
        unfold chM at hc
        rw [Bool.and_eq_true, Bool.not_eq_true'] at hc
        exact hc.1
      have := un_mark g _ hg nn (by omega)
      unfold stM
      rw [if_pos hc, Bool.or_true]
      simp only [Bool.toNat_true]
      omega

end Go.Proofs.Ytmkimeojcpadpaa

/-
  reach: the document's Marks.
-/
namespace Go.Proofs.Ytmkimeojcpadpaa
open Go.RowKit Go.Maps Go.Shelf

attribute [local go_sem] Oper.semAt_some

theorem infoBool : (Try.prog.info? 4).map (fun i => (i.zero, i.size, i.bytes)) = some (some (.bool false), 1, 1) := by kernel_rfl
theorem made_bools {w w1 : World} {B n : Nat} (h : w1.ownsRow B 4 1 (.slice (some ⟨w.heap.size, 0, none⟩) n n) n (madeCells (Value.bool false).cells (n * 1)).toList) : BoolAt w1 w.heap.size n (fun _ => false) := by
  rcases h.2 with ⟨h', _⟩ | ⟨g, cap, cur, hv, _, hh, _, _, hs, ht⟩
  · cases h'
  · simp only [Value.slice.injEq, Option.some.injEq, Addr.mk.injEq, and_true, true_and] at hv
    obtain ⟨rfl, rfl⟩ := hv
    have e : cur = (boolsL n (fun _ => false)).toArray := by
      apply Array.ext'
      rw [show cur.toList = cur.toList.take (n * 1) by rw [List.take_of_length_le (by simp; omega)], ht]
      rw [show (Value.bool false).cells = #[.bool false] from rfl, toList_madeCells_one, Nat.mul_one]
      unfold boolsL
      rw [List.map_const', List.length_range]
    unfold BoolAt
    rw [hh, e]

/-- While the marks of a grammar are made: its box, and the row. -/
structure MkAt (w wr : World) (cs : Array Value) (km nn : Nat) (f : Nat → Bool) : Prop where
  ph : PhAt w wr w.heap.size cs
  row : BoolAt wr km nn f
  lo : w.heap.size + 1 ≤ km
section
variable {w wr wx : World} {cs : Array Value} {km nn : Nat} {f : Nat → Bool}
theorem MkAt.kept (h : MkAt w wr cs km nn f) (hg : wr.grownBy wx none) : MkAt w wx cs km nn f := ⟨h.ph.kept hg, h.row.kept hg, h.lo⟩
theorem MkAt.set (h : MkAt w wr cs km nn f) (x : Nat) (b : Bool) : MkAt w (wr.setCell ⟨km, x, none⟩ (.bool b)) cs km nn (mark f x b) := ⟨h.ph.keptRow (grown_setCell _ _ _) h.lo, h.row.set x b, h.lo⟩
end

/-- The marks of the productive ones, in block k. -/
def MadeM (w : World) (k nn tn n : Nat) (L : Nat → Int) (R : Nat → List Int) : Prop := ∃ F, BoolAt w k nn F ∧ Fix (stM tn L R) (chM tn L R) n (fun _ => false) F

set_option maxRecDepth 100000 in
set_option maxHeartbeats 1000000 in
theorem rmarks_any (ta na la pa : Option Addr) (tn nn ln n tc nc lc pc : Nat) (st : Int) (L : Nat → Int) (R : Nat → List Int) (ra : Nat → Option Addr) (rc : Nat → Nat) (V : Nat → Int) (w : World) (hP : ProdsAt w pa n L R ra rc V) (hn : n ≤ 97) (hnn : nn ≤ 66)
    (hL : ∀ k, k < n → (tn : Int) ≤ L k ∧ L k < ((tn + nn : Nat) : Int)) (hR : ∀ k, k < n → ∀ x ∈ R k, 0 ≤ x ∧ x < ((tn + nn : Nat) : Int)) :
    Calls Try.prog 25 #[.agg #[.slice ta tn tc, .slice na nn nc, .slice la ln lc, .int .i64 st, .slice pa n pc]] w fun e w' => ∃ k, e = .returned (.slice (some ⟨k, 0, none⟩) nn nn) ∧ w.heap.size ≤ k ∧ MadeM w' k nn tn n L R ∧ w.grownBy w' none := by
  have HP : Hid (ProdsAt w pa n L R ra rc V) := hP
  have HL : Hid (∀ k, k < n → (tn : Int) ≤ L k ∧ L k < ((tn + nn : Nat) : Int)) := hL
  have HR : Hid (∀ k, k < n → ∀ x ∈ R k, 0 ≤ x ∧ x < ((tn + nn : Nat) : Int)) := hR
  have HX0 : Hid (PhAt w (w.alloc (.cells #[.slice ta tn tc, .slice na nn nc, .slice la ln lc, .int .i64 st, .slice pa n pc] 27)) w.heap.size #[.slice ta tn tc, .slice na nn nc, .slice la ln lc, .int .i64 st, .slice pa n pc]) := ⟨World.grownBy_alloc _ _ none, heap_alloc_last w _⟩
  clear hP hL hR
  obtain ⟨i0, hi, hz0, hz1, hz2⟩ := info_parts infoBool
  go_enter Try.func25, Try.ntmps25
  go_wp2_with (at_make; refine wpList_make_full _ rfl _ _ 29 rfl (w.heap.size + 1) 4 i0 (.bool false) 1 Try.underlying29 hi hz0 hz1 .i64 .i64 _ _ nn rfl rfl (by simp) (by simp) (by rw [hz2]; omega) (by unfold maxLen; omega) (by simp) ?_)
  intro w1 hown hgrow
  have hmk : MkAt w w1 #[.slice ta tn tc, .slice na nn nc, .slice la ln lc, .int .i64 st, .slice pa n pc] (w.heap.size + 1) nn (fun _ => false) := by
    refine ⟨HX0.out.kept hgrow, ?_, Nat.le_refl _⟩
    have h9 := made_bools (w := w.alloc (.cells #[.slice ta tn tc, .slice na nn nc, .slice la ln lc, .int .i64 st, .slice pa n pc] 27)) (w1 := w1) (B := w.heap.size + 1) (n := nn) (by simpa [Value.cells] using hown)
    simpa using h9
  have HMK : Hid (MkAt w w1 #[.slice ta tn tc, .slice na nn nc, .slice la ln lc, .int .i64 st, .slice pa n pc] (w.heap.size + 1) nn (fun _ => false)) := hmk
  clear hown hgrow hmk HX0 hi hz0 hz1 hz2
  go_wp2_with fail
  go_loopg [4] (un nn (fun _ => false) + 1) (fun gk a wr => ∃ (b : Bool) (t : Nat) (f : Nat → Bool), a = .bool b ∧ f = itr (stM tn L R) n t (fun _ => false) ∧ (b = false → rchg (stM tn L R) (chM tn L R) n f = false) ∧ gk = (if b = true then un nn f + 1 else 0) ∧ MkAt w wr #[.slice ta tn tc, .slice na nn nc, .slice la ln lc, .int .i64 st, .slice pa n pc] (w.heap.size + 1) nn f)
  case atStart => exact ⟨true, 0, fun _ => false, rfl, rfl, by simp, by simp, HMK.out⟩
  case round =>
    obtain ⟨b, t, f, rfl, hf, hbf, hgk, hM⟩ := hrel
    have HF : Hid (f = itr (stM tn L R) n t (fun _ => false)) := hf
    have HBF : Hid (b = false → rchg (stM tn L R) (chM tn L R) n f = false) := hbf
    have HGK : Hid (gk = (if b = true then un nn f + 1 else 0)) := hgk
    have HM : Hid (MkAt w wr #[.slice ta tn tc, .slice na nn nc, .slice la ln lc, .int .i64 st, .slice pa n pc] (w.heap.size + 1) nn f) := hM
    clear hf hbf hgk hM HMK
    cases b with
    | false =>
      go_wp2_with fail
      go_ret
      exact ⟨w.heap.size + 1, rfl, by omega, ⟨f, HM.out.row, t, HF.out, HBF.out (by first | rfl | trivial)⟩, HM.out.ph.grown⟩
    | true =>
      generalize wr = W0 at *
      go_wp2_with fail
      go_loopg [4, 5] n (fun gx a i wx => ∃ k : Nat, k ≤ n ∧ gx = n - k ∧ i = .int .i64 k ∧ a = .bool (rchg (stM tn L R) (chM tn L R) k f) ∧ MkAt w wx #[.slice ta tn tc, .slice na nn nc, .slice la ln lc, .int .i64 st, .slice pa n pc] (w.heap.size + 1) nn (rnd (stM tn L R) k f))
      case atStart => exact ⟨0, Nat.zero_le _, rfl, rfl, rfl, HM.out⟩
      case round =>
        obtain ⟨k, hk, hgx, rfl, rfl, hN⟩ := hrel
        have HGX : Hid (gk = n - k) := hgx
        clear hgx HM
        have HN0 : Hid (MkAt w wr #[.slice ta tn tc, .slice na nn nc, .slice la ln lc, .int .i64 st, .slice pa n pc] (w.heap.size + 1) nn (rnd (stM tn L R) k f)) := hN
        clear hN
        obtain ⟨m0, m1, m2, m3, m4⟩ := HN0.out.ph.cells
        by_cases hlt : k < n
        · obtain ⟨bp, off, rfl, hcs⟩ : ∃ b off, pa = some ⟨b, off, none⟩ ∧ ∀ k, k < n → w.cell? ⟨b, off + k * 3, none⟩ = some (.int .i64 (L k)) ∧ w.cell? ⟨b, off + k * 3 + 1, none⟩ = some (.slice (ra k) (R k).length (rc k)) ∧ w.cell? ⟨b, off + k * 3 + 2, none⟩ = some (.int .i64 (V k)) ∧ IntsAt w (ra k) (R k) ∧ (ra k = none → rc k = 0) ∧ (R k).length ≤ 17592186044416 := by
            rcases HP.out with h | h
            · omega
            · exact h
          obtain ⟨h1, h2, h3, hI, _, hlen⟩ := hcs k hlt
          have c0 := HN0.out.ph.grown.cell h1 (by simp)
          have c1 := HN0.out.ph.grown.cell h2 (by simp)
          have c2 := HN0.out.ph.grown.cell h3 (by simp)
          obtain ⟨hl1, hl2⟩ := HL.out k hlt
          obtain ⟨v, hv⟩ : ∃ v : Nat, L k = ((tn + v : Nat) : Int) := ⟨(L k - tn).toNat, by omega⟩
          have hvn : v < nn := by omega
          have ev : (L k - (tn : Int)).toNat = v := by omega
          have HCH : Hid (∀ g, chM tn L R k g = (!g v && fitsB tn g (R k))) := fun g => by unfold chM; rw [ev]
          have HSTp : Hid (∀ g, chM tn L R k g = true → stM tn L R k g = mark g v true) := fun g hg => by unfold stM; rw [if_pos hg, ev]
          obtain ⟨y, hy⟩ : ∃ y, y = tn + v := ⟨_, rfl⟩
          rw [hv, ← hy] at c0
          have d2 : (y : Int) - (tn : Int) = (v : Int) := by omega
          have d3 : IntKind.i64.wrap (v : Int) = (v : Int) := by rw [IntKind.wrap_i64]; omega
          have hv0 : (0 : Int) ≤ (v : Int) := by omega
          have hv1 : (v : Int) < (nn : Int) := by omega
          have HFT : Hid (∀ X, w.grownBy X none → ∀ g, BoolAt X (w.heap.size + 1) nn g → Calls Try.prog 35 #[.agg #[.slice ta tn tc, .slice na nn nc, .slice la ln lc, .int .i64 st, .slice (some ⟨bp, off, none⟩) n pc], .slice (some ⟨w.heap.size + 1, 0, none⟩) nn nn, .slice (ra k) (R k).length (rc k)] X fun e w' => e = .returned (.bool (fitsB tn g (R k))) ∧ X.grownBy w' none) := fun X hX g hB =>
            rfits_any ta na la (some ⟨bp, off, none⟩) (ra k) tn nn ln n tc nc lc pc (rc k) (w.heap.size + 1) st g (R k) X hB (hI.kept hX) hlen (by omega) (HR.out k hlt) _ (fitsB_iff tn g (R k))
          have HRS : Hid (rnd (stM tn L R) (k + 1) f = stM tn L R k (rnd (stM tn L R) k f) ∧ rchg (stM tn L R) (chM tn L R) (k + 1) f = (rchg (stM tn L R) (chM tn L R) k f || chM tn L R k (rnd (stM tn L R) k f))) := ⟨rfl, rfl⟩
          obtain ⟨g, hg⟩ : ∃ g, g = rnd (stM tn L R) k f := ⟨_, rfl⟩
          obtain ⟨ch, hch⟩ : ∃ ch, ch = rchg (stM tn L R) (chM tn L R) k f := ⟨_, rfl⟩
          rw [← hg] at HRS
          have HNG : Hid (MkAt w wr #[.slice ta tn tc, .slice na nn nc, .slice la ln lc, .int .i64 st, .slice (some ⟨bp, off, none⟩) n pc] (w.heap.size + 1) nn g) := by rw [hg]; exact HN0.out
          rw [← hch] at HRS ⊢
          have HFG := HFT.out
          obtain ⟨fb, hfb⟩ : ∃ fb, fb = fitsB tn g (R k) := ⟨_, rfl⟩
          have HCB : Hid (chM tn L R k g = (!g v && fb)) := by rw [hfb]; exact HCH.out g
          have HF2 : Hid (∀ X, w.grownBy X none → BoolAt X (w.heap.size + 1) nn g → Calls Try.prog 35 #[.agg #[.slice ta tn tc, .slice na nn nc, .slice la ln lc, .int .i64 st, .slice (some ⟨bp, off, none⟩) n pc], .slice (some ⟨w.heap.size + 1, 0, none⟩) nn nn, .slice (ra k) (R k).length (rc k)] X fun e w' => e = .returned (.bool fb) ∧ X.grownBy w' none) := fun X hX hB => by rw [hfb]; exact HFT.out X hX g hB
          have b0 := HNG.out.row.cell v hvn
          obtain ⟨z, hz⟩ : ∃ z, z = V k := ⟨_, rfl⟩
          rw [← hz] at c2
          obtain ⟨al, hal⟩ : ∃ al, al = ra k := ⟨_, rfl⟩
          obtain ⟨rl, hrl⟩ : ∃ rl, rl = (R k).length := ⟨_, rfl⟩
          obtain ⟨cl, hcl⟩ : ∃ cl, cl = rc k := ⟨_, rfl⟩
          rw [← hal, ← hrl, ← hcl] at c1 HF2
          have HN1 : Hid (MkAt w (wr.alloc (.cells #[.int .i64 (y : Int), .slice al rl cl, .int .i64 z] 45)) #[.slice ta tn tc, .slice na nn nc, .slice la ln lc, .int .i64 st, .slice (some ⟨bp, off, none⟩) n pc] (w.heap.size + 1) nn g ∧ (wr.alloc (.cells #[.int .i64 (y : Int), .slice al rl cl, .int .i64 z] 45)).heap[wr.heap.size]? = some (.cells #[.int .i64 (y : Int), .slice al rl cl, .int .i64 z] 45 (0, 0))) := ⟨HNG.out.kept (World.grownBy_alloc _ _ none), heap_alloc_last wr _⟩
          clear hcs h1 h2 h3 hI hlen hl1 hl2 hv ev HCH HFT HFG hg hch hfb hz hal hrl hcl hy HN0
          obtain ⟨n0, n1, n2, n3, n4⟩ := HN1.out.1.ph.cells
          have q0 : (wr.alloc (.cells #[.int .i64 (y : Int), .slice al rl cl, .int .i64 z] 45)).cell? ⟨wr.heap.size, 0, none⟩ = some (.int .i64 (y : Int)) := by rw [cell_of_row _ _ _ _ _ _ HN1.out.2]; rfl
          have q1 : (wr.alloc (.cells #[.int .i64 (y : Int), .slice al rl cl, .int .i64 z] 45)).cell? ⟨wr.heap.size, 1, none⟩ = some (.slice al rl cl) := by rw [cell_of_row _ _ _ _ _ _ HN1.out.2]; rfl
          have b1 := HN1.out.1.row.cell v hvn
          have HBX : Hid ((wr.alloc (.cells #[.int .i64 (y : Int), .slice al rl cl, .int .i64 z] 45)).heap[w.heap.size]? = some (.cells #[.slice ta tn tc, .slice na nn nc, .slice la ln lc, .int .i64 st, .slice (some ⟨bp, off, none⟩) n pc] 27 (0, 0))) := HN1.out.1.ph.box
          cases hgv : g v with
          | true =>
            rw [hgv] at b0 b1
            have HE : Hid (chM tn L R k g = false) := by rw [HCB.out, hgv]; exact rfl
            clear hgv
            go_wp2_with fail
            go_roundg (n - (k + 1))
            case measure => have := HGX.out; omega
            case rel => exact ⟨k + 1, by omega, rfl, by go_num, by rw [HRS.out.2, HE.out, Bool.or_false], by rw [HRS.out.1, stM_same _ _ _ _ _ HE.out]; exact HN1.out.1⟩
          | false =>
            rw [hgv] at b0 b1
            have HGV : Hid (g v = false) := hgv
            clear hgv
            go_wp2_with (refine wpList_load_row rfl 27 _ rfl w.heap.size rfl 27 #[.slice ta tn tc, .slice na nn nc, .slice la ln lc, .int .i64 st, .slice (some ⟨bp, off, none⟩) n pc] (0, 0) _ HBX.out Try.underlying27 rfl (by kernel_rfl) ?_)
            refine Calls.mono (HF2.out _ HN1.out.1.ph.grown HN1.out.1.row) ?_
            rintro e w5 ⟨rfl, hg5⟩
            have HN2 : Hid (MkAt w w5 #[.slice ta tn tc, .slice na nn nc, .slice la ln lc, .int .i64 st, .slice (some ⟨bp, off, none⟩) n pc] (w.heap.size + 1) nn g) := HN1.out.1.kept hg5
            have hb5 := (hg5.block _ (Array.getElem?_eq_some_iff.1 HN1.out.2).1 (by simp)).trans HN1.out.2
            have e0 : w5.cell? ⟨wr.heap.size, 0, none⟩ = some (.int .i64 (y : Int)) := by rw [cell_of_row _ _ _ _ _ _ hb5]; rfl
            obtain ⟨o0, o1, o2, o3, o4⟩ := HN2.out.ph.cells
            have b2 := HN2.out.row.cell v hvn
            have fz := HN2.out.row.free v
            clear hg5 hb5 n0 n1 n2 n3 n4 q0 q1 b0 b1 m0 m1 m2 m3 m4 c0 c1 c2
            cases fb with
            | true =>
              have HE : Hid (chM tn L R k g = true) := by rw [HCB.out, HGV.out]; exact rfl
              go_wp2_with fail
              go_roundg (n - (k + 1))
              case measure => have := HGX.out; omega
              case rel => exact ⟨k + 1, by omega, rfl, by go_num, by rw [HRS.out.2, HE.out, Bool.or_true], by rw [HRS.out.1, HSTp.out g HE.out]; exact HN2.out.set v true⟩
            | false =>
              have HE : Hid (chM tn L R k g = false) := by rw [HCB.out, Bool.and_false]; exact rfl
              go_wp2_with fail
              go_roundg (n - (k + 1))
              case measure => have := HGX.out; omega
              case rel => exact ⟨k + 1, by omega, rfl, by go_num, by rw [HRS.out.2, HE.out, Bool.or_false], by rw [HRS.out.1, stM_same _ _ _ _ _ HE.out]; exact HN2.out⟩
        · have hkn : k = n := by omega
          subst hkn
          have HUN := un_rnd tn nn L R f k (fun i hi => HL.out i hi)
          obtain ⟨g, hg⟩ : ∃ g, g = rnd (stM tn L R) k f := ⟨_, rfl⟩
          have HITR : Hid (g = itr (stM tn L R) k (t + 1) (fun _ => false)) := by rw [hg, HF.out]; exact rfl
          have HSAME : Hid (rchg (stM tn L R) (chM tn L R) k f = false → rchg (stM tn L R) (chM tn L R) k g = false) := fun h => by rw [hg, rnd_same _ _ (fun i s hs => stM_same tn L R i s hs) f k h]; exact h
          obtain ⟨ch, hch⟩ : ∃ ch, ch = rchg (stM tn L R) (chM tn L R) k f := ⟨_, rfl⟩
          have HNG : Hid (MkAt w wr #[.slice ta tn tc, .slice na nn nc, .slice la ln lc, .int .i64 st, .slice pa k pc] (w.heap.size + 1) nn g) := by rw [hg]; exact HN0.out
          rw [← hg, ← hch] at HUN
          rw [← hch] at HSAME ⊢
          have HUU : Hid (un nn g + ch.toNat ≤ un nn f) := HUN
          clear HUN hg hch HN0
          go_wp2_with fail
          go_roundg (if ch = true then un nn g + 1 else 0)
          case measure =>
            have h7 := HGK.out
            have h8 := HUU.out
            simp at h7
            cases ch with
            | true => simp at h8 ⊢; omega
            | false => simp; omega
          case rel => exact ⟨ch, t + 1, g, rfl, HITR.out, HSAME.out, rfl, HNG.out⟩

end Go.Proofs.Ytmkimeojcpadpaa
