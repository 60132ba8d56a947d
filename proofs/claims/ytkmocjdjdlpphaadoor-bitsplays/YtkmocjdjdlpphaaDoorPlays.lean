/-
  BitsPlays, walked: it answers true, and nothing that was there turns.
-/
import Derived.Test.YtkmocjdjdlpphaaDoorStepAny
namespace Go.Proofs.YtkmocjdjdlpphaaDoor
open Go.RowKit Go.Shelf

attribute [local go_sem] Oper.semAt_some

/-- A step as it lies in the memory. -/
structure OpD where
  kind : Int
  A : Int
  B : Int
  la : Option Addr
  lc : Nat
  l : List Int

structure OpD.ok (w : World) (o : OpD) : Prop where
  kindb : -9223372036854775808 ≤ o.kind ∧ o.kind ≤ 9223372036854775807
  Ab : -9223372036854775808 ≤ o.A ∧ o.A ≤ 9223372036854775807
  Bb : -9223372036854775808 ≤ o.B ∧ o.B ≤ 9223372036854775807
  ints : IntsAt w o.la o.l
  len : o.l.length ≤ 17592186043904
  all : ∀ x ∈ o.l, -9223372036854775808 ≤ x ∧ x ≤ 9223372036854775807

/-- The steps of a script lie where the slice leads to. -/
def OpsAt (w : World) (a : Option Addr) (n : Nat) (S : Nat → OpD) : Prop :=
  ∀ i, i < n → ∃ b off, a = some ⟨b, off, none⟩ ∧ w.cell? ⟨b, off + i * 4, none⟩ = some (.int .i64 (S i).kind) ∧ w.cell? ⟨b, off + i * 4 + 1, none⟩ = some (.int .i64 (S i).A) ∧ w.cell? ⟨b, off + i * 4 + 2, none⟩ = some (.int .i64 (S i).B) ∧ w.cell? ⟨b, off + i * 4 + 3, none⟩ = some (.slice (S i).la (S i).l.length (S i).lc) ∧ (S i).ok w

theorem pinv_start {w w1 : World} (hb : Below w.heap.size w w1) : PInv w (w1.alloc (.cells #[.slice none 0 0, .slice none 0 0] 28)) w1.heap.size 0 0 (.slice none 0 0) (.slice none 0 0) ⟨fun _ => 0, fun _ => 0, fun _ => 0, fun _ => 0, fun _ => 0, fun _ => 0⟩ :=
  ⟨hb.alloc hb.size _, heap_alloc_last w1 _, hb.size, World.ownsRow_nil _ _ _ _, World.ownsRow_nil _ _ _ _, fun j hj => absurd hj (Nat.not_lt_zero j), fun j hj => absurd hj (Nat.not_lt_zero j), fun j _ hj => absurd hj (Nat.not_lt_zero j), fun j _ hj => absurd hj (Nat.not_lt_zero j), ⟨by decide, by decide⟩⟩

theorem pinv_is {w V : World} {Bw N : Nat} {vx vr : Value} {F : Fam} (h : PInv w V Bw N N vx vr F) (hS : Same N F) {i : Nat} (hi : i < N) (hT : Tab w) (hw0 : 0 < w.heap.size) :
    Calls Tryd.prog 9 #[.pointer (some ⟨F.b i, 0, none⟩), .pointer (some ⟨F.br i, 0, none⟩)] V fun e w' => e = .returned (.bool true) ∧ PInv w w' Bw N N vx vr F := by
  have h2 := (h.refs i hi).2
  rw [← hS i hi] at h2
  refine (is_any (F.b i) (F.br i) (F.bi i) (F.n i) (F.mx i) V ⟨Below.refl _ _, (h.sets i hi).2, h2, hT.below h.bel hw0⟩).mono ?_
  rintro e w' ⟨rfl, hb⟩
  exact ⟨rfl, h.keep hb⟩

theorem PInv.drew {w W : World} {Bw Nx Nr : Nat} {vx vr : Value} {F : Fam} (h : PInv w W Bw Nx Nr vx vr F) : PInv w W.drew Bw Nx Nr vx vr F := h.keep ((Below.refl _ W).drew)

set_option maxRecDepth 100000 in
set_option maxHeartbeats 4000000 in
theorem plays_any (a : Option Addr) (n cap : Nat) (S : Nat → OpD) (w : World) (h10 : cnt 10 = 2) (h11 : cnt 11 = 3) (hO : OpsAt w a n S) (hn : n ≤ 17592186043904) (hT : Tab w) (hw0 : 0 < w.heap.size) :
    Calls Tryd.prog 3 #[.slice a n cap] w fun e w' => e = .returned (.bool true) ∧ Below w.heap.size w w' := by
  have HAW : Hid (∀ w, Calls Tryd.prog 7 #[] w fun e w' => e = .returned (.bool true) ∧ Below w.heap.size w w') := fun w => awake_any cnt countIs h10 h11 w
  have HO : Hid (OpsAt w a n S) := hO
  have HT : Hid (Tab w) := hT
  clear hO hT h10 h11
  go_enter Tryd.func3, Tryd.ntmps3
  go_wp2_with fail
  refine (HAW.out _).mono ?_
  rintro e w1 ⟨rfl, hb1⟩
  have HP0 : Hid (PInv w (w1.alloc (.cells #[.slice none 0 0, .slice none 0 0] 28)) w1.heap.size 0 0 (.slice none 0 0) (.slice none 0 0) ⟨fun _ => 0, fun _ => 0, fun _ => 0, fun _ => 0, fun _ => 0, fun _ => 0⟩) := pinv_start hb1
  clear hb1
  go_wp2_with fail
  go_loopw [4] (fun i wr => ∃ k : Nat, k ≤ n ∧ i = .int .i64 k ∧ ∃ N ax ar cx cr F, PInv w wr w1.heap.size N N (.slice ax N cx) (.slice ar N cr) F ∧ Same N F) (fun i _ => n - (intOf i).toNat)
  case atStart => exact ⟨0, Nat.zero_le _, rfl, 0, none, none, 0, 0, _, HP0.out, fun j hj => absurd hj (Nat.not_lt_zero j)⟩
  case round =>
    obtain ⟨k, hk, rfl, N, ax, ar, cx, cr, F, hP, hS⟩ := hrel
    have hle := hP.le.1
    have hcx := hP.xcell
    have HP : Hid (PInv w wr w1.heap.size N N (.slice ax N cx) (.slice ar N cr) F) := hP
    have HS : Hid (Same N F) := hS
    clear hP hS HP0
    generalize w1.heap.size = Bw at *
    by_cases hlt : k < n
    · obtain ⟨b, off, rfl, c0, c1, c2, c3, hok⟩ := HO.out k hlt
      have hbl := World.block_lt_of_cell? w _ c0
      have d0 : wr.cell? ⟨b, off + k * 4, none⟩ = some (.int .i64 (S k).kind) := (by rw [HP.out.bel.cell (by exact hbl)]; exact c0)
      have d1 : wr.cell? ⟨b, off + k * 4 + 1, none⟩ = some (.int .i64 (S k).A) := (by rw [HP.out.bel.cell (by exact hbl)]; exact c1)
      have d2 : wr.cell? ⟨b, off + k * 4 + 2, none⟩ = some (.int .i64 (S k).B) := (by rw [HP.out.bel.cell (by exact hbl)]; exact c2)
      have d3 : wr.cell? ⟨b, off + k * 4 + 3, none⟩ = some (.slice (S k).la (S k).l.length (S k).lc) := (by rw [HP.out.bel.cell (by exact hbl)]; exact c3)
      have HOK : Hid ((S k).ok w) := hok
      clear c0 c1 c2 c3 hok
      have hkb1 := HOK.out.kindb.1
      have hkb2 := HOK.out.kindb.2
      generalize S k = o at *
      have HST : Hid (N < 64 ∨ (o.kind.tmod 8 ≠ 0 ∧ o.kind.tmod 8 ≠ 6 ∧ o.kind.tmod 8 ≠ -6) → Calls Tryd.prog 8 #[.pointer (some ⟨Bw, 0, none⟩), .agg #[.int .i64 o.kind, .int .i64 o.A, .int .i64 o.B, .slice o.la o.l.length o.lc]] wr fun e w' => e = .returned (.bool true) ∧ ∃ N' ax' ar' cx' cr' F', PInv w w' Bw N' N' (.slice ax' N' cx') (.slice ar' N' cr') F' ∧ Same N' F') := fun hf => step_any w wr Bw N ax ar cx cr F o.kind o.A o.B o.la o.lc HP.out HS.out hf HOK.out.Ab HOK.out.Bb o.l HOK.out.ints HOK.out.len HOK.out.all HT.out hw0
      by_cases hN : N < 64
      · have hg : decide ((64 : Int) ≤ (N : Int)) = false := decide_eq_false (by omega)
        go_wp2_with fail
        refine (HST.out (.inl hN)).mono ?_
        rintro e w2 ⟨rfl, N', ax', ar', cx', cr', F', hP', hS'⟩
        have HP' : Hid (PInv w w2 Bw N' N' (.slice ax' N' cx') (.slice ar' N' cr') F') := hP'
        have HS' : Hid (Same N' F') := hS'
        clear hP' hS' HST
        go_wp2_with fail
        go_roundw
        case rel => exact ⟨k + 1, by omega, by go_num, N', ax', ar', cx', cr', F', HP'.out, HS'.out⟩
        case measure => simp [intOf]; omega
      · have hg : decide ((64 : Int) ≤ (N : Int)) = true := decide_eq_true (by omega)
        by_cases h0 : o.kind.tmod 8 = 0
        · go_wp2_with fail
          go_roundw
          case rel => exact ⟨k + 1, by omega, by go_num, N, ax, ar, cx, cr, F, HP.out, HS.out⟩
          case measure => simp [intOf]; omega
        by_cases h6 : o.kind.tmod 8 = 6
        · go_wp2_with fail
          go_roundw
          case rel => exact ⟨k + 1, by omega, by go_num, N, ax, ar, cx, cr, F, HP.out, HS.out⟩
          case measure => simp [intOf]; omega
        by_cases h6' : o.kind.tmod 8 = -6
        · go_wp2_with fail
          go_roundw
          case rel => exact ⟨k + 1, by omega, by go_num, N, ax, ar, cx, cr, F, HP.out, HS.out⟩
          case measure => simp [intOf]; omega
        have g0 : (o.kind.tmod 8 == 0) = false := by rw [beq_eq_false_iff_ne]; exact h0
        have g6 : (o.kind.tmod 8 == 6) = false := by rw [beq_eq_false_iff_ne]; exact h6
        have g6' : (o.kind.tmod 8 == -6) = false := by rw [beq_eq_false_iff_ne]; exact h6'
        have HX : Hid (o.kind.tmod 8 ≠ 0 ∧ o.kind.tmod 8 ≠ 6 ∧ o.kind.tmod 8 ≠ -6) := ⟨h0, h6, h6'⟩
        clear h0 h6 h6'
        go_wp2_with fail
        refine (HST.out (.inr HX.out)).mono ?_
        rintro e w2 ⟨rfl, N', ax', ar', cx', cr', F', hP', hS'⟩
        have HP' : Hid (PInv w w2 Bw N' N' (.slice ax' N' cx') (.slice ar' N' cr') F') := hP'
        have HS' : Hid (Same N' F') := hS'
        clear hP' hS' HST
        go_wp2_with fail
        go_roundw
        case rel => exact ⟨k + 1, by omega, by go_num, N', ax', ar', cx', cr', F', HP'.out, HS'.out⟩
        case measure => simp [intOf]; omega
    · have hkk : k = n := by omega
      subst hkk
      clear hcx
      go_wp2_with fail
      go_loopw [5] (fun i wr => ∃ j : Nat, j ≤ N ∧ i = .int .i64 j ∧ PInv w wr Bw N N (.slice ax N cx) (.slice ar N cr) F) (fun i _ => N - (intOf i).toNat)
      case atStart => exact ⟨0, Nat.zero_le _, rfl, HP.out⟩
      case round =>
        obtain ⟨j, hj, rfl, hP2⟩ := hrel
        have hcx := hP2.xcell
        have HP2 : Hid (PInv w wr Bw N N (.slice ax N cx) (.slice ar N cr) F) := hP2
        clear hP2
        by_cases hlt2 : j < N
        · obtain ⟨ax', cx', ex, hxs⟩ := HP2.out.xform
          simp only [Value.slice.injEq, true_and] at ex
          obtain ⟨rfl, rfl⟩ := ex
          obtain ⟨ar', cr', er, hrs⟩ := HP2.out.rform
          simp only [Value.slice.injEq, true_and] at er
          obtain ⟨rfl, rfl⟩ := er
          obtain ⟨g, rfl, _⟩ := hxs j hlt2
          obtain ⟨g', rfl, _⟩ := hrs j hlt2
          clear hxs hrs
          haveI hne : Nonempty (WBox (fun v => PInv w v Bw N N (.slice (some ⟨g, 0, none⟩) N cx) (.slice (some ⟨g', 0, none⟩) N cr) F)) := ⟨⟨_, HP2.out.drew⟩⟩
          have k1 : ∀ s : WBox (fun v => PInv w v Bw N N (.slice (some ⟨g, 0, none⟩) N cx) (.slice (some ⟨g', 0, none⟩) N cr) F), s.w.cell? ⟨g, j, none⟩ = some (.pointer (some ⟨F.b j, 0, none⟩)) := fun s => (s.ok.xs.cellAt j (by omega)).trans (ptrsL_at F.b N j hlt2)
          have k2 : ∀ s : WBox (fun v => PInv w v Bw N N (.slice (some ⟨g, 0, none⟩) N cx) (.slice (some ⟨g', 0, none⟩) N cr) F), s.w.cell? ⟨g', j, none⟩ = some (.pointer (some ⟨F.br j, 0, none⟩)) := fun s => (s.ok.rs.cellAt j (by omega)).trans (ptrsL_at F.br N j hlt2)
          have k3 := fun s : WBox (fun v => PInv w v Bw N N (.slice (some ⟨g, 0, none⟩) N cx) (.slice (some ⟨g', 0, none⟩) N cr) F) => s.ok.xcell
          have k4 := fun s : WBox (fun v => PInv w v Bw N N (.slice (some ⟨g, 0, none⟩) N cx) (.slice (some ⟨g', 0, none⟩) N cr) F) => s.ok.rcell
          go_wp2_with fail
          refine wp_region_class (p := fun v => PInv w v Bw N N (.slice (some ⟨g, 0, none⟩) N cx) (.slice (some ⟨g', 0, none⟩) N cr) F) (by kernel_rfl) (by kernel_rfl) HP2.out.drew ?_
          repeat (go_big_quiet_step (first
            | (go_at_call 9; rename_i s; with_reducible exact calls_class (pinv_is s.ok HS.out hlt2 HT.out hw0))))
          refine wpQuiet_nil ?_
          rintro _ ⟨s, rfl⟩
          go_wp2_with fail
          go_roundw
          case rel => exact ⟨j + 1, by omega, by go_num, s.ok⟩
          case measure => simp [intOf]; omega
        · have hjj : j = N := by omega
          subst hjj
          go_wp2_with fail
          go_ret
          exact ⟨rfl, HP2.out.bel⟩

end Go.Proofs.YtkmocjdjdlpphaaDoor
