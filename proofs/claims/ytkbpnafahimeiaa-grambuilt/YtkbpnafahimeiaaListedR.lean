/-
  The law's listed: Level, Rule or Grade of both builders, with a lent list, which is spoilt behind.
-/
import Derived.Test.YtkbpnafahimeiaaListM
namespace Go.Proofs.Ytkbpnafahimeiaa
open Go.RowKit Go.Maps Go.Shelf

attribute [local go_sem] Oper.semAt_some

set_option maxRecDepth 100000 in
set_option maxHeartbeats 4000000 in
theorem listed_rule (X w : World) (K : Nat → Prop) (x b r : Nat) (S : BS) (P Q : Nat → Prop) (hT : Two w K x b r S S P Q) (hX : Frm K X w) (kd A : Int) (la : Option Addr) (lc : Nat) (l : List Int) (s : ByteArray) (hl : ∀ W, Frm K X W → IntsAt W la l) (hlen : l.length ≤ 17592186044416) :
    Calls Try.prog 25 #[.pointer (some ⟨x, 0, none⟩), .agg #[.int .i64 kd, .int .i64 A, .slice la l.length lc, .string s], .int .i64 3] w fun e w' => LEnd X K x b r (S.rule A l).2.2 e w' := by
  have E1 : Hid (∀ args w, (callFunc 23 args).run Try.prog w = .ok (.enter 23 args) w) := enters_of Try.func23 (by kernel_rfl) rfl
  have E2 : Hid (∀ args w, (callFunc 59 args).run Try.prog w = .ok (.enter 59 args) w) := enters_of Try.func59 (by kernel_rfl) rfl
  obtain ⟨W, hW⟩ : ∃ W, W = w.alloc (.cells #[.int .i64 kd, .int .i64 A, .slice la l.length lc, .string s] 38) := ⟨_, rfl⟩
  have HW : Hid (W = w.alloc (.cells #[.int .i64 kd, .int .i64 A, .slice la l.length lc, .string s] 38)) := hW
  have hIW : IntsAt W la l := hl W (hX.kept (by rw [hW]; exact World.grownBy_alloc w _ none))
  have HLT := show Hid _ from lent_any la lc l W hIW hlen
  have HSTART : Hid (∀ w2, LentAt w2 W.heap.size l 8 → Below W.heap.size W w2 → ∃ P' Q', LstAt X w2 K x b r S S w.heap.size W.heap.size #[.int .i64 kd, .int .i64 A, .slice la l.length lc, .string s] l P' Q') := fun w2 h1 h2 => LstAt.start hT hX hW h1 h2
  have HI : Hid (∀ W, Frm K X W → IntsAt W la l) := hl
  have c0 : W.cell? ⟨w.heap.size, 2, none⟩ = some (.slice la l.length lc) := by rw [hW]; exact cell_of_row _ _ _ _ _ _ (heap_alloc_last w _)
  have HSOK : Hid S.OK := hT.ok
  clear hW hIW hl hT hX
  go_enter Try.func25, Try.ntmps25
  go_wp2_with fail
  rw [← HW.out]
  go_wp2_with fail
  refine Calls.mono HLT.out ?_
  rintro e w2 ⟨rfl, hL2, hb2⟩
  obtain ⟨P1, Q1, HL⟩ := HSTART.out w2 hL2 hb2
  clear hL2 hb2 c0 HLT HSTART
  generalize W.heap.size = gl at *
  generalize w.heap.size = ob at *
  have HLd := HL.kept (w' := w2.drew) (grown_drewN w2 1)
  have HA := rule_any b _ A (some ⟨gl, 0, none⟩) (l.length + 8) l w2.drew HLd.two.pb HLd.lent.ints (fun e => by cases e) hlen
  rw [BS.rule_P] at HA
  have x0d : w2.drew.cell? ⟨x, 0, none⟩ = some (.pointer (some ⟨b, 0, none⟩)) := by rw [cell_of_row _ _ _ _ _ _ HLd.two.box]; rfl
  have a0d : w2.drew.cell? ⟨ob, 1, none⟩ = some (.int .i64 A) := by rw [cell_of_row _ _ _ _ _ _ HLd.op]; rfl
  have x0 : w2.cell? ⟨x, 0, none⟩ = some (.pointer (some ⟨b, 0, none⟩)) := x0d
  have a0 : w2.cell? ⟨ob, 1, none⟩ = some (.int .i64 A) := a0d
  have HAC := show Hid _ from HA
  have HL1 := show Hid _ from HLd
  clear HA HL HLd
  go_wp2_with fail
  go_region_law (first
    | (refine step_call rfl 23 #[.tmp 88, .tmp 90, .tmp 91] #[25, 3, 30] rfl #[.pointer (some ⟨b, 0, none⟩), .int .i64 A, .slice (some ⟨gl, 0, none⟩) l.length (l.length + 8)] (by simp [Act.eval]) E1.out HAC.out ?_; rintro e w3 ⟨rfl, hB1, hg1⟩; refine ⟨_, rfl, ?_⟩))
  all_goals
    have HL2 := (HL1.out.prog hB1 hg1).kept (w' := w3.drew) (grown_drewN w3 1)
    have HB2 := show Hid _ from rrule_any r S A la lc l w3.drew _ HSOK.out HL2.two.rb (HI.out _ HL2.gX) hlen _ rfl
    have x1d : w3.drew.cell? ⟨x, 1, none⟩ = some (.pointer (some ⟨r, 0, none⟩)) := by rw [cell_of_row _ _ _ _ _ _ HL2.two.box]; rfl
    have a1d : w3.drew.cell? ⟨ob, 1, none⟩ = some (.int .i64 A) := by rw [cell_of_row _ _ _ _ _ _ HL2.op]; rfl
    have l1d : w3.drew.cell? ⟨ob, 2, none⟩ = some (.slice la l.length lc) := by rw [cell_of_row _ _ _ _ _ _ HL2.op]; rfl
    have x1 : w3.cell? ⟨x, 1, none⟩ = some (.pointer (some ⟨r, 0, none⟩)) := x1d
    have a1 : w3.cell? ⟨ob, 1, none⟩ = some (.int .i64 A) := a1d
    have l1 : w3.cell? ⟨ob, 2, none⟩ = some (.slice la l.length lc) := l1d
    have HL3 := show Hid _ from HL2
    clear HL2 hB1 hg1 x0 a0 x0d a0d HAC HL1
    generalize hTe : S.rule A l = T at *
    obtain ⟨t1, t2, S'⟩ := T
    have HTE : Hid (S.rule A l = (t1, t2, S')) := hTe
    clear hTe
    go_wp2_with fail
    go_region_law (first
      | (refine step_call rfl 59 #[.tmp 99, .tmp 101, .tmp 103] #[27, 3, 30] rfl #[.pointer (some ⟨r, 0, none⟩), .int .i64 A, .slice la l.length lc] (by simp [Act.eval]) E2.out HB2.out ?_; rintro e w4 ⟨rfl, hR2, hg2⟩; refine ⟨_, rfl, ?_⟩))
    all_goals
      have HL4 := (HL3.out.doc hR2 hg2).kept (w' := w4.drew) (grown_drewN w4 1)
      have HWH := show Hid _ from whole_any gl (l.length + 8) la lc l w4 ((HL3.out.doc hR2 hg2).lent) (HI.out _ (HL3.out.doc hR2 hg2).gX) hlen
      have l2 : w4.cell? ⟨ob, 2, none⟩ = some (.slice la l.length lc) := by show w4.drew.cell? _ = _; rw [cell_of_row _ _ _ _ _ _ HL4.op]; rfl
      have HS4 := show Hid _ from (HL3.out.doc hR2 hg2).spl
      clear HL4 hR2 hg2 x1 a1 l1 x1d a1d l1d HB2 HL3
      go_wp2_with fail
      refine Calls.mono HWH.out ?_
      rintro e w5 ⟨rfl, q, rfl⟩
      go_wp2_with fail
      go_loopw [21] (fun i wr => ∃ k : Nat, k ≤ l.length ∧ i = .int .i64 k ∧ Spl X wr K x b r S' gl l.length) (fun i _ => l.length - (intOf i).toNat)
      case atStart => exact ⟨0, Nat.zero_le _, rfl, HS4.out.drewN q⟩
      case round =>
        obtain ⟨k, hk, rfl, hs⟩ := hrel
        have HS5 : Hid (Spl X wr K x b r S' gl l.length) := hs
        clear hs HS4 HWH
        by_cases hlt : k < l.length
        · obtain ⟨⟨v0, hcell⟩, hfz⟩ := HS5.out.cell k hlt
          go_wp2_with fail
          go_roundw
          case rel => exact ⟨k + 1, by omega, by go_num, HS5.out.set k _⟩
          case measure => simp [intOf]; omega
        · go_wp2_with fail
          go_ret
          obtain ⟨P', Q', hT', _⟩ := HS5.out.two
          refine ⟨rfl, P', Q', ?_, HS5.out.gX⟩
          rw [HTE.out]
          exact hT'

end Go.Proofs.Ytkbpnafahimeiaa
