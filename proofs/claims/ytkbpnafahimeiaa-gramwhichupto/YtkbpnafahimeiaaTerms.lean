/-
  terms of a builder: the end marker, then the terminals, each with its level.
-/
import Derived.Test.YtkbpnafahimeiaaStep
namespace Go.Proofs.Ytkbpnafahimeiaa
open Go.RowKit Go.Maps Go.Shelf

attribute [local go_sem] Oper.semAt_some

theorem infoTerm : (Try.prog.info? 74).map (fun i => (i.zero, i.size, i.bytes)) = some (some (.agg #[.string ⟨#[]⟩, .int .i64 0]), 2, 24) := by kernel_rfl

/-- A terminal's two cells. -/
def tmL (s : ByteArray) (l : Int) : List Value := [.string s, .int .i64 l]
def tmsL (ts : List (ByteArray × Int)) : List Value := ts.flatMap fun t => tmL t.1 t.2
/-- The terminals of a builder, the end marker first, up to the k-th. -/
def BS.tms (S : BS) (k : Nat) : List (ByteArray × Int) := (⟨#[]⟩, 0) :: (List.range k).map fun j => (S.terms.getD j ⟨#[]⟩, S.lev (j + 1))

theorem tms_length (S : BS) (k : Nat) : (S.tms k).length = k + 1 := by simp [BS.tms]
theorem tms_succ (S : BS) (k : Nat) : S.tms (k + 1) = S.tms k ++ [(S.terms.getD k ⟨#[]⟩, S.lev (k + 1))] := by simp [BS.tms, List.range_succ]
theorem tmsL_snoc (ts : List (ByteArray × Int)) (t : ByteArray × Int) : tmsL (ts ++ [t]) = tmsL ts ++ tmL t.1 t.2 := by simp [tmsL]

theorem tmL_oneCell (s : ByteArray) (l : Int) : ∀ u ∈ tmL s l, u.oneCell' = true := by
  intro u hu
  simp [tmL] at hu
  rcases hu with rfl | rfl <;> rfl

set_option maxRecDepth 100000 in
set_option maxHeartbeats 4000000 in
theorem terms_any (b : Nat) (S : BS) (w : World) (hB : BAt w b S) :
    Calls Try.prog 46 #[.pointer (some ⟨b, 0, none⟩)] w fun e w' => ∃ g c, e = .returned (.slice (some ⟨g, 0, none⟩) (S.terms.length + 1) c) ∧ w'.ownsRow w.heap.size 74 2 (.slice (some ⟨g, 0, none⟩) (S.terms.length + 1) c) (S.terms.length + 1) (tmsL (S.tms S.terms.length)) ∧ w.grownBy w' none := by
  obtain ⟨i0, hi, hz0, hz1, hz2⟩ := info_parts infoTerm
  have HB : Hid (BAt w b S) := hB
  have hsy := hB.1.syms
  have E69 : Hid (∀ args w, (callFunc 78 args).run Try.prog w = .ok (.enter 78 args) w) := enters_of Try.func78 (by kernel_rfl) rfl
  clear hB
  generalize hN : S.terms.length = N at *
  have HN : Hid (S.terms.length = N) := hN
  clear hN
  go_enter Try.func46, Try.ntmps46
  go_wp2_with fail
  go_loopw [4, 3] (fun i v3 wr => ∃ k : Nat, k ≤ N ∧ i = .int .i64 ((k : Int) + 1) ∧ ∃ g c, v3 = .slice (some ⟨g, 0, none⟩) (k + 1) c ∧ wr.ownsRow w.heap.size 74 2 (.slice (some ⟨g, 0, none⟩) (k + 1) c) (k + 1) (tmsL (S.tms k)) ∧ w.grownBy wr none) (fun i _ _ => N + 1 - (intOf i).toNat)
  case atStart => exact ⟨0, Nat.zero_le _, rfl, w.heap.size, 1, rfl, ⟨rfl, .inr ⟨w.heap.size, 1, _, rfl, Nat.le_refl _, heap_alloc_last w _, Nat.le_refl _, by unfold maxLen; omega, rfl, rfl⟩⟩, World.grownBy_alloc w _ none⟩
  case round =>
    obtain ⟨k, hk, rfl, g, c, rfl, hown, hgr⟩ := hrel
    have HO : Hid (wr.ownsRow w.heap.size 74 2 (.slice (some ⟨g, 0, none⟩) (k + 1) c) (k + 1) (tmsL (S.tms k))) := hown
    have HG : Hid (w.grownBy wr none) := hgr
    clear hown hgr
    have hBr := HB.out.kept HG.out
    have hT := isT_at b S ((k : Int) + 1) wr hBr
    by_cases hlt : k < N
    · have hit : S.isT ((k : Int) + 1) = true := by have := HN.out; simp [BS.isT]; omega
      rw [hit] at hT
      have HTT : Hid (Calls Try.prog 78 #[.pointer (some ⟨b, 0, none⟩), .int .i64 ((k : Int) + 1)] wr.drew fun e w' => e = .returned (.string (S.terms.getD k ⟨#[]⟩)) ∧ w' = wr.drew) := termText_at b S k wr.drew (hBr.kept (grown_drewN wr 1)) (by rw [HN.out]; exact hlt)
      have hcl : wr.drew.cell? ⟨b, 4 + (k + 1), none⟩ = some (.int .i64 (S.lev (k + 1))) := by
        obtain ⟨_, c, hr, hc⟩ := hBr
        show wr.cell? ⟨b, 4 + (k + 1), none⟩ = _
        rw [hr.cell (4 + (k + 1)) (by omega), hc.lv (k + 1) (by omega)]
      have HO' : Hid (wr.drew.ownsRow w.heap.size 74 2 (.slice (some ⟨g, 0, none⟩) (k + 1) c) (k + 1) (tmsL (S.tms k))) := HO.out
      have hsz := HG.out.size
      have hgle : w.heap.size ≤ g := (HO.out.lt g rfl).1
      have HTS : Hid (tmsL (S.tms (k + 1)) = tmsL (S.tms k) ++ tmL (S.terms.getD k ⟨#[]⟩) (S.lev (k + 1))) := by rw [tms_succ]; exact tmsL_snoc _ _
      have hb1 : (0 : Int) ≤ (k : Int) + 1 := by omega
      have hb2 : (k : Int) + 1 < 65 := by omega
      generalize S.terms.getD k ⟨#[]⟩ = tx at *
      generalize S.lev (k + 1) = lx at *
      clear hit hBr
      go_wp2_with (go_at_call 52; refine hT.mono ?_; rintro e w' ⟨rfl, rfl⟩)
      go_region_law (first
        | (refine step_call rfl 78 #[.tmp 17, .tmp 18] #[65, 3] rfl #[.pointer (some ⟨b, 0, none⟩), .int .i64 ((k : Int) + 1)] (by simp [Act.eval, Act.put]) E69.out HTT.out ?_; rintro e w1 ⟨rfl, hw1⟩; subst hw1; refine ⟨_, rfl, ?_⟩)
        | (refine step_append_lies _ rfl (.tmp 14) (.tmp 27) 28 rfl w.heap.size 74 i0 (.agg #[.string ⟨#[]⟩, .int .i64 0]) 2 24 Try.underlying28 hi hz0 hz1 hz2 rfl (by decide) _ _ _ (by simp [Act.eval]) (HO'.out.alloc _) ⟨w'.heap.size, 0, none⟩ 1 1 (tmL tx lx) (by simp [Act.eval]) rfl (fun j u hu => World.news_of_block (heap_alloc_last _ _) j u hu) (tmL_oneCell _ _) (by omega) (by unfold maxLen; omega) (by omega) (by simp; omega) _ rfl ?_; intro g2 c2 w3 hown3 hgrow3 hloc3 hlt3))
      all_goals go_wp2_with fail
      all_goals go_roundw
      all_goals first
        | exact ⟨k + 1, by omega, by go_num, g2, c2, rfl, by rw [HTS.out]; exact hown3, grown_new (grown_trans HG.out (grown_trans (grown_drewN _ 1) (World.grownBy_alloc _ _ none))) hgrow3 hgle⟩
        | (simp [intOf]; omega)
    · obtain rfl : k = N := by omega
      have hit : S.isT ((k : Int) + 1) = false := by have := HN.out; simp [BS.isT]; omega
      rw [hit] at hT
      go_wp2_with (go_at_call 52; refine hT.mono ?_; rintro e w' ⟨rfl, rfl⟩)
      go_ret
      exact ⟨g, c, rfl, HO.out, HG.out⟩

end Go.Proofs.Ytkbpnafahimeiaa
