import Derived.Test.YtkbjbijoekmooaaGreatQdgffnpnnfbfd
import Derived.Test.YtkbjbijoekmooaaGreatQnbnncehomgga
import Derived.Laws.AppendOwnNone

/-
  The document's Symbols and prodsFit.
-/
namespace Go.Proofs.YtkbjbijoekmooaaGreat
open Go.RowKit

attribute [local go_sem] Oper.semAt_some

theorem symbols_any (ta na la pa : Option Addr) (tn nn ln pn tc nc lc pc : Nat) (st : Int) (w : World) (ht : tn ≤ 140737488355328) (hn : nn ≤ 140737488355328) :
    Calls Tryz.prog 81 #[.agg #[.slice ta tn tc, .slice na nn nc, .slice la ln lc, .int .i64 st, .slice pa pn pc]] w fun e w' => e = .returned (.int .i64 ((tn : Int) + nn)) ∧ w.grownBy w' none := by
  go_enter Tryz.func81, Tryz.ntmps81
  go_wp2_with fail
  go_ret
  exact ⟨by first | rfl | go_num, World.grownBy_alloc _ _ none⟩

/-- The grammar's box and a production's. -/
structure PrAt (w wr : World) (Bg : Nat) (cs : Array Value) (Bp : Nat) (ps : Array Value) : Prop where
  ph : PhAt w wr Bg cs
  box : wr.heap[Bp]? = some (.cells ps 71 (0, 0))
theorem PrAt.kept {w wr wx : World} {Bg Bp : Nat} {cs ps : Array Value} (h : PrAt w wr Bg cs Bp ps) (hg : wr.grownBy wx none) : PrAt w wx Bg cs Bp ps :=
  ⟨h.ph.kept hg, (hg.block Bp (Array.getElem?_eq_some_iff.1 h.box).1 (by simp)).trans h.box⟩
theorem PrAt.cells {w wr : World} {Bg Bp : Nat} {cs : Array Value} {v0 v1 v2 : Value} (h : PrAt w wr Bg cs Bp #[v0, v1, v2]) : wr.cell? ⟨Bp, 0, none⟩ = some v0 ∧ wr.cell? ⟨Bp, 1, none⟩ = some v1 ∧ wr.cell? ⟨Bp, 2, none⟩ = some v2 := by
  refine ⟨?_, ?_, ?_⟩ <;> rw [cell_of_row _ _ _ _ _ _ h.box] <;> rfl
theorem PrAt.made {w wr : World} {Bg : Nat} {cs ps : Array Value} (h : PhAt w wr Bg cs) : PrAt w (wr.alloc (.cells ps 71)) Bg cs wr.heap.size ps := ⟨h.kept (World.grownBy_alloc _ _ none), heap_alloc_last wr _⟩

set_option maxRecDepth 100000 in
set_option maxHeartbeats 2000000 in
theorem prodsFit_any (ta na la pa : Option Addr) (tn nn ln pn tc nc lc pc ad : Nat) (st ls : Int) (L : Nat → Int) (R : Nat → List Int) (ra : Nat → Option Addr) (rc : Nat → Nat) (V : Nat → Int) (w : World) (hP : ProdsAt w pa pn L R ra rc V) (hn : pn ≤ 97) (ht0 : 0 < tn) (ht : tn ≤ 65) (hnn : nn ≤ 65) (had : ad ≤ pn) (hls : ls = (tn : Int) + ad)
    (r : Bool) (hr : r = true ↔ ∀ i, ad ≤ i → i < pn → prodOK tn nn ln ad (L i) (R i) (V i)) :
    Calls Tryz.prog 95 #[.agg #[.slice ta tn tc, .slice na nn nc, .slice la ln lc, .int .i64 st, .slice pa pn pc], .int .i64 ad, .int .i64 ls] w fun e w' => e = .returned (.bool r) ∧ w.grownBy w' none := by
  have HP : Hid (ProdsAt w pa pn L R ra rc V) := hP
  have HLS : Hid (ls = (tn : Int) + ad) := hls
  have HR : Hid (r = true ↔ ∀ i, ad ≤ i → i < pn → prodOK tn nn ln ad (L i) (R i) (V i)) := hr
  have HX0 : Hid (PhAt w (w.alloc (.cells #[.slice ta tn tc, .slice na nn nc, .slice la ln lc, .int .i64 st, .slice pa pn pc] 27)) w.heap.size #[.slice ta tn tc, .slice na nn nc, .slice la ln lc, .int .i64 st, .slice pa pn pc]) := ⟨World.grownBy_alloc _ _ none, heap_alloc_last w _⟩
  clear hP hr hls
  go_enter Tryz.func95, Tryz.ntmps95
  go_wp2_with fail
  go_loopg [7] (pn - ad) (fun gk i wr => ∃ k : Nat, ad ≤ k ∧ k ≤ pn ∧ gk = pn - k ∧ i = .int .i64 k ∧ PhAt w wr w.heap.size #[.slice ta tn tc, .slice na nn nc, .slice la ln lc, .int .i64 st, .slice pa pn pc] ∧ ∀ j, ad ≤ j → j < k → prodOK tn nn ln ad (L j) (R j) (V j))
  case atStart => exact ⟨ad, Nat.le_refl _, had, rfl, rfl, HX0.out, fun j h1 h2 => by omega⟩
  case round =>
    obtain ⟨k, hk1, hk, hgk, rfl, hX, hall⟩ := hrel
    have HX : Hid (PhAt w wr w.heap.size #[.slice ta tn tc, .slice na nn nc, .slice la ln lc, .int .i64 st, .slice pa pn pc]) := hX
    have HA : Hid (∀ j, ad ≤ j → j < k → prodOK tn nn ln ad (L j) (R j) (V j)) := hall
    have HGK : Hid (gk = pn - k) := hgk
    clear hX hall hgk HX0
    obtain ⟨m0, m1, m2, m3, m4⟩ := HX.out.cells
    by_cases hlt : k < pn
    · obtain ⟨bp, off, rfl, hcs⟩ : ∃ b off, pa = some ⟨b, off, none⟩ ∧ ∀ k, k < pn → w.cell? ⟨b, off + k * 3, none⟩ = some (.int .i64 (L k)) ∧ w.cell? ⟨b, off + k * 3 + 1, none⟩ = some (.slice (ra k) (R k).length (rc k)) ∧ w.cell? ⟨b, off + k * 3 + 2, none⟩ = some (.int .i64 (V k)) ∧ IntsAt w (ra k) (R k) ∧ (ra k = none → rc k = 0) ∧ (R k).length ≤ 17592186044416 := by
        rcases HP.out with h | h
        · omega
        · exact h
      obtain ⟨h1, h2, h3, hI, _, hlen⟩ := hcs k hlt
      have c0 := HX.out.grown.cell h1 (by simp)
      have c1 := HX.out.grown.cell h2 (by simp)
      have c2 := HX.out.grown.cell h3 (by simp)
      have HI : Hid (IntsAt w (ra k) (R k)) := hI
      have HRF : Hid (¬ prodOK tn nn ln ad (L k) (R k) (V k) → r = false) := fun hno => Bool.eq_false_iff.2 fun hh => hno (HR.out.1 hh k hk1 hlt)
      have HUP : Hid (prodOK tn nn ln ad (L k) (R k) (V k) → ∀ j, ad ≤ j → j < k + 1 → prodOK tn nn ln ad (L j) (R j) (V j)) := fun h j h1 h2 => by
        by_cases e : j = k
        · rw [e]; exact h
        · exact HA.out j h1 (by omega)
      clear hcs h1 h2 h3 hI
      generalize L k = l at *
      generalize V k = v at *
      generalize ra k = ak at *
      generalize rc k = ck at *
      generalize hRk : R k = Rk at *
      clear hRk
      obtain ⟨len, hle⟩ : ∃ len, len = Rk.length := ⟨_, rfl⟩
      have HLE : Hid (Rk.length = len) := hle.symm
      rw [← hle] at hlen c1
      clear hle
      have hcase : (l < ls ∨ (tn : Int) + nn ≤ l ∨ v < 0 ∨ (ln : Int) < v) ∨ (¬ l < ls ∧ ¬ (tn : Int) + nn ≤ l ∧ ¬ v < 0 ∧ ¬ (ln : Int) < v) := by omega
      have HPR : Hid (∀ o, PrAt w ((wr.alloc (.cells #[.int .i64 l, .slice ak len ck, .int .i64 v] 71)).drewN o) w.heap.size #[.slice ta tn tc, .slice na nn nc, .slice la ln lc, .int .i64 st, .slice (some ⟨bp, off, none⟩) pn pc] wr.heap.size #[.int .i64 l, .slice ak len ck, .int .i64 v]) := fun o => (PrAt.made HX.out).kept (grown_drewN _ _)
      rcases hcase with hbad | hgood
      · have hf : r = false := HRF.out fun h => by
          have h1 := h.1
          have h2 := h.2.1
          unfold isNonI at h1
          have := HLS.out
          omega
        have hcase2 : l < ls ∨ (¬ l < ls ∧ (tn : Int) + nn ≤ l) ∨ (¬ l < ls ∧ ¬ (tn : Int) + nn ≤ l ∧ v < 0) ∨ (¬ l < ls ∧ ¬ (tn : Int) + nn ≤ l ∧ ¬ v < 0 ∧ (ln : Int) < v) := by omega
        clear hbad
        rcases hcase2 with hc | hc | hc | hc
        · have d1 : decide (l < ls) = true := decide_eq_true hc
          clear hc
          go_wp2_with fail
          go_quiet (fail)
          go_wp2_with fail
          go_ret
          exact ⟨by first | rfl | (rw [hf]; rfl), (HPR.out _).ph.grown⟩
        all_goals
          have d1 : decide (l < ls) = false := decide_eq_false (by omega)
          first | (have d2 : decide ((tn : Int) + nn ≤ l) = true := decide_eq_true (by omega)) | (have d2 : decide ((tn : Int) + nn ≤ l) = false := decide_eq_false (by omega))
          try first | (have d3 : decide (v < 0) = true := decide_eq_true (by omega)) | (have d3 : decide (v < 0) = false := decide_eq_false (by omega))
          try first | (have d4 : decide ((ln : Int) < v) = true := decide_eq_true (by omega)) | (have d4 : decide ((ln : Int) < v) = false := decide_eq_false (by omega))
          clear hc
          go_wp2_with fail
          have hA := HPR.out 1
          haveI hne : Nonempty (WBox (fun x => PrAt w x w.heap.size #[.slice ta tn tc, .slice na nn nc, .slice la ln lc, .int .i64 st, .slice (some ⟨bp, off, none⟩) pn pc] wr.heap.size #[.int .i64 l, .slice ak len ck, .int .i64 v])) := ⟨⟨_, hA⟩⟩
          have q0 := fun s : WBox (fun x => PrAt w x w.heap.size #[.slice ta tn tc, .slice na nn nc, .slice la ln lc, .int .i64 st, .slice (some ⟨bp, off, none⟩) pn pc] wr.heap.size #[.int .i64 l, .slice ak len ck, .int .i64 v]) => s.ok.cells.1
          have q2 := fun s : WBox (fun x => PrAt w x w.heap.size #[.slice ta tn tc, .slice na nn nc, .slice la ln lc, .int .i64 st, .slice (some ⟨bp, off, none⟩) pn pc] wr.heap.size #[.int .i64 l, .slice ak len ck, .int .i64 v]) => s.ok.cells.2.2
          have g0 := fun s : WBox (fun x => PrAt w x w.heap.size #[.slice ta tn tc, .slice na nn nc, .slice la ln lc, .int .i64 st, .slice (some ⟨bp, off, none⟩) pn pc] wr.heap.size #[.int .i64 l, .slice ak len ck, .int .i64 v]) => s.ok.ph.cells.1
          have g1 := fun s : WBox (fun x => PrAt w x w.heap.size #[.slice ta tn tc, .slice na nn nc, .slice la ln lc, .int .i64 st, .slice (some ⟨bp, off, none⟩) pn pc] wr.heap.size #[.int .i64 l, .slice ak len ck, .int .i64 v]) => s.ok.ph.cells.2.1
          have g2 := fun s : WBox (fun x => PrAt w x w.heap.size #[.slice ta tn tc, .slice na nn nc, .slice la ln lc, .int .i64 st, .slice (some ⟨bp, off, none⟩) pn pc] wr.heap.size #[.int .i64 l, .slice ak len ck, .int .i64 v]) => s.ok.ph.cells.2.2.1
          have g3 := fun s : WBox (fun x => PrAt w x w.heap.size #[.slice ta tn tc, .slice na nn nc, .slice la ln lc, .int .i64 st, .slice (some ⟨bp, off, none⟩) pn pc] wr.heap.size #[.int .i64 l, .slice ak len ck, .int .i64 v]) => s.ok.ph.cells.2.2.2.1
          have g4 := fun s : WBox (fun x => PrAt w x w.heap.size #[.slice ta tn tc, .slice na nn nc, .slice la ln lc, .int .i64 st, .slice (some ⟨bp, off, none⟩) pn pc] wr.heap.size #[.int .i64 l, .slice ak len ck, .int .i64 v]) => s.ok.ph.cells.2.2.2.2
          have K1 : Hid (∀ s : WBox (fun x => PrAt w x w.heap.size #[.slice ta tn tc, .slice na nn nc, .slice la ln lc, .int .i64 st, .slice (some ⟨bp, off, none⟩) pn pc] wr.heap.size #[.int .i64 l, .slice ak len ck, .int .i64 v]), Calls Tryz.prog 81 #[.agg #[.slice ta tn tc, .slice na nn nc, .slice la ln lc, .int .i64 st, .slice (some ⟨bp, off, none⟩) pn pc]] s.w fun e w' => e = .returned (.int .i64 ((tn : Int) + nn)) ∧ ∃ s' : WBox (fun x => PrAt w x w.heap.size #[.slice ta tn tc, .slice na nn nc, .slice la ln lc, .int .i64 st, .slice (some ⟨bp, off, none⟩) pn pc] wr.heap.size #[.int .i64 l, .slice ak len ck, .int .i64 v]), w' = s'.w) := fun s => calls_class ((symbols_any ta na la (some ⟨bp, off, none⟩) tn nn ln pn tc nc lc pc st s.w (by omega) (by omega)).mono fun e w' h => ⟨h.1, s.ok.kept h.2⟩)
          refine wp_region_class (p := fun x => PrAt w x w.heap.size #[.slice ta tn tc, .slice na nn nc, .slice la ln lc, .int .i64 st, .slice (some ⟨bp, off, none⟩) pn pc] wr.heap.size #[.int .i64 l, .slice ak len ck, .int .i64 v]) (by kernel_rfl) (by kernel_rfl) hA ?_
          repeat (go_big_quiet_step (first | (go_at_call 81; rename_i s; with_reducible exact K1.out s)))
          refine wpQuiet_nil ?_
          rintro _ ⟨s, rfl⟩
          go_wp2_with fail
          go_ret
          exact ⟨by first | rfl | (rw [hf]; rfl), s.ok.ph.grown⟩
      · have d1 : decide (l < ls) = false := decide_eq_false hgood.1
        have d2 : decide ((tn : Int) + nn ≤ l) = false := decide_eq_false hgood.2.1
        have d3 : decide (v < 0) = false := decide_eq_false hgood.2.2.1
        have d4 : decide ((ln : Int) < v) = false := decide_eq_false hgood.2.2.2
        have HOK : Hid (isNonI tn nn ad l ∧ 0 ≤ v ∧ v ≤ (ln : Int)) := ⟨⟨by have := HLS.out; omega, by omega⟩, by omega, by omega⟩
        clear hgood
        go_wp2_with fail
        have hA := HPR.out 1
        haveI hne : Nonempty (WBox (fun x => PrAt w x w.heap.size #[.slice ta tn tc, .slice na nn nc, .slice la ln lc, .int .i64 st, .slice (some ⟨bp, off, none⟩) pn pc] wr.heap.size #[.int .i64 l, .slice ak len ck, .int .i64 v])) := ⟨⟨_, hA⟩⟩
        have q0 := fun s : WBox (fun x => PrAt w x w.heap.size #[.slice ta tn tc, .slice na nn nc, .slice la ln lc, .int .i64 st, .slice (some ⟨bp, off, none⟩) pn pc] wr.heap.size #[.int .i64 l, .slice ak len ck, .int .i64 v]) => s.ok.cells.1
        have q2 := fun s : WBox (fun x => PrAt w x w.heap.size #[.slice ta tn tc, .slice na nn nc, .slice la ln lc, .int .i64 st, .slice (some ⟨bp, off, none⟩) pn pc] wr.heap.size #[.int .i64 l, .slice ak len ck, .int .i64 v]) => s.ok.cells.2.2
        have g0 := fun s : WBox (fun x => PrAt w x w.heap.size #[.slice ta tn tc, .slice na nn nc, .slice la ln lc, .int .i64 st, .slice (some ⟨bp, off, none⟩) pn pc] wr.heap.size #[.int .i64 l, .slice ak len ck, .int .i64 v]) => s.ok.ph.cells.1
        have g1 := fun s : WBox (fun x => PrAt w x w.heap.size #[.slice ta tn tc, .slice na nn nc, .slice la ln lc, .int .i64 st, .slice (some ⟨bp, off, none⟩) pn pc] wr.heap.size #[.int .i64 l, .slice ak len ck, .int .i64 v]) => s.ok.ph.cells.2.1
        have g2 := fun s : WBox (fun x => PrAt w x w.heap.size #[.slice ta tn tc, .slice na nn nc, .slice la ln lc, .int .i64 st, .slice (some ⟨bp, off, none⟩) pn pc] wr.heap.size #[.int .i64 l, .slice ak len ck, .int .i64 v]) => s.ok.ph.cells.2.2.1
        have g3 := fun s : WBox (fun x => PrAt w x w.heap.size #[.slice ta tn tc, .slice na nn nc, .slice la ln lc, .int .i64 st, .slice (some ⟨bp, off, none⟩) pn pc] wr.heap.size #[.int .i64 l, .slice ak len ck, .int .i64 v]) => s.ok.ph.cells.2.2.2.1
        have g4 := fun s : WBox (fun x => PrAt w x w.heap.size #[.slice ta tn tc, .slice na nn nc, .slice la ln lc, .int .i64 st, .slice (some ⟨bp, off, none⟩) pn pc] wr.heap.size #[.int .i64 l, .slice ak len ck, .int .i64 v]) => s.ok.ph.cells.2.2.2.2
        have K1 : Hid (∀ s : WBox (fun x => PrAt w x w.heap.size #[.slice ta tn tc, .slice na nn nc, .slice la ln lc, .int .i64 st, .slice (some ⟨bp, off, none⟩) pn pc] wr.heap.size #[.int .i64 l, .slice ak len ck, .int .i64 v]), Calls Tryz.prog 81 #[.agg #[.slice ta tn tc, .slice na nn nc, .slice la ln lc, .int .i64 st, .slice (some ⟨bp, off, none⟩) pn pc]] s.w fun e w' => e = .returned (.int .i64 ((tn : Int) + nn)) ∧ ∃ s' : WBox (fun x => PrAt w x w.heap.size #[.slice ta tn tc, .slice na nn nc, .slice la ln lc, .int .i64 st, .slice (some ⟨bp, off, none⟩) pn pc] wr.heap.size #[.int .i64 l, .slice ak len ck, .int .i64 v]), w' = s'.w) := fun s => calls_class ((symbols_any ta na la (some ⟨bp, off, none⟩) tn nn ln pn tc nc lc pc st s.w (by omega) (by omega)).mono fun e w' h => ⟨h.1, s.ok.kept h.2⟩)
        refine wp_region_class (p := fun x => PrAt w x w.heap.size #[.slice ta tn tc, .slice na nn nc, .slice la ln lc, .int .i64 st, .slice (some ⟨bp, off, none⟩) pn pc] wr.heap.size #[.int .i64 l, .slice ak len ck, .int .i64 v]) (by kernel_rfl) (by kernel_rfl) hA ?_
        repeat (go_big_quiet_step (first | (go_at_call 81; rename_i s; with_reducible exact K1.out s)))
        refine wpQuiet_nil ?_
        rintro _ ⟨s, rfl⟩
        have HX1 : Hid (PrAt w s.w w.heap.size #[.slice ta tn tc, .slice na nn nc, .slice la ln lc, .int .i64 st, .slice (some ⟨bp, off, none⟩) pn pc] wr.heap.size #[.int .i64 l, .slice ak len ck, .int .i64 v]) := s.ok
        generalize s.w = W1 at *
        clear s K1 q0 q2 g0 g1 g2 g3 g4 hne hA HPR c0 c1 c2 m0 m1 m2 m3 m4 HX d1 d2 d3 d4
        generalize wr.heap.size = Bp at *
        go_wp2_with fail
        go_loopg [9] len (fun gx i wz => ∃ x : Nat, x ≤ len ∧ gx = len - x ∧ i = .int .i64 x ∧ PrAt w wz w.heap.size #[.slice ta tn tc, .slice na nn nc, .slice la ln lc, .int .i64 st, .slice (some ⟨bp, off, none⟩) pn pc] Bp #[.int .i64 l, .slice ak len ck, .int .i64 v] ∧ ∀ y ∈ Rk.take x, isSymI tn nn ad y)
        case atStart => exact ⟨0, Nat.zero_le _, rfl, rfl, HX1.out, fun y hy => by simp at hy⟩
        case round =>
          obtain ⟨x, hx, hgx, rfl, hX, hall⟩ := hrel
          have HX : Hid (PrAt w wr w.heap.size #[.slice ta tn tc, .slice na nn nc, .slice la ln lc, .int .i64 st, .slice (some ⟨bp, off, none⟩) pn pc] Bp #[.int .i64 l, .slice ak len ck, .int .i64 v]) := hX
          have HY : Hid (∀ y ∈ Rk.take x, isSymI tn nn ad y) := hall
          have HGX : Hid (gk = len - x) := hgx
          clear hX hall hgx HX1
          obtain ⟨q0, q1, q2⟩ := HX.out.cells
          obtain ⟨m0, m1, m2, m3, m4⟩ := HX.out.ph.cells
          by_cases hlx : x < len
          · have hxl : x < Rk.length := by rw [HLE.out]; exact hlx
            obtain ⟨bl, of2, rfl, hcs⟩ : ∃ b off, ak = some ⟨b, off, none⟩ ∧ ∀ i, i < Rk.length → wr.cell? ⟨b, off + i, none⟩ = some (.int .i64 (Rk.getD i 0)) := by
              rcases HI.out.kept HX.out.ph.grown with h | h
              · rw [h] at hxl; simp at hxl
              · exact h
            have hch := hcs x hxl
            have hmem : Rk.getD x 0 ∈ Rk := by
              have e : Rk.getD x 0 = Rk[x] := by simp [List.getD, hxl]
              rw [e]; exact List.getElem_mem _
            have htk : Rk.take (x + 1) = Rk.take x ++ [Rk.getD x 0] := by rw [List.take_succ_eq_append_getElem hxl]; simp [List.getD, hxl]
            obtain ⟨h, hh⟩ : ∃ h, h = Rk.getD x 0 := ⟨_, rfl⟩
            rw [← hh] at hch hmem htk
            have HST : Hid (isSymI tn nn ad h → ∀ y ∈ Rk.take (x + 1), isSymI tn nn ad y) := fun hs y hy => by
              rw [htk] at hy
              rcases List.mem_append.1 hy with hy | hy
              · exact HY.out y hy
              · simp only [List.mem_singleton] at hy; rw [hy]; exact hs
            have HNO : Hid (¬ isSymI tn nn ad h → r = false) := fun hno => HRF.out fun hp => hno (hp.2.2 h hmem)
            clear hcs hmem htk hh hxl
            have HIS : Hid (isSymI tn nn ad h ↔ ¬ h < 1 ∧ ¬ (tn : Int) + nn ≤ h ∧ ¬ ((tn : Int) ≤ h ∧ h < ls)) := by
              show _ ↔ _
              unfold isSymI isNonI
              have := HLS.out
              omega
            have HSY := symbols_any ta na la (some ⟨bp, off, none⟩) tn nn ln pn tc nc lc pc st wr (by omega) (by omega)
            by_cases h1 : h < 1
            · have d1 : decide (h < 1) = true := decide_eq_true h1
              have hf : r = false := HNO.out fun hs => (HIS.out.1 hs).1 h1
              clear h1 HSY
              go_wp2_with fail
              go_ret
              exact ⟨by first | rfl | (rw [hf]; rfl), HX.out.ph.grown⟩
            · have d1 : decide (h < 1) = false := decide_eq_false h1
              have hcase : (tn : Int) + nn ≤ h ∨ (¬ (tn : Int) + nn ≤ h ∧ (tn : Int) ≤ h ∧ h < ls) ∨ (¬ (tn : Int) + nn ≤ h ∧ (tn : Int) ≤ h ∧ ¬ h < ls) ∨ (¬ (tn : Int) + nn ≤ h ∧ ¬ (tn : Int) ≤ h) := by omega
              rcases hcase with hc | hc | hc | hc
              all_goals
                first | (have d2 : decide ((tn : Int) + nn ≤ h) = true := decide_eq_true (by omega)) | (have d2 : decide ((tn : Int) + nn ≤ h) = false := decide_eq_false (by omega))
                first | (have d3 : decide ((tn : Int) ≤ h) = true := decide_eq_true (by omega)) | (have d3 : decide ((tn : Int) ≤ h) = false := decide_eq_false (by omega))
                try first | (have d4 : decide (h < ls) = true := decide_eq_true (by omega)) | (have d4 : decide (h < ls) = false := decide_eq_false (by omega))
                first
                | (have hf : r = false := HNO.out (by rw [HIS.out]; omega)
                   clear h1 hc HIS
                   go_wp2_with (go_at_call 81; refine HSY.mono ?_; rintro e w2 ⟨rfl, hg2⟩; have HX2 := HX.out.kept hg2; obtain ⟨q0, q1, q2⟩ := HX2.cells; obtain ⟨m0, m1, m2, m3, m4⟩ := HX2.ph.cells; have HX3 : Hid (PrAt w w2 w.heap.size #[.slice ta tn tc, .slice na nn nc, .slice la ln lc, .int .i64 st, .slice (some ⟨bp, off, none⟩) pn pc] Bp #[.int .i64 l, .slice (some ⟨bl, of2, none⟩) len ck, .int .i64 v]) := HX2; clear HX2 hg2)
                   go_ret
                   exact ⟨by first | rfl | (rw [hf]; rfl), HX3.out.ph.grown⟩)
                | (have HS2 : Hid (∀ y ∈ Rk.take (x + 1), isSymI tn nn ad y) := HST.out (HIS.out.2 (by omega))
                   clear h1 hc HIS HST
                   go_wp2_with (go_at_call 81; refine HSY.mono ?_; rintro e w2 ⟨rfl, hg2⟩; have HX2 := HX.out.kept hg2; obtain ⟨q0, q1, q2⟩ := HX2.cells; obtain ⟨m0, m1, m2, m3, m4⟩ := HX2.ph.cells; have HX3 : Hid (PrAt w w2 w.heap.size #[.slice ta tn tc, .slice na nn nc, .slice la ln lc, .int .i64 st, .slice (some ⟨bp, off, none⟩) pn pc] Bp #[.int .i64 l, .slice (some ⟨bl, of2, none⟩) len ck, .int .i64 v]) := HX2; clear HX2 hg2)
                   go_roundg (len - (x + 1))
                   case measure => have := HGX.out; omega
                   case rel => exact ⟨x + 1, by omega, rfl, by go_num, HX3.out, HS2.out⟩)
          · obtain rfl : x = len := by omega
            have ht2 : Rk.take x = Rk := List.take_of_length_le (Nat.le_of_eq HLE.out)
            have HA2 : Hid (∀ j, ad ≤ j → j < k + 1 → prodOK tn nn ln ad (L j) (R j) (V j)) := HUP.out ⟨HOK.out.1, HOK.out.2, by have h4 := HY.out; rwa [ht2] at h4⟩
            clear ht2
            go_wp2_with fail
            go_roundg (pn - (k + 1))
            case measure => have := HGK.out; omega
            case rel => exact ⟨k + 1, by omega, by omega, rfl, by go_num, HX.out.ph, HA2.out⟩
    · obtain rfl : k = pn := by omega
      have hrt : r = true := HR.out.2 HA.out
      go_wp2_with fail
      go_ret
      exact ⟨by first | rfl | (rw [hrt]; rfl), HX.out.grown⟩

end Go.Proofs.YtkbjbijoekmooaaGreat

/-
  The document's fits and Valid.
-/
namespace Go.Proofs.YtkbjbijoekmooaaGreat
open Go.RowKit

attribute [local go_sem] Oper.semAt_some

theorem mem_idx (l : List Int) (x : Int) : x ∈ l ↔ ∃ j, j < l.length ∧ l.getD j 0 = x := by
  constructor
  · intro h
    obtain ⟨j, hj, rfl⟩ := List.getElem_of_mem h
    exact ⟨j, hj, by simp [List.getD, hj]⟩
  · rintro ⟨j, hj, rfl⟩
    have : l.getD j 0 = l[j] := by simp [List.getD, hj]
    rw [this]; exact List.getElem_mem _

theorem PhAt.lt {w wr : World} {Bg : Nat} {cs : Array Value} (h : PhAt w wr Bg cs) : Bg < wr.heap.size := (Array.getElem?_eq_some_iff.1 h.box).1
theorem PhAt.keptRow {w wr wx : World} {cs : Array Value} {q : Nat} (h : PhAt w wr w.heap.size cs) (hg : wr.grownBy wx (some q)) (hq : w.heap.size + 1 ≤ q) : PhAt w wx w.heap.size cs :=
  ⟨grown_new h.grown hg (by omega), (hg.block _ h.lt (by simp; omega)).trans h.box⟩

set_option maxRecDepth 100000 in
set_option maxHeartbeats 2000000 in
theorem rlefts_any (ta na la pa : Option Addr) (tn nn ln pn tc nc lc pc ad : Nat) (st : Int) (L : Nat → Int) (R : Nat → List Int) (ra : Nat → Option Addr) (rc : Nat → Nat) (V : Nat → Int) (w : World) (hP : ProdsAt w pa pn L R ra rc V) (hn : pn ≤ 97) (had : ad ≤ pn)
    (O : Nat → List Int) (hO : ∀ k, O k = leftsTo (fun i => L (ad + i)) k) :
    Calls Tryz.prog 96 #[.agg #[.slice ta tn tc, .slice na nn nc, .slice la ln lc, .int .i64 st, .slice pa pn pc], .int .i64 ad] w fun e w' => ∃ a' c', e = .returned (.slice a' (O (pn - ad)).length c') ∧ w'.ownsRow w.heap.size 3 1 (.slice a' (O (pn - ad)).length c') (O (pn - ad)).length ((O (pn - ad)).map (Value.int .i64)) ∧ w.grownBy w' none := by
  obtain ⟨i0, hi, hz0, hz1, hz2⟩ := info_parts infoInt
  have HP : Hid (ProdsAt w pa pn L R ra rc V) := hP
  have HX0 : Hid (PhAt w (w.alloc (.cells #[.slice ta tn tc, .slice na nn nc, .slice la ln lc, .int .i64 st, .slice pa pn pc] 27)) w.heap.size #[.slice ta tn tc, .slice na nn nc, .slice la ln lc, .int .i64 st, .slice pa pn pc]) := ⟨World.grownBy_alloc _ _ none, heap_alloc_last w _⟩
  have HOS : Hid (∀ k, O (k + 1) = if L (ad + k) ∈ O k then O k else O k ++ [L (ad + k)]) := fun k => by rw [hO, hO, leftsTo_succ]; rfl
  have HO0 : Hid (O 0 = []) := by show _ = _; rw [hO]; rfl
  have HOL : Hid (∀ k, (O k).length ≤ k) := fun k => by rw [hO]; exact leftsTo_le _ _
  clear hP hO
  go_enter Tryz.func96, Tryz.ntmps96
  go_wp2_with fail
  go_loopg [5, 6] (pn - ad) (fun gk v5 i wr => ∃ k : Nat, ad + k ≤ pn ∧ gk = pn - ad - k ∧ i = .int .i64 ((ad : Int) + k) ∧ ∃ a' c', v5 = .slice a' (O k).length c' ∧ PhAt w wr w.heap.size #[.slice ta tn tc, .slice na nn nc, .slice la ln lc, .int .i64 st, .slice pa pn pc] ∧ wr.ownsRow (w.heap.size + 1) 3 1 (.slice a' (O k).length c') (O k).length ((O k).map (Value.int .i64)))
  case atStart => exact ⟨0, by omega, rfl, by simp, none, 0, by rw [HO0.out]; rfl, HX0.out, by rw [HO0.out]; exact World.ownsRow_nil _ _ _ _⟩
  case round =>
    obtain ⟨k, hk, hgk, rfl, a3, c3, rfl, hX, hown⟩ := hrel
    have HX : Hid (PhAt w wr w.heap.size #[.slice ta tn tc, .slice na nn nc, .slice la ln lc, .int .i64 st, .slice pa pn pc]) := hX
    have HW : Hid (wr.ownsRow (w.heap.size + 1) 3 1 (.slice a3 (O k).length c3) (O k).length ((O k).map (Value.int .i64))) := hown
    have HGK : Hid (gk = pn - ad - k) := hgk
    clear hX hown hgk HX0
    obtain ⟨m0, m1, m2, m3, m4⟩ := HX.out.cells
    by_cases hlt : ad + k < pn
    · obtain ⟨bp, off, rfl, hcs⟩ : ∃ b off, pa = some ⟨b, off, none⟩ ∧ ∀ k, k < pn → w.cell? ⟨b, off + k * 3, none⟩ = some (.int .i64 (L k)) ∧ w.cell? ⟨b, off + k * 3 + 1, none⟩ = some (.slice (ra k) (R k).length (rc k)) ∧ w.cell? ⟨b, off + k * 3 + 2, none⟩ = some (.int .i64 (V k)) ∧ IntsAt w (ra k) (R k) ∧ (ra k = none → rc k = 0) ∧ (R k).length ≤ 17592186044416 := by
        rcases HP.out with h | h
        · omega
        · exact h
      have dlt : decide ((ad : Int) + k < (pn : Int)) = true := decide_eq_true (by omega)
      have HC0 : Hid (∀ W, w.grownBy W none → W.cell? ⟨bp, off + (ad + k) * 3, none⟩ = some (.int .i64 (L (ad + k)))) := fun W hg => hg.cell (hcs (ad + k) hlt).1 (by simp)
      have HST := HOS.out k
      have hol := HOL.out k
      clear hcs
      have HIA : Hid (IntsAt wr a3 (O k)) := owns_intsAt HW.out rfl
      have HMM : Hid (L (ad + k) ∈ O k ↔ ∃ j, j < (O k).length ∧ (O k).getD j 0 = L (ad + k)) := mem_idx _ _
      have HST' : Hid (O (k + 1) = if L (ad + k) ∈ O k then O k else O k ++ [L (ad + k)]) := HST
      clear HST
      generalize hl : L (ad + k) = l at *
      generalize hout : O k = out at *
      obtain ⟨on, hon⟩ : ∃ on, on = out.length := ⟨_, rfl⟩
      have HON : Hid (out.length = on) := hon.symm
      rw [← hon] at hol HW HMM ⊢
      clear hon hl hout
      go_wp2_with fail
      clear m0 m1 m2 m3 m4
      generalize wr = X at *
      go_loopg [7, 8] on (fun gx v7 i wz => ∃ (x : Nat) (sm : Bool), x ≤ on ∧ gx = on - x ∧ i = .int .i64 x ∧ v7 = .bool sm ∧ X.grownBy wz none ∧ (sm = true ↔ ∃ j, j < x ∧ out.getD j 0 = l))
      case atStart => exact ⟨0, false, Nat.zero_le _, rfl, rfl, rfl, grown_refl _ _, by simp⟩
      case round =>
        obtain ⟨x, sm, hx, hgx, rfl, rfl, hq, hsm⟩ := hrel
        have HX2 : Hid (PhAt w wr w.heap.size #[.slice ta tn tc, .slice na nn nc, .slice la ln lc, .int .i64 st, .slice (some ⟨bp, off, none⟩) pn pc]) := HX.out.kept hq
        have HQ : Hid (X.grownBy wr none) := hq
        have HSM : Hid (sm = true ↔ ∃ j, j < x ∧ out.getD j 0 = l) := hsm
        have HGX : Hid (gk = on - x) := hgx
        clear hsm hgx hq
        obtain ⟨m0, m1, m2, m3, m4⟩ := HX2.out.cells
        by_cases hlx : x < on
        · have hxl : x < out.length := by rw [HON.out]; exact hlx
          obtain ⟨bl, of2, rfl, hcs⟩ : ∃ b off, a3 = some ⟨b, off, none⟩ ∧ ∀ i, i < out.length → wr.cell? ⟨b, off + i, none⟩ = some (.int .i64 (out.getD i 0)) := by
            rcases HIA.out with h | ⟨b, o, h1, h2⟩
            · rw [h] at hxl; simp at hxl
            · exact ⟨b, o, h1, fun i hi => HQ.out.cell (h2 i hi) (by simp)⟩
          have c0 := hcs x hxl
          have c1 := HC0.out wr HX2.out.grown
          have HS : Hid (∀ f : Bool, (f = true ↔ (sm = true ∨ out.getD x 0 = l)) → (f = true ↔ ∃ j, j < x + 1 ∧ out.getD j 0 = l)) := fun f hf => by
            rw [hf, HSM.out]
            constructor
            · rintro (⟨j, hj, e⟩ | e)
              · exact ⟨j, by omega, e⟩
              · exact ⟨x, by omega, e⟩
            · rintro ⟨j, hj, e⟩
              by_cases ej : j = x
              · right; rw [← ej]; exact e
              · exact .inl ⟨j, by omega, e⟩
          clear hcs hxl
          generalize out.getD x 0 = h at *
          cases sm with
          | true =>
            have HS2 := HS.out true (by simp)
            have HS3 : Hid (∃ j, j < x + 1 ∧ out.getD j 0 = l) := HS2.1 rfl
            clear HS2 HS
            go_wp2_with fail
            go_quiet (fail)
            have HQ2 : Hid (X.grownBy (wr.drewN nq) none) := grown_trans HQ.out (grown_drewN _ _)
            clear m0 m1 m2 m3 m4 c0 c1
            generalize wr.drewN nq = W at *
            go_wp2_with fail
            go_roundg (on - (x + 1))
            case measure => have := HGX.out; omega
            case rel => exact ⟨x + 1, true, by omega, rfl, by go_num, rfl, HQ2.out, ⟨fun _ => HS3.out, fun _ => rfl⟩⟩
          | false =>
            by_cases he : h = l
            · have d1 : (h == l) = true := beq_iff_eq.2 he
              have HS3 : Hid (∃ j, j < x + 1 ∧ out.getD j 0 = l) := (HS.out true (by simp [he])).1 rfl
              clear HS he
              go_wp2_with fail
              go_quiet (fail)
              have HQ2 : Hid (X.grownBy (wr.drewN nq) none) := grown_trans HQ.out (grown_drewN _ _)
              clear m0 m1 m2 m3 m4 c0 c1
              generalize wr.drewN nq = W at *
              go_wp2_with fail
              go_roundg (on - (x + 1))
              case measure => have := HGX.out; omega
              case rel => exact ⟨x + 1, true, by omega, rfl, by go_num, rfl, HQ2.out, ⟨fun _ => HS3.out, fun _ => rfl⟩⟩
            · have d1 : (h == l) = false := beq_eq_false_iff_ne.2 he
              have HS3 : Hid (¬ ∃ j, j < x + 1 ∧ out.getD j 0 = l) := fun hh => by
                have := (HS.out false (by simp [he])).2 hh
                cases this
              clear HS he
              go_wp2_with fail
              go_quiet (fail)
              have HQ2 : Hid (X.grownBy (wr.drewN nq) none) := grown_trans HQ.out (grown_drewN _ _)
              clear m0 m1 m2 m3 m4 c0 c1
              generalize wr.drewN nq = W at *
              go_wp2_with fail
              go_roundg (on - (x + 1))
              case measure => have := HGX.out; omega
              case rel => exact ⟨x + 1, false, by omega, rfl, by go_num, rfl, HQ2.out, ⟨(fun h => by cases h), fun h => absurd h HS3.out⟩⟩
        · obtain rfl : x = on := by omega
          have HME : Hid (sm = true ↔ l ∈ out) := by
            show _ ↔ _
            rw [HSM.out, HMM.out]
          have HW2 : Hid (wr.ownsRow (w.heap.size + 1) 3 1 (.slice a3 x c3) x (out.map (Value.int .i64))) := by
            exact HW.out.kept HQ.out (by cases hv : (Value.slice a3 x c3).ownBlock <;> simp)
          cases sm with
          | true =>
            have HS2 : Hid (O (k + 1) = out) := by show _ = _; rw [HST'.out, if_pos (HME.out.1 rfl)]
            clear HST'
            go_wp2_with fail
            go_roundg (pn - ad - (k + 1))
            case measure => have := HGK.out; omega
            case rel => exact ⟨k + 1, by omega, rfl, by go_num, a3, c3, by rw [HS2.out, HON.out], HX2.out, by rw [HS2.out, HON.out]; exact HW2.out⟩
          | false =>
            have HS2 : Hid (O (k + 1) = out ++ [l]) := by show _ = _; rw [HST'.out, if_neg (fun hm => by have := HME.out.2 hm; cases this)]
            clear HST'
            have c1 := HC0.out wr HX2.out.grown
            have hsz2 := HX2.out.lt
            have c1' := fun o => (World.grownBy_alloc wr o none).cell c1 (by simp)
            go_wp2_with (at_builtin; refine wpList_append_lies _ rfl _ _ 24 rfl (w.heap.size + 1) 3 i0 (.int .i64 0) 1 8 Tryz.underlying24 hi hz0 hz1 hz2 rfl (by decide) (.slice a3 x c3) x (out.map (Value.int .i64)) rfl (HW2.out.alloc _) ⟨wr.heap.size, 0, none⟩ 1 1 [.int .i64 l] rfl rfl (cell_one_new _ _ _) (ints_oneCell' [l]) (by omega) (by unfold maxLen; omega) (by omega) (by simp; omega) _ rfl ?_; intro g4 c4 w4 hown4 hg4 hloc4 hlt4)
            have HFIN : Hid (w4.ownsRow (w.heap.size + 1) 3 1 (.slice (some ⟨g4, 0, none⟩) (out ++ [l]).length c4) (out ++ [l]).length ((out ++ [l]).map (Value.int .i64)) ∧ PhAt w w4 w.heap.size #[.slice ta tn tc, .slice na nn nc, .slice la ln lc, .int .i64 st, .slice (some ⟨bp, off, none⟩) pn pc]) := by
              refine ⟨by simpa [HON.out] using hown4, ?_⟩
              have hA := HX2.out.kept (World.grownBy_alloc wr (.cells #[.int .i64 l] 3) none)
              cases hv : (Value.slice a3 x c3).ownBlock with
              | none => rw [hv] at hg4; exact hA.kept hg4
              | some q =>
                rw [hv] at hg4
                have hq := (HW2.out.lt q hv).1
                exact hA.keptRow hg4 hq
            clear hown4 hg4 hloc4 hlt4
            go_wp2_with fail
            go_roundg (pn - ad - (k + 1))
            case measure => have := HGK.out; omega
            case rel => exact ⟨k + 1, by omega, rfl, by go_num, some ⟨g4, 0, none⟩, c4, by rw [HS2.out]; simp [HON.out], HFIN.out.2, by rw [HS2.out]; exact HFIN.out.1⟩
    · have dlt : decide ((ad : Int) + k < (pn : Int)) = false := decide_eq_false (by omega)
      have HKE : Hid (k = pn - ad) := by show _ = _; omega
      go_wp2_with fail
      go_ret
      rw [← HKE.out]
      exact ⟨a3, c3, rfl, owns_lower HW.out (by omega), HX.out.grown⟩

end Go.Proofs.YtkbjbijoekmooaaGreat

namespace Go.Proofs.YtkbjbijoekmooaaGreat
open Go.RowKit

attribute [local go_sem] Oper.semAt_some

set_option maxRecDepth 100000 in
set_option maxHeartbeats 4000000 in
theorem fits_any (ta na la pa : Option Addr) (tn nn ln pn tc nc lc pc ad : Nat) (st : Int) (ts : List (ByteArray × Int)) (ns : List ByteArray) (lv : List Int) (L : Nat → Int) (R : Nat → List Int) (ra : Nat → Option Addr) (rc : Nat → Nat) (V : Nat → Int) (w : World)
    (hG : GAt w ta na la pa tc nc lc pc ts ns lv pn L R ra rc V) (hln : ts.length = tn ∧ ns.length = nn ∧ lv.length = ln) (had : ad ≤ 1) (hadn : ad ≤ nn) (hts : ∀ t ∈ ts, t.1.size ≤ 140737488355328) (hns : ∀ s ∈ ns, s.size ≤ 140737488355328)
    (r : Bool) (hr : r = true ↔ fitsOK ad ts ns lv st pn L R V) :
    Calls Tryz.prog 65 #[.agg #[.slice ta tn tc, .slice na nn nc, .slice la ln lc, .int .i64 st, .slice pa pn pc], .int .i64 ad] w fun e w' => e = .returned (.bool r) ∧ w.grownBy w' none := by
  have HG : Hid (GAt w ta na la pa tc nc lc pc ts ns lv pn L R ra rc V) := hG
  have HLN : Hid (ts.length = tn ∧ ns.length = nn ∧ lv.length = ln) := hln
  have HTS : Hid (∀ t ∈ ts, t.1.size ≤ 140737488355328) := hts
  have HNS : Hid (∀ s ∈ ns, s.size ≤ 140737488355328) := hns
  have HR : Hid (r = true ↔ fitsOK ad ts ns lv st pn L R V) := hr
  have HRF : Hid (¬ fitsOK ad ts ns lv st pn L R V → r = false) := fun hno => Bool.eq_false_iff.2 fun hh => hno (hr.1 hh)
  have HX0 : Hid (PhAt w (w.alloc (.cells #[.slice ta tn tc, .slice na nn nc, .slice la ln lc, .int .i64 st, .slice pa pn pc] 27)) w.heap.size #[.slice ta tn tc, .slice na nn nc, .slice la ln lc, .int .i64 st, .slice pa pn pc]) := ⟨World.grownBy_alloc _ _ none, heap_alloc_last w _⟩
  have hbt : tn ≤ 17592186044416 := by rw [← hln.1]; exact hG.tlen
  have hbn : nn ≤ 17592186044416 := by rw [← hln.2.1]; exact hG.nlen
  have hbl : ln ≤ 17592186044416 := by rw [← hln.2.2]; exact hG.llen
  have hbp := hG.plen
  clear hG hln hts hns hr
  go_enter Tryz.func65, Tryz.ntmps65
  have hcase : (64 + ad < nn ∨ (¬ 64 + ad < nn ∧ 65 < tn) ∨ (¬ 64 + ad < nn ∧ ¬ 65 < tn ∧ 96 + ad < pn) ∨ (¬ 64 + ad < nn ∧ ¬ 65 < tn ∧ ¬ 96 + ad < pn ∧ pn < 1 + ad) ∨ (¬ 64 + ad < nn ∧ ¬ 65 < tn ∧ ¬ 96 + ad < pn ∧ ¬ pn < 1 + ad ∧ 64 < ln)) ∨ (¬ 64 + ad < nn ∧ ¬ 65 < tn ∧ ¬ 96 + ad < pn ∧ ¬ pn < 1 + ad ∧ ¬ 64 < ln) := by omega
  rcases hcase with hc | hc
  · have hf : r = false := HRF.out fun h => by
      obtain ⟨e1, e2, e3⟩ := HLN.out
      have h1 := h.nn
      have h2 := h.tn
      have h3 := h.pn
      have h4 := h.p1
      have h5 := h.ln
      rw [e2] at h1
      rw [e1] at h2
      rw [e3] at h5
      omega
    rcases hc with hc | hc | hc | hc | hc
    all_goals
      first | (have d1 : decide (64 + (ad : Int) < nn) = true := decide_eq_true (by omega)) | (have d1 : decide (64 + (ad : Int) < nn) = false := decide_eq_false (by omega))
      try first | (have d2 : decide (65 < (tn : Int)) = true := decide_eq_true (by omega)) | (have d2 : decide (65 < (tn : Int)) = false := decide_eq_false (by omega))
      try first | (have d3 : decide (96 + (ad : Int) < pn) = true := decide_eq_true (by omega)) | (have d3 : decide (96 + (ad : Int) < pn) = false := decide_eq_false (by omega))
      try first | (have d4 : decide ((pn : Int) < 1 + ad) = true := decide_eq_true (by omega)) | (have d4 : decide ((pn : Int) < 1 + ad) = false := decide_eq_false (by omega))
      try first | (have d5 : decide (64 < (ln : Int)) = true := decide_eq_true (by omega)) | (have d5 : decide (64 < (ln : Int)) = false := decide_eq_false (by omega))
      clear hc
      go_wp2_with fail
      go_ret
      exact ⟨by first | rfl | (rw [hf]; rfl), HX0.out.grown⟩
  · have d1 : decide (64 + (ad : Int) < nn) = false := decide_eq_false (by omega)
    have d2 : decide (65 < (tn : Int)) = false := decide_eq_false (by omega)
    have d3 : decide (96 + (ad : Int) < pn) = false := decide_eq_false (by omega)
    have d4 : decide ((pn : Int) < 1 + ad) = false := decide_eq_false (by omega)
    have d5 : decide (64 < (ln : Int)) = false := decide_eq_false (by omega)
    obtain ⟨h1, h2, h3, h4, h5⟩ := hc
    by_cases h6 : 64 < (tn : Int) - 1 + nn - ad
    · have d6 : decide (64 < (tn : Int) - 1 + nn - ad) = true := decide_eq_true h6
      have hf : r = false := HRF.out fun h => by
        have h7 := h.syms
        rw [HLN.out.1, HLN.out.2.1] at h7
        omega
      go_wp2_with fail
      go_ret
      exact ⟨by first | rfl | (rw [hf]; rfl), HX0.out.grown⟩
    · have d6 : decide (64 < (tn : Int) - 1 + nn - ad) = false := decide_eq_false h6
      obtain ⟨rT, hrT⟩ := boolOf ((0 < ts.length ∧ ts.getD 0 (⟨#[]⟩, 0) = (⟨#[]⟩, 0)) ∧ ∀ i, 1 ≤ i → i < ts.length → termAt ts ln i)
      have KT : Hid (∀ W, w.grownBy W none → Calls Tryz.prog 92 #[.agg #[.slice ta tn tc, .slice na nn nc, .slice la ln lc, .int .i64 st, .slice pa pn pc]] W fun e w' => e = .returned (.bool rT) ∧ W.grownBy w' none) := fun W hg => termsFit_any ta na la pa tn nn ln pn tc nc lc pc st ts W (HG.out.kept hg).terms HLN.out.1 (by omega) HTS.out rT hrT
      have HRT : Hid (rT = true ↔ ((0 < ts.length ∧ ts.getD 0 (⟨#[]⟩, 0) = (⟨#[]⟩, 0)) ∧ ∀ i, 1 ≤ i → i < ts.length → termAt ts ln i)) := hrT
      have HNUM : Hid (¬ 64 + ad < nn ∧ ¬ 65 < tn ∧ ¬ 96 + ad < pn ∧ ¬ pn < 1 + ad ∧ ¬ 64 < ln ∧ ¬ 64 < (tn : Int) - 1 + nn - ad) := ⟨h1, h2, h3, h4, h5, h6⟩
      clear hrT
      go_wp2_with fail
      refine (KT.out _ HX0.out.grown).mono ?_
      rintro e w1 ⟨rfl, hg1⟩
      have HX1 : Hid (PhAt w w1 w.heap.size #[.slice ta tn tc, .slice na nn nc, .slice la ln lc, .int .i64 st, .slice pa pn pc]) := HX0.out.kept hg1
      clear hg1 HX0 KT d1 d2 d3 d4 d5 d6
      cases rT with
      | false =>
        have hf : r = false := HRF.out fun h => by
          have h7 := h.terms
          rw [HLN.out.2.2] at h7
          have := HRT.out.2 h7
          cases this
        go_wp2_with fail
        go_ret
        exact ⟨by first | rfl | (rw [hf]; rfl), HX1.out.grown⟩
      | true =>
        have HTT := HRT.out.1 rfl
        have HT0 : Hid (0 < tn) := by have := HTT.1.1; rw [HLN.out.1] at this; exact this
        obtain ⟨rB, hrB⟩ := boolOf (∀ j, j < lv.length → levelOK ts lv j)
        obtain ⟨rC, hrC⟩ := boolOf (∀ i, ad ≤ i → i < ns.length → nonAt ns ad i)
        obtain ⟨rD, hrD⟩ := boolOf (∀ i, ad ≤ i → i < pn → prodOK tn nn ln ad (L i) (R i) (V i))
        have KB : Hid (∀ W, w.grownBy W none → Calls Tryz.prog 93 #[.agg #[.slice ta tn tc, .slice na nn nc, .slice la ln lc, .int .i64 st, .slice pa pn pc]] W fun e w' => e = .returned (.bool rB) ∧ W.grownBy w' none) := fun W hg => levelsFit_any ta na la pa tn nn ln pn tc nc lc pc st ts lv W (HG.out.kept hg).terms (HG.out.kept hg).levels HLN.out.1 HLN.out.2.2 (by omega) (by omega) rB hrB
        have KC : Hid (∀ W, w.grownBy W none → Calls Tryz.prog 94 #[.agg #[.slice ta tn tc, .slice na nn nc, .slice la ln lc, .int .i64 st, .slice pa pn pc], .int .i64 ad] W fun e w' => e = .returned (.bool rC) ∧ W.grownBy w' none) := fun W hg => nonsFit_any ta na la pa tn nn ln pn tc nc lc pc ad st ns W (HG.out.kept hg).nons HLN.out.2.1 (by omega) hadn HNS.out rC hrC
        have KD : Hid (∀ W, w.grownBy W none → Calls Tryz.prog 95 #[.agg #[.slice ta tn tc, .slice na nn nc, .slice la ln lc, .int .i64 st, .slice pa pn pc], .int .i64 ad, .int .i64 ((tn : Int) + ad)] W fun e w' => e = .returned (.bool rD) ∧ W.grownBy w' none) := fun W hg => prodsFit_any ta na la pa tn nn ln pn tc nc lc pc ad st _ L R ra rc V W (HG.out.kept hg).prods (by omega) HT0.out (by omega) (by omega) (by omega) rfl rD hrD
        obtain ⟨M, hM⟩ : ∃ M, M = (leftsTo (fun i => L (ad + i)) (pn - ad)).length := ⟨_, rfl⟩
        have KL : Hid (∀ W, w.grownBy W none → Calls Tryz.prog 96 #[.agg #[.slice ta tn tc, .slice na nn nc, .slice la ln lc, .int .i64 st, .slice pa pn pc], .int .i64 ad] W fun e w' => ∃ a' c', e = .returned (.slice a' M c') ∧ W.grownBy w' none) := fun W hg => (rlefts_any ta na la pa tn nn ln pn tc nc lc pc ad st L R ra rc V W (HG.out.kept hg).prods (by omega) (by omega) (fun k => leftsTo (fun i => L (ad + i)) k) (fun _ => rfl)).mono fun e w' h => by
          obtain ⟨a', c', he, _, hg'⟩ := h
          exact ⟨a', c', by rw [hM]; exact he, hg'⟩
        have HRB : Hid (rB = true ↔ ∀ j, j < lv.length → levelOK ts lv j) := hrB
        have HRC : Hid (rC = true ↔ ∀ i, ad ≤ i → i < ns.length → nonAt ns ad i) := hrC
        have HRD : Hid (rD = true ↔ ∀ i, ad ≤ i → i < pn → prodOK tn nn ln ad (L i) (R i) (V i)) := hrD
        have HM : Hid (M = (leftsTo (fun i => L (ad + i)) (pn - ad)).length) := hM
        have HEQ : Hid (r = true ↔ rB = true ∧ rC = true ∧ rD = true ∧ (M : Int) = (nn : Int) - ad ∧ (tn : Int) + ad ≤ st ∧ st < (tn : Int) + nn) := by
          show _ ↔ _
          rw [HR.out, HRB.out, HRC.out, HRD.out]
          obtain ⟨e1, e2, e3⟩ := HLN.out
          constructor
          · intro h
            have h7 := h.prods
            have h8 := h.lefts
            have h9 := h.start
            rw [e1, e2, e3] at h7
            rw [e2, ← hM] at h8
            rw [e1, e2] at h9
            exact ⟨h.levels, h.nons, h7, by omega, h9.1, h9.2⟩
          · rintro ⟨q1, q2, q3, q4, q5, q6⟩
            have HT' := HTT
            refine ⟨by rw [e2]; omega, by rw [e1]; omega, by omega, by omega, by rw [e3]; omega, by rw [e1, e2]; omega, by rw [e3]; exact HT', q1, q2, by rw [e1, e2, e3]; exact q3, by rw [e2, ← hM]; omega, by rw [e1, e2]; exact ⟨q5, q6⟩⟩
        have hMb : M ≤ 97 := by rw [hM]; exact Nat.le_trans (leftsTo_le _ _) (by omega)
        clear hrB hrC hrD hM HTT
        obtain ⟨m0, m1, m2, m3, m4⟩ := HX1.out.cells
        go_wp2_with fail
        refine (KB.out _ HX1.out.grown).mono ?_
        rintro e w2 ⟨rfl, hg2⟩
        have HX2 : Hid (PhAt w w2 w.heap.size #[.slice ta tn tc, .slice na nn nc, .slice la ln lc, .int .i64 st, .slice pa pn pc]) := HX1.out.kept hg2
        clear hg2 HX1 KB m0 m1 m2 m3 m4
        obtain ⟨m0, m1, m2, m3, m4⟩ := HX2.out.cells
        go_wp2_with fail
        refine (KC.out _ HX2.out.grown).mono ?_
        rintro e w3 ⟨rfl, hg3⟩
        have HX3 : Hid (PhAt w w3 w.heap.size #[.slice ta tn tc, .slice na nn nc, .slice la ln lc, .int .i64 st, .slice pa pn pc]) := HX2.out.kept hg3
        clear hg3 HX2 KC m0 m1 m2 m3 m4
        obtain ⟨m0, m1, m2, m3, m4⟩ := HX3.out.cells
        go_wp2_with fail
        refine (KD.out _ HX3.out.grown).mono ?_
        rintro e w4 ⟨rfl, hg4⟩
        have HX4 : Hid (PhAt w w4 w.heap.size #[.slice ta tn tc, .slice na nn nc, .slice la ln lc, .int .i64 st, .slice pa pn pc]) := HX3.out.kept hg4
        clear hg4 HX3 KD m0 m1 m2 m3 m4
        obtain ⟨m0, m1, m2, m3, m4⟩ := HX4.out.cells
        go_wp2_with fail
        refine (KL.out _ HX4.out.grown).mono ?_
        rintro e w5 ⟨la', lc', rfl, hg5⟩
        have HX5 : Hid (PhAt w w5 w.heap.size #[.slice ta tn tc, .slice na nn nc, .slice la ln lc, .int .i64 st, .slice pa pn pc]) := HX4.out.kept hg5
        clear hg5 HX4 KL m0 m1 m2 m3 m4
        go_wp2_with fail
        have hA : (fun x => PhAt w x w.heap.size #[.slice ta tn tc, .slice na nn nc, .slice la ln lc, .int .i64 st, .slice pa pn pc]) w5.drew := HX5.out.kept (grown_drewN w5 1)
        haveI hne : Nonempty (WBox (fun x => PhAt w x w.heap.size #[.slice ta tn tc, .slice na nn nc, .slice la ln lc, .int .i64 st, .slice pa pn pc])) := ⟨⟨_, hA⟩⟩
        have g0 := fun s : WBox (fun x => PhAt w x w.heap.size #[.slice ta tn tc, .slice na nn nc, .slice la ln lc, .int .i64 st, .slice pa pn pc]) => s.ok.cells.1
        have g1 := fun s : WBox (fun x => PhAt w x w.heap.size #[.slice ta tn tc, .slice na nn nc, .slice la ln lc, .int .i64 st, .slice pa pn pc]) => s.ok.cells.2.1
        have g2 := fun s : WBox (fun x => PhAt w x w.heap.size #[.slice ta tn tc, .slice na nn nc, .slice la ln lc, .int .i64 st, .slice pa pn pc]) => s.ok.cells.2.2.1
        have g3 := fun s : WBox (fun x => PhAt w x w.heap.size #[.slice ta tn tc, .slice na nn nc, .slice la ln lc, .int .i64 st, .slice pa pn pc]) => s.ok.cells.2.2.2.1
        have g4 := fun s : WBox (fun x => PhAt w x w.heap.size #[.slice ta tn tc, .slice na nn nc, .slice la ln lc, .int .i64 st, .slice pa pn pc]) => s.ok.cells.2.2.2.2
        have K1 : Hid (∀ s : WBox (fun x => PhAt w x w.heap.size #[.slice ta tn tc, .slice na nn nc, .slice la ln lc, .int .i64 st, .slice pa pn pc]), Calls Tryz.prog 81 #[.agg #[.slice ta tn tc, .slice na nn nc, .slice la ln lc, .int .i64 st, .slice pa pn pc]] s.w fun e w' => e = .returned (.int .i64 ((tn : Int) + nn)) ∧ ∃ s' : WBox (fun x => PhAt w x w.heap.size #[.slice ta tn tc, .slice na nn nc, .slice la ln lc, .int .i64 st, .slice pa pn pc]), w' = s'.w) := fun s => calls_class ((symbols_any ta na la pa tn nn ln pn tc nc lc pc st s.w (by omega) (by omega)).mono fun e w' h => ⟨h.1, s.ok.kept h.2⟩)
        have hcase : (rB = false ∨ (rB = true ∧ rC = false) ∨ (rB = true ∧ rC = true ∧ rD = false) ∨ (rB = true ∧ rC = true ∧ rD = true ∧ ¬ (M : Int) = (nn : Int) - ad) ∨ (rB = true ∧ rC = true ∧ rD = true ∧ (M : Int) = (nn : Int) - ad ∧ ¬ (tn : Int) + ad ≤ st)) ∨ (rB = true ∧ rC = true ∧ rD = true ∧ (M : Int) = (nn : Int) - ad ∧ (tn : Int) + ad ≤ st) := by
          cases rB <;> cases rC <;> cases rD <;> simp <;> omega
        rcases hcase with hc | hc
        · have hf : r = false := Bool.eq_false_iff.2 fun hh => by
            obtain ⟨q1, q2, q3, q4, q5, q6⟩ := HEQ.out.1 hh
            subst q1 q2 q3
            simp at hc
            omega
          rcases hc with hc | ⟨hc, hc2⟩ | ⟨hc, hc2, hc3⟩ | ⟨hc, hc2, hc3, hc4⟩ | ⟨hc, hc2, hc3, hc4, hc5⟩
          all_goals
            try subst hc
            try subst hc2
            try subst hc3
            try first | (have d6 : ((M : Int) == (nn : Int) - ad) = true := beq_iff_eq.2 (by omega)) | (have d6 : ((M : Int) == (nn : Int) - ad) = false := beq_eq_false_iff_ne.2 (by omega))
            try first | (have d7 : decide ((tn : Int) + ad ≤ st) = true := decide_eq_true (by omega)) | (have d7 : decide ((tn : Int) + ad ≤ st) = false := decide_eq_false (by omega))
            try clear hc5
            try clear hc4
            refine wp_region_class (p := fun x => PhAt w x w.heap.size #[.slice ta tn tc, .slice na nn nc, .slice la ln lc, .int .i64 st, .slice pa pn pc]) (by kernel_rfl) (by kernel_rfl) hA ?_
            repeat (go_big_quiet_step (first | (go_at_call 81; rename_i s; with_reducible exact K1.out s)))
            refine wpQuiet_nil ?_
            rintro _ ⟨s, rfl⟩
            go_wp2_with fail
            go_ret
            exact ⟨by first | rfl | (rw [hf]; rfl), s.ok.grown⟩
        · obtain ⟨hc, hc2, hc3, hc4, hc5⟩ := hc
          subst hc hc2 hc3
          have HFIN : Hid (decide (st < (tn : Int) + nn) = r) := by
            show _ = _
            rw [Bool.eq_iff_iff, HEQ.out, decide_eq_true_eq]
            exact ⟨fun h => ⟨rfl, rfl, rfl, hc4, hc5, h⟩, fun h => h.2.2.2.2.2⟩
          have d6 : ((M : Int) == (nn : Int) - ad) = true := beq_iff_eq.2 hc4
          have d7 : decide ((tn : Int) + ad ≤ st) = true := decide_eq_true hc5
          clear hc4 hc5
          refine wp_region_class (p := fun x => PhAt w x w.heap.size #[.slice ta tn tc, .slice na nn nc, .slice la ln lc, .int .i64 st, .slice pa pn pc]) (by kernel_rfl) (by kernel_rfl) hA ?_
          repeat (go_big_quiet_step (first | (go_at_call 81; rename_i s; with_reducible exact K1.out s)))
          refine wpQuiet_nil ?_
          rintro _ ⟨s, rfl⟩
          go_wp2_with fail
          go_ret
          exact ⟨by rw [← HFIN.out]; rfl, s.ok.grown⟩

end Go.Proofs.YtkbjbijoekmooaaGreat

/-
  The document's Valid of any grammar.
-/
namespace Go.Proofs.YtkbjbijoekmooaaGreat
open Go.RowKit

attribute [local go_sem] Oper.semAt_some

end Go.Proofs.YtkbjbijoekmooaaGreat

/-
  The document's Same of two grammars, walked.
-/
namespace Go.Proofs.YtkbjbijoekmooaaGreat
open Go.RowKit Go.Maps Go.Shelf

attribute [local go_sem] Oper.semAt_some

section
variable (ta na la pa ta' na' la' pa' : Option Addr) (tn nn ln pn tc nc lc pc tn' nn' ln' pn' tc' nc' lc' pc' : Nat) (st st' : Int)

end

section
variable (ta na la pa ta' na' la' pa' : Option Addr) (tn nn ln pn tc nc lc pc ln' tc' nc' lc' pc' : Nat) (st : Int)

end

end Go.Proofs.YtkbjbijoekmooaaGreat

/-
  Same and the document's Same of any two grammars, wherever they lie.
-/
namespace Go.Proofs.YtkbjbijoekmooaaGreat
open Go.RowKit Go.Maps Go.Shelf

section
variable {w : World} {ta na la pa ta' na' la' pa' : Option Addr} {tc nc lc pc tc' nc' lc' pc' : Nat} {ts ts' : List (ByteArray × Int)} {ns ns' : List ByteArray} {lv lv' : List Int} {n n' : Nat} {L L' : Nat → Int} {R R' : Nat → List Int} {ra ra' : Nat → Option Addr} {rc rc' : Nat → Nat} {V V' : Nat → Int} (st st' : Int)

/-- Are two grammars the same? -/
def sameG (ts ts' : List (ByteArray × Int)) (ns ns' : List ByteArray) (lv lv' : List Int) (st st' : Int) (n n' : Nat) (L L' : Nat → Int) (R R' : Nat → List Int) (V V' : Nat → Int) : Prop := ts = ts' ∧ ns = ns' ∧ lv = lv' ∧ st = st' ∧ prodsSame n n' L R V L' R' V'

end

end Go.Proofs.YtkbjbijoekmooaaGreat

/-
  Term, Non and Start of the document's builder.
-/
namespace Go.Proofs.YtkbjbijoekmooaaGreat
open Go.RowKit

attribute [local go_sem] Oper.semAt_some

def BS.startA (S : BS) (h : Int) : Int × BS := if S.isN h then (0, { S with start := h }) else (1, S)
end Go.Proofs.YtkbjbijoekmooaaGreat

/-
  Grade of the document's builder.
-/
namespace Go.Proofs.YtkbjbijoekmooaaGreat
open Go.RowKit

attribute [local go_sem] Oper.semAt_some

end Go.Proofs.YtkbjbijoekmooaaGreat

/-
  Level of the document's builder.
-/
namespace Go.Proofs.YtkbjbijoekmooaaGreat
open Go.RowKit

attribute [local go_sem] Oper.semAt_some

/-- A list's places: what Level asks of each. -/
def levAsk (S : BS) (hs : List Int) (j : Nat) : Prop := S.isT (hs.getD j 0) = true ∧ S.lev (hs.getD j 0).toNat = 0 ∧ ∀ m, m < j → hs.getD m 0 ≠ hs.getD j 0
/-- The levels, told of the first k. -/
def levTold (S : BS) (K : Int) (hs : List Int) (k : Nat) : Nat → Int := fun j => if (j : Int) ∈ hs.take k then K else S.lev j
def BS.tolds (S : BS) (side K : Int) (hs : List Int) (k : Nat) : BS := { S with lev := levTold S K hs k, sides := S.sides ++ [side] }
end Go.Proofs.YtkbjbijoekmooaaGreat

/-
  Rule of the document's builder.
-/
namespace Go.Proofs.YtkbjbijoekmooaaGreat
open Go.RowKit Go.Maps Go.Shelf

attribute [local go_sem] Oper.semAt_some

end Go.Proofs.YtkbjbijoekmooaaGreat

/-
  Rule of the document's builder, walked.
-/
namespace Go.Proofs.YtkbjbijoekmooaaGreat
open Go.RowKit Go.Maps Go.Shelf

attribute [local go_sem] Oper.semAt_some

end Go.Proofs.YtkbjbijoekmooaaGreat

/-
  Grammar of the document's builder: what is being made, step by step.
-/
namespace Go.Proofs.YtkbjbijoekmooaaGreat
open Go.RowKit Go.Maps Go.Shelf

/-- The grammar that is being made: the result's cell, the places, the grammar's box and its lists; all behind Y. -/
structure GbAt (Y : World) (H : Nat) (wz : World) (vt vn vl vp : Value) (st : Int) (ts : List (ByteArray × Int)) (ns : List ByteArray) (lv : List Int) (N : Nat) (pl : Nat → Int) (ps : List PR) : Prop where
  hH : Y.heap.size + 2 ≤ H
  grown : Y.grownBy wz none
  res : wz.heap[Y.heap.size]? = some (.cells #[.slice none 0 0, .slice none 0 0, .slice none 0 0, .int .i64 0, .slice none 0 0] 27 (0, 0))
  place : wz.heap[Y.heap.size + 1]? = some (.cells ((List.range N).map fun i => Value.int .i64 (pl i)).toArray 3 (0, 0))
  box : wz.heap[H + 1]? = some (.cells #[vt, vn, vl, .int .i64 st, vp] 27 (0, 0))
  tr : wz.ownsRow (H) 88 2 vt ts.length (tmsL ts)
  nr : wz.ownsRow (H + 2) 9 1 vn ns.length (ns.map Value.string)
  lr : wz.ownsRow (H + 2) 3 1 vl lv.length (lv.map (Value.int .i64))
  pr : ∃ rs : List Value, rs.length = ps.length ∧ wz.ownsRow (H + 2) 71 3 vp ps.length ((ps.zip rs).flatMap fun x => prL x.1 x.2) ∧
    ∀ i, i < ps.length → wz.ownsRow (H + 2) 3 1 (rs.getD i undef) (ps.getD i ⟨0, [], 0⟩).right.length ((ps.getD i ⟨0, [], 0⟩).right.map (Value.int .i64))

section
variable {Y : World} {H : Nat} {wz w' : World} {vt vn vl vp : Value} {st : Int} {ts : List (ByteArray × Int)} {ns : List ByteArray} {lv : List Int} {N : Nat} {pl : Nat → Int} {ps : List PR}

theorem GbAt.lt (h : GbAt Y H wz vt vn vl vp st ts ns lv N pl ps) : H + 1 < wz.heap.size := (Array.getElem?_eq_some_iff.1 h.box).1
theorem GbAt.kept (h : GbAt Y H wz vt vn vl vp st ts ns lv N pl ps) (hg : wz.grownBy w' none) : GbAt Y H w' vt vn vl vp st ts ns lv N pl ps := by
  have hlt := h.lt
  have hH := h.hH
  obtain ⟨rs, e1, e2, e3⟩ := h.pr
  exact ⟨h.hH, grown_trans h.grown hg, (hg.block _ (by omega) (by simp)).trans h.res, (hg.block _ (by omega) (by simp)).trans h.place, (hg.block _ (by omega) (by simp)).trans h.box, h.tr.kept hg (none_ne rfl), h.nr.kept hg (none_ne rfl), h.lr.kept hg (none_ne rfl),
    rs, e1, e2.kept hg (none_ne rfl), fun i hi => (e3 i hi).kept hg (none_ne rfl)⟩
theorem GbAt.cells (h : GbAt Y H wz vt vn vl vp st ts ns lv N pl ps) : wz.cell? ⟨H + 1, 0, none⟩ = some vt ∧ wz.cell? ⟨H + 1, 1, none⟩ = some vn ∧ wz.cell? ⟨H + 1, 2, none⟩ = some vl ∧ wz.cell? ⟨H + 1, 3, none⟩ = some (.int .i64 st) ∧ wz.cell? ⟨H + 1, 4, none⟩ = some vp := by
  refine ⟨?_, ?_, ?_, ?_, ?_⟩ <;> rw [cell_of_row _ _ _ _ _ _ h.box] <;> rfl
theorem GbAt.free (h : GbAt Y H wz vt vn vl vp st ts ns lv N pl ps) (i : Nat) : wz.frozen? ⟨H + 1, i, none⟩ = false := frozen_of_row _ _ i _ _ h.box
/-- A row that has grown by one of its own kind, in its place or elsewhere. -/
theorem GbAt.grew (h : GbAt Y H wz vt vn vl vp st ts ns lv N pl ps) {v : Value} {B e s n : Nat} {xs : List Value} (hv : wz.ownsRow B e s v n xs) (hB : H ≤ B) (he : e ≠ 27) (hg : wz.grownBy w' v.ownBlock) :
    Y.grownBy w' none ∧ w'.heap[Y.heap.size]? = some (.cells #[.slice none 0 0, .slice none 0 0, .slice none 0 0, .int .i64 0, .slice none 0 0] 27 (0, 0)) ∧ w'.heap[Y.heap.size + 1]? = some (.cells ((List.range N).map fun i => Value.int .i64 (pl i)).toArray 3 (0, 0)) ∧ w'.heap[H + 1]? = some (.cells #[vt, vn, vl, .int .i64 st, vp] 27 (0, 0)) := by
  have hlt := h.lt
  have hH := h.hH
  have hne : ∀ q, v.ownBlock = some q → H ≤ q ∧ q ≠ H + 1 := fun q hq => by
    refine ⟨Nat.le_trans hB (hv.lt q hq).1, fun e1 => ?_⟩
    rcases owns_nebox hv h.box he with h1 | h1
    · rw [h1] at hq; cases hq
    · exact h1 (by rw [hq, e1])
  refine ⟨?_, (hg.block _ (by omega) (fun e1 => by have := hne _ e1.symm; omega)).trans h.res, (hg.block _ (by omega) (fun e1 => by have := hne _ e1.symm; omega)).trans h.place, (hg.block _ (by omega) (fun e1 => (hne _ e1.symm).2 rfl)).trans h.box⟩
  cases hq : v.ownBlock with
  | none => rw [hq] at hg; exact grown_trans h.grown hg
  | some q => rw [hq] at hg; exact grown_new h.grown hg (by have := (hne q hq).1; omega)

/-- A store into the box. -/
theorem GbAt.boxed {vt' vn' vl' vp' : Value} {st' : Int} {i : Nat} {u : Value} (hH : Y.heap.size + 2 ≤ H) (hG : Y.grownBy wz none) (hres : wz.heap[Y.heap.size]? = some (.cells #[.slice none 0 0, .slice none 0 0, .slice none 0 0, .int .i64 0, .slice none 0 0] 27 (0, 0))) (hpl : wz.heap[Y.heap.size + 1]? = some (.cells ((List.range N).map fun i => Value.int .i64 (pl i)).toArray 3 (0, 0)))
    (hbox : wz.heap[H + 1]? = some (.cells #[vt, vn, vl, .int .i64 st, vp] 27 (0, 0))) (hset : (#[vt, vn, vl, .int .i64 st, vp] : Array Value).setIfInBounds i u = #[vt', vn', vl', .int .i64 st', vp'])
    (tr : wz.ownsRow (H) 88 2 vt' ts.length (tmsL ts)) (nr : wz.ownsRow (H + 2) 9 1 vn' ns.length (ns.map Value.string)) (lr : wz.ownsRow (H + 2) 3 1 vl' lv.length (lv.map (Value.int .i64)))
    (rs : List Value) (e1 : rs.length = ps.length) (e2 : wz.ownsRow (H + 2) 71 3 vp' ps.length ((ps.zip rs).flatMap fun x => prL x.1 x.2)) (e3 : ∀ i, i < ps.length → wz.ownsRow (H + 2) 3 1 (rs.getD i undef) (ps.getD i ⟨0, [], 0⟩).right.length ((ps.getD i ⟨0, [], 0⟩).right.map (Value.int .i64))) :
    GbAt Y H (wz.setCell ⟨H + 1, i, none⟩ u) vt' vn' vl' vp' st' ts ns lv N pl ps := by
  have hst := grown_setCell (w := wz) (H + 1) i u
  have hlt : H + 1 < wz.heap.size := (Array.getElem?_eq_some_iff.1 hbox).1
  refine ⟨hH, grown_new hG hst (by omega), (hst.block _ (by omega) (by simp <;> omega)).trans hres, (hst.block _ (by omega) (by simp <;> omega)).trans hpl, by rw [heap_setCell_same wz _ _ _ _ _ hbox, hset], tr.kept hst (owns_nebox tr hbox (by decide)), nr.kept hst (owns_nebox nr hbox (by decide)), lr.kept hst (owns_nebox lr hbox (by decide)), rs, e1, e2.kept hst (owns_nebox e2 hbox (by decide)), fun j hj => (e3 j hj).kept hst (owns_nebox (e3 j hj) hbox (by decide))⟩

/-- The levels' sides: while there are no productions. -/
theorem GbAt.setL {v' : Value} {lv' : List Int} (h : GbAt Y H wz vt vn vl vp st ts ns lv N pl []) (hg : wz.grownBy w' vl.ownBlock) (ho : w'.ownsRow (H + 2) 3 1 v' lv'.length (lv'.map (Value.int .i64))) : GbAt Y H (w'.setCell ⟨H + 1, 2, none⟩ v') vt vn v' vp st ts ns lv' N pl [] := by
  obtain ⟨g1, g2, g3, g4⟩ := h.grew h.lr (by omega) (by decide) hg
  obtain ⟨rs, e1, e2, e3⟩ := h.pr
  exact GbAt.boxed h.hH g1 g2 g3 g4 rfl (h.tr.kept hg (owns_ne h.tr h.lr (by decide))) (h.nr.kept hg (owns_ne h.nr h.lr (by decide))) ho rs e1 (e2.kept hg (owns_ne e2 h.lr (by decide))) (fun i hi => by simp at hi)
/-- A nonterminal more. -/
theorem GbAt.pushN {v' : Value} {ns' : List ByteArray} (h : GbAt Y H wz vt vn vl vp st ts ns lv N pl ps) (hg : wz.grownBy w' vn.ownBlock) (ho : w'.ownsRow (H + 2) 9 1 v' ns'.length (ns'.map Value.string)) : GbAt Y H (w'.setCell ⟨H + 1, 1, none⟩ v') vt v' vl vp st ts ns' lv N pl ps := by
  obtain ⟨g1, g2, g3, g4⟩ := h.grew h.nr (by omega) (by decide) hg
  obtain ⟨rs, e1, e2, e3⟩ := h.pr
  exact GbAt.boxed h.hH g1 g2 g3 g4 rfl (h.tr.kept hg (owns_ne h.tr h.nr (by decide))) ho (h.lr.kept hg (owns_ne h.lr h.nr (by decide))) rs e1 (e2.kept hg (owns_ne e2 h.nr (by decide))) (fun i hi => (e3 i hi).kept hg (owns_ne (e3 i hi) h.nr (by decide)))
end

/-- A production that is being made, in its box right behind Y. -/
structure PuAt (Y wz : World) (left : Int) (l : List Int) (lv : Int) (v : Value) : Prop where
  grown : Y.grownBy wz none
  box : wz.heap[Y.heap.size]? = some (.cells #[.int .i64 left, v, .int .i64 lv] 71 (0, 0))
  row : wz.ownsRow (Y.heap.size + 1) 3 1 v l.length (l.map (Value.int .i64))
theorem PuAt.lt {Y wz : World} {left lv : Int} {l : List Int} {v : Value} (h : PuAt Y wz left l lv v) : Y.heap.size < wz.heap.size := (Array.getElem?_eq_some_iff.1 h.box).1
theorem PuAt.kept {Y wz wx : World} {left lv : Int} {l : List Int} {v : Value} (h : PuAt Y wz left l lv v) (hg : wz.grownBy wx none) : PuAt Y wx left l lv v :=
  ⟨grown_trans h.grown hg, (hg.block _ h.lt (by simp)).trans h.box, h.row.kept hg (none_ne rfl)⟩
theorem PuAt.cells {Y wz : World} {left lv : Int} {l : List Int} {v : Value} (h : PuAt Y wz left l lv v) : wz.cell? ⟨Y.heap.size, 0, none⟩ = some (.int .i64 left) ∧ wz.cell? ⟨Y.heap.size, 1, none⟩ = some v ∧ wz.cell? ⟨Y.heap.size, 2, none⟩ = some (.int .i64 lv) := by
  refine ⟨?_, ?_, ?_⟩ <;> rw [cell_of_row _ _ _ _ _ _ h.box] <;> rfl
theorem PuAt.free {Y wz : World} {left lv : Int} {l : List Int} {v : Value} (h : PuAt Y wz left l lv v) (i : Nat) : wz.frozen? ⟨Y.heap.size, i, none⟩ = false := frozen_of_row _ _ i _ _ h.box
theorem PuAt.ne {Y wz : World} {left lv : Int} {l : List Int} {v : Value} (h : PuAt Y wz left l lv v) : v.ownBlock ≠ some Y.heap.size := fun e => by
  have := (h.row.lt _ e).1
  omega
/-- The row has grown, and lies elsewhere or in its place. -/
theorem PuAt.grew {Y wz w4 : World} {left lv : Int} {l : List Int} {v : Value} (h : PuAt Y wz left l lv v) (hg : wz.grownBy w4 v.ownBlock) : w4.heap[Y.heap.size]? = some (.cells #[.int .i64 left, v, .int .i64 lv] 71 (0, 0)) ∧ Y.grownBy w4 none := by
  refine ⟨(hg.block _ h.lt (fun e => h.ne e.symm)).trans h.box, ?_⟩
  cases hv : v.ownBlock with
  | none => rw [hv] at hg; exact grown_trans h.grown hg
  | some q => rw [hv] at hg; exact grown_new h.grown hg (by have := (h.row.lt q hv).1; omega)
theorem PuAt.push {Y wz w4 : World} {left lv x : Int} {l : List Int} {v v' : Value} (h : PuAt Y wz left l lv v) (hg : wz.grownBy w4 v.ownBlock) (ho : w4.ownsRow (Y.heap.size + 1) 3 1 v' (l.length + 1) (l.map (Value.int .i64) ++ [.int .i64 x])) : PuAt Y (w4.setCell ⟨Y.heap.size, 1, none⟩ v') left (l ++ [x]) lv v' := by
  obtain ⟨hb, hG⟩ := h.grew hg
  have hst := grown_setCell (w := w4) Y.heap.size 1 v'
  refine ⟨grown_new hG hst (Nat.le_refl _), by rw [heap_setCell_same w4 _ _ _ _ _ hb]; rfl, ?_⟩
  rw [show (l ++ [x]).length = l.length + 1 by simp, show (l ++ [x]).map (Value.int .i64) = l.map (Value.int .i64) ++ [.int .i64 x] by simp]
  refine ho.kept hst ?_
  cases hv : v'.ownBlock with
  | none => exact .inl rfl
  | some q => right; intro e; have := (ho.lt q hv).1; simp at e; omega
theorem PuAt.setLev {Y wz : World} {left lv z : Int} {l : List Int} {v : Value} (h : PuAt Y wz left l lv v) : PuAt Y (wz.setCell ⟨Y.heap.size, 2, none⟩ (.int .i64 z)) left l z v := by
  have hst := grown_setCell (w := wz) Y.heap.size 2 (.int .i64 z)
  refine ⟨grown_new h.grown hst (Nat.le_refl _), by rw [heap_setCell_same wz _ _ _ _ _ h.box]; rfl, h.row.kept hst ?_⟩
  cases hv : v.ownBlock with
  | none => exact .inl rfl
  | some q => right; intro e; have := (h.row.lt q hv).1; simp at e; omega

/-! ### Places and symbols -/
end Go.Proofs.YtkbjbijoekmooaaGreat
