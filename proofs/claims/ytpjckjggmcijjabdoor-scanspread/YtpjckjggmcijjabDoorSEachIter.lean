/-
  How a reader that was made anew hands out its words; Each's own function.
-/
import Derived.Test.YtpjckjggmcijjabDoorSReads
import Derived.RangeFuncNested
import Derived.RangeFuncBound
import Derived.RangeFuncCalls
import Derived.RangeFuncLeaves
import Derived.Shelf.Abstract
import Derived.Shelf.RegionOpen
import Derived.OwnWalkIn
import Derived.TacticsInMore
import Derived.LoopNIn
import Derived.LoopIn
import Derived.Sort.QuietIn
namespace Go.Proofs.YtpjckjggmcijjabDoor
open Go.RowKit Go.Shelf

attribute [local go_sem] Oper.semAt_some

/-- What a round keeps of the reader's. -/
structure KeptC (r : Nat) (A B : World) : Prop where
  size : A.heap.size ≤ B.heap.size
  rd : ∀ s i b, RAt A r s i b → RAt B r s i b
  ord : Ords A → Ords B
theorem RAt.ofKeptC {A B : World} {r : Nat} {s : ByteArray} {i : Nat} {b : Bool} (h : RAt A r s i b) (hk : KeptC r A B) : RAt B r s i b := hk.rd _ _ _ h
/-- What the reader's own steps do: its block turns, while it is no one's yet or a reader's. -/
def MvR (r : Nat) (A B : World) : Prop := A.grownBy B (some r) ∧ (A.heap.size ≤ r ∨ ∃ s i b, RAt A r s i b)
theorem RAt.mv {r : Nat} {A B : World} {s : ByteArray} {i : Nat} {b : Bool} (h : RAt A r s i b) (hg : A.grownBy B (some r)) : MvR r A B := ⟨hg, .inr ⟨s, i, b, h⟩⟩
theorem KeptC.trans {r : Nat} {A B C : World} (h : KeptC r A B) (k : KeptC r B C) : KeptC r A C := ⟨Nat.le_trans h.size k.size, fun s i b h1 => k.rd s i b (h.rd s i b h1), fun x => k.ord (h.ord x)⟩

set_option maxRecDepth 100000 in
set_option maxHeartbeats 1000000 in
theorem words_inC (n l r : Nat) (h1 : 1 ≤ n) (s : ByteArray) (hs : s.size ≤ 10000) (ws : List El) (en : Option Nat) (hws : scan s = (ws, en)) (J Jx : List El → World → Prop) (hJ : ∀ pre A B, J pre A → MvR r A B → J pre B)
    (hY : ∀ pre x W, J pre W → (pre ++ [x]) <+: ws → YieldAt Fence.wide (n - 1) Tryd.prog l #[elV x] W fun e W' => (e = .returned (.bool true) ∧ J (pre ++ [x]) W' ∧ KeptC r W W') ∨ (e = .returned (.bool false) ∧ Jx (pre ++ [x]) W'))
    (W : World) (hR : RAt W r s 0 false) (hO : Ords W) (hr0 : r ≠ 0) (h0 : J [] W) :
    CallsIn Fence.wide n Tryd.prog 22 #[.pointer (some ⟨r, 0, none⟩), .func (.yield l) #[] #[]] W fun e W' => (∃ v, e = .returned v) ∧
      ((J ws W' ∧ RAt W' r s (endAt s en) en.isSome) ∨ (∃ pre, pre <+: ws ∧ Jx pre W')) := by
  have HY : Hid (∀ pre x W, J pre W → (pre ++ [x]) <+: ws → YieldAt Fence.wide (n - 1) Tryd.prog l #[elV x] W fun e W' => (e = .returned (.bool true) ∧ J (pre ++ [x]) W' ∧ KeptC r W W') ∨ (e = .returned (.bool false) ∧ Jx (pre ++ [x]) W')) := hY
  have HJ : Hid (∀ pre A B, J pre A → MvR r A B → J pre B) := hJ
  have HR0 : Hid (RAt W r s 0 false) := hR
  have HO0 : Hid (Ords W) := hO
  have H0 : Hid (J [] W) := h0
  have HWS : Hid (scan s = (ws, en)) := hws
  clear hY hJ hR hO h0 hws
  refine callsIn_of_wp Tryd.func22 rfl trivial ?_ rfl
  simp only [Tryd.ntmps22, List.size_toArray, List.length_cons, List.length_nil, Nat.reduceAdd, Nat.reduceSub, Array.replicate_succ, Array.replicate_zero, List.push_toArray, List.append_toArray, List.nil_append, List.cons_append]
  gi_wp2
  refine ⟨trivial, ?_⟩
  refine (callsIn_wide.2 (skip_any r s 0 false W HR0.out (Nat.zero_le _) hs)).mono ?_
  rintro e w1 ⟨⟨v1, rfl⟩, hR1, hg1⟩
  have HI : Hid (RAt w1 r s (skipTo s 0) false ∧ Ords w1 ∧ J [] w1) := ⟨hR1, HO0.out.grown hg1 hr0, HJ.out _ _ _ H0.out (HR0.out.mv hg1)⟩
  clear hR1 hg1 HR0 HO0 H0
  gi_wp2
  gi_loopw [] (fun wr => ∃ (i f : Nat) (pre rest : List El), RAt wr r s (skipTo s i) false ∧ Ords wr ∧ J pre wr ∧ scanF f s i = (rest, en) ∧ ws = pre ++ rest ∧ i ≤ s.size ∧ s.size < f + i) (fun wr => s.size - (intOf ((wr.cell? ⟨r, 1, none⟩).getD undef)).toNat)
  case atStart => exact ⟨0, s.size + 1, [], ws, HI.out.1, HI.out.2.1, HI.out.2.2, HWS.out, rfl, Nat.zero_le _, by omega⟩
  case round =>
    clear HI
    obtain ⟨i, f, pre, rest, hR, hO, hj, hsc, hpre, hi, hf⟩ := hrel
    have HR : Hid (RAt wr r s (skipTo s i) false) := hR
    have HO : Hid (Ords wr) := hO
    have HJJ : Hid (J pre wr) := hj
    have HSC : Hid (scanF f s i = (rest, en)) := hsc
    have HPRE : Hid (ws = pre ++ rest) := hpre
    have hsk := skipTo_ge s i
    have hsl := skipTo_le hi
    obtain ⟨c0, c1, c2⟩ := hR.cells
    clear hR hO hj hsc hpre
    generalize hm : skipTo s i = m at *
    have HM : Hid (skipTo s i = m) := hm
    clear hm
    by_cases hlt : m < s.size
    · have hd : decide ((m : Int) < s.size) = true := decide_eq_true (by omega)
      gi_wp2
      gi_quiet (fail)
      gi_wp2
      have HSF : Hid (∀ x : Nat × ByteArray × Nat, one s m = .inl x → ∃ rest2, rest = (x.1, x.2.1, m) :: rest2 ∧ scanF (f - 1) s x.2.2 = (rest2, en) ∧ m < x.2.2 ∧ x.2.2 ≤ s.size) := fun x hx => by
        obtain ⟨g, rfl⟩ : ∃ g, f = g + 1 := ⟨f - 1, by omega⟩
        have h := HSC.out
        unfold scanF at h
        rw [HM.out, if_neg (by omega), hx] at h
        simp only [Prod.mk.injEq] at h
        obtain ⟨h3, h4⟩ := one_next hlt hx
        exact ⟨(scanF g s x.2.2).1, h.1.symm, by rw [← h.2]; rfl, h3, h4⟩
      have HSB : Hid (∀ p, one s m = .inr p → rest = [] ∧ en = some p) := fun p hx => by
        obtain ⟨g, rfl⟩ : ∃ g, f = g + 1 := ⟨f - 1, by omega⟩
        have h := HSC.out
        unfold scanF at h
        rw [HM.out, if_neg (by omega), hx] at h
        simp only [Prod.mk.injEq] at h
        exact ⟨h.1.symm, h.2.symm⟩
      have HR1 : Hid (RAt (wr.drewN nq) r s m false) := HR.out.drewN nq
      have HO1 : Hid (Ords (wr.drewN nq)) := HO.out.grown0 (grown_drewN _ _)
      have HJ1 : Hid (J pre (wr.drewN nq)) := HJ.out _ _ _ HJJ.out (HR.out.mv (grown_but _ (grown_drewN _ _)))
      have HMS : Hid (intOf ((wr.cell? ⟨r, 1, none⟩).getD undef) = m) := by show _ = _; rw [c1]; rfl
      generalize wr.drewN nq = wq at *
      clear HR HO HJJ c0 c1 c2 hd HSC
      refine ⟨trivial, callsIn_wide.2 (word_any r s m _ HR1.out HO1.out hlt hs _ ?hbad ?hgood)⟩
      case hbad =>
        intro p hp w2 k t hR2 hg2
        obtain ⟨hre, hen⟩ := HSB.out p hp
        have HJ2 : Hid (J ws (w2.alloc (.cells #[.int .i64 k, .string t, .int .i64 m] 36))) := by
          have := HJ.out _ _ _ (HJ.out _ _ _ HJ1.out (HR1.out.mv hg2)) (hR2.mv (grown_but _ (World.grownBy_alloc w2 (.cells #[.int .i64 k, .string t, .int .i64 m] 36) none)))
          rw [HPRE.out, hre, List.append_nil]
          exact this
        have HR2 : Hid (RAt (w2.alloc (.cells #[.int .i64 k, .string t, .int .i64 m] 36)) r s p true) := hR2.kept (World.grownBy_alloc _ _ none)
        have hcb := HR2.out.cells.2.2
        have HEN : Hid (en = some p) := hen
        clear hre hen hp HSF HSB hR2 hg2
        gi_wp2
        refine ⟨fun _ h => (by cases h), ?_⟩
        gi_wp2
        refine bodyPost_ret (results_none rfl _ _ _) rfl ?_
        rw [HEN.out]
        exact ⟨⟨_, rfl⟩, .inl ⟨HJ2.out, HR2.out⟩⟩
      case hgood =>
        intro k t nx hp w2 hR2 hg2
        obtain ⟨rest2, hre, hsc2, hn1, hn2⟩ := HSF.out (k, t, nx) hp
        have HX : Hid (rest = (k, t, m) :: rest2 ∧ scanF (f - 1) s nx = (rest2, en)) := ⟨hre, hsc2⟩
        have hn1' : m < nx := hn1
        have hn2' : nx ≤ s.size := hn2
        have HJ2 : Hid (J pre (w2.alloc (.cells #[.int .i64 k, .string t, .int .i64 m] 36))) := HJ.out _ _ _ (HJ.out _ _ _ HJ1.out (HR1.out.mv hg2)) (hR2.mv (grown_but _ (World.grownBy_alloc w2 (.cells #[.int .i64 k, .string t, .int .i64 m] 36) none)))
        have HR2 : Hid (RAt (w2.alloc (.cells #[.int .i64 k, .string t, .int .i64 m] 36)) r s nx false) := hR2.kept (World.grownBy_alloc _ _ none)
        have HO2 : Hid (Ords (w2.alloc (.cells #[.int .i64 k, .string t, .int .i64 m] 36))) := (HO1.out.grown hg2 hr0).grown0 (World.grownBy_alloc _ _ none)
        have hcb := HR2.out.cells.2.2
        have hpx : (pre ++ [(k, t, m)]) <+: ws := by rw [HPRE.out, hre]; exact ⟨rest2, by simp⟩
        have HPX : Hid ((pre ++ [(k, t, m)]) <+: ws ∧ ws = (pre ++ [(k, t, m)]) ++ rest2) := ⟨hpx, by rw [HPRE.out, hre]; simp⟩
        obtain ⟨fn, tmps, assign, body, hy, hRd⟩ := HY.out pre (k, t, m) _ HJ2.out hpx
        have hy' : (Instr.yield l #[.agg #[.int .i64 k, .string t, .int .i64 m]]).run Tryd.prog (w2.alloc (.cells #[.int .i64 k, .string t, .int .i64 m] 36)) = .ok (.round l fn tmps assign body) (w2.alloc (.cells #[.int .i64 k, .string t, .int .i64 m] 36)) := hy
        clear hre hsc2 hp HSF HSB hR2 hg2 hpx hy hn1 hn2
        gi_wp2
        refine hRd.mono ?_
        clear hRd hy'
        rintro e W3 (⟨rfl, hJ3, hk3⟩ | ⟨rfl, hJx3⟩)
        · have HJ3 : Hid (J (pre ++ [(k, t, m)]) W3) := hJ3
          have HR3 : Hid (RAt W3 r s nx false) := HR2.out.ofKeptC hk3
          have HO3 : Hid (Ords W3) := hk3.ord HO2.out
          clear hJ3 hk3 HJ2 HR2 HO2 hcb
          gi_wp2
          refine ⟨trivial, ?_⟩
          refine (callsIn_wide.2 (skip_any r s nx false _ HR3.out hn2' hs)).mono ?_
          rintro e w4 ⟨⟨v4, rfl⟩, hR4, hg4⟩
          have HI4 : Hid (RAt w4 r s (skipTo s nx) false ∧ Ords w4 ∧ J (pre ++ [(k, t, m)]) w4) := ⟨hR4, HO3.out.grown hg4 hr0, HJ.out _ _ _ HJ3.out (HR3.out.mv hg4)⟩
          clear hR4 hg4 HR3 HO3 HJ3
          gi_wp2
          go_roundw
          case rel => exact ⟨nx, f - 1, pre ++ [(k, t, m)], rest2, HI4.out.1, HI4.out.2.1, HI4.out.2.2, HX.out.2, HPX.out.2, hn2', by omega⟩
          case measure =>
            have h4 := HI4.out.1.cells.2.1
            have h5 := HMS.out
            have h6 := skipTo_ge s nx
            rw [h4, h5]
            simp only [Option.getD_some, intOf]
            omega
        · have HJX : Hid (Jx (pre ++ [(k, t, m)]) W3) := hJx3
          clear hJx3 HJ2 HR2 HO2 hcb
          gi_wp2
          refine bodyPost_ret (results_none rfl _ _ _) rfl ?_
          exact ⟨⟨_, rfl⟩, .inr ⟨_, HPX.out.1, HJX.out⟩⟩
    · have hd : decide ((m : Int) < s.size) = false := decide_eq_false (by omega)
      have HFIN : Hid (J ws (wr.drewN 0) ∧ RAt wr r s (endAt s en) en.isSome) := by
        obtain ⟨g, rfl⟩ : ∃ g, f = g + 1 := ⟨f - 1, by omega⟩
        have h := HSC.out
        unfold scanF at h
        rw [HM.out, if_pos (by omega)] at h
        simp only [Prod.mk.injEq] at h
        rw [HPRE.out, ← h.1, ← h.2, List.append_nil]
        refine ⟨HJJ.out, ?_⟩
        have hme : m = s.size := by omega
        show RAt wr r s s.size false
        rw [← hme]
        exact HR.out
      gi_wp2
      gi_quiet (fail)
      gi_wp2
      go_end0
      exact ⟨⟨_, rfl⟩, .inl ⟨HJ.out _ _ _ HFIN.out.1 (HFIN.out.2.mv (grown_but _ (grown_drewN _ _))), HFIN.out.2⟩⟩

theorem room_wide0 (k : Nat) : Fence.wide.room k := fun d h => by cases h
theorem yield_depth {m m' : Nat} {P : Program} {l : Nat} {args : Array Value} {W : World} {R : Ending → World → Prop} (h : YieldAt Fence.wide m P l args W R) : YieldAt Fence.wide m' P l args W R := by
  obtain ⟨fn, tmps, assign, body, hy, hR⟩ := h
  exact ⟨fn, tmps, assign, body, hy, hR.1, fun c cs _ => hR.2 c cs (room_wide0 _)⟩

set_option maxRecDepth 100000 in
set_option maxHeartbeats 1000000 in
theorem each1_in (n l q : Nat) (s : ByteArray) (ws : List El) (en : Option Nat) (hws : scanW s = (ws, en)) (W : World) (J Jx : List El → World → Prop) (hJ : ∀ pre A B, J pre A → MvR W.heap.size A B → J pre B)
    (hY : ∀ pre x A, J pre A → (pre ++ [x]) <+: ws → YieldAt Fence.wide (n - 1) Tryd.prog l #[elV x] A fun e B => (e = .returned (.bool true) ∧ J (pre ++ [x]) B ∧ KeptC W.heap.size A B) ∨ (e = .returned (.bool false) ∧ Jx (pre ++ [x]) B))
    (hq : W.heap[q]? = some (.cells #[.string s] 9 (0, 0))) (hO : Ords W) (h0 : J [] W) :
    CallsIn Fence.wide n Tryd.prog 23 #[.func (.yield l) #[] #[], .pointer (some ⟨q, 0, none⟩)] W fun e W' => (∃ v, e = .returned v) ∧ (J ws W' ∨ (∃ pre, pre <+: ws ∧ Jx pre W')) := by
  have hw0 : 0 < W.heap.size := World.block_lt_of_cell? W _ (hO 0 (by decide))
  have HY : Hid (∀ pre x A, J pre A → (pre ++ [x]) <+: ws → YieldAt Fence.wide (n - 1) Tryd.prog l #[elV x] A fun e B => (e = .returned (.bool true) ∧ J (pre ++ [x]) B ∧ KeptC W.heap.size A B) ∨ (e = .returned (.bool false) ∧ Jx (pre ++ [x]) B)) := hY
  have HJ : Hid (∀ pre A B, J pre A → MvR W.heap.size A B → J pre B) := hJ
  have HO : Hid (Ords W) := hO
  have H0 : Hid (J [] W) := h0
  have HWS : Hid (scanW s = (ws, en)) := hws
  have hc : W.cell? ⟨q, 0, none⟩ = some (.string s) := by rw [cell_of_row _ _ _ _ _ _ hq]; rfl
  clear hY hJ hO h0 hws hq
  refine callsIn_of_wp Tryd.func23 rfl trivial ?_ rfl
  simp only [Tryd.ntmps23, List.size_toArray, List.length_cons, List.length_nil, Nat.reduceAdd, Nat.reduceSub, Array.replicate_succ, Array.replicate_zero, List.push_toArray, List.append_toArray, List.nil_append, List.cons_append]
  by_cases hl : 8192 < s.size
  · have hd : decide (8192 < (s.size : Int)) = true := decide_eq_true (by omega)
    have hw : ws = [] := by
      have h := HWS.out
      unfold scanW at h
      rw [if_pos hl] at h
      cases h
      rfl
    subst hw
    gi_wp2
    refine bodyPost_ret (results_none rfl _ _ _) rfl ?_
    exact ⟨⟨_, rfl⟩, .inl H0.out⟩
  · have hd : decide (8192 < (s.size : Int)) = false := decide_eq_false (by omega)
    have HSC : Hid (scan s = (ws, en)) := by
      have h := HWS.out
      unfold scanW at h
      rw [if_neg hl] at h
      exact h
    clear HWS
    gi_wp2
    refine ⟨trivial, fun h => (by cases h), ?_⟩
    have hga := World.grownBy_alloc W (.cells #[.string s, .int .i64 0, .bool false] 55) none
    refine (callsIn_wide.2 (callsIn_wide.1 (words_inC 1 l W.heap.size (Nat.le_refl _) s (by omega) ws en HSC.out J Jx HJ.out (fun pre x A hJA hp => yield_depth (HY.out pre x A hJA hp)) _ (heap_alloc_new W _) (HO.out.grown0 hga) (by omega) (HJ.out _ _ _ H0.out ⟨grown_but _ hga, .inl (Nat.le_refl _)⟩)))).mono ?_
    rintro e W' ⟨⟨v, rfl⟩, h⟩
    have HH : Hid (J ws W' ∨ (∃ pre, pre <+: ws ∧ Jx pre W')) := by
      rcases h with ⟨h, _⟩ | h
      · exact .inl h
      · exact .inr h
    clear h hga
    gi_wp2
    go_end0
    exact ⟨⟨_, rfl⟩, HH.out⟩

end Go.Proofs.YtpjckjggmcijjabDoor
