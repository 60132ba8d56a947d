/-
  All words of a text, by the document's own walk.
-/
import Derived.Test.YtpjckjggmcijjabDoorSRefOrd
import Derived.Test.YtpjckjggmcijjabDoorSNames
namespace Go.Proofs.YtpjckjggmcijjabDoor
open Go.RowKit

attribute [local go_sem] Oper.semAt_some

theorem infoRW : (Tryd.prog.info? 42).map (fun i => (i.zero, i.size, i.bytes)) = some (some (.agg #[.int .i64 0, .string ⟨#[]⟩, .int .i64 0]), 3, 32) := by kernel_rfl

theorem grown_own {w A B : World} {e z n : Nat} {v : Value} {xs : List Value} (h : w.grownBy A none) (ho : A.ownsRow w.heap.size e z v n xs) (hg : A.grownBy B v.ownBlock) : w.grownBy B none := by
  rcases ho.2 with ⟨rfl, _⟩ | ⟨g, cap, cur, rfl, hge, _⟩
  · exact grown_trans h hg
  · exact grown_new h hg hge
theorem owns_kept {A B : World} {base e z n : Nat} {v : Value} {xs : List Value} (ho : A.ownsRow base e z v n xs) (hg : A.grownBy B none) : B.ownsRow base e z v n xs := ho.kept hg (by cases hx : v.ownBlock <;> simp)

theorem results_all (tmps : Array Value) (w : World) (x y : Value) (h2 : tmps.getD 2 undef = x) (h3 : tmps.getD 3 undef = y) : (results Tryd.f9 tmps).run Tryd.prog w = .ok (.tuple #[x, y]) w := by
  have h2' : tmps[2]?.getD undef = x := by simpa using h2
  have h3' : tmps[3]?.getD undef = y := by simpa using h3
  simp [results, Tryd.results9, h2', h3']

theorem alloc2_new (W : World) (o1 o2 : Obj) : ((W.alloc o1).alloc o2).heap[W.heap.size + 1]? = some o2 := by
  have := heap_alloc_new (W.alloc o1) o2
  rw [World.size_alloc] at this
  exact this

def badAt : Option Nat → Int
  | none => -1
  | some p => p

set_option maxRecDepth 100000 in
theorem rall_long (s : ByteArray) (w : World) (h : 8192 < s.size) : Calls Tryd.prog 9 #[.string s] w fun e w' => e = .returned (.tuple #[.slice none 0 0, .int .i64 8192]) ∧ w' = w := by
  have hd : decide (8192 < (s.size : Int)) = true := decide_eq_true (by omega)
  go_enter Tryd.func9, Tryd.ntmps9
  go_wp2_with fail
  refine bodyPost_ret (results_all _ _ _ _ rfl rfl) rfl ?_
  exact ⟨rfl, rfl⟩

set_option maxRecDepth 100000 in
set_option maxHeartbeats 1000000 in
theorem rall_short (s : ByteArray) (w : World) (h : s.size ≤ 8192) (ws : List El) (en : Option Nat) (hws : scan s = (ws, en)) : Calls Tryd.prog 9 #[.string s] w fun e w' =>
    ∃ a c, e = .returned (.tuple #[.slice a ws.length c, .int .i64 (badAt en)]) ∧ w'.ownsRow w.heap.size 42 3 (.slice a ws.length c) ws.length (ws.flatMap elL) ∧ w.grownBy w' none := by
  have hd : decide (8192 < (s.size : Int)) = false := decide_eq_false (by omega)
  have HLEN : Hid (ws.length ≤ 8192) := by have := scan_len s; rw [hws] at this; show ws.length ≤ 8192; exact Nat.le_trans this h
  have HWS : Hid (ws = [] ++ (scanF (s.size + 1) s 0).1 ∧ en = (scanF (s.size + 1) s 0).2) := by
    have h1 : scanF (s.size + 1) s 0 = (ws, en) := hws
    rw [h1]
    exact ⟨rfl, rfl⟩
  obtain ⟨i0, hi, hz0, hz1, hz2⟩ := info_parts infoRW
  clear hws
  go_enter Tryd.func9, Tryd.ntmps9
  go_wp2_with fail
  refine (rskip_any s 0 w (by omega) (by omega)).mono ?_
  rintro e w' ⟨rfl, hw⟩
  subst hw
  go_wp2_with fail
  go_loopw [4, 5] (fun v4 v5 wr => ∃ (pre : List El) (j : Nat), j ≤ s.size ∧ v5 = .int .i64 (skipTo s j) ∧ w'.grownBy wr none ∧ wr.ownsRow w'.heap.size 42 3 v4 pre.length (pre.flatMap elL) ∧ ws = pre ++ (scanF (s.size + 1) s j).1 ∧ en = (scanF (s.size + 1) s j).2) (fun _ v5 _ => s.size - (intOf v5).toNat)
  case atStart => exact ⟨[], 0, Nat.zero_le _, rfl, grown_refl _ _, World.ownsRow_nil _ _ _ _, HWS.out⟩
  case round =>
    obtain ⟨pre, j, hj, rfl, hg, hrow, hws, hen⟩ := hrel
    have hsk := skipTo_ge s j
    have hsl := skipTo_le hj
    have HG : Hid (w'.grownBy wr none) := hg
    have HROW : Hid (wr.ownsRow w'.heap.size 42 3 u4 pre.length (pre.flatMap elL)) := hrow
    rw [scanF_succ] at hws hen
    clear HWS hg hrow
    by_cases hlt : skipTo s j < s.size
    · rw [if_neg (by omega)] at hws hen
      cases ho : one s (skipTo s j) with
      | inr p =>
        rw [ho] at hws hen
        have hv : OneV s (skipTo s j) (.tuple #[.agg #[.int .i64 0, .string ⟨#[]⟩, .int .i64 0], .int .i64 0, .int .i64 p]) := ⟨fun y hy => (by rw [ho] at hy; cases hy), fun q hq => (by rw [ho] at hq; cases hq; rfl)⟩
        have HCALL : Hid (∀ W, Calls Tryd.prog 21 #[.string s, .int .i64 (skipTo s j)] W fun e w' => e = .returned (.tuple #[.agg #[.int .i64 0, .string ⟨#[]⟩, .int .i64 0], .int .i64 0, .int .i64 p]) ∧ W.grownBy w' none) := fun W => rone_any s _ W hlt (by omega) _ hv
        have hp0 : decide (0 ≤ (p : Int)) = true := decide_eq_true (by omega)
        simp only [List.append_nil] at hws
        simp only at hen
        have HWSE : Hid (ws = pre ∧ en = some p) := ⟨hws, hen⟩
        clear hws hen ho hv
        generalize skipTo s j = i at *
        go_wp2_with fail
        refine (HCALL.out _).mono ?_
        rintro e W2 ⟨rfl, hg2⟩
        have HG2 : Hid (w'.grownBy W2 none) := grown_trans HG.out hg2
        have HROW2 : Hid (W2.ownsRow w'.heap.size 42 3 u4 pre.length (pre.flatMap elL)) := owns_kept HROW.out hg2
        clear hg2 HG HROW HCALL
        go_wp2_with fail
        refine bodyPost_ret (results_all _ _ _ _ rfl rfl) rfl ?_
        obtain ⟨hw1, hw2⟩ := HWSE.out
        obtain ⟨a, c, hf⟩ := owns_form HROW2.out
        rw [hw1, hw2]
        have hR := HROW2.out
        rw [hf] at hR
        exact ⟨a, c, by rw [hf]; rfl, owns_kept hR (World.grownBy_alloc _ _ none), grown_trans HG2.out (World.grownBy_alloc _ _ none)⟩
      | inl x =>
        rw [ho] at hws hen
        simp only at hws hen
        obtain ⟨hx1, hx2⟩ := one_next hlt ho
        have hfu := scanF_more s s.size (s.size + 1) x.2.2 hx2 (by omega) (by omega)
        rw [hfu] at hws hen
        have hv : OneV s (skipTo s j) (.tuple #[.agg #[.int .i64 x.1, .string x.2.1, .int .i64 (skipTo s j)], .int .i64 x.2.2, .int .i64 (-1)]) := ⟨fun y hy => (by rw [ho] at hy; cases hy; rfl), fun q hq => (by rw [ho] at hq; cases hq)⟩
        have HCALL : Hid (∀ W, Calls Tryd.prog 21 #[.string s, .int .i64 (skipTo s j)] W fun e w' => e = .returned (.tuple #[.agg #[.int .i64 x.1, .string x.2.1, .int .i64 (skipTo s j)], .int .i64 x.2.2, .int .i64 (-1)]) ∧ W.grownBy w' none) := fun W => rone_any s _ W hlt (by omega) _ hv
        have HSK : Hid (∀ W, Calls Tryd.prog 20 #[.string s, .int .i64 x.2.2] W fun e w' => e = .returned (.int .i64 (skipTo s x.2.2)) ∧ w' = W) := fun W => rskip_any s x.2.2 W hx2 (by omega)
        have hge2 := skipTo_ge s x.2.2
        have HNEXT : Hid (x.2.2 ≤ s.size ∧ ws = (pre ++ [(x.1, x.2.1, skipTo s j)]) ++ (scanF (s.size + 1) s x.2.2).1 ∧ en = (scanF (s.size + 1) s x.2.2).2 ∧ s.size - skipTo s x.2.2 < s.size - skipTo s j) := ⟨hx2, by rw [hws]; simp, hen, by omega⟩
        have hlen : pre.length + 1 ≤ 8192 := by have := HLEN.out; rw [hws] at this; simp at this; omega
        clear hws hen ho hv hfu hge2 hx2
        generalize skipTo s j = i at *
        go_wp2_with fail
        refine (HCALL.out _).mono ?_
        rintro e W2 ⟨rfl, hg2⟩
        have HG2 : Hid (w'.grownBy W2 none) := grown_trans HG.out hg2
        have hrow2 := owns_kept HROW.out hg2
        clear hg2 HG HROW HCALL
        have hbase : w'.heap.size ≤ W2.heap.size := HG2.out.size
        go_wp2_with (at_builtin; refine wpList_append_own_at _ rfl _ _ 23 rfl w'.heap.size 42 i0 _ 3 32 Tryd.underlying23 hi hz0 hz1 hz2 rfl (by decide) _ _ _ rfl ((hrow2.alloc _).alloc _) ⟨W2.heap.size + 1, 0, none⟩ 1 1 (elL (x.1, x.2.1, i)) rfl rfl (fun j u hu => World.news_of_block (alloc2_new W2 _ _) j u hu) (by simp [elL, Value.oneCell']) (by unfold maxLen; omega) (by omega) (by simp; omega) ?_)
        intro v' w3 hown3 hg3 _ _
        have hga := grown_trans (World.grownBy_alloc W2 (.cells #[.int .i64 x.1, .string x.2.1, .int .i64 i] 42) none) (World.grownBy_alloc _ (.cells #[.int .i64 x.1, .string x.2.1, .int .i64 i] 42) none)
        have HG3 : Hid (w'.grownBy w3 none) := grown_own (grown_trans HG2.out hga) (owns_kept hrow2 hga) hg3
        have HROW3 : Hid (w3.ownsRow w'.heap.size 42 3 v' (pre.length + 1) (pre.flatMap elL ++ elL (x.1, x.2.1, i))) := hown3
        clear hown3 hg3 hga hrow2 HG2
        go_wp2_with fail
        refine (HSK.out _).mono ?_
        rintro e w4 ⟨rfl, hw4⟩
        subst hw4
        go_wp2_with fail
        obtain ⟨n1, n2, n3, n4⟩ := HNEXT.out
        go_roundw
        case rel => exact ⟨pre ++ [(x.1, x.2.1, i)], x.2.2, n1, rfl, HG3.out, by simpa using HROW3.out, n2, n3⟩
        case measure => simpa [intOf] using n4
    · rw [if_pos (by omega)] at hws hen
      simp only [List.append_nil] at hws
      simp only at hen
      have HWSE : Hid (ws = pre ∧ en = none) := ⟨hws, hen⟩
      clear hws hen
      generalize skipTo s j = i at *
      go_wp2_with fail
      refine bodyPost_ret (results_all _ _ _ _ rfl rfl) rfl ?_
      obtain ⟨hw1, hw2⟩ := HWSE.out
      obtain ⟨a, c, hf⟩ := owns_form HROW.out
      rw [hw1, hw2]
      have hR := HROW.out
      rw [hf] at hR
      exact ⟨a, c, by rw [hf]; rfl, hR, HG.out⟩

end Go.Proofs.YtpjckjggmcijjabDoor
