import Derived.Test.YtkhmhcinepfemaaQnfilicopobda

/-
  show: Symbol.
-/
namespace Go.Proofs.Ytkhmhcinepfemaa
open Go.RowKit Go.Maps Go.Shelf

set_option maxHeartbeats 2000000 in
set_option maxRecDepth 100000 in
theorem hsymbol_any (ta na la pa : Option Addr) (tc nc lc pc : Nat) (ts : List (ByteArray × Int)) (ns : List ByteArray) (lv : List Int) (n : Nat) (L : Nat → Int) (R : Nat → List Int) (ra : Nat → Option Addr) (rc : Nat → Nat) (V : Nat → Int) (st : Int) (w : World) (tn nn ln : Nat) (hlen : ts.length = tn ∧ ns.length = nn ∧ lv.length = ln) (hG : GAt w ta na la pa tc nc lc pc ts ns lv n L R ra rc V)
    (r : Bool) (hr : r = true ↔ validOK ts ns lv st n L R V ∨ closedOK ts ns lv st n L R V) (z : Int) (q : Bool) (hq : q = true ↔ 0 ≤ z ∧ z < (tn : Int) + nn) (hl : r = true → q = true → (symsT ts ns true [z]).length ≤ 140737488355328) :
    Calls Try.prog 16 #[.agg #[.slice ta tn tc, .slice na nn nc, .slice la ln lc, .int .i64 st, .slice pa n pc], .int .i64 z] w fun e w' => e = .returned (.tuple #[.string (if r && q then ⟨(symT ts ns z.toNat).toArray⟩ else ⟨#[]⟩), .int .i64 (if r && q then 0 else 1)]) ∧ w.grownBy w' none := by
  obtain ⟨s, hs⟩ : ∃ s : ByteArray, s = if r && q then ⟨(symT ts ns z.toNat).toArray⟩ else ⟨#[]⟩ := ⟨_, rfl⟩
  obtain ⟨c, hc⟩ : ∃ c : Int, c = if r && q then 0 else 1 := ⟨_, rfl⟩
  rw [← hs, ← hc]
  have HR : Hid (Calls Try.prog 13 #[.agg #[.slice ta tn tc, .slice na nn nc, .slice la ln lc, .int .i64 st, .slice pa n pc], .slice (some ⟨w.heap.size + 1, 0, none⟩) 1 1] ((w.alloc (.cells #[.slice ta tn tc, .slice na nn nc, .slice la ln lc, .int .i64 st, .slice pa n pc] 27)).alloc (.cells #[.int .i64 z] 3)) fun e w' => e = .returned (.tuple #[.string s, .int .i64 c]) ∧ w.grownBy w' none) := by
    obtain ⟨Y, hY⟩ : ∃ Y, Y = w.alloc (.cells #[.slice ta tn tc, .slice na nn nc, .slice la ln lc, .int .i64 st, .slice pa n pc] 27) := ⟨_, rfl⟩
    have hsz : w.heap.size + 1 = Y.heap.size := by rw [hY, World.size_alloc]
    have hgY : w.grownBy Y none := by rw [hY]; exact World.grownBy_alloc _ _ none
    rw [← hY, hsz]
    have hg := grown_trans hgY (World.grownBy_alloc Y (.cells #[.int .i64 z] 3) none)
    have hI : IntsAt (Y.alloc (.cells #[.int .i64 z] 3)) (some ⟨Y.heap.size, 0, none⟩) [z] := by
      refine .inr ⟨Y.heap.size, 0, rfl, fun i hi => ?_⟩
      have h0 : i = 0 := by simp at hi; omega
      subst h0
      rw [cell_of_row _ _ _ _ _ _ (heap_alloc_last Y _)]
      rfl
    have hq' : q = true ↔ ∀ i, i < 1 → 0 ≤ [z].getD i 0 ∧ [z].getD i 0 < (tn : Int) + nn := by
      rw [hq]
      constructor
      · intro h i hi
        have h0 : i = 0 := by omega
        subst h0
        exact h
      · intro h
        exact h 0 (by omega)
    refine (row_any ta na la pa tc nc lc pc ts ns lv n L R ra rc V st _ tn nn ln hlen (hG.kept hg) r hr _ 1 1 [z] rfl hI (by omega) q hq' hl).mono ?_
    rintro e w' ⟨rfl, hg'⟩
    refine ⟨?_, grown_trans hg hg'⟩
    rw [hs, hc]
    simp [symsT, sp]
  clear hG hlen hr hq hl hs hc
  go_enter Try.func16, Try.ntmps16
  go_wp2_with fail
  refine Calls.mono HR.out ?_
  rintro e w1 ⟨rfl, hg1⟩
  have HG1 : Hid (w.grownBy w1 none) := hg1
  clear hg1
  go_wp2_with fail
  go_ret2
  exact ⟨rfl, HG1.out⟩

end Go.Proofs.Ytkhmhcinepfemaa

/-
  show: isItem and Item; the document's Item.
-/
namespace Go.Proofs.Ytkhmhcinepfemaa
open Go.RowKit Go.Maps Go.Shelf

attribute [local go_sem] Oper.semAt_some

/-- The boxes of a grammar and of an item. -/
structure ItAt (w x : World) (Z : Nat) (gv iv : Array Value) : Prop where
  grown : w.grownBy x none
  gbox : x.heap[Z]? = some (.cells gv 27 (0, 0))
  ibox : x.heap[Z + 1]? = some (.cells iv 36 (0, 0))
section
variable {w x y : World} {Z : Nat} {gv iv : Array Value}
theorem ItAt.kept (h : ItAt w x Z gv iv) (hg : x.grownBy y none) : ItAt w y Z gv iv :=
  ⟨grown_trans h.grown hg, (hg.block _ (Array.getElem?_eq_some_iff.1 h.gbox).1 (by simp)).trans h.gbox, (hg.block _ (Array.getElem?_eq_some_iff.1 h.ibox).1 (by simp)).trans h.ibox⟩
theorem ItAt.g (h : ItAt w x Z gv iv) (k : Nat) (v : Value) (hv : gv[k]? = some v) : x.cell? ⟨Z, k, none⟩ = some v := by rw [cell_of_row _ _ _ _ _ _ h.gbox]; exact hv
theorem ItAt.i (h : ItAt w x Z gv iv) (k : Nat) (v : Value) (hv : iv[k]? = some v) : x.cell? ⟨Z + 1, k, none⟩ = some v := by rw [cell_of_row _ _ _ _ _ _ h.ibox]; exact hv
theorem ItAt.new (w : World) (gv iv : Array Value) : ItAt w ((w.alloc (.cells gv 27)).alloc (.cells iv 36)) w.heap.size gv iv := by
  refine ⟨grown_trans (World.grownBy_alloc _ _ none) (World.grownBy_alloc _ _ none), ((World.grownBy_alloc (w.alloc _) _ none).block _ (by simp) (by simp)).trans (heap_alloc_last w _), ?_⟩
  have := heap_alloc_last (w.alloc (.cells gv 27)) (.cells iv 36)
  rw [World.size_alloc] at this
  exact this
end

set_option maxRecDepth 100000 in
set_option maxHeartbeats 2000000 in
theorem isItem_any (ta na la pa : Option Addr) (tn nn ln n tc nc lc pc : Nat) (st : Int) (L : Nat → Int) (R : Nat → List Int) (ra : Nat → Option Addr) (rc : Nat → Nat) (V : Nat → Int) (w : World) (hP : ProdsAt w pa n L R ra rc V) (i d : Int) (q : Bool) (hq : q = decide ((0 ≤ i ∧ i < (n : Int)) ∧ 0 ≤ d ∧ d ≤ ((R i.toNat).length : Int))) :
    Calls Try.prog 39 #[.agg #[.slice ta tn tc, .slice na nn nc, .slice la ln lc, .int .i64 st, .slice pa n pc], .agg #[.int .i64 i, .int .i64 d]] w fun e w' => e = .returned (.bool q) ∧ w.grownBy w' none := by
  have HN : Hid (ItAt w ((w.alloc (.cells #[.slice ta tn tc, .slice na nn nc, .slice la ln lc, .int .i64 st, .slice pa n pc] 27)).alloc (.cells #[.int .i64 i, .int .i64 d] 36)) w.heap.size #[.slice ta tn tc, .slice na nn nc, .slice la ln lc, .int .i64 st, .slice pa n pc] #[.int .i64 i, .int .i64 d]) := ItAt.new w _ _
  have hA : (fun x => ItAt w x w.heap.size #[.slice ta tn tc, .slice na nn nc, .slice la ln lc, .int .i64 st, .slice pa n pc] #[.int .i64 i, .int .i64 d]) ((w.alloc (.cells #[.slice ta tn tc, .slice na nn nc, .slice la ln lc, .int .i64 st, .slice pa n pc] 27)).alloc (.cells #[.int .i64 i, .int .i64 d] 36)).drew := HN.out.kept (grown_drewN _ 1)
  have HQ : Hid (q = decide ((0 ≤ i ∧ i < (n : Int)) ∧ 0 ≤ d ∧ d ≤ ((R i.toNat).length : Int))) := hq
  haveI hne : Nonempty (WBox (fun x => ItAt w x w.heap.size #[.slice ta tn tc, .slice na nn nc, .slice la ln lc, .int .i64 st, .slice pa n pc] #[.int .i64 i, .int .i64 d])) := ⟨⟨_, hA⟩⟩
  have g0 := fun s : WBox (fun x => ItAt w x w.heap.size #[.slice ta tn tc, .slice na nn nc, .slice la ln lc, .int .i64 st, .slice pa n pc] #[.int .i64 i, .int .i64 d]) => s.ok.g 0 _ rfl
  have g1 := fun s : WBox (fun x => ItAt w x w.heap.size #[.slice ta tn tc, .slice na nn nc, .slice la ln lc, .int .i64 st, .slice pa n pc] #[.int .i64 i, .int .i64 d]) => s.ok.g 1 _ rfl
  have g2 := fun s : WBox (fun x => ItAt w x w.heap.size #[.slice ta tn tc, .slice na nn nc, .slice la ln lc, .int .i64 st, .slice pa n pc] #[.int .i64 i, .int .i64 d]) => s.ok.g 2 _ rfl
  have g3 := fun s : WBox (fun x => ItAt w x w.heap.size #[.slice ta tn tc, .slice na nn nc, .slice la ln lc, .int .i64 st, .slice pa n pc] #[.int .i64 i, .int .i64 d]) => s.ok.g 3 _ rfl
  have g4 := fun s : WBox (fun x => ItAt w x w.heap.size #[.slice ta tn tc, .slice na nn nc, .slice la ln lc, .int .i64 st, .slice pa n pc] #[.int .i64 i, .int .i64 d]) => s.ok.g 4 _ rfl
  have i0 := fun s : WBox (fun x => ItAt w x w.heap.size #[.slice ta tn tc, .slice na nn nc, .slice la ln lc, .int .i64 st, .slice pa n pc] #[.int .i64 i, .int .i64 d]) => s.ok.i 0 _ rfl
  have i1 := fun s : WBox (fun x => ItAt w x w.heap.size #[.slice ta tn tc, .slice na nn nc, .slice la ln lc, .int .i64 st, .slice pa n pc] #[.int .i64 i, .int .i64 d]) => s.ok.i 1 _ rfl
  obtain ⟨p, hp⟩ : ∃ p, p = decide (0 ≤ i ∧ i < (n : Int)) := ⟨_, rfl⟩
  have K1 : Hid (∀ s : WBox (fun x => ItAt w x w.heap.size #[.slice ta tn tc, .slice na nn nc, .slice la ln lc, .int .i64 st, .slice pa n pc] #[.int .i64 i, .int .i64 d]), Calls Try.prog 36 #[.agg #[.slice ta tn tc, .slice na nn nc, .slice la ln lc, .int .i64 st, .slice pa n pc], .int .i64 i] s.w fun e w' => e = .returned (.bool p) ∧ ∃ s' : WBox (fun x => ItAt w x w.heap.size #[.slice ta tn tc, .slice na nn nc, .slice la ln lc, .int .i64 st, .slice pa n pc] #[.int .i64 i, .int .i64 d]), w' = s'.w) := fun s => calls_class ((isProd_any ta na la pa tn nn ln n tc nc lc pc st i s.w).mono fun e w' h => ⟨by rw [hp]; exact h.1, s.ok.kept h.2⟩)
  have HP : Hid (ProdsAt w pa n L R ra rc V) := hP
  have HPP : Hid (p = decide (0 ≤ i ∧ i < (n : Int))) := hp
  clear hq hp hP
  cases p with
  | false =>
    have hf : q = false := by
      rw [HQ.out]
      have := of_decide_eq_false HPP.out.symm
      exact decide_eq_false (fun h => this h.1)
    subst hf
    go_enter Try.func39, Try.ntmps39
    go_wp2_with fail
    refine wp_region_class (p := fun x => ItAt w x w.heap.size #[.slice ta tn tc, .slice na nn nc, .slice la ln lc, .int .i64 st, .slice pa n pc] #[.int .i64 i, .int .i64 d]) (by kernel_rfl) (by kernel_rfl) hA ?_
    repeat (go_big_quiet_step (first | (go_at_call 36; rename_i s; with_reducible exact K1.out s)))
    refine wpQuiet_nil ?_
    rintro _ ⟨s, rfl⟩
    go_wp2_with fail
    go_ret
    exact ⟨rfl, s.ok.grown⟩
  | true =>
    have hi := of_decide_eq_true HPP.out.symm
    obtain ⟨k, rfl⟩ : ∃ k : Nat, i = (k : Int) := ⟨i.toNat, by omega⟩
    have hkn : k < n := by omega
    obtain ⟨bp, op, rfl, hps⟩ : ∃ b off, pa = some ⟨b, off, none⟩ ∧ ∀ k, k < n → w.cell? ⟨b, off + k * 3, none⟩ = some (.int .i64 (L k)) ∧ w.cell? ⟨b, off + k * 3 + 1, none⟩ = some (.slice (ra k) (R k).length (rc k)) ∧ w.cell? ⟨b, off + k * 3 + 2, none⟩ = some (.int .i64 (V k)) ∧ IntsAt w (ra k) (R k) ∧ (ra k = none → rc k = 0) ∧ (R k).length ≤ 17592186044416 := by
      rcases HP.out with h | h
      · omega
      · exact h
    obtain ⟨_, p1, _⟩ := hps k hkn
    obtain ⟨rl, hrl⟩ : ∃ x, x = (R k).length := ⟨_, rfl⟩
    rw [← hrl] at p1
    have pr := fun s : WBox (fun x => ItAt w x w.heap.size #[.slice ta tn tc, .slice na nn nc, .slice la ln lc, .int .i64 st, .slice (some ⟨bp, op, none⟩) n pc] #[.int .i64 (k : Int), .int .i64 d]) => s.ok.grown.cell p1 (by simp)
    have hqq : q = decide (0 ≤ d ∧ d ≤ (rl : Int)) := by
      rw [HQ.out, hrl, Int.toNat_natCast]
      simp only [hi, and_self, true_and]
    have HQ2 : Hid (q = decide (0 ≤ d ∧ d ≤ (rl : Int))) := hqq
    have hk0 : (0 : Int) ≤ (k : Int) := by omega
    have hk1 : (k : Int) < (n : Int) := by omega
    clear hps p1 hrl HQ hqq HPP hi
    by_cases h1 : 0 ≤ d
    · have d1 : decide (0 ≤ d) = true := decide_eq_true h1
      have HF : Hid (decide (d ≤ (rl : Int)) = q) := by
        show _ = _
        rw [HQ2.out]
        simp only [h1, true_and]
      go_enter Try.func39, Try.ntmps39
      go_wp2_with fail
      refine wp_region_class (p := fun x => ItAt w x w.heap.size #[.slice ta tn tc, .slice na nn nc, .slice la ln lc, .int .i64 st, .slice (some ⟨bp, op, none⟩) n pc] #[.int .i64 (k : Int), .int .i64 d]) (by kernel_rfl) (by kernel_rfl) hA ?_
      repeat (go_big_quiet_step (first | (go_at_call 36; rename_i s; with_reducible exact K1.out s)))
      refine wpQuiet_nil ?_
      rintro _ ⟨s, rfl⟩
      go_wp2_with fail
      go_ret
      exact ⟨by rw [← HF.out]; rfl, s.ok.grown⟩
    · have d1 : decide (0 ≤ d) = false := decide_eq_false h1
      have hf : q = false := by rw [HQ2.out]; exact decide_eq_false (fun h => h1 h.1)
      subst hf
      go_enter Try.func39, Try.ntmps39
      go_wp2_with fail
      refine wp_region_class (p := fun x => ItAt w x w.heap.size #[.slice ta tn tc, .slice na nn nc, .slice la ln lc, .int .i64 st, .slice (some ⟨bp, op, none⟩) n pc] #[.int .i64 (k : Int), .int .i64 d]) (by kernel_rfl) (by kernel_rfl) hA ?_
      repeat (go_big_quiet_step (first | (go_at_call 36; rename_i s; with_reducible exact K1.out s)))
      refine wpQuiet_nil ?_
      rintro _ ⟨s, rfl⟩
      go_wp2_with fail
      go_ret
      exact ⟨rfl, s.ok.grown⟩

theorem ints_take {w : World} {a : Option Addr} {l : List Int} (d : Nat) (h : IntsAt w a l) : IntsAt w a (l.take d) := by
  rcases h with h | ⟨b, off, e, hc⟩
  · exact .inl (by rw [h]; simp)
  · refine .inr ⟨b, off, e, fun i hi => ?_⟩
    have hi' : i < l.length := by rw [List.length_take] at hi; omega
    have hd : i < d := by rw [List.length_take] at hi; omega
    rw [hc i hi']
    simp [List.getD, hd]
theorem ints_drop {w : World} {a : Option Addr} {l : List Int} (d : Nat) (h : IntsAt w a l) : IntsAt w (a.map fun x => x.add d) (l.drop d) := by
  rcases h with h | ⟨b, off, e, hc⟩
  · exact .inl (by rw [h]; simp)
  · subst e
    refine .inr ⟨b, off + d, by simp [Addr.add_mid], fun i hi => ?_⟩
    rw [List.length_drop] at hi
    have := hc (d + i) (by omega)
    rw [← Nat.add_assoc] at this
    rw [this]
    simp [List.getD, List.getElem?_drop]

/-- An item's text. -/
def itemT (ts : List (ByteArray × Int)) (ns : List ByteArray) (l : Int) (r : List Int) (d : Nat) : List UInt8 := symT ts ns l.toNat ++ [32, 45, 62] ++ symsT ts ns true (r.take d) ++ [32, 46] ++ symsT ts ns true (r.drop d)

set_option maxHeartbeats 4000000 in
set_option maxRecDepth 100000 in
theorem item_any (ta na la pa : Option Addr) (tc nc lc pc : Nat) (ts : List (ByteArray × Int)) (ns : List ByteArray) (lv : List Int) (n : Nat) (L : Nat → Int) (R : Nat → List Int) (ra : Nat → Option Addr) (rc : Nat → Nat) (V : Nat → Int) (st : Int) (w : World) (tn nn ln : Nat) (hlen : ts.length = tn ∧ ns.length = nn ∧ lv.length = ln) (hG : GAt w ta na la pa tc nc lc pc ts ns lv n L R ra rc V) (hrc : ∀ i, i < n → (R i).length ≤ rc i)
    (r : Bool) (hr : r = true ↔ validOK ts ns lv st n L R V ∨ closedOK ts ns lv st n L R V) (i d : Int) (hl : r = true → ∀ k, k < n → (prodT ts ns (L k) (R k)).length + 8 ≤ 140737488355328) (q : Bool) (hq : q = decide ((0 ≤ i ∧ i < (n : Int)) ∧ 0 ≤ d ∧ d ≤ ((R i.toNat).length : Int))) :
    Calls Try.prog 20 #[.agg #[.slice ta tn tc, .slice na nn nc, .slice la ln lc, .int .i64 st, .slice pa n pc], .agg #[.int .i64 i, .int .i64 d]] w fun e w' => e = .returned (.tuple #[.string (if r && q then ⟨(itemT ts ns (L i.toNat) (R i.toNat) d.toNat).toArray⟩ else ⟨#[]⟩), .int .i64 (if r && q then 0 else 1)]) ∧ w.grownBy w' none := by
  have HM : Hid (∀ Y, w.grownBy Y none → Calls Try.prog 25 #[.agg #[.slice ta tn tc, .slice na nn nc, .slice la ln lc, .int .i64 st, .slice pa n pc]] Y fun e w' => e = .returned (.bool r) ∧ Y.grownBy w' none) := fun Y hY => mayBe_any ta na la pa tc nc lc pc ts ns lv n L R ra rc V st Y tn nn ln hlen (hG.kept hY) r hr
  have hnn := hG.nlen
  rw [hlen.2.1] at hnn
  have HA : Hid (∀ Y, w.grownBy Y none → Calls Try.prog 39 #[.agg #[.slice ta tn tc, .slice na nn nc, .slice la ln lc, .int .i64 st, .slice pa n pc], .agg #[.int .i64 i, .int .i64 d]] Y fun e w' => e = .returned (.bool q) ∧ Y.grownBy w' none) := fun Y hY => isItem_any ta na la pa tn nn ln n tc nc lc pc st L R ra rc V Y (hG.kept hY).prods i d q hq
  have HX0 : Hid (ItAt w ((w.alloc (.cells #[.slice ta tn tc, .slice na nn nc, .slice la ln lc, .int .i64 st, .slice pa n pc] 27)).alloc (.cells #[.int .i64 i, .int .i64 d] 36)) w.heap.size #[.slice ta tn tc, .slice na nn nc, .slice la ln lc, .int .i64 st, .slice pa n pc] #[.int .i64 i, .int .i64 d]) := ItAt.new w _ _
  have HG : Hid (GAt w ta na la pa tc nc lc pc ts ns lv n L R ra rc V) := hG
  have HLN : Hid (ts.length = tn ∧ ns.length = nn ∧ lv.length = ln) := hlen
  have HR : Hid (r = true ↔ validOK ts ns lv st n L R V ∨ closedOK ts ns lv st n L R V) := hr
  have HQ : Hid (q = decide ((0 ≤ i ∧ i < (n : Int)) ∧ 0 ≤ d ∧ d ≤ ((R i.toNat).length : Int))) := hq
  have HL : Hid (r = true → ∀ k, k < n → (prodT ts ns (L k) (R k)).length + 8 ≤ 140737488355328) := hl
  have HRC : Hid (∀ i, i < n → (R i).length ≤ rc i) := hrc
  clear hG hlen hl hr hq hrc
  cases r with
  | false =>
    go_enter Try.func20, Try.ntmps20
    go_wp2_with fail
    refine Calls.mono (HM.out _ HX0.out.grown) ?_
    rintro e w1 ⟨rfl, hg1⟩
    have HG1 : Hid (w.grownBy w1 none) := grown_trans HX0.out.grown hg1
    clear hg1 HX0
    go_wp2_with fail
    go_ret2
    exact ⟨rfl, HG1.out⟩
  | true =>
    cases q with
    | false =>
      go_enter Try.func20, Try.ntmps20
      go_wp2_with fail
      refine Calls.mono (HM.out _ HX0.out.grown) ?_
      rintro e w1 ⟨rfl, hg1⟩
      have HX1 : Hid (ItAt w w1 w.heap.size #[.slice ta tn tc, .slice na nn nc, .slice la ln lc, .int .i64 st, .slice pa n pc] #[.int .i64 i, .int .i64 d]) := HX0.out.kept hg1
      obtain ⟨k0, k1, k2, k3, k4⟩ := And.intro (HX1.out.g 0 _ rfl) (And.intro (HX1.out.g 1 _ rfl) (And.intro (HX1.out.g 2 _ rfl) (And.intro (HX1.out.g 3 _ rfl) (HX1.out.g 4 _ rfl))))
      obtain ⟨i0, i1⟩ := And.intro (HX1.out.i 0 _ rfl) (HX1.out.i 1 _ rfl)
      clear hg1 HX0
      go_wp2_with fail
      refine Calls.mono (HA.out _ HX1.out.grown) ?_
      rintro e w2 ⟨rfl, hg2⟩
      have HG2 : Hid (w.grownBy w2 none) := grown_trans HX1.out.grown hg2
      clear hg2 HX1 k0 k1 k2 k3 k4 i0 i1
      go_wp2_with fail
      go_ret2
      exact ⟨rfl, HG2.out⟩
    | true =>
      have hi := of_decide_eq_true HQ.out.symm
      obtain ⟨k, hk⟩ : ∃ k : Nat, i = (k : Int) := ⟨i.toNat, by omega⟩
      subst hk
      obtain ⟨dn, hdn⟩ : ∃ dn : Nat, d = (dn : Int) := ⟨d.toNat, by omega⟩
      subst hdn
      rw [Int.toNat_natCast] at hi
      have hkn : k < n := by omega
      have HE := either_prods (HR.out.1 rfl) k hkn
      rw [HLN.out.1, HLN.out.2.1] at HE
      obtain ⟨bp, op, hpa, hps⟩ : ∃ b off, pa = some ⟨b, off, none⟩ ∧ ∀ k, k < n → w.cell? ⟨b, off + k * 3, none⟩ = some (.int .i64 (L k)) ∧ w.cell? ⟨b, off + k * 3 + 1, none⟩ = some (.slice (ra k) (R k).length (rc k)) ∧ w.cell? ⟨b, off + k * 3 + 2, none⟩ = some (.int .i64 (V k)) ∧ IntsAt w (ra k) (R k) ∧ (ra k = none → rc k = 0) ∧ (R k).length ≤ 17592186044416 := by
        rcases HG.out.prods with h | h
        · omega
        · exact h
      subst hpa
      obtain ⟨p0, p1, p2, hI, hrn, hRl⟩ := hps k hkn
      have HI : Hid (IntsAt w (ra k) (R k)) := hI
      have hlc := HRC.out k hkn
      obtain ⟨z, hz⟩ : ∃ z : Nat, L k = (z : Int) := ⟨(L k).toNat, by omega⟩
      obtain ⟨len, hlen⟩ : ∃ m, m = (R k).length := ⟨_, rfl⟩
      obtain ⟨cap, hcap⟩ : ∃ m, m = rc k := ⟨_, rfl⟩
      obtain ⟨rak, hrak⟩ : ∃ m, m = ra k := ⟨_, rfl⟩
      obtain ⟨Vk, hVk⟩ : ∃ m, m = V k := ⟨_, rfl⟩
      have HLE : Hid ((R k).length = len) := hlen.symm
      have hdl : dn ≤ len := by omega
      rw [← hlen, ← hcap] at hlc
      rw [hz] at p0
      rw [← hlen, ← hcap, ← hrak] at p1
      rw [← hlen] at hRl
      rw [← hVk] at p2
      rw [← hcap, ← hrak] at hrn
      have HI2 : Hid (IntsAt w rak (R k)) := by rw [hrak]; exact HI.out
      have HLz : Hid (L k = (z : Int)) := hz
      have HZ : Hid (z < tn + nn) := by show _ < _; have := HE.1; rw [hz] at this; omega
      have HSY : Hid (∀ y ∈ R k, 0 ≤ y ∧ y < (tn : Int) + nn) := HE.2
      have HLK : Hid ((symT ts ns z).length + 3 + (symsT ts ns true ((R k).take dn)).length + (symsT ts ns true ((R k).drop dn)).length + 8 ≤ 140737488355328) := by
        show _ ≤ _
        have h1 := HL.out rfl k hkn
        have h2 : symsT ts ns true (R k) = symsT ts ns true ((R k).take dn) ++ symsT ts ns (true || !((R k).take dn).isEmpty) ((R k).drop dn) := by rw [← symsT_append, List.take_append_drop]
        rw [prodT, hz, h2] at h1
        simp at h1
        omega
      clear hps hI hz HE HQ HR HL hi hrak hcap hlen hVk HRC HI
      go_enter Try.func20, Try.ntmps20
      go_wp2_with fail
      refine Calls.mono (HM.out _ HX0.out.grown) ?_
      rintro e w1 ⟨rfl, hg1⟩
      have HX1 : Hid (ItAt w w1 w.heap.size #[.slice ta tn tc, .slice na nn nc, .slice la ln lc, .int .i64 st, .slice (some ⟨bp, op, none⟩) n pc] #[.int .i64 (k : Int), .int .i64 (dn : Int)]) := HX0.out.kept hg1
      obtain ⟨k0, k1, k2, k3, k4⟩ := And.intro (HX1.out.g 0 _ rfl) (And.intro (HX1.out.g 1 _ rfl) (And.intro (HX1.out.g 2 _ rfl) (And.intro (HX1.out.g 3 _ rfl) (HX1.out.g 4 _ rfl))))
      obtain ⟨i0, i1⟩ := And.intro (HX1.out.i 0 _ rfl) (HX1.out.i 1 _ rfl)
      clear hg1 HX0
      go_wp2_with fail
      refine Calls.mono (HA.out _ HX1.out.grown) ?_
      rintro e w2 ⟨rfl, hg2⟩
      have HX2 : Hid (ItAt w w2 w.heap.size #[.slice ta tn tc, .slice na nn nc, .slice la ln lc, .int .i64 st, .slice (some ⟨bp, op, none⟩) n pc] #[.int .i64 (k : Int), .int .i64 (dn : Int)]) := HX1.out.kept hg2
      clear hg2 HX1 k0 k1 k2 k3 k4 i0 i1
      obtain ⟨k0, k1, k2, k3, k4⟩ := And.intro (HX2.out.g 0 _ rfl) (And.intro (HX2.out.g 1 _ rfl) (And.intro (HX2.out.g 2 _ rfl) (And.intro (HX2.out.g 3 _ rfl) (HX2.out.g 4 _ rfl))))
      obtain ⟨i0, i1⟩ := And.intro (HX2.out.i 0 _ rfl) (HX2.out.i 1 _ rfl)
      have q0 := HX2.out.grown.cell p0 (by simp)
      have q1 := HX2.out.grown.cell p1 (by simp)
      have q2 := HX2.out.grown.cell p2 (by simp)
      have hk0 : (0 : Int) ≤ (k : Int) := by omega
      have hk1 : (k : Int) < (n : Int) := by omega
      have hbd : ∀ u, (Instr.build 55 #[(1, .agg #[.slice ta tn tc, .slice na nn nc, .slice la ln lc, .int .i64 st, .slice (some ⟨bp, op, none⟩) n pc])]).run Try.prog u = .ok (.agg #[.pointer none, .slice none 0 0, .slice ta tn tc, .slice na nn nc, .slice la ln lc, .int .i64 st, .slice (some ⟨bp, op, none⟩) n pc, .bool false]) u := fun u => run_build u _ _ _ (by kernel_rfl)
      have HY : Hid (∀ Y, (w2.alloc (.cells #[.int .i64 (z : Int), .slice rak len cap, .int .i64 Vk] 47)).grownBy Y none → (Y.cell? ⟨w.heap.size, 0, none⟩ = some (.slice ta tn tc) ∧ Y.cell? ⟨w.heap.size, 1, none⟩ = some (.slice na nn nc) ∧ Y.cell? ⟨w.heap.size, 2, none⟩ = some (.slice la ln lc) ∧ Y.cell? ⟨w.heap.size, 3, none⟩ = some (.int .i64 st) ∧ Y.cell? ⟨w.heap.size, 4, none⟩ = some (.slice (some ⟨bp, op, none⟩) n pc)) ∧ Y.cell? ⟨w2.heap.size, 0, none⟩ = some (.int .i64 (z : Int)) ∧ Y.cell? ⟨w2.heap.size, 1, none⟩ = some (.slice rak len cap) ∧ Y.cell? ⟨w.heap.size + 1, 1, none⟩ = some (.int .i64 (dn : Int))) := fun Y hY => by
        have hX := HX2.out.kept (grown_trans (World.grownBy_alloc _ _ none) hY)
        have hb := (hY.block _ (by simp) (by simp)).trans (heap_alloc_last w2 (.cells #[.int .i64 (z : Int), .slice rak len cap, .int .i64 Vk] 47))
        exact ⟨⟨hX.g 0 _ rfl, hX.g 1 _ rfl, hX.g 2 _ rfl, hX.g 3 _ rfl, hX.g 4 _ rfl⟩, by rw [cell_of_row _ _ _ _ _ _ hb]; rfl, by rw [cell_of_row _ _ _ _ _ _ hb]; rfl, hX.i 1 _ rfl⟩
      obtain ⟨⟨a0, a1, a2, a3, a4⟩, a5, a6, a7⟩ := HY.out _ (grown_refl _ _)
      obtain ⟨_, b5, b6, b7⟩ := HY.out _ (World.grownBy_alloc _ (.cells #[.pointer none, .slice none 0 0, .slice ta tn tc, .slice na nn nc, .slice la ln lc, .int .i64 st, .slice (some ⟨bp, op, none⟩) n pc, .bool false] 55) none)
      have HY1 : Hid (w.grownBy (w2.alloc (.cells #[.int .i64 (z : Int), .slice rak len cap, .int .i64 Vk] 47)) none) := grown_trans HX2.out.grown (World.grownBy_alloc _ _ none)
      have HWN : Hid (WrAt (w2.alloc (.cells #[.int .i64 (z : Int), .slice rak len cap, .int .i64 Vk] 47)) ((w2.alloc (.cells #[.int .i64 (z : Int), .slice rak len cap, .int .i64 Vk] 47)).alloc (.cells #[.pointer none, .slice none 0 0, .slice ta tn tc, .slice na nn nc, .slice la ln lc, .int .i64 st, .slice (some ⟨bp, op, none⟩) n pc, .bool false] 55)) (w2.heap.size + 1) (gvOf ta na la (some ⟨bp, op, none⟩) tn nn ln n tc nc lc pc st) [] false) := by
        have h9 := wr_new (w2.alloc (.cells #[.int .i64 (z : Int), .slice rak len cap, .int .i64 Vk] 47)) ta na la (some ⟨bp, op, none⟩) tn nn ln n tc nc lc pc st
        rw [World.size_alloc] at h9
        exact h9
      go_wp2_with fail
      refine (arrow_at HWN.out (HG.out.kept HY1.out).terms (HG.out.kept HY1.out).nons HLN.out.1 HLN.out.2.1 hnn z HZ.out (by have := HLK.out; simp; omega)).mono ?_
      rintro e w3 ⟨rfl, hW, hK⟩
      have HW : Hid (WrAt (w2.alloc (.cells #[.int .i64 (z : Int), .slice rak len cap, .int .i64 Vk] 47)) w3 (w2.heap.size + 1) (gvOf ta na la (some ⟨bp, op, none⟩) tn nn ln n tc nc lc pc st) (symT ts ns z ++ [32, 45, 62]) true) := by
        show WrAt _ _ _ _ _ _
        simpa [sp] using hW
      obtain ⟨_, c5, c6, c7⟩ := HY.out _ hW.cells.2.2.2.2.2
      clear hW hK k0 k1 k2 k3 k4 i0 i1 q0 q1 q2 a0 a1 a2 a3 a4 a5 a6 a7 b5 b6 b7
      have hd0 : (0 : Int) ≤ (dn : Int) := by omega
      have hd1 : (dn : Int) ≤ (len : Int) := by omega
      have hd2 : (len : Int) ≤ (cap : Int) := by omega
      go_wp2_with fail
      have HLT : Hid (((R k).take dn).length = dn) := by show _ = _; rw [List.length_take, HLE.out]; omega
      refine (symbols_at HW.out (HG.out.kept HY1.out).terms (HG.out.kept HY1.out).nons HLN.out.1 HLN.out.2.1 hnn rak dn cap ((R k).take dn) HLT.out (fun X hX _ => ints_take dn (HI2.out.kept (grown_trans HY1.out hX))) (fun j hj => HSY.out _ (List.mem_of_mem_take (by rw [List.getD, List.getElem?_eq_getElem (by rw [HLT.out]; exact hj)]; exact List.getElem_mem _))) (by omega) (by have := HLK.out; simp; omega)).mono ?_
      rintro e w4 ⟨rfl, hW, hK⟩
      have HW2 : Hid (WrAt (w2.alloc (.cells #[.int .i64 (z : Int), .slice rak len cap, .int .i64 Vk] 47)) w4 (w2.heap.size + 1) (gvOf ta na la (some ⟨bp, op, none⟩) tn nn ln n tc nc lc pc st) (symT ts ns z ++ [32, 45, 62] ++ symsT ts ns true ((R k).take dn)) true) := by
        show WrAt _ _ _ _ _ _
        simpa using hW
      clear hW hK c5 c6 c7 HW
      go_wp2_with fail
      refine (word_at _ 1 1 [⟨#[46]⟩] rfl (HW2.out.kept (World.grownBy_alloc w4 _ none)) (fun X hX => strs_new [⟨#[46]⟩] HW2.out.lt hX) (by have := HLK.out; simp [piecesB]; omega) (by decide)).mono ?_
      rintro e w5 ⟨rfl, hW, hK⟩
      have HW3 : Hid (WrAt (w2.alloc (.cells #[.int .i64 (z : Int), .slice rak len cap, .int .i64 Vk] 47)) w5 (w2.heap.size + 1) (gvOf ta na la (some ⟨bp, op, none⟩) tn nn ln n tc nc lc pc st) (symT ts ns z ++ [32, 45, 62] ++ symsT ts ns true ((R k).take dn) ++ [32, 46]) true) := by
        show WrAt _ _ _ _ _ _
        simpa [piecesB] using hW
      obtain ⟨_, c5, c6, c7⟩ := HY.out _ hW.cells.2.2.2.2.2
      clear hW hK HW2
      have hw1 : IntKind.i64.wrap ((len : Int) - (dn : Int)) = (len : Int) - dn := by simp [IntKind.wrap, IntKind.signed, IntKind.bits]; omega
      go_wp2_with fail
      all_goals
        have HLD : Hid (((R k).drop dn).length = len - dn) := by show _ = _; rw [List.length_drop, HLE.out]
        refine (symbols_at HW3.out (HG.out.kept HY1.out).terms (HG.out.kept HY1.out).nons HLN.out.1 HLN.out.2.1 hnn _ (len - dn) _ ((R k).drop dn) HLD.out (fun X hX _ => by first | exact ints_drop dn (HI2.out.kept (grown_trans HY1.out hX)) | exact .inl (List.eq_nil_of_length_eq_zero (by rw [HLD.out]; omega))) (fun j hj => HSY.out _ (List.mem_of_mem_drop (by rw [List.getD, List.getElem?_eq_getElem (by rw [HLD.out]; exact hj)]; exact List.getElem_mem _))) (by omega) (by have := HLK.out; simp; omega)).mono ?_
        rintro e w6 ⟨rfl, hW, hK⟩
        have HW4 : Hid (WrAt (w2.alloc (.cells #[.int .i64 (z : Int), .slice rak len cap, .int .i64 Vk] 47)) w6 (w2.heap.size + 1) (gvOf ta na la (some ⟨bp, op, none⟩) tn nn ln n tc nc lc pc st) (itemT ts ns (L k) (R k) dn) true) := by
          show WrAt _ _ _ _ _ _
          rw [itemT, HLz.out]
          simpa using hW
        clear hW hK c5 c6 c7
        go_wp2_with fail
        refine (string_at HW4.out).mono ?_
        rintro e w7 ⟨rfl, hg7⟩
        have HG7 : Hid (w.grownBy w7 none) := grown_trans HY1.out hg7
        clear hg7
        go_wp2_with fail
        go_ret2
        exact ⟨rfl, HG7.out⟩

end Go.Proofs.Ytkhmhcinepfemaa

/-
  The document's Item and Row.
-/
namespace Go.Proofs.Ytkhmhcinepfemaa
open Go.RowKit Go.Maps Go.Shelf

attribute [local go_sem] Oper.semAt_some

set_option maxRecDepth 100000 in
set_option maxHeartbeats 4000000 in
theorem rItem_any (ta na la pa : Option Addr) (tn nn ln n tc nc lc pc : Nat) (st : Int) (ts : List (ByteArray × Int)) (ns : List ByteArray) (L : Nat → Int) (R : Nat → List Int) (ra : Nat → Option Addr) (rc : Nat → Nat) (V : Nat → Int) (w : World) (hP : ProdsAt w pa n L R ra rc V) (r : Bool) (hE : ∀ Y, w.grownBy Y none → Calls Try.prog 22 #[.agg #[.slice ta tn tc, .slice na nn nc, .slice la ln lc, .int .i64 st, .slice pa n pc]] Y fun e w' => e = .returned (.bool r) ∧ Y.grownBy w' none)
    (i d : Int) (hD : r = true → ∀ k : Nat, k < n → ∀ Y, w.grownBy Y none → Calls Try.prog 38 #[.agg #[.slice ta tn tc, .slice na nn nc, .slice la ln lc, .int .i64 st, .slice pa n pc], .agg #[.int .i64 (L k), .slice (ra k) (R k).length (rc k), .int .i64 (V k)], .int .i64 d] Y fun e w' => e = .returned (.string (strOf (dotT ts ns (L k) (R k) d ((R k).length + 1)))) ∧ Y.grownBy w' none) (q : Bool) (hq : q = decide ((0 ≤ i ∧ i < (n : Int)) ∧ 0 ≤ d ∧ d ≤ ((R i.toNat).length : Int))) :
    Calls Try.prog 21 #[.agg #[.slice ta tn tc, .slice na nn nc, .slice la ln lc, .int .i64 st, .slice pa n pc], .agg #[.int .i64 i, .int .i64 d]] w fun e w' => e = .returned (.tuple #[.string (if r && q then strOf (dotT ts ns (L i.toNat) (R i.toNat) d ((R i.toNat).length + 1)) else ⟨#[]⟩), .int .i64 (if r && q then 0 else 1)]) ∧ w.grownBy w' none := by
  have HN : Hid (ItAt w ((w.alloc (.cells #[.slice ta tn tc, .slice na nn nc, .slice la ln lc, .int .i64 st, .slice pa n pc] 27)).alloc (.cells #[.int .i64 i, .int .i64 d] 36)) w.heap.size #[.slice ta tn tc, .slice na nn nc, .slice la ln lc, .int .i64 st, .slice pa n pc] #[.int .i64 i, .int .i64 d]) := ItAt.new w _ _
  have hA : (fun x => ItAt w x w.heap.size #[.slice ta tn tc, .slice na nn nc, .slice la ln lc, .int .i64 st, .slice pa n pc] #[.int .i64 i, .int .i64 d]) ((w.alloc (.cells #[.slice ta tn tc, .slice na nn nc, .slice la ln lc, .int .i64 st, .slice pa n pc] 27)).alloc (.cells #[.int .i64 i, .int .i64 d] 36)).drew := HN.out.kept (grown_drewN _ 1)
  have HQ : Hid (q = decide ((0 ≤ i ∧ i < (n : Int)) ∧ 0 ≤ d ∧ d ≤ ((R i.toNat).length : Int))) := hq
  have HD : Hid (r = true → ∀ k : Nat, k < n → ∀ Y, w.grownBy Y none → Calls Try.prog 38 #[.agg #[.slice ta tn tc, .slice na nn nc, .slice la ln lc, .int .i64 st, .slice pa n pc], .agg #[.int .i64 (L k), .slice (ra k) (R k).length (rc k), .int .i64 (V k)], .int .i64 d] Y fun e w' => e = .returned (.string (strOf (dotT ts ns (L k) (R k) d ((R k).length + 1)))) ∧ Y.grownBy w' none) := hD
  haveI hne : Nonempty (WBox (fun x => ItAt w x w.heap.size #[.slice ta tn tc, .slice na nn nc, .slice la ln lc, .int .i64 st, .slice pa n pc] #[.int .i64 i, .int .i64 d])) := ⟨⟨_, hA⟩⟩
  have g0 := fun s : WBox (fun x => ItAt w x w.heap.size #[.slice ta tn tc, .slice na nn nc, .slice la ln lc, .int .i64 st, .slice pa n pc] #[.int .i64 i, .int .i64 d]) => s.ok.g 0 _ rfl
  have g1 := fun s : WBox (fun x => ItAt w x w.heap.size #[.slice ta tn tc, .slice na nn nc, .slice la ln lc, .int .i64 st, .slice pa n pc] #[.int .i64 i, .int .i64 d]) => s.ok.g 1 _ rfl
  have g2 := fun s : WBox (fun x => ItAt w x w.heap.size #[.slice ta tn tc, .slice na nn nc, .slice la ln lc, .int .i64 st, .slice pa n pc] #[.int .i64 i, .int .i64 d]) => s.ok.g 2 _ rfl
  have g3 := fun s : WBox (fun x => ItAt w x w.heap.size #[.slice ta tn tc, .slice na nn nc, .slice la ln lc, .int .i64 st, .slice pa n pc] #[.int .i64 i, .int .i64 d]) => s.ok.g 3 _ rfl
  have g4 := fun s : WBox (fun x => ItAt w x w.heap.size #[.slice ta tn tc, .slice na nn nc, .slice la ln lc, .int .i64 st, .slice pa n pc] #[.int .i64 i, .int .i64 d]) => s.ok.g 4 _ rfl
  have i0 := fun s : WBox (fun x => ItAt w x w.heap.size #[.slice ta tn tc, .slice na nn nc, .slice la ln lc, .int .i64 st, .slice pa n pc] #[.int .i64 i, .int .i64 d]) => s.ok.i 0 _ rfl
  have i1 := fun s : WBox (fun x => ItAt w x w.heap.size #[.slice ta tn tc, .slice na nn nc, .slice la ln lc, .int .i64 st, .slice pa n pc] #[.int .i64 i, .int .i64 d]) => s.ok.i 1 _ rfl
  have K1 : Hid (∀ s : WBox (fun x => ItAt w x w.heap.size #[.slice ta tn tc, .slice na nn nc, .slice la ln lc, .int .i64 st, .slice pa n pc] #[.int .i64 i, .int .i64 d]), Calls Try.prog 22 #[.agg #[.slice ta tn tc, .slice na nn nc, .slice la ln lc, .int .i64 st, .slice pa n pc]] s.w fun e w' => e = .returned (.bool r) ∧ ∃ s' : WBox (fun x => ItAt w x w.heap.size #[.slice ta tn tc, .slice na nn nc, .slice la ln lc, .int .i64 st, .slice pa n pc] #[.int .i64 i, .int .i64 d]), w' = s'.w) := fun s => calls_class ((hE s.w s.ok.grown).mono fun e w' h => ⟨h.1, s.ok.kept h.2⟩)
  have HP : Hid (ProdsAt w pa n L R ra rc V) := hP
  clear hq hP hE hD
  cases r with
  | false =>
    go_enter Try.func21, Try.ntmps21
    go_wp2_with fail
    refine wp_region_class (p := fun x => ItAt w x w.heap.size #[.slice ta tn tc, .slice na nn nc, .slice la ln lc, .int .i64 st, .slice pa n pc] #[.int .i64 i, .int .i64 d]) (by kernel_rfl) (by kernel_rfl) hA ?_
    repeat (go_big_quiet_step (first | (go_at_call 22; rename_i s; with_reducible exact K1.out s)))
    refine wpQuiet_nil ?_
    rintro _ ⟨s, rfl⟩
    go_wp2_with fail
    go_ret2
    exact ⟨rfl, s.ok.grown⟩
  | true =>
    by_cases h1 : i < 0
    · have hf : q = false := by rw [HQ.out]; exact decide_eq_false (by omega)
      subst hf
      have e1 : decide (i < 0) = true := decide_eq_true h1
      go_enter Try.func21, Try.ntmps21
      go_wp2_with fail
      refine wp_region_class (p := fun x => ItAt w x w.heap.size #[.slice ta tn tc, .slice na nn nc, .slice la ln lc, .int .i64 st, .slice pa n pc] #[.int .i64 i, .int .i64 d]) (by kernel_rfl) (by kernel_rfl) hA ?_
      repeat (go_big_quiet_step (first | (go_at_call 22; rename_i s; with_reducible exact K1.out s)))
      refine wpQuiet_nil ?_
      rintro _ ⟨s, rfl⟩
      go_wp2_with fail
      go_ret2
      exact ⟨rfl, s.ok.grown⟩
    · have e1 : decide (i < 0) = false := decide_eq_false h1
      by_cases h2 : (n : Int) ≤ i
      · have hf : q = false := by rw [HQ.out]; exact decide_eq_false (by omega)
        subst hf
        have e2 : decide ((n : Int) ≤ i) = true := decide_eq_true h2
        go_enter Try.func21, Try.ntmps21
        go_wp2_with fail
        refine wp_region_class (p := fun x => ItAt w x w.heap.size #[.slice ta tn tc, .slice na nn nc, .slice la ln lc, .int .i64 st, .slice pa n pc] #[.int .i64 i, .int .i64 d]) (by kernel_rfl) (by kernel_rfl) hA ?_
        repeat (go_big_quiet_step (first | (go_at_call 22; rename_i s; with_reducible exact K1.out s)))
        refine wpQuiet_nil ?_
        rintro _ ⟨s, rfl⟩
        go_wp2_with fail
        go_ret2
        exact ⟨rfl, s.ok.grown⟩
      · have e2 : decide ((n : Int) ≤ i) = false := decide_eq_false h2
        obtain ⟨k, rfl⟩ : ∃ k : Nat, i = (k : Int) := ⟨i.toNat, by omega⟩
        have hkn : k < n := by omega
        obtain ⟨bp, op, rfl, hps⟩ : ∃ b off, pa = some ⟨b, off, none⟩ ∧ ∀ k, k < n → w.cell? ⟨b, off + k * 3, none⟩ = some (.int .i64 (L k)) ∧ w.cell? ⟨b, off + k * 3 + 1, none⟩ = some (.slice (ra k) (R k).length (rc k)) ∧ w.cell? ⟨b, off + k * 3 + 2, none⟩ = some (.int .i64 (V k)) ∧ IntsAt w (ra k) (R k) ∧ (ra k = none → rc k = 0) ∧ (R k).length ≤ 17592186044416 := by
          rcases HP.out with h | h
          · omega
          · exact h
        obtain ⟨p0, p1, p2, _⟩ := hps k hkn
        have HDK : Hid (∀ Y, w.grownBy Y none → Calls Try.prog 38 #[.agg #[.slice ta tn tc, .slice na nn nc, .slice la ln lc, .int .i64 st, .slice (some ⟨bp, op, none⟩) n pc], .agg #[.int .i64 (L k), .slice (ra k) (R k).length (rc k), .int .i64 (V k)], .int .i64 d] Y fun e w' => e = .returned (.string (strOf (dotT ts ns (L k) (R k) d ((R k).length + 1)))) ∧ Y.grownBy w' none) := HD.out rfl k hkn
        obtain ⟨rl, hrl⟩ : ∃ x, x = (R k).length := ⟨_, rfl⟩
        obtain ⟨res, hres⟩ : ∃ x, x = strOf (dotT ts ns (L k) (R k) d ((R k).length + 1)) := ⟨_, rfl⟩
        obtain ⟨Lk, hLk⟩ : ∃ x, x = L k := ⟨_, rfl⟩
        obtain ⟨Vk, hVk⟩ : ∃ x, x = V k := ⟨_, rfl⟩
        obtain ⟨rak, hrak⟩ : ∃ x, x = ra k := ⟨_, rfl⟩
        obtain ⟨rck, hrck⟩ : ∃ x, x = rc k := ⟨_, rfl⟩
        have hqq : q = decide (0 ≤ d ∧ d ≤ (rl : Int)) := by
          rw [HQ.out, hrl, Int.toNat_natCast]
          have : (0 ≤ (k : Int) ∧ (k : Int) < (n : Int)) := by omega
          simp only [this, and_self, true_and]
        have HQ2 : Hid (q = decide (0 ≤ d ∧ d ≤ (rl : Int))) := hqq
        rw [← hres, ← hrl, ← hLk, ← hVk, ← hrak, ← hrck] at HDK
        rw [← hrl, ← hrak, ← hrck] at p1
        rw [← hLk] at p0
        rw [← hVk] at p2
        have HRES : Hid (strOf (dotT ts ns (L k) (R k) d ((R k).length + 1)) = res) := hres.symm
        have hk0 : (0 : Int) ≤ (k : Int) := by omega
        have hk1 : (k : Int) < (n : Int) := by omega
        have e1n : decide ((k : Int) < 0) = false := decide_eq_false (by omega)
        have e2n : decide (n ≤ k) = false := decide_eq_false (by omega)
        have pr1 := fun s : WBox (fun x => ItAt w x w.heap.size #[.slice ta tn tc, .slice na nn nc, .slice la ln lc, .int .i64 st, .slice (some ⟨bp, op, none⟩) n pc] #[.int .i64 (k : Int), .int .i64 d]) => s.ok.grown.cell p1 (by simp)
        clear hps HD hres hrl hLk hVk hrak hrck hqq HQ
        by_cases h3 : d < 0
        · have hf : q = false := by rw [HQ2.out]; exact decide_eq_false (by omega)
          subst hf
          have e3 : decide (d < 0) = true := decide_eq_true h3
          go_enter Try.func21, Try.ntmps21
          go_wp2_with fail
          refine wp_region_class (p := fun x => ItAt w x w.heap.size #[.slice ta tn tc, .slice na nn nc, .slice la ln lc, .int .i64 st, .slice (some ⟨bp, op, none⟩) n pc] #[.int .i64 (k : Int), .int .i64 d]) (by kernel_rfl) (by kernel_rfl) hA ?_
          repeat (go_big_quiet_step (first | (go_at_call 22; rename_i s; with_reducible exact K1.out s)))
          refine wpQuiet_nil ?_
          rintro _ ⟨s, rfl⟩
          go_wp2_with fail
          go_ret2
          exact ⟨rfl, s.ok.grown⟩
        · have e3 : decide (d < 0) = false := decide_eq_false h3
          by_cases h4 : (rl : Int) < d
          · have hf : q = false := by rw [HQ2.out]; exact decide_eq_false (by omega)
            subst hf
            have e4 : decide ((rl : Int) < d) = true := decide_eq_true h4
            go_enter Try.func21, Try.ntmps21
            go_wp2_with fail
            refine wp_region_class (p := fun x => ItAt w x w.heap.size #[.slice ta tn tc, .slice na nn nc, .slice la ln lc, .int .i64 st, .slice (some ⟨bp, op, none⟩) n pc] #[.int .i64 (k : Int), .int .i64 d]) (by kernel_rfl) (by kernel_rfl) hA ?_
            repeat (go_big_quiet_step (first | (go_at_call 22; rename_i s; with_reducible exact K1.out s)))
            refine wpQuiet_nil ?_
            rintro _ ⟨s, rfl⟩
            go_wp2_with fail
            go_ret2
            exact ⟨rfl, s.ok.grown⟩
          · have hf : q = true := by rw [HQ2.out]; exact decide_eq_true (by omega)
            subst hf
            have e4 : decide ((rl : Int) < d) = false := decide_eq_false h4
            go_enter Try.func21, Try.ntmps21
            go_wp2_with fail
            refine wp_region_class (p := fun x => ItAt w x w.heap.size #[.slice ta tn tc, .slice na nn nc, .slice la ln lc, .int .i64 st, .slice (some ⟨bp, op, none⟩) n pc] #[.int .i64 (k : Int), .int .i64 d]) (by kernel_rfl) (by kernel_rfl) hA ?_
            repeat (go_big_quiet_step (first | (go_at_call 22; rename_i s; with_reducible exact K1.out s)))
            refine wpQuiet_nil ?_
            rintro _ ⟨s, rfl⟩
            have HS1 : Hid (ItAt w s.w w.heap.size #[.slice ta tn tc, .slice na nn nc, .slice la ln lc, .int .i64 st, .slice (some ⟨bp, op, none⟩) n pc] #[.int .i64 (k : Int), .int .i64 d]) := s.ok
            generalize s.w = w1 at *
            have a0 := HS1.out.g 0 _ rfl
            have a1 := HS1.out.g 1 _ rfl
            have a2 := HS1.out.g 2 _ rfl
            have a3 := HS1.out.g 3 _ rfl
            have a4 := HS1.out.g 4 _ rfl
            have b0 := HS1.out.i 0 _ rfl
            have b1 := HS1.out.i 1 _ rfl
            have c0 := HS1.out.grown.cell p0 (by simp)
            have c1 := HS1.out.grown.cell p1 (by simp)
            have c2 := HS1.out.grown.cell p2 (by simp)
            have HKS : Hid (∀ Y, w1.grownBy Y none → Y.cell? ⟨w.heap.size, 0, none⟩ = some (.slice ta tn tc) ∧ Y.cell? ⟨w.heap.size, 1, none⟩ = some (.slice na nn nc) ∧ Y.cell? ⟨w.heap.size, 2, none⟩ = some (.slice la ln lc) ∧ Y.cell? ⟨w.heap.size, 3, none⟩ = some (.int .i64 st) ∧ Y.cell? ⟨w.heap.size, 4, none⟩ = some (.slice (some ⟨bp, op, none⟩) n pc) ∧ Y.cell? ⟨w.heap.size + 1, 0, none⟩ = some (.int .i64 (k : Int)) ∧ Y.cell? ⟨w.heap.size + 1, 1, none⟩ = some (.int .i64 d) ∧ Y.cell? ⟨bp, op + k * 3, none⟩ = some (.int .i64 Lk) ∧ Y.cell? ⟨bp, op + k * 3 + 1, none⟩ = some (.slice rak rl rck) ∧ Y.cell? ⟨bp, op + k * 3 + 2, none⟩ = some (.int .i64 Vk)) := fun Y hY => ⟨hY.cell a0 (by simp), hY.cell a1 (by simp), hY.cell a2 (by simp), hY.cell a3 (by simp), hY.cell a4 (by simp), hY.cell b0 (by simp), hY.cell b1 (by simp), hY.cell c0 (by simp), hY.cell c1 (by simp), hY.cell c2 (by simp)⟩
            have HGc : Hid (w1.grownBy w1.drew none) := grown_drewN _ 1
            clear hA hne g0 g1 g2 g3 g4 i0 i1 K1 pr1 p0 p1 p2
            go_wp2_with fail
            go_region_held3 (fun w' => w'.cell? ⟨w.heap.size, 0, none⟩ = some (.slice ta tn tc) ∧ w'.cell? ⟨w.heap.size, 1, none⟩ = some (.slice na nn nc) ∧ w'.cell? ⟨w.heap.size, 2, none⟩ = some (.slice la ln lc) ∧ w'.cell? ⟨w.heap.size, 3, none⟩ = some (.int .i64 st) ∧ w'.cell? ⟨w.heap.size, 4, none⟩ = some (.slice (some ⟨bp, op, none⟩) n pc) ∧ w'.cell? ⟨w.heap.size + 1, 0, none⟩ = some (.int .i64 (k : Int)) ∧ w'.cell? ⟨w.heap.size + 1, 1, none⟩ = some (.int .i64 d) ∧ w'.cell? ⟨bp, op + k * 3, none⟩ = some (.int .i64 Lk) ∧ w'.cell? ⟨bp, op + k * 3 + 1, none⟩ = some (.slice rak rl rck) ∧ w'.cell? ⟨bp, op + k * 3 + 2, none⟩ = some (.int .i64 Vk)) (first | exact HKS.out _ HGc.out | go_keep)
              ((go_at_call 38; refine Calls.mono (HDK.out _ (grown_trans HS1.out.grown HGc.out)) ?_; rintro e w2 ⟨rfl, hg2⟩; have HGc : Hid (w1.grownBy w2 none) := grown_trans HGc.out hg2))
            go_wp2_with fail
            go_ret2
            exact ⟨by rw [HRES.out]; rfl, grown_trans HS1.out.grown HGc.out⟩

end Go.Proofs.Ytkhmhcinepfemaa
