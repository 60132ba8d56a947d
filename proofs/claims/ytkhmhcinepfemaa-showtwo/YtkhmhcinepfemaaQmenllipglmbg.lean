import Derived.Test.YtkhmhcinepfemaaQjgfeldegjgef

/-
  show: Prod and Item.
-/
namespace Go.Proofs.Ytkhmhcinepfemaa
open Go.RowKit Go.Maps Go.Shelf

/-- A production's text: its left side and the arrow, its right side. -/
def prodT (ts : List (ByteArray × Int)) (ns : List ByteArray) (l : Int) (r : List Int) : List UInt8 := symT ts ns l.toNat ++ [32, 45, 62] ++ symsT ts ns true r

set_option maxHeartbeats 2000000 in
set_option maxRecDepth 100000 in
theorem isProd_any (ta na la pa : Option Addr) (tn nn ln n tc nc lc pc : Nat) (st i : Int) (w : World) :
    Calls Try.prog 36 #[.agg #[.slice ta tn tc, .slice na nn nc, .slice la ln lc, .int .i64 st, .slice pa n pc], .int .i64 i] w fun e w' => e = .returned (.bool (decide (0 ≤ i ∧ i < n))) ∧ w.grownBy w' none := by
  have HX0 : Hid (PhAt w (w.alloc (.cells #[.slice ta tn tc, .slice na nn nc, .slice la ln lc, .int .i64 st, .slice pa n pc] 27)) w.heap.size #[.slice ta tn tc, .slice na nn nc, .slice la ln lc, .int .i64 st, .slice pa n pc]) := ⟨World.grownBy_alloc _ _ none, heap_alloc_last w _⟩
  by_cases h1 : 0 ≤ i
  · by_cases h2 : i < (n : Int)
    · rw [decide_eq_true ⟨h1, h2⟩]
      go_enter Try.func36, Try.ntmps36
      go_wp2_with fail
      go_ret
      exact ⟨rfl, HX0.out.grown⟩
    · rw [decide_eq_false (fun h => h2 h.2)]
      go_enter Try.func36, Try.ntmps36
      go_wp2_with fail
      go_ret
      exact ⟨rfl, HX0.out.grown⟩
  · rw [decide_eq_false (fun h => h1 h.1)]
    go_enter Try.func36, Try.ntmps36
    go_wp2_with fail
    go_ret
    exact ⟨rfl, HX0.out.grown⟩

/-- Of a grammar that may be, all that stands in a production is a symbol. -/
theorem either_prods {ts : List (ByteArray × Int)} {ns : List ByteArray} {lv : List Int} {st : Int} {n : Nat} {L : Nat → Int} {R : Nat → List Int} {V : Nat → Int} (h : validOK ts ns lv st n L R V ∨ closedOK ts ns lv st n L R V) (i : Nat) (hi : i < n) :
    (0 ≤ L i ∧ L i < (ts.length : Int) + ns.length) ∧ ∀ z ∈ R i, 0 ≤ z ∧ z < (ts.length : Int) + ns.length := by
  have key : ∀ ad x, isNonI ts.length ns.length ad x → 0 ≤ x ∧ x < (ts.length : Int) + ns.length := fun ad x h => by unfold isNonI at h; omega
  have key2 : ∀ ad x, isSymI ts.length ns.length ad x → 0 ≤ x ∧ x < (ts.length : Int) + ns.length := fun ad x h => by
    rcases h with h | h
    · omega
    · exact key ad x h
  rcases h with h | h
  · have hp := h.1.prods i hi
    exact ⟨key 0 _ hp.1, fun z hz => key2 0 z (hp.2.2 z hz)⟩
  · by_cases h0 : i = 0
    · subst h0
      have hn := h.1.nn
      rw [h.1.left, h.1.right]
      refine ⟨by omega, fun z hz => ?_⟩
      simp only [List.mem_singleton] at hz
      subst hz
      exact key 1 _ h.2.start
    · have hp := h.2.prods i (by omega) hi
      exact ⟨key 1 _ hp.1, fun z hz => key2 1 z (hp.2.2 z hz)⟩

set_option maxHeartbeats 2000000 in
set_option maxRecDepth 100000 in
theorem prod_any (ta na la pa : Option Addr) (tc nc lc pc : Nat) (ts : List (ByteArray × Int)) (ns : List ByteArray) (lv : List Int) (n : Nat) (L : Nat → Int) (R : Nat → List Int) (ra : Nat → Option Addr) (rc : Nat → Nat) (V : Nat → Int) (st : Int) (w : World) (tn nn ln : Nat) (hlen : ts.length = tn ∧ ns.length = nn ∧ lv.length = ln) (hG : GAt w ta na la pa tc nc lc pc ts ns lv n L R ra rc V)
    (r : Bool) (hr : r = true ↔ validOK ts ns lv st n L R V ∨ closedOK ts ns lv st n L R V) (i : Int) (hl : r = true → ∀ k, k < n → (prodT ts ns (L k) (R k)).length + 1 ≤ 140737488355328) :
    Calls Try.prog 18 #[.agg #[.slice ta tn tc, .slice na nn nc, .slice la ln lc, .int .i64 st, .slice pa n pc], .int .i64 i] w fun e w' => e = .returned (.tuple #[.string (if r && decide (0 ≤ i ∧ i < n) then ⟨(prodT ts ns (L i.toNat) (R i.toNat)).toArray⟩ else ⟨#[]⟩), .int .i64 (if r && decide (0 ≤ i ∧ i < n) then 0 else 1)]) ∧ w.grownBy w' none := by
  have HM : Hid (∀ Y, w.grownBy Y none → Calls Try.prog 25 #[.agg #[.slice ta tn tc, .slice na nn nc, .slice la ln lc, .int .i64 st, .slice pa n pc]] Y fun e w' => e = .returned (.bool r) ∧ Y.grownBy w' none) := fun Y hY => mayBe_any ta na la pa tc nc lc pc ts ns lv n L R ra rc V st Y tn nn ln hlen (hG.kept hY) r hr
  have hnn := hG.nlen
  rw [hlen.2.1] at hnn
  obtain ⟨q, hq⟩ : ∃ q, q = decide (0 ≤ i ∧ i < (n : Int)) := ⟨_, rfl⟩
  have HA : Hid (∀ Y, Calls Try.prog 36 #[.agg #[.slice ta tn tc, .slice na nn nc, .slice la ln lc, .int .i64 st, .slice pa n pc], .int .i64 i] Y fun e w' => e = .returned (.bool q) ∧ Y.grownBy w' none) := fun Y => by rw [hq]; exact isProd_any ta na la pa tn nn ln n tc nc lc pc st i Y
  rw [← hq]
  have HX0 : Hid (PhAt w (w.alloc (.cells #[.slice ta tn tc, .slice na nn nc, .slice la ln lc, .int .i64 st, .slice pa n pc] 27)) w.heap.size #[.slice ta tn tc, .slice na nn nc, .slice la ln lc, .int .i64 st, .slice pa n pc]) := ⟨World.grownBy_alloc _ _ none, heap_alloc_last w _⟩
  have hbd : ∀ u, (Instr.build 55 #[(1, .agg #[.slice ta tn tc, .slice na nn nc, .slice la ln lc, .int .i64 st, .slice pa n pc])]).run Try.prog u = .ok (.agg #[.pointer none, .slice none 0 0, .slice ta tn tc, .slice na nn nc, .slice la ln lc, .int .i64 st, .slice pa n pc, .bool false]) u := fun u => run_build u _ _ _ (by kernel_rfl)
  have HG : Hid (GAt w ta na la pa tc nc lc pc ts ns lv n L R ra rc V) := hG
  have HLN : Hid (ts.length = tn ∧ ns.length = nn ∧ lv.length = ln) := hlen
  have HR : Hid (r = true ↔ validOK ts ns lv st n L R V ∨ closedOK ts ns lv st n L R V) := hr
  have HQ : Hid (q = decide (0 ≤ i ∧ i < (n : Int))) := hq
  have HL : Hid (r = true → ∀ k, k < n → (prodT ts ns (L k) (R k)).length + 1 ≤ 140737488355328) := hl
  clear hG hlen hl hr hq
  cases r with
  | false =>
    go_enter Try.func18, Try.ntmps18
    go_wp2_with fail
    refine Calls.mono (HM.out _ HX0.out.grown) ?_
    rintro e w1 ⟨rfl, hg1⟩
    have HG1 : Hid (w.grownBy w1 none) := grown_trans HX0.out.grown hg1
    clear hg1 HX0
    go_wp2_with fail
    go_ret2
    exact ⟨rfl, HG1.out⟩
  | true =>
    cases q with
    | false =>
      go_enter Try.func18, Try.ntmps18
      go_wp2_with fail
      refine Calls.mono (HM.out _ HX0.out.grown) ?_
      rintro e w1 ⟨rfl, hg1⟩
      have HX1 : Hid (PhAt w w1 w.heap.size #[.slice ta tn tc, .slice na nn nc, .slice la ln lc, .int .i64 st, .slice pa n pc]) := HX0.out.kept hg1
      obtain ⟨k0, k1, k2, k3, k4⟩ := HX1.out.cells
      clear hg1 HX0
      go_wp2_with fail
      refine Calls.mono (HA.out _) ?_
      rintro e w2 ⟨rfl, hg2⟩
      have HG2 : Hid (w.grownBy w2 none) := grown_trans HX1.out.grown hg2
      clear hg2 HX1 k0 k1 k2 k3 k4
      go_wp2_with fail
      go_ret2
      exact ⟨rfl, HG2.out⟩
    | true =>
      have hi : 0 ≤ i ∧ i < (n : Int) := of_decide_eq_true HQ.out.symm
      obtain ⟨k, hk⟩ : ∃ k : Nat, i = (k : Int) := ⟨i.toNat, by omega⟩
      subst hk
      have hkn : k < n := by omega
      have HE := either_prods (HR.out.1 rfl) k hkn
      rw [HLN.out.1, HLN.out.2.1] at HE
      obtain ⟨bp, op, hpa, hps⟩ : ∃ b off, pa = some ⟨b, off, none⟩ ∧ ∀ k, k < n → w.cell? ⟨b, off + k * 3, none⟩ = some (.int .i64 (L k)) ∧ w.cell? ⟨b, off + k * 3 + 1, none⟩ = some (.slice (ra k) (R k).length (rc k)) ∧ w.cell? ⟨b, off + k * 3 + 2, none⟩ = some (.int .i64 (V k)) ∧ IntsAt w (ra k) (R k) ∧ (ra k = none → rc k = 0) ∧ (R k).length ≤ 17592186044416 := by
        rcases HG.out.prods with h | h
        · omega
        · exact h
      subst hpa
      obtain ⟨p0, p1, _, hI, _, hRl⟩ := hps k hkn
      have HI : Hid (IntsAt w (ra k) (R k)) := hI
      obtain ⟨z, hz⟩ : ∃ z : Nat, L k = (z : Int) := ⟨(L k).toNat, by omega⟩
      obtain ⟨len, hlen⟩ : ∃ m, m = (R k).length := ⟨_, rfl⟩
      have HLE : Hid ((R k).length = len) := hlen.symm
      rw [hz] at p0
      rw [← hlen] at p1 hRl
      have HLz : Hid (L k = (z : Int)) := hz
      have HZ : Hid (z < tn + nn) := by show _ < _; have := HE.1; rw [hz] at this; omega
      have HSY : Hid (∀ y ∈ R k, 0 ≤ y ∧ y < (tn : Int) + nn) := HE.2
      have HP : Hid (∀ Y, w.grownBy Y none → Y.cell? ⟨bp, op + k * 3, none⟩ = some (.int .i64 z) ∧ Y.cell? ⟨bp, op + k * 3 + 1, none⟩ = some (.slice (ra k) len (rc k))) := fun Y hY => ⟨hY.cell p0 (by simp), hY.cell p1 (by simp)⟩
      have HLK : Hid ((symT ts ns z).length + 3 + (symsT ts ns true (R k)).length + 1 ≤ 140737488355328) := by
        show _ ≤ _
        have := HL.out rfl k hkn
        rw [prodT, hz] at this
        simp at this
        omega
      clear hps hI hz hlen HE p0 p1 HQ HR HL
      go_enter Try.func18, Try.ntmps18
      go_wp2_with fail
      refine Calls.mono (HM.out _ HX0.out.grown) ?_
      rintro e w1 ⟨rfl, hg1⟩
      have HX1 : Hid (PhAt w w1 w.heap.size #[.slice ta tn tc, .slice na nn nc, .slice la ln lc, .int .i64 st, .slice (some ⟨bp, op, none⟩) n pc]) := HX0.out.kept hg1
      obtain ⟨k0, k1, k2, k3, k4⟩ := HX1.out.cells
      clear hg1 HX0
      go_wp2_with fail
      refine Calls.mono (HA.out _) ?_
      rintro e w2 ⟨rfl, hg2⟩
      have HX2 : Hid (PhAt w w2 w.heap.size #[.slice ta tn tc, .slice na nn nc, .slice la ln lc, .int .i64 st, .slice (some ⟨bp, op, none⟩) n pc]) := HX1.out.kept hg2
      clear k0 k1 k2 k3 k4 hg2 HX1 HA HM
      obtain ⟨k0, k1, k2, k3, k4⟩ := HX2.out.cells
      have HX3 : Hid (PhAt w (w2.alloc (.cells #[.pointer none, .slice none 0 0, .slice ta tn tc, .slice na nn nc, .slice la ln lc, .int .i64 st, .slice (some ⟨bp, op, none⟩) n pc, .bool false] 55)) w.heap.size #[.slice ta tn tc, .slice na nn nc, .slice la ln lc, .int .i64 st, .slice (some ⟨bp, op, none⟩) n pc]) := HX2.out.kept (World.grownBy_alloc _ _ none)
      obtain ⟨m0, m1, m2, m3, m4⟩ := HX3.out.cells
      obtain ⟨d0, d1⟩ := HP.out _ HX3.out.grown
      go_wp2_with fail
      refine (arrow_at (wr_new w2 ta na la (some ⟨bp, op, none⟩) tn nn ln n tc nc lc pc st) (HG.out.kept HX2.out.grown).terms (HG.out.kept HX2.out.grown).nons HLN.out.1 HLN.out.2.1 hnn z HZ.out (by have := HLK.out; simp; omega)).mono ?_
      rintro e w3 ⟨rfl, hW, hK⟩
      have HW : Hid (WrAt w2 w3 w2.heap.size (gvOf ta na la (some ⟨bp, op, none⟩) tn nn ln n tc nc lc pc st) (symT ts ns z ++ [32, 45, 62]) true) := by
        show WrAt _ _ _ _ _ _
        simpa [sp] using hW
      have HX4 : Hid (PhAt w w3 w.heap.size #[.slice ta tn tc, .slice na nn nc, .slice la ln lc, .int .i64 st, .slice (some ⟨bp, op, none⟩) n pc]) := HX2.out.kept hW.cells.2.2.2.2.2
      clear hW hK k0 k1 k2 k3 k4 m0 m1 m2 m3 m4 d0 d1 HX3
      obtain ⟨k0, k1, k2, k3, k4⟩ := HX4.out.cells
      obtain ⟨d0, d1⟩ := HP.out _ HX4.out.grown
      go_wp2_with fail
      refine (symbols_at HW.out (HG.out.kept HX2.out.grown).terms (HG.out.kept HX2.out.grown).nons HLN.out.1 HLN.out.2.1 hnn (ra k) len (rc k) (R k) HLE.out (fun X hX _ => HI.out.kept (grown_trans HX2.out.grown hX)) (fun j hj => HSY.out _ (by rw [List.getD, List.getElem?_eq_getElem (by rw [HLE.out]; exact hj)]; exact List.getElem_mem _)) hRl (by have := HLK.out; simp; omega)).mono ?_
      rintro e w4 ⟨rfl, hW, hK⟩
      have HW2 : Hid (WrAt w2 w4 w2.heap.size (gvOf ta na la (some ⟨bp, op, none⟩) tn nn ln n tc nc lc pc st) (prodT ts ns (L k) (R k)) true) := by
        show WrAt _ _ _ _ _ _
        rw [prodT, HLz.out]
        simpa using hW
      clear hW hK k0 k1 k2 k3 k4 d0 d1 HW
      go_wp2_with fail
      refine (string_at HW2.out).mono ?_
      rintro e w5 ⟨rfl, hg5⟩
      have HG5 : Hid (w.grownBy w5 none) := grown_trans HX2.out.grown hg5
      clear hg5
      go_wp2_with fail
      go_ret2
      exact ⟨rfl, HG5.out⟩

end Go.Proofs.Ytkhmhcinepfemaa

/-
  show's writer: its lists of terminals.
-/
namespace Go.Proofs.Ytkhmhcinepfemaa
open Go.RowKit Go.Maps Go.Shelf

def upTo (n : Nat) : List Int := (List.range n).map (fun i : Nat => (i : Int) + 1)
theorem upTo_succ (n : Nat) : upTo (n + 1) = upTo n ++ [(n : Int) + 1] := by simp [upTo, List.range_succ]
theorem upTo_len (n : Nat) : (upTo n).length = n := by simp [upTo]

theorem grown_row' {X w w' : World} {B e s n : Nat} {v : Value} {xs : List Value} (hX : X.grownBy w none) (ho : w.ownsRow B e s v n xs) (hB : X.heap.size ≤ B) (hg : w.grownBy w' v.ownBlock) : X.grownBy w' none := by
  cases hv : v.ownBlock with
  | none => rw [hv] at hg; exact grown_trans hX hg
  | some q => rw [hv] at hg; exact grown_new hX hg (Nat.le_trans hB (ho.lt q hv).1)

set_option maxRecDepth 100000 in
theorem wterms_at {w : World} {b : Nat} {ta : Option Addr} {tn tc : Nat} (hc : w.cell? ⟨b, 2, none⟩ = some (.slice ta tn tc)) (ht : tn ≤ 1048576) :
    Calls Try.prog 46 #[.pointer (some ⟨b, 0, none⟩)] w fun e w' => ∃ v, e = .returned v ∧ w'.ownsRow w.heap.size 3 1 v (tn - 1) ((upTo (tn - 1)).map (Value.int .i64)) ∧ w.grownBy w' none := by
  obtain ⟨i0, hi, hz0, hz1, hz2⟩ := info_parts infoInt
  have HC : Hid (∀ X, w.grownBy X none → X.cell? ⟨b, 2, none⟩ = some (.slice ta tn tc)) := fun X hX => hX.cell hc (by simp)
  clear hc
  go_enter Try.func46, Try.ntmps46
  go_wp2_with fail
  go_loopg [3, 4] (tn - 1) (fun gk v3 i wr => ∃ (k : Nat) (a3 : Option Addr) (c3 : Nat), k ≤ tn - 1 ∧ gk = tn - 1 - k ∧ i = .int .i64 ((k : Int) + 1) ∧ v3 = .slice a3 k c3 ∧ wr.ownsRow w.heap.size 3 1 (.slice a3 k c3) k ((upTo k).map (Value.int .i64)) ∧ w.grownBy wr none)
  case atStart => exact ⟨0, none, 0, Nat.zero_le _, rfl, rfl, rfl, World.ownsRow_nil _ _ _ _, ⟨rfl, rfl, rfl, Nat.le_refl _, fun _ _ _ => rfl⟩⟩
  case round =>
    obtain ⟨k, a3, c3, hk, hgk, rfl, rfl, hO, hg⟩ := hrel
    have HO : Hid (wr.ownsRow w.heap.size 3 1 (.slice a3 k c3) k ((upTo k).map (Value.int .i64))) := hO
    have HG : Hid (w.grownBy wr none) := hg
    have HGK : Hid (gk = tn - 1 - k) := hgk
    have c2 := HC.out wr hg
    clear hgk hg hO
    by_cases hlt : k < tn - 1
    · have hlt' : (k : Int) + 1 < (tn : Int) := by omega
      go_wp2_with (at_builtin; refine wpList_append_own _ rfl _ _ 24 rfl w.heap.size 3 i0 (.int .i64 0) 1 8 Try.underlying24 hi hz0 hz1 hz2 rfl (by decide) (.slice a3 k c3) k ((upTo k).map (Value.int .i64)) rfl (HO.out.alloc _) ⟨wr.heap.size, 0, none⟩ 1 1 [.int .i64 ((k : Int) + 1)] rfl rfl ?c1 ?c2 ?c3 ?c4 ?c5 ?_)
      case c1 => exact World.news_of_block (heap_alloc_last wr _)
      case c2 => intro u hu; simp at hu; subst hu; rfl
      case c3 => unfold maxLen; omega
      case c4 => omega
      case c5 => have := HG.out.size; simp; omega
      intro v' w2 hown hg2 _
      have HO2 : Hid (w2.ownsRow w.heap.size 3 1 v' (k + 1) ((upTo (k + 1)).map (Value.int .i64))) := by
        show World.ownsRow _ _ _ _ _ _ _
        rw [upTo_succ, List.map_append]
        exact hown
      have HG2 : Hid (w.grownBy w2 none) := grown_row' (grown_trans HG.out (World.grownBy_alloc wr _ none)) (HO.out.alloc _) (Nat.le_refl _) hg2
      obtain ⟨a4, c4, rfl⟩ := owns_slice hown
      clear hown hg2
      go_wp2_with fail
      go_roundg (tn - 1 - (k + 1))
      case measure => have := HGK.out; omega
      case rel => exact ⟨k + 1, a4, c4, by omega, rfl, by go_num, rfl, HO2.out, HG2.out⟩
    · obtain rfl : k = tn - 1 := by omega
      have hge : ¬ (((tn - 1 : Nat) : Int) + 1 < (tn : Int)) := by omega
      go_wp2_with fail
      go_ret
      exact ⟨_, rfl, HO.out, HG.out⟩

/-- The level that a row gives. -/
def levT (ts : List (ByteArray × Int)) (l : List Int) : Int := l.foldl (fun lev z => if z < (ts.length : Int) then (ts.getD z.toNat (⟨#[]⟩, 0)).2 else lev) 0
theorem levT_snoc (ts : List (ByteArray × Int)) (l : List Int) (z : Int) : levT ts (l ++ [z]) = if z < (ts.length : Int) then (ts.getD z.toNat (⟨#[]⟩, 0)).2 else levT ts l := by simp [levT]

set_option maxRecDepth 100000 in
theorem wlevelOf_at {w : World} {b : Nat} {ta : Option Addr} {tn tc : Nat} {ts : List (ByteArray × Int)} (hc : w.cell? ⟨b, 2, none⟩ = some (.slice ta tn tc)) (hT : TermsAt w ta ts) (htn : ts.length = tn) (sa : Option Addr) (m cap : Nat) (l : List Int) (hm : l.length = m) (hS : IntsAt w sa l) (hok : ∀ z ∈ l, 0 ≤ z) (hmm : m ≤ 17592186044416) :
    Calls Try.prog 65 #[.pointer (some ⟨b, 0, none⟩), .slice sa m cap] w fun e w' => e = .returned (.int .i64 (levT ts l)) ∧ w' = w := by
  have HT : Hid (TermsAt w ta ts) := hT
  have HN : Hid (ts.length = tn) := htn
  have HM : Hid (l.length = m) := hm
  have HS : Hid (IntsAt w sa l) := hS
  have HOK : Hid (∀ z ∈ l, 0 ≤ z) := hok
  clear hT htn hm hS hok
  go_enter Try.func65, Try.ntmps65
  go_wp2_with fail
  go_loopg [5, 7, 10] m (fun gk v5 v7 i wr => ∃ k : Nat, k ≤ m ∧ gk = m - k ∧ i = .int .i64 k ∧ v5 = .int .i64 (levT ts (l.take k)) ∧ wr = w)
  case atStart => exact ⟨0, Nat.zero_le _, rfl, rfl, rfl, rfl⟩
  case round =>
    obtain ⟨k, hk, hgk, rfl, rfl, rfl⟩ := hrel
    have HGK : Hid (gk = m - k) := hgk
    clear hgk
    by_cases hlt : k < m
    · obtain ⟨sb, so, rfl, hcs⟩ : ∃ sb so, sa = some ⟨sb, so, none⟩ ∧ ∀ i, i < l.length → wr.cell? ⟨sb, so + i, none⟩ = some (.int .i64 (l.getD i 0)) := by
        rcases HS.out with h | h
        · have h9 := HM.out; rw [h] at h9; simp at h9; omega
        · exact h
      have hkl : k < l.length := by rw [HM.out]; exact hlt
      have c0 := hcs k hkl
      have h0 : 0 ≤ l.getD k 0 := HOK.out _ (by rw [List.getD, List.getElem?_eq_getElem hkl]; exact List.getElem_mem _)
      obtain ⟨z, hz⟩ : ∃ z : Nat, l.getD k 0 = (z : Int) := ⟨(l.getD k 0).toNat, by omega⟩
      rw [hz] at c0
      have HLV : Hid (levT ts (l.take (k + 1)) = if (z : Int) < (tn : Int) then (ts.getD z (⟨#[]⟩, 0)).2 else levT ts (l.take k)) := by
        show _ = _
        rw [take_succ_getD hkl, levT_snoc, hz, HN.out]
        simp
      obtain ⟨lev, hlev⟩ : ∃ x, x = levT ts (l.take k) := ⟨_, rfl⟩
      rw [← hlev] at HLV ⊢
      clear hcs h0 hz hlev
      by_cases h1 : (z : Int) < (tn : Int)
      · obtain ⟨tb, tf, rfl, hct⟩ : ∃ tb tf, ta = some ⟨tb, tf, none⟩ ∧ ∀ i, i < ts.length → wr.cell? ⟨tb, tf + i * 2, none⟩ = some (.string (ts.getD i (⟨#[]⟩, 0)).1) ∧ wr.cell? ⟨tb, tf + i * 2 + 1, none⟩ = some (.int .i64 (ts.getD i (⟨#[]⟩, 0)).2) := by
          rcases HT.out with h | h
          · have := HN.out; rw [h] at this; simp at this; omega
          · exact h
        have d1 := (hct z (by rw [HN.out]; omega)).2
        obtain ⟨lz, hlz⟩ : ∃ x, x = (ts.getD z (⟨#[]⟩, 0)).2 := ⟨_, rfl⟩
        have HL2 : Hid (levT ts (l.take (k + 1)) = lz) := by
          show _ = _
          rw [HLV.out, if_pos h1, hlz]
        rw [← hlz] at d1
        have hz0 : (0 : Int) ≤ (z : Int) := by omega
        clear hct hlz HLV
        go_wp2_with fail
        go_roundg (m - (k + 1))
        case measure => have := HGK.out; omega
        case rel => exact ⟨k + 1, by omega, rfl, by go_num, by rw [HL2.out], rfl⟩
      · have HL2 : Hid (levT ts (l.take (k + 1)) = lev) := by
          show _ = _
          rw [HLV.out, if_neg h1]
        clear HLV
        go_wp2_with fail
        go_roundg (m - (k + 1))
        case measure => have := HGK.out; omega
        case rel => exact ⟨k + 1, by omega, rfl, by go_num, by rw [HL2.out], rfl⟩
    · obtain rfl : m = k := by omega
      have HE : Hid (l.take m = l) := List.take_of_length_le (by rw [HM.out]; exact Nat.le_refl _)
      rw [HE.out]
      obtain ⟨lev, hlev⟩ : ∃ x, x = levT ts l := ⟨_, rfl⟩
      rw [← hlev]
      have HV : Hid (lev = levT ts l) := hlev
      clear hlev
      go_wp2_with fail
      go_ret
      exact ⟨by rw [← HV.out]; rfl, rfl⟩

/-- The terminals of a level. -/
def ofLev (ts : List (ByteArray × Int)) (lev : Int) (l : List Int) : List Int := l.filter fun z => (ts.getD z.toNat (⟨#[]⟩, 0)).2 == lev
theorem ofLev_snoc (ts : List (ByteArray × Int)) (lev : Int) (l : List Int) (z : Int) : ofLev ts lev (l ++ [z]) = if (ts.getD z.toNat (⟨#[]⟩, 0)).2 = lev then ofLev ts lev l ++ [z] else ofLev ts lev l := by
  simp only [ofLev, List.filter_append, List.filter_cons, List.filter_nil, beq_iff_eq]
  split <;> simp
theorem ofLev_len (ts : List (ByteArray × Int)) (lev : Int) (l : List Int) : (ofLev ts lev l).length ≤ l.length := List.length_filter_le _ _
theorem upTo_getD {n k : Nat} (h : k < n) : (upTo n).getD k 0 = (k : Int) + 1 := by simp [upTo, List.getD, h]
theorem upTo_take {n k : Nat} (h : k ≤ n) : (upTo n).take k = upTo k := by simp [upTo, ← List.map_take, List.take_range, Nat.min_eq_left h]

set_option maxRecDepth 100000 in
theorem wtermsOf_at {w : World} {b : Nat} {ta : Option Addr} {tn tc : Nat} {ts : List (ByteArray × Int)} (hc : w.cell? ⟨b, 2, none⟩ = some (.slice ta tn tc)) (ht : tn ≤ 1048576) (hT : TermsAt w ta ts) (htn : ts.length = tn) (lev : Int) :
    Calls Try.prog 49 #[.pointer (some ⟨b, 0, none⟩), .int .i64 lev] w fun e w' => ∃ v, e = .returned v ∧ w'.ownsRow w.heap.size 3 1 v (ofLev ts lev (upTo (tn - 1))).length ((ofLev ts lev (upTo (tn - 1))).map (Value.int .i64)) ∧ w.grownBy w' none := by
  obtain ⟨i0, hi, hz0, hz1, hz2⟩ := info_parts infoInt
  have HC : Hid (∀ X, w.grownBy X none → X.cell? ⟨b, 2, none⟩ = some (.slice ta tn tc)) := fun X hX => hX.cell hc (by simp)
  have HT : Hid (TermsAt w ta ts) := hT
  have HN : Hid (ts.length = tn) := htn
  have HTM := wterms_at hc ht
  obtain ⟨m, hm⟩ : ∃ m, m = tn - 1 := ⟨_, rfl⟩
  rw [← hm] at HTM ⊢
  have HMM : Hid (m = tn - 1) := hm
  have hmt : m ≤ 1048576 := by omega
  clear hc hT htn hm
  go_enter Try.func49, Try.ntmps49
  go_wp2_with fail
  refine HTM.mono ?_
  rintro e w1 ⟨v, rfl, hO1, hg1⟩
  obtain ⟨ar, cr, rfl⟩ := owns_slice hO1
  have HG1 : Hid (w.grownBy w1 none) := hg1
  have HI : Hid (∀ X, w1.grownBy X none → IntsAt X ar (upTo m)) := fun X hX => (owns_intsAt hO1 (upTo_len m).symm).kept hX
  clear hO1 hg1 HTM
  go_wp2_with fail
  go_loopg [5, 7, 11] m (fun gk v5 v7 i wr => ∃ (k : Nat) (a5 : Option Addr) (c5 : Nat), k ≤ m ∧ gk = m - k ∧ i = .int .i64 k ∧ v5 = .slice a5 (ofLev ts lev (upTo k)).length c5 ∧ wr.ownsRow w1.heap.size 3 1 (.slice a5 (ofLev ts lev (upTo k)).length c5) (ofLev ts lev (upTo k)).length ((ofLev ts lev (upTo k)).map (Value.int .i64)) ∧ w1.grownBy wr none)
  case atStart => exact ⟨0, none, 0, Nat.zero_le _, rfl, rfl, rfl, World.ownsRow_nil _ _ _ _, ⟨rfl, rfl, rfl, Nat.le_refl _, fun _ _ _ => rfl⟩⟩
  case round =>
    obtain ⟨k, a5, c5, hk, hgk, rfl, rfl, hO, hg⟩ := hrel
    obtain ⟨q, hq⟩ : ∃ q, q = (ofLev ts lev (upTo k)).length := ⟨_, rfl⟩
    have hqk : q ≤ k := by
      have := ofLev_len ts lev (upTo k)
      rw [upTo_len] at this
      omega
    rw [← hq] at hO ⊢
    have HQ : Hid (q = (ofLev ts lev (upTo k)).length) := hq
    have HO : Hid (wr.ownsRow w1.heap.size 3 1 (.slice a5 q c5) q ((ofLev ts lev (upTo k)).map (Value.int .i64))) := hO
    have HG : Hid (w1.grownBy wr none) := hg
    have HGK : Hid (gk = m - k) := hgk
    have c2 := HC.out wr (grown_trans HG1.out hg)
    have HIR : Hid (IntsAt wr ar (upTo m)) := HI.out wr hg
    clear hgk hO hq
    by_cases hlt : k < m
    · obtain ⟨sb, so, rfl, hcs⟩ : ∃ sb so, ar = some ⟨sb, so, none⟩ ∧ ∀ i, i < (upTo m).length → wr.cell? ⟨sb, so + i, none⟩ = some (.int .i64 ((upTo m).getD i 0)) := by
        rcases HIR.out with h | h
        · have h9 := upTo_len m; rw [h] at h9; simp at h9; omega
        · exact h
      have c0 := hcs k (by rw [upTo_len]; exact hlt)
      rw [upTo_getD hlt] at c0
      obtain ⟨tb, tf, rfl, hct⟩ : ∃ tb tf, ta = some ⟨tb, tf, none⟩ ∧ ∀ i, i < ts.length → wr.cell? ⟨tb, tf + i * 2, none⟩ = some (.string (ts.getD i (⟨#[]⟩, 0)).1) ∧ wr.cell? ⟨tb, tf + i * 2 + 1, none⟩ = some (.int .i64 (ts.getD i (⟨#[]⟩, 0)).2) := by
        rcases HT.out.kept (grown_trans HG1.out hg) with h | h
        · have := HN.out; have := HMM.out; rw [h] at *; simp at *; omega
        · exact h
      have d1 := (hct (k + 1) (by rw [HN.out]; have := HMM.out; omega)).2
      obtain ⟨lz, hlz⟩ : ∃ x, x = (ts.getD (k + 1) (⟨#[]⟩, 0)).2 := ⟨_, rfl⟩
      rw [← hlz] at d1
      have e1 : tf + (k + 1) * 2 + 1 = tf + k * 2 + 3 := by omega
      have hkt : (k : Int) + 1 < (tn : Int) := by have := HMM.out; omega
      have hk0 : (0 : Int) ≤ (k : Int) + 1 := by omega
      have HS : Hid (ofLev ts lev (upTo (k + 1)) = if lz = lev then ofLev ts lev (upTo k) ++ [(k : Int) + 1] else ofLev ts lev (upTo k)) := by
        show _ = _
        rw [upTo_succ, ofLev_snoc]
        have e2 : ((k : Int) + 1).toNat = k + 1 := by omega
        rw [e2, ← hlz]
      clear hcs hct hlz hg
      rw [e1] at d1
      by_cases hz : lz = lev
      · go_wp2_with (at_builtin; refine wpList_append_own _ rfl _ _ 24 rfl w1.heap.size 3 i0 (.int .i64 0) 1 8 Try.underlying24 hi hz0 hz1 hz2 rfl (by decide) (.slice a5 q c5) q ((ofLev ts lev (upTo k)).map (Value.int .i64)) rfl (HO.out.alloc _) ⟨wr.heap.size, 0, none⟩ 1 1 [.int .i64 ((k : Int) + 1)] rfl rfl ?c1 ?c2 ?c3 ?c4 ?c5 ?_)
        case c1 => exact World.news_of_block (heap_alloc_last wr _)
        case c2 => intro u hu; simp at hu; subst hu; rfl
        case c3 => unfold maxLen; omega
        case c4 => omega
        case c5 => have := HG.out.size; simp; omega
        intro v' w2 hown hg2 _
        have HS2 : Hid (ofLev ts lev (upTo (k + 1)) = ofLev ts lev (upTo k) ++ [(k : Int) + 1]) := by
          show _ = _
          rw [HS.out, if_pos hz]
        have HQ2 : Hid ((ofLev ts lev (upTo (k + 1))).length = q + 1) := by
          show _ = _
          rw [HS2.out, List.length_append, ← HQ.out]
          rfl
        have HO2 : Hid (w2.ownsRow w1.heap.size 3 1 v' (q + 1) ((ofLev ts lev (upTo (k + 1))).map (Value.int .i64))) := by
          show World.ownsRow _ _ _ _ _ _ _
          rw [HS2.out, List.map_append]
          exact hown
        have HG2 : Hid (w1.grownBy w2 none) := grown_row' (grown_trans HG.out (World.grownBy_alloc wr _ none)) (HO.out.alloc _) (Nat.le_refl _) hg2
        obtain ⟨a4, c4, rfl⟩ := owns_slice hown
        clear hown hg2
        go_wp2_with fail
        go_roundg (m - (k + 1))
        case measure => have := HGK.out; omega
        case rel => exact ⟨k + 1, a4, c4, by omega, rfl, by go_num, by rw [HQ2.out], by rw [HQ2.out]; exact HO2.out, HG2.out⟩
      · have HS2 : Hid (ofLev ts lev (upTo (k + 1)) = ofLev ts lev (upTo k)) := by
          show _ = _
          rw [HS.out, if_neg hz]
        go_wp2_with fail
        go_roundg (m - (k + 1))
        case measure => have := HGK.out; omega
        case rel => exact ⟨k + 1, a5, c5, by omega, rfl, by go_num, by rw [HS2.out, ← HQ.out], by rw [HS2.out, ← HQ.out]; exact HO.out, HG.out⟩
    · obtain rfl : m = k := by omega
      go_wp2_with fail
      go_ret
      exact ⟨_, rfl, by rw [← HQ.out]; exact owns_lower HO.out HG1.out.size, grown_trans HG1.out HG.out⟩

end Go.Proofs.Ytkhmhcinepfemaa

/-
  show's writer: a header, a grade, a rule.
-/
namespace Go.Proofs.Ytkhmhcinepfemaa
open Go.RowKit Go.Maps Go.Shelf

set_option maxRecDepth 100000 in
theorem header_at {W0 w : World} {b : Nat} {ta na la pa : Option Addr} {tn nn ln n tc nc lc pc : Nat} {st : Int} {bs : List UInt8} {inl : Bool} {ts : List (ByteArray × Int)} {ns : List ByteArray} (h : WrAt W0 w b (gvOf ta na la pa tn nn ln n tc nc lc pc st) bs inl) (hT : TermsAt W0 ta ts) (hN : StrsAt W0 na ns) (htn : ts.length = tn) (hnn : ns.length = nn) (hn : nn ≤ 17592186044416)
    (s : ByteArray) (sa : Option Addr) (m cap : Nat) (l : List Int) (hm : l.length = m) (hs : ∀ X, W0.grownBy X none → Lib.OthersKept 5 (some b) w X → IntsAt X sa l) (hok : ∀ i, i < m → 0 ≤ l.getD i 0 ∧ l.getD i 0 < (tn : Int) + nn) (hmm : m ≤ 17592186044416) (hl : bs.length + 4 + s.size + (symsT ts ns true l).length ≤ 140737488355328) :
    Calls Try.prog 47 #[.pointer (some ⟨b, 0, none⟩), .string s, .slice sa m cap] w fun e w' => e = .returned (.tuple #[]) ∧ WrAt W0 w' b (gvOf ta na la pa tn nn ln n tc nc lc pc st) (bs ++ sp inl ++ s.data.toList ++ symsT ts ns true l ++ [32, 59, 10]) false ∧ Lib.OthersKept 5 (some b) w w' := by
  have H : Hid (WrAt W0 w b (gvOf ta na la pa tn nn ln n tc nc lc pc st) bs inl) := h
  have hse : s.data.toList.length = s.size := by rw [Array.length_toList]; rfl
  have hsp := sp_le inl
  have HC : Hid (∀ X bs', WrAt W0 X b (gvOf ta na la pa tn nn ln n tc nc lc pc st) bs' true → Lib.OthersKept 5 (some b) w X → bs'.length + (symsT ts ns true l).length ≤ 140737488355328 → Calls Try.prog 35 #[.pointer (some ⟨b, 0, none⟩), .slice sa m cap] X fun e w' => e = .returned (.tuple #[]) ∧ WrAt W0 w' b (gvOf ta na la pa tn nn ln n tc nc lc pc st) (bs' ++ symsT ts ns true l) (true || !l.isEmpty) ∧ Lib.OthersKept 5 (some b) X w') := fun X bs' hX hK hb => symbols_at hX hT hN htn hnn hn sa m cap l hm (fun Y hY hKY => hs Y hY (hK.trans hKY)) hok hmm hb
  have HL : Hid (bs.length + 4 + s.size + (symsT ts ns true l).length ≤ 140737488355328) := hl
  have HSE : Hid (s.data.toList.length = s.size) := hse
  have HSP : Hid ((sp inl).length ≤ 1) := hsp
  clear h hT hN htn hnn hm hs hok hl hse hsp
  go_enter Try.func47, Try.ntmps47
  go_wp2_with fail
  refine (word_at _ 1 1 [s] rfl (H.out.kept (World.grownBy_alloc w _ none)) (fun X hX => strs_new [s] H.out.lt hX) (by have := HL.out; have := HSE.out; simp [piecesB]; simp at this; omega) (by decide)).mono ?_
  rintro e w1 ⟨rfl, hW, hK⟩
  have HW : Hid (WrAt W0 w1 b (gvOf ta na la pa tn nn ln n tc nc lc pc st) (bs ++ sp inl ++ s.data.toList) true) := by
    show WrAt _ _ _ _ _ _
    simpa [piecesB, sp] using hW
  have HK : Hid (Lib.OthersKept 5 (some b) w w1) := ((Lib.OthersKept.refl _ _ w).alloc _).trans hK
  clear hW hK
  go_wp2_with fail
  refine Calls.mono (HC.out w1 _ HW.out HK.out (by have := HL.out; have := HSE.out; have := HSP.out; simp only [List.length_append]; omega)) ?_
  rintro e w2 ⟨rfl, hW, hK⟩
  have HW2 : Hid (WrAt W0 w2 b (gvOf ta na la pa tn nn ln n tc nc lc pc st) (bs ++ sp inl ++ s.data.toList ++ symsT ts ns true l) true) := hW
  have HK2 : Hid (Lib.OthersKept 5 (some b) w w2) := HK.out.trans hK
  clear hW hK HW HK
  go_wp2_with fail
  refine (end_at HW2.out (by have := HL.out; have := HSE.out; have := HSP.out; simp only [List.length_append]; omega)).mono ?_
  rintro e w3 ⟨rfl, hW, hK⟩
  have HW3 : Hid (WrAt W0 w3 b (gvOf ta na la pa tn nn ln n tc nc lc pc st) (bs ++ sp inl ++ s.data.toList ++ symsT ts ns true l ++ [32, 59, 10]) false) := by
    show WrAt _ _ _ _ _ _
    simpa [sp] using hW
  have HK3 : Hid (Lib.OthersKept 5 (some b) w w3) := HK2.out.trans hK
  clear hW hK HW2 HK2
  go_wp2_with fail
  go_end0
  exact ⟨rfl, HW3.out, HK3.out⟩

theorem ofLev_mem {ts : List (ByteArray × Int)} {lev z : Int} {m : Nat} (h : z ∈ ofLev ts lev (upTo m)) : 1 ≤ z ∧ z ≤ m := by
  have := (List.mem_filter.1 h).1
  simp only [upTo, List.mem_map, List.mem_range] at this
  obtain ⟨i, hi, rfl⟩ := this
  omega

/-- A grade's text. -/
def gradeT (ts : List (ByteArray × Int)) (ns : List ByteArray) (lev : Int) : List UInt8 :=
  if lev = 0 then [32, 37, 110, 111, 110, 101] else [32, 37, 112, 114, 101, 99] ++ [32] ++ symT ts ns ((ofLev ts lev (upTo (ts.length - 1))).getD 0 0).toNat

set_option maxHeartbeats 1000000 in
set_option maxRecDepth 100000 in
theorem wgrade_at {W0 w : World} {b : Nat} {ta na la pa : Option Addr} {tn nn ln n tc nc lc pc : Nat} {st : Int} {bs : List UInt8} {ts : List (ByteArray × Int)} {ns : List ByteArray} (h : WrAt W0 w b (gvOf ta na la pa tn nn ln n tc nc lc pc st) bs true) (hT : TermsAt W0 ta ts) (hN : StrsAt W0 na ns) (htn : ts.length = tn) (hnn : ns.length = nn) (hn : nn ≤ 17592186044416) (ht : tn ≤ 1048576)
    (lev : Int) (hlv : lev ≠ 0 → 0 < (ofLev ts lev (upTo (tn - 1))).length) (hl : bs.length + 1 + (gradeT ts ns lev).length ≤ 140737488355328) :
    Calls Try.prog 66 #[.pointer (some ⟨b, 0, none⟩), .int .i64 lev] w fun e w' => e = .returned (.tuple #[]) ∧ WrAt W0 w' b (gvOf ta na la pa tn nn ln n tc nc lc pc st) (bs ++ gradeT ts ns lev) true ∧ Lib.OthersKept 5 (some b) w w' := by
  have H : Hid (WrAt W0 w b (gvOf ta na la pa tn nn ln n tc nc lc pc st) bs true) := h
  by_cases h0 : lev = 0
  · subst h0
    have hl2 : bs.length + 7 ≤ 140737488355328 := by simp [gradeT] at hl; omega
    clear h hT hN htn hnn hl hlv
    go_enter Try.func66, Try.ntmps66
    go_wp2_with fail
    refine (word_at _ 1 1 [⟨#[37, 110, 111, 110, 101]⟩] rfl (H.out.kept (World.grownBy_alloc w _ none)) (fun X hX => strs_new [⟨#[37, 110, 111, 110, 101]⟩] H.out.lt hX) (by simp [piecesB]; omega) (by decide)).mono ?_
    rintro e w1 ⟨rfl, hW, hK⟩
    have HW : Hid (WrAt W0 w1 b (gvOf ta na la pa tn nn ln n tc nc lc pc st) (bs ++ gradeT ts ns 0) true) := by
      show WrAt _ _ _ _ _ _
      simpa [piecesB, gradeT] using hW
    have HK : Hid (Lib.OthersKept 5 (some b) w w1) := ((Lib.OthersKept.refl _ _ w).alloc _).trans hK
    clear hW hK
    go_wp2_with fail
    refine bodyPost_ret (results_none rfl _ _ _) rfl ?_
    exact ⟨rfl, HW.out, HK.out⟩
  · have hp := hlv h0
    obtain ⟨l, hll⟩ : ∃ l, l = ofLev ts lev (upTo (tn - 1)) := ⟨_, rfl⟩
    have HLL : Hid (l = ofLev ts lev (upTo (tn - 1))) := hll
    rw [← hll] at hp
    obtain ⟨z, hz⟩ : ∃ z : Int, l.getD 0 0 = z := ⟨_, rfl⟩
    have hzm : z ∈ l := by rw [← hz, List.getD, List.getElem?_eq_getElem hp]; exact List.getElem_mem _
    have hzr : 1 ≤ z ∧ z ≤ ((tn - 1 : Nat) : Int) := ofLev_mem (by rw [← hll]; exact hzm)
    obtain ⟨k, hk⟩ : ∃ k : Nat, z = (k : Int) := ⟨z.toNat, by omega⟩
    subst hk
    have HGT : Hid (gradeT ts ns lev = [32, 37, 112, 114, 101, 99] ++ [32] ++ symT ts ns k) := by
      show _ = _
      rw [gradeT, if_neg h0, htn, ← hll, hz]
      rfl
    have hl2 : bs.length + 1 + 7 + (symT ts ns k).length ≤ 140737488355328 := by rw [HGT.out] at hl; simp at hl; omega
    obtain ⟨q, hq⟩ : ∃ q, q = l.length := ⟨_, rfl⟩
    rw [← hq] at hp
    have HQ : Hid (q = l.length) := hq
    have HZ : Hid (l.getD 0 0 = (k : Int)) := hz
    have HTO : Hid (∀ X, WrAt W0 X b (gvOf ta na la pa tn nn ln n tc nc lc pc st) (bs ++ [32, 37, 112, 114, 101, 99]) true → Calls Try.prog 49 #[.pointer (some ⟨b, 0, none⟩), .int .i64 lev] X fun e w' => ∃ v, e = .returned v ∧ w'.ownsRow X.heap.size 3 1 v q (l.map (Value.int .i64)) ∧ X.grownBy w' none) := fun X hX => by
      rw [hq, hll]
      exact wtermsOf_at hX.cells.1 ht (hT.kept hX.cells.2.2.2.2.2) htn lev
    have HSY : Hid (∀ X, WrAt W0 X b (gvOf ta na la pa tn nn ln n tc nc lc pc st) (bs ++ [32, 37, 112, 114, 101, 99]) true → Calls Try.prog 52 #[.pointer (some ⟨b, 0, none⟩), .int .i64 k] X fun e w' => e = .returned (.tuple #[]) ∧ WrAt W0 w' b (gvOf ta na la pa tn nn ln n tc nc lc pc st) (bs ++ [32, 37, 112, 114, 101, 99] ++ sp true ++ symT ts ns k) true ∧ Lib.OthersKept 5 (some b) X w') := fun X hX => symbol_at hX hT hN htn hnn k (by omega) hn (by simp; omega)
    clear h hT hN htn hnn hl hlv hll hz hzm hzr hq
    go_enter Try.func66, Try.ntmps66
    go_wp2_with fail
    refine (word_at _ 1 1 [⟨#[37, 112, 114, 101, 99]⟩] rfl (H.out.kept (World.grownBy_alloc w _ none)) (fun X hX => strs_new [⟨#[37, 112, 114, 101, 99]⟩] H.out.lt hX) (by simp [piecesB]; omega) (by decide)).mono ?_
    rintro e w1 ⟨rfl, hW, hK⟩
    have HW : Hid (WrAt W0 w1 b (gvOf ta na la pa tn nn ln n tc nc lc pc st) (bs ++ [32, 37, 112, 114, 101, 99]) true) := by
      show WrAt _ _ _ _ _ _
      simpa [piecesB] using hW
    have HK : Hid (Lib.OthersKept 5 (some b) w w1) := ((Lib.OthersKept.refl _ _ w).alloc _).trans hK
    clear hW hK
    go_wp2_with fail
    refine Calls.mono (HTO.out w1 HW.out) ?_
    rintro e w2 ⟨v, rfl, hO, hg⟩
    obtain ⟨ar, cr, rfl⟩ := owns_slice hO
    obtain ⟨sb, so, rfl, hcs⟩ : ∃ sb so, ar = some ⟨sb, so, none⟩ ∧ ∀ i, i < l.length → w2.cell? ⟨sb, so + i, none⟩ = some (.int .i64 (l.getD i 0)) := by
      rcases owns_intsAt hO HQ.out with h | h
      · have h9 := HQ.out; rw [h] at h9; simp at h9; omega
      · exact h
    have c0 := hcs 0 (by rw [← HQ.out]; exact hp)
    rw [HZ.out] at c0
    have c00 : w2.cell? ⟨sb, so, none⟩ = some (.int .i64 k) := by simpa using c0
    have HW2 : Hid (WrAt W0 w2 b (gvOf ta na la pa tn nn ln n tc nc lc pc st) (bs ++ [32, 37, 112, 114, 101, 99]) true) := HW.out.kept hg
    have HK2 : Hid (Lib.OthersKept 5 (some b) w w2) := HK.out.grown hg (fun g h => by cases h)
    clear hO hg hcs c0 HW HK
    go_wp2_with fail
    refine Calls.mono (HSY.out w2 HW2.out) ?_
    rintro e w3 ⟨rfl, hW, hK⟩
    have HW3 : Hid (WrAt W0 w3 b (gvOf ta na la pa tn nn ln n tc nc lc pc st) (bs ++ gradeT ts ns lev) true) := by
      show WrAt _ _ _ _ _ _
      rw [HGT.out]
      simpa [sp] using hW
    have HK3 : Hid (Lib.OthersKept 5 (some b) w w3) := HK2.out.trans hK
    clear hW hK
    go_wp2_with fail
    go_end0
    exact ⟨rfl, HW3.out, HK3.out⟩

/-- A rule's line. -/
def ruleT (ts : List (ByteArray × Int)) (ns : List ByteArray) (z : Int) (l : List Int) (lev : Int) : List UInt8 :=
  symT ts ns z.toNat ++ [32, 58] ++ symsT ts ns true l ++ (if lev = levT ts l then [] else gradeT ts ns lev) ++ [32, 59, 10]

set_option maxHeartbeats 2000000 in
set_option maxRecDepth 100000 in
theorem rule_at {W0 w : World} {b : Nat} {ta na la pa : Option Addr} {tn nn ln n tc nc lc pc : Nat} {st : Int} {bs : List UInt8} {ts : List (ByteArray × Int)} {ns : List ByteArray} (h : WrAt W0 w b (gvOf ta na la pa tn nn ln n tc nc lc pc st) bs false) (hT : TermsAt W0 ta ts) (hN : StrsAt W0 na ns) (htn : ts.length = tn) (hnn : ns.length = nn) (hn : nn ≤ 17592186044416) (ht : tn ≤ 1048576)
    (k : Nat) (hk : k < tn + nn) (sa : Option Addr) (m cap : Nat) (l : List Int) (hm : l.length = m) (hS : IntsAt W0 sa l) (hok : ∀ y ∈ l, 0 ≤ y ∧ y < (tn : Int) + nn) (hmm : m ≤ 17592186044416) (lev : Int) (hlv : lev ≠ 0 → 0 < (ofLev ts lev (upTo (tn - 1))).length)
    (hl : bs.length + 8 + (symT ts ns k).length + (symsT ts ns true l).length + (gradeT ts ns lev).length ≤ 140737488355328) :
    Calls Try.prog 51 #[.pointer (some ⟨b, 0, none⟩), .agg #[.int .i64 k, .slice sa m cap, .int .i64 lev]] w fun e w' => e = .returned (.tuple #[]) ∧ WrAt W0 w' b (gvOf ta na la pa tn nn ln n tc nc lc pc st) (bs ++ ruleT ts ns k l lev) false ∧ Lib.OthersKept 5 (some b) w w' := by
  have H : Hid (WrAt W0 w b (gvOf ta na la pa tn nn ln n tc nc lc pc st) bs false) := h
  have hokd : ∀ i, i < m → 0 ≤ l.getD i 0 ∧ l.getD i 0 < (tn : Int) + nn := fun j hj => hok _ (by rw [List.getD, List.getElem?_eq_getElem (by rw [hm]; exact hj)]; exact List.getElem_mem _)
  have HC1 : Hid (∀ X bs', WrAt W0 X b (gvOf ta na la pa tn nn ln n tc nc lc pc st) bs' false → bs'.length + 1 + (symT ts ns k).length ≤ 140737488355328 → Calls Try.prog 52 #[.pointer (some ⟨b, 0, none⟩), .int .i64 k] X fun e w' => e = .returned (.tuple #[]) ∧ WrAt W0 w' b (gvOf ta na la pa tn nn ln n tc nc lc pc st) (bs' ++ sp false ++ symT ts ns k) true ∧ Lib.OthersKept 5 (some b) X w') := fun X bs' hX hb => symbol_at hX hT hN htn hnn k hk hn hb
  have HC2 : Hid (∀ X bs', WrAt W0 X b (gvOf ta na la pa tn nn ln n tc nc lc pc st) bs' true → bs'.length + (symsT ts ns true l).length ≤ 140737488355328 → Calls Try.prog 35 #[.pointer (some ⟨b, 0, none⟩), .slice sa m cap] X fun e w' => e = .returned (.tuple #[]) ∧ WrAt W0 w' b (gvOf ta na la pa tn nn ln n tc nc lc pc st) (bs' ++ symsT ts ns true l) (true || !l.isEmpty) ∧ Lib.OthersKept 5 (some b) X w') := fun X bs' hX hb => symbols_at hX hT hN htn hnn hn sa m cap l hm (fun Y hY _ => hS.kept hY) hokd hmm hb
  have HC3 : Hid (∀ X bs' inl', WrAt W0 X b (gvOf ta na la pa tn nn ln n tc nc lc pc st) bs' inl' → Calls Try.prog 65 #[.pointer (some ⟨b, 0, none⟩), .slice sa m cap] X fun e w' => e = .returned (.int .i64 (levT ts l)) ∧ w' = X) := fun X bs' inl' hX => wlevelOf_at hX.cells.1 (hT.kept hX.cells.2.2.2.2.2) htn sa m cap l hm (hS.kept hX.cells.2.2.2.2.2) (fun y hy => (hok y hy).1) hmm
  have HC4 : Hid (∀ X bs', WrAt W0 X b (gvOf ta na la pa tn nn ln n tc nc lc pc st) bs' true → bs'.length + 1 + (gradeT ts ns lev).length ≤ 140737488355328 → Calls Try.prog 66 #[.pointer (some ⟨b, 0, none⟩), .int .i64 lev] X fun e w' => e = .returned (.tuple #[]) ∧ WrAt W0 w' b (gvOf ta na la pa tn nn ln n tc nc lc pc st) (bs' ++ gradeT ts ns lev) true ∧ Lib.OthersKept 5 (some b) X w') := fun X bs' hX hb => wgrade_at hX hT hN htn hnn hn ht lev hlv hb
  have HL : Hid (bs.length + 8 + (symT ts ns k).length + (symsT ts ns true l).length + (gradeT ts ns lev).length ≤ 140737488355328) := hl
  obtain ⟨lv2, hlv2⟩ : ∃ x, x = levT ts l := ⟨_, rfl⟩
  rw [← hlv2] at HC3
  have HR : Hid (ruleT ts ns k l lev = symT ts ns k ++ [32, 58] ++ symsT ts ns true l ++ (if lev = lv2 then [] else gradeT ts ns lev) ++ [32, 59, 10]) := by
    show _ = _
    rw [ruleT, hlv2]
    simp
  have HBX : Hid (∀ X, Lib.OthersKept 5 (some b) (w.alloc (.cells #[.int .i64 k, .slice sa m cap, .int .i64 lev] 47)) X → X.cell? ⟨w.heap.size, 0, none⟩ = some (.int .i64 k) ∧ X.cell? ⟨w.heap.size, 1, none⟩ = some (.slice sa m cap) ∧ X.cell? ⟨w.heap.size, 2, none⟩ = some (.int .i64 lev)) := fun X hX => by
    have hb := h.lt
    have hx := hX w.heap.size _ (heap_alloc_last w _) (by simp; omega) (by intro c fz; simp)
    refine ⟨?_, ?_, ?_⟩ <;> rw [cell_of_row _ _ _ _ _ _ hx] <;> rfl
  clear h hT hN htn hnn hk hm hS hok hokd hlv hl hlv2
  go_enter Try.func51, Try.ntmps51
  go_wp2_with fail
  refine Calls.mono (HC1.out _ bs (H.out.kept (World.grownBy_alloc w _ none)) (by have := HL.out; omega)) ?_
  rintro e w1 ⟨rfl, hW, hK⟩
  have HW1 : Hid (WrAt W0 w1 b (gvOf ta na la pa tn nn ln n tc nc lc pc st) (bs ++ symT ts ns k) true) := by
    show WrAt _ _ _ _ _ _
    simpa [sp] using hW
  have HK1 : Hid (Lib.OthersKept 5 (some b) (w.alloc (.cells #[.int .i64 k, .slice sa m cap, .int .i64 lev] 47)) w1) := hK
  obtain ⟨k0, k1, k2⟩ := HBX.out w1 HK1.out
  clear hW hK
  go_wp2_with fail
  refine (word_at _ 1 1 [⟨#[58]⟩] rfl (HW1.out.kept (World.grownBy_alloc w1 _ none)) (fun X hX => strs_new [⟨#[58]⟩] HW1.out.lt hX) (by have := HL.out; simp [piecesB]; omega) (by decide)).mono ?_
  rintro e w2 ⟨rfl, hW, hK⟩
  have HW2 : Hid (WrAt W0 w2 b (gvOf ta na la pa tn nn ln n tc nc lc pc st) (bs ++ symT ts ns k ++ [32, 58]) true) := by
    show WrAt _ _ _ _ _ _
    simpa [piecesB] using hW
  have HK2 : Hid (Lib.OthersKept 5 (some b) (w.alloc (.cells #[.int .i64 k, .slice sa m cap, .int .i64 lev] 47)) w2) := (HK1.out.alloc _).trans hK
  clear hW hK HW1 HK1 k0 k1 k2
  obtain ⟨k0, k1, k2⟩ := HBX.out w2 HK2.out
  go_wp2_with fail
  refine Calls.mono (HC2.out w2 _ HW2.out (by have := HL.out; simp; omega)) ?_
  rintro e w3 ⟨rfl, hW, hK⟩
  have HW3 : Hid (WrAt W0 w3 b (gvOf ta na la pa tn nn ln n tc nc lc pc st) (bs ++ symT ts ns k ++ [32, 58] ++ symsT ts ns true l) true) := hW
  have HK3 : Hid (Lib.OthersKept 5 (some b) (w.alloc (.cells #[.int .i64 k, .slice sa m cap, .int .i64 lev] 47)) w3) := HK2.out.trans hK
  clear hW hK HW2 HK2 k0 k1 k2
  obtain ⟨k0, k1, k2⟩ := HBX.out w3 HK3.out
  go_wp2_with fail
  have HW3D : Hid (WrAt W0 w3.drew b (gvOf ta na la pa tn nn ln n tc nc lc pc st) (bs ++ symT ts ns k ++ [32, 58] ++ symsT ts ns true l) true) := HW3.out.kept (grown_drewN w3 1)
  have HK3D : Hid (Lib.OthersKept 5 (some b) (w.alloc (.cells #[.int .i64 k, .slice sa m cap, .int .i64 lev] 47)) w3.drew) := HK3.out.drew
  have HC3D : Hid (Calls Try.prog 65 #[.pointer (some ⟨b, 0, none⟩), .slice sa m cap] w3.drew fun e w' => e = .returned (.int .i64 lv2) ∧ w' = w3.drew) := HC3.out _ _ _ HW3D.out
  have HKP : Hid (w3.drew.cell? ⟨w.heap.size, 2, none⟩ = some (.int .i64 lev) ∧ w3.drew.cell? ⟨w.heap.size, 1, none⟩ = some (.slice sa m cap)) := ⟨k2, k1⟩
  clear HW3 HK3 HC3
  by_cases hz : lev = lv2
  · have HR2 : Hid (ruleT ts ns k l lev = symT ts ns k ++ [32, 58] ++ symsT ts ns true l ++ [32, 59, 10]) := by
      show _ = _
      rw [HR.out, if_pos hz, List.append_nil]
    go_region_held3 (fun w' => w'.cell? ⟨w.heap.size, 2, none⟩ = some (.int .i64 lev) ∧ w'.cell? ⟨w.heap.size, 1, none⟩ = some (.slice sa m cap)) (first | exact HKP.out | go_keep) ((go_at_call 65; refine Calls.mono HC3D.out ?_; rintro e w4 ⟨rfl, rfl⟩))
    go_wp2_with fail
    refine (end_at HW3D.out (by have := HL.out; simp; omega)).mono ?_
    rintro e w5 ⟨rfl, hW, hK⟩
    have HW5 : Hid (WrAt W0 w5 b (gvOf ta na la pa tn nn ln n tc nc lc pc st) (bs ++ ruleT ts ns k l lev) false) := by
      show WrAt _ _ _ _ _ _
      rw [HR2.out]
      simpa [sp] using hW
    have HK5 : Hid (Lib.OthersKept 5 (some b) w w5) := ((Lib.OthersKept.refl _ _ w).alloc _).trans (HK3D.out.trans hK)
    clear hW hK
    go_wp2_with fail
    go_end0
    exact ⟨rfl, HW5.out, HK5.out⟩
  · have HR2 : Hid (ruleT ts ns k l lev = symT ts ns k ++ [32, 58] ++ symsT ts ns true l ++ gradeT ts ns lev ++ [32, 59, 10]) := by
      show _ = _
      rw [HR.out, if_neg hz]
    go_region_held3 (fun w' => w'.cell? ⟨w.heap.size, 2, none⟩ = some (.int .i64 lev) ∧ w'.cell? ⟨w.heap.size, 1, none⟩ = some (.slice sa m cap)) (first | exact HKP.out | go_keep) ((go_at_call 65; refine Calls.mono HC3D.out ?_; rintro e w4 ⟨rfl, rfl⟩))
    go_wp2_with fail
    refine Calls.mono (HC4.out _ _ HW3D.out (by have := HL.out; simp; omega)) ?_
    rintro e w5 ⟨rfl, hW, hK⟩
    have HW5 : Hid (WrAt W0 w5 b (gvOf ta na la pa tn nn ln n tc nc lc pc st) (bs ++ symT ts ns k ++ [32, 58] ++ symsT ts ns true l ++ gradeT ts ns lev) true) := hW
    have HK5 : Hid (Lib.OthersKept 5 (some b) (w.alloc (.cells #[.int .i64 k, .slice sa m cap, .int .i64 lev] 47)) w5) := HK3D.out.trans hK
    clear hW hK
    go_wp2_with fail
    refine (end_at HW5.out (by have := HL.out; simp; omega)).mono ?_
    rintro e w6 ⟨rfl, hW, hK⟩
    have HW6 : Hid (WrAt W0 w6 b (gvOf ta na la pa tn nn ln n tc nc lc pc st) (bs ++ ruleT ts ns k l lev) false) := by
      show WrAt _ _ _ _ _ _
      rw [HR2.out]
      simpa [sp] using hW
    have HK6 : Hid (Lib.OthersKept 5 (some b) w w6) := ((Lib.OthersKept.refl _ _ w).alloc _).trans (HK5.out.trans hK)
    clear hW hK
    go_wp2_with fail
    go_end0
    exact ⟨rfl, HW6.out, HK6.out⟩

end Go.Proofs.Ytkhmhcinepfemaa
