import Derived.Test.YthoamlahbnphkaaGreatQfajdkhhijpme

/-
  relate: what lookback hands out, in memory.
-/
namespace Go.Proofs.YthoamlahbnphkaaGreat.J
open Go.RowKit Go.Maps Go.Shelf

attribute [local go_sem] Oper.semAt_some

theorem idx_inj {n s p s' p' : Nat} (h1 : p < n) (h2 : p' < n) (e : s * n + p = s' * n + p') : s = s' ∧ p = p' := by
  have a1 : (s * n + p) % n = p := by rw [Nat.mul_comm, Nat.mul_add_mod]; exact Nat.mod_eq_of_lt h1
  have a2 : (s' * n + p') % n = p' := by rw [Nat.mul_comm, Nat.mul_add_mod]; exact Nat.mod_eq_of_lt h2
  have e2 : p = p' := by rw [← a1, e, a2]
  refine ⟨?_, e2⟩
  have e3 : s * n = s' * n := by omega
  exact Nat.eq_of_mul_eq_mul_right (by omega) e3
theorem idx_lt {n N s p : Nat} (hs : s < N) (hp : p < n) : s * n + p < N * n := by
  have h : (s + 1) * n ≤ N * n := Nat.mul_le_mul_right n hs
  rw [Nat.succ_mul] at h
  omega

/-- Lists under way, by state and production. -/
structure LbP (P X : World) (bx kb N n : Nat) (Q : Nat → List Int) (rb : Nat → Nat) (ua : Nat → Option Addr) (uc : Nat → Nat) : Prop where
  grown : P.grownBy X none
  box : X.heap[bx]? = some (.cells #[.slice (some ⟨kb, 0, none⟩) N N] 119 (0, 0))
  out : ValAt X kb N 30 (fun s => .slice (some ⟨rb s, 0, none⟩) n n)
  val : ∀ s, s < N → ValAt X (rb s) n 24 (fun p => .slice (ua (s * n + p)) (Q (s * n + p)).length (uc (s * n + p)))
  own : ∀ k, k < N * n → X.ownsRow P.heap.size 3 1 (.slice (ua k) (Q k).length (uc k)) (Q k).length (intV (Q k))
  sep : ∀ k l, k < N * n → l < N * n → k ≠ l → (Value.slice (ua k) (Q k).length (uc k)).ownBlock = none ∨ (Value.slice (ua k) (Q k).length (uc k)).ownBlock ≠ (Value.slice (ua l) (Q l).length (uc l)).ownBlock
  inj : ∀ s s', s < N → s' < N → rb s = rb s' → s = s'
  lo : P.heap.size ≤ bx ∧ P.heap.size ≤ kb ∧ ∀ s, s < N → P.heap.size ≤ rb s
section
variable {P X Y : World} {bx kb N n : Nat} {Q : Nat → List Int} {rb : Nat → Nat} {ua : Nat → Option Addr} {uc : Nat → Nat}
theorem LbP.kept (h : LbP P X bx kb N n Q rb ua uc) (hg : X.grownBy Y none) : LbP P Y bx kb N n Q rb ua uc :=
  ⟨grown_trans h.grown hg, box_kept h.box hg, h.out.kept hg, fun s hs => (h.val s hs).kept hg, fun k hk => keep0 (h.own k hk) hg, h.sep, h.inj, h.lo⟩
theorem LbP.add (h : LbP P X bx kb N n Q rb ua uc) {s p g c : Nat} {x : Int} (hs : s < N) (hp : p < n) (hg : X.grownBy Y (Value.slice (ua (s * n + p)) (Q (s * n + p)).length (uc (s * n + p))).ownBlock) (ho : Y.ownsRow P.heap.size 3 1 (.slice (some ⟨g, 0, none⟩) ((Q (s * n + p)).length + 1) c) ((Q (s * n + p)).length + 1) (intV (Q (s * n + p)) ++ [.int .i64 x])) (hat : (Value.slice (ua (s * n + p)) (Q (s * n + p)).length (uc (s * n + p))).ownBlock = some g ∨ g = X.heap.size) : LbP P (Y.setCell ⟨rb s, p, none⟩ (.slice (some ⟨g, 0, none⟩) ((Q (s * n + p)).length + 1) c)) bx kb N n (updL Q (s * n + p) (Q (s * n + p) ++ [x])) rb (updL ua (s * n + p) (some ⟨g, 0, none⟩)) (updL uc (s * n + p) c) := by
  obtain ⟨f, hf⟩ : ∃ f, f = s * n + p := ⟨_, rfl⟩
  have hfN : f < N * n := by rw [hf]; exact idx_lt hs hp
  rw [← hf] at hg ho hat ⊢
  have hss : Y.grownBy (Y.setCell ⟨rb s, p, none⟩ (.slice (some ⟨g, 0, none⟩) ((Q f).length + 1) c)) (some (rb s)) := grown_setCell _ _ _
  have hv : ∀ s', s' < N → ValAt Y (rb s') n 24 (fun p => .slice (ua (s' * n + p)) (Q (s' * n + p)).length (uc (s' * n + p))) := fun s' hs' => box_row (h.val s' hs') (h.own f hfN) (by decide) hg
  have hb : Y.heap[bx]? = some (.cells #[.slice (some ⟨kb, 0, none⟩) N N] 119 (0, 0)) := box_row h.box (h.own f hfN) (by decide) hg
  have hout : ValAt Y kb N 30 (fun s => .slice (some ⟨rb s, 0, none⟩) n n) := box_row h.out (h.own f hfN) (by decide) hg
  have hlen : (Q f ++ [x]).length = (Q f).length + 1 := by simp
  have hiv : intV (Q f ++ [x]) = intV (Q f) ++ [.int .i64 x] := by unfold intV; rw [List.map_append]; rfl
  have key : ∀ k, k < N * n → k ≠ f → (Value.slice (ua k) (Q k).length (uc k)).ownBlock = none ∨ (Value.slice (ua k) (Q k).length (uc k)).ownBlock ≠ some g := fun k hk e => by
    rcases hat with h1 | h1
    · rw [← h1]; exact h.sep k f hk hfN e
    · cases hb : (Value.slice (ua k) (Q k).length (uc k)).ownBlock with
      | none => exact .inl rfl
      | some b =>
        right
        intro h2
        have h3 := ((h.own k hk).lt b hb).2
        have h4 : b = g := by simpa using h2
        omega
  have ne : ∀ {b' : Nat} {cs : Array Value} {t : TypeId}, Y.heap[b']? = some (.cells cs t (0, 0)) → t ≠ 24 → (Y.setCell ⟨rb s, p, none⟩ (.slice (some ⟨g, 0, none⟩) ((Q f).length + 1) c)).heap[b']? = some (.cells cs t (0, 0)) := fun {b' cs t} h1 h2 => by
    refine (hss.block b' (Array.getElem?_eq_some_iff.1 h1).1 ?_).trans h1
    intro e
    have e2 : b' = rb s := by simpa using e
    have h3 := hv s hs
    unfold ValAt at h3
    rw [e2, h3] at h1
    simp only [Option.some.injEq, Obj.cells.injEq] at h1
    exact h2 h1.2.1.symm
  refine ⟨grown_new (grown_owned h.grown (h.own f hfN) (Nat.le_refl _) hg) hss (h.lo.2.2 s hs), ne hb (by decide), ne hout (by decide), fun s' hs' => ?_, fun k hk => ?_, fun k l hk hl e => ?_, h.inj, h.lo⟩
  · by_cases e : s' = s
    · subst e
      refine ((hv s' hs').set p _).ext fun i hi => ?_
      unfold put
      by_cases e2 : i = p
      · subst e2
        rw [if_pos rfl, ← hf, updL_same, updL_same, updL_same, hlen]
      · have e3 : s' * n + i ≠ f := by rw [hf]; omega
        rw [if_neg e2, updL_other _ _ e3, updL_other _ _ e3, updL_other _ _ e3]
    · have h2 : rb s' ≠ rb s := fun h3 => e (h.inj s' s hs' hs h3)
      refine ((hv s' hs').at hss h2).ext fun i hi => ?_
      have e3 : s' * n + i ≠ f := fun h3 => e (idx_inj hi hp (by rw [h3, hf])).1
      rw [updL_other _ _ e3, updL_other _ _ e3, updL_other _ _ e3]
  · by_cases e : k = f
    · subst e
      rw [updL_same, updL_same, updL_same, hlen, hiv]
      exact ho.kept hss (owns_nebox ho (hv s hs) (by decide))
    · rw [updL_other _ _ e, updL_other _ _ e, updL_other _ _ e]
      have h1 := (h.own k hk).kept hg (h.sep k f hk hfN e)
      exact h1.kept hss (owns_nebox h1 (hv s hs) (by decide))
  · by_cases e1 : k = f
    · subst e1
      have e2 : l ≠ k := fun h => e h.symm
      rw [updL_same, updL_same, updL_same, updL_other _ _ e2, updL_other _ _ e2, updL_other _ _ e2]
      right
      rcases key l hl e2 with h1 | h1
      · rw [h1]; simp [Value.ownBlock]
      · exact fun h2 => h1 h2.symm
    · rw [updL_other _ _ e1, updL_other _ _ e1, updL_other _ _ e1]
      by_cases e2 : l = f
      · subst e2
        rw [updL_same, updL_same, updL_same]
        exact key k hk e1
      · rw [updL_other _ _ e2, updL_other _ _ e2, updL_other _ _ e2]
        exact h.sep k l hk hl e
end
/-- Lists under way, and a row of numbers beside them. -/
def LbT (P X : World) (bx kb N n : Nat) (Q : Nat → List Int) (rb : Nat → Nat) (tb tm : Nat) (tf : Nat → Value) : Prop := ∃ ua uc, LbP P X bx kb N n Q rb ua uc ∧ ValAt X tb tm 3 tf ∧ ∀ k, k < N * n → (Value.slice (ua k) (Q k).length (uc k)).ownBlock ≠ some tb
section
variable {P X Y : World} {bx kb N n : Nat} {Q : Nat → List Int} {rb : Nat → Nat} {tb tm : Nat} {tf : Nat → Value}
theorem LbT.kept (h : LbT P X bx kb N n Q rb tb tm tf) (hg : X.grownBy Y none) : LbT P Y bx kb N n Q rb tb tm tf := by
  obtain ⟨ua, uc, h1, h2, h3⟩ := h
  exact ⟨ua, uc, h1.kept hg, h2.kept hg, h3⟩
theorem LbT.new {ua : Nat → Option Addr} {uc : Nat → Nat} (h : LbP P X bx kb N n Q rb ua uc) (hg : X.grownBy Y none) (hv : ValAt Y tb tm 3 tf) (hn : X.heap.size ≤ tb) : LbT P Y bx kb N n Q rb tb tm tf :=
  ⟨ua, uc, h.kept hg, hv, fun k hk e => by have := ((h.own k hk).lt tb e).2; omega⟩
theorem LbT.val (h : LbT P X bx kb N n Q rb tb tm tf) : ValAt X tb tm 3 tf := by
  obtain ⟨ua, uc, _, h1, _⟩ := h
  exact h1
end

set_option maxRecDepth 100000 in
set_option maxHeartbeats 2000000 in
theorem handB_any (P w : World) (bx kb N n tb tm : Nat) (tf : Nat → Value) (Q : Nat → List Int) (rb : Nat → Nat) (hLT : LbT P w bx kb N n Q rb tb tm tf) (s p : Nat) (x : Int) (hs : s < N) (hp : p < n) (hQ : (Q (s * n + p)).length ≤ 10000000) :
    Calls Tryz.prog 63 #[.int .i64 (s : Int), .int .i64 (p : Int), .int .i64 x, .pointer (some ⟨bx, 0, none⟩)] w fun e y => e = .returned (.tuple #[]) ∧ KeepH w y ∧ LbT P y bx kb N n (updL Q (s * n + p) (Q (s * n + p) ++ [x])) rb tb tm tf := by
  obtain ⟨ua, uc, h, htv, hap⟩ := hLT
  have hfN : s * n + p < N * n := idx_lt hs hp
  have c0 : w.cell? ⟨bx, 0, none⟩ = some (.slice (some ⟨kb, 0, none⟩) N N) := by rw [cell_of_row _ _ _ _ _ _ h.box]; rfl
  have cO := h.out.cell s hs
  have c1 := (h.val s hs).cell p hp
  obtain ⟨fa, hfa⟩ : ∃ a, a = ua (s * n + p) := ⟨_, rfl⟩
  obtain ⟨fc, hfc⟩ : ∃ a, a = uc (s * n + p) := ⟨_, rfl⟩
  obtain ⟨m, hm⟩ : ∃ m, m = (Q (s * n + p)).length := ⟨_, rfl⟩
  rw [← hfa, ← hfc, ← hm] at c1
  rw [← hm] at hQ
  have hs0 : (0 : Int) ≤ (s : Int) := by omega
  have hs1 : (s : Int) < (N : Int) := by omega
  have hp0 : (0 : Int) ≤ (p : Int) := by omega
  have hp1 : (p : Int) < (n : Int) := by omega
  have HOW : Hid (∀ Y, w.grownBy Y none → Y.ownsRow P.heap.size 3 1 (.slice fa m fc) m (intV (Q (s * n + p)))) := fun Y hY => by
    have h1 := keep0 (h.own _ hfN) hY
    rw [← hfa, ← hfc, ← hm] at h1
    exact h1
  have HPS : Hid (∀ Y, w.grownBy Y none → P.heap.size ≤ Y.heap.size) := fun Y hY => Nat.le_trans h.grown.size hY.size
  have HFIN : Hid (∀ (Y V : World) (g c : Nat), w.grownBy Y none → Y.grownBy V (Value.slice fa m fc).ownBlock → V.ownsRow P.heap.size 3 1 (.slice (some ⟨g, 0, none⟩) (m + 1) c) (m + 1) (intV (Q (s * n + p)) ++ [.int .i64 x]) → ((Value.slice fa m fc).ownBlock = some g ∨ g = Y.heap.size) → V.cell? ⟨rb s, p, none⟩ = some (.slice fa m fc) ∧ V.frozen? ⟨rb s, p, none⟩ = false ∧ V.cell? ⟨bx, 0, none⟩ = some (.slice (some ⟨kb, 0, none⟩) N N) ∧ V.cell? ⟨kb, s, none⟩ = some (.slice (some ⟨rb s, 0, none⟩) n n) ∧ KeepH w (V.setCell ⟨rb s, p, none⟩ (.slice (some ⟨g, 0, none⟩) (m + 1) c)) ∧ LbT P (V.setCell ⟨rb s, p, none⟩ (.slice (some ⟨g, 0, none⟩) (m + 1) c)) bx kb N n (updL Q (s * n + p) (Q (s * n + p) ++ [x])) rb tb tm tf) := fun Y V g c hY hg ho hat => by
    rw [hfa, hfc, hm] at hg hat
    rw [hm] at ho
    have h1 := h.kept hY
    have hv : ValAt V (rb s) n 24 (fun p => .slice (ua (s * n + p)) (Q (s * n + p)).length (uc (s * n + p))) := box_row (h1.val s hs) (h1.own _ hfN) (by decide) hg
    have hb : V.heap[bx]? = some (.cells #[.slice (some ⟨kb, 0, none⟩) N N] 119 (0, 0)) := box_row h1.box (h1.own _ hfN) (by decide) hg
    have hout : ValAt V kb N 30 (fun s => .slice (some ⟨rb s, 0, none⟩) n n) := box_row h1.out (h1.own _ hfN) (by decide) hg
    refine ⟨by rw [hfa, hfc, hm]; exact hv.cell p hp, hv.free p, by rw [cell_of_row _ _ _ _ _ _ hb]; rfl, hout.cell s hs, ?_⟩
    rw [hm]
    have hne : some tb ≠ (Value.slice (ua (s * n + p)) (Q (s * n + p)).length (uc (s * n + p))).ownBlock := fun e => hap _ hfN e.symm
    have htY := htv.kept hY
    have ht1 : ValAt V tb tm 3 tf := by
      unfold ValAt at htY ⊢
      exact (hg.block tb (Array.getElem?_eq_some_iff.1 htY).1 hne).trans htY
    have ht2 : ValAt (V.setCell ⟨rb s, p, none⟩ (.slice (some ⟨g, 0, none⟩) ((Q (s * n + p)).length + 1) c)) tb tm 3 tf := ht1.at (grown_setCell (rb s) p _) fun e => by
      have e2 : tb = rb s := by simpa using e
      unfold ValAt at ht1 hv
      rw [e2, hv] at ht1
      simp only [Option.some.injEq, Obj.cells.injEq] at ht1
      exact absurd ht1.2.1 (by decide)
    refine ⟨((KeepH.none_ hY).trans (.row (h1.own _ hfN) hg)).trans (.set hv), _, _, h1.add hs hp hg ho hat, ht2, fun k hk => ?_⟩
    by_cases e : k = s * n + p
    · subst e
      rw [updL_same, updL_same, updL_same]
      show some g ≠ some tb
      intro e2
      have e3 : g = tb := by simpa using e2
      rcases hat with h2 | h2
      · rw [e3] at h2; exact hap _ hfN h2
      · have := htv.lt
        have := hY.size
        omega
    · rw [updL_other _ _ e, updL_other _ _ e, updL_other _ _ e]
      exact hap k hk
  obtain ⟨xs, hxs⟩ : ∃ xs, xs = intV (Q (s * n + p)) := ⟨_, rfl⟩
  rw [← hxs] at HOW HFIN
  obtain ⟨i0, hi0, hz0, hz1, hz2⟩ := info_parts infoInt
  have c2 : ∀ o, (w.alloc o).cell? ⟨bx, 0, none⟩ = some (.slice (some ⟨kb, 0, none⟩) N N) := fun o => (World.grownBy_alloc _ o none).cell c0 (by simp)
  have c3 : ∀ o, (w.alloc o).cell? ⟨kb, s, none⟩ = some (.slice (some ⟨rb s, 0, none⟩) n n) := fun o => (World.grownBy_alloc _ o none).cell cO (by simp)
  have c4 : ∀ o, (w.alloc o).cell? ⟨rb s, p, none⟩ = some (.slice fa m fc) := fun o => (World.grownBy_alloc _ o none).cell c1 (by simp)
  obtain ⟨rs, hrs⟩ : ∃ b, b = rb s := ⟨_, rfl⟩
  rw [← hrs] at HFIN c1 c3 c4 cO
  clear h hfa hfc hm hxs htv hap hrs hfN
  go_enter Tryz.func63, Tryz.ntmps63
  go_wp2_with fail
  go_region_law (first
    | (refine step_append_liesW _ rfl (.tmp 18) (.tmp 20) 24 rfl P.heap.size 3 i0 (.int .i64 0) 1 8 Tryz.underlying24 hi0 hz0 hz1 hz2 rfl (by decide) (.slice fa m fc) m xs (by first | rfl | (simp [Act.eval]; done) | fail) (HOW.out _ (grown_trans (World.grownBy_alloc _ _ none) (grown_drewN _ _))) ⟨w.heap.size, 0, none⟩ 1 1 [.int .i64 x] (by first | rfl | (simp [Act.eval]; done) | fail) rfl (World.news_of_block (heap_alloc_last w _)) (by simp [Value.oneCell']) (by decide) (by unfold maxLen; omega) (by omega) (HPS.out _ (grown_trans (World.grownBy_alloc _ _ none) (grown_drewN _ _))) ?_; intro g9 c9 wB hoB hgB hat; obtain ⟨q1, q2, q3, q4, q5⟩ := HFIN.out _ wB g9 c9 (grown_trans (World.grownBy_alloc _ _ none) (grown_drewN _ _)) hgB hoB hat; have HQ1 := show Hid _ from q5; clear q5 hoB hgB hat)
    | fail)
  all_goals go_wp2_with fail
  all_goals refine bodyPost_end (v := .tuple #[]) (by simp [results, Tryz.results63]) rfl ?_
  all_goals exact ⟨rfl, HQ1.out⟩

end Go.Proofs.YthoamlahbnphkaaGreat.J

/-
  relate: lookback.
-/
namespace Go.Proofs.YthoamlahbnphkaaGreat.J
open Go.RowKit Go.Maps Go.Shelf

attribute [local go_sem] Oper.semAt_some

set_option maxRecDepth 100000 in
set_option maxHeartbeats 2000000 in
theorem ulbf_any (P w : World) (bx kb hb N n tb m : Nat) (sf : Nat → Nat) (Q : Nat → List Int) (rb : Nat → Nat) (k p : Nat) (hp : p < n) (hm4 : m ≤ 10000) (hst : sf m < N) (hhb : w.heap[hb]? = some (.cells #[.func (.func 63) #[] #[.pointer (some ⟨bx, 0, none⟩)]] 121 (0, 0)))
    (hQ : ∀ f, (Q f).length ≤ 10000000) (hL : LbT P w bx kb N n Q rb tb (m + 1) (fun i => .int .i64 (sf i : Int))) :
    Calls Tryz.prog 92 #[.int .i64 (k : Int), .int .i64 (p : Int), .slice (some ⟨tb, 0, none⟩) (m + 1) (m + 1), .pointer (some ⟨hb, 0, none⟩)] w fun e y => e = .returned (.tuple #[]) ∧ KeepH w y ∧ LbT P y bx kb N n (updL Q (sf m * n + p) (Q (sf m * n + p) ++ [(k : Int)])) rb tb (m + 1) (fun i => .int .i64 (sf i : Int)) := by
  obtain ⟨su, hsu⟩ : ∃ x, x = sf m := ⟨_, rfl⟩
  rw [← hsu] at hst ⊢
  have HHA : Hid (Calls Tryz.prog 63 #[.int .i64 (su : Int), .int .i64 (p : Int), .int .i64 (k : Int), .pointer (some ⟨bx, 0, none⟩)] w.drew fun e y => e = .returned (.tuple #[]) ∧ KeepH w.drew y ∧ LbT P y bx kb N n (updL Q (su * n + p) (Q (su * n + p) ++ [(k : Int)])) rb tb (m + 1) (fun i => .int .i64 (sf i : Int))) := handB_any P w.drew bx kb N n tb (m + 1) _ Q rb (hL.kept (grown_drewN w 1)) su p (k : Int) hst hp (hQ _)
  have HSX : Hid (∀ X : World, X.heap[hb]? = some (.cells #[.func (.func 63) #[] #[.pointer (some ⟨bx, 0, none⟩)]] 121 (0, 0)) → ValAt X tb (m + 1) 3 (fun i => .int .i64 (sf i : Int)) → X.cell? ⟨hb, 0, none⟩ = some (.func (.func 63) #[] #[.pointer (some ⟨bx, 0, none⟩)]) ∧ X.cell? ⟨tb, m, none⟩ = some (.int .i64 (su : Int))) := fun X h1 h2 => by
    refine ⟨by rw [cell_of_row _ _ _ _ _ _ h1]; rfl, ?_⟩
    rw [hsu]
    exact h2.cell m (by omega)
  have HKS := show Hid _ from HSX.out w hhb hL.val
  have HHB : Hid (w.drew.heap[hb]? = some (.cells #[.func (.func 63) #[] #[.pointer (some ⟨bx, 0, none⟩)]] 121 (0, 0))) := box_kept hhb (grown_drewN w 1)
  have HK0 : Hid (KeepH w w.drew) := .none_ (grown_drewN w 1)
  have hmw : IntKind.i64.wrap ((m : Int) + 1 - 1) = (m : Int) := by rw [IntKind.wrap_i64]; omega
  have hmw2 : IntKind.i64.wrap (m : Int) = (m : Int) := by rw [IntKind.wrap_i64]; omega
  have hmw3 : IntKind.i64.wrap (((m + 1 : Nat) : Int) - 1) = (m : Int) := by rw [IntKind.wrap_i64]; omega
  have hmw4 : (m : Int) + 1 - 1 = (m : Int) := by omega
  have hm0 : (0 : Int) ≤ (m : Int) := by omega
  have hm1 : (m : Int) < (m : Int) + 1 := by omega
  have hm2 : (m : Int) < ((m + 1 : Nat) : Int) := by omega
  clear hsu hL hhb hQ
  go_enter Tryz.func92, Tryz.ntmps92
  go_wp2_with fail
  go_region_held3 (fun X => X.cell? ⟨hb, 0, none⟩ = some (.func (.func 63) #[] #[.pointer (some ⟨bx, 0, none⟩)]) ∧ X.cell? ⟨tb, m, none⟩ = some (.int .i64 (su : Int))) (first | exact HKS.out | exact HKT.out | go_keep)
    ((first
      | (go_at_call 63; refine calls_at w.drew (by with_reducible rfl) ?_; refine Calls.mono HHA.out ?_; rintro e w4 ⟨rfl, hk4, hl4⟩; have HKT := show Hid _ from HSX.out w4 (hk4.at HHB.out (by decide) (by decide)) hl4.val; have HK4 : Hid (KeepH w w4) := HK0.out.trans hk4; have HL4 := show Hid _ from hl4; clear hk4 hl4)
      | fail))
  all_goals go_wp2_with fail
  all_goals refine bodyPost_end (v := .tuple #[]) (by simp [results, Tryz.results92]) rfl ?_
  all_goals exact ⟨rfl, HK4.out, HL4.out⟩

/-- What lookback hands out of a transition, by the productions below p. -/
def lbK (es : List (List (Nat × Nat))) (tl : List It) (n : Nat) (L : Nat → Int) (R : Nat → List Int) (k : Nat) : Nat → List (Nat × Int)
  | 0 => []
  | p + 1 => lbK es tl n L R k p ++ (if L p = (tl.getD k (0, 0)).2 then [(stF es (tl.getD k (0, 0)).1.toNat (R p) (R p).length * n + p, (k : Int))] else [])
/-- .. of the transitions below k, by n productions. -/
def lbT (es : List (List (Nat × Nat))) (tl : List It) (n : Nat) (L : Nat → Int) (R : Nat → List Int) : Nat → List (Nat × Int)
  | 0 => []
  | k + 1 => lbT es tl n L R k ++ lbK es tl n L R k n
/-- Lists, once all this has been handed to them. -/
def foldA (l : List (Nat × Int)) (f : Nat) : List Int := (l.filter fun x => decide (x.1 = f)).map Prod.snd
theorem foldA_snoc (l : List (Nat × Int)) (f : Nat) (x : Int) : foldA (l ++ [(f, x)]) = updL (foldA l) f (foldA l f ++ [x]) := funext fun i => by
  unfold foldA
  rw [List.filter_append, List.map_append]
  by_cases e : i = f
  · subst e
    rw [updL_same]
    simp
  · rw [updL_other _ _ e]
    have : ¬ f = i := fun h => e h.symm
    simp [this]
theorem mem_foldA {l : List (Nat × Int)} {f : Nat} {x : Int} : x ∈ foldA l f ↔ (f, x) ∈ l := by
  unfold foldA
  rw [List.mem_map]
  constructor
  · rintro ⟨y, hy, rfl⟩
    obtain ⟨h1, h2⟩ := List.mem_filter.1 hy
    simp only [decide_eq_true_eq] at h2
    rw [← h2]
    exact h1
  · intro h
    exact ⟨(f, x), List.mem_filter.2 ⟨h, by simp⟩, rfl⟩
section
variable {es : List (List (Nat × Nat))} {tl : List It} {n : Nat} {L : Nat → Int} {R : Nat → List Int}
theorem mem_lbK {k : Nat} {x : Nat × Int} : ∀ {p : Nat}, x ∈ lbK es tl n L R k p ↔ ∃ p', p' < p ∧ L p' = (tl.getD k (0, 0)).2 ∧ x = (stF es (tl.getD k (0, 0)).1.toNat (R p') (R p').length * n + p', (k : Int))
  | 0 => by simp [lbK]
  | p + 1 => by
    rw [lbK, List.mem_append, mem_lbK]
    constructor
    · rintro (⟨p', h1, h2⟩ | h)
      · exact ⟨p', by omega, h2⟩
      · by_cases e : L p = (tl.getD k (0, 0)).2
        · rw [if_pos e, List.mem_singleton] at h; exact ⟨p, Nat.lt_succ_self _, e, h⟩
        · rw [if_neg e] at h; cases h
    · rintro ⟨p', h1, h2, h3⟩
      by_cases e : p' = p
      · subst e; right; rw [if_pos h2, List.mem_singleton]; exact h3
      · exact .inl ⟨p', by omega, h2, h3⟩
theorem mem_lbT {x : Nat × Int} : ∀ {k : Nat}, x ∈ lbT es tl n L R k ↔ ∃ k', k' < k ∧ x ∈ lbK es tl n L R k' n
  | 0 => by simp [lbT]
  | k + 1 => by
    rw [lbT, List.mem_append, mem_lbT]
    constructor
    · rintro (⟨k', h1, h2⟩ | h)
      · exact ⟨k', by omega, h2⟩
      · exact ⟨k, Nat.lt_succ_self _, h⟩
    · rintro ⟨k', h1, h3⟩
      by_cases e : k' = k
      · subst e; exact .inr h3
      · exact .inl ⟨k', by omega, h3⟩
theorem lbK_asc {k : Nat} : ∀ p, p ≤ n → (lbK es tl n L R k p).Pairwise fun x y => x.1 ≠ y.1
  | 0, _ => List.Pairwise.nil
  | p + 1, hp => by
    rw [lbK, List.pairwise_append]
    refine ⟨lbK_asc p (by omega), ?_, fun x hx y hy e => ?_⟩
    · split
      · exact List.pairwise_singleton _ _
      · exact List.Pairwise.nil
    · obtain ⟨p', h1, _, rfl⟩ := mem_lbK.1 hx
      by_cases e2 : L p = (tl.getD k (0, 0)).2
      · rw [if_pos e2, List.mem_singleton] at hy
        subst hy
        have := (idx_inj (n := n) (by omega) (by omega) e).2
        omega
      · rw [if_neg e2] at hy; cases hy
theorem lbK_snd {k p : Nat} {x : Nat × Int} (h : x ∈ lbK es tl n L R k p) : x.2 = (k : Int) := by
  obtain ⟨_, _, _, rfl⟩ := mem_lbK.1 h
  rfl
theorem lbT_asc : ∀ k, (lbT es tl n L R k).Pairwise fun x y => x.1 = y.1 → x.2 < y.2
  | 0 => List.Pairwise.nil
  | k + 1 => by
    rw [lbT, List.pairwise_append]
    refine ⟨lbT_asc k, (lbK_asc n (Nat.le_refl _)).imp fun h e => absurd e h, fun x hx y hy _ => ?_⟩
    obtain ⟨k', h1, h2⟩ := mem_lbT.1 hx
    rw [lbK_snd h2, lbK_snd hy]
    omega
theorem foldA_asc {l : List (Nat × Int)} (h : l.Pairwise fun x y => x.1 = y.1 → x.2 < y.2) (f : Nat) : (foldA l f).Pairwise (· < ·) := by
  unfold foldA
  rw [List.pairwise_map]
  refine (h.sublist List.filter_sublist).imp_of_mem fun {x y} hx hy h1 => ?_
  have h2 := (List.mem_filter.1 hx).2
  have h3 := (List.mem_filter.1 hy).2
  simp only [decide_eq_true_eq] at h2 h3
  exact h1 (by rw [h2, h3])
theorem lbK_prefix {k p : Nat} : ∀ d, lbK es tl n L R k p <+: lbK es tl n L R k (p + d)
  | 0 => List.prefix_refl _
  | d + 1 => (lbK_prefix d).trans (by
    show _ <+: lbK es tl n L R k ((p + d) + 1)
    rw [lbK]
    exact List.prefix_append _ _)
theorem lbI_len {k p T : Nat} (hk : k < T) (hp : p ≤ n) (f : Nat) : (foldA (lbT es tl n L R k ++ lbK es tl n L R k p) f).length ≤ T := by
  obtain ⟨d, hd⟩ : ∃ d, n = p + d := ⟨n - p, by omega⟩
  have h0 : (lbT es tl n L R k ++ lbK es tl n L R k p).Sublist (lbT es tl n L R (k + 1)) := by
    rw [lbT]
    refine List.Sublist.append_left ?_ _
    have h := (lbK_prefix (es := es) (tl := tl) (n := n) (L := L) (R := R) (k := k) (p := p) d).sublist
    rw [← hd] at h
    exact h
  refine asc_len (foldA_asc ((lbT_asc (k + 1)).sublist h0) f) fun x hx => ?_
  obtain ⟨k', h1, h2⟩ := mem_lbT.1 (h0.subset (mem_foldA.1 hx))
  have h3 := lbK_snd h2
  simp only at h3
  omega
end

section
variable (ta na la pa sa xa l1 m1 : Option Addr) (tc nc lc pc sc xc lc1 mc1 : Nat) (n N T nb : Nat) (st : Int) (w : World) (tn nn ln : Nat)

set_option maxRecDepth 100000 in
set_option maxHeartbeats 2000000 in
theorem ulb_any (P : World) (B S bx kb : Nat) (ks : List (List It)) (es : List (List (Nat × Nat))) (kv ev : Nat → Value) (tl : List It) (F : Nat → Bool) (lb mb : Nat → Nat) (L : Nat → Int) (R : Nat → List Int) (ra : Nat → Option Addr) (rc : Nat → Nat) (V : Nat → Int) (hK : RlOK N T S tn nn ks es tl)
    (hR : RaAt B P nb nn S (.slice sa N sc) (.slice xa T xc) (.slice l1 N lc1) (.slice m1 N mc1) ks es kv ev tl F lb mb) (hPr : ProdsAt P pa n L R ra rc V) (hn : n ≤ 1000) (hrow : RowsOK n T S tl L R)
    (rb : Nat → Nat) (hL : ∃ ua uc, LbP P w bx kb N n (fun _ => []) rb ua uc) :
    Calls Tryz.prog 62 #[.agg #[.slice ta tn tc, .slice na nn nc, .slice la ln lc, .int .i64 st, .slice pa n pc, .slice (some ⟨nb, 0, none⟩) nn nn, .slice sa N sc, .slice xa T xc, .slice l1 N lc1, .slice m1 N mc1], .func (.func 63) #[] #[.pointer (some ⟨bx, 0, none⟩)]] w fun e y => e = .returned (.tuple #[]) ∧ ∃ ua uc, LbP P y bx kb N n (foldA (lbT es tl n L R T)) rb ua uc := by
  obtain ⟨X0, hX0⟩ : ∃ X, X = w.alloc (.cells #[.slice ta tn tc, .slice na nn nc, .slice la ln lc, .int .i64 st, .slice pa n pc, .slice (some ⟨nb, 0, none⟩) nn nn, .slice sa N sc, .slice xa T xc, .slice l1 N lc1, .slice m1 N mc1] 81) := ⟨_, rfl⟩
  obtain ⟨X1, hX1⟩ : ∃ X, X = X0.alloc (.cells #[.func (.func 63) #[] #[.pointer (some ⟨bx, 0, none⟩)]] 121) := ⟨_, rfl⟩
  have hg0 : w.grownBy X0 none := by rw [hX0]; exact World.grownBy_alloc _ _ none
  have hg1 : X0.grownBy X1 none := by rw [hX1]; exact World.grownBy_alloc _ _ none
  have hb0 : X0.heap[w.heap.size]? = some (.cells #[.slice ta tn tc, .slice na nn nc, .slice la ln lc, .int .i64 st, .slice pa n pc, .slice (some ⟨nb, 0, none⟩) nn nn, .slice sa N sc, .slice xa T xc, .slice l1 N lc1, .slice m1 N mc1] 81 (0, 0)) := by rw [hX0]; exact heap_alloc_last w _
  have hb1 : X1.heap[w.heap.size]? = some (.cells #[.slice ta tn tc, .slice na nn nc, .slice la ln lc, .int .i64 st, .slice pa n pc, .slice (some ⟨nb, 0, none⟩) nn nn, .slice sa N sc, .slice xa T xc, .slice l1 N lc1, .slice m1 N mc1] 81 (0, 0)) := box_kept hb0 hg1
  have hs0 : X0.heap.size = w.heap.size + 1 := by rw [hX0, World.size_alloc]
  have hb2 : X1.heap[w.heap.size + 1]? = some (.cells #[.func (.func 63) #[] #[.pointer (some ⟨bx, 0, none⟩)]] 121 (0, 0)) := by rw [hX1, ← hs0]; exact heap_alloc_last X0 _
  have HWY : Hid (Calls Tryz.prog 59 #[.agg #[.slice ta tn tc, .slice na nn nc, .slice la ln lc, .int .i64 st, .slice pa n pc, .slice (some ⟨nb, 0, none⟩) nn nn, .slice sa N sc, .slice xa T xc, .slice l1 N lc1, .slice m1 N mc1], .func (.func 92) #[] #[.pointer (some ⟨w.heap.size + 1, 0, none⟩)]] X1 fun e y => e = .returned (.tuple #[]) ∧ (y.heap[w.heap.size + 1]? = some (.cells #[.func (.func 63) #[] #[.pointer (some ⟨bx, 0, none⟩)]] 121 (0, 0)) ∧ ∃ ua uc, LbP P y bx kb N n (foldA (lbT es tl n L R T ++ lbK es tl n L R T 0)) rb ua uc)) :=
    ways_lb ta na la pa sa xa l1 m1 tc nc lc pc sc xc lc1 mc1 n N T nb st X1 tn nn ln P B S ks es kv ev tl F lb mb L R ra rc V hK hR hPr hn hrow (w.heap.size + 1)
      (fun X k p => X.heap[w.heap.size + 1]? = some (.cells #[.func (.func 63) #[] #[.pointer (some ⟨bx, 0, none⟩)]] 121 (0, 0)) ∧ ∃ ua uc, LbP P X bx kb N n (foldA (lbT es tl n L R k ++ lbK es tl n L R k p)) rb ua uc)
      (fun X Y k p h hg => ⟨box_kept h.1 hg, by obtain ⟨ua, uc, h1⟩ := h.2; exact ⟨ua, uc, h1.kept hg⟩⟩)
      (fun X k p h => by obtain ⟨ua, uc, h1⟩ := h.2; exact h1.grown)
      (fun Y0 Y k p q tb hk hp hq e h hg htb hv => by
        obtain ⟨h1, ua, uc, h3⟩ := h
        refine (ulbf_any P Y bx kb (w.heap.size + 1) N n tb (R p).length (stF es q (R p)) (foldA (lbT es tl n L R k ++ lbK es tl n L R k p)) rb k p hp ((hrow p hp).1 k hk (by rw [e])) (stF_lt hq (fun r hr x hx => by rw [hK.hN]; exact ((hK.eok.each r (by rw [← hK.hN]; exact hr)).2.2 x hx).2) _) (box_kept h1 hg) (fun f => by have a1 := lbI_len (es := es) (tl := tl) (n := n) (L := L) (R := R) hk (Nat.le_of_lt hp) f; have a2 := hK.t40; omega) (LbT.new h3 hg hv htb)).mono ?_
        rintro e' y ⟨rfl, hk2, ua', uc', h4, _⟩
        refine ⟨rfl, hk2, hk2.at (box_kept h1 hg) (by decide) (by decide), ua', uc', ?_⟩
        rw [lbK, e, if_pos rfl, ← List.append_assoc, foldA_snoc]
        exact h4)
      (fun X k p q s _ _ e hne h => by
        refine ⟨h.1, ?_⟩
        rw [lbK, e, if_neg hne, List.append_nil]
        exact h.2)
      (fun X k h => by
        refine ⟨h.1, ?_⟩
        rw [lbT, lbK, List.append_nil]
        exact h.2)
      ⟨hb2, by obtain ⟨ua, uc, h⟩ := hL; exact ⟨ua, uc, (h.kept hg0).kept hg1⟩⟩
  obtain ⟨a0, a1, a2, a3, a4, a5, a6, a7, a8, a9⟩ := av_cells hb1
  rw [hX1, hX0] at a0 a1 a2 a3 a4 a5 a6 a7 a8 a9
  have HXE : Hid (X1 = (w.alloc (.cells #[.slice ta tn tc, .slice na nn nc, .slice la ln lc, .int .i64 st, .slice pa n pc, .slice (some ⟨nb, 0, none⟩) nn nn, .slice sa N sc, .slice xa T xc, .slice l1 N lc1, .slice m1 N mc1] 81)).alloc (.cells #[.func (.func 63) #[] #[.pointer (some ⟨bx, 0, none⟩)]] 121)) := by show _ = _; rw [hX1, hX0]
  clear hK hR hPr hrow hL hX0 hX1 hg0 hg1 hb0 hb1 hs0 hb2
  go_enter Tryz.func62, Tryz.ntmps62
  go_wp2_with fail
  rw [← HXE.out]
  refine Calls.mono HWY.out ?_
  rintro e y ⟨rfl, _, hl⟩
  have HL := show Hid _ from hl
  clear hl a0 a1 a2 a3 a4 a5 a6 a7 a8 a9
  go_wp2_with fail
  refine bodyPost_end (v := .tuple #[]) (by simp [results, Tryz.results62]) rfl ?_
  refine ⟨rfl, ?_⟩
  have h := HL.out
  rw [lbK, List.append_nil] at h
  exact h
end

end Go.Proofs.YthoamlahbnphkaaGreat.J
