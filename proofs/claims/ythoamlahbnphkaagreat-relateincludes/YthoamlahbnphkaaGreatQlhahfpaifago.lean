import Derived.Test.YthoamlahbnphkaaGreatQeiccopagnbhd
import Derived.Test.YthoamlahbnphkaaGreatQbebfnabpmlmm
import Derived.Laws.StructEq

/-
  lr0: begun.
-/
namespace Go.Proofs.YthoamlahbnphkaaGreat.J
open Go.RowKit Go.Maps Go.Shelf

attribute [local go_sem] Oper.semAt_some

theorem infoItem : (Tryz.prog.info? 69).map (fun i => (i.zero, i.size, i.bytes)) = some (some (.agg #[.int .i64 0, .int .i64 0]), 2, 16) := by kernel_rfl

/-- The productions of s among the first k, begun. -/
def begL (L : Nat → Int) (s : Int) (k : Nat) : List It := ((List.range k).filter fun i => L i == s).map fun i : Nat => ((i : Int), (0 : Int))
theorem begL_succ (L : Nat → Int) (s : Int) (k : Nat) : begL L s (k + 1) = begL L s k ++ (if (L k == s) = true then [((k : Int), (0 : Int))] else []) := by
  unfold begL
  rw [List.range_succ, List.filter_append, List.map_append]
  congr 1
  by_cases h : (L k == s) = true
  · rw [if_pos h]; simp [h]
  · rw [if_neg h]; simp [h]
theorem begL_len (L : Nat → Int) (s : Int) (k : Nat) : (begL L s k).length ≤ k := by
  unfold begL
  rw [List.length_map]
  have := List.length_filter_le (fun i => L i == s) (List.range k)
  simpa using this

/-- What begun tells. -/
def ItsTold (l : List It) (w : World) (e : Ending) (y : World) : Prop := ∃ (a : Option Addr) (c : Nat), e = .returned (.slice a l.length c) ∧ y.ownsRow w.heap.size 69 2 (.slice a l.length c) l.length (itsV l) ∧ w.grownBy y none

set_option maxRecDepth 100000 in
set_option maxHeartbeats 1000000 in
theorem begun_any (ta na la pa : Option Addr) (tc nc lc pc : Nat) (n : Nat) (L : Nat → Int) (R : Nat → List Int) (ra : Nat → Option Addr) (rc : Nat → Nat) (V : Nat → Int) (st s : Int) (w : World) (tn nn ln : Nat) (hP : ProdsAt w pa n L R ra rc V) (hn : n ≤ 97) (hn0 : 0 < n) :
    Calls Tryz.prog 79 #[.agg #[.slice ta tn tc, .slice na nn nc, .slice la ln lc, .int .i64 st, .slice pa n pc], .int .i64 s] w fun e y => ItsTold (begL L s n) w e y := by
  obtain ⟨bp, op, rfl, hp⟩ : ∃ bp op, pa = some ⟨bp, op, none⟩ ∧ ∀ k, k < n → w.cell? ⟨bp, op + k * 3, none⟩ = some (.int .i64 (L k)) ∧ w.cell? ⟨bp, op + k * 3 + 1, none⟩ = some (.slice (ra k) (R k).length (rc k)) ∧ w.cell? ⟨bp, op + k * 3 + 2, none⟩ = some (.int .i64 (V k)) := by
    rcases hP with h | ⟨bp, op, e, h⟩
    · omega
    · exact ⟨bp, op, e, fun k hk => ⟨(h k hk).1, (h k hk).2.1, (h k hk).2.2.1⟩⟩
  have HP : Hid (∀ k, k < n → ∀ X, w.grownBy X none → X.cell? ⟨bp, op + k * 3, none⟩ = some (.int .i64 (L k)) ∧ X.cell? ⟨bp, op + k * 3 + 1, none⟩ = some (.slice (ra k) (R k).length (rc k)) ∧ X.cell? ⟨bp, op + k * 3 + 2, none⟩ = some (.int .i64 (V k))) := fun k hk X hX => ⟨hX.cell (hp k hk).1 (by simp), hX.cell (hp k hk).2.1 (by simp), hX.cell (hp k hk).2.2 (by simp)⟩
  have HX0 : Hid (w.grownBy (w.alloc (.cells #[.slice ta tn tc, .slice na nn nc, .slice la ln lc, .int .i64 st, .slice (some ⟨bp, op, none⟩) n pc] 27)) none) := World.grownBy_alloc _ _ none
  obtain ⟨i0, hi0, hz0, hz1, hz2⟩ := info_parts infoItem
  clear hp
  go_enter Tryz.func79, Tryz.ntmps79
  go_wp2_with fail
  go_loopg [5, 11] n (fun gk v5 v11 wr => ∃ (k q : Nat) (a : Option Addr) (c : Nat), k ≤ n ∧ gk = n - k ∧ v5 = .slice a q c ∧ v11 = .int .i64 k ∧ q = (begL L s k).length ∧ wr.ownsRow w.heap.size 69 2 (.slice a q c) q (itsV (begL L s k)) ∧ w.grownBy wr none)
  case atStart => exact ⟨0, 0, none, 0, Nat.zero_le _, rfl, rfl, rfl, rfl, World.ownsRow_nil _ _ _ _, HX0.out⟩
  case round =>
    obtain ⟨k, q, a, c, hk, hgk, rfl, rfl, hq, hO, hg⟩ := hrel
    have HGK : Hid (gk = n - k) := hgk
    have HQ : Hid (q = (begL L s k).length) := hq
    have HO : Hid (wr.ownsRow w.heap.size 69 2 (.slice a q c) q (itsV (begL L s k))) := hO
    have HG : Hid (w.grownBy wr none) := hg
    have hqn : q ≤ 97 := by rw [hq]; exact Nat.le_trans (begL_len L s k) (by omega)
    clear hgk hq hO hg HX0
    by_cases hlt : k < n
    · have hk0 : (0 : Int) ≤ (k : Int) := by omega
      have hk1 : (k : Int) < (n : Int) := by omega
      have hkd : decide (k < n) = true := decide_eq_true hlt
      obtain ⟨p0, p1, p2⟩ := HP.out k hlt wr HG.out
      have HBS := show Hid _ from begL_succ L s k
      obtain ⟨lk, hlk⟩ : ∃ l, l = L k := ⟨_, rfl⟩
      rw [← hlk] at p0 HBS
      obtain ⟨rl, hrl⟩ : ∃ l, l = (R k).length := ⟨_, rfl⟩
      rw [← hrl] at p1
      clear hlk hrl
      obtain ⟨bb, hbb⟩ : ∃ b : Bool, b = (lk == s) := ⟨_, rfl⟩
      have hb1 : (lk == s) = bb := hbb.symm
      rw [hb1] at HBS
      clear hbb
      cases bb with
      | false =>
        go_wp2_with fail
        go_roundg (n - (k + 1))
        case measure => have := HGK.out; omega
        case rel =>
          have hb := HBS.out
          rw [if_neg (by decide), List.append_nil] at hb
          exact ⟨k + 1, q, a, c, by omega, rfl, rfl, by go_num, by rw [hb]; exact HQ.out, by rw [hb]; exact HO.out.alloc _, grown_trans HG.out (World.grownBy_alloc _ _ none)⟩
      | true =>
        obtain ⟨X1, hX1⟩ : ∃ X1, X1 = wr.alloc (.cells #[.int .i64 lk, .slice (ra k) rl (rc k), .int .i64 (V k)] 71) := ⟨_, rfl⟩
        have HOW : Hid ((X1.alloc (.cells #[.int .i64 (k : Int), .int .i64 0] 69)).ownsRow w.heap.size 69 2 (.slice a q c) q (itsV (begL L s k))) := by rw [hX1]; exact (HO.out.alloc _).alloc _
        have HNX : Hid (∀ j z, [Value.int .i64 (k : Int), Value.int .i64 0][j]? = some z → (X1.alloc (.cells #[.int .i64 (k : Int), .int .i64 0] 69)).cell? ((⟨X1.heap.size, 0, none⟩ : Addr).add j) = some z) := news_new X1 _ _
        have HGX : Hid (w.grownBy (X1.alloc (.cells #[.int .i64 (k : Int), .int .i64 0] 69)) none) := by rw [hX1]; exact grown_trans HG.out (grown_trans (World.grownBy_alloc _ _ none) (World.grownBy_alloc _ _ none))
        have HB2 : Hid (begL L s (k + 1) = begL L s k ++ [((k : Int), (0 : Int))]) := HBS.out.trans (by rw [if_pos rfl])
        have hsz : X1.heap.size = wr.heap.size + 1 := by rw [hX1]; simp
        rw [hsz] at HNX
        rw [hX1] at HOW HNX HGX
        clear hsz hX1 HBS
        go_wp2_with (at_builtin; refine wpList_append_src rfl (.tmp 20) (.tmp 23) 62 rfl w.heap.size 69 i0 (.agg #[.int .i64 0, .int .i64 0]) 2 16 Tryz.underlying62 hi0 hz0 hz1 hz2 rfl (by decide) (.slice a q c) q (itsV (begL L s k)) rfl HOW.out (some ⟨wr.heap.size + 1, 0, none⟩) 1 1 [.int .i64 (k : Int), .int .i64 0] rfl (fun h => by cases h) rfl (fun ad e => by cases e; exact HNX.out) (by simp [Value.oneCell']) (by unfold maxLen; omega) (by omega) HGX.out.size ?_; intro v6 wB hoB hgB; obtain ⟨a6, c6, rfl⟩ := owns_slice hoB; have HY1 := show Hid _ from hoB; have HY2 : Hid (w.grownBy wB none) := grown_row HGX.out HOW.out (Nat.le_refl _) hgB; clear hoB hgB)
        go_roundg (n - (k + 1))
        case measure => have := HGK.out; omega
        case rel => exact ⟨k + 1, q + 1, a6, c6, by omega, rfl, rfl, by go_num, by rw [HB2.out, List.length_append, ← HQ.out]; rfl, by rw [HB2.out, itsV_append]; exact HY1.out, HY2.out⟩
    · have hkn : n = k := by omega
      subst hkn
      have hkd : decide (n < n) = false := decide_eq_false (by omega)
      have HO2 := HO.out
      go_wp2_with fail
      go_ret
      exact ⟨a, c, by rw [← HQ.out]; rfl, by rw [← HQ.out]; exact HO.out, HG.out⟩

end Go.Proofs.YthoamlahbnphkaaGreat.J

/-
  lr0: closures and kernels, pure.
-/
namespace Go.Proofs.YthoamlahbnphkaaGreat.J

/-- One item ahead of another. -/
def ltI (x y : It) : Prop := x.1 < y.1 ∨ (x.1 = y.1 ∧ x.2 < y.2)
theorem ltI_irr (x : It) : ¬ ltI x x := by unfold ltI; omega
theorem ltI_trans {x y z : It} (h1 : ltI x y) (h2 : ltI y z) : ltI x z := by unfold ltI at *; omega
theorem ltI_total (x y : It) : ltI x y ∨ x = y ∨ ltI y x := by
  unfold ltI
  by_cases h1 : x.1 = y.1
  · by_cases h2 : x.2 = y.2
    · exact .inr (.inl (Prod.ext h1 h2))
    · by_cases h3 : x.2 < y.2
      · exact .inl (.inr ⟨h1, h3⟩)
      · exact .inr (.inr (.inr ⟨h1.symm, by omega⟩))
  · by_cases h3 : x.1 < y.1
    · exact .inl (.inl h3)
    · exact .inr (.inr (.inl (by omega)))

/-- In order, each once. -/
def Asc (l : List It) : Prop := l.Pairwise ltI
/-- Of one set there is one list in order. -/
theorem Asc.unique : ∀ {l m : List It}, Asc l → Asc m → (∀ x, x ∈ l ↔ x ∈ m) → l = m
  | [], [], _, _, _ => rfl
  | [], y :: m, _, _, h => absurd ((h y).2 (List.mem_cons_self ..)) (by simp)
  | x :: l, [], _, _, h => absurd ((h x).1 (List.mem_cons_self ..)) (by simp)
  | x :: l, y :: m, hl, hm, h => by
    have hl' := List.pairwise_cons.1 hl
    have hm' := List.pairwise_cons.1 hm
    have e : x = y := by
      rcases List.mem_cons.1 ((h x).1 (List.mem_cons_self ..)) with e | e
      · exact e
      · rcases List.mem_cons.1 ((h y).2 (List.mem_cons_self ..)) with e2 | e2
        · exact e2.symm
        · exact absurd (ltI_trans (hm'.1 x e) (hl'.1 y e2)) (ltI_irr _)
    subst e
    congr 1
    refine Asc.unique hl'.2 hm'.2 fun z => ?_
    constructor
    · intro hz
      rcases List.mem_cons.1 ((h z).1 (List.mem_cons_of_mem _ hz)) with e | e
      · subst e; exact absurd (hl'.1 z hz) (ltI_irr _)
      · exact e
    · intro hz
      rcases List.mem_cons.1 ((h z).2 (List.mem_cons_of_mem _ hz)) with e | e
      · subst e; exact absurd (hm'.1 z hz) (ltI_irr _)
      · exact e

/-- What compacting leaves of the first k. -/
def ddT (l : List It) : Nat → List It
  | 0 => []
  | k + 1 => if 0 < k ∧ l.getD k (0, 0) = l.getD (k - 1) (0, 0) then ddT l k else ddT l k ++ [l.getD k (0, 0)]
theorem ddT_len (l : List It) : ∀ k, (ddT l k).length ≤ k
  | 0 => Nat.le_refl _
  | k + 1 => by
    have := ddT_len l k
    unfold ddT
    split
    · omega
    · simp; omega
theorem ddT_mem (l : List It) : ∀ k, k ≤ l.length → ∀ x, x ∈ ddT l k ↔ ∃ i, i < k ∧ l.getD i (0, 0) = x
  | 0, _, x => by simp [ddT]
  | k + 1, h, x => by
    have ih := ddT_mem l k (by omega) x
    unfold ddT
    split
    · rename_i hc
      rw [ih]
      constructor
      · rintro ⟨i, h1, h2⟩; exact ⟨i, by omega, h2⟩
      · rintro ⟨i, h1, h2⟩
        by_cases e : i = k
        · subst e; exact ⟨i - 1, by omega, by rw [← hc.2]; exact h2⟩
        · exact ⟨i, by omega, h2⟩
    · rw [List.mem_append, ih]
      constructor
      · rintro (⟨i, h1, h2⟩ | h2)
        · exact ⟨i, by omega, h2⟩
        · exact ⟨k, by omega, (List.mem_singleton.1 h2).symm⟩
      · rintro ⟨i, h1, h2⟩
        by_cases e : i = k
        · subst e; right; exact List.mem_singleton.2 h2.symm
        · left; exact ⟨i, by omega, h2⟩
/-- Sorted, as the sort leaves it: no later one ahead of an earlier. -/
def Srt (l : List It) : Prop := l.Pairwise fun x y => ¬ ltI y x
theorem Srt.at {l : List It} (h : Srt l) {i j : Nat} (hij : i < j) (hj : j < l.length) : ¬ ltI (l.getD j (0, 0)) (l.getD i (0, 0)) := by
  have h2 := List.pairwise_iff_getElem.1 h i j (by omega) hj hij
  rw [List.getD_eq_getElem?_getD, List.getD_eq_getElem?_getD, List.getElem?_eq_getElem hj, List.getElem?_eq_getElem (show i < l.length by omega)]
  exact h2
theorem ddT_asc {l : List It} (h : Srt l) : ∀ k, k ≤ l.length → Asc (ddT l k)
  | 0, _ => List.Pairwise.nil
  | k + 1, hk => by
    have ih := ddT_asc h k (by omega)
    unfold ddT
    split
    · exact ih
    · rename_i hc
      refine List.pairwise_append.2 ⟨ih, List.pairwise_singleton _ _, fun x hx y hy => ?_⟩
      obtain ⟨i, h1, rfl⟩ := (ddT_mem l k (by omega) x).1 hx
      rw [List.mem_singleton.1 hy]
      have hne : l.getD k (0, 0) ≠ l.getD (k - 1) (0, 0) := fun e => hc ⟨by omega, e⟩
      have h3 := h.at (show k - 1 < k by omega) (by omega)
      have h4 : ltI (l.getD (k - 1) (0, 0)) (l.getD k (0, 0)) := by
        rcases ltI_total (l.getD (k - 1) (0, 0)) (l.getD k (0, 0)) with h5 | h5 | h5
        · exact h5
        · exact absurd h5.symm hne
        · exact absurd h5 h3
      by_cases e : i = k - 1
      · rw [e]; exact h4
      · have h5 := h.at (show i < k - 1 by omega) (by omega)
        rcases ltI_total (l.getD i (0, 0)) (l.getD (k - 1) (0, 0)) with h6 | h6 | h6
        · exact ltI_trans h6 h4
        · rw [h6]; exact h4
        · exact absurd h6 h5

/-- An item is brought along by items. -/
def Clo (tn n : Nat) (L : Nat → Int) (R : Nat → List Int) (I : List It) (x : It) : Prop :=
  ∀ P : It → Prop, (∀ y ∈ I, P y) → (∀ (y : It) (k : Nat), P y → (tn : Int) ≤ aheadV R y → k < n → L k = aheadV R y → P ((k : Int), 0)) → P x
section
variable {tn n : Nat} {L : Nat → Int} {R : Nat → List Int} {I : List It}
theorem Clo.base {x : It} (h : x ∈ I) : Clo tn n L R I x := fun _ h1 _ => h1 x h
theorem Clo.step {y : It} {k : Nat} (h : Clo tn n L R I y) (ht : (tn : Int) ≤ aheadV R y) (hk : k < n) (hl : L k = aheadV R y) : Clo tn n L R I ((k : Int), 0) := fun P h1 h2 => h2 y k (h P h1 h2) ht hk hl
/-- All that is brought along by items is an item. -/
theorem Clo.item {x : It} (h : Clo tn n L R I x) (hI : ∀ y ∈ I, itB n R y = true) : itB n R x = true := h (fun y => itB n R y = true) hI fun y k _ _ hk _ => by
  unfold itB
  have h1 : decide ((0 : Int) ≤ ((k : Int), (0 : Int)).1) = true := decide_eq_true (by simp)
  have h2 : decide (((k : Int), (0 : Int)).1 < (n : Int)) = true := decide_eq_true (by simp; omega)
  have h3 : decide ((0 : Int) ≤ ((k : Int), (0 : Int)).2) = true := decide_eq_true (by simp)
  have h4 : decide (((k : Int), (0 : Int)).2 ≤ ((R ((k : Int), (0 : Int)).1.toNat).length : Int)) = true := decide_eq_true (by simp)
  rw [h1, h2, h3, h4]; rfl
/-- A list is the closure of items: in order, what they bring along. -/
structure IsClo (tn n : Nat) (L : Nat → Int) (R : Nat → List Int) (I l : List It) : Prop where
  asc : Asc l
  mem : ∀ x, x ∈ l ↔ Clo tn n L R I x
theorem IsClo.unique {l m : List It} (h1 : IsClo tn n L R I l) (h2 : IsClo tn n L R I m) : l = m := h1.asc.unique h2.asc fun x => (h1.mem x).trans (h2.mem x).symm
/-- What is done of a worklist: its first i. -/
structure CwP (tn n : Nat) (L : Nat → Int) (R : Nat → List Int) (I A : List It) (b : Nat → Bool) (i : Nat) : Prop where
  mem : ∀ x ∈ A, Clo tn n L R I x
  all : ∀ x ∈ I, x ∈ A
  brt : ∀ s : Nat, b s = true → ∀ k, k < n → L k = (s : Int) → ((k : Int), (0 : Int)) ∈ A
  done : ∀ j, j < i → j < A.length → (tn : Int) ≤ aheadV R (A.getD j (0, 0)) → b (aheadV R (A.getD j (0, 0))).toNat = true
theorem CwP.start : CwP tn n L R I I (fun _ => false) 0 := ⟨fun _ h => Clo.base h, fun _ h => h, fun _ h => (by simp at h), fun _ h => absurd h (Nat.not_lt_zero _)⟩
theorem CwP.skip {A : List It} {b : Nat → Bool} {i : Nat} (h : CwP tn n L R I A b i) (hi : (tn : Int) ≤ aheadV R (A.getD i (0, 0)) → b (aheadV R (A.getD i (0, 0))).toNat = true) : CwP tn n L R I A b (i + 1) :=
  ⟨h.mem, h.all, h.brt, fun j hj hl ht => by
    by_cases e : j = i
    · subst e; exact hi ht
    · exact h.done j (by omega) hl ht⟩
theorem CwP.bring {A : List It} {b b' : Nat → Bool} {i s : Nat} (h : CwP tn n L R I A b i) (hi : i < A.length) (hs : aheadV R (A.getD i (0, 0)) = (s : Int)) (ht : tn ≤ s) (hb : ∀ j, b' j = true ↔ j = s ∨ b j = true) : CwP tn n L R I (A ++ begL L (s : Int) n) b' (i + 1) := by
  have hA : A.getD i (0, 0) ∈ A := by rw [List.getD_eq_getElem?_getD, List.getElem?_eq_getElem hi]; exact List.getElem_mem hi
  refine ⟨fun x hx => ?_, fun x hx => List.mem_append_left _ (h.all x hx), fun s' hs' k hk hl => ?_, fun j hj hl hta => ?_⟩
  · rcases List.mem_append.1 hx with hx | hx
    · exact h.mem x hx
    · unfold begL at hx
      simp only [List.mem_map, List.mem_filter, List.mem_range, beq_iff_eq] at hx
      obtain ⟨k, ⟨hk, hl⟩, rfl⟩ := hx
      exact (h.mem _ hA).step (by rw [hs]; omega) hk (by rw [hs]; exact hl)
  · rcases (hb s').1 hs' with e | e
    · subst e
      apply List.mem_append_right
      unfold begL
      simp only [List.mem_map, List.mem_filter, List.mem_range, beq_iff_eq]
      exact ⟨k, ⟨hk, hl⟩, rfl⟩
    · exact List.mem_append_left _ (h.brt s' e k hk hl)
  · have hjA : j < A.length := by omega
    have e : (A ++ begL L (s : Int) n).getD j (0, 0) = A.getD j (0, 0) := by
      rw [List.getD_eq_getElem?_getD, List.getElem?_append_left hjA, ← List.getD_eq_getElem?_getD]
    rw [e] at hta ⊢
    rw [hb]
    by_cases e2 : j = i
    · subst e2; left; rw [hs]; simp
    · right; exact h.done j (by omega) hjA hta
theorem CwP.fin {A : List It} {b : Nat → Bool} {i : Nat} (h : CwP tn n L R I A b i) (hi : A.length ≤ i) : ∀ x, x ∈ A ↔ Clo tn n L R I x := fun x => by
  refine ⟨h.mem x, fun hx => hx (· ∈ A) h.all fun y k hy ht hk hl => ?_⟩
  obtain ⟨j, hj, e⟩ := List.getElem_of_mem hy
  have hg : A.getD j (0, 0) = y := by rw [List.getD_eq_getElem?_getD, List.getElem?_eq_getElem hj, e]; rfl
  have h2 := h.done j (by omega) hj (by rw [hg]; exact ht)
  rw [hg] at h2
  exact h.brt _ h2 k hk (by rw [hl]; omega)
end
/-- What sorting and compacting makes of a worklist that is done. -/
theorem isClo_of {tn n : Nat} {L : Nat → Int} {R : Nat → List Int} {I A l : List It} (hA : ∀ x, x ∈ A ↔ Clo tn n L R I x) (hp : l.Perm A) (hs : Srt l) : IsClo tn n L R I (ddT l l.length) := by
  refine ⟨ddT_asc hs _ (Nat.le_refl _), fun x => ?_⟩
  rw [ddT_mem l _ (Nat.le_refl _), ← hA, ← hp.mem_iff]
  constructor
  · rintro ⟨i, hi, rfl⟩
    rw [List.getD_eq_getElem?_getD, List.getElem?_eq_getElem hi]; exact List.getElem_mem hi
  · intro hx
    obtain ⟨j, hj, e⟩ := List.getElem_of_mem hx
    exact ⟨j, hj, by rw [List.getD_eq_getElem?_getD, List.getElem?_eq_getElem hj, e]; rfl⟩

end Go.Proofs.YthoamlahbnphkaaGreat.J

/-
  lr0: items told alike.
-/
namespace Go.Proofs.YthoamlahbnphkaaGreat.J
open Go.RowKit Go.Maps Go.Shelf

theorem eq_item (p d p' d' : Int) (w : World) : (binOp .eql 69 (.agg #[.int .i64 p, .int .i64 d]) (.agg #[.int .i64 p', .int .i64 d'])).run Tryz.prog w = .ok (.bool (p == p' && d == d')) w := by
  have u3 := Tryz.underlying3
  have a3 := Tryz.isAgg3
  have z3 := Tryz.sizeOf3
  have hS : Tryz.prog.underlying 69 = some (.struct (Tryz.prog.fieldsOf 69)) := by kernel_rfl
  have hp : Tryz.prog.stoodInHeld 69 = false := by kernel_rfl
  rw [run_eql_struct, show (10000 : Nat) = 9999 + 1 from rfl, run_equalIn_agg w 9999 69 _ _ hS hp]
  simp only [Program.fieldsOf, Tryz.underlying69]
  go_simp
  by_cases h1 : p = p' <;> by_cases h2 : d = d' <;> simp [h1, h2]
theorem neq_item (p d p' d' : Int) (w : World) : (binOp .neq 69 (.agg #[.int .i64 p, .int .i64 d]) (.agg #[.int .i64 p', .int .i64 d'])).run Tryz.prog w = .ok (.bool (!(p == p' && d == d'))) w := by
  have u3 := Tryz.underlying3
  have a3 := Tryz.isAgg3
  have z3 := Tryz.sizeOf3
  have hS : Tryz.prog.underlying 69 = some (.struct (Tryz.prog.fieldsOf 69)) := by kernel_rfl
  have hp : Tryz.prog.stoodInHeld 69 = false := by kernel_rfl
  rw [run_neq_struct, show (10000 : Nat) = 9999 + 1 from rfl, run_equalIn_agg w 9999 69 _ _ hS hp]
  simp only [Program.fieldsOf, Tryz.underlying69]
  go_simp
  by_cases h1 : p = p' <;> by_cases h2 : d = d' <;> simp [h1, h2]
theorem guard_item : Tryz.prog.eqGuardType Tryz.prog.depth 69 = false := by kernel_rfl

end Go.Proofs.YthoamlahbnphkaaGreat.J
