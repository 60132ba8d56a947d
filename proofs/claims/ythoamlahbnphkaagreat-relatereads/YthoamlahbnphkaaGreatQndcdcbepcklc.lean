import Derived.Test.YthoamlahbnphkaaGreatQmfkmplcjbmnc
import Derived.Test.YthoamlahbnphkaaGreatQbloibadcnhog
import Derived.Test.YthoamlahbnphkaaGreatQncinbpkbhpkp
import Derived.Deep.DeepAppendWide
import Derived.Maps.Keyed
import Derived.Maps.Own
import Derived.Maps.OwnSet
import Derived.Maps.Views
import Derived.DeepKeys4

/-
  lr0: areItems.
-/
namespace Go.Proofs.YthoamlahbnphkaaGreat.J
open Go.RowKit Go.Maps Go.Shelf

attribute [local go_sem] Oper.semAt_some

theorem box_kept {X Y : World} {b : Nat} {o : Obj} (h : X.heap[b]? = some o) (hg : X.grownBy Y none) : Y.heap[b]? = some o := (hg.block b (Array.getElem?_eq_some_iff.1 h).1 (by simp)).trans h
theorem prods_kept {X Y : World} {pa : Option Addr} {n : Nat} {L : Nat → Int} {R : Nat → List Int} {ra : Nat → Option Addr} {rc : Nat → Nat} {V : Nat → Int} (h : ProdsAt X pa n L R ra rc V) (hg : X.grownBy Y none) : ProdsAt Y pa n L R ra rc V := by
  rcases h with h | ⟨b, off, e, h⟩
  · exact .inl h
  · exact .inr ⟨b, off, e, fun k hk => ⟨hg.cell (h k hk).1 (by simp), hg.cell (h k hk).2.1 (by simp), hg.cell (h k hk).2.2.1 (by simp), (h k hk).2.2.2.1.kept hg, (h k hk).2.2.2.2⟩⟩

section
variable (ta na la pa : Option Addr) (tc nc lc pc : Nat) (n : Nat) (L : Nat → Int) (R : Nat → List Int) (ra : Nat → Option Addr) (rc : Nat → Nat) (V : Nat → Int) (st : Int) (w : World) (tn nn ln : Nat)

theorem are1_any (gb : Nat) (hP : ProdsAt w pa n L R ra rc V) (x : It) (hB : w.heap[gb]? = some (.cells #[.slice ta tn tc, .slice na nn nc, .slice la ln lc, .int .i64 st, .slice pa n pc] 27 (0, 0))) :
    Calls Tryz.prog 75 #[.agg #[.int .i64 x.1, .int .i64 x.2], .pointer (some ⟨gb, 0, none⟩)] w fun e y => e = .returned (.bool (!itB n R x)) ∧ w.grownBy y none := by
  obtain ⟨b, hb⟩ : ∃ b, b = itB n R x := ⟨_, rfl⟩
  have HG0 : Hid (w.grownBy (w.alloc (.cells #[.int .i64 x.1, .int .i64 x.2] 69)) none) := World.grownBy_alloc _ _ none
  have HI : Hid (Calls Tryz.prog 76 #[.agg #[.slice ta tn tc, .slice na nn nc, .slice la ln lc, .int .i64 st, .slice pa n pc], .agg #[.int .i64 x.1, .int .i64 x.2]] (w.alloc (.cells #[.int .i64 x.1, .int .i64 x.2] 69)) fun e y => e = .returned (.bool b) ∧ (w.alloc (.cells #[.int .i64 x.1, .int .i64 x.2] 69)).grownBy y none) := by rw [hb]; exact isItem_any ta na la pa tc nc lc pc n L R ra rc V st _ tn nn ln (prods_kept hP HG0.out) x
  obtain ⟨k0, k1, k2, k3, k4⟩ := PhAt.cells (w := w) ⟨HG0.out, box_kept hB HG0.out⟩
  rw [← hb]
  clear hb hB hP
  go_enter Tryz.func75, Tryz.ntmps75
  go_wp2_with fail
  refine Calls.mono HI.out ?_
  rintro e w1 ⟨rfl, hg1⟩
  go_wp2_with fail
  go_ret
  exact ⟨rfl, grown_trans HG0.out hg1⟩

set_option maxRecDepth 100000 in
theorem indexF_any (gb : Nat) (hP : ProdsAt w pa n L R ra rc V) (a : Option Addr) (cap : Nat) (l : List It) (hl : ItsAt w a l) (hn : l.length ≤ 17592186044416) (hB : w.heap[gb]? = some (.cells #[.slice ta tn tc, .slice na nn nc, .slice la ln lc, .int .i64 st, .slice pa n pc] 27 (0, 0))) :
    Calls Tryz.prog 114 #[.slice a l.length cap, .func (.func 75) #[] #[.pointer (some ⟨gb, 0, none⟩)]] w fun e w' => (∃ q : Int, e = .returned (.int .i64 q) ∧ -1 ≤ q ∧ (0 ≤ q ↔ ∃ x ∈ l, itB n R x = false)) ∧ w.grownBy w' none := by
  have HL : Hid (ItsAt w a l) := hl
  obtain ⟨m, hln⟩ : ∃ m, m = l.length := ⟨_, rfl⟩
  have HLN : Hid (l.length = m) := hln.symm
  rw [← hln] at hn ⊢
  have HRO : Hid (∀ x X, w.grownBy X none → Calls Tryz.prog 75 #[.agg #[.int .i64 x.1, .int .i64 x.2], .pointer (some ⟨gb, 0, none⟩)] X fun e w' => e = .returned (.bool (!itB n R x)) ∧ X.grownBy w' none) := fun x X hX => are1_any ta na la pa tc nc lc pc n L R ra rc V st X tn nn ln gb (prods_kept hP hX) x (box_kept hB hX)
  clear hl hln hB hP
  go_enter Tryz.func114, Tryz.ntmps114
  go_wp2_with fail
  go_loopg [8] m (fun gk j wr => ∃ k : Nat, k ≤ m ∧ gk = m - k ∧ j = .int .i64 k ∧ w.grownBy wr none ∧ ¬ ∃ x ∈ l.take k, itB n R x = false)
  case atStart => exact ⟨0, Nat.zero_le _, rfl, rfl, grown_refl _ _, by simp⟩
  case round =>
    obtain ⟨k, hk, hgk, rfl, hg, hno⟩ := hrel
    have HGK : Hid (gk = m - k) := hgk
    have HG : Hid (w.grownBy wr none) := hg
    have HA : Hid (¬ ∃ x ∈ l.take k, itB n R x = false) := hno
    clear hno hg hgk
    by_cases hlt : k < m
    · have hkl : k < l.length := by rw [HLN.out]; exact hlt
      obtain ⟨bl, off, rfl, hc0, hc1⟩ : ∃ b off, a = some ⟨b, off, none⟩ ∧ wr.cell? ⟨b, off + k * 2, none⟩ = some (.int .i64 (l.getD k (0, 0)).1) ∧ wr.cell? ⟨b, off + k * 2 + 1, none⟩ = some (.int .i64 (l.getD k (0, 0)).2) := by
        rcases HL.out.kept HG.out with h | ⟨b, off, e, h⟩
        · rw [h] at hkl; cases hkl
        · exact ⟨b, off, e, (h k hkl).1, (h k hkl).2⟩
      obtain ⟨x, hx⟩ : ∃ x, x = l.getD k (0, 0) := ⟨_, rfl⟩
      have HMM : Hid (x ∈ l ∧ l.take (k + 1) = l.take k ++ [x]) := by
        have e : l.getD k (0, 0) = l[k] := by rw [List.getD_eq_getElem?_getD, List.getElem?_eq_getElem hkl]; rfl
        refine ⟨by rw [hx, e]; exact List.getElem_mem _, by rw [List.take_succ_eq_append_getElem hkl, hx, e]⟩
      rw [← hx] at hc0 hc1
      have hk0 : (0 : Int) ≤ (k : Int) := by omega
      have hk1 : (k : Int) < (m : Int) := by omega
      have hkd : decide (k < m) = true := decide_eq_true hlt
      have HH := show Hid _ from HRO.out x wr HG.out
      obtain ⟨b, hb⟩ : ∃ b, b = itB n R x := ⟨_, rfl⟩
      have HBE : Hid (b = itB n R x) := hb
      rw [← hb] at HH
      clear hx hb
      obtain ⟨p, d⟩ := x
      simp only at hc0 hc1 HH
      go_wp2_with fail
      refine Calls.mono HH.out ?_
      rintro e w2 ⟨rfl, hg2⟩
      have HG2 : Hid (w.grownBy w2 none) := grown_trans HG.out hg2
      clear HH hg2 hc0 hc1
      cases b with
      | false =>
        go_wp2_with fail
        go_ret
        exact ⟨⟨k, rfl, by omega, ⟨fun _ => ⟨(p, d), HMM.out.1, HBE.out.symm⟩, fun _ => by omega⟩⟩, HG2.out⟩
      | true =>
        go_wp2_with fail
        go_roundg (m - (k + 1))
        case measure => have := HGK.out; omega
        case rel => exact ⟨k + 1, by omega, rfl, by go_num, HG2.out, by
          rintro ⟨y, hy, h3⟩
          rw [HMM.out.2] at hy
          rcases List.mem_append.1 hy with hy | hy
          · exact HA.out ⟨y, hy, h3⟩
          · simp only [List.mem_singleton] at hy
            rw [hy, ← HBE.out] at h3
            cases h3⟩
    · have hkn : m = k := by omega
      subst hkn
      have hkd : decide (m < m) = false := decide_eq_false (by omega)
      have ht : l.take m = l := List.take_of_length_le (Nat.le_of_eq HLN.out)
      rw [ht] at HA
      go_wp2_with fail
      go_ret
      exact ⟨⟨-1, rfl, by omega, ⟨fun h => absurd h (by omega), fun h => absurd h HA.out⟩⟩, HG.out⟩

theorem containsF_any (gb : Nat) (hP : ProdsAt w pa n L R ra rc V) (a : Option Addr) (cap : Nat) (l : List It) (hl : ItsAt w a l) (hn : l.length ≤ 17592186044416) (hB : w.heap[gb]? = some (.cells #[.slice ta tn tc, .slice na nn nc, .slice la ln lc, .int .i64 st, .slice pa n pc] 27 (0, 0))) (r : Bool) (hr : r = true ↔ ∃ x ∈ l, itB n R x = false) :
    Calls Tryz.prog 74 #[.slice a l.length cap, .func (.func 75) #[] #[.pointer (some ⟨gb, 0, none⟩)]] w fun e w' => e = .returned (.bool r) ∧ w.grownBy w' none := by
  have hI := indexF_any ta na la pa tc nc lc pc n L R ra rc V st w tn nn ln gb hP a cap l hl hn hB
  have HR : Hid (r = true ↔ ∃ x ∈ l, itB n R x = false) := hr
  clear hl hr hB hP
  go_enter Tryz.func74, Tryz.ntmps74
  go_wp2_with fail
  refine hI.mono ?_
  rintro e w2 ⟨⟨q, rfl, h1, h2⟩, hg⟩
  have HQ : Hid (decide (0 ≤ q) = r) := by
    show decide (0 ≤ q) = r
    rw [Bool.eq_iff_iff, decide_eq_true_eq, h2, HR.out]
  clear h2 hI
  go_wp2_with fail
  go_ret
  exact ⟨by rw [← HQ.out]; rfl, hg⟩

/-- Are all of them items? -/
theorem areItems_any (hP : ProdsAt w pa n L R ra rc V) (a : Option Addr) (cap : Nat) (l : List It) (hl : ItsAt w a l) (hn : l.length ≤ 17592186044416) (r : Bool) (hr : r = true ↔ ∀ x ∈ l, itB n R x = true) :
    Calls Tryz.prog 47 #[.agg #[.slice ta tn tc, .slice na nn nc, .slice la ln lc, .int .i64 st, .slice pa n pc], .slice a l.length cap] w fun e w' => e = .returned (.bool r) ∧ w.grownBy w' none := by
  have HG0 : Hid (w.grownBy (w.alloc (.cells #[.slice ta tn tc, .slice na nn nc, .slice la ln lc, .int .i64 st, .slice pa n pc] 27)) none) := World.grownBy_alloc _ _ none
  have HC : Hid (Calls Tryz.prog 74 #[.slice a l.length cap, .func (.func 75) #[] #[.pointer (some ⟨w.heap.size, 0, none⟩)]] (w.alloc (.cells #[.slice ta tn tc, .slice na nn nc, .slice la ln lc, .int .i64 st, .slice pa n pc] 27)) fun e w' => e = .returned (.bool (!r)) ∧ (w.alloc (.cells #[.slice ta tn tc, .slice na nn nc, .slice la ln lc, .int .i64 st, .slice pa n pc] 27)).grownBy w' none) := containsF_any ta na la pa tc nc lc pc n L R ra rc V st _ tn nn ln w.heap.size (prods_kept hP HG0.out) a cap l (hl.kept HG0.out) hn (heap_alloc_last w _) (!r) (by
    cases r with
    | true =>
      refine ⟨fun h => (by cases h), fun ⟨x, h1, h2⟩ => ?_⟩
      rw [hr.1 rfl x h1] at h2; cases h2
    | false =>
      refine ⟨fun _ => ?_, fun _ => rfl⟩
      apply Classical.byContradiction
      intro h
      have h2 : ∀ x ∈ l, itB n R x = true := fun x hx => by
        cases hb : itB n R x with
        | true => rfl
        | false => exact absurd ⟨x, hx, hb⟩ h
      have := hr.2 h2
      cases this)
  obtain ⟨m, hm⟩ : ∃ m, m = l.length := ⟨_, rfl⟩
  rw [← hm] at HC
  rw [← hm]
  clear hP hl hn hr hm
  go_enter Tryz.func47, Tryz.ntmps47
  go_wp2_with fail
  refine Calls.mono HC.out ?_
  rintro e w1 ⟨rfl, hg1⟩
  have HG1 : Hid (w.grownBy w1 none) := grown_trans HG0.out hg1
  clear hg1
  cases r with
  | true =>
    go_wp2_with fail
    go_ret
    exact ⟨rfl, HG1.out⟩
  | false =>
    go_wp2_with fail
    go_ret
    exact ⟨rfl, HG1.out⟩
end

end Go.Proofs.YthoamlahbnphkaaGreat.J

/-
  lr0: rows of values; marks counted; append, wide.
-/
namespace Go.Proofs.YthoamlahbnphkaaGreat.J
open Go.RowKit Go.Maps Go.Shelf

/-- A row of values, whole in block k. -/
def ValAt (w : World) (k len : Nat) (t : TypeId) (c : Nat → Value) : Prop := w.heap[k]? = some (.cells ((List.range len).map c).toArray t (0, 0))
section
variable {w w' : World} {k len : Nat} {t : TypeId} {c : Nat → Value}
theorem ValAt.cell (h : ValAt w k len t c) (i : Nat) (hi : i < len) : w.cell? ⟨k, i, none⟩ = some (c i) := by
  rw [cell_of_row _ _ _ _ _ _ h]; simp [hi]
theorem ValAt.free (h : ValAt w k len t c) (i : Nat) : w.frozen? ⟨k, i, none⟩ = false := frozen_of_row _ _ _ _ _ h
theorem ValAt.lt (h : ValAt w k len t c) : k < w.heap.size := (Array.getElem?_eq_some_iff.1 h).1
theorem ValAt.kept (h : ValAt w k len t c) (hg : w.grownBy w' none) : ValAt w' k len t c := (hg.block k h.lt (by simp)).trans h
theorem ValAt.at {b : Nat} (h : ValAt w k len t c) (hg : w.grownBy w' (some b)) (hne : k ≠ b) : ValAt w' k len t c := (hg.block k h.lt (by simpa using hne)).trans h
/-- The cells with one turned. -/
def put (c : Nat → Value) (x : Nat) (v : Value) : Nat → Value := fun i => if i = x then v else c i
theorem ValAt.set (h : ValAt w k len t c) (x : Nat) (v : Value) : ValAt (w.setCell ⟨k, x, none⟩ v) k len t (put c x v) := by
  unfold ValAt
  rw [heap_setCell_same _ _ _ _ _ _ h]
  congr 2
  apply Array.ext'
  apply List.ext_getElem?
  intro i
  simp only [Array.toList_setIfInBounds, List.getElem?_set, List.getElem?_map]
  by_cases hi : i < len
  · by_cases e : x = i
    · subst e; simp [hi, put]
    · have e2 : ¬ i = x := fun h => e h.symm
      simp [e, e2, hi, put]
  · by_cases e : x = i
    · subst e; simp [hi]
    · simp [e, hi]
end
theorem made_rowK {w1 : World} {B g n : Nat} {t : TypeId} {z : Value} (hz : z.cells = #[z]) (h : w1.ownsRow B t 1 (.slice (some ⟨g, 0, none⟩) n n) n (madeCells z.cells (n * 1)).toList) : ValAt w1 g n t (fun _ => z) := by
  rcases h.2 with ⟨h', _⟩ | ⟨g', cap, cur, hv, _, hh, _, _, hs, ht⟩
  · cases h'
  · simp only [Value.slice.injEq, Option.some.injEq, Addr.mk.injEq, and_true, true_and] at hv
    obtain ⟨rfl, rfl⟩ := hv
    have e : cur = ((List.range n).map fun _ => z).toArray := by
      apply Array.ext'
      rw [show cur.toList = cur.toList.take (n * 1) by rw [List.take_of_length_le (by simp; omega)], ht]
      rw [hz, toList_madeCells_one, Nat.mul_one]
      rw [List.map_const', List.length_range]
    unfold ValAt
    rw [hh, e]
theorem ValAt.ext {w : World} {k len : Nat} {t : TypeId} {c d : Nat → Value} (h : ValAt w k len t c) (e : ∀ i, i < len → c i = d i) : ValAt w k len t d := by
  unfold ValAt at *
  rw [h, List.map_congr_left fun i hi => e i (by simpa using hi)]

set_option maxRecDepth 100000 in
set_option maxHeartbeats 1000000 in

/-- One mark more. -/
def markT (f : Nat → Bool) (x : Nat) : Nat → Bool := fun i => if i = x then true else f i
/-- How many of the first n are not marked. -/
def unm : Nat → (Nat → Bool) → Nat
  | 0, _ => 0
  | n + 1, f => unm n f + (if f n then 0 else 1)
theorem unm_out (f : Nat → Bool) (x : Nat) : ∀ n, n ≤ x → unm n (markT f x) = unm n f
  | 0, _ => rfl
  | n + 1, h => by
    have e : markT f x n = f n := by unfold markT; rw [if_neg (by omega)]
    simp only [unm, unm_out f x n (by omega), e]
theorem unm_mark (f : Nat → Bool) (x : Nat) (hf : f x = false) : ∀ n, x < n → unm n (markT f x) + 1 = unm n f
  | 0, h => by omega
  | n + 1, h => by
    by_cases e : x = n
    · subst e
      have e1 : markT f x x = true := by simp [markT]
      simp [unm, unm_out f x x (Nat.le_refl _), e1, hf]
    · have e1 : markT f x n = f n := by unfold markT; rw [if_neg (fun h => e h.symm)]
      have ih := unm_mark f x hf n (by omega)
      simp only [unm, e1]
      omega


theorem unm_le : ∀ (n : Nat) (f : Nat → Bool), unm n f ≤ n
  | 0, _ => Nat.le_refl _
  | n + 1, f => by
    have := unm_le n f
    unfold unm
    split <;> omega

theorem wpList_append_srcW {w : World} {ops : Array Oper} {rest : List Oper} {o : Oper} {a : Act} {Q : Exit → Act → World → Prop} (hgd : o.guard = none) (s x : Operand) (t : TypeId)
    (ho : o.op = .call { callee := .builtin .append, args := #[s, x], argTypes := #[t, t] })
    (base : Nat) (e : TypeId) (i : TypeInfo) (z : Value) (size bytes : Nat) (ht : Tryz.prog.underlying t = some (.slice e)) (hi : Tryz.prog.info? e = some i) (hz : i.zero = some z)
    (hsize : i.size = size) (hby : i.bytes = bytes) (hzs : z.cells.size = size) (hsz : 0 < size)
    (v : Value) (n : Nat) (xs : List Value) (hs : a.eval s = v) (hown : w.ownsRow base e size v n xs)
    (xo : Option Addr) (m c : Nat) (news : List Value) (hx : a.eval x = .slice xo m c) (hnil : xo = none → m = 0 ∧ c = 0) (hl : news.length = m * size) (hnews : ∀ ad, xo = some ad → ∀ j u, news[j]? = some u → w.cell? (ad.add j) = some u) (h1 : ∀ u ∈ news, u.oneCell' = true)
    (h63 : n + m ≤ maxLen) (hbytes : ((n + m) + (n + m) / 4 + 192) * bytes ≤ 281474976710656) (hbase : base ≤ w.heap.size)
    (h : ∀ v' w', w'.ownsRow base e size v' (n + m) (xs ++ news) → w.grownBy w' v.ownBlock → wpList Tryz.prog ops Q rest (a.put o.dst v') w') : wpList Tryz.prog ops Q (o :: rest) a w := by
  refine wpList_plain hgd fun K hK => ?_
  cases xo with
  | some ad => exact wp_append_own_wide w s x t ho base e i z size bytes ht hi hz hsize hby hzs hsz v n xs hs hown ad m c news hx hl (hnews ad rfl) h1 h63 hbytes hbase fun v' w' h2 h3 _ => hK _ _ (h v' w' h2 h3)
  | none =>
    obtain ⟨rfl, rfl⟩ := hnil rfl
    have hn0 : news = [] := List.eq_nil_of_length_eq_zero (by simpa using hl)
    subst hn0
    have hrun := run_append_owned_none (P := Tryz.prog) (w := w) base t o.type e i size ht hi v n xs hown
    have hk := hK _ _ (h v w (by simpa using hown) ⟨rfl, rfl, rfl, Nat.le_refl _, fun _ _ _ => rfl⟩)
    unfold Oper.wp
    simp [execOp, ho, resolve, invoke, builtin, hs, hx, hrun, Result.andThen]
    exact hk


theorem its_cells {w : World} {a : Option Addr} {l : List It} (h : ItsAt w a l) : ∀ x, a = some x → ∀ j u, (itsV l)[j]? = some u → w.cell? (x.add j) = some u := by
  intro x hx j u hu
  rcases h with h | ⟨b, off, e, hc⟩
  · rw [h] at hu; simp [itsV] at hu
  · rw [hx] at e
    simp only [Option.some.injEq] at e
    subst e
    rw [Addr.add_mid]
    have hj : j < l.length * 2 := by have := (List.getElem?_eq_some_iff.1 hu).1; rwa [itsV_length] at this
    have h1 := hc (j / 2) (by omega)
    have h2 := itsV_at l (j / 2) (by omega)
    have hm : j % 2 = 0 ∨ j % 2 = 1 := by omega
    rcases hm with hm | hm
    · have e : j = j / 2 * 2 := by omega
      rw [← e] at h1 h2
      rw [h1.1, ← hu, h2.1]
    · have e : j = j / 2 * 2 + 1 := by omega
      rw [Nat.add_assoc, ← e] at h1
      rw [← e] at h2
      rw [h1.2, ← hu, h2.2]

set_option maxRecDepth 100000 in
theorem compact_any (w : World) (B : Nat) (a : Option Addr) (c : Nat) (l : List It) (hown : w.ownsRow B 69 2 (.slice a l.length c) l.length (itsV l)) (hb : l.length ≤ 1099511627776000) :
    Calls Tryz.prog 82 #[.slice a l.length c] w fun e y => CompTold B a c l w e y := by
  by_cases h2 : 2 ≤ l.length
  · rcases hown.2 with ⟨hv, h0⟩ | ⟨g, cap, cur, hv, hB, hh, hn, hm, hs, ht⟩
    · omega
    · simp only [Value.slice.injEq] at hv
      obtain ⟨rfl, _, rfl⟩ := hv
      refine compact_big w B g c l.length l rfl hn hm hB h2 hb ⟨⟨rfl, rfl, rfl, Nat.le_refl _, fun _ _ _ => rfl⟩, cur, hh, hs, fun i hi => absurd hi (Nat.not_lt_zero _), fun i _ hi => ?_⟩
      obtain ⟨h3, h4⟩ := itsV_at l i hi
      rw [← ht, List.getElem?_take, if_pos (by omega)] at h3 h4
      exact ⟨by simpa using h3, by simpa using h4⟩
  · have HD : Hid (ddT l l.length = l) := by
      show _ = _
      match l, h2 with
      | [], _ => rfl
      | [x], _ => rfl
      | x :: y :: r, h => exact absurd (by simp) h
    obtain ⟨m, hm⟩ : ∃ m, m = l.length := ⟨_, rfl⟩
    have HM : Hid (m = l.length) := hm
    have HO : Hid (w.ownsRow B 69 2 (.slice a l.length c) l.length (itsV l)) := hown
    rw [← hm] at h2
    rw [← hm]
    have hd : decide (m < 2) = true := decide_eq_true (by omega)
    have hd2 : decide ((m : Int) < 2) = true := decide_eq_true (by omega)
    clear hm hown hb
    go_enter Tryz.func82, Tryz.ntmps82
    go_wp2_with fail
    go_ret
    exact ⟨m, by rw [HD.out]; exact HM.out, rfl, by rw [HD.out, HM.out]; exact HO.out, ⟨rfl, rfl, rfl, Nat.le_refl _, fun _ _ _ => rfl⟩⟩

end Go.Proofs.YthoamlahbnphkaaGreat.J

/-
  lr0: the document's SameItems; items laid in order, pure.
-/
namespace Go.Proofs.YthoamlahbnphkaaGreat.J
open Go.RowKit Go.Maps Go.Shelf

attribute [local go_sem] Oper.semAt_some

theorem ItsAt.at {X : World} {a : Option Addr} {l : List It} (h : ItsAt X a l) {i : Nat} (hi : i < l.length) : ∃ b off, a = some ⟨b, off, none⟩ ∧ X.cell? ⟨b, off + i * 2, none⟩ = some (.int .i64 (l.getD i (0, 0)).1) ∧ X.cell? ⟨b, off + i * 2 + 1, none⟩ = some (.int .i64 (l.getD i (0, 0)).2) := by
  rcases h with h | ⟨b, off, e, h⟩
  · rw [h] at hi; cases hi
  · exact ⟨b, off, e, h i hi⟩

set_option maxRecDepth 100000 in
theorem sameItems_any (a1 a2 : Option Addr) (c1 c2 : Nat) (l m : List It) (w : World) (h1 : ItsAt w a1 l) (h2 : ItsAt w a2 m) (hb : l.length ≤ 1099511627776000) (hb2 : m.length ≤ 1099511627776000) (r : Bool) (hr : r = true ↔ l = m) :
    Calls Tryz.prog 119 #[.slice a1 l.length c1, .slice a2 m.length c2] w fun e y => e = .returned (.bool r) ∧ w.grownBy y none := by
  obtain ⟨n1, hn1⟩ : ∃ n, n = l.length := ⟨_, rfl⟩
  obtain ⟨n2, hn2⟩ : ∃ n, n = m.length := ⟨_, rfl⟩
  have HR : Hid (r = true ↔ l = m) := hr
  have HN : Hid (n1 = l.length ∧ n2 = m.length) := ⟨hn1, hn2⟩
  have HI : Hid (∀ X, w.grownBy X none → ItsAt X a1 l ∧ ItsAt X a2 m) := fun X hX => ⟨h1.kept hX, h2.kept hX⟩
  rw [← hn1] at hb
  rw [← hn2] at hb2
  rw [← hn1, ← hn2]
  have hgu := guard_item
  clear hr hn1 hn2 h1 h2
  by_cases hne : n1 = n2
  · subst hne
    have hd : ((n1 : Int) != (n1 : Int)) = false := bne_self_eq_false _
    go_enter Tryz.func119, Tryz.ntmps119
    go_wp2_with fail
    go_loopg [5] n1 (fun gk v5 wr => ∃ j : Nat, j ≤ n1 ∧ gk = n1 - j ∧ v5 = .int .i64 j ∧ w.grownBy wr none ∧ ∀ i, i < j → l.getD i (0, 0) = m.getD i (0, 0))
    case atStart => exact ⟨0, Nat.zero_le _, rfl, rfl, grown_refl _ _, fun i hi => absurd hi (Nat.not_lt_zero _)⟩
    case round =>
      obtain ⟨j, hj, hgj, rfl, hg, hs⟩ := hrel
      have HGJ : Hid (gk = n1 - j) := hgj
      have HG : Hid (w.grownBy wr none) := hg
      have HS : Hid (∀ i, i < j → l.getD i (0, 0) = m.getD i (0, 0)) := hs
      clear hgj hg hs
      by_cases hlt : j < n1
      · have hj0 : (0 : Int) ≤ (j : Int) := by omega
        have hj1 : (j : Int) < (n1 : Int) := by omega
        have hjd : decide (j < n1) = true := decide_eq_true hlt
        obtain ⟨b1, o1, rfl, c0, c1'⟩ := (HI.out wr HG.out).1.at (i := j) (by rw [← HN.out.1]; exact hlt)
        obtain ⟨b2, o2, rfl, d0, d1⟩ := (HI.out wr HG.out).2.at (i := j) (by rw [← HN.out.2]; exact hlt)
        obtain ⟨x, hx⟩ : ∃ x, x = l.getD j (0, 0) := ⟨_, rfl⟩
        obtain ⟨y, hy⟩ : ∃ y, y = m.getD j (0, 0) := ⟨_, rfl⟩
        have HXY : Hid (x = l.getD j (0, 0) ∧ y = m.getD j (0, 0)) := ⟨hx, hy⟩
        rw [← hx] at c0 c1'
        rw [← hy] at d0 d1
        clear hx hy
        obtain ⟨xp, xd⟩ := x
        obtain ⟨yp, yd⟩ := y
        simp only at c0 c1' d0 d1
        obtain ⟨bb, hbb⟩ : ∃ b, b = (xp == yp && xd == yd) := ⟨_, rfl⟩
        have HBB : Hid (bb = true ↔ l.getD j (0, 0) = m.getD j (0, 0)) := by
          rw [← HXY.out.1, ← HXY.out.2, hbb, Bool.and_eq_true, beq_iff_eq, beq_iff_eq]
          exact ⟨fun h => Prod.ext h.1 h.2, fun h => ⟨congrArg Prod.fst h, congrArg Prod.snd h⟩⟩
        have hE : ∀ X : World, (binOp .neq 69 (.agg #[.int .i64 xp, .int .i64 xd]) (.agg #[.int .i64 yp, .int .i64 yd])).run Tryz.prog X = .ok (.bool (!bb)) X := fun X => by rw [hbb]; exact neq_item xp xd yp yd X
        clear hbb
        cases bb with
        | true =>
          have HEQ : Hid (l.getD j (0, 0) = m.getD j (0, 0)) := HBB.out.1 rfl
          clear HBB
          go_wp2_with fail
          go_quiet (fail)
          go_wp2_with fail
          go_roundg (n1 - (j + 1))
          case measure => have := HGJ.out; omega
          case rel => exact ⟨j + 1, by omega, rfl, by go_num, grown_trans HG.out (grown_drewN _ _), fun i hi => by
            by_cases e : i = j
            · rw [e]; exact HEQ.out
            · exact HS.out i (by omega)⟩
        | false =>
          have HRF : Hid (r = false) := by
            show _ = _
            cases hrr : r with
            | false => rfl
            | true =>
              have := HR.out.1 hrr
              rw [this] at HBB
              exact absurd (HBB.out.2 rfl) (by decide)
          go_wp2_with fail
          go_quiet (fail)
          go_wp2_with fail
          go_ret
          exact ⟨by rw [HRF.out]; rfl, grown_trans HG.out (grown_drewN _ _)⟩
      · have hjn : n1 = j := by omega
        subst hjn
        have hjd : decide (n1 < n1) = false := decide_eq_false (by omega)
        have HRT : Hid (r = true) := HR.out.2 (by
          apply List.ext_getElem (by rw [← HN.out.1, ← HN.out.2])
          intro i q1 q2
          have h3 := HS.out i (by rw [HN.out.1]; exact q1)
          rwa [List.getD_eq_getElem?_getD, List.getD_eq_getElem?_getD, List.getElem?_eq_getElem q1, List.getElem?_eq_getElem q2] at h3)
        go_wp2_with fail
        go_ret
        exact ⟨by rw [HRT.out]; rfl, HG.out⟩
  · have hd : ((n1 : Int) != (n2 : Int)) = true := bne_iff_ne.2 (by omega)
    have HRF : Hid (r = false) := by
      show _ = _
      cases hrr : r with
      | false => rfl
      | true =>
        have h3 := HR.out.1 hrr
        exact absurd (by rw [HN.out.1, HN.out.2, h3]) hne
    go_enter Tryz.func119, Tryz.ntmps119
    go_wp2_with fail
    go_ret
    exact ⟨by rw [HRF.out]; rfl, grown_refl _ _⟩

/-- Where x belongs in a list in order. -/
structure Spot (x : It) (l : List It) (k : Nat) : Prop where
  le : k ≤ l.length
  lt : ∀ j, j < k → ltI (l.getD j (0, 0)) x
  ge : k < l.length → ¬ ltI (l.getD k (0, 0)) x
/-- x laid into a list in order. -/
theorem spot_in {x : It} {l : List It} {k : Nat} (hk : k < l.length) (e : l.getD k (0, 0) = x) : x ∈ l := by
  rw [← e, List.getD_eq_getElem?_getD, List.getElem?_eq_getElem hk]; exact List.getElem_mem hk
theorem spot_new {x : It} {l : List It} {k : Nat} (h : Spot x l k) (hl : Asc l) (hn : ¬ (k < l.length ∧ l.getD k (0, 0) = x)) : Asc (l.take k ++ [x] ++ l.drop k) ∧ ∀ y, y ∈ l.take k ++ [x] ++ l.drop k ↔ y = x ∨ y ∈ l := by
  have hsplit : l.take k ++ l.drop k = l := List.take_append_drop k l
  have ha : Asc (l.take k ++ l.drop k) := by rw [hsplit]; exact hl
  obtain ⟨p1, p2, p3⟩ := List.pairwise_append.1 ha
  have q1 : ∀ y ∈ l.take k, ltI y x := fun y hy => by
    obtain ⟨j, hj, e⟩ := List.getElem_of_mem hy
    rw [List.length_take] at hj
    have h3 := h.lt j (by omega)
    rw [List.getD_eq_getElem?_getD, List.getElem?_eq_getElem (by omega)] at h3
    rw [List.getElem_take] at e
    rw [← e]; exact h3
  have q2 : ∀ y ∈ l.drop k, ltI x y := fun y hy => by
    have hk : k < l.length := by
      apply Classical.byContradiction
      intro hk
      rw [List.drop_eq_nil_of_le (by omega)] at hy
      cases hy
    have h4 : ltI x (l.getD k (0, 0)) := by
      rcases ltI_total x (l.getD k (0, 0)) with h5 | h5 | h5
      · exact h5
      · exact absurd ⟨hk, h5.symm⟩ hn
      · exact absurd h5 (h.ge hk)
    rw [List.drop_eq_getElem_cons hk] at hy p2
    have e : l.getD k (0, 0) = l[k] := by rw [List.getD_eq_getElem?_getD, List.getElem?_eq_getElem hk]; rfl
    rw [e] at h4
    rcases List.mem_cons.1 hy with e2 | e2
    · rw [e2]; exact h4
    · exact ltI_trans h4 ((List.pairwise_cons.1 p2).1 y e2)
  refine ⟨?_, fun y => ?_⟩
  · unfold Asc
    rw [List.append_assoc]
    refine List.pairwise_append.2 ⟨p1, ?_, fun a h1 b h2 => ?_⟩
    · exact List.pairwise_cons.2 ⟨q2, p2⟩
    · rcases List.mem_append.1 h2 with h2 | h2
      · rw [List.mem_singleton.1 h2]; exact q1 a h1
      · exact ltI_trans (q1 a h1) (q2 b h2)
  · rw [List.mem_append, List.mem_append, List.mem_singleton]
    have e : y ∈ l ↔ y ∈ l.take k ∨ y ∈ l.drop k := by
      conv => lhs; rw [← hsplit]
      exact List.mem_append
    rw [e]
    constructor
    · rintro ((h1 | h1) | h1)
      · exact .inr (.inl h1)
      · exact .inl h1
      · exact .inr (.inr h1)
    · rintro (h1 | h1 | h1)
      · exact .inl (.inr h1)
      · exact .inl (.inl h1)
      · exact .inr h1

end Go.Proofs.YthoamlahbnphkaaGreat.J

/-
  lr0: a map whose keys are items.
-/
namespace Go.Proofs.YthoamlahbnphkaaGreat.J
open Go.RowKit Go.Maps Go.Shelf

/-- An item as a value. -/
def aggI (x : It) : Value := .agg #[.int .i64 x.1, .int .i64 x.2]
theorem laidO : laidOutB Tryz.prog = true := by kernel_rfl
theorem rowItem : (69 : TypeId) < Tryz.prog.types.size := of_decide_eq_true (by kernel_rfl)
theorem wideItem : (match Tryz.prog.underlying 69 with | some (.array _ _) | some (.struct _) => true | _ => false) = true := by rw [Tryz.underlying69]
set_option maxRecDepth 100000 in
theorem lawItem : Keyed Tryz.prog 69 := Keyed.of_law (deep_law_laid laidO (m := 2) (by omega) rowItem (by kernel_rfl) wideItem)

theorem keyTItem : Tryz.prog.keyType 69 = true := by kernel_rfl
theorem cellsItem : Tryz.prog.cellsOf 69 = 2 := by kernel_rfl
theorem cellsInt : Tryz.prog.cellsOf 3 = 1 := by kernel_rfl
theorem size_of {n k : Nat} (h : k < n) : ∃ m, n = m + 1 := ⟨n - 1, by omega⟩
theorem sizeT : ∃ m, Tryz.prog.types.size = m + 1 := size_of rowItem
/-- Numbers that an int can be. -/
def I64 (x : It) : Prop := (Lit.int .i64 x.1).wf = true ∧ (Lit.int .i64 x.2).wf = true
theorem keyItem {x : It} (h : I64 x) : ∃ kl, keyOf Tryz.prog 69 (aggI x) = some kl := by
  obtain ⟨m, hm⟩ := sizeT
  refine ⟨.string (keyBytes [.int .i64 x.1, .int .i64 x.2]), ?_⟩
  unfold keyOf aggI
  simp only [Tryz.underlying69]
  rw [if_pos (by simp [keyTItem, Value.formed, Tryz.underlying69, cellsItem]), hm]
  unfold Program.keyLits
  simp only [Tryz.underlying69, Value.cells]
  rw [if_pos (by rw [cellsItem]; exact ⟨rfl, by kernel_rfl⟩)]
  simp [List.mapM_cons, List.mapM_nil, cellsInt, Program.keyLits, Tryz.underlying3, h.1, h.2]

def heldR (v : Value) : Option (DataW Value × List MemPlace) := some (.held v, [])
theorem aggI_inj {x y : It} (h : aggI x = aggI y) : x = y := by
  unfold aggI at h
  simp at h
  exact Prod.ext h.1 h.2

/-- A map in block b: what stands at each item. -/
def MpAt (w : World) (b n : Nat) (F : It → Value) : Prop := ∃ D : DataW Value, w.ownsMap Tryz.prog 69 heldR b n D ∧ ∀ x kl, keyOf Tryz.prog 69 (aggI x) = some kl → D.atKey kl (.held (.slice none 0 0)) = .held (F x)

theorem MpAt.made (w : World) : MpAt (w.alloc (.map #[] 0)) w.heap.size 0 (fun _ => .slice none 0 0) := ⟨_, World.ownsMap_made w _ _ _, fun x kl _ => by simp [DataW.atKey]⟩
theorem MpAt.kept {w w' : World} {row : Option Nat} {b n : Nat} {F : It → Value} (h : MpAt w b n F) (hg : w.grownBy w' row) (hne : some b ≠ row) : MpAt w' b n F := by
  obtain ⟨D, h1, h2⟩ := h
  exact ⟨D, h1.kept hg hne, h2⟩
theorem MpAt.set {w : World} {b n : Nat} {F : It → Value} (h : MpAt w b n F) {a : Addr} (ha : b ≠ a.block) (u : Value) : MpAt (w.setCell a u) b n F := by
  obtain ⟨D, h1, h2⟩ := h
  exact ⟨D, h1.setCell ha u, h2⟩
theorem MpAt.look {w : World} {b n : Nat} {F : It → Value} (h : MpAt w b n F) {x : It} (hx : I64 x) : (Instr.lookup 132 (.map (some b)) (aggI x) false).run Tryz.prog w = .ok (F x) w := by
  obtain ⟨D, h1, h2⟩ := h
  obtain ⟨kl, hk⟩ := keyItem hx
  obtain ⟨v, ps, hrun, hv⟩ := h1.lookup lawItem Tryz.underlying132 (z := .slice none 0 0) (by kernel_rfl) (zd := .held (.slice none 0 0)) (zp := []) rfl hk
  rw [h2 x kl hk] at hv
  simp only [heldR, Option.some.injEq, Prod.mk.injEq, DataW.held.injEq] at hv
  rw [hrun, hv.1]
/-- F with v at x. -/
noncomputable def putI (F : It → Value) (x : It) (v : Value) : It → Value := fun y => if y = x then v else F y
theorem MpAt.update {w : World} {b n : Nat} {F : It → Value} (h : MpAt w b n F) (hn : n < maxLen) {x : It} (hx : I64 x) (v : Value) : ∃ w', (Instr.mapUpdate 132 (.map (some b)) (aggI x) v).run Tryz.prog w = .ok () w' ∧ MpAt w' b (n + 1) (putI F x v) ∧ w.grownBy w' (some b) := by
  obtain ⟨D, h1, h2⟩ := h
  obtain ⟨kl, hk⟩ := keyItem hx
  obtain ⟨w', hrun, h3, h4⟩ := h1.update lawItem Tryz.underlying132 hn hk (val := v) (d := .held v) (ps := []) rfl
  refine ⟨w', hrun, ⟨_, h3, fun y ky hy => ?_⟩, h4⟩
  unfold putI
  by_cases e : y = x
  · subst e
    rw [hk] at hy
    cases hy
    rw [if_pos rfl, atKey_put_same h1.isMap (lawItem.key hk)]
  · rw [if_neg e, atKey_put_other (fun e2 => e (aggI_inj (lawItem.inj hy (by rw [e2]; exact hk)))), h2 y ky hy]

end Go.Proofs.YthoamlahbnphkaaGreat.J
