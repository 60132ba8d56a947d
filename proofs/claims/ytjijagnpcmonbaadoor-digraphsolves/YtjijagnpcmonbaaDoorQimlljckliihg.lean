import Derived.Test.YtjijagnpcmonbaaDoorQboobcegjoggh
import Derived.Test.YtjijagnpcmonbaaDoorQpjemmihcbhnb
import Derived.Test.YtjijagnpcmonbaaDoorQdogogoehhlbo
import Derived.Test.YtjijagnpcmonbaaDoorQclllccldmchf
import Derived.Deep.RegionLaw
import Derived.Deep.DrawnRows

/-
  digraph: Solve of what is no relation, or has numbers out of range: the program's and the document's.
-/
namespace Go.Proofs.YtjijagnpcmonbaaDoor.J
open Go.RowKit Go.Maps Go.Shelf D

attribute [local go_sem] Oper.semAt_some

/-- What Solve lets go. -/
def SolBad (N M : Nat) (Qe own : Nat → List Int) : Prop := (¬ ∀ i, i < N → ∀ x ∈ Qe i, 0 ≤ x ∧ x < (N : Int)) ∨ M ≠ N ∨ ¬ ∀ i, i < M → ∀ v ∈ own i, 0 ≤ v ∧ v < 1024

set_option maxRecDepth 100000 in
set_option maxHeartbeats 2000000 in
theorem sol_bad (w : World) (N M : Nat) (ea oa : Option Addr) (ec oc : Nat) (Qe own : Nat → List Int) (eua oua : Nat → Option Addr) (euc ouc : Nat → Nat) (hL : LsAt w ea N Qe eua euc) (hO : LsAt w oa M own oua ouc) (hN : N ≤ 1048576) (hM : M ≤ 1048576) (hQ : ∀ i, i < N → (Qe i).length ≤ 17592186044416) (hol : ∀ i, i < M → (own i).length ≤ 17592186044416) (hb : SolBad N M Qe own) :
    Calls Tryd.prog 10 #[.slice ea N ec, .slice oa M oc] w fun e y => e = .returned (.tuple #[.slice none 0 0, .int .i64 1]) ∧ w.grownBy y none := by
  have HB1 : Hid (∀ X r, w.grownBy X none → (r = true ↔ ∀ i, i < N → ∀ x ∈ Qe i, 0 ≤ x ∧ x < (N : Int)) → Calls Tryd.prog 14 #[.int .i64 (N : Int), .slice ea N ec] X fun e y => e = .returned (.bool r) ∧ y = X) := fun X r hX hr => below_any (N : Int) ea N ec Qe eua euc X (hL.kept hX) (by omega) hQ r hr
  have HB2 : Hid (∀ X r, w.grownBy X none → (r = true ↔ ∀ i, i < M → ∀ x ∈ own i, 0 ≤ x ∧ x < (1024 : Int)) → Calls Tryd.prog 14 #[.int .i64 1024, .slice oa M oc] X fun e y => e = .returned (.bool r) ∧ y = X) := fun X r hX hr => below_any 1024 oa M oc own oua ouc X (hO.kept hX) (by omega) hol r hr
  have HBB := hidW hb
  clear hL hO hQ hol hb
  obtain ⟨Y1, hY1⟩ : ∃ Y, Y = (w.alloc (.cells #[.slice ea N ec] 22)).alloc (.cells #[.slice oa M oc] 22) := ⟨_, rfl⟩
  have hg1 : w.grownBy Y1 none := by rw [hY1]; exact grown_trans (World.grownBy_alloc _ _ none) (World.grownBy_alloc _ _ none)
  have HY1 := hidW hY1
  have HG1 := hidW hg1
  have z0 : Y1.cell? ⟨w.heap.size, 0, none⟩ = some (.slice ea N ec) := by
    rw [hY1, cell_of_row _ _ _ _ _ _ (box_kept (heap_alloc_last w _) (World.grownBy_alloc _ _ none))]; rfl
  have z1 : Y1.cell? ⟨w.heap.size + 1, 0, none⟩ = some (.slice oa M oc) := by
    have h1 := heap_alloc_last (w.alloc (.cells #[.slice ea N ec] 22)) (.cells #[.slice oa M oc] 22)
    rw [hY1, cell_of_row _ _ _ _ _ _ (by simpa using h1)]; rfl
  by_cases hE : ∀ i, i < N → ∀ x ∈ Qe i, 0 ≤ x ∧ x < (N : Int)
  · have HC1 := show Hid _ from HB1.out Y1 true hg1 ⟨fun _ => hE, fun _ => rfl⟩
    by_cases hMN : M = N
    · subst hMN
      have hMM : ((M : Int) != (M : Int)) = false := bne_self_eq_false _
      have hbd : ¬ ∀ i, i < M → ∀ v ∈ own i, 0 ≤ v ∧ v < 1024 := by
        rcases HBB.out with h | h | h
        · exact absurd hE h
        · exact absurd rfl h
        · exact h
      have HC2 := show Hid _ from HB2.out Y1 false hg1 (by simpa using hbd)
      rw [hY1] at z0 z1
      clear hE hbd hY1 hg1 HB1 HB2 HBB
      go_enter Tryd.func10, Tryd.ntmps10
      go_wp2_with fail
      rw [← HY1.out]
      refine Calls.mono HC1.out ?_
      rintro e y ⟨rfl, hy⟩
      subst hy
      rw [← HY1.out] at z0 z1
      go_wp2_with fail
      refine Calls.mono HC2.out ?_
      rintro e y2 ⟨rfl, hy2⟩
      subst hy2
      go_wp2_with fail
      go_ret2
      exact ⟨rfl, HG1.out⟩
    · have hMM : ((M : Int) != (N : Int)) = true := by rw [bne_iff_ne]; omega
      have hMM2 : (M != N) = true := by rw [bne_iff_ne]; exact hMN
      rw [hY1] at z0 z1
      clear hE hY1 hg1 HB1 HB2 HBB hMN
      go_enter Tryd.func10, Tryd.ntmps10
      go_wp2_with fail
      rw [← HY1.out]
      refine Calls.mono HC1.out ?_
      rintro e y ⟨rfl, hy⟩
      subst hy
      rw [← HY1.out] at z0 z1
      go_wp2_with fail
      go_ret2
      exact ⟨rfl, HG1.out⟩
  · have HC1 := show Hid _ from HB1.out Y1 false hg1 (by simpa using hE)
    rw [hY1] at z0 z1
    clear hE hY1 hg1 HB1 HB2 HBB
    go_enter Tryd.func10, Tryd.ntmps10
    go_wp2_with fail
    rw [← HY1.out]
    refine Calls.mono HC1.out ?_
    rintro e y ⟨rfl, hy⟩
    subst hy
    rw [← HY1.out] at z0 z1
    go_wp2_with fail
    go_ret2
    exact ⟨rfl, HG1.out⟩

set_option maxRecDepth 100000 in
set_option maxHeartbeats 2000000 in
theorem rsolve_bad (w : World) (N M : Nat) (ea oa : Option Addr) (ec oc : Nat) (Qe own : Nat → List Int) (eua oua : Nat → Option Addr) (euc ouc : Nat → Nat) (hL : LwAt w ea N Qe eua euc) (hO : LwAt w oa M own oua ouc) (hN : N ≤ 1048576) (hM : M ≤ 1048576) (hQ : ∀ i, i < N → (Qe i).length ≤ 17592186044416) (hol : ∀ i, i < M → (own i).length ≤ 17592186044416) (hb : SolBad N M Qe own) :
    Calls Tryd.prog 11 #[.slice ea N ec, .slice oa M oc] w fun e y => e = .returned (.tuple #[.slice none 0 0, .int .i64 1]) ∧ y = w := by
  have HBB := hidW hb
  have HOX := hidW hO
  have HOL := hidW hol
  by_cases hE : ∀ i, i < N → ∀ x ∈ Qe i, 0 ≤ x ∧ x < (N : Int)
  · have HRI := show Hid _ from rright_any ea N ec Qe eua euc w hL (by omega) hQ true ⟨fun _ => hE, fun _ => rfl⟩
    by_cases hMN : M = N
    · subst hMN
      have hMM : ((M : Int) != (M : Int)) = false := bne_self_eq_false _
      have HBD : Hid (¬ ∀ i, i < M → ∀ v ∈ own i, 0 ≤ v ∧ v < 1024) := by
        rcases HBB.out with h | h | h
        · exact absurd hE h
        · exact absurd rfl h
        · exact h
      clear hE hL hO hQ hol hb HBB
      go_enter Tryd.func11, Tryd.ntmps11
      go_wp2_with fail
      refine Calls.mono HRI.out ?_
      rintro e w0 ⟨rfl, hw0⟩
      have hw0' := hw0.symm
      subst hw0'
      clear HRI hw0
      go_wp2_with fail
      go_loopg [6] M (fun gk v6 wr => ∃ i : Nat, i ≤ M ∧ gk = M - i ∧ v6 = .int .i64 i ∧ wr = w ∧ ∀ j, j < i → ∀ v ∈ own j, 0 ≤ v ∧ v < 1024)
      case atStart => exact ⟨0, Nat.zero_le _, rfl, rfl, rfl, fun j h => absurd h (Nat.not_lt_zero _)⟩
      case round =>
        obtain ⟨i, hi, hgk, rfl, hwr, hA⟩ := hrel
        have HGK : Hid (gk = M - i) := hgk
        have HA := hidW hA
        have hwr' := hwr.symm
        subst hwr'
        clear hgk hwr hA
        by_cases hlt : i < M
        · have hid : decide (i < M) = true := decide_eq_true hlt
          have hi0' : (0 : Int) ≤ (i : Int) := by omega
          have hi1' : (i : Int) < (M : Int) := by omega
          obtain ⟨ob, oo, hob, c0⟩ : ∃ ob oo, oa = some ⟨ob, oo, none⟩ ∧ w.cell? ⟨ob, oo + i, none⟩ = some (.slice (oua i) (own i).length (ouc i)) := by
            rcases HOX.out.1 with h | ⟨ob, oo, e, h⟩
            · omega
            · exact ⟨ob, oo, e, h i hlt⟩
          subst hob
          obtain ⟨ol, hol⟩ : ∃ v, v = (own i).length := ⟨_, rfl⟩
          obtain ⟨ouaA, houa⟩ : ∃ v, v = oua i := ⟨_, rfl⟩
          obtain ⟨oucA, houc⟩ : ∃ v, v = ouc i := ⟨_, rfl⟩
          have HRW : Hid (∀ k, k < ol → ∃ b off, ouaA = some ⟨b, off, none⟩ ∧ w.cell? ⟨b, off + k, none⟩ = some (.int .i64 ((own i).getD k 0))) := fun k hk => by
            rw [hol] at hk
            rcases HOX.out.2 i hlt with h | ⟨b, off, e, h⟩
            · rw [h] at hk; exact absurd hk (Nat.not_lt_zero _)
            · exact ⟨b, off, by rw [houa]; exact e, h k hk⟩
          have holb : ol ≤ 17592186044416 := by rw [hol]; exact HOL.out i hlt
          have HOLE := hidW hol
          rw [← hol, ← houa, ← houc] at c0
          clear hol houa houc
          go_wp2_with fail
          go_loopg [7] ol (fun gk v7 wr => ∃ k : Nat, k ≤ ol ∧ gk = ol - k ∧ v7 = .int .i64 k ∧ wr = w ∧ ∀ p, p < k → 0 ≤ (own i).getD p 0 ∧ (own i).getD p 0 < 1024)
          case atStart => exact ⟨0, Nat.zero_le _, rfl, rfl, rfl, fun j h => absurd h (Nat.not_lt_zero _)⟩
          case round =>
            obtain ⟨k, hk, hgk, rfl, hwr, hB⟩ := hrel
            have HGJ : Hid (gk = ol - k) := hgk
            have HB := hidW hB
            have hwr' := hwr.symm
            subst hwr'
            clear hgk hwr hB
            by_cases hltk : k < ol
            · have hkd : decide (k < ol) = true := decide_eq_true hltk
              have hk0 : (0 : Int) ≤ (k : Int) := by omega
              have hk1 : (k : Int) < (ol : Int) := by omega
              obtain ⟨b, off, rfl, c1⟩ := HRW.out k hltk
              obtain ⟨v, hv⟩ : ∃ v, v = (own i).getD k 0 := ⟨_, rfl⟩
              have HV := hidW hv
              rw [← hv] at c1
              clear hv
              by_cases h0 : v < 0
              · have hd0 : decide (v < 0) = true := decide_eq_true h0
                clear h0
                go_wp2_with fail
                go_ret2
                exact ⟨rfl, rfl⟩
              · have hd0 : decide (v < 0) = false := decide_eq_false h0
                by_cases h1 : v < 1024
                · have hd1 : decide ((1024 : Int) ≤ v) = false := decide_eq_false (by omega)
                  have HBN : Hid (∀ p, p < k + 1 → 0 ≤ (own i).getD p 0 ∧ (own i).getD p 0 < 1024) := fun p hp => by
                    by_cases e : p = k
                    · rw [e, ← HV.out]; omega
                    · exact HB.out p (by omega)
                  clear h0 h1
                  go_wp2_with fail
                  go_roundg (ol - (k + 1))
                  all_goals first
                    | exact (show ∃ (k' : Nat), _ from ⟨k + 1, by omega, rfl, by go_num, rfl, HBN.out⟩)
                    | (have := HGJ.out; omega)
                · have hd1 : decide ((1024 : Int) ≤ v) = true := decide_eq_true (by omega)
                  clear h0 h1
                  go_wp2_with fail
                  go_ret2
                  exact ⟨rfl, rfl⟩
            · have hkn : ol = k := by omega
              subst hkn
              have hkd : decide (ol < ol) = false := decide_eq_false (by omega)
              have HAN : Hid (∀ j, j < i + 1 → ∀ v ∈ own j, 0 ≤ v ∧ v < 1024) := fun j hj v hv => by
                by_cases e : j = i
                · rw [e] at hv
                  obtain ⟨p, hp, e2⟩ := List.getElem_of_mem hv
                  have := HB.out p (by rw [HOLE.out]; exact hp)
                  rw [List.getD_eq_getElem?_getD, List.getElem?_eq_getElem hp, e2] at this
                  exact this
                · exact HA.out j (by omega) v hv
              go_wp2_with fail
              go_roundg (M - (i + 1))
              all_goals first
                | exact (show ∃ (i' : Nat), _ from ⟨i + 1, by omega, rfl, by go_num, rfl, HAN.out⟩)
                | (have := HGK.out; omega)
        · have hin : M = i := by omega
          subst hin
          exact absurd HA.out HBD.out
    · have hMM : ((M : Int) != (N : Int)) = true := by rw [bne_iff_ne]; omega
      have hMM2 : (M != N) = true := by rw [bne_iff_ne]; exact hMN
      clear hE hL hO hQ hol hb HBB hMN
      go_enter Tryd.func11, Tryd.ntmps11
      go_wp2_with fail
      refine Calls.mono HRI.out ?_
      rintro e w0 ⟨rfl, hw0⟩
      have hw0' := hw0.symm
      subst hw0'
      go_wp2_with fail
      go_ret2
      exact ⟨rfl, rfl⟩
  · have HRI := show Hid _ from rright_any ea N ec Qe eua euc w hL (by omega) hQ false (by simpa using hE)
    clear hE hL hO hQ hol hb HBB
    go_enter Tryd.func11, Tryd.ntmps11
    go_wp2_with fail
    refine Calls.mono HRI.out ?_
    rintro e w0 ⟨rfl, hw0⟩
    have hw0' := hw0.symm
    subst hw0'
    go_wp2_with fail
    go_ret2
    exact ⟨rfl, rfl⟩

end Go.Proofs.YtjijagnpcmonbaaDoor.J

/-
  digraph: the document's Solve, pure: the nodes of each number, in order; what a component has together.
-/
namespace Go.Proofs.YtjijagnpcmonbaaDoor.J
open Go.RowKit Go.Maps Go.Shelf D

/-- The nodes of a number among the first i. -/
def cmU (o : Nat → Nat) (i j : Nat) : List Nat := (List.range i).filter fun x => decide (o x = j)
theorem cmU_succ (o : Nat → Nat) (i j : Nat) : cmU o (i + 1) j = if j = o i then cmU o i j ++ [i] else cmU o i j := by
  unfold cmU
  rw [List.range_succ, List.filter_append]
  by_cases h : j = o i
  · rw [if_pos h, h]; simp
  · rw [if_neg h]
    have : ¬ o i = j := fun e => h e.symm
    simp [this]
theorem cmU_len (o : Nat → Nat) (i j : Nat) : (cmU o i j).length ≤ i := by
  unfold cmU
  have := List.length_filter_le (fun x => decide (o x = j)) (List.range i)
  simpa using this

/-- What one node of number c brings: its own, and what it leads to outside. -/
def Brg (E : Nat → List Nat) (own : Nat → List Int) (o ak : Nat → Nat) (c x b : Nat) : Prop := (b : Int) ∈ own x ∨ ∃ t ∈ E x, o t ≠ c ∧ (ak (o t)).testBit b = true
/-- What the first i nodes of a list bring. -/
def PreG (E : Nat → List Nat) (own : Nat → List Int) (o ak : Nat → Nat) (c : Nat) (L : List Nat) (i b : Nat) : Prop := ∃ p x, p < i ∧ L[p]? = some x ∧ Brg E own o ak c x b
/-- .. and the next one by its first k steps. -/
def MidG (E : Nat → List Nat) (own : Nat → List Int) (o ak : Nat → Nat) (c : Nat) (L : List Nat) (i x k b : Nat) : Prop := PreG E own o ak c L i b ∨ (b : Int) ∈ own x ∨ ∃ q t, q < k ∧ (E x)[q]? = some t ∧ o t ≠ c ∧ (ak (o t)).testBit b = true
section
variable {E : Nat → List Nat} {own : Nat → List Int} {o ak : Nat → Nat} {c : Nat} {L : List Nat} {i x k b : Nat}
theorem PreG.zero : ¬ PreG E own o ak c L 0 b := fun ⟨_, _, h, _⟩ => absurd h (Nat.not_lt_zero _)
theorem MidG.zero : MidG E own o ak c L i x 0 b ↔ PreG E own o ak c L i b ∨ (b : Int) ∈ own x := by
  unfold MidG
  constructor
  · rintro (h | h | ⟨_, _, h, _⟩)
    · exact .inl h
    · exact .inr h
    · exact absurd h (Nat.not_lt_zero _)
  · rintro (h | h)
    · exact .inl h
    · exact .inr (.inl h)
theorem MidG.succ {t : Nat} (ht : (E x)[k]? = some t) : MidG E own o ak c L i x (k + 1) b ↔ MidG E own o ak c L i x k b ∨ (o t ≠ c ∧ (ak (o t)).testBit b = true) := by
  unfold MidG
  constructor
  · rintro (h | h | ⟨q, u, h1, h2, h3⟩)
    · exact .inl (.inl h)
    · exact .inl (.inr (.inl h))
    · by_cases e : q = k
      · rw [e, ht] at h2
        rw [← Option.some.inj h2] at h3
        exact .inr h3
      · exact .inl (.inr (.inr ⟨q, u, by omega, h2, h3⟩))
  · rintro ((h | h | ⟨q, u, h1, h2⟩) | h)
    · exact .inl h
    · exact .inr (.inl h)
    · exact .inr (.inr ⟨q, u, by omega, h2⟩)
    · exact .inr (.inr ⟨k, t, by omega, ht, h⟩)
theorem MidG.done (hx : L[i]? = some x) (hk : (E x).length ≤ k) : MidG E own o ak c L i x k b ↔ PreG E own o ak c L (i + 1) b := by
  constructor
  · rintro (⟨p, y, h1, h2⟩ | h | ⟨q, t, h1, h2, h3⟩)
    · exact ⟨p, y, by omega, h2⟩
    · exact ⟨i, x, by omega, hx, .inl h⟩
    · exact ⟨i, x, by omega, hx, .inr ⟨t, List.mem_of_getElem? h2, h3⟩⟩
  · rintro ⟨p, y, h1, h2, h3⟩
    by_cases e : p = i
    · rw [e, hx] at h2
      rw [← Option.some.inj h2] at h3
      rcases h3 with h3 | ⟨t, h4, h5⟩
      · exact .inr (.inl h3)
      · obtain ⟨q, hq, e2⟩ := List.getElem_of_mem h4
        exact .inr (.inr ⟨q, t, by omega, by rw [List.getElem?_eq_getElem hq, e2], h5⟩)
    · exact .inl ⟨p, y, by omega, h2, h3⟩
theorem PreG.all {n : Nat} (hn : L.length ≤ n) : PreG E own o ak c L n b ↔ ∃ x ∈ L, Brg E own o ak c x b := by
  constructor
  · rintro ⟨p, y, _, h2, h3⟩
    exact ⟨y, List.mem_of_getElem? h2, h3⟩
  · rintro ⟨y, h2, h3⟩
    obtain ⟨p, hp, e⟩ := List.getElem_of_mem h2
    exact ⟨p, y, by omega, by rw [List.getElem?_eq_getElem hp, e], h3⟩
end

theorem bit_below {m b n : Nat} (h : m < 2 ^ n) (hb : m.testBit b = true) : b < n := by
  refine Nat.lt_of_not_le fun h2 => ?_
  rw [Nat.testBit_lt_two_pow (Nat.lt_of_lt_of_le h (Nat.pow_le_pow_right (by decide) h2))] at hb
  cases hb
/-- A mask has just the numbers of which P is so. -/
def IsM (m : Nat) (P : Nat → Prop) : Prop := m < 2 ^ 1024 ∧ ∀ b, m.testBit b = true ↔ P b
theorem IsM.none : IsM 0 (fun _ => False) := ⟨Nat.two_pow_pos 1024, fun b => by rw [Nat.zero_testBit]; simp⟩
theorem IsM.ext {m : Nat} {P Q : Nat → Prop} (h : IsM m P) (e : ∀ b, P b ↔ Q b) : IsM m Q := ⟨h.1, fun b => (h.2 b).trans (e b)⟩
theorem IsM.lt {m b : Nat} {P : Nat → Prop} (h : IsM m P) (hb : P b) : b < 1024 := bit_below (n := 1024) h.1 ((h.2 b).2 hb)
theorem IsM.add {m : Nat} {P : Nat → Prop} (h : IsM m P) (l : List Int) (hl : ∀ v ∈ l, 0 ≤ v ∧ v < 1024) : IsM (B.addS 1024 m l).1 (fun b => P b ∨ (b : Int) ∈ l) := by
  refine ⟨B.addS_lt 1024 _ _ h.1, fun b => ?_⟩
  rw [addS_bit, Bool.or_eq_true, h.2, Bool.and_eq_true, decide_eq_true_eq, List.contains_iff_mem]
  constructor
  · rintro (h1 | ⟨_, h1⟩)
    · exact .inl h1
    · exact .inr h1
  · rintro (h1 | h1)
    · exact .inl h1
    · exact .inr ⟨by have := hl _ h1; omega, h1⟩
theorem mem_intL_memN {m b : Nat} (hm : m < 2 ^ 1024) : (b : Int) ∈ intL (memN m) ↔ m.testBit b = true := by
  unfold intL
  rw [List.mem_map]
  constructor
  · rintro ⟨x, hx, e⟩
    have : x = b := by omega
    rw [← this]; exact (mem_memN.1 hx).2
  · intro h
    exact ⟨b, mem_memN.2 ⟨bit_below (n := 1024) hm h, h⟩, rfl⟩
theorem intL_memN_bound (m : Nat) : ∀ v ∈ intL (memN m), 0 ≤ v ∧ v < 1024 := fun v hv => by
  unfold intL at hv
  obtain ⟨x, hx, rfl⟩ := List.mem_map.1 hv
  have := (mem_memN.1 hx).1
  omega

/-- The components of numbers below c have what they should. -/
def AllP (N : Nat) (E : Nat → List Nat) (own : Nat → List Int) (o ak : Nat → Nat) (c : Nat) : Prop := (∀ j, j < c → ak j < 2 ^ 1024) ∧ SolP E own (fun x => decide (x < N ∧ o x < c)) (fun x => ak (o x))
theorem AllP.start {N : Nat} {E : Nat → List Nat} {own : Nat → List Int} {o ak : Nat → Nat} : AllP N E own o ak 0 := ⟨fun j h => absurd h (Nat.not_lt_zero _), fun x hx => by simp at hx⟩
theorem AllP.step {N n c M : Nat} {E : Nat → List Nat} {own : Nat → List Int} {o ak : Nat → Nat} (h : AllP N E own o ak c) (hp : PnP N E o n) (hE : ∀ x, x < N → ∀ y ∈ E x, y < N) (hc : c < n) (hM : IsM M (fun b => ∃ x ∈ cmU o N c, Brg E own o ak c x b)) : AllP N E own o (updC ak c M) (c + 1) := by
  refine ⟨fun j hj => ?_, ?_⟩
  · by_cases e : j = c
    · rw [e, updC_same]; exact hM.1
    · rw [updC_other _ _ e]; exact h.1 j (by omega)
  · have hcm := hp.comp hE hc
    have h1 := SolP.step (M := M) h.2 hcm (fun b => by
      rw [hM.2]
      constructor
      · rintro ⟨x, hx, h2 | ⟨t, ht, h3, h4⟩⟩
        · exact .inl ⟨x, hx, h2⟩
        · right
          obtain ⟨hxN, hxo⟩ := mem_cmN.1 hx
          have htN := hE x hxN t ht
          have := hp.ord x t hxN htN ht
          exact ⟨x, hx, t, ht, by simp; omega, h4⟩
      · rintro (⟨x, hx, h2⟩ | ⟨z, hz, t, ht, h3, h4⟩)
        · exact ⟨x, hx, .inl h2⟩
        · refine ⟨z, hz, .inr ⟨t, ht, ?_, h4⟩⟩
          have : t < N ∧ o t < c := by simpa using h3
          omega)
    intro x hx b
    have hx2 : x < N ∧ o x < c + 1 := by simpa using hx
    have h3 := h1 x (by
      rw [addC_iff]
      by_cases e : o x = c
      · exact .inr (mem_cmN.2 ⟨hx2.1, e⟩)
      · left; simp; omega) b
    rw [← h3]
    show (updC ak c M (o x)).testBit b = true ↔ (if x ∈ cmN N o c then M else ak (o x)).testBit b = true
    by_cases e : o x = c
    · rw [if_pos (mem_cmN.2 ⟨hx2.1, e⟩), e, updC_same]
    · rw [if_neg (fun h => e (mem_cmN.1 h).2), updC_other _ _ e]
theorem AllP.done {N n : Nat} {E : Nat → List Nat} {own : Nat → List Int} {o ak : Nat → Nat} (h : AllP N E own o ak n) (hp : PnP N E o n) : ∀ x, x < N → ak (o x) < 2 ^ 1024 ∧ ∀ b, (ak (o x)).testBit b = true ↔ Gets E own x b := fun x hx => by
  have h1 := hp.lt x hx
  exact ⟨h.1 _ h1, h.2 x (by simp; exact ⟨hx, h1⟩)⟩

end Go.Proofs.YtjijagnpcmonbaaDoor.J

/-
  digraph: the document's Solve.
-/
namespace Go.Proofs.YtjijagnpcmonbaaDoor.J
open Go.RowKit Go.Maps Go.Shelf D

attribute [local go_sem] Oper.semAt_some
attribute [local go_sem ↓] Go.wp_at_zero Go.wp_at_succ

theorem RwP.ext {X : World} {B rb N k : Nat} {Q Q' : Nat → List Nat} {ua : Nat → Option Addr} {uc : Nat → Nat} (h : RwP X B rb N Q ua uc k) (e : ∀ i, i < k → Q i = Q' i) : RwP X B rb N Q' ua uc k :=
  ⟨h.val.ext fun i _ => by
    by_cases hi : i < k
    · rw [if_pos hi, if_pos hi, e i hi]
    · rw [if_neg hi, if_neg hi], fun i hi => by rw [← e i hi]; exact h.inn i hi, fun i j hi hj hne => by rw [← e i hi, ← e j hj]; exact h.sep i j hi hj hne, h.lo⟩
theorem rmem_own (br bi m : Nat) (w : World) (hr : B.RefAt w br bi 1024 m) :
    Calls Tryd.prog 28 #[.pointer (some ⟨br, 0, none⟩)] w fun e w' => ∃ a c, e = .returned (.slice a (memN m).length c) ∧ w'.ownsRow w.heap.size 3 1 (.slice a (memN m).length c) (memN m).length (natV (memN m)) ∧ w.grownBy w' none := by
  refine (B.rmembers_any br bi 1024 m w hr).mono ?_
  rintro e w' ⟨v, rfl, ho, hb⟩
  rw [mems_natV, mems_intL, intL_length] at ho
  obtain ⟨a, c, rfl⟩ := owns_slice ho
  exact ⟨a, c, rfl, ho, below_grown hb⟩

set_option maxRecDepth 100000 in
set_option maxHeartbeats 8000000 in
theorem rsolve_ok (w : World) (N : Nat) (ea oa : Option Addr) (ec oc : Nat) (E : Nat → List Nat) (own : Nat → List Int) (eua oua : Nat → Option Addr) (euc ouc : Nat → Nat) (hL : LwAt w ea N (fun i => intL (E i)) eua euc) (hO : LwAt w oa N own oua ouc) (hN : N ≤ 1048576) (hEl : ∀ x, x < N → (E x).length ≤ 17592186044416) (hol : ∀ x, x < N → (own x).length ≤ 17592186044416) (hE : ∀ x, x < N → ∀ y ∈ E x, y < N) (hob : ∀ x, x < N → ∀ v ∈ own x, 0 ≤ v ∧ v < 1024) (hPa : ∀ X, w.grownBy X none → Calls Tryd.prog 19 #[.slice ea N ec] X fun e y => PartsTold X N E e y) :
    Calls Tryd.prog 11 #[.slice ea N ec, .slice oa N oc] w fun e y => SolTold N E own w e y := by
  have HRI := show Hid _ from rright_any ea N ec (fun i => intL (E i)) eua euc w hL (by omega) (fun i hi => by rw [intL_length]; exact hEl i hi) true (by
    refine ⟨fun _ i hi x hx => ?_, fun _ => rfl⟩
    unfold intL at hx
    obtain ⟨y, hy, rfl⟩ := List.mem_map.1 hx
    have := hE i hi y hy
    omega)
  have HPA := show Hid _ from hPa w (grown_refl _ _)
  have HLX : Hid (∀ X, w.grownBy X none → LwAt X ea N (fun i => intL (E i)) eua euc) := fun X hX => hL.kept hX
  have HOX : Hid (∀ X, w.grownBy X none → LwAt X oa N own oua ouc) := fun X hX => hO.kept hX
  have HEL := hidW hEl
  have HOL := hidW hol
  have HE := hidW hE
  have HOB := hidW hob
  obtain ⟨i0, hi0, hz0, hz1, hz2⟩ := info_parts infoInt
  obtain ⟨i1, hi1, hy0, hy1, hy2⟩ := info_parts infoRowsS
  clear hL hO hEl hol hE hob hPa
  go_enter Tryd.func11, Tryd.ntmps11
  go_wp2_with fail
  refine Calls.mono HRI.out ?_
  rintro e w0 ⟨rfl, hw0⟩
  have hw0' := hw0.symm
  subst hw0'
  have hNN : ((N : Int) != (N : Int)) = false := bne_self_eq_false _
  clear HRI hw0
  go_wp2_with fail
  go_loopg [6] N (fun gk v6 wr => ∃ i : Nat, i ≤ N ∧ gk = N - i ∧ v6 = .int .i64 i ∧ wr = w)
  case atStart => exact ⟨0, Nat.zero_le _, rfl, rfl, rfl⟩
  case round =>
    obtain ⟨i, hi, hgk, rfl, hwr⟩ := hrel
    have HGK : Hid (gk = N - i) := hgk
    have hwr' := hwr.symm
    subst hwr'
    clear hgk hwr
    by_cases hlt : i < N
    · have hid : decide (i < N) = true := decide_eq_true hlt
      have hi0' : (0 : Int) ≤ (i : Int) := by omega
      have hi1' : (i : Int) < (N : Int) := by omega
      obtain ⟨ob, oo, hob, c0⟩ : ∃ ob oo, oa = some ⟨ob, oo, none⟩ ∧ w.cell? ⟨ob, oo + i, none⟩ = some (.slice (oua i) (own i).length (ouc i)) := by
        rcases (HOX.out w (grown_refl _ _)).1 with h | ⟨ob, oo, e, h⟩
        · omega
        · exact ⟨ob, oo, e, h i hlt⟩
      subst hob
      obtain ⟨ol, hol⟩ : ∃ v, v = (own i).length := ⟨_, rfl⟩
      obtain ⟨ouaA, houa⟩ : ∃ v, v = oua i := ⟨_, rfl⟩
      obtain ⟨oucA, houc⟩ : ∃ v, v = ouc i := ⟨_, rfl⟩
      have HRW : Hid (∀ k, k < ol → ∃ b off, ouaA = some ⟨b, off, none⟩ ∧ w.cell? ⟨b, off + k, none⟩ = some (.int .i64 ((own i).getD k 0)) ∧ 0 ≤ (own i).getD k 0 ∧ (own i).getD k 0 < 1024) := fun k hk => by
        rw [hol] at hk
        rcases (HOX.out w (grown_refl _ _)).2 i hlt with h | ⟨b, off, e, h⟩
        · rw [h] at hk; exact absurd hk (Nat.not_lt_zero _)
        · refine ⟨b, off, by rw [houa]; exact e, h k hk, ?_⟩
          refine HOB.out i hlt _ ?_
          rw [List.getD_eq_getElem?_getD, List.getElem?_eq_getElem hk]; exact List.getElem_mem hk
      have holb : ol ≤ 17592186044416 := by rw [hol]; exact HOL.out i hlt
      rw [← hol, ← houa, ← houc] at c0
      clear hol houa houc
      go_wp2_with fail
      go_loopg [7] ol (fun gk v7 wr => ∃ k : Nat, k ≤ ol ∧ gk = ol - k ∧ v7 = .int .i64 k ∧ wr = w)
      case atStart => exact ⟨0, Nat.zero_le _, rfl, rfl, rfl⟩
      case round =>
        obtain ⟨k, hk, hgk, rfl, hwr⟩ := hrel
        have HGJ : Hid (gk = ol - k) := hgk
        have hwr' := hwr.symm
        subst hwr'
        clear hgk hwr
        by_cases hltk : k < ol
        · have hkd : decide (k < ol) = true := decide_eq_true hltk
          have hk0 : (0 : Int) ≤ (k : Int) := by omega
          have hk1 : (k : Int) < (ol : Int) := by omega
          obtain ⟨b, off, rfl, c1, hv0, hv1⟩ := HRW.out k hltk
          obtain ⟨v, hv⟩ : ∃ v, v = (own i).getD k 0 := ⟨_, rfl⟩
          rw [← hv] at c1 hv0 hv1
          have hvd : decide (v < 0) = false := decide_eq_false (by omega)
          have hvd2 : decide ((1024 : Int) ≤ v) = false := decide_eq_false (by omega)
          clear hv hv0 hv1
          go_wp2_with fail
          go_roundg (ol - (k + 1))
          all_goals first
            | exact (show ∃ (k' : Nat), _ from ⟨k + 1, by omega, rfl, by go_num, rfl⟩)
            | (have := HGJ.out; omega)
        · have hkn : ol = k := by omega
          subst hkn
          have hkd : decide (ol < ol) = false := decide_eq_false (by omega)
          go_wp2_with fail
          go_roundg (N - (i + 1))
          all_goals first
            | exact (show ∃ (i' : Nat), _ from ⟨i + 1, by omega, rfl, by go_num, rfl⟩)
            | (have := HGK.out; omega)
    · have hin : N = i := by omega
      subst hin
      have hid : decide (N < N) = false := decide_eq_false (by omega)
      clear HGK hlt
      go_wp2_with fail
      refine Calls.mono HPA.out ?_
      rintro e w1 ⟨nb, c, num, S, rfl, hV, hNb, hA, hcN, hnb, hg1⟩
      have HPN := hidW (hNb.pn hA)
      have HV1 : Hid (ValAt w1 nb N 3 (fun x => .int .i64 (((fun x => c - 1 - num x) x : Nat) : Int))) := hV.ext fun x hx => by
        have h5 := (hNb.lt x (hA x hx)).2
        show Value.int IntKind.i64 ((c : Int) - 1 - (num x : Int)) = Value.int IntKind.i64 ((c - 1 - num x : Nat) : Int)
        rw [show ((c - 1 - num x : Nat) : Int) = (c : Int) - 1 - (num x : Int) by omega]
      obtain ⟨o, ho⟩ : ∃ o : Nat → Nat, o = fun x => c - 1 - num x := ⟨_, rfl⟩
      rw [← ho] at HPN HV1
      have HG1 := hidW hg1
      clear hV hNb hA hg1 HPA ho hnb
      go_wp2_with (at_make; refine wpList_make_full _ rfl _ _ 22 rfl w1.heap.size 28 i1 (.slice none 0 0) 1 Tryd.underlying22 hi1 hy0 hy1 .i64 .i64 _ _ c rfl rfl (by simp) (by simp) (by rw [hy2]; omega) (by unfold maxLen; omega) (by simp) ?_)
      intro w5 hown hgrow
      have hval : ValAt w5 w1.heap.size c 28 (fun _ => .slice none 0 0) := made_rowK (B := w1.heap.size) rfl (by simpa [Value.cells] using hown)
      obtain ⟨kb, hkb⟩ : ∃ b, b = w1.heap.size := ⟨_, rfl⟩
      rw [← hkb] at hval
      rw [← hkb]
      have HC0 : Hid (CqP w5 w1.heap.size (some ⟨kb, 0, none⟩) c c (cmU o 0) (fun _ => none) (fun _ => 0)) := (CqP.made hval (by omega) (by unfold maxLen; omega)).ext fun i _ => rfl
      have HG5 := hidW hgrow
      have HKB : Hid (w1.heap.size ≤ kb) := by show _ ≤ _; omega
      clear hown hgrow hval hkb
      go_wp2_with fail
      go_loopg [11] N (fun gk v11 wr => ∃ (i : Nat) (ua : Nat → Option Addr) (uc : Nat → Nat), i ≤ N ∧ gk = N - i ∧ v11 = .int .i64 i ∧ CqP wr w1.heap.size (some ⟨kb, 0, none⟩) c c (cmU o i) ua uc ∧ w1.grownBy wr none)
      case atStart => exact ⟨0, _, _, Nat.zero_le _, rfl, rfl, HC0.out, HG5.out⟩
      case round =>
        clear HC0 HG5
        obtain ⟨i, ua, uc, hi, hgk, rfl, hC, hG⟩ := hrel
        have HGK : Hid (gk = N - i) := hgk
        have HC := hidW hC
        have HG := hidW hG
        clear hgk hC hG
        by_cases hlt : i < N
        · have hid : decide (i < N) = true := decide_eq_true hlt
          have hi1' : (i : Int) < (N : Int) := by omega
          have hoi := HPN.out.lt i hlt
          have x1 := (HV1.out.kept HG.out).cell i hlt
          have HQN : Hid (∀ t, cmU o (i + 1) t = if t = o i then cmU o i t ++ [i] else cmU o i t) := fun t => cmU_succ o i t
          obtain ⟨j, hj⟩ : ∃ v, v = o i := ⟨_, rfl⟩
          rw [← hj] at hoi x1 HQN
          have hj1 : (j : Int) < (c : Int) := by omega
          have hqb : (cmU o i j).length ≤ 1048576 := Nat.le_trans (cmU_len o i j) (by omega)
          obtain ⟨Q, hQ⟩ : ∃ Q, Q = cmU o i := ⟨_, rfl⟩
          rw [← hQ] at HC HQN hqb
          clear hj
          obtain ⟨kb', kcap, hkb, hkcell⟩ := owns_at HC.out.out (by omega)
          simp only [Value.slice.injEq, Option.some.injEq, Addr.mk.injEq, and_true, true_and] at hkb
          obtain ⟨rfl, -⟩ := hkb
          have cj := hkcell j _ (rowsC_at _ _ _ hoi)
          obtain ⟨fa, hfa⟩ : ∃ a, a = ua j := ⟨_, rfl⟩
          obtain ⟨fc, hfc⟩ : ∃ a, a = uc j := ⟨_, rfl⟩
          obtain ⟨m, hm⟩ : ∃ m, m = (Q j).length := ⟨_, rfl⟩
          rw [← hfa, ← hfc, ← hm] at cj
          have hmb : m ≤ 1048576 := by rw [hm]; exact hqb
          generalize wr = V at *
          have HOW : Hid (∀ Y, V.grownBy Y none → Y.ownsRow w1.heap.size 3 1 (.slice fa m fc) m (natV (Q j))) := fun Y hY => by
            have h1 := (HC.out.kept hY).inn j hoi
            rw [← hfa, ← hfc, ← hm] at h1
            exact h1
          have HPS : Hid (∀ Y, V.grownBy Y none → w1.heap.size ≤ Y.heap.size) := fun Y hY => Nat.le_trans HG.out.size hY.size
          have HNB : Hid (nb < w1.heap.size) := HV1.out.lt
          have HFIN : Hid (∀ (Y W : World) (g c' : Nat), V.grownBy Y none → Y.grownBy W (Value.slice fa m fc).ownBlock → W.ownsRow w1.heap.size 3 1 (.slice (some ⟨g, 0, none⟩) (m + 1) c') (m + 1) (natV (Q j) ++ [.int .i64 (i : Int)]) → ((Value.slice fa m fc).ownBlock = some g ∨ g = Y.heap.size) → (W.cell? ⟨kb, j, none⟩ = some (.slice fa m fc) ∧ W.frozen? ⟨kb, j, none⟩ = false) ∧ CqP (W.setCell ⟨kb, j, none⟩ (.slice (some ⟨g, 0, none⟩) (m + 1) c')) w1.heap.size (some ⟨kb, 0, none⟩) c c (cmU o (i + 1)) (updC ua j (some ⟨g, 0, none⟩)) (updC uc j c') ∧ w1.grownBy (W.setCell ⟨kb, j, none⟩ (.slice (some ⟨g, 0, none⟩) (m + 1) c')) none ∧ W.cell? ⟨nb, i, none⟩ = some (.int .i64 (j : Int))) := fun Y W g c' hY hg ho hat => by
            have hq := HC.out.kept hY
            have hin := hq.inn j hoi
            rw [hfa, hfc, hm] at hg hat
            rw [hm] at ho
            obtain ⟨q1, q2⟩ := hq.add hoi hg ho hat
            rw [hfa, hfc, hm]
            have hs : W.grownBy (W.setCell ⟨kb, j, none⟩ (.slice (some ⟨g, 0, none⟩) ((Q j).length + 1) c')) (some kb) := grown_setCell _ _ _
            refine ⟨q1, q2.ext fun t _ => ?_, grown_new (grown_row (grown_trans HG.out hY) hin (Nat.le_refl _) hg) hs HKB.out, ?_⟩
            · rw [HQN.out t]
              by_cases e : t = j
              · rw [e, updC_same, if_pos rfl]
              · rw [updC_other _ _ e, if_neg e]
            · exact hg.cell (hY.cell x1 (by simp)) (by
                intro e
                have h3 := (hin.lt nb e.symm).1
                have := HNB.out
                omega)
          obtain ⟨xs, hxs⟩ : ∃ xs, xs = natV (Q j) := ⟨_, rfl⟩
          rw [← hxs] at HOW HFIN
          have p2 : ∀ o', (V.alloc o').cell? ⟨nb, i, none⟩ = some (.int .i64 (j : Int)) := fun o' => (World.grownBy_alloc _ o' none).cell x1 (by simp)
          have p3 : ∀ o', (V.alloc o').cell? ⟨kb, j, none⟩ = some (.slice fa m fc) := fun o' => (World.grownBy_alloc _ o' none).cell cj (by simp)
          have hi0' : (0 : Int) ≤ (i : Int) := by omega
          have hj0 : (0 : Int) ≤ (j : Int) := by omega
          clear hfa hfc hm hxs hkcell hQ hqb
          go_wp2_with fail
          go_region_law (first
            | (refine step_append_liesW _ rfl (.tmp 87) (.tmp 89) 28 rfl w1.heap.size 3 i0 (.int .i64 0) 1 8 Tryd.underlying28 hi0 hz0 hz1 hz2 rfl (by decide) (.slice fa m fc) m xs (by first | (simp [Act.eval]; done) | simp [Act.eval, Act.put]) (HOW.out _ (grown_trans (World.grownBy_alloc _ _ none) (grown_drewN _ _))) ⟨V.heap.size, 0, none⟩ 1 1 [.int .i64 (i : Int)] (by first | (simp [Act.eval]; done) | simp [Act.eval, Act.put]) rfl (World.news_of_block (heap_alloc_last V _)) (by simp [Value.oneCell']) (by decide) (by unfold maxLen; omega) (by omega) (HPS.out _ (grown_trans (World.grownBy_alloc _ _ none) (grown_drewN _ _))) ?_; intro g9 c9 wB hoB hgB hat; obtain ⟨⟨q1, q2⟩, q3, q4, q5⟩ := HFIN.out _ wB g9 c9 (grown_trans (World.grownBy_alloc _ _ none) (grown_drewN _ _)) hgB hoB hat; have HQ3 := hidW q3; have HQ4 := hidW q4; clear q3 q4 hoB hgB hat)
            | fail)
          all_goals go_wp2_with fail
          all_goals go_roundg (N - (i + 1))
          all_goals first
            | exact (show ∃ (i' : Nat), _ from ⟨i + 1, _, _, by omega, rfl, by go_num, HQ3.out, HQ4.out⟩)
            | (have := HGK.out; omega)
        · have hin : N = i := by omega
          subst hin
          have hid : decide (N < N) = false := decide_eq_false (by omega)
          have HLI : Hid (∀ X, wr.grownBy X none → LsAt X (some ⟨kb, 0, none⟩) c (fun j => intL (cmU o N j)) ua uc) := fun X hX => (HC.out.kept hX).ls
          have HG1R := hidW (grown_trans HG1.out HG.out)
          have HV2 : Hid (∀ X, wr.grownBy X none → ValAt X nb N 3 (fun i => .int .i64 (o i : Int))) := fun X hX => HV1.out.kept (grown_trans HG.out hX)
          clear HGK hlt HC HG HG1 HV1
          generalize wr = w2 at *
          go_wp2_with (at_make; refine wpList_make_full _ rfl _ _ 22 rfl w2.heap.size 28 i1 (.slice none 0 0) 1 Tryd.underlying22 hi1 hy0 hy1 .i64 .i64 _ _ c rfl rfl (by simp) (by simp) (by rw [hy2]; omega) (by unfold maxLen; omega) (by simp) ?_)
          intro w6 hown hgrow
          have hval : ValAt w6 w2.heap.size c 28 (fun _ => .slice none 0 0) := made_rowK (B := w2.heap.size) rfl (by simpa [Value.cells] using hown)
          obtain ⟨ab, hab⟩ : ∃ b, b = w2.heap.size := ⟨_, rfl⟩
          rw [← hab] at hval
          rw [← hab]
          have HAB : Hid (w2.heap.size ≤ ab) := by show _ ≤ _; omega
          have HR0 : Hid (RwP w6 w2.heap.size ab c (fun j => memN ((fun _ => 0) j)) (fun _ => none) (fun _ => 0) 0) := ⟨hval.ext fun i _ => by rw [if_neg (Nat.not_lt_zero _)], fun i h => absurd h (Nat.not_lt_zero _), fun i j h => absurd h (Nat.not_lt_zero _), HAB.out⟩
          have HG6 := hidW hgrow
          clear hown hgrow hval hab
          go_wp2_with fail
          go_loopg [13] c (fun gk v13 wr => ∃ (k : Nat) (ak : Nat → Nat) (ta : Nat → Option Addr) (tc : Nat → Nat), k ≤ c ∧ gk = c - k ∧ v13 = .int .i64 k ∧ RwP wr w2.heap.size ab c (fun j => memN (ak j)) ta tc k ∧ AllP N E own o ak k ∧ w2.grownBy wr none)
          case atStart => exact ⟨0, fun _ => 0, _, _, Nat.zero_le _, rfl, rfl, HR0.out, AllP.start, HG6.out⟩
          case round =>
            clear HR0 HG6
            obtain ⟨k, ak, ta, tc, hk, hgk, rfl, hR, hA, hG⟩ := hrel
            have HGK : Hid (gk = c - k) := hgk
            have HR := hidW hR
            have HA := hidW hA
            have HG := hidW hG
            clear hgk hR hA hG
            by_cases hlt : k < c
            · have hkd : decide (k < c) = true := decide_eq_true hlt
              have hk0 : (0 : Int) ≤ (k : Int) := by omega
              have hk1 : (k : Int) < (c : Int) := by omega
              have HOF := show Hid _ from rof_all none 0 [] wr (.inl rfl) (by decide)
              go_wp2_with fail
              refine Calls.mono HOF.out ?_
              rintro e W0 ⟨br, rfl, hbr, hRf, hgW⟩
              obtain ⟨bi, hbi⟩ : ∃ v, v = wr.heap.size := ⟨_, rfl⟩
              rw [← hbi] at hbr hRf
              have HBI : Hid (wr.heap.size ≤ bi) := by show _ ≤ _; omega
              have HRF0 : Hid (B.RefAt W0 br bi 1024 0) := hRf
              have HGW := hidW hgW
              clear hbi hRf hgW HOF hbr
              go_wp2_with fail
              generalize wr = w7 at *
              obtain ⟨L, hLd⟩ : ∃ L, L = cmU o N k := ⟨_, rfl⟩
              have HLD := hidW hLd
              obtain ⟨ln, hln⟩ : ∃ v, v = L.length := ⟨_, rfl⟩
              obtain ⟨lua, hlua⟩ : ∃ v, v = ua k := ⟨_, rfl⟩
              obtain ⟨luc, hluc⟩ : ∃ v, v = uc k := ⟨_, rfl⟩
              have hlnb : ln ≤ 1048576 := by rw [hln, hLd]; exact Nat.le_trans (cmU_len o N k) (by omega)
              have HLN := hidW hln
              have HROW : Hid (∀ X, w7.grownBy X none → X.cell? ⟨kb, k, none⟩ = some (.slice lua ln luc)) := fun X hX => by
                rcases (HLI.out X (grown_trans HG.out hX)).1 with h | ⟨kb2, e, h⟩
                · omega
                · have h1 := h k hlt
                  rw [intL_length, ← hLd, ← hln, ← hlua, ← hluc] at h1
                  have e2 : kb = kb2 := by simpa using e
                  rw [e2]; exact h1
              have HNOD : Hid (∀ p, p < ln → ∃ b off, lua = some ⟨b, off, none⟩ ∧ (∀ X, w7.grownBy X none → X.cell? ⟨b, off + p, none⟩ = some (.int .i64 ((L.getD p 0 : Nat) : Int))) ∧ L[p]? = some (L.getD p 0) ∧ L.getD p 0 < N ∧ o (L.getD p 0) = k) := fun p hp => by
                rw [hln] at hp
                have hg : L[p]? = some (L.getD p 0) := by rw [List.getD_eq_getElem?_getD, List.getElem?_eq_getElem hp]; rfl
                have hm : L.getD p 0 ∈ cmU o N k := by rw [← hLd]; exact List.mem_of_getElem? hg
                obtain ⟨hm1, hm2⟩ := mem_cmN.1 hm
                have hI : ∀ X, w7.grownBy X none → IntsAt X (ua k) (intL (cmU o N k)) := fun X hX => (HLI.out X (grown_trans HG.out hX)).2 k hlt
                rw [← hLd, ← hlua] at hI
                rcases hI w7 (grown_refl _ _) with h | ⟨b, off, e, _⟩
                · have h2 := intL_length L
                  rw [h] at h2
                  simp at h2
                  omega
                · refine ⟨b, off, e, fun X hX => ?_, hg, hm1, hm2⟩
                  rcases hI X hX with h | ⟨b2, off2, e2, h3⟩
                  · have h2 := intL_length L
                    rw [h] at h2
                    simp at h2
                    omega
                  · have h4 := h3 p (by rw [intL_length]; exact hp)
                    rw [intL_at] at h4
                    rw [e] at e2
                    have e3 : b = b2 ∧ off = off2 := by simpa using e2
                    rw [e3.1, e3.2]; exact h4
              have HWR : Hid (∀ X, w7.grownBy X none → w.grownBy X none) := fun X hX => grown_trans HG1R.out (grown_trans HG.out hX)
              have HM0 : Hid (IsM 0 (PreG E own o ak k L 0)) := IsM.none.ext fun b => ⟨False.elim, fun h => absurd h PreG.zero⟩
              have z0 := HROW.out W0 HGW.out
              clear hLd hln hlua hluc z0
              go_loopg [15] ln (fun gk v15 wx => ∃ (i m : Nat), i ≤ ln ∧ gk = ln - i ∧ v15 = .int .i64 i ∧ B.RefAt wx br bi 1024 m ∧ IsM m (PreG E own o ak k L i) ∧ w7.grownBy wx none)
              case atStart => exact ⟨0, 0, Nat.zero_le _, rfl, rfl, HRF0.out, HM0.out, HGW.out⟩
              case round =>
                clear HRF0 HM0 HGW
                obtain ⟨i, m, hi, hgk, rfl, hRf, hM, hG3⟩ := hrel
                have HGI : Hid (gk = ln - i) := hgk
                have HRF := hidW hRf
                have HM := hidW hM
                have HG3 := hidW hG3
                have c0 := HROW.out _ hG3
                clear hgk hRf hM hG3
                by_cases hlti : i < ln
                · have hid : decide (i < ln) = true := decide_eq_true hlti
                  have hi0' : (0 : Int) ≤ (i : Int) := by omega
                  have hi1' : (i : Int) < (ln : Int) := by omega
                  obtain ⟨b, off, rfl, hnc, hgx, hxN, hxo⟩ := HNOD.out i hlti
                  have c1 := hnc _ HG3.out
                  have HNC := hidW hnc
                  obtain ⟨x, hx⟩ : ∃ v, v = L.getD i 0 := ⟨_, rfl⟩
                  rw [← hx] at c1 hgx hxN hxo HNC
                  have HGX := hidW hgx
                  have HXO := hidW hxo
                  have hx0 : (0 : Int) ≤ (x : Int) := by omega
                  have hx1 : (x : Int) < (N : Int) := by omega
                  obtain ⟨ob, oo, hob, HOC⟩ : ∃ ob oo, oa = some ⟨ob, oo, none⟩ ∧ Hid (∀ X, w7.grownBy X none → X.cell? ⟨ob, oo + x, none⟩ = some (.slice (oua x) (own x).length (ouc x))) := by
                    rcases (HOX.out w (grown_refl _ _)).1 with h | ⟨ob, oo, e, h⟩
                    · omega
                    · exact ⟨ob, oo, e, fun X hX => (HWR.out X hX).cell (h x hxN) (by simp)⟩
                  subst hob
                  obtain ⟨eb, eo, heb, HEC⟩ : ∃ eb eo, ea = some ⟨eb, eo, none⟩ ∧ Hid (∀ X, w7.grownBy X none → X.cell? ⟨eb, eo + x, none⟩ = some (.slice (eua x) (E x).length (euc x))) := by
                    rcases (HLX.out w (grown_refl _ _)).1 with h | ⟨eb, eo, e, h⟩
                    · omega
                    · refine ⟨eb, eo, e, fun X hX => ?_⟩
                      have h1 := h x hxN
                      rw [intL_length] at h1
                      exact (HWR.out X hX).cell h1 (by simp)
                  subst heb
                  have hIo := (HOX.out _ (HWR.out _ HG3.out)).2 x hxN
                  have HADD := show Hid _ from radd_all br bi m (ouc x) (oua x) (own x) wr HRF.out hIo (fun hne rb ro e => by
                    rcases (HOX.out w (grown_refl _ _)).2 x hxN with h | ⟨b2, o2, e2, h⟩
                    · exact absurd h hne
                    · rw [e] at e2
                      have e3 : rb = b2 ∧ ro = o2 := by simpa using e2
                      have h4 := World.block_lt_of_cell? w _ (h 0 (List.length_pos_iff.2 hne))
                      have h5 := (HWR.out w7 (grown_refl _ _)).size
                      have h6 := HBI.out
                      have h7 : b2 < w.heap.size := h4
                      omega) (HOL.out x hxN)
                  have c2 := HOC.out _ HG3.out
                  obtain ⟨oax, hoax⟩ : ∃ v, v = oua x := ⟨_, rfl⟩
                  obtain ⟨oln, holn⟩ : ∃ v, v = (own x).length := ⟨_, rfl⟩
                  obtain ⟨ocx, hocx⟩ : ∃ v, v = ouc x := ⟨_, rfl⟩
                  rw [← hoax, ← holn, ← hocx] at c2 HADD
                  clear hnc hx hgx hxo hIo hoax holn hocx
                  go_wp2_with fail
                  refine Calls.mono HADD.out ?_
                  rintro e wy ⟨⟨z, rfl⟩, hRf, hgy⟩
                  have HGY : Hid (w7.grownBy wy none) := grown_new HG3.out hgy HBI.out
                  have HRF1 := hidW hRf
                  have HM1 : Hid (IsM _ (MidG E own o ak k L i x 0)) := hidW ((HM.out.add (own x) (HOB.out x hxN)).ext fun b => MidG.zero.symm)
                  obtain ⟨m1, hm1⟩ : ∃ v, v = (B.addS 1024 m (own x)).1 := ⟨_, rfl⟩
                  rw [← hm1] at HRF1 HM1
                  clear hRf hgy hm1 HADD c0 c1 c2 HRF HM HG3
                  have c0 := HROW.out _ HGY.out
                  have c1 := HNC.out _ HGY.out
                  have c3 := HEC.out _ HGY.out
                  have helb : (E x).length ≤ 17592186044416 := HEL.out x hxN
                  have HTS : Hid (∀ q, q < (E x).length → ∃ b off, eua x = some ⟨b, off, none⟩ ∧ (∀ X, w7.grownBy X none → X.cell? ⟨b, off + q, none⟩ = some (.int .i64 (((E x).getD q 0 : Nat) : Int))) ∧ (E x)[q]? = some ((E x).getD q 0) ∧ (E x).getD q 0 < N ∧ o ((E x).getD q 0) ≤ k) := fun q hq => by
                    have hg : (E x)[q]? = some ((E x).getD q 0) := by rw [List.getD_eq_getElem?_getD, List.getElem?_eq_getElem hq]; rfl
                    have hm := List.mem_of_getElem? hg
                    have hl := HE.out x hxN _ hm
                    rcases (HLX.out w (grown_refl _ _)).2 x hxN with h | ⟨b, off, e, h⟩
                    · have h2 := intL_length (E x)
                      have h : intL (E x) = [] := h
                      rw [h] at h2
                      simp at h2
                      omega
                    · refine ⟨b, off, e, fun X hX => ?_, hg, hl, ?_⟩
                      · have h4 := h q (by rw [intL_length]; exact hq)
                        rw [intL_at] at h4
                        exact (HWR.out X hX).cell h4 (by simp)
                      · have := HPN.out.ord x _ hxN hl hm
                        rw [HXO.out] at this
                        exact this
                  obtain ⟨el, hel⟩ : ∃ v, v = (E x).length := ⟨_, rfl⟩
                  obtain ⟨eax, heax⟩ : ∃ v, v = eua x := ⟨_, rfl⟩
                  obtain ⟨ecx, hecx⟩ : ∃ v, v = euc x := ⟨_, rfl⟩
                  have HELE := hidW hel
                  rw [← hel, ← heax, ← hecx] at c3
                  rw [← hel] at helb
                  rw [← hel, ← heax] at HTS
                  clear hel heax hecx
                  go_wp2_with fail
                  go_loopg [17] el (fun gk v17 wz => ∃ (q m : Nat), q ≤ el ∧ gk = el - q ∧ v17 = .int .i64 q ∧ B.RefAt wz br bi 1024 m ∧ IsM m (MidG E own o ak k L i x q) ∧ w7.grownBy wz none)
                  case atStart => exact ⟨0, m1, Nat.zero_le _, rfl, rfl, HRF1.out, HM1.out, HGY.out⟩
                  case round =>
                    clear HRF1 HM1 HGY c0 c1 c3
                    obtain ⟨q, mq, hq, hgk, rfl, hRf, hM, hG4⟩ := hrel
                    have HGJ : Hid (gk = el - q) := hgk
                    have HRF := hidW hRf
                    have HM := hidW hM
                    have HG4 := hidW hG4
                    clear hgk hRf hM hG4
                    by_cases hltq : q < el
                    · have hqd : decide (q < el) = true := decide_eq_true hltq
                      have hq0 : (0 : Int) ≤ (q : Int) := by omega
                      have hq1 : (q : Int) < (el : Int) := by omega
                      obtain ⟨eb2, eo2, rfl, htc, hgt, htN, hto⟩ := HTS.out q hltq
                      have c1 := htc _ HG4.out
                      obtain ⟨t, ht⟩ : ∃ v, v = (E x).getD q 0 := ⟨_, rfl⟩
                      rw [← ht] at c1 hgt htN hto
                      have HGT := hidW hgt
                      have ht0 : (0 : Int) ≤ (t : Int) := by omega
                      have ht1 : (t : Int) < (N : Int) := by omega
                      have c2 := (HV2.out _ (grown_trans HG.out HG4.out)).cell t htN
                      clear htc ht hgt
                      by_cases hne : o t = k
                      · rw [hne] at c2
                        have hnk : ((k : Int) != (k : Int)) = false := bne_self_eq_false _
                        have HMN : Hid (IsM mq (MidG E own o ak k L i x (q + 1))) := HM.out.ext fun b => by
                          rw [MidG.succ HGT.out]
                          exact ⟨.inl, fun h => h.elim id fun h2 => absurd hne h2.1⟩
                        clear hne hto
                        go_wp2_with fail
                        go_roundg (el - (q + 1))
                        all_goals first
                          | exact (show ∃ (q' : Nat), _ from ⟨q + 1, mq, by omega, rfl, by go_num, HRF.out, HMN.out, HG4.out⟩)
                          | (have := HGJ.out; omega)
                      · have hltj : o t < k := by omega
                        have hRk := HR.out.kept HG4.out
                        have c4 := hRk.val.cell (o t) (by omega)
                        rw [if_pos hltj] at c4
                        have hin := HR.out.inn (o t) hltj
                        have hI4 : IntsAt wr (ta (o t)) (intL (memN (ak (o t)))) := owned_ints (l := intL (memN (ak (o t)))) (by rw [show (intL (memN (ak (o t)))).map (Value.int .i64) = natV (memN (ak (o t))) by unfold intL natV; rw [List.map_map]; rfl]; exact hRk.inn (o t) hltj) (by rw [intL_length])
                        have hlen4 := memN_len (ak (o t))
                        have HADD := show Hid _ from radd_all br bi mq (tc (o t)) (ta (o t)) (intL (memN (ak (o t)))) wr HRF.out hI4 (fun _ rb ro e => by
                          rw [e] at hin
                          have h5 := (hin.lt rb rfl).2
                          have h6 := HBI.out
                          omega) (by rw [intL_length]; omega)
                        rw [intL_length] at HADD
                        have HMN : Hid (IsM _ (MidG E own o ak k L i x (q + 1))) := hidW ((HM.out.add (intL (memN (ak (o t)))) (intL_memN_bound _)).ext fun b => by
                          rw [MidG.succ HGT.out, mem_intL_memN (HA.out.1 _ hltj)]
                          exact ⟨fun h => h.elim .inl fun h2 => .inr ⟨hne, h2⟩, fun h => h.elim .inl fun h2 => .inr h2.2⟩)
                        obtain ⟨m2, hm2⟩ : ∃ v, v = (B.addS 1024 mq (intL (memN (ak (o t))))).1 := ⟨_, rfl⟩
                        rw [← hm2] at HADD HMN
                        have hnk : ((o t : Int) != (k : Int)) = true := by
                          rw [bne_iff_ne]; omega
                        have hj0 : (0 : Int) ≤ (o t : Int) := by omega
                        have hj1 : (o t : Int) < (c : Int) := by omega
                        obtain ⟨j, hj⟩ : ∃ v, v = o t := ⟨_, rfl⟩
                        rw [← hj] at c2 c4 hnk hj0 hj1 HADD
                        obtain ⟨ja, hja⟩ : ∃ v, v = ta j := ⟨_, rfl⟩
                        obtain ⟨jn, hjn⟩ : ∃ v, v = (memN (ak j)).length := ⟨_, rfl⟩
                        obtain ⟨jc, hjc⟩ : ∃ v, v = tc j := ⟨_, rfl⟩
                        rw [← hja, ← hjn, ← hjc] at c4 HADD
                        clear hne hto hltj hRk hin hI4 hlen4 hm2 hj hja hjn hjc
                        go_wp2_with fail
                        refine Calls.mono HADD.out ?_
                        rintro e wy ⟨⟨z2, rfl⟩, hRf, hgy⟩
                        have HGZ : Hid (w7.grownBy wy none) := grown_new HG4.out hgy HBI.out
                        have HRFZ := hidW hRf
                        clear hRf hgy HADD
                        go_wp2_with fail
                        go_roundg (el - (q + 1))
                        all_goals first
                          | exact (show ∃ (q' : Nat), _ from ⟨q + 1, m2, by omega, rfl, by go_num, HRFZ.out, HMN.out, HGZ.out⟩)
                          | (have := HGJ.out; omega)
                    · have hqn : el = q := by omega
                      subst hqn
                      have hqd : decide (el < el) = false := decide_eq_false (by omega)
                      have HMN : Hid (IsM mq (PreG E own o ak k L (i + 1))) := HM.out.ext fun b => MidG.done HGX.out (by rw [HELE.out]; exact Nat.le_refl _)
                      go_wp2_with fail
                      go_roundg (ln - (i + 1))
                      all_goals first
                        | exact (show ∃ (i' : Nat), _ from ⟨i + 1, mq, by omega, rfl, by go_num, HRF.out, HMN.out, HG4.out⟩)
                        | (have := HGI.out; omega)
                · have hin : ln = i := by omega
                  subst hin
                  have hid : decide (ln < ln) = false := decide_eq_false (by omega)
                  have HMF : Hid (IsM m (fun b => ∃ x ∈ cmU o N k, Brg E own o ak k x b)) := HM.out.ext fun b => by
                    rw [← HLD.out]
                    exact PreG.all (by rw [HLN.out]; exact Nat.le_refl _)
                  have HAN : Hid (AllP N E own o (updC ak k m) (k + 1)) := HA.out.step HPN.out HE.out hlt HMF.out
                  clear HMF HM HGI hlti
                  go_wp2_with fail
                  have HMB := show Hid _ from rmem_own br bi m wr HRF.out
                  refine Calls.mono HMB.out ?_
                  rintro e wy ⟨va, vc, rfl, hov, hgy⟩
                  have HRE : Hid (RwP wr w2.heap.size ab c (fun j => memN (updC ak k m j)) ta tc k) := (HR.out.kept HG3.out).ext fun i hi => by rw [updC_other _ _ (by omega)]
                  have hsz : w2.heap.size ≤ wr.heap.size := (grown_trans HG.out HG3.out).size
                  have hov2 : wy.ownsRow wr.heap.size 3 1 (.slice va (memN (updC ak k m k)).length vc) (memN (updC ak k m k)).length (natV (memN (updC ak k m k))) := by rw [updC_same]; exact hov
                  have HRN := hidW (HRE.out.put hgy hsz hov2)
                  rw [updC_same] at HRN
                  have hRy := HR.out.kept (grown_trans HG3.out hgy)
                  have c5 := hRy.val.cell k hlt
                  rw [if_neg (Nat.lt_irrefl k)] at c5
                  have c6 := hRy.val.free k
                  have HGN : Hid (w2.grownBy (wy.setCell ⟨ab, k, none⟩ (.slice va (memN m).length vc)) none) := grown_new (grown_trans HG.out (grown_trans HG3.out hgy)) (grown_setCell _ _ _) HAB.out
                  clear hov hgy HRE hsz hov2 hRy HMB HRF HG3 c0
                  go_wp2_with fail
                  go_roundg (c - (k + 1))
                  all_goals first
                    | exact (show ∃ (k' : Nat), _ from ⟨k + 1, updC ak k m, _, _, by omega, rfl, by go_num, HRN.out, HAN.out, HGN.out⟩)
                    | (have := HGK.out; omega)
            · have hkc : c = k := by omega
              subst hkc
              have hkd : decide (c < c) = false := decide_eq_false (by omega)
              have HAK : Hid (∀ x, x < N → ak (o x) < 2 ^ 1024 ∧ ∀ b, (ak (o x)).testBit b = true ↔ Gets E own x b) := HA.out.done HPN.out
              clear HGK hlt HA
              generalize wr = w8 at *
              go_wp2_with (at_make; refine wpList_make_full _ rfl _ _ 22 rfl w8.heap.size 28 i1 (.slice none 0 0) 1 Tryd.underlying22 hi1 hy0 hy1 .i64 .i64 _ _ N rfl rfl (by simp) (by simp) (by rw [hy2]; omega) (by unfold maxLen; omega) (by simp) ?_)
              intro w9 hown hgrow
              have hval : ValAt w9 w8.heap.size N 28 (fun _ => .slice none 0 0) := made_rowK (B := w8.heap.size) rfl (by simpa [Value.cells] using hown)
              obtain ⟨rb, hrb⟩ : ∃ b, b = w8.heap.size := ⟨_, rfl⟩
              rw [← hrb] at hval
              rw [← hrb]
              have HRB : Hid (w8.heap.size ≤ rb) := by show _ ≤ _; omega
              have HR0 : Hid (RwP w9 w8.heap.size rb N (fun x => memN (ak (o x))) (fun _ => none) (fun _ => 0) 0) := ⟨hval.ext fun i _ => by rw [if_neg (Nat.not_lt_zero _)], fun i h => absurd h (Nat.not_lt_zero _), fun i j h => absurd h (Nat.not_lt_zero _), HRB.out⟩
              have HG9 := hidW hgrow
              clear hown hgrow hval hrb
              go_wp2_with fail
              go_loopg [19] N (fun gk v19 wr => ∃ (i : Nat) (va : Nat → Option Addr) (vc : Nat → Nat), i ≤ N ∧ gk = N - i ∧ v19 = .int .i64 i ∧ RwP wr w8.heap.size rb N (fun x => memN (ak (o x))) va vc i ∧ w8.grownBy wr none)
              case atStart => exact ⟨0, _, _, Nat.zero_le _, rfl, rfl, HR0.out, HG9.out⟩
              case round =>
                clear HR0 HG9
                obtain ⟨i, va, vc, hi, hgk, rfl, hRw, hG9⟩ := hrel
                have HGI : Hid (gk = N - i) := hgk
                have HRW := hidW hRw
                have HGX := hidW hG9
                clear hgk hRw hG9
                generalize wr = V at *
                by_cases hlt : i < N
                · have hid : decide (i < N) = true := decide_eq_true hlt
                  have hi0' : (0 : Int) ≤ (i : Int) := by omega
                  have hi1' : (i : Int) < (N : Int) := by omega
                  have hoi := HPN.out.lt i hlt
                  have hRk := HR.out.kept HGX.out
                  have c1 := (HV2.out _ (grown_trans HG.out HGX.out)).cell i hlt
                  have c2 := hRk.val.cell (o i) hoi
                  rw [if_pos hoi] at c2
                  have c3 := HRW.out.val.cell i hlt
                  rw [if_neg (Nat.lt_irrefl i)] at c3
                  have c4 := HRW.out.val.free i
                  have hI := hRk.inn (o i) hoi
                  have hlen4 := memN_len (ak (o i))
                  obtain ⟨j, hj⟩ : ∃ v, v = o i := ⟨_, rfl⟩
                  obtain ⟨Q, hQ⟩ : ∃ Q : Nat → List Nat, Q = fun x => memN (ak (o x)) := ⟨_, rfl⟩
                  have hQi : Q i = memN (ak j) := by rw [hQ, hj]
                  rw [← hj] at c1 c2 hI hoi hlen4
                  obtain ⟨ja, hja⟩ : ∃ v, v = ta j := ⟨_, rfl⟩
                  obtain ⟨jn, hjn⟩ : ∃ v, v = (memN (ak j)).length := ⟨_, rfl⟩
                  obtain ⟨jc, hjc⟩ : ∃ v, v = tc j := ⟨_, rfl⟩
                  rw [← hja, ← hjn, ← hjc] at c2 hI
                  rw [← hjn] at hlen4
                  obtain ⟨ys, hys⟩ : ∃ ys, ys = natV (memN (ak j)) := ⟨_, rfl⟩
                  have HNIL : Hid (ja = none → jn = 0 ∧ jc = 0) := (owns_bounds hI).2
                  have HSRC : Hid (∀ Y, V.grownBy Y none → ∀ ad, ja = some ad → ∀ p u, ys[p]? = some u → Y.cell? (ad.add p) = some u) := fun Y hY ad had p u hu => by
                    have e0 : natV (memN (ak j)) = (intL (memN (ak j))).map (Value.int .i64) := by unfold intL natV; rw [List.map_map]; rfl
                    have h1 := owned_ints (l := intL (memN (ak j))) (by rw [← e0]; exact keep0 hI hY) (by rw [intL_length]; exact hjn)
                    have h2 := ints_src h1 ad had p u
                    rw [← e0, ← hys] at h2
                    exact h2 hu
                  have HLL : Hid (ys.length = jn * 1) := by show _ = _; rw [hys, natV_len, hjn, Nat.mul_one]
                  have HON1 : Hid (∀ u ∈ ys, u.oneCell' = true) := by rw [hys]; exact natV_one _
                  have HPS : Hid (∀ Y, V.grownBy Y none → V.heap.size ≤ Y.heap.size) := fun Y hY => hY.size
                  rw [← hQ] at HRW
                  have HFIN : Hid (∀ (Y W : World) (a6 : Option Addr) (c6 : Nat), V.grownBy Y none → Y.grownBy W none → W.ownsRow V.heap.size 3 1 (.slice a6 jn c6) jn ys → (W.cell? ⟨rb, i, none⟩ = some (.slice none 0 0) ∧ W.frozen? ⟨rb, i, none⟩ = false) ∧ RwP (W.setCell ⟨rb, i, none⟩ (.slice a6 jn c6)) w8.heap.size rb N Q (updC va i a6) (updC vc i c6) (i + 1) ∧ w8.grownBy (W.setCell ⟨rb, i, none⟩ (.slice a6 jn c6)) none) := fun Y W a6 c6 hY hW ho => by
                    have hVW := grown_trans hY hW
                    have hv := (HRW.out.kept hVW).val
                    have h1 := hv.cell i hlt
                    rw [if_neg (Nat.lt_irrefl i)] at h1
                    have h2 := HRW.out.put hVW HGX.out.size (a := a6) (c := c6) (by rw [hQi, ← hjn, ← hys]; exact ho)
                    rw [hQi, ← hjn] at h2
                    exact ⟨⟨h1, hv.free i⟩, h2, grown_new (grown_trans HGX.out hVW) (grown_setCell _ _ _) HRB.out⟩
                  have HQE := hidW hQ
                  have hj0 : (0 : Int) ≤ (j : Int) := by omega
                  have hj1 : (j : Int) < (c : Int) := by omega
                  clear hj hQ hQi hja hjn hjc hys hI hRk
                  go_wp2_with fail
                  go_region_law (first
                    | (refine step_append_src rfl (.tmp 177) (.tmp 184) 28 rfl V.heap.size 3 i0 (.int .i64 0) 1 8 Tryd.underlying28 hi0 hz0 hz1 hz2 rfl (by decide) (.slice none 0 0) 0 [] (by first | (simp [Act.eval]; done) | simp [Act.eval, Act.put]) (World.ownsRow_nil _ _ _ _) ja jn jc ys (by first | (simp [Act.eval]; done) | simp [Act.eval, Act.put]) HNIL.out HLL.out (HSRC.out _ (grown_drewN _ _)) HON1.out (by unfold maxLen; omega) (by omega) (HPS.out _ (grown_drewN _ _)) ?_; intro v9 wB hoB hgB; obtain ⟨a6, c6, rfl⟩ := owns_slice hoB; simp only [Nat.zero_add, List.nil_append] at hoB ⊢; obtain ⟨⟨q1, q2⟩, q3, q4⟩ := HFIN.out _ wB a6 c6 (grown_drewN _ _) hgB hoB; have HQ3 := hidW q3; have HQ4 := hidW q4; clear q3 q4 hoB hgB)
                    | fail)
                  all_goals rw [HQE.out] at HQ3
                  all_goals go_wp2_with fail
                  all_goals go_roundg (N - (i + 1))
                  all_goals first
                    | exact (show ∃ (i' : Nat), _ from ⟨i + 1, _, _, by omega, rfl, by go_num, HQ3.out, HQ4.out⟩)
                    | (have := HGI.out; omega)
                · have hin : N = i := by omega
                  subst hin
                  have hid : decide (N < N) = false := decide_eq_false (by omega)
                  have hNl : N ≤ maxLen := by unfold maxLen; omega
                  have hGf : w.grownBy V none := grown_trans HG1R.out (grown_trans HG.out HGX.out)
                  have hsz : w.heap.size ≤ w8.heap.size := (grown_trans HG1R.out HG.out).size
                  have HF : Hid (CqP V w.heap.size (some ⟨rb, 0, none⟩) N N (fun x => memN (ak (o x))) va vc) := by
                    have h1 := HRW.out.done hNl
                    exact ⟨owns_lower h1.out hsz, fun j hj => owns_lower (h1.inn j hj) hsz, h1.sep⟩
                  have HGF := hidW hGf
                  clear hGf hsz hNl HRW HGX
                  go_wp2_with fail
                  go_ret2
                  exact ⟨rb, fun x => ak (o x), va, vc, rfl, HAK.out, HF.out, HGF.out⟩

end Go.Proofs.YtjijagnpcmonbaaDoor.J
