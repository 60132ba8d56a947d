import Derived.Test.YthoamlahbnphkaaGreatQbdeldfkpdgmp
import Derived.Test.YthoamlahbnphkaaGreatQndcdcbepcklc

/-
  lr0: states in memory; the document's place.
-/
namespace Go.Proofs.YthoamlahbnphkaaGreat.J
open Go.RowKit Go.Maps Go.Shelf

attribute [local go_sem] Oper.semAt_some

/-- The kernels of states in memory: ka and kc say where they lie and what room they have. -/
def KersAt (X : World) (a : Option Addr) (ks : List (List It)) (ka : Nat → Option Addr) (kc : Nat → Nat) : Prop := ks = [] ∨ ∃ b off, a = some ⟨b, off, none⟩ ∧ ∀ i, i < ks.length → X.cell? ⟨b, off + i * 2, none⟩ = some (.slice (ka i) (ks.getD i []).length (kc i)) ∧ ItsAt X (ka i) (ks.getD i [])
theorem KersAt.kept {X Y : World} {a : Option Addr} {ks : List (List It)} {ka : Nat → Option Addr} {kc : Nat → Nat} (h : KersAt X a ks ka kc) (hg : X.grownBy Y none) : KersAt Y a ks ka kc := by
  rcases h with h | ⟨b, off, e, h⟩
  · exact .inl h
  · exact .inr ⟨b, off, e, fun i hi => ⟨hg.cell (h i hi).1 (by simp), (h i hi).2.kept hg⟩⟩
theorem KersAt.at {X : World} {a : Option Addr} {ks : List (List It)} {ka : Nat → Option Addr} {kc : Nat → Nat} (h : KersAt X a ks ka kc) {i : Nat} (hi : i < ks.length) : ∃ b off, a = some ⟨b, off, none⟩ ∧ X.cell? ⟨b, off + i * 2, none⟩ = some (.slice (ka i) (ks.getD i []).length (kc i)) ∧ ItsAt X (ka i) (ks.getD i []) := by
  rcases h with h | ⟨b, off, e, h⟩
  · rw [h] at hi; cases hi
  · exact ⟨b, off, e, h i hi⟩

/-- The place of a kernel, -1: there is none. -/
def placeV (ks : List (List It)) (k : List It) : Int := if k ∈ ks then (ks.idxOf k : Int) else -1
theorem placeV_at {ks : List (List It)} {k : List It} {i : Nat} (hi : i < ks.length) (h : ks.getD i [] = k) (hno : ∀ j, j < i → ks.getD j [] ≠ k) : placeV ks k = (i : Int) := by
  have e : ks.getD i [] = ks[i] := by rw [List.getD_eq_getElem?_getD, List.getElem?_eq_getElem hi]; rfl
  have hm : k ∈ ks := by rw [← h, e]; exact List.getElem_mem hi
  unfold placeV
  rw [if_pos hm]
  have h1 := List.idxOf_lt_length_iff.2 hm
  have h2 : ks.getD (ks.idxOf k) [] = k := by rw [List.getD_eq_getElem?_getD, List.getElem?_eq_getElem h1]; simp
  have h3 : ks.idxOf k ≤ i := by
    apply Classical.byContradiction
    intro hlt
    have h4 := List.not_of_lt_findIdx (p := (· == k)) (xs := ks) (i := i) (by unfold List.idxOf at hlt; omega)
    rw [← e, h] at h4
    simp at h4
  have h5 : ¬ ks.idxOf k < i := fun h6 => hno _ h6 h2
  congr 1
  omega
theorem placeV_no {ks : List (List It)} {k : List It} (hno : ∀ j, j < ks.length → ks.getD j [] ≠ k) : placeV ks k = -1 := by
  unfold placeV
  rw [if_neg]
  intro hm
  have h1 := List.idxOf_lt_length_iff.2 hm
  exact hno _ h1 (by rw [List.getD_eq_getElem?_getD, List.getElem?_eq_getElem h1]; simp)

set_option maxRecDepth 100000 in
theorem rplace_any (a a2 : Option Addr) (c c2 : Nat) (ks : List (List It)) (ka : Nat → Option Addr) (kc : Nat → Nat) (k : List It) (w : World) (h1 : KersAt w a ks ka kc) (h2 : ItsAt w a2 k) (hks : ks.length ≤ 256) (hb : ∀ i, i < ks.length → (ks.getD i []).length ≤ 1099511627776000) (hb2 : k.length ≤ 1099511627776000) :
    Calls Tryz.prog 85 #[.slice a ks.length c, .slice a2 k.length c2] w fun e y => e = .returned (.int .i64 (placeV ks k)) ∧ w.grownBy y none := by
  obtain ⟨N, hN⟩ : ∃ n, n = ks.length := ⟨_, rfl⟩
  have HN : Hid (N = ks.length) := hN
  have HK : Hid (∀ X, w.grownBy X none → KersAt X a ks ka kc) := fun X hX => h1.kept hX
  have HSM : Hid (∀ i X (b : Bool), i < ks.length → w.grownBy X none → (b = true ↔ ks.getD i [] = k) → Calls Tryz.prog 119 #[.slice (ka i) (ks.getD i []).length (kc i), .slice a2 k.length c2] X fun e y => e = .returned (.bool b) ∧ X.grownBy y none) := fun i X b hi hX hbb => by
    obtain ⟨_, _, _, _, h3⟩ := (h1.kept hX).at hi
    exact sameItems_any (ka i) a2 (kc i) c2 _ k X h3 (h2.kept hX) (hb i hi) hb2 b hbb
  obtain ⟨m, hm⟩ : ∃ n, n = k.length := ⟨_, rfl⟩
  rw [← hm] at HSM
  rw [← hN] at hks
  rw [← hN, ← hm]
  clear h1 h2 hb hb2 hN hm
  go_enter Tryz.func85, Tryz.ntmps85
  go_wp2_with fail
  go_loopg [5] N (fun gk v5 wr => ∃ i : Nat, i ≤ N ∧ gk = N - i ∧ v5 = .int .i64 i ∧ w.grownBy wr none ∧ ∀ j, j < i → ks.getD j [] ≠ k)
  case atStart => exact ⟨0, Nat.zero_le _, rfl, rfl, grown_refl _ _, fun i hi => absurd hi (Nat.not_lt_zero _)⟩
  case round =>
    obtain ⟨i, hi, hgi, rfl, hg, hno⟩ := hrel
    have HGI : Hid (gk = N - i) := hgi
    have HG : Hid (w.grownBy wr none) := hg
    have HNO : Hid (∀ j, j < i → ks.getD j [] ≠ k) := hno
    clear hgi hg hno
    by_cases hlt : i < N
    · have hi0 : (0 : Int) ≤ (i : Int) := by omega
      have hi1 : (i : Int) < (N : Int) := by omega
      have hid : decide (i < N) = true := decide_eq_true hlt
      have hil : i < ks.length := by rw [← HN.out]; exact hlt
      obtain ⟨b, off, rfl, c0, _⟩ := (HK.out wr HG.out).at hil
      obtain ⟨bb, hbb⟩ := boolOf (ks.getD i [] = k)
      have HBB : Hid (bb = true ↔ ks.getD i [] = k) := hbb
      have HC := show Hid _ from HSM.out i wr bb hil HG.out hbb
      obtain ⟨q, hq⟩ : ∃ q, q = (ks.getD i []).length := ⟨_, rfl⟩
      rw [← hq] at c0 HC
      have HIL : Hid (i < ks.length) := hil
      clear hbb hq hil
      go_wp2_with fail
      refine Calls.mono HC.out ?_
      rintro e w2 ⟨rfl, hg2⟩
      have HG2 : Hid (w.grownBy w2 none) := grown_trans HG.out hg2
      clear HC hg2 c0
      cases bb with
      | true =>
        have HPV : Hid (placeV ks k = (i : Int)) := placeV_at HIL.out (HBB.out.1 rfl) HNO.out
        clear HBB
        go_wp2_with fail
        go_ret
        exact ⟨by rw [HPV.out]; rfl, HG2.out⟩
      | false =>
        have HNE : Hid (ks.getD i [] ≠ k) := fun h3 => absurd (HBB.out.2 h3) (by decide)
        clear HBB
        go_wp2_with fail
        go_roundg (N - (i + 1))
        case measure => have := HGI.out; omega
        case rel => exact ⟨i + 1, by omega, rfl, by go_num, HG2.out, fun j hj => by
          by_cases e : j = i
          · rw [e]; exact HNE.out
          · exact HNO.out j (by omega)⟩
    · have hin : N = i := by omega
      subst hin
      have hid : decide (N < N) = false := decide_eq_false (by omega)
      have HP : Hid (placeV ks k = -1) := placeV_no (fun j hj => HNO.out j (by rw [HN.out]; exact hj))
      go_wp2_with fail
      go_ret
      exact ⟨by rw [HP.out]; rfl, HG.out⟩

end Go.Proofs.YthoamlahbnphkaaGreat.J

/-
  lr0: slices.Equal of items.
-/
namespace Go.Proofs.YthoamlahbnphkaaGreat.J
open Go.RowKit Go.Maps Go.Shelf

attribute [local go_sem] Oper.semAt_some

set_option maxRecDepth 100000 in
theorem equalItems_any (a1 a2 : Option Addr) (c1 c2 : Nat) (l m : List It) (w : World) (h1 : ItsAt w a1 l) (h2 : ItsAt w a2 m) (hb : l.length ≤ 1099511627776000) (hb2 : m.length ≤ 1099511627776000) (r : Bool) (hr : r = true ↔ l = m) :
    Calls Tryz.prog 112 #[.slice a1 l.length c1, .slice a2 m.length c2] w fun e y => e = .returned (.bool r) ∧ w.grownBy y none := by
  obtain ⟨n1, hn1⟩ : ∃ n, n = l.length := ⟨_, rfl⟩
  obtain ⟨n2, hn2⟩ : ∃ n, n = m.length := ⟨_, rfl⟩
  have HR : Hid (r = true ↔ l = m) := hr
  have HN : Hid (n1 = l.length ∧ n2 = m.length) := ⟨hn1, hn2⟩
  have HI : Hid (∀ X, w.grownBy X none → ItsAt X a1 l ∧ ItsAt X a2 m) := fun X hX => ⟨h1.kept hX, h2.kept hX⟩
  rw [← hn1] at hb
  rw [← hn2] at hb2
  rw [← hn1, ← hn2]
  have hgu := guard_item
  clear hr hn1 hn2 h1 h2
  by_cases hne : n1 = n2
  · subst hne
    have hd : ((n1 : Int) != (n1 : Int)) = false := bne_self_eq_false _
    go_enter Tryz.func112, Tryz.ntmps112
    go_wp2_with fail
    go_loopg [13] n1 (fun gk v13 wr => ∃ j : Nat, j ≤ n1 ∧ gk = n1 - j ∧ v13 = .int .i64 j ∧ w.grownBy wr none ∧ ∀ i, i < j → l.getD i (0, 0) = m.getD i (0, 0))
    case atStart => exact ⟨0, Nat.zero_le _, rfl, rfl, grown_refl _ _, fun i hi => absurd hi (Nat.not_lt_zero _)⟩
    case round =>
      obtain ⟨j, hj, hgj, rfl, hg, hs⟩ := hrel
      have HGJ : Hid (gk = n1 - j) := hgj
      have HG : Hid (w.grownBy wr none) := hg
      have HS : Hid (∀ i, i < j → l.getD i (0, 0) = m.getD i (0, 0)) := hs
      clear hgj hg hs
      by_cases hlt : j < n1
      · have hj0 : (0 : Int) ≤ (j : Int) := by omega
        have hj1 : (j : Int) < (n1 : Int) := by omega
        have hjd : decide (j < n1) = true := decide_eq_true hlt
        obtain ⟨b1, o1, rfl, c0, c1'⟩ := (HI.out wr HG.out).1.at (i := j) (by rw [← HN.out.1]; exact hlt)
        obtain ⟨b2, o2, rfl, d0, d1⟩ := (HI.out wr HG.out).2.at (i := j) (by rw [← HN.out.2]; exact hlt)
        obtain ⟨x, hx⟩ : ∃ x, x = l.getD j (0, 0) := ⟨_, rfl⟩
        obtain ⟨y, hy⟩ : ∃ y, y = m.getD j (0, 0) := ⟨_, rfl⟩
        have HXY : Hid (x = l.getD j (0, 0) ∧ y = m.getD j (0, 0)) := ⟨hx, hy⟩
        rw [← hx] at c0 c1'
        rw [← hy] at d0 d1
        clear hx hy
        obtain ⟨xp, xd⟩ := x
        obtain ⟨yp, yd⟩ := y
        simp only at c0 c1' d0 d1
        obtain ⟨bb, hbb⟩ : ∃ b, b = (xp == yp && xd == yd) := ⟨_, rfl⟩
        have HBB : Hid (bb = true ↔ l.getD j (0, 0) = m.getD j (0, 0)) := by
          rw [← HXY.out.1, ← HXY.out.2, hbb, Bool.and_eq_true, beq_iff_eq, beq_iff_eq]
          exact ⟨fun h => Prod.ext h.1 h.2, fun h => ⟨congrArg Prod.fst h, congrArg Prod.snd h⟩⟩
        have hE : ∀ X : World, (binOp .neq 69 (.agg #[.int .i64 xp, .int .i64 xd]) (.agg #[.int .i64 yp, .int .i64 yd])).run Tryz.prog X = .ok (.bool (!bb)) X := fun X => by rw [hbb]; exact neq_item xp xd yp yd X
        clear hbb
        cases bb with
        | true =>
          have HEQ : Hid (l.getD j (0, 0) = m.getD j (0, 0)) := HBB.out.1 rfl
          clear HBB
          go_wp2_with fail
          go_quiet (fail)
          go_wp2_with fail
          go_roundg (n1 - (j + 1))
          case measure => have := HGJ.out; omega
          case rel => exact ⟨j + 1, by omega, rfl, by go_num, grown_trans HG.out (grown_drewN _ _), fun i hi => by
            by_cases e : i = j
            · rw [e]; exact HEQ.out
            · exact HS.out i (by omega)⟩
        | false =>
          have HRF : Hid (r = false) := by
            show _ = _
            cases hrr : r with
            | false => rfl
            | true =>
              have := HR.out.1 hrr
              rw [this] at HBB
              exact absurd (HBB.out.2 rfl) (by decide)
          go_wp2_with fail
          go_quiet (fail)
          go_wp2_with fail
          go_ret
          exact ⟨by rw [HRF.out]; rfl, grown_trans HG.out (grown_drewN _ _)⟩
      · have hjn : n1 = j := by omega
        subst hjn
        have hjd : decide (n1 < n1) = false := decide_eq_false (by omega)
        have HRT : Hid (r = true) := HR.out.2 (by
          apply List.ext_getElem (by rw [← HN.out.1, ← HN.out.2])
          intro i q1 q2
          have h3 := HS.out i (by rw [HN.out.1]; exact q1)
          rwa [List.getD_eq_getElem?_getD, List.getD_eq_getElem?_getD, List.getElem?_eq_getElem q1, List.getElem?_eq_getElem q2] at h3)
        go_wp2_with fail
        go_ret
        exact ⟨by rw [HRT.out]; rfl, HG.out⟩
  · have hd : ((n1 : Int) != (n2 : Int)) = true := bne_iff_ne.2 (by omega)
    have HRF : Hid (r = false) := by
      show _ = _
      cases hrr : r with
      | false => rfl
      | true =>
        have h3 := HR.out.1 hrr
        exact absurd (by rw [HN.out.1, HN.out.2, h3]) hne
    go_enter Tryz.func112, Tryz.ntmps112
    go_wp2_with fail
    go_ret
    exact ⟨by rw [HRF.out]; rfl, grown_refl _ _⟩

end Go.Proofs.YthoamlahbnphkaaGreat.J

/-
  lr0: the maker in memory.
-/
namespace Go.Proofs.YthoamlahbnphkaaGreat.J
open Go.RowKit Go.Maps Go.Shelf

/-- The states whose kernels begin with x. -/
def begI (ks : List (List It)) (x : It) : List Nat := (List.range ks.length).filter fun i => (ks.getD i []).head? == some x
theorem mem_begI {ks : List (List It)} {x : It} {i : Nat} : i ∈ begI ks x ↔ i < ks.length ∧ (ks.getD i []).head? = some x := by
  unfold begI
  rw [List.mem_filter, List.mem_range, beq_iff_eq]
theorem begI_nil (x : It) : begI [] x = [] := rfl
theorem begI_len (ks : List (List It)) (x : It) : (begI ks x).length ≤ ks.length := by
  unfold begI
  exact Nat.le_trans (List.length_filter_le _ _) (by rw [List.length_range]; exact Nat.le_refl _)
theorem begI_snoc (ks : List (List It)) (k : List It) (x : It) : begI (ks ++ [k]) x = begI ks x ++ (if k.head? = some x then [ks.length] else []) := by
  unfold begI
  rw [List.length_append, List.length_singleton, List.range_succ, List.filter_append]
  congr 1
  · refine List.filter_congr fun i hi => ?_
    rw [getD_snoc_old (List.mem_range.1 hi)]
  · by_cases h : k.head? = some x
    · rw [if_pos h, List.filter_cons, getD_snoc_new, h]; simp
    · rw [if_neg h, List.filter_cons, getD_snoc_new, if_neg (by rw [beq_iff_eq]; exact h)]; rfl

def natV (l : List Nat) : List Value := l.map fun (i : Nat) => Value.int .i64 (i : Int)
theorem natV_append (l m : List Nat) : natV (l ++ m) = natV l ++ natV m := by unfold natV; rw [List.map_append]
theorem natV_len (l : List Nat) : (natV l).length = l.length := by unfold natV; rw [List.length_map]
theorem natV_at (l : List Nat) (i : Nat) (hi : i < l.length) : (natV l)[i]? = some (.int .i64 ((l.getD i 0 : Nat) : Int)) := by
  unfold natV
  rw [List.getElem?_map, List.getElem?_eq_getElem hi, List.getD_eq_getElem?_getD, List.getElem?_eq_getElem hi]; rfl
theorem natV_one (l : List Nat) : ∀ u ∈ natV l, u.oneCell' = true := by
  intro u h
  unfold natV at h
  obtain ⟨i, _, rfl⟩ := List.mem_map.1 h
  rfl

/-- States, as cells. -/
def stV (kv ev : Nat → Value) : Nat → List Value
  | 0 => []
  | N + 1 => stV kv ev N ++ [kv N, ev N]
theorem stV_congr {kv ev kv' ev' : Nat → Value} : ∀ (N : Nat), (∀ i, i < N → kv i = kv' i ∧ ev i = ev' i) → stV kv ev N = stV kv' ev' N
  | 0, _ => rfl
  | N + 1, h => by
    unfold stV
    rw [stV_congr N (fun i hi => h i (by omega)), (h N (by omega)).1, (h N (by omega)).2]
theorem stV_len (kv ev : Nat → Value) : ∀ N, (stV kv ev N).length = N * 2
  | 0 => rfl
  | N + 1 => by unfold stV; rw [List.length_append, stV_len kv ev N]; simp; omega
theorem stV_at (kv ev : Nat → Value) : ∀ (N i : Nat), i < N → (stV kv ev N)[i * 2]? = some (kv i) ∧ (stV kv ev N)[i * 2 + 1]? = some (ev i)
  | 0, i, h => absurd h (Nat.not_lt_zero _)
  | N + 1, i, h => by
    unfold stV
    have hl := stV_len kv ev N
    by_cases e : i < N
    · rw [List.getElem?_append_left (by omega), List.getElem?_append_left (by omega)]
      exact stV_at kv ev N i e
    · have : i = N := by omega
      subst this
      rw [List.getElem?_append_right (by omega), List.getElem?_append_right (by omega), hl, Nat.sub_self, show i * 2 + 1 - i * 2 = 1 by omega]
      exact ⟨rfl, rfl⟩
theorem stV_set (kv ev : Nat → Value) (v : Value) : ∀ (N i : Nat), i < N → (stV kv ev N).set (i * 2 + 1) v = stV kv (updL ev i v) N
  | 0, i, h => absurd h (Nat.not_lt_zero _)
  | N + 1, i, h => by
    unfold stV
    have hl := stV_len kv ev N
    by_cases e : i < N
    · rw [List.set_append_left _ _ (by omega), stV_set kv ev v N i e, updL_other _ _ (by omega : N ≠ i)]
    · have : i = N := by omega
      subst this
      rw [List.set_append_right _ _ (by omega), hl, show i * 2 + 1 - i * 2 = 1 by omega, updL_same, stV_congr (kv' := kv) (ev' := updL ev i v) i (fun j hj => ⟨rfl, (updL_other _ _ (by omega)).symm⟩)]
      rfl

/-- Blocks of cells of other types than the maker's own stay. -/
structure KeepT (X Y : World) : Prop where
  os : Y.os = X.os
  tape : Y.tape = X.tape
  output : Y.output = X.output
  size : X.heap.size ≤ Y.heap.size
  block : ∀ (b : Nat) (cs : Array Value) (e : TypeId) (h : Nat × Nat), e ≠ 134 → e ≠ 67 → e ≠ 3 → X.heap[b]? = some (.cells cs e h) → Y.heap[b]? = some (.cells cs e h)
theorem KeepT.refl (X : World) : KeepT X X := ⟨rfl, rfl, rfl, Nat.le_refl _, fun _ _ _ _ _ _ _ h => h⟩
theorem KeepT.trans {X Y Z : World} (h : KeepT X Y) (k : KeepT Y Z) : KeepT X Z := ⟨k.os.trans h.os, k.tape.trans h.tape, k.output.trans h.output, Nat.le_trans h.size k.size, fun b cs e hh h1 h2 h3 h4 => k.block b cs e hh h1 h2 h3 (h.block b cs e hh h1 h2 h3 h4)⟩
theorem KeepT.none {X Y : World} (h : X.grownBy Y none) : KeepT X Y := ⟨h.os, h.tape, h.output, h.size, fun _ _ _ _ _ _ _ h4 => box_kept h4 h⟩
theorem KeepT.at {X Y : World} {r : Nat} (h : X.grownBy Y (some r)) (hr : ∀ (cs : Array Value) (e : TypeId) (hh : Nat × Nat), X.heap[r]? = some (.cells cs e hh) → e = 134 ∨ e = 67 ∨ e = 3) : KeepT X Y := ⟨h.os, h.tape, h.output, h.size, fun b cs e hh h1 h2 h3 h4 => by
  refine (h.block b (Array.getElem?_eq_some_iff.1 h4).1 ?_).trans h4
  intro e2
  have e3 : b = r := by simpa using e2
  subst e3
  rcases hr _ _ _ h4 with h5 | h5 | h5
  · exact h1 h5
  · exact h2 h5
  · exact h3 h5⟩
theorem KeepT.row {X Y : World} {B e s n : Nat} {v : Value} {xs : List Value} (h : X.grownBy Y v.ownBlock) (ho : X.ownsRow B e s v n xs) (he : e = 134 ∨ e = 67 ∨ e = 3) : KeepT X Y := by
  rcases ho.2 with ⟨rfl, _⟩ | ⟨g, cap, cur, rfl, hB, hh, _⟩
  · exact .none h
  · refine .at (r := g) h fun cs e2 hh2 h2 => ?_
    rw [hh] at h2
    simp only [Option.some.injEq, Obj.cells.injEq] at h2
    rw [← h2.2.1]; exact he
theorem KeepT.owns {X Y : World} {B e s n : Nat} {v : Value} {xs : List Value} (h : KeepT X Y) (ho : X.ownsRow B e s v n xs) (h1 : e ≠ 134) (h2 : e ≠ 67) (h3 : e ≠ 3) : Y.ownsRow B e s v n xs := by
  refine ⟨ho.1, ?_⟩
  rcases ho.2 with hn | ⟨g, cap, cur, rfl, hb, hgg, rest⟩
  · exact .inl hn
  · exact .inr ⟨g, cap, cur, rfl, hb, h.block _ _ _ _ h1 h2 h3 hgg, rest⟩
theorem KeepT.val {X Y : World} {k len : Nat} {t : TypeId} {c : Nat → Value} (h : KeepT X Y) (hv : ValAt X k len t c) (h1 : t ≠ 134) (h2 : t ≠ 67) (h3 : t ≠ 3) : ValAt Y k len t c := h.block _ _ _ _ h1 h2 h3 hv

/-- The maker under way: what its box says (bs, ba, bi), its states' row, its map and the map's rows. -/
structure MkP (w X : World) (mb bm : Nat) (c0 c1 c2 c3 c4 bs : Value) (ba bi : Int) (rv : Value) (N : Nat) (kv ev : Nat → Value) (kl el : Nat → List It) (m : Nat) (mv fv : It → Value) (nl : It → List Nat) (E : Nat) : Prop where
  grown : w.grownBy X none
  box : X.heap[mb]? = some (.cells #[c0, c1, c2, c3, c4, bs, .int .i64 ba, .int .i64 bi, .map (some bm)] 134 (0, 0))
  row : X.ownsRow w.heap.size 67 2 rv N (stV kv ev N)
  ker : ∀ i, i < N → X.ownsRow w.heap.size 69 2 (kv i) (kl i).length (itsV (kl i))
  edg : ∀ i, i < N → X.ownsRow w.heap.size 115 2 (ev i) (el i).length (itsV (el i))
  mp : MpAt X bm m mv
  num : ∀ x, X.ownsRow w.heap.size 3 1 (fv x) (nl x).length (natV (nl x))
  sep : ∀ x y, x ≠ y → (fv x).ownBlock = none ∨ (fv x).ownBlock ≠ (fv y).ownBlock
  lo : w.heap.size ≤ bm ∧ w.heap.size ≤ mb
  elo : ∀ i, i < N → ∀ b, (ev i).ownBlock = some b → b < E

theorem MpAt.obj {X : World} {b n : Nat} {F : It → Value} (h : MpAt X b n F) : ∃ es cl, X.heap[b]? = some (.map es cl) := by
  obtain ⟨D, ⟨es, cl, h1, _⟩, _⟩ := h
  exact ⟨es, cl, h1⟩
theorem owns_nemap {w : World} {B e s n r : Nat} {v : Value} {xs : List Value} {es : Array MapEntry} {cl : Nat} (h : w.ownsRow B e s v n xs) (hr : w.heap[r]? = some (.map es cl)) : v.ownBlock = none ∨ v.ownBlock ≠ some r := by
  rcases h.2 with ⟨rfl, _⟩ | ⟨g, cap, cur, rfl, hB, hh, _⟩
  · exact .inl rfl
  · right
    intro e
    have : g = r := by simpa [Value.ownBlock] using e
    subst this
    rw [hh] at hr
    cases hr

section
variable {w X Y : World} {mb bm : Nat} {c0 c1 c2 c3 c4 bs : Value} {ba bi : Int} {rv : Value} {N : Nat} {kv ev : Nat → Value} {kl el : Nat → List It} {m : Nat} {mv fv : It → Value} {nl : It → List Nat} {E : Nat}
theorem MkP.kept (h : MkP w X mb bm c0 c1 c2 c3 c4 bs ba bi rv N kv ev kl el m mv fv nl E) (hg : X.grownBy Y none) : MkP w Y mb bm c0 c1 c2 c3 c4 bs ba bi rv N kv ev kl el m mv fv nl E :=
  ⟨grown_trans h.grown hg, box_kept h.box hg, keep0 h.row hg, fun i hi => keep0 (h.ker i hi) hg, fun i hi => keep0 (h.edg i hi) hg, h.mp.kept hg (by simp), fun x => keep0 (h.num x) hg, h.sep, h.lo, h.elo⟩
theorem MkP.cells (h : MkP w X mb bm c0 c1 c2 c3 c4 bs ba bi rv N kv ev kl el m mv fv nl E) : X.cell? ⟨mb, 0, none⟩ = some c0 ∧ X.cell? ⟨mb, 1, none⟩ = some c1 ∧ X.cell? ⟨mb, 2, none⟩ = some c2 ∧ X.cell? ⟨mb, 3, none⟩ = some c3 ∧ X.cell? ⟨mb, 4, none⟩ = some c4 ∧ X.cell? ⟨mb, 5, none⟩ = some bs ∧ X.cell? ⟨mb, 6, none⟩ = some (.int .i64 ba) ∧ X.cell? ⟨mb, 7, none⟩ = some (.int .i64 bi) ∧ X.cell? ⟨mb, 8, none⟩ = some (.map (some bm)) := by
  refine ⟨?_, ?_, ?_, ?_, ?_, ?_, ?_, ?_, ?_⟩ <;> (rw [cell_of_row _ _ _ _ _ _ h.box]; rfl)
theorem MkP.free (h : MkP w X mb bm c0 c1 c2 c3 c4 bs ba bi rv N kv ev kl el m mv fv nl E) (o : Nat) : X.frozen? ⟨mb, o, none⟩ = false := frozen_of_row _ _ _ _ _ h.box
theorem MkP.ne (h : MkP w X mb bm c0 c1 c2 c3 c4 bs ba bi rv N kv ev kl el m mv fv nl E) : bm ≠ mb := by
  obtain ⟨es, cl, h1⟩ := h.mp.obj
  intro e
  rw [e, h.box] at h1
  cases h1

/-- The box alone is turned. -/
theorem MkP.boxed (h : MkP w X mb bm c0 c1 c2 c3 c4 bs ba bi rv N kv ev kl el m mv fv nl E) {bs' : Value} {ba' bi' : Int} (hg : X.grownBy Y (some mb)) (hb : Y.heap[mb]? = some (.cells #[c0, c1, c2, c3, c4, bs', .int .i64 ba', .int .i64 bi', .map (some bm)] 134 (0, 0))) : MkP w Y mb bm c0 c1 c2 c3 c4 bs' ba' bi' rv N kv ev kl el m mv fv nl E ∧ KeepT X Y := by
  refine ⟨⟨grown_new h.grown hg h.lo.2, hb, h.row.kept hg (owns_nebox h.row h.box (by decide)), fun i hi => (h.ker i hi).kept hg (owns_nebox (h.ker i hi) h.box (by decide)), fun i hi => (h.edg i hi).kept hg (owns_nebox (h.edg i hi) h.box (by decide)), h.mp.kept hg (by simp; exact h.ne), fun x => (h.num x).kept hg (owns_nebox (h.num x) h.box (by decide)), h.sep, h.lo, h.elo⟩, .at hg fun cs e hh h2 => ?_⟩
  rw [h.box] at h2
  simp only [Option.some.injEq, Obj.cells.injEq] at h2
  exact .inl h2.2.1.symm
theorem MkP.setS (h : MkP w X mb bm c0 c1 c2 c3 c4 bs ba bi rv N kv ev kl el m mv fv nl E) (v : Value) : MkP w (X.setCell ⟨mb, 5, none⟩ v) mb bm c0 c1 c2 c3 c4 v ba bi rv N kv ev kl el m mv fv nl E ∧ KeepT X (X.setCell ⟨mb, 5, none⟩ v) :=
  h.boxed (grown_setCell _ _ _) (heap_setCell_same _ _ _ _ _ _ h.box)
theorem MkP.setA (h : MkP w X mb bm c0 c1 c2 c3 c4 bs ba bi rv N kv ev kl el m mv fv nl E) (v : Int) : MkP w (X.setCell ⟨mb, 6, none⟩ (.int .i64 v)) mb bm c0 c1 c2 c3 c4 bs v bi rv N kv ev kl el m mv fv nl E ∧ KeepT X (X.setCell ⟨mb, 6, none⟩ (.int .i64 v)) :=
  h.boxed (grown_setCell _ _ _) (heap_setCell_same _ _ _ _ _ _ h.box)
theorem MkP.setI (h : MkP w X mb bm c0 c1 c2 c3 c4 bs ba bi rv N kv ev kl el m mv fv nl E) (v : Int) : MkP w (X.setCell ⟨mb, 7, none⟩ (.int .i64 v)) mb bm c0 c1 c2 c3 c4 bs ba v rv N kv ev kl el m mv fv nl E ∧ KeepT X (X.setCell ⟨mb, 7, none⟩ (.int .i64 v)) :=
  h.boxed (grown_setCell _ _ _) (heap_setCell_same _ _ _ _ _ _ h.box)

/-- A row of the maker's alone is turned: all else stays. -/
theorem grown_owned {B e s n : Nat} {v : Value} {xs : List Value} (h : w.grownBy X none) (ho : X.ownsRow B e s v n xs) (hB : w.heap.size ≤ B) (hg : X.grownBy Y v.ownBlock) : w.grownBy Y none := by
  rcases ho.2 with ⟨rfl, _⟩ | ⟨g, cap, cur, rfl, hb, hh, _⟩
  · exact grown_trans h hg
  · exact grown_new (b := g) h hg (Nat.le_trans hB hb)
theorem map_row {B e s n : Nat} {v : Value} {xs : List Value} (h : MpAt X bm m mv) (ho : X.ownsRow B e s v n xs) (hg : X.grownBy Y v.ownBlock) : MpAt Y bm m mv := by
  obtain ⟨es, cl, h1⟩ := h.obj
  refine h.kept hg ?_
  intro e
  rcases owns_nemap ho h1 with h2 | h2
  · rw [h2] at e; cases e
  · exact h2 e.symm
theorem box_row {B e e' s n b : Nat} {v : Value} {xs : List Value} {cs : Array Value} (h : X.heap[b]? = some (.cells cs e' (0, 0))) (ho : X.ownsRow B e s v n xs) (hne : e ≠ e') (hg : X.grownBy Y v.ownBlock) : Y.heap[b]? = some (.cells cs e' (0, 0)) := by
  refine (hg.block b (Array.getElem?_eq_some_iff.1 h).1 ?_).trans h
  intro e2
  rcases owns_nebox ho h hne with h2 | h2
  · rw [h2] at e2; cases e2
  · exact h2 e2.symm
theorem row_row {B B' e e' s s' n n' : Nat} {v v' : Value} {xs xs' : List Value} (h : X.ownsRow B' e' s' v' n' xs') (ho : X.ownsRow B e s v n xs) (hne : e ≠ e') (hg : X.grownBy Y v.ownBlock) : Y.ownsRow B' e' s' v' n' xs' := by
  refine ⟨h.1, ?_⟩
  rcases h.2 with hn | ⟨g, cap, cur, rfl, hb, hgg, rest⟩
  · exact .inl hn
  · exact .inr ⟨g, cap, cur, rfl, hb, box_row hgg ho hne hg, rest⟩
/-- A state more. -/
theorem MkP.pushS (h : MkP w X mb bm c0 c1 c2 c3 c4 bs ba bi rv N kv ev kl el m mv fv nl E) {rv' kv0 : Value} {k : List It} (hk : X.ownsRow w.heap.size 69 2 kv0 k.length (itsV k)) (hg : X.grownBy Y rv.ownBlock) (ho : Y.ownsRow w.heap.size 67 2 rv' (N + 1) (stV kv ev N ++ [kv0, .slice none 0 0])) : MkP w Y mb bm c0 c1 c2 c3 c4 bs ba bi rv' (N + 1) (updL kv N kv0) (updL ev N (.slice none 0 0)) (updL kl N k) (updL el N []) m mv fv nl E ∧ KeepT X Y := by
  refine ⟨⟨grown_owned h.grown h.row (Nat.le_refl _) hg, box_row h.box h.row (by decide) hg, ?_, fun i hi => ?_, fun i hi => ?_, map_row h.mp h.row hg, fun x => row_row (h.num x) h.row (by decide) hg, h.sep, h.lo, fun i hi => ?_⟩, .row hg h.row (.inr (.inl rfl))⟩
  · have e : stV (updL kv N kv0) (updL ev N (.slice none 0 0)) (N + 1) = stV kv ev N ++ [kv0, .slice none 0 0] := by
      show stV _ _ N ++ _ = _
      rw [updL_same, updL_same, stV_congr N (fun i hi => ⟨updL_other _ _ (by omega), updL_other _ _ (by omega)⟩)]
    rw [e]; exact ho
  · by_cases e : i = N
    · subst e
      rw [updL_same, updL_same]
      exact row_row hk h.row (by decide) hg
    · rw [updL_other _ _ e, updL_other _ _ e]
      exact row_row (h.ker i (by omega)) h.row (by decide) hg
  · by_cases e : i = N
    · subst e
      rw [updL_same, updL_same]
      exact World.ownsRow_nil _ _ _ _
    · rw [updL_other _ _ e, updL_other _ _ e]
      exact row_row (h.edg i (by omega)) h.row (by decide) hg
  · by_cases e : i = N
    · subst e
      rw [updL_same]
      intro b hb
      cases hb
    · rw [updL_other _ _ e]
      exact h.elo i (by omega)
def updI {α : Type} (f : It → α) (s : It) (x : α) : It → α := fun i => if i = s then x else f i
theorem updI_same {α : Type} (f : It → α) (s : It) (x : α) : updI f s x s = x := if_pos rfl
theorem updI_other {α : Type} (f : It → α) {s i : It} (x : α) (h : i ≠ s) : updI f s x i = f i := if_neg h
/-- A number more in the row of x. -/
theorem MkP.pushN (h : MkP w X mb bm c0 c1 c2 c3 c4 bs ba bi rv N kv ev kl el m mv fv nl E) (x : It) {g c t : Nat} (hg : X.grownBy Y (fv x).ownBlock) (ho : Y.ownsRow w.heap.size 3 1 (.slice (some ⟨g, 0, none⟩) ((nl x).length + 1) c) ((nl x).length + 1) (natV (nl x) ++ [.int .i64 (t : Int)])) (hat : (fv x).ownBlock = some g ∨ g = X.heap.size) : MkP w Y mb bm c0 c1 c2 c3 c4 bs ba bi rv N kv ev kl el m mv (updI fv x (.slice (some ⟨g, 0, none⟩) ((nl x).length + 1) c)) (updI nl x (nl x ++ [t])) E ∧ KeepT X Y := by
  refine ⟨⟨grown_owned h.grown (h.num x) (Nat.le_refl _) hg, box_row h.box (h.num x) (by decide) hg, row_row h.row (h.num x) (by decide) hg, fun i hi => row_row (h.ker i hi) (h.num x) (by decide) hg, fun i hi => row_row (h.edg i hi) (h.num x) (by decide) hg, map_row h.mp (h.num x) hg, fun y => ?_, fun y z hne => ?_, h.lo, h.elo⟩, .row hg (h.num x) (.inr (.inr rfl))⟩
  · by_cases e : y = x
    · subst e
      rw [updI_same, updI_same, natV_append, List.length_append, List.length_singleton]
      exact ho
    · rw [updI_other _ _ e, updI_other _ _ e]
      exact (h.num y).kept hg (h.sep y x e)
  · have key : ∀ y, y ≠ x → (fv y).ownBlock = none ∨ (fv y).ownBlock ≠ some g := fun y e => by
      rcases hat with h1 | h1
      · rw [← h1]; exact h.sep y x e
      · cases hb : (fv y).ownBlock with
        | none => exact .inl rfl
        | some k =>
          right
          intro h2
          have := ((h.num y).lt k hb).2
          have : k = g := by simpa using h2
          omega
    by_cases e : y = x
    · subst e
      have e2 : z ≠ y := fun h => hne h.symm
      rw [updI_same, updI_other _ _ e2]
      right
      rcases key z e2 with h1 | h1
      · rw [h1]; simp [Value.ownBlock]
      · exact fun h2 => h1 h2.symm
    · rw [updI_other _ _ e]
      by_cases e2 : z = x
      · subst e2
        rw [updI_same]
        exact key y e
      · rw [updI_other _ _ e2]
        exact h.sep y z hne
/-- The map is told. -/
theorem MkP.told (h : MkP w X mb bm c0 c1 c2 c3 c4 bs ba bi rv N kv ev kl el m mv fv nl E) {m' : Nat} {mv' : It → Value} (hg : X.grownBy Y (some bm)) (hm : MpAt Y bm m' mv') : MkP w Y mb bm c0 c1 c2 c3 c4 bs ba bi rv N kv ev kl el m' mv' fv nl E ∧ KeepT X Y := by
  obtain ⟨es, cl, h1⟩ := h.mp.obj
  refine ⟨⟨grown_new h.grown hg h.lo.1, (hg.block _ (Array.getElem?_eq_some_iff.1 h.box).1 (by simp; exact fun e => h.ne e.symm)).trans h.box, h.row.kept hg (owns_nemap h.row h1), fun i hi => (h.ker i hi).kept hg (owns_nemap (h.ker i hi) h1), fun i hi => (h.edg i hi).kept hg (owns_nemap (h.edg i hi) h1), hm, fun x => (h.num x).kept hg (owns_nemap (h.num x) h1), h.sep, h.lo, h.elo⟩, .at hg fun cs e hh h2 => ?_⟩
  rw [h1] at h2
  cases h2
/-- The edges of a state. -/
theorem MkP.setE (h : MkP w X mb bm c0 c1 c2 c3 c4 bs ba bi rv N kv ev kl el m mv fv nl E) {g cap i : Nat} {v : Value} {ed : List It} (hrv : rv = .slice (some ⟨g, 0, none⟩) N cap) (hi : i < N) (hv : X.ownsRow w.heap.size 115 2 v ed.length (itsV ed)) (hE : E ≤ X.heap.size) : MkP w (X.setCell ⟨g, i * 2 + 1, none⟩ v) mb bm c0 c1 c2 c3 c4 bs ba bi rv N kv (updL ev i v) kl (updL el i ed) m mv fv nl X.heap.size ∧ KeepT X (X.setCell ⟨g, i * 2 + 1, none⟩ v) := by
  have hg : X.grownBy (X.setCell ⟨g, i * 2 + 1, none⟩ v) rv.ownBlock := by rw [hrv]; exact grown_setCell _ _ _
  refine ⟨⟨grown_owned h.grown h.row (Nat.le_refl _) hg, box_row h.box h.row (by decide) hg, ?_, fun j hj => row_row (h.ker j hj) h.row (by decide) hg, fun j hj => ?_, map_row h.mp h.row hg, fun x => row_row (h.num x) h.row (by decide) hg, h.sep, h.lo, fun j hj b hb => ?_⟩, .row hg h.row (.inr (.inl rfl))⟩
  · have hr := h.row
    refine ⟨by rw [stV_len], ?_⟩
    rcases hr.2 with ⟨h1, h2⟩ | ⟨g2, cap2, cur, h1, hB, hh, h3, h4, h5, h6⟩
    · omega
    · rw [h1] at hrv
      simp only [Value.slice.injEq, Option.some.injEq, Addr.mk.injEq] at hrv
      obtain ⟨⟨rfl, _⟩, _, rfl⟩ := hrv
      refine .inr ⟨g2, cap2, cur.setIfInBounds (i * 2 + 1) v, h1, hB, heap_setCell_same _ _ _ _ _ _ hh, h3, h4, by rw [Array.size_setIfInBounds]; exact h5, ?_⟩
      rw [← stV_set kv ev v N i hi, ← h6, Array.toList_setIfInBounds, List.take_set]
  · by_cases e : j = i
    · subst e
      rw [updL_same, updL_same]
      exact row_row hv h.row (by decide) hg
    · rw [updL_other _ _ e, updL_other _ _ e]
      exact row_row (h.edg j hj) h.row (by decide) hg
  · by_cases e : j = i
    · subst e
      rw [updL_same] at hb
      exact (hv.lt b hb).2
    · rw [updL_other _ _ e] at hb
      exact Nat.lt_of_lt_of_le (h.elo j hj b hb) hE
/-- A row of edges that is no state's yet is turned. -/
theorem MkP.edged (h : MkP w X mb bm c0 c1 c2 c3 c4 bs ba bi rv N kv ev kl el m mv fv nl E) {B n : Nat} {v : Value} {xs : List Value} (ho : X.ownsRow B 115 2 v n xs) (hB : E ≤ B) (hw : w.heap.size ≤ B) (hg : X.grownBy Y v.ownBlock) : MkP w Y mb bm c0 c1 c2 c3 c4 bs ba bi rv N kv ev kl el m mv fv nl E := by
  refine ⟨grown_owned h.grown ho hw hg, box_row h.box ho (by decide) hg, row_row h.row ho (by decide) hg, fun i hi => row_row (h.ker i hi) ho (by decide) hg, fun i hi => (h.edg i hi).kept hg ?_, map_row h.mp ho hg, fun x => row_row (h.num x) ho (by decide) hg, h.sep, h.lo, h.elo⟩
  cases hb : (ev i).ownBlock with
  | none => exact .inl rfl
  | some b =>
    right
    intro e
    have h1 := h.elo i hi b hb
    have h2 := (ho.lt b e.symm).1
    omega
theorem MkP.up (h : MkP w X mb bm c0 c1 c2 c3 c4 bs ba bi rv N kv ev kl el m mv fv nl E) : MkP w X mb bm c0 c1 c2 c3 c4 bs ba bi rv N kv ev kl el m mv fv nl X.heap.size :=
  ⟨h.grown, h.box, h.row, h.ker, h.edg, h.mp, h.num, h.sep, h.lo, fun i hi b hb => ((h.edg i hi).lt b hb).2⟩
end
theorem KeepT.young {P X Y : World} {e s n : Nat} {v : Value} {xs : List Value} (h : KeepT P X) (ho : X.ownsRow P.heap.size e s v n xs) (hg : X.grownBy Y v.ownBlock) : KeepT P Y := by
  refine ⟨hg.os.trans h.os, hg.tape.trans h.tape, hg.output.trans h.output, Nat.le_trans h.size hg.size, fun b cs e2 hh h1 h2 h3 h4 => ?_⟩
  have h5 := (Array.getElem?_eq_some_iff.1 h4).1
  refine (hg.block b (Nat.lt_of_lt_of_le h5 h.size) ?_).trans (h.block b cs e2 hh h1 h2 h3 h4)
  intro e3
  have := (ho.lt b e3.symm).1
  omega

/-- The maker between two asks. -/
def MkAt (w X : World) (mb bm : Nat) (c0 c1 c2 c3 c4 : Value) (ks : List (List It)) (asked : Int) (el : Nat → List It) (E : Nat) : Prop := ∃ (sa : Option Addr) (sc : Nat) (kv ev : Nat → Value) (m : Nat) (fv : It → Value), MkP w X mb bm c0 c1 c2 c3 c4 (.slice sa ks.length sc) asked (ks.length : Int) (.slice sa ks.length sc) ks.length kv ev (fun i => ks.getD i []) el m fv fv (begI ks) E ∧ m ≤ ks.length
theorem MkAt.kept {w X Y : World} {mb bm : Nat} {c0 c1 c2 c3 c4 : Value} {ks : List (List It)} {asked : Int} {el : Nat → List It} {E : Nat} (h : MkAt w X mb bm c0 c1 c2 c3 c4 ks asked el E) (hg : X.grownBy Y none) : MkAt w Y mb bm c0 c1 c2 c3 c4 ks asked el E := by
  obtain ⟨sa, sc, kv, ev, m, fv, h1, h2⟩ := h
  exact ⟨sa, sc, kv, ev, m, fv, h1.kept hg, h2⟩
theorem mk_done {w X : World} {mb bm : Nat} {c0 c1 c2 c3 c4 : Value} {ks : List (List It)} {asked : Int} {el : Nat → List It} {E : Nat} {k : List It} {x : It} (hx : k.head? = some x) {N : Nat} (hN : N = ks.length) (hel : ∀ i, N ≤ i → el i = []) {sa : Option Addr} {sc : Nat} {kv ev : Nat → Value} {m : Nat} {fv : It → Value} {v : Value} {nl : It → List Nat} {kl : Nat → List It} (hnl : nl = begI ks) (hkl : kl = fun i => ks.getD i []) (hm : m ≤ N) (h : MkP w X mb bm c0 c1 c2 c3 c4 (.slice sa (N + 1) sc) asked ((N : Int) + 1) (.slice sa (N + 1) sc) (N + 1) kv ev (updL kl N k) (updL el N []) (m + 1) (putI fv x v) (updI fv x v) (updI nl x (nl x ++ [N])) E) : MkAt w X mb bm c0 c1 c2 c3 c4 (ks ++ [k]) asked el E := by
  subst hN hnl hkl
  have e1 : updL (fun i => ks.getD i []) ks.length k = fun i => (ks ++ [k]).getD i [] := funext fun i => by
    by_cases e : i = ks.length
    · subst e; rw [updL_same, getD_snoc_new]
    · rw [updL_other _ _ e]
      by_cases e2 : i < ks.length
      · rw [getD_snoc_old e2]
      · show ks.getD i [] = _
        rw [List.getD_eq_getElem?_getD, List.getD_eq_getElem?_getD, List.getElem?_eq_none (by omega), List.getElem?_eq_none (by rw [List.length_append, List.length_singleton]; omega)]
  have e2 : updL el ks.length [] = el := funext fun i => by
    by_cases e : i = ks.length
    · subst e; rw [updL_same, hel _ (Nat.le_refl _)]
    · rw [updL_other _ _ e]
  have e3 : updI (begI ks) x (begI ks x ++ [ks.length]) = begI (ks ++ [k]) := funext fun y => by
    rw [begI_snoc, hx]
    by_cases e : y = x
    · subst e; rw [updI_same, if_pos rfl]
    · rw [updI_other _ _ e, if_neg (by intro e2; cases e2; exact e rfl), List.append_nil]
  have e4 : putI fv x v = updI fv x v := funext fun y => by
    unfold putI updI
    rfl
  have e5 : (ks ++ [k]).length = ks.length + 1 := by rw [List.length_append, List.length_singleton]
  rw [e1, e2, e3, e4] at h
  refine ⟨sa, sc, kv, ev, m + 1, updI fv x v, ?_, by rw [e5]; omega⟩
  rw [e5]
  exact h

/-- What ask tells. -/
def AskTold (w X : World) (mb bm : Nat) (c0 c1 c2 c3 c4 : Value) (ks : List (List It)) (asked : Int) (el : Nat → List It) (E : Nat) (k : List It) (e : Ending) (y : World) : Prop :=
  (∃ (t : Nat) (ks' : List (List It)), askF ks k = some (t, ks') ∧ e = .returned (.tuple #[.int .i64 (t : Int), .bool true]) ∧ MkAt w y mb bm c0 c1 c2 c3 c4 ks' (asked + 1) el E ∧ KeepT X y)
  ∨ (askF ks k = none ∧ e = .returned (.tuple #[.int .i64 0, .bool false]) ∧ w.grownBy y none ∧ KeepT X y)
theorem AskTold.found {w X y : World} {mb bm : Nat} {c0 c1 c2 c3 c4 : Value} {ks : List (List It)} {asked : Int} {el : Nat → List It} {E : Nat} {k : List It} {t : Nat} (hnd : ks.Nodup) (ht : t < ks.length) (hk : ks.getD t [] = k) (h : MkAt w y mb bm c0 c1 c2 c3 c4 ks (asked + 1) el E) (hT : KeepT X y) : AskTold w X mb bm c0 c1 c2 c3 c4 ks asked el E k (.returned (.tuple #[.int .i64 (t : Int), .bool true])) y := by
  have e : ks.getD t [] = ks[t] := by rw [List.getD_eq_getElem?_getD, List.getElem?_eq_getElem ht]; rfl
  have hm : k ∈ ks := by rw [← hk, e]; exact List.getElem_mem ht
  refine .inl ⟨t, ks, ?_, rfl, h, hT⟩
  unfold askF
  rw [if_pos hm, ← hk, e, List.Nodup.idxOf_getElem hnd]
theorem not_mem_begI {ks : List (List It)} {k : List It} {x : It} (hx : k.head? = some x) (h : ∀ i, i < (begI ks x).length → ks.getD ((begI ks x).getD i 0) [] ≠ k) : k ∉ ks := by
  intro hm
  have h1 := List.idxOf_lt_length_iff.2 hm
  have h2 : ks.getD (ks.idxOf k) [] = k := by rw [List.getD_eq_getElem?_getD, List.getElem?_eq_getElem h1]; simp
  have h3 : ks.idxOf k ∈ begI ks x := mem_begI.2 ⟨h1, by rw [h2]; exact hx⟩
  obtain ⟨i, hi, e⟩ := List.getElem_of_mem h3
  refine h i hi ?_
  have e2 : (begI ks x).getD i 0 = ks.idxOf k := by rw [List.getD_eq_getElem?_getD, List.getElem?_eq_getElem hi]; exact e
  rw [e2]; exact h2

end Go.Proofs.YthoamlahbnphkaaGreat.J
