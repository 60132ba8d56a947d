/-
  digraph: DigraphWays, from made steps on.
-/
import Derived.Test.YtggonakdlloloaaDoorQihdljbfhjoem
import Derived.Test.YtggonakdlloloaaDoorQihkailgdpeid
namespace Go.Proofs.YtggonakdlloloaaDoor.J
open Go.RowKit Go.Maps Go.Shelf D

attribute [local go_sem] Oper.semAt_some

/-- Lists, as they are gone over: each has some, all of one place; which stand in none ahead. -/
structure WyP (n K : Nat) (Q : Nat → List Nat) (p m : Nat → Nat) : Prop where
  ne : ∀ j, j < K → 0 < (Q j).length
  hd : ∀ j, j + 1 < K → (Q j).getD 0 0 < (Q (j + 1)).getD 0 0
  mem : ∀ j, j < K → ∀ x, x ∈ Q j ↔ x < n ∧ p x = j
  srt : ∀ j, j < K → (Q j).Pairwise (· < ·)
  m0 : m 0 = 0
  ms : ∀ j, j < K → m (j + 1) = m j + (Q j).length
  mK : m K = n
  mle : ∀ j, m j ≤ n
  pK : ∀ x, x < n → p x < K
theorem wyP_of {n K : Nat} {Q : Nat → List Nat} {ls : Nat → Nat} {E : Nat → List Nat} (h : ∀ x, x < n → IsLeast n E x (ls x)) (hK : K = (cmpL ls n).length) (hQ : ∀ j, j < K → Q j = (cmpL ls n).getD j []) : WyP n K Q (posD ls) (manyD ls n) := by
  have key : ∀ j, j < K → (Q j).Pairwise (· < ·) ∧ (∀ x, x ∈ Q j ↔ x < n ∧ posD ls x = j) ∧ (Q j).head? = some ((lsts ls n).getD j 0) := fun j hj => by
    rw [hQ j hj]
    exact cmp_list h (by rw [← hK]; exact hj)
  refine ⟨fun j hj => ?_, fun j hj => ?_, fun j hj => (key j hj).2.1, fun j hj => (key j hj).1, many_zero, fun j hj => ?_, ?_, many_le, fun x hx => ?_⟩
  · have h1 := (key j hj).2.2
    cases hc : Q j with
    | nil => rw [hc] at h1; cases h1
    | cons y ys => simp
  · have e : ∀ j, j < K → (Q j).getD 0 0 = (lsts ls n).getD j 0 := fun j hj => by
      have h1 := (key j hj).2.2
      cases hc : Q j with
      | nil => rw [hc] at h1; cases h1
      | cons y ys =>
        rw [hc] at h1
        exact Option.some.inj h1
    rw [e j (by omega), e (j + 1) hj]
    have h2 : (lsts ls n).Pairwise (· < ·) := by unfold lsts; exact List.Pairwise.filter _ List.pairwise_lt_range
    have hl : j + 1 < (lsts ls n).length := by rw [← cmpL_length, ← hK]; exact hj
    rw [List.getD_eq_getElem?_getD, List.getD_eq_getElem?_getD, List.getElem?_eq_getElem hl, List.getElem?_eq_getElem (show j < (lsts ls n).length by omega)]
    exact List.pairwise_iff_getElem.1 h2 j (j + 1) _ _ (by omega)
  · rw [hQ j hj]; exact many_succ h (by rw [← hK]; exact hj)
  · rw [hK]; exact many_all h
  · rw [hK, cmpL_length]; exact pos_lt h hx

/-- What stands of a node while lists are gone over. -/
def ofD (p : Nat → Nat) (Q : Nat → List Nat) (i k x : Nat) : Nat := if p x < i ∨ (p x = i ∧ x ∈ (Q i).take k) then p x + 1 else 0
section
variable {n K : Nat} {Q : Nat → List Nat} {p m : Nat → Nat}
theorem ofD_start (x : Nat) : ofD p Q 0 0 x = 0 := by unfold ofD; simp
theorem WyP.elt (h : WyP n K Q p m) {i k : Nat} (hi : i < K) (hk : k < (Q i).length) : (Q i).getD k 0 < n ∧ p ((Q i).getD k 0) = i := by
  refine (h.mem i hi _).1 ?_
  rw [List.getD_eq_getElem?_getD, List.getElem?_eq_getElem hk]
  exact List.getElem_mem hk
theorem WyP.not_yet (h : WyP n K Q p m) {i k : Nat} (hi : i < K) (hk : k < (Q i).length) : ofD p Q i k ((Q i).getD k 0) = 0 := by
  unfold ofD
  rw [if_neg]
  have h1 := (h.elt hi hk).2
  rintro (h2 | ⟨_, h2⟩)
  · omega
  · obtain ⟨j, hj, e⟩ := List.getElem_of_mem h2
    rw [List.length_take] at hj
    rw [List.getElem_take] at e
    have h3 := List.pairwise_iff_getElem.1 (h.srt i hi) j k (by omega) hk (by omega)
    rw [e, List.getD_eq_getElem?_getD, List.getElem?_eq_getElem hk] at h3
    exact Nat.lt_irrefl _ h3
theorem WyP.put (h : WyP n K Q p m) {i k : Nat} (hi : i < K) (hk : k < (Q i).length) (x : Nat) : ofD p Q i (k + 1) x = if x = (Q i).getD k 0 then i + 1 else ofD p Q i k x := by
  have e : (Q i).getD k 0 = (Q i)[k] := by rw [List.getD_eq_getElem?_getD, List.getElem?_eq_getElem hk]; rfl
  by_cases e2 : x = (Q i).getD k 0
  · rw [if_pos e2]
    have h1 := (h.elt hi hk).2
    rw [← e2] at h1
    unfold ofD
    rw [if_pos, h1]
    exact .inr ⟨h1, by rw [List.take_succ_eq_append_getElem hk, ← e]; exact List.mem_append_right _ (List.mem_singleton.2 e2)⟩
  · rw [if_neg e2]
    unfold ofD
    have : x ∈ (Q i).take (k + 1) ↔ x ∈ (Q i).take k := by
      rw [List.take_succ_eq_append_getElem hk, ← e, List.mem_append, List.mem_singleton]
      exact ⟨fun h => h.resolve_right e2, .inl⟩
    simp only [this]
theorem WyP.next (h : WyP n K Q p m) {i : Nat} (hi : i < K) {x : Nat} (hx : x < n) : ofD p Q i (Q i).length x = ofD p Q (i + 1) 0 x := by
  unfold ofD
  rw [List.take_length]
  have h1 := h.mem i hi x
  by_cases e : p x = i
  · rw [if_pos (.inr ⟨e, h1.2 ⟨hx, e⟩⟩), if_pos (.inl (by omega))]
  · by_cases e2 : p x < i
    · rw [if_pos (.inl e2), if_pos (.inl (by omega))]
    · rw [if_neg (by rintro (h | ⟨h, _⟩) <;> omega), if_neg]
      rintro (h | ⟨_, h⟩)
      · omega
      · simp at h
theorem WyP.all (h : WyP n K Q p m) {x : Nat} (hx : x < n) : ofD p Q K 0 x = p x + 1 := by
  unfold ofD
  rw [if_pos (.inl (h.pK x hx))]
end

/-- Hidden just as it is said. -/
theorem hidI {p : Prop} (h : p) : Hid p := h

set_option maxRecDepth 100000 in
set_option maxHeartbeats 4000000 in
theorem ways_core (w : World) (z : Int) (hlo : -9223372036854775808 ≤ z) (hhi : z ≤ 9223372036854775807) (pa : Option Addr) (pc pn : Nat) (P : List It) (hpn : pn = P.length) (hP : ItsAt w pa P) (hR : InR P) (hT : B.Tab w) (h0 : 0 < w.heap.size) :
    Calls Tryd.prog 5 #[.int .i64 z, .slice pa pn pc] w fun e w' => e = .returned (.bool true) ∧ w.grownBy w' none := by
  have HTB : Hid (∀ X, w.grownBy X none → Calls Tryd.prog 12 #[] X fun e w' => e = .returned (.bool true) ∧ X.grownBy w' none) := fun X hX => dawake_any X (tab_kept hT hX) (Nat.lt_of_lt_of_le h0 hX.size)
  obtain ⟨n, hn⟩ : ∃ n, n = pickN z 40 + 1 := ⟨_, rfl⟩
  have HMD := show Hid _ from dmade_any w z hlo hhi n hn pa pc pn P hpn hP hR
  have hnb : n ≤ 40 := by
    have := pickN_lt z (show 0 < 40 by decide)
    omega
  have hn0 : 0 < n := by omega
  have HEL : Hid (∀ x, (mkL n n P (min pn 400) x).length ≤ 400) := fun x => Nat.le_trans (mkL_len _ _ _ _ _) (by omega)
  have HEN : Hid (∀ x, ∀ y ∈ mkL n n P (min pn 400) x, y < n) := fun x y hy => mkL_lt _ _ hn0 _ _ _ _ hy
  obtain ⟨E, hE⟩ : ∃ E, E = mkL n n P (min pn 400) := ⟨_, rfl⟩
  rw [← hE] at HMD HEL HEN
  obtain ⟨i0, hi0, hz0, hz1, hz2⟩ := info_parts infoInt
  clear hpn hP hR hT h0 hn hE hlo hhi
  go_enter Tryd.func5, Tryd.ntmps5
  go_wp2_with fail
  refine Calls.mono HMD.out ?_
  rintro e w1 ⟨kb, ua, uc, rfl, hC, hg⟩
  have HLE : Hid (∀ X, w1.grownBy X none → LsAt X (some ⟨kb, 0, none⟩) n (fun i => intL (E i)) ua uc) := fun X hX => (hC.kept hX).ls
  have HG1 := show Hid _ from hg
  have HLN := show Hid _ from dlent_any w1 n (some ⟨kb, 0, none⟩) n (fun i => intL (E i)) ua uc hC.ls (fun i hi e => by rw [intL_length]; exact (owns_bounds (hC.inn i hi)).2 e) (by omega) (fun i _ => by rw [intL_length]; have := HEL.out i; omega)
  clear hC hg HMD
  go_wp2_with fail
  refine Calls.mono HLN.out ?_
  rintro e w2 ⟨ka, kc, ua2, uc2, rfl, hP, hg2⟩
  have HCM := show Hid _ from comp_ok w2 n ka kc E ua2 uc2 hP.ls (by omega) (fun i _ => by have := HEL.out i; omega) (fun x _ y hy => HEN.out x y hy)
  have HG2 := show Hid _ from hg2
  clear hP hg2 HLN
  go_wp2_with fail
  refine Calls.mono HCM.out ?_
  rintro e w3 ⟨ls, lb, lc, K, Q, ua3, uc3, rfl, hK, hQ, hls, hC3, hg3⟩
  have HW : Hid (WyP n K Q (posD ls) (manyD ls n)) := wyP_of hls hK hQ
  have HPI : Hid (∀ x y, x < n → y < n → (posD ls x = posD ls y ↔ (Rch E x y ∧ Rch E y x))) := fun x y hx hy => pos_inj hls hx hy
  obtain ⟨p, hp⟩ : ∃ p, p = posD ls := ⟨_, rfl⟩
  obtain ⟨m, hm⟩ : ∃ m, m = manyD ls n := ⟨_, rfl⟩
  rw [← hp, ← hm] at HW
  rw [← hp] at HPI
  have HLC : Hid (∀ X, w3.grownBy X none → LsAt X lb K (fun i => intL (Q i)) ua3 uc3) := fun X hX => (hC3.kept hX).ls
  have HG3 : Hid (w1.grownBy w3 none) := grown_trans HG2.out hg3
  have hKn : K ≤ n := by
    rw [hK, cmpL_length]; exact lsts_len ls n
  clear hK hQ hls hC3 hg3 HCM HG2 hp hm
  go_wp2_with (at_make; refine wpList_make_full _ rfl _ _ 28 rfl w3.heap.size 3 i0 (.int .i64 0) 1 Tryd.underlying28 hi0 hz0 hz1 .i64 .i64 _ _ n rfl rfl (by simp) (by simp) (by rw [hz2]; omega) (by unfold maxLen; omega) (by simp) ?_)
  intro w4 hown hgrow
  have hval : ValAt w4 w3.heap.size n 3 (fun _ => .int .i64 0) := made_rowK (B := w3.heap.size) rfl (by simpa [Value.cells] using hown)
  obtain ⟨ob, hob⟩ : ∃ b, b = w3.heap.size := ⟨_, rfl⟩
  rw [← hob] at hval
  rw [← hob]
  have HOB : Hid (w3.heap.size ≤ ob) := by show _ ≤ _; omega
  have HV0 : Hid (ValAt w4 ob n 3 (fun x => .int .i64 (ofD p Q 0 0 x : Nat))) := hval.ext fun x _ => by rw [ofD_start]; rfl
  have HG4 := show Hid _ from hgrow
  have HM0 : Hid (m 0 = 0) := HW.out.m0
  clear hown hgrow hval hob
  go_wp2_with fail
  go_loopg [9, 10] K (fun gk v9 v10 wr => ∃ (i : Nat), i ≤ K ∧ gk = K - i ∧ v9 = .int .i64 (m i : Nat) ∧ v10 = .int .i64 i ∧ ValAt wr ob n 3 (fun x => .int .i64 (ofD p Q i 0 x : Nat)) ∧ w3.grownBy wr none)
  case atStart => exact ⟨0, Nat.zero_le _, rfl, by rw [HM0.out]; rfl, rfl, HV0.out, HG4.out⟩
  case round =>
    clear HV0 HG4 HM0
    obtain ⟨i, hi, hgk, rfl, rfl, hV, hG⟩ := hrel
    have HGK : Hid (gk = K - i) := hgk
    have HV := hidI hV
    have HG := show Hid _ from hG
    clear hgk hV hG
    by_cases hlt : i < K
    · have hid : decide (i < K) = true := decide_eq_true hlt
      have hi0' : (0 : Int) ≤ (i : Int) := by omega
      have hi1' : (i : Int) < (K : Int) := by omega
      have HRD : Hid (∀ X, w3.grownBy X none → ∃ lk, lb = some ⟨lk, 0, none⟩ ∧ ∀ a, a < K → X.cell? ⟨lk, a, none⟩ = some (.slice (ua3 a) (Q a).length (uc3 a)) ∧ ∃ rb ro, ua3 a = some ⟨rb, ro, none⟩ ∧ ∀ b, b < (Q a).length → X.cell? ⟨rb, ro + b, none⟩ = some (.int .i64 (((Q a).getD b 0 : Nat) : Int))) := fun X hX => by
        have hls := HLC.out X hX
        rcases hls.1 with h | ⟨lk, e, h⟩
        · omega
        · refine ⟨lk, e, fun a ha => ⟨?_, ?_⟩⟩
          · have := h a ha
            rwa [intL_length] at this
          · have hne := HW.out.ne a ha
            rcases hls.2 a ha with h2 | ⟨rb, ro, e2, h2⟩
            · have h3 := intL_length (Q a)
              have h2' : intL (Q a) = [] := h2
              rw [h2'] at h3
              simp at h3
              omega
            · refine ⟨rb, ro, e2, fun b hb => ?_⟩
              have h4 := h2 b (by rw [intL_length]; exact hb)
              rwa [intL_at] at h4
      obtain ⟨lk, hlk, hrd⟩ := HRD.out wr HG.out
      subst hlk
      obtain ⟨c0, rb, ro, hua, c1⟩ := hrd i hlt
      have hq0 := HW.out.ne i hlt
      have c2 := c1 0 hq0
      obtain ⟨ql, hql⟩ : ∃ v, v = (Q i).length := ⟨_, rfl⟩
      obtain ⟨ca, hca⟩ : ∃ v, v = uc3 i := ⟨_, rfl⟩
      have HQL : Hid (ql = (Q i).length) := hql
      have HCA : Hid (ca = uc3 i) := hca
      have HUA : Hid (ua3 i = some ⟨rb, ro, none⟩) := hua
      rw [hua, ← hql, ← hca] at c0
      rw [← hql] at hq0
      rw [Nat.add_zero] at c2
      have hqz : ((ql : Int) == 0) = false := beq_eq_false_iff_ne.2 (by omega)
      have hqz2 : (ql == 0) = false := beq_eq_false_iff_ne.2 (by omega)
      have hq1 : (0 : Int) < (ql : Int) := by omega
      obtain ⟨f0, hf0⟩ : ∃ v, v = (Q i).getD 0 0 := ⟨_, rfl⟩
      rw [← hf0] at c2
      have HF0 : Hid (f0 = (Q i).getD 0 0) := hf0
      have HQB : Hid (ql ≤ n) := by
        have h1 := HW.out.ms i hlt
        have h2 := HW.out.mle (i + 1)
        rw [hql]
        show _ ≤ _
        omega
      obtain ⟨mi, hmi⟩ : ∃ v, v = m i := ⟨_, rfl⟩
      have HMI : Hid (mi = m i) := hmi
      have hmib : mi ≤ n := by rw [hmi]; exact HW.out.mle i
      rw [← hmi]
      have hqb := HQB.out
      clear hmi hqb hua hca hql hf0 c1
      have hqb : ql ≤ n := HQB.out
      by_cases hi00 : i = 0
      · subst hi00
        have hd0 : decide (0 < 0) = false := rfl
        clear hrd
        go_wp2_with fail
        go_quiet (fail)
        have hv1 := grown_drewN wr nq
        generalize wr.drewN nq = V1 at hv1 ⊢
        have HV1 := hidI (HV.out.kept hv1)
        have HG1' := show Hid _ from grown_trans HG.out hv1
        clear hv1 c0 c2
        go_wp2_with fail
        go_loopg [9, 11] ql (fun gk v9 v11 wr => ∃ (k : Nat), k ≤ ql ∧ gk = ql - k ∧ v9 = .int .i64 ((mi + k : Nat) : Int) ∧ v11 = .int .i64 k ∧ ValAt wr ob n 3 (fun x => .int .i64 (ofD p Q 0 k x : Nat)) ∧ w3.grownBy wr none)
        case atStart => exact ⟨0, Nat.zero_le _, rfl, rfl, rfl, HV1.out, HG1'.out⟩
        case round =>
          clear HV HG
          obtain ⟨k, hk, hgk, rfl, rfl, hV, hG⟩ := hrel
          have HGJ : Hid (gk = ql - k) := hgk
          have HV := hidI hV
          have HG := show Hid _ from hG
          clear hgk hV hG
          obtain ⟨lk', hlk', hrd⟩ := HRD.out wr HG.out
          have hlk2 : lk = lk' := by simpa using hlk'
          subst hlk2
          obtain ⟨c0, rb', ro', hua', c1⟩ := hrd 0 hlt
          rw [HUA.out] at hua'
          have hrr : rb = rb' ∧ ro = ro' := by simpa using hua'
          obtain ⟨rfl, rfl⟩ := hrr
          rw [HUA.out, ← HQL.out, ← HCA.out] at c0
          clear hrd hua' hlk'
          by_cases hltk : k < ql
          · have hkd : decide (k < ql) = true := decide_eq_true hltk
            have hk0 : (0 : Int) ≤ (k : Int) := by omega
            have hk1 : (k : Int) < (ql : Int) := by omega
            have hkQ : k < (Q 0).length := by rw [← HQL.out]; exact hltk
            have hel := HW.out.elt hlt hkQ
            have hny := HW.out.not_yet hlt hkQ
            have c3 := c1 k hkQ
            have c4 := HV.out.cell _ hel.1
            have c5 := HV.out.free ((Q 0).getD k 0)
            rw [hny] at c4
            have HPT : Hid (∀ y, ofD p Q 0 (k + 1) y = if y = (Q 0).getD k 0 then 0 + 1 else ofD p Q 0 k y) := HW.out.put hlt hkQ
            have HPV : Hid (∀ k', k = k' + 1 → (Q 0).getD k' 0 < (Q 0).getD k 0 ∧ wr.cell? ⟨rb, ro + k', none⟩ = some (.int .i64 (((Q 0).getD k' 0 : Nat) : Int))) := fun k' e => by
              have h1 := List.pairwise_iff_getElem.1 (HW.out.srt 0 hlt) k' k (by omega) hkQ (by omega)
              refine ⟨?_, c1 k' (by omega)⟩
              rw [List.getD_eq_getElem?_getD, List.getD_eq_getElem?_getD, List.getElem?_eq_getElem hkQ, List.getElem?_eq_getElem (show k' < (Q 0).length by omega)]
              exact h1
            obtain ⟨x, hx⟩ : ∃ x, x = (Q 0).getD k 0 := ⟨_, rfl⟩
            rw [← hx] at hel c3 c4 c5 HPT HPV
            have hxn := hel.1
            have hx0 : (0 : Int) ≤ (x : Int) := by omega
            have hx1 : (x : Int) < (n : Int) := by omega
            have hxd : decide ((x : Int) < 0) = false := decide_eq_false (by omega)
            have hxd2 : decide (n ≤ x) = false := decide_eq_false (by omega)
            have c4' : wr.cell? ⟨ob, x, none⟩ = some (.int .i64 0) := c4
            have HVN : Hid (ValAt (wr.setCell ⟨ob, x, none⟩ (.int .i64 ((0 : Int) + 1))) ob n 3 (fun y => .int .i64 (ofD p Q 0 (k + 1) y : Nat))) := (HV.out.set x _).ext fun y _ => by
              unfold J.put
              rw [HPT.out y]
              by_cases e : y = x
              · rw [if_pos e, if_pos e]; simp
              · rw [if_neg e, if_neg e]
            have HGN : Hid (w3.grownBy (wr.setCell ⟨ob, x, none⟩ (.int .i64 ((0 : Int) + 1))) none) := grown_new HG.out (grown_setCell _ _ _) HOB.out
            clear hx hel hny c4 c1 HPT hkQ
            by_cases hk00 : k = 0
            · subst hk00
              rw [Nat.add_zero] at c3
              have hkd0 : decide (0 < 0) = false := rfl
              clear HPV
              go_wp2_with fail
              go_roundg (ql - (0 + 1))
              all_goals first
                | exact (show ∃ (k' : Nat), _ from ⟨0 + 1, by omega, rfl, by go_num, rfl, HVN.out, HGN.out⟩)
                | (have := HGJ.out; omega)
            · obtain ⟨k', rfl⟩ : ∃ k', k = k' + 1 := ⟨k - 1, by omega⟩
              obtain ⟨hyx, c6⟩ := HPV.out k' rfl
              obtain ⟨y, hy⟩ : ∃ y, y = (Q 0).getD k' 0 := ⟨_, rfl⟩
              rw [← hy] at hyx c6
              have hyd : decide (x ≤ y) = false := decide_eq_false (by omega)
              have hkd0 : decide (0 < k' + 1) = true := decide_eq_true (by omega)
              have hkb : k' ≤ 40 := by have := HQB.out; omega
              have hk2 : (k' : Int) < (ql : Int) := by omega
              have hk3 : (0 : Int) ≤ (k' : Int) := by omega
              clear hy HPV hk00
              go_wp2_with fail
              go_roundg (ql - (k' + 1 + 1))
              all_goals first
                | exact (show ∃ (k2 : Nat), _ from ⟨k' + 1 + 1, by omega, rfl, by go_num, by go_num, HVN.out, HGN.out⟩)
                | (have := HGJ.out; omega)
          · have hkq : ql = k := by omega
            subst hkq
            have hkd : decide (ql < ql) = false := decide_eq_false (by omega)
            have HVN : Hid (ValAt wr ob n 3 (fun y => .int .i64 (ofD p Q (0 + 1) 0 y : Nat))) := HV.out.ext fun y hy => by
              rw [← HW.out.next hlt hy, ← HQL.out]
            have HMN : Hid (m (0 + 1) = mi + ql) := by show _ = _; rw [HMI.out, HW.out.ms 0 hlt, HQL.out]
            go_wp2_with fail
            go_roundg (K - (0 + 1))
            all_goals first
              | exact (show ∃ (i' : Nat), _ from ⟨0 + 1, by omega, rfl, by rw [HMN.out], by go_num, HVN.out, HG.out⟩)
              | (have := HGK.out; omega)
      · obtain ⟨i', rfl⟩ : ∃ i', i = i' + 1 := ⟨i - 1, by omega⟩
        have hd0 : decide (0 < i' + 1) = true := decide_eq_true (by omega)
        obtain ⟨d0, rb2, ro2, hua2, d1⟩ := hrd i' (by omega)
        have d2 := d1 0 (HW.out.ne i' (by omega))
        have hlt2 : (Q i').getD 0 0 < f0 := by rw [HF0.out]; exact HW.out.hd i' hlt
        obtain ⟨q2, hq2⟩ : ∃ v, v = (Q i').length := ⟨_, rfl⟩
        obtain ⟨ca2, hca2⟩ : ∃ v, v = uc3 i' := ⟨_, rfl⟩
        obtain ⟨f1, hf1⟩ : ∃ v, v = (Q i').getD 0 0 := ⟨_, rfl⟩
        have hq20 : 0 < q2 := by rw [hq2]; exact HW.out.ne i' (by omega)
        rw [hua2, ← hq2, ← hca2] at d0
        rw [Nat.add_zero, ← hf1] at d2
        rw [← hf1] at hlt2
        have hq21 : (0 : Int) < (q2 : Int) := by omega
        have hfd : decide (f0 ≤ f1) = false := decide_eq_false (by omega)
        have hib : i' ≤ 40 := by omega
        have hi2 : (0 : Int) ≤ (i' : Int) := by omega
        have hi3 : (i' : Int) < (K : Int) := by omega
        clear hrd d1 hua2 hq2 hca2 hf1 hi00
        go_wp2_with fail
        go_quiet (fail)
        have hv1 := grown_drewN wr nq
        generalize wr.drewN nq = V1 at hv1 ⊢
        have HV1 := hidI (HV.out.kept hv1)
        have HG1' := show Hid _ from grown_trans HG.out hv1
        clear hv1 c0 c2 d0 d2
        go_wp2_with fail
        go_loopg [9, 11] ql (fun gk v9 v11 wr => ∃ (k : Nat), k ≤ ql ∧ gk = ql - k ∧ v9 = .int .i64 ((mi + k : Nat) : Int) ∧ v11 = .int .i64 k ∧ ValAt wr ob n 3 (fun x => .int .i64 (ofD p Q (i' + 1) k x : Nat)) ∧ w3.grownBy wr none)
        case atStart => exact ⟨0, Nat.zero_le _, rfl, rfl, rfl, HV1.out, HG1'.out⟩
        case round =>
          clear HV HG
          obtain ⟨k, hk, hgk, rfl, rfl, hV, hG⟩ := hrel
          have HGJ : Hid (gk = ql - k) := hgk
          have HV := hidI hV
          have HG := show Hid _ from hG
          clear hgk hV hG
          obtain ⟨lk', hlk', hrd⟩ := HRD.out wr HG.out
          have hlk2 : lk = lk' := by simpa using hlk'
          subst hlk2
          obtain ⟨c0, rb', ro', hua', c1⟩ := hrd (i' + 1) hlt
          rw [HUA.out] at hua'
          have hrr : rb = rb' ∧ ro = ro' := by simpa using hua'
          obtain ⟨rfl, rfl⟩ := hrr
          rw [HUA.out, ← HQL.out, ← HCA.out] at c0
          clear hrd hua' hlk'
          by_cases hltk : k < ql
          · have hkd : decide (k < ql) = true := decide_eq_true hltk
            have hk0 : (0 : Int) ≤ (k : Int) := by omega
            have hk1 : (k : Int) < (ql : Int) := by omega
            have hkQ : k < (Q (i' + 1)).length := by rw [← HQL.out]; exact hltk
            have hel := HW.out.elt hlt hkQ
            have hny := HW.out.not_yet hlt hkQ
            have c3 := c1 k hkQ
            have c4 := HV.out.cell _ hel.1
            have c5 := HV.out.free ((Q (i' + 1)).getD k 0)
            rw [hny] at c4
            have HPT : Hid (∀ y, ofD p Q (i' + 1) (k + 1) y = if y = (Q (i' + 1)).getD k 0 then (i' + 1) + 1 else ofD p Q (i' + 1) k y) := HW.out.put hlt hkQ
            have HPV : Hid (∀ k', k = k' + 1 → (Q (i' + 1)).getD k' 0 < (Q (i' + 1)).getD k 0 ∧ wr.cell? ⟨rb, ro + k', none⟩ = some (.int .i64 (((Q (i' + 1)).getD k' 0 : Nat) : Int))) := fun k' e => by
              have h1 := List.pairwise_iff_getElem.1 (HW.out.srt (i' + 1) hlt) k' k (by omega) hkQ (by omega)
              refine ⟨?_, c1 k' (by omega)⟩
              rw [List.getD_eq_getElem?_getD, List.getD_eq_getElem?_getD, List.getElem?_eq_getElem hkQ, List.getElem?_eq_getElem (show k' < (Q (i' + 1)).length by omega)]
              exact h1
            obtain ⟨x, hx⟩ : ∃ x, x = (Q (i' + 1)).getD k 0 := ⟨_, rfl⟩
            rw [← hx] at hel c3 c4 c5 HPT HPV
            have hxn := hel.1
            have hx0 : (0 : Int) ≤ (x : Int) := by omega
            have hx1 : (x : Int) < (n : Int) := by omega
            have hxd : decide ((x : Int) < 0) = false := decide_eq_false (by omega)
            have hxd2 : decide (n ≤ x) = false := decide_eq_false (by omega)
            have c4' : wr.cell? ⟨ob, x, none⟩ = some (.int .i64 0) := c4
            have HVN : Hid (ValAt (wr.setCell ⟨ob, x, none⟩ (.int .i64 (((i' + 1) : Int) + 1))) ob n 3 (fun y => .int .i64 (ofD p Q (i' + 1) (k + 1) y : Nat))) := (HV.out.set x _).ext fun y _ => by
              unfold J.put
              rw [HPT.out y]
              by_cases e : y = x
              · rw [if_pos e, if_pos e]; simp
              · rw [if_neg e, if_neg e]
            have HGN : Hid (w3.grownBy (wr.setCell ⟨ob, x, none⟩ (.int .i64 (((i' + 1) : Int) + 1))) none) := grown_new HG.out (grown_setCell _ _ _) HOB.out
            clear hx hel hny c4 c1 HPT hkQ
            by_cases hk00 : k = 0
            · subst hk00
              rw [Nat.add_zero] at c3
              have hkd0 : decide (0 < 0) = false := rfl
              clear HPV
              go_wp2_with fail
              go_roundg (ql - (0 + 1))
              all_goals first
                | exact (show ∃ (k' : Nat), _ from ⟨0 + 1, by omega, rfl, by go_num, rfl, HVN.out, HGN.out⟩)
                | (have := HGJ.out; omega)
            · obtain ⟨k', rfl⟩ : ∃ k', k = k' + 1 := ⟨k - 1, by omega⟩
              obtain ⟨hyx, c6⟩ := HPV.out k' rfl
              obtain ⟨y, hy⟩ : ∃ y, y = (Q (i' + 1)).getD k' 0 := ⟨_, rfl⟩
              rw [← hy] at hyx c6
              have hyd : decide (x ≤ y) = false := decide_eq_false (by omega)
              have hkd0 : decide (0 < k' + 1) = true := decide_eq_true (by omega)
              have hkb : k' ≤ 40 := by have := HQB.out; omega
              have hk2 : (k' : Int) < (ql : Int) := by omega
              have hk3 : (0 : Int) ≤ (k' : Int) := by omega
              clear hy HPV hk00
              go_wp2_with fail
              go_roundg (ql - (k' + 1 + 1))
              all_goals first
                | exact (show ∃ (k2 : Nat), _ from ⟨k' + 1 + 1, by omega, rfl, by go_num, by go_num, HVN.out, HGN.out⟩)
                | (have := HGJ.out; omega)
          · have hkq : ql = k := by omega
            subst hkq
            have hkd : decide (ql < ql) = false := decide_eq_false (by omega)
            have HVN : Hid (ValAt wr ob n 3 (fun y => .int .i64 (ofD p Q ((i' + 1) + 1) 0 y : Nat))) := HV.out.ext fun y hy => by
              rw [← HW.out.next hlt hy, ← HQL.out]
            have HMN : Hid (m ((i' + 1) + 1) = mi + ql) := by show _ = _; rw [HMI.out, HW.out.ms (i' + 1) hlt, HQL.out]
            go_wp2_with fail
            go_roundg (K - ((i' + 1) + 1))
            all_goals first
              | exact (show ∃ (i' : Nat), _ from ⟨(i' + 1) + 1, by omega, rfl, by rw [HMN.out], by go_num, HVN.out, HG.out⟩)
              | (have := HGK.out; omega)
    · have hiK : K = i := by omega
      subst hiK
      have hid : decide (K < K) = false := decide_eq_false (by omega)
      have HMK : Hid (m K = n) := HW.out.mK
      rw [HMK.out]
      have HGA : Hid (w1.grownBy wr none) := grown_trans HG3.out HG.out
      have HRC := show Hid _ from dreach_any wr n (some ⟨kb, 0, none⟩) n E ua uc (HLE.out wr HGA.out) hnb (fun i _ => HEL.out i) (fun x _ y hy => HEN.out x y hy)
      go_wp2_with fail
      refine Calls.mono HRC.out ?_
      rintro e w5 ⟨rb, g, R, rfl, hR, hRR, hg5⟩
      have HR := show Hid _ from hR
      have HRR : Hid (∀ i, i < n → ∀ j, R i j = true ↔ Rch E i j) := hRR
      have HVA : Hid (ValAt w5 ob n 3 (fun x => .int .i64 ((p x + 1 : Nat) : Int))) := (HV.out.kept hg5).ext fun x hx => by rw [HW.out.all hx]
      have HGB : Hid (w.grownBy w5 none) := grown_trans HG1.out (grown_trans HGA.out hg5)
      have hnn : ((n : Int) == (n : Int)) = true := beq_self_eq_true _
      clear hR hRR hg5 HRC HGA HV HG HMK HGK hlt
      go_wp2_with fail
      go_loopg [14] n (fun gk v14 wr => ∃ (i : Nat), i ≤ n ∧ gk = n - i ∧ v14 = .int .i64 i ∧ w5.grownBy wr none)
      case atStart => exact ⟨0, Nat.zero_le _, rfl, rfl, grown_refl _ _⟩
      case round =>
        obtain ⟨i, hi, hgk, rfl, hG⟩ := hrel
        have HGK : Hid (gk = n - i) := hgk
        have HG := show Hid _ from hG
        clear hgk hG
        by_cases hlt : i < n
        · have hid : decide (i < n) = true := decide_eq_true hlt
          have hi0' : (0 : Int) ≤ (i : Int) := by omega
          have hi1' : (i : Int) < (n : Int) := by omega
          go_wp2_with fail
          go_loopg [15] n (fun gk v15 wr => ∃ (k : Nat), k ≤ n ∧ gk = n - k ∧ v15 = .int .i64 k ∧ w5.grownBy wr none)
          case atStart => exact ⟨0, Nat.zero_le _, rfl, rfl, HG.out⟩
          case round =>
            clear HG
            obtain ⟨k, hk, hgk, rfl, hG⟩ := hrel
            have HGJ : Hid (gk = n - k) := hgk
            have HG := show Hid _ from hG
            clear hgk hG
            by_cases hltk : k < n
            · have hkd : decide (k < n) = true := decide_eq_true hltk
              have hk0 : (0 : Int) ≤ (k : Int) := by omega
              have hk1 : (k : Int) < (n : Int) := by omega
              have hV := HVA.out.kept HG.out
              have hR := HR.out.kept HG.out
              have a0 := hV.cell i hlt
              have a1 := hV.cell k hltk
              have b0 := hR.row.cell i hlt
              have b1 := hR.row.cell k hltk
              rw [if_pos hlt] at b0
              rw [if_pos hltk] at b1
              have b2 := (hR.inn i hlt).cell k hltk
              have b3 := (hR.inn k hltk).cell i hlt
              have hp := HPI.out i k hlt hltk
              rw [← HRR.out i hlt k, ← HRR.out k hltk i] at hp
              obtain ⟨gi, hgi⟩ : ∃ v, v = g i := ⟨_, rfl⟩
              obtain ⟨gk', hgk'⟩ : ∃ v, v = g k := ⟨_, rfl⟩
              obtain ⟨pi, hpi⟩ : ∃ v, v = p i + 1 := ⟨_, rfl⟩
              obtain ⟨pk, hpk⟩ : ∃ v, v = p k + 1 := ⟨_, rfl⟩
              have hpe : pi = pk ↔ p i = p k := by omega
              rw [← hpi] at a0
              rw [← hpk] at a1
              rw [← hgi] at b0 b2
              rw [← hgk'] at b1 b3
              rw [← hpe] at hp
              obtain ⟨r1, hr1⟩ : ∃ v, v = R i k := ⟨_, rfl⟩
              obtain ⟨r2, hr2⟩ : ∃ v, v = R k i := ⟨_, rfl⟩
              rw [← hr1] at b2 hp
              rw [← hr2] at b3 hp
              have hq : ((pi : Int) == (pk : Int)) = (r1 && r2) := by
                by_cases e : pi = pk
                · obtain ⟨h1, h2⟩ := hp.1 e
                  rw [e, h1, h2]; simp
                · have h1 : ((pi : Int) == (pk : Int)) = false := beq_eq_false_iff_ne.2 (by omega)
                  rw [h1]
                  cases r1 with
                  | false => rfl
                  | true =>
                    cases r2 with
                    | false => rfl
                    | true => exact absurd (hp.2 ⟨rfl, rfl⟩) e
              clear hp hpe hV hR hgi hgk' hpi hpk hr1 hr2
              cases r1 with
              | false =>
                have hq1 : ((pi : Int) == (pk : Int)) = false := hq
                clear hq b3
                go_wp2_with fail
                go_quiet (fail)
                go_wp2_with fail
                go_roundg (n - (k + 1))
                all_goals first
                  | exact (show ∃ (k' : Nat), _ from ⟨k + 1, by omega, rfl, by go_num, grown_trans HG.out (grown_drewN _ _)⟩)
                  | (have := HGJ.out; omega)
              | true =>
                cases r2 with
                | false =>
                  have hq1 : ((pi : Int) == (pk : Int)) = false := hq
                  clear hq
                  go_wp2_with fail
                  go_quiet (fail)
                  go_wp2_with fail
                  go_roundg (n - (k + 1))
                  all_goals first
                    | exact (show ∃ (k' : Nat), _ from ⟨k + 1, by omega, rfl, by go_num, grown_trans HG.out (grown_drewN _ _)⟩)
                    | (have := HGJ.out; omega)
                | true =>
                  have hq1 : ((pi : Int) == (pk : Int)) = true := hq
                  clear hq
                  go_wp2_with fail
                  go_quiet (fail)
                  go_wp2_with fail
                  go_roundg (n - (k + 1))
                  all_goals first
                    | exact (show ∃ (k' : Nat), _ from ⟨k + 1, by omega, rfl, by go_num, grown_trans HG.out (grown_drewN _ _)⟩)
                    | (have := HGJ.out; omega)
            · have hkn : n = k := by omega
              subst hkn
              have hkd : decide (n < n) = false := decide_eq_false (by omega)
              go_wp2_with fail
              go_roundg (n - (i + 1))
              all_goals first
                | exact (show ∃ (i' : Nat), _ from ⟨i + 1, by omega, rfl, by go_num, HG.out⟩)
                | (have := HGK.out; omega)
        · have hin : n = i := by omega
          subst hin
          have hid : decide (n < n) = false := decide_eq_false (by omega)
          have HAW := show Hid _ from HTB.out wr (grown_trans HGB.out HG.out)
          go_wp2_with fail
          refine Calls.mono HAW.out ?_
          rintro e w6 ⟨rfl, hg6⟩
          have HGF : Hid (w.grownBy w6 none) := grown_trans (grown_trans HGB.out HG.out) hg6
          clear hg6
          go_wp2_with fail
          go_ret
          exact ⟨rfl, HGF.out⟩

end Go.Proofs.YtggonakdlloloaaDoor.J
