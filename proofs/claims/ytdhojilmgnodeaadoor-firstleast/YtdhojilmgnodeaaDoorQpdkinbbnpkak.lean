import Derived.Test.YtdhojilmgnodeaaDoorQpphonjngifcg
import Derived.Test.YtdhojilmgnodeaaDoorQndkeojbeldic
import Derived.Test.YtdhojilmgnodeaaDoorQkpmjpampekgo

/-
  FirstLeast: what its worklist comes to, and its memory.
-/
namespace Go.Proofs.YtdhojilmgnodeaaDoor
open Go.RowKit Go.Maps Go.Shelf

/-- Production k has been gone over: of its symbols those are met ahead of which all vanish. -/
def ClP (n : Nat) (L : Nat → Int) (R : Nat → List Int) (met : Nat → Bool) (k : Nat) : Prop := ∀ p x s, R k = p ++ x :: s → (∀ y ∈ p, Nul n L R y) → met x.toNat = true
/-- The worklist zs, while x is gone over, its productions below kx being done. -/
structure WkP (tn n S : Nat) (L : Nat → Int) (R : Nat → List Int) (s0 x : Int) (kx : Nat) (met : Nat → Bool) (zs : List Int) : Prop where
  rng : ∀ y ∈ zs, (0 : Int) ≤ y ∧ y < (S : Int)
  cl : ∀ s : Int, (s = s0 ∨ (0 ≤ s ∧ met s.toNat = true)) → s ∉ zs → s ≠ x → (tn : Int) ≤ s → ∀ k, k < n → L k = s → ClP n L R met k
  clx : ∀ k, k < kx → L k = x → ClP n L R met k
section
variable {tn n S : Nat} {L : Nat → Int} {R : Nat → List Int} {s0 x : Int} {kx : Nat} {met : Nat → Bool} {zs : List Int}
theorem ClP.mark {k z : Nat} (h : ClP n L R met k) : ClP n L R (markT met z) k := fun p x s e hp => by
  unfold markT
  split
  · rfl
  · exact h p x s e hp
theorem WkP.start (h1 : (0 : Int) ≤ s0) (h2 : s0 < (S : Int)) : WkP tn n S L R s0 (-1) 0 (fun _ => false) [s0] :=
  ⟨fun y hy => by simp at hy; subst hy; exact ⟨h1, h2⟩, fun s hs hn => by
    rcases hs with rfl | ⟨_, h⟩
    · exact absurd (List.mem_singleton.2 rfl) hn
    · exact absurd h (by simp), fun k hk => absurd hk (Nat.not_lt_zero _)⟩
theorem WkP.pop {z : Int} (h : WkP tn n S L R s0 (-1) 0 met (z :: zs)) : WkP tn n S L R s0 z 0 met zs :=
  ⟨fun y hy => h.rng y (List.mem_cons_of_mem _ hy), fun s hs hn hz ht => h.cl s hs (by simp [hz, hn]) (by omega) ht, fun k hk => absurd hk (Nat.not_lt_zero _)⟩
theorem WkP.skip (h : WkP tn n S L R s0 x kx met zs) (hx : x < (tn : Int)) : WkP tn n S L R s0 (-1) 0 met zs :=
  ⟨h.rng, fun s hs hn _ ht => h.cl s hs hn (by omega) ht, fun k hk => absurd hk (Nat.not_lt_zero _)⟩
theorem WkP.done (h : WkP tn n S L R s0 x n met zs) : WkP tn n S L R s0 (-1) 0 met zs :=
  ⟨h.rng, fun s hs hn _ ht k hk hl => by
    by_cases e : s = x
    · subst e; exact h.clx k hk hl
    · exact h.cl s hs hn e ht k hk hl, fun k hk => absurd hk (Nat.not_lt_zero _)⟩
theorem WkP.push {z : Int} (h : WkP tn n S L R s0 x kx met zs) (h0 : (0 : Int) ≤ z) (h1 : z < (S : Int)) : WkP tn n S L R s0 x kx (markT met z.toNat) (zs ++ [z]) :=
  ⟨fun y hy => by
    rcases List.mem_append.1 hy with hy | hy
    · exact h.rng y hy
    · simp at hy; subst hy; exact ⟨h0, h1⟩, fun s hs hn hx ht k hk hl => by
    have hnz : ¬ s ∈ zs := fun h => hn (List.mem_append_left _ h)
    have hsz : s ≠ z := fun e => hn (by simp [e])
    refine (h.cl s ?_ hnz hx ht k hk hl).mark
    rcases hs with hs | ⟨h2, h3⟩
    · exact .inl hs
    · right
      refine ⟨h2, ?_⟩
      unfold markT at h3
      rwa [if_neg (by omega)] at h3, fun k hk hl => (h.clx k hk hl).mark⟩
theorem WkP.next (h : WkP tn n S L R s0 x kx met zs) (hk : L kx = x → ClP n L R met kx) : WkP tn n S L R s0 x (kx + 1) met zs :=
  ⟨h.rng, h.cl, fun k hk' hl => by
    by_cases e : k = kx
    · subst e; exact hk hl
    · exact h.clx k (by omega) hl⟩
/-- All that a nonterminal's rows begin with is met. -/
theorem WkP.fin (h : WkP tn n S L R s0 (-1) 0 met []) (hs : (tn : Int) ≤ s0) (hL : ∀ k, k < n → (tn : Int) ≤ L k) (hR : ∀ k, k < n → ∀ x ∈ R k, (0 : Int) ≤ x) {y t : Int} (hb : Beg tn n L R y t) : (y = s0 ∨ (0 ≤ y ∧ met y.toNat = true)) → met t.toNat = true := by
  induction hb with
  | term t h0 h1 =>
    rintro (h2 | h2)
    · omega
    · exact h2.2
  | prod k hk p y s t e hp hb ih =>
    intro h2
    have h3 := h.cl (L k) h2 (by simp) (by have := hL k hk; omega) (hL k hk) k hk rfl p y s e hp
    exact ih (.inr ⟨hR k hk y (by rw [e]; simp), h3⟩)
/-- Production k is done, once all up to j is met, and either no more is there, or one does not vanish. -/
theorem clP_of {k j : Nat} (hm : ∀ i, i < j → met ((R k).getD i 0).toNat = true) (hj : j = (R k).length ∨ ∃ i, i < j ∧ i < (R k).length ∧ ¬ Nul n L R ((R k).getD i 0)) : ClP n L R met k := fun p x s e hp => by
  have hx : (R k).getD p.length 0 = x := by rw [e]; simp [List.getD]
  have hlen : p.length < (R k).length := by rw [e]; simp
  by_cases h : p.length < j
  · have := hm _ h
    rwa [hx] at this
  · rcases hj with hj | ⟨i, h1, h2, h3⟩
    · omega
    · exfalso
      apply h3
      have hi : i < p.length := by omega
      have : (R k).getD i 0 = p[i] := by rw [e, List.getD_eq_getElem?_getD, List.getElem?_append_left hi, List.getElem?_eq_getElem hi]; rfl
      rw [this]
      exact hp _ (List.getElem_mem hi)
end

/-- The worklist's memory: what is met, and the queue. -/
structure WkAt (P X : World) (mb S : Nat) (met : Nat → Bool) (a : Option Addr) (cap : Nat) (xs : List Int) : Prop where
  grown : P.grownBy X none
  met : ValAt X mb S 4 (fun i => .bool (met i))
  lo : P.heap.size ≤ mb
  que : QueAt X P.heap.size a cap xs
section
variable {P X Y : World} {mb S : Nat} {met : Nat → Bool} {a : Option Addr} {cap : Nat} {xs : List Int}
theorem WkAt.kept (h : WkAt P X mb S met a cap xs) (hg : X.grownBy Y none) : WkAt P Y mb S met a cap xs := ⟨grown_trans h.grown hg, h.met.kept hg, h.lo, h.que.kept hg⟩
theorem WkAt.mark {z : Nat} (h : WkAt P X mb S met a cap xs) : WkAt P (X.setCell ⟨mb, z, none⟩ (.bool true)) mb S (markT met z) a cap xs := by
  have G : X.grownBy (X.setCell ⟨mb, z, none⟩ (.bool true)) (some mb) := grown_setCell _ _ _
  refine ⟨grown_at h.grown G h.lo, (h.met.set z (.bool true)).ext fun i _ => ?_, h.lo, h.que.other G h.met (by decide)⟩
  unfold put markT
  by_cases e : i = z
  · rw [if_pos e, if_pos e]
  · rw [if_neg e, if_neg e]
theorem WkAt.push {a' : Option Addr} {cap' : Nat} {ys : List Int} (h : WkAt P X mb S met a cap xs) (hq : QueAt Y P.heap.size a' cap' ys) (hg : ∃ r, X.grownBy Y r ∧ ∀ b, r = some b → P.heap.size ≤ b ∧ ∃ cs, X.heap[b]? = some (.cells cs 3 (0, 0))) : WkAt P Y mb S met a' cap' ys := by
  obtain ⟨r, hg, hr⟩ := hg
  cases r with
  | none => exact ⟨grown_trans h.grown hg, h.met.kept hg, h.lo, hq⟩
  | some b =>
    obtain ⟨hb, cs, hcs⟩ := hr b rfl
    refine ⟨grown_at h.grown hg hb, h.met.at hg ?_, h.lo, hq⟩
    intro e
    subst e
    have h2 := h.met
    unfold ValAt at h2
    rw [h2] at hcs
    cases hcs
theorem WkAt.head {x : Int} (h : WkAt P X mb S met a cap (x :: xs)) : ∃ g off, a = some ⟨g, off, none⟩ ∧ X.cell? ⟨g, off, none⟩ = some (.int .i64 x) := h.que.head
theorem WkAt.tail {x : Int} {g off : Nat} (h : WkAt P X mb S met (some ⟨g, off, none⟩) cap (x :: xs)) (a' : Option Addr) (ha : 1 < cap → a' = some ⟨g, off + 1, none⟩) : WkAt P X mb S met a' (cap - 1) xs := ⟨h.grown, h.met, h.lo, h.que.tail a' ha⟩
end

theorem unm_le : ∀ (n : Nat) (f : Nat → Bool), unm n f ≤ n
  | 0, _ => Nat.le_refl _
  | n + 1, f => by
    have := unm_le n f
    unfold unm
    split <;> omega

end Go.Proofs.YtdhojilmgnodeaaDoor

/-
  FirstLeast: its innermost loop, a declaration of its own.
-/
namespace Go.Proofs.YtdhojilmgnodeaaDoor
open Go.RowKit Go.Maps Go.Shelf

attribute [local go_sem] Oper.semAt_some

/-- The loops of a piece of code, the outer ahead of the inner. -/
def loopsK : Code → List Code
  | .loop c => .loop c :: loopsK c
  | .seq a b => loopsK a ++ loopsK b
  | .block _ c => loopsK c
  | .scope c => loopsK c
  | .cond _ a b => loopsK a ++ loopsK b
  | _ => []

noncomputable def leastInner : Code := ((Tryd.f6.body.map loopsK).getD []).getD 3 .skip
noncomputable def leastMid : Code := ((Tryd.f6.body.map loopsK).getD []).getD 2 .skip

set_option maxRecDepth 100000 in
set_option maxHeartbeats 4000000 in
theorem least_inner {Q0 : Exit → Act → World → Prop} {P W : World} {gb kn mb S nn tn n tc k q3 cap3 rl rcap MM : Nat} {ta a3 rak : Option Addr} {L : Nat → Int} {R : Nat → List Int} {F : Nat → Bool} {s0 z : Int} {met3 : Nat → Bool} {zs : List Int} {ah0 : Bool}
    {c0 c2 c3 c4 c5 c7 c8 c11 c12 c16 c17 c18 c19 c20 c21 c22 c23 c24 c25 c26 c27 c28 c29 c30 c31 c32 c33 c34 c35 c36 c37 c38 c39 c40 c41 c42 c43 c44 c45 c46 c47 c48 c49 c50 c51 c52 c53 c54 c55 c56 c57 c58 c59 c60 c61 c62 c63 c64 c65 c66 c67 c68 c69 c70 c71 c72 c73 c74 c75 c76 c77 c78 c79 c80 c81 c82 c83 c84 c85 c86 c87 c88 c89 c90 c91 c92 c93 c94 c95 c96 c97 c98 c99 c100 c101 c102 c103 c104 c105 c106 c107 c108 c109 c110 c111 c112 c113 c114 c115 c116 c117 c118 c119 c120 c121 c122 c123 c124 c125 c126 c127 c128 c129 c130 c131 c132 c133 c134 c135 c136 c137 c138 c139 c140 c141 c142 c143 c144 c145 c146 c147 c148 c149 c150 c151 c152 c153 c154 c155 c156 c157 c158 c159 c160 c161 c162 c163 c164 c165 c166 c167 c168 c169 c170 c171 c172 c173 c174 c175 c176 c177 c178 c179 c180 c181 c182 c183 c184 c185 c186 c187 c188 c189 c190 c191 c192 c193 c194 c195 c196 c197 c198 c199 c200 c201 c202 c203 : Value}
    (hS : S = tn + nn) (hSz : S ≤ 130) (hrl : rl = (R k).length) (hrb : rl ≤ 17592186044416) (hMM : MM ≤ 131)
    (hbox : ∀ X, P.grownBy X none → X.cell? ⟨gb, 0, none⟩ = some (.slice ta tn tc))
    (hnul : ∀ X, P.grownBy X none → ∀ s, s < nn → X.cell? ⟨kn, s, none⟩ = some (.bool (F s)))
    (hrow : IntsAt P rak (R k)) (hR : ∀ x ∈ R k, (0 : Int) ≤ x ∧ x < (S : Int))
    (hF : ∀ i : Nat, F i = true ↔ Nul n L R ((tn + i : Nat) : Int)) (hNT : ∀ x, Nul n L R x → (tn : Int) ≤ x)
    (hq3 : q3 = zs.length) (hms3 : unm S met3 + zs.length ≤ MM) (hWP3 : WkP tn n S L R s0 z k met3 zs) (hWA3 : WkAt P W mb S met3 a3 cap3 zs) (hah : ah0 = false → L k ≠ z)
    (hexit : ∀ (wz : World) (q4 cap4 : Nat) (a4 : Option Addr) (met4 : Nat → Bool) (zs4 : List Int) (u14 u15 u109 u110 u111 u112 u113 u114 u115 u116 u117 u118 u119 u120 u121 u122 u123 u124 u125 u126 u127 u128 u129 u130 u131 u132 u133 u134 u135 u136 u137 u138 u139 u140 u141 u142 u143 u144 u145 u146 u147 u148 u149 u150 u151 u152 u153 u154 u155 u156 u157 u158 u159 : Value), q4 = zs4.length → unm S met4 + zs4.length ≤ MM → WkP tn n S L R s0 z (k + 1) met4 zs4 → WkAt P wz mb S met4 a4 cap4 zs4 → Q0 (.exit 6) ⟨List.toArray (c0 :: .pointer (some ⟨gb, 0, none⟩) :: c2 :: c3 :: c4 :: c5 :: .slice (some ⟨kn, 0, none⟩) nn nn :: c7 :: c8 :: .slice (some ⟨mb, 0, none⟩) S S :: .slice a4 q4 cap4 :: c11 :: c12 :: .slice rak rl rcap :: u14 :: u15 :: c16 :: c17 :: c18 :: c19 :: c20 :: c21 :: c22 :: c23 :: c24 :: c25 :: c26 :: c27 :: c28 :: c29 :: c30 :: c31 :: c32 :: c33 :: c34 :: c35 :: c36 :: c37 :: c38 :: c39 :: c40 :: c41 :: c42 :: c43 :: c44 :: c45 :: c46 :: c47 :: c48 :: c49 :: c50 :: c51 :: c52 :: c53 :: c54 :: c55 :: c56 :: c57 :: c58 :: c59 :: c60 :: c61 :: c62 :: c63 :: c64 :: c65 :: c66 :: c67 :: c68 :: c69 :: c70 :: c71 :: c72 :: c73 :: c74 :: c75 :: c76 :: c77 :: c78 :: c79 :: c80 :: c81 :: c82 :: c83 :: c84 :: c85 :: c86 :: c87 :: c88 :: c89 :: c90 :: c91 :: c92 :: c93 :: c94 :: c95 :: c96 :: c97 :: c98 :: c99 :: c100 :: c101 :: c102 :: c103 :: c104 :: c105 :: c106 :: c107 :: c108 :: u109 :: u110 :: u111 :: u112 :: u113 :: u114 :: u115 :: u116 :: u117 :: u118 :: u119 :: u120 :: u121 :: u122 :: u123 :: u124 :: u125 :: u126 :: u127 :: u128 :: u129 :: u130 :: u131 :: u132 :: u133 :: u134 :: u135 :: u136 :: u137 :: u138 :: u139 :: u140 :: u141 :: u142 :: u143 :: u144 :: u145 :: u146 :: u147 :: u148 :: u149 :: u150 :: u151 :: u152 :: u153 :: u154 :: u155 :: u156 :: u157 :: u158 :: u159 :: c160 :: c161 :: c162 :: c163 :: c164 :: c165 :: c166 :: c167 :: c168 :: c169 :: c170 :: c171 :: c172 :: c173 :: c174 :: c175 :: c176 :: c177 :: c178 :: c179 :: c180 :: c181 :: c182 :: c183 :: c184 :: c185 :: c186 :: c187 :: c188 :: c189 :: c190 :: c191 :: c192 :: c193 :: c194 :: c195 :: c196 :: c197 :: c198 :: c199 :: c200 :: c201 :: c202 :: c203 :: []), []⟩ wz) :
    Code.wp Tryd.prog leastInner Q0 ⟨List.toArray (c0 :: .pointer (some ⟨gb, 0, none⟩) :: c2 :: c3 :: c4 :: c5 :: .slice (some ⟨kn, 0, none⟩) nn nn :: c7 :: c8 :: .slice (some ⟨mb, 0, none⟩) S S :: .slice a3 q3 cap3 :: c11 :: c12 :: .slice rak rl rcap :: .bool ah0 :: .int .i64 0 :: c16 :: c17 :: c18 :: c19 :: c20 :: c21 :: c22 :: c23 :: c24 :: c25 :: c26 :: c27 :: c28 :: c29 :: c30 :: c31 :: c32 :: c33 :: c34 :: c35 :: c36 :: c37 :: c38 :: c39 :: c40 :: c41 :: c42 :: c43 :: c44 :: c45 :: c46 :: c47 :: c48 :: c49 :: c50 :: c51 :: c52 :: c53 :: c54 :: c55 :: c56 :: c57 :: c58 :: c59 :: c60 :: c61 :: c62 :: c63 :: c64 :: c65 :: c66 :: c67 :: c68 :: c69 :: c70 :: c71 :: c72 :: c73 :: c74 :: c75 :: c76 :: c77 :: c78 :: c79 :: c80 :: c81 :: c82 :: c83 :: c84 :: c85 :: c86 :: c87 :: c88 :: c89 :: c90 :: c91 :: c92 :: c93 :: c94 :: c95 :: c96 :: c97 :: c98 :: c99 :: c100 :: c101 :: c102 :: c103 :: c104 :: c105 :: c106 :: c107 :: c108 :: c109 :: c110 :: c111 :: c112 :: c113 :: c114 :: c115 :: c116 :: c117 :: c118 :: c119 :: c120 :: c121 :: c122 :: c123 :: c124 :: c125 :: c126 :: c127 :: c128 :: c129 :: c130 :: c131 :: c132 :: c133 :: c134 :: c135 :: c136 :: c137 :: c138 :: c139 :: c140 :: c141 :: c142 :: c143 :: c144 :: c145 :: c146 :: c147 :: c148 :: c149 :: c150 :: c151 :: c152 :: c153 :: c154 :: c155 :: c156 :: c157 :: c158 :: c159 :: c160 :: c161 :: c162 :: c163 :: c164 :: c165 :: c166 :: c167 :: c168 :: c169 :: c170 :: c171 :: c172 :: c173 :: c174 :: c175 :: c176 :: c177 :: c178 :: c179 :: c180 :: c181 :: c182 :: c183 :: c184 :: c185 :: c186 :: c187 :: c188 :: c189 :: c190 :: c191 :: c192 :: c193 :: c194 :: c195 :: c196 :: c197 :: c198 :: c199 :: c200 :: c201 :: c202 :: c203 :: []), []⟩ W := by
  have HSE : Hid (S = tn + nn) := hS
  have HRL : Hid (rl = (R k).length) := hrl
  have HBX : Hid (∀ X, P.grownBy X none → X.cell? ⟨gb, 0, none⟩ = some (.slice ta tn tc)) := hbox
  have HNC : Hid (∀ X, P.grownBy X none → ∀ s, s < nn → X.cell? ⟨kn, s, none⟩ = some (.bool (F s))) := hnul
  have HRO : Hid (IntsAt P rak (R k)) := hrow
  have HMR : Hid (∀ x ∈ R k, (0 : Int) ≤ x ∧ x < (S : Int)) := hR
  have HFN : Hid (∀ i : Nat, F i = true ↔ Nul n L R ((tn + i : Nat) : Int)) := hF
  have HNT : Hid (∀ x, Nul n L R x → (tn : Int) ≤ x) := hNT
  have HQ3 : Hid (q3 = zs.length) := hq3
  have HMS3 : Hid (unm S met3 + zs.length ≤ MM) := hms3
  have HWP3 : Hid (WkP tn n S L R s0 z k met3 zs) := hWP3
  have HWA3 : Hid (WkAt P W mb S met3 a3 cap3 zs) := hWA3
  have HAH : Hid (ah0 = false → L k ≠ z) := hah
  have HEX := show Hid _ from hexit
  obtain ⟨i1, hi1, hy0, hy1, hy2⟩ := info_parts infoInt
  clear hS hrl hbox hnul hrow hR hF hNT hq3 hms3 hWP3 hWA3 hah hexit
  conv => arg 2; whnf
  go_loopg [10, 14, 15] rl (fun gk v10 v14 v15 wr => ∃ (j q4 : Nat) (ah : Bool) (met4 : Nat → Bool) (a4 : Option Addr) (cap4 : Nat) (zs4 : List Int), j ≤ rl ∧ gk = rl - j ∧ v10 = .slice a4 q4 cap4 ∧ v14 = .bool ah ∧ v15 = .int .i64 j ∧ q4 = zs4.length ∧ unm S met4 + zs4.length ≤ MM ∧ WkP tn n S L R s0 z k met4 zs4 ∧ WkAt P wr mb S met4 a4 cap4 zs4 ∧ (∀ i, i < j → met4 ((R k).getD i 0).toNat = true) ∧ (ah = false → L k ≠ z ∨ ∃ i, i < j ∧ i < (R k).length ∧ ¬ Nul n L R ((R k).getD i 0)))
  case atStart => exact ⟨0, _, ah0, met3, _, _, zs, Nat.zero_le _, rfl, rfl, rfl, rfl, HQ3.out, HMS3.out, HWP3.out, HWA3.out, fun i hi => absurd hi (Nat.not_lt_zero _), fun h => .inl (HAH.out h)⟩
  case round =>
    obtain ⟨j, q4, ah, met4, a4, cap4, zs4, hj, hgj, rfl, rfl, rfl, hq4, hms4, hWP4, hWA4, hmt4, hah4⟩ := hrel
    have HGJ : Hid (gk = rl - j) := hgj
    have HQ4 : Hid (q4 = zs4.length) := hq4
    have HMS4 : Hid (unm S met4 + zs4.length ≤ MM) := hms4
    have HWP4 : Hid (WkP tn n S L R s0 z k met4 zs4) := hWP4
    have HWA4 : Hid (WkAt P wr mb S met4 a4 cap4 zs4) := hWA4
    have HMT4 : Hid (∀ i, i < j → met4 ((R k).getD i 0).toNat = true) := hmt4
    have HAH4 : Hid (ah = false → L k ≠ z ∨ ∃ i, i < j ∧ i < (R k).length ∧ ¬ Nul n L R ((R k).getD i 0)) := hah4
    have hq4b : q4 ≤ 1000 := by rw [hq4]; omega
    clear hgj hq4 hms4 hWP4 hWA4 hmt4 hah4
    by_cases hjl : j < rl
    · have hj0 : (0 : Int) ≤ (j : Int) := by omega
      have hj1 : (j : Int) < (rl : Int) := by omega
      have hjd : decide (j < rl) = true := decide_eq_true hjl
      cases ah with
      | false =>
        have HNX : Hid (WkP tn n S L R s0 z (k + 1) met4 zs4) := HWP4.out.next fun e => clP_of HMT4.out (by
          rcases HAH4.out rfl with h | h
          · exact absurd e h
          · exact .inr h)
        go_wp2_with fail
        exact HEX.out _ _ _ _ _ _ _ _ _ _ _ _ _ _ _ _ _ _ _ _ _ _ _ _ _ _ _ _ _ _ _ _ _ _ _ _ _ _ _ _ _ _ _ _ _ _ _ _ _ _ _ _ _ _ _ _ _ _ _ HQ4.out HMS4.out HNX.out HWA4.out
      | true =>
        have hjR : j < (R k).length := by rw [← HRL.out]; exact hjl
        have hzz : (0 : Int) ≤ (R k).getD j 0 ∧ (R k).getD j 0 < (S : Int) := by
          rw [List.getD_eq_getElem?_getD, List.getElem?_eq_getElem hjR]
          exact HMR.out _ (List.getElem_mem hjR)
        obtain ⟨z2, hz2e⟩ : ∃ z2 : Nat, (R k).getD j 0 = (z2 : Int) := ⟨((R k).getD j 0).toNat, by omega⟩
        have HZ2 : Hid ((R k).getD j 0 = (z2 : Int)) := hz2e
        have hz2S : z2 < S := by omega
        have hz20 : (0 : Int) ≤ (z2 : Int) := by omega
        have hz21 : (z2 : Int) < (S : Int) := by omega
        obtain ⟨rb, ro, rfl, HRC⟩ : ∃ rb ro, rak = some ⟨rb, ro, none⟩ ∧ Hid (∀ X, P.grownBy X none → X.cell? ⟨rb, ro + j, none⟩ = some (.int .i64 (z2 : Int))) := by
          rcases HRO.out with h | ⟨b, off, e, h⟩
          · rw [h] at hjR; cases hjR
          · refine ⟨b, off, e, fun X hX => ?_⟩
            have h7 := h j hjR
            rw [hz2e] at h7
            exact hX.cell h7 (by simp)
        have hrc := HRC.out wr HWA4.out.grown
        have hmc := HWA4.out.met.cell z2 hz2S
        obtain ⟨mz, hmz⟩ : ∃ m, m = met4 z2 := ⟨_, rfl⟩
        have HMZ0 : Hid (mz = met4 z2) := hmz
        rw [← hmz] at hmc
        clear hjR hzz hz2e hmz
        cases mz with
        | true =>
          have HWZ : Hid (WkAt P wr mb S met4 a4 cap4 zs4) := HWA4.out
          have HPZ : Hid (WkP tn n S L R s0 z k met4 zs4) := HWP4.out
          have HMZ : Hid (unm S met4 + zs4.length ≤ MM) := HMS4.out
          have HMT : Hid (∀ i, i < j + 1 → met4 ((R k).getD i 0).toNat = true) := fun i hi => by
            by_cases e : i = j
            · rw [e, HZ2.out]; exact HMZ0.out.symm
            · exact HMT4.out i (by omega)
          clear HWA4 HWP4 HMS4 HMT4
          have k0 := HBX.out _ HWZ.out.grown
          have hrc := HRC.out wr HWZ.out.grown
          by_cases hzt : tn ≤ z2
          · obtain ⟨s, hs⟩ : ∃ s, z2 = tn + s := ⟨z2 - tn, by omega⟩
            have HFS : Hid (F s = true ↔ Nul n L R (z2 : Int)) := by rw [hs]; exact HFN.out s
            have hsn : s < nn := by have := HSE.out; omega
            have b0 := HNC.out _ HWZ.out.grown s hsn
            have d1 : (z2 : Int) - (tn : Int) = (s : Int) := by omega
            have d3 : IntKind.i64.wrap (s : Int) = (s : Int) := by rw [IntKind.wrap_i64]; omega
            have d5 : (0 : Int) ≤ (s : Int) := by omega
            have d7 : (s : Int) < (nn : Int) := by omega
            have d8 : decide (tn ≤ z2) = true := decide_eq_true hzt
            obtain ⟨fs, hfs⟩ : ∃ c, c = F s := ⟨_, rfl⟩
            rw [← hfs] at b0 HFS
            clear hfs hs
            cases fs with
            | true =>
              go_wp2_with fail
              go_quiet (fail)
              go_wp2_with fail
              go_roundg (rl - (j + 1))
              case measure => have := HGJ.out; omega
              case rel => exact ⟨j + 1, q4, true, met4, a4, cap4, zs4, by omega, rfl, rfl, rfl, by go_num, HQ4.out, HMZ.out, HPZ.out, HWZ.out.kept (grown_drewN _ _), HMT.out, fun h => by cases h⟩
            | false =>
              have HNN : Hid (¬ Nul n L R ((R k).getD j 0)) := by rw [HZ2.out]; exact fun h => absurd (HFS.out.2 h) (by decide)
              go_wp2_with fail
              go_quiet (fail)
              go_wp2_with fail
              go_roundg (rl - (j + 1))
              case measure => have := HGJ.out; omega
              case rel => exact ⟨j + 1, q4, false, met4, a4, cap4, zs4, by omega, rfl, rfl, rfl, by go_num, HQ4.out, HMZ.out, HPZ.out, HWZ.out.kept (grown_drewN _ _), HMT.out, fun _ => .inr ⟨j, by omega, by rw [← HRL.out]; omega, HNN.out⟩⟩
          · have d8 : decide (tn ≤ z2) = false := decide_eq_false hzt
            have HNN : Hid (¬ Nul n L R ((R k).getD j 0)) := by rw [HZ2.out]; exact fun h => by have := HNT.out _ h; omega
            go_wp2_with fail
            go_quiet (fail)
            go_wp2_with fail
            go_roundg (rl - (j + 1))
            case measure => have := HGJ.out; omega
            case rel => exact ⟨j + 1, q4, false, met4, a4, cap4, zs4, by omega, rfl, rfl, rfl, by go_num, HQ4.out, HMZ.out, HPZ.out, HWZ.out.kept (grown_drewN _ _), HMT.out, fun _ => .inr ⟨j, by omega, by rw [← HRL.out]; omega, HNN.out⟩⟩
        | false =>
          have HMT : Hid (∀ i, i < j + 1 → markT met4 z2 ((R k).getD i 0).toNat = true) := fun i hi => by
            by_cases e : i = j
            · rw [e, HZ2.out]; simp [markT]
            · have := HMT4.out i (by omega)
              unfold markT
              split
              · rfl
              · exact this
          have HPZ : Hid (WkP tn n S L R s0 z k (markT met4 z2) (zs4 ++ [(z2 : Int)])) := by
            have h7 := HWP4.out.push (z := (z2 : Int)) (by omega) (by omega)
            rwa [Int.toNat_natCast] at h7
          have HMZ : Hid (unm S (markT met4 z2) + (zs4 ++ [(z2 : Int)]).length ≤ MM) := by
            have h1 := unm_mark met4 z2 HMZ0.out.symm S hz2S
            have h2 := HMS4.out
            show _ ≤ _
            simp
            omega
          have HWM : Hid (WkAt P (wr.setCell ⟨mb, z2, none⟩ (.bool true)) mb S (markT met4 z2) a4 cap4 zs4) := HWA4.out.mark
          have hmf := HWA4.out.met.free z2
          have hrc2 := HRC.out _ HWM.out.grown
          obtain ⟨X1, hX1⟩ : ∃ X1, X1 = wr.setCell ⟨mb, z2, none⟩ (.bool true) := ⟨_, rfl⟩
          rw [← hX1] at HWM
          have HX1 : Hid (X1 = wr.setCell ⟨mb, z2, none⟩ (.bool true)) := hX1
          have HWN : Hid (WkAt P (X1.alloc (.cells #[.int .i64 (z2 : Int)] 3)) mb S (markT met4 z2) a4 cap4 zs4) := HWM.out.kept (World.grownBy_alloc _ _ none)
          have HNB : Hid ((X1.alloc (.cells #[.int .i64 (z2 : Int)] 3)).cell? ⟨X1.heap.size, 0, none⟩ = some (.int .i64 (z2 : Int))) := by
            show _ = _
            rw [cell_of_row _ _ _ _ _ _ (heap_alloc_last X1 _)]; rfl
          have hsz : X1.heap.size = wr.heap.size := by rw [hX1]; simp [World.setCell]
          rw [hsz] at HNB
          rw [hX1] at HWN HNB
          clear hsz
          clear HWA4 HWP4 HMS4 HMT4 hX1
          go_wp2_with (at_builtin; refine wpList_append_que _ rfl (.tmp 132) (.tmp 137) 24 rfl P.heap.size i1 Tryd.underlying24 hi1 hy0 hy1 hy2 a4 q4 cap4 zs4 rfl HQ4.out HWN.out.que HWN.out.grown.size _ (z2 : Int) _ rfl HNB.out (by omega) ?_; intro a5 cap5 wB hqB hgB; have HWZ : Hid (WkAt P wB mb S (markT met4 z2) a5 cap5 (zs4 ++ [(z2 : Int)])) := HWN.out.push hqB hgB; clear hqB hgB)
          clear hrc hrc2 hmc hmf HWN HWM HNB HX1
          have k0 := HBX.out _ HWZ.out.grown
          have hrc := HRC.out wB HWZ.out.grown
          by_cases hzt : tn ≤ z2
          · obtain ⟨s, hs⟩ : ∃ s, z2 = tn + s := ⟨z2 - tn, by omega⟩
            have HFS : Hid (F s = true ↔ Nul n L R (z2 : Int)) := by rw [hs]; exact HFN.out s
            have hsn : s < nn := by have := HSE.out; omega
            have b0 := HNC.out _ HWZ.out.grown s hsn
            have d1 : (z2 : Int) - (tn : Int) = (s : Int) := by omega
            have d3 : IntKind.i64.wrap (s : Int) = (s : Int) := by rw [IntKind.wrap_i64]; omega
            have d5 : (0 : Int) ≤ (s : Int) := by omega
            have d7 : (s : Int) < (nn : Int) := by omega
            have d8 : decide (tn ≤ z2) = true := decide_eq_true hzt
            obtain ⟨fs, hfs⟩ : ∃ c, c = F s := ⟨_, rfl⟩
            rw [← hfs] at b0 HFS
            clear hfs hs
            cases fs with
            | true =>
              go_wp2_with fail
              go_quiet (fail)
              go_wp2_with fail
              go_roundg (rl - (j + 1))
              case measure => have := HGJ.out; omega
              case rel => exact ⟨j + 1, q4 + 1, true, markT met4 z2, a5, cap5, zs4 ++ [(z2 : Int)], by omega, rfl, rfl, rfl, by go_num, by rw [HQ4.out]; simp, HMZ.out, HPZ.out, HWZ.out.kept (grown_drewN _ _), HMT.out, fun h => by cases h⟩
            | false =>
              have HNN : Hid (¬ Nul n L R ((R k).getD j 0)) := by rw [HZ2.out]; exact fun h => absurd (HFS.out.2 h) (by decide)
              go_wp2_with fail
              go_quiet (fail)
              go_wp2_with fail
              go_roundg (rl - (j + 1))
              case measure => have := HGJ.out; omega
              case rel => exact ⟨j + 1, q4 + 1, false, markT met4 z2, a5, cap5, zs4 ++ [(z2 : Int)], by omega, rfl, rfl, rfl, by go_num, by rw [HQ4.out]; simp, HMZ.out, HPZ.out, HWZ.out.kept (grown_drewN _ _), HMT.out, fun _ => .inr ⟨j, by omega, by rw [← HRL.out]; omega, HNN.out⟩⟩
          · have d8 : decide (tn ≤ z2) = false := decide_eq_false hzt
            have HNN : Hid (¬ Nul n L R ((R k).getD j 0)) := by rw [HZ2.out]; exact fun h => by have := HNT.out _ h; omega
            go_wp2_with fail
            go_quiet (fail)
            go_wp2_with fail
            go_roundg (rl - (j + 1))
            case measure => have := HGJ.out; omega
            case rel => exact ⟨j + 1, q4 + 1, false, markT met4 z2, a5, cap5, zs4 ++ [(z2 : Int)], by omega, rfl, rfl, rfl, by go_num, by rw [HQ4.out]; simp, HMZ.out, HPZ.out, HWZ.out.kept (grown_drewN _ _), HMT.out, fun _ => .inr ⟨j, by omega, by rw [← HRL.out]; omega, HNN.out⟩⟩
    · have hjn : rl = j := by omega
      subst hjn
      have hjd : decide (rl < rl) = false := decide_eq_false (by omega)
      have HNX : Hid (WkP tn n S L R s0 z (k + 1) met4 zs4) := HWP4.out.next fun e => clP_of HMT4.out (.inl HRL.out)
      go_wp2_with fail
      exact HEX.out _ _ _ _ _ _ _ _ _ _ _ _ _ _ _ _ _ _ _ _ _ _ _ _ _ _ _ _ _ _ _ _ _ _ _ _ _ _ _ _ _ _ _ _ _ _ _ _ _ _ _ _ _ _ _ _ _ _ _ HQ4.out HMS4.out HNX.out HWA4.out

end Go.Proofs.YtdhojilmgnodeaaDoor

/-
  FirstLeast: the loop over the productions, a declaration of its own.
-/
namespace Go.Proofs.YtdhojilmgnodeaaDoor
open Go.RowKit Go.Maps Go.Shelf

attribute [local go_sem] Oper.semAt_some

set_option maxRecDepth 100000 in
set_option maxHeartbeats 4000000 in
theorem least_mid {Q0 : Exit → Act → World → Prop} {P W : World} {gb kn mb S nn tn n tc pc bp op q1 cap1 MM z' : Nat} {ta a1 : Option Addr} {L : Nat → Int} {R : Nat → List Int} {ra : Nat → Option Addr} {rc : Nat → Nat} {F : Nat → Bool} {s0 : Int} {met : Nat → Bool} {ys : List Int}
    {c0 c2 c3 c4 c5 c7 c8 c13 c14 c15 c16 c17 c18 c19 c20 c21 c22 c23 c24 c25 c26 c27 c28 c29 c30 c31 c32 c33 c34 c35 c36 c37 c38 c39 c40 c41 c42 c43 c44 c45 c46 c47 c48 c49 c50 c51 c52 c53 c54 c55 c56 c57 c58 c59 c60 c61 c62 c63 c64 c65 c66 c67 c68 c69 c70 c71 c72 c73 c74 c75 c76 c77 c78 c79 c80 c81 c82 c83 c84 c85 c86 c87 c88 c89 c90 c91 c92 c93 c94 c95 c96 c97 c98 c99 c100 c101 c102 c103 c104 c105 c106 c107 c108 c109 c110 c111 c112 c113 c114 c115 c116 c117 c118 c119 c120 c121 c122 c123 c124 c125 c126 c127 c128 c129 c130 c131 c132 c133 c134 c135 c136 c137 c138 c139 c140 c141 c142 c143 c144 c145 c146 c147 c148 c149 c150 c151 c152 c153 c154 c155 c156 c157 c158 c159 c160 c161 c162 c163 c164 c165 c166 c167 c168 c169 c170 c171 c172 c173 c174 c175 c176 c177 c178 c179 c180 c181 c182 c183 c184 c185 c186 c187 c188 c189 c190 c191 c192 c193 c194 c195 c196 c197 c198 c199 c200 c201 c202 c203 : Value}
    (hS : S = tn + nn) (hSz : S ≤ 130) (hn97 : n ≤ 97) (hMM : MM ≤ 131)
    (hbox : ∀ X, P.grownBy X none → X.cell? ⟨gb, 0, none⟩ = some (.slice ta tn tc) ∧ X.cell? ⟨gb, 4, none⟩ = some (.slice (some ⟨bp, op, none⟩) n pc))
    (hnul : ∀ X, P.grownBy X none → ∀ s, s < nn → X.cell? ⟨kn, s, none⟩ = some (.bool (F s)))
    (hp : ∀ k, k < n → ∀ X, P.grownBy X none → X.cell? ⟨bp, op + k * 3, none⟩ = some (.int .i64 (L k)) ∧ X.cell? ⟨bp, op + k * 3 + 1, none⟩ = some (.slice (ra k) (R k).length (rc k)) ∧ IntsAt X (ra k) (R k))
    (hrb : ∀ k, k < n → (R k).length ≤ 17592186044416)
    (hR : ∀ k, k < n → ∀ x ∈ R k, (0 : Int) ≤ x ∧ x < (S : Int))
    (hF : ∀ i : Nat, F i = true ↔ Nul n L R ((tn + i : Nat) : Int)) (hNT : ∀ x, Nul n L R x → (tn : Int) ≤ x)
    (hq1 : q1 = ys.length) (hms1 : unm S met + ys.length ≤ MM) (hWP1 : WkP tn n S L R s0 (z' : Int) 0 met ys) (hWA1 : WkAt P W mb S met a1 cap1 ys)
    (hexit : ∀ (wz : World) (q4 cap4 : Nat) (a4 : Option Addr) (met4 : Nat → Bool) (zs4 : List Int) (u12 u13 u14 u15 u88 u89 u90 u91 u92 u93 u94 u95 u96 u97 u98 u99 u100 u101 u102 u103 u104 u105 u106 u107 u108 u109 u110 u111 u112 u113 u114 u115 u116 u117 u118 u119 u120 u121 u122 u123 u124 u125 u126 u127 u128 u129 u130 u131 u132 u133 u134 u135 u136 u137 u138 u139 u140 u141 u142 u143 u144 u145 u146 u147 u148 u149 u150 u151 u152 u153 u154 u155 u156 u157 u158 u159 : Value), q4 = zs4.length → unm S met4 + zs4.length ≤ MM → WkP tn n S L R s0 (-1) 0 met4 zs4 → WkAt P wz mb S met4 a4 cap4 zs4 → Q0 (.exit 4) ⟨List.toArray (c0 :: .pointer (some ⟨gb, 0, none⟩) :: c2 :: c3 :: c4 :: c5 :: .slice (some ⟨kn, 0, none⟩) nn nn :: c7 :: c8 :: .slice (some ⟨mb, 0, none⟩) S S :: .slice a4 q4 cap4 :: .int .i64 (z' : Int) :: u12 :: u13 :: u14 :: u15 :: c16 :: c17 :: c18 :: c19 :: c20 :: c21 :: c22 :: c23 :: c24 :: c25 :: c26 :: c27 :: c28 :: c29 :: c30 :: c31 :: c32 :: c33 :: c34 :: c35 :: c36 :: c37 :: c38 :: c39 :: c40 :: c41 :: c42 :: c43 :: c44 :: c45 :: c46 :: c47 :: c48 :: c49 :: c50 :: c51 :: c52 :: c53 :: c54 :: c55 :: c56 :: c57 :: c58 :: c59 :: c60 :: c61 :: c62 :: c63 :: c64 :: c65 :: c66 :: c67 :: c68 :: c69 :: c70 :: c71 :: c72 :: c73 :: c74 :: c75 :: c76 :: c77 :: c78 :: c79 :: c80 :: c81 :: c82 :: c83 :: c84 :: c85 :: c86 :: c87 :: u88 :: u89 :: u90 :: u91 :: u92 :: u93 :: u94 :: u95 :: u96 :: u97 :: u98 :: u99 :: u100 :: u101 :: u102 :: u103 :: u104 :: u105 :: u106 :: u107 :: u108 :: u109 :: u110 :: u111 :: u112 :: u113 :: u114 :: u115 :: u116 :: u117 :: u118 :: u119 :: u120 :: u121 :: u122 :: u123 :: u124 :: u125 :: u126 :: u127 :: u128 :: u129 :: u130 :: u131 :: u132 :: u133 :: u134 :: u135 :: u136 :: u137 :: u138 :: u139 :: u140 :: u141 :: u142 :: u143 :: u144 :: u145 :: u146 :: u147 :: u148 :: u149 :: u150 :: u151 :: u152 :: u153 :: u154 :: u155 :: u156 :: u157 :: u158 :: u159 :: c160 :: c161 :: c162 :: c163 :: c164 :: c165 :: c166 :: c167 :: c168 :: c169 :: c170 :: c171 :: c172 :: c173 :: c174 :: c175 :: c176 :: c177 :: c178 :: c179 :: c180 :: c181 :: c182 :: c183 :: c184 :: c185 :: c186 :: c187 :: c188 :: c189 :: c190 :: c191 :: c192 :: c193 :: c194 :: c195 :: c196 :: c197 :: c198 :: c199 :: c200 :: c201 :: c202 :: c203 :: []), []⟩ wz) :
    Code.wp Tryd.prog leastMid Q0 ⟨List.toArray (c0 :: .pointer (some ⟨gb, 0, none⟩) :: c2 :: c3 :: c4 :: c5 :: .slice (some ⟨kn, 0, none⟩) nn nn :: c7 :: c8 :: .slice (some ⟨mb, 0, none⟩) S S :: .slice a1 q1 cap1 :: .int .i64 (z' : Int) :: .int .i64 0 :: c13 :: c14 :: c15 :: c16 :: c17 :: c18 :: c19 :: c20 :: c21 :: c22 :: c23 :: c24 :: c25 :: c26 :: c27 :: c28 :: c29 :: c30 :: c31 :: c32 :: c33 :: c34 :: c35 :: c36 :: c37 :: c38 :: c39 :: c40 :: c41 :: c42 :: c43 :: c44 :: c45 :: c46 :: c47 :: c48 :: c49 :: c50 :: c51 :: c52 :: c53 :: c54 :: c55 :: c56 :: c57 :: c58 :: c59 :: c60 :: c61 :: c62 :: c63 :: c64 :: c65 :: c66 :: c67 :: c68 :: c69 :: c70 :: c71 :: c72 :: c73 :: c74 :: c75 :: c76 :: c77 :: c78 :: c79 :: c80 :: c81 :: c82 :: c83 :: c84 :: c85 :: c86 :: c87 :: c88 :: c89 :: c90 :: c91 :: c92 :: c93 :: c94 :: c95 :: c96 :: c97 :: c98 :: c99 :: c100 :: c101 :: c102 :: c103 :: c104 :: c105 :: c106 :: c107 :: c108 :: c109 :: c110 :: c111 :: c112 :: c113 :: c114 :: c115 :: c116 :: c117 :: c118 :: c119 :: c120 :: c121 :: c122 :: c123 :: c124 :: c125 :: c126 :: c127 :: c128 :: c129 :: c130 :: c131 :: c132 :: c133 :: c134 :: c135 :: c136 :: c137 :: c138 :: c139 :: c140 :: c141 :: c142 :: c143 :: c144 :: c145 :: c146 :: c147 :: c148 :: c149 :: c150 :: c151 :: c152 :: c153 :: c154 :: c155 :: c156 :: c157 :: c158 :: c159 :: c160 :: c161 :: c162 :: c163 :: c164 :: c165 :: c166 :: c167 :: c168 :: c169 :: c170 :: c171 :: c172 :: c173 :: c174 :: c175 :: c176 :: c177 :: c178 :: c179 :: c180 :: c181 :: c182 :: c183 :: c184 :: c185 :: c186 :: c187 :: c188 :: c189 :: c190 :: c191 :: c192 :: c193 :: c194 :: c195 :: c196 :: c197 :: c198 :: c199 :: c200 :: c201 :: c202 :: c203 :: []), []⟩ W := by
  have HSE : Hid (S = tn + nn) := hS
  have HBX : Hid (∀ X, P.grownBy X none → X.cell? ⟨gb, 0, none⟩ = some (.slice ta tn tc) ∧ X.cell? ⟨gb, 4, none⟩ = some (.slice (some ⟨bp, op, none⟩) n pc)) := hbox
  have HNC : Hid (∀ X, P.grownBy X none → ∀ s, s < nn → X.cell? ⟨kn, s, none⟩ = some (.bool (F s))) := hnul
  have HPC : Hid (∀ k, k < n → ∀ X, P.grownBy X none → X.cell? ⟨bp, op + k * 3, none⟩ = some (.int .i64 (L k)) ∧ X.cell? ⟨bp, op + k * 3 + 1, none⟩ = some (.slice (ra k) (R k).length (rc k)) ∧ IntsAt X (ra k) (R k)) := hp
  have HRB : Hid (∀ k, k < n → (R k).length ≤ 17592186044416) := hrb
  have HMR : Hid (∀ k, k < n → ∀ x ∈ R k, (0 : Int) ≤ x ∧ x < (S : Int)) := hR
  have HFN : Hid (∀ i : Nat, F i = true ↔ Nul n L R ((tn + i : Nat) : Int)) := hF
  have HNT : Hid (∀ x, Nul n L R x → (tn : Int) ≤ x) := hNT
  have HQ2 : Hid (q1 = ys.length) := hq1
  have HMS1 : Hid (unm S met + ys.length ≤ MM) := hms1
  have HWP1 : Hid (WkP tn n S L R s0 (z' : Int) 0 met ys) := hWP1
  have HT : Hid (WkAt P W mb S met a1 cap1 ys) := hWA1
  have HEX := show Hid _ from hexit
  clear hS hbox hnul hp hrb hR hF hNT hq1 hms1 hWP1 hWA1 hexit
  conv => arg 2; whnf
  go_loopg [10, 12] n (fun gk v10 v12 wr => ∃ (k q3 : Nat) (met3 : Nat → Bool) (a3 : Option Addr) (cap3 : Nat) (zs : List Int), k ≤ n ∧ gk = n - k ∧ v10 = .slice a3 q3 cap3 ∧ v12 = .int .i64 k ∧ q3 = zs.length ∧ unm S met3 + zs.length ≤ MM ∧ WkP tn n S L R s0 (z' : Int) k met3 zs ∧ WkAt P wr mb S met3 a3 cap3 zs)
  case atStart => exact ⟨0, _, met, _, _, ys, Nat.zero_le _, rfl, rfl, rfl, HQ2.out, HMS1.out, HWP1.out, HT.out⟩
  case round =>
    obtain ⟨k, q3, met3, a3, cap3, zs, hk, hgk3, rfl, rfl, hq3, hms3, hWP3, hWA3⟩ := hrel
    have HGK3 : Hid (gk = n - k) := hgk3
    have HQ3 : Hid (q3 = zs.length) := hq3
    have HMS3 : Hid (unm S met3 + zs.length ≤ MM) := hms3
    have HWP3 : Hid (WkP tn n S L R s0 (z' : Int) k met3 zs) := hWP3
    have HWA3 : Hid (WkAt P wr mb S met3 a3 cap3 zs) := hWA3
    clear hgk3 hq3 hms3 hWP3 hWA3
    obtain ⟨k0, k4⟩ := HBX.out wr HWA3.out.grown
    by_cases hkn : k < n
    · have hk0 : (0 : Int) ≤ (k : Int) := by omega
      have hk1 : (k : Int) < (n : Int) := by omega
      have hkd : decide (k < n) = true := decide_eq_true hkn
      obtain ⟨rl, hrl⟩ : ∃ r, r = (R k).length := ⟨_, rfl⟩
      have HRL : Hid (rl = (R k).length) := hrl
      have hrb : rl ≤ 17592186044416 := by rw [hrl]; exact HRB.out k hkn
      obtain ⟨lk, hlk⟩ : ∃ l, l = L k := ⟨_, rfl⟩
      have HLK : Hid (lk = L k) := hlk
      obtain ⟨p0, p1, _⟩ := HPC.out k hkn wr HWA3.out.grown
      rw [← hrl] at p1
      rw [← hlk] at p0
      obtain ⟨ah0, hah0⟩ : ∃ b : Bool, b = (lk == (z' : Int)) := ⟨_, rfl⟩
      have HAH : Hid (ah0 = false → L k ≠ (z' : Int)) := fun h e => by
        rw [hah0, hlk, e] at h
        simp at h
      have hah1 : (lk == (z' : Int)) = ah0 := hah0.symm
      clear hrl hlk hah0
      generalize wr = W3 at *
      go_wp2_with fail
      refine least_inner (P := P) (gb := gb) (kn := kn) (mb := mb) (S := S) (nn := nn) (tn := tn) (n := n) (tc := tc) (k := k) (MM := MM) (ta := ta) (L := L) (R := R) (F := F) (s0 := s0) (z := (z' : Int)) (met3 := met3) (zs := zs) HSE.out hSz HRL.out hrb hMM (fun X hX => (HBX.out X hX).1) HNC.out (HPC.out k hkn P (grown_refl _ _)).2.2 (HMR.out k hkn) HFN.out HNT.out HQ3.out HMS3.out HWP3.out HWA3.out HAH.out ?_
      intro wz q4 cap4 a4 met4 zs4 u14 u15 u109 u110 u111 u112 u113 u114 u115 u116 u117 u118 u119 u120 u121 u122 u123 u124 u125 u126 u127 u128 u129 u130 u131 u132 u133 u134 u135 u136 u137 u138 u139 u140 u141 u142 u143 u144 u145 u146 u147 u148 u149 u150 u151 u152 u153 u154 u155 u156 u157 u158 u159 hq4 hms4 hWP4 hWA4
      have HQ4 : Hid (q4 = zs4.length) := hq4
      have HMS4 : Hid (unm S met4 + zs4.length ≤ MM) := hms4
      have HWP4 : Hid (WkP tn n S L R s0 (z' : Int) (k + 1) met4 zs4) := hWP4
      have HWA4 : Hid (WkAt P wz mb S met4 a4 cap4 zs4) := hWA4
      clear hq4 hms4 hWP4 hWA4 k0 k4 p0 p1
      go_wp2_with fail
      go_roundg (n - (k + 1))
      case measure => have := HGK3.out; omega
      case rel => exact ⟨k + 1, q4, met4, a4, cap4, zs4, by omega, rfl, rfl, by go_num, HQ4.out, HMS4.out, HWP4.out, HWA4.out⟩
    · have hkk : n = k := by omega
      subst hkk
      have hkd : decide (n < n) = false := decide_eq_false (by omega)
      have HDN : Hid (WkP tn n S L R s0 (-1) 0 met3 zs) := HWP3.out.done
      go_wp2_with fail
      exact HEX.out _ _ _ _ _ _ _ _ _ _ _ _ _ _ _ _ _ _ _ _ _ _ _ _ _ _ _ _ _ _ _ _ _ _ _ _ _ _ _ _ _ _ _ _ _ _ _ _ _ _ _ _ _ _ _ _ _ _ _ _ _ _ _ _ _ _ _ _ _ _ _ _ _ _ _ _ _ _ _ _ _ _ HQ3.out HMS3.out HDN.out HWA3.out

end Go.Proofs.YtdhojilmgnodeaaDoor

/-
  first: the document's List, Either, Nullable.
-/
namespace Go.Proofs.YtdhojilmgnodeaaDoor
open Go.RowKit Go.Maps Go.Shelf

attribute [local go_sem] Oper.semAt_some

/-- The numbers below k that are so. -/
def listF (f : Nat → Bool) (k : Nat) : List Int := ((List.range k).filter f).map fun i : Nat => (i : Int)
theorem listF_succ (f : Nat → Bool) (k : Nat) : listF f (k + 1) = listF f k ++ (if f k = true then [(k : Int)] else []) := by
  unfold listF
  rw [List.range_succ, List.filter_append, List.map_append]
  cases h : f k <;> simp only [List.filter_cons, h, List.filter_nil] <;> rfl
theorem listF_len (f : Nat → Bool) (k : Nat) : (listF f k).length ≤ k := by
  unfold listF
  rw [List.length_map]
  have := List.length_filter_le f (List.range k)
  rwa [List.length_range] at this
theorem listF_mems {f : Nat → Bool} {m : Nat} : ∀ k, (∀ i, i < k → f i = m.testBit i) → listF f k = B.mems k m
  | 0, _ => rfl
  | k + 1, h => by rw [listF_succ, B.mems_succ, listF_mems k (fun i hi => h i (by omega)), h k (by omega)]

set_option maxRecDepth 100000 in
set_option maxHeartbeats 1000000 in
theorem rlist_any (kb n : Nat) (f : Nat → Bool) (w : World) (hB : ValAt w kb n 4 (fun i => .bool (f i))) (hn : n ≤ 1024) :
    Calls Tryd.prog 34 #[.slice (some ⟨kb, 0, none⟩) n n] w fun e y => BothTold (listF f n) w e y := by
  have HB : Hid (∀ X, w.grownBy X none → ValAt X kb n 4 (fun i => .bool (f i))) := fun X hX => hB.kept hX
  obtain ⟨i0, hi0, hz0, hz1, hz2⟩ := info_parts infoIntK
  clear hB
  go_enter Tryd.func34, Tryd.ntmps34
  go_wp2_with fail
  go_loopg [3, 4] n (fun gk v3 v4 wr => ∃ (k : Nat) (a' : Option Addr) (c' : Nat), k ≤ n ∧ gk = n - k ∧ v3 = .slice a' (listF f k).length c' ∧ v4 = .int .i64 k ∧ w.grownBy wr none ∧ wr.ownsRow w.heap.size 3 1 (.slice a' (listF f k).length c') (listF f k).length ((listF f k).map (Value.int .i64)))
  case atStart => exact ⟨0, none, 0, Nat.zero_le _, rfl, rfl, rfl, grown_refl _ _, World.ownsRow_nil _ _ _ _⟩
  case round =>
    obtain ⟨k, a', c', hk, hgk, rfl, rfl, hg, ho⟩ := hrel
    have HGK : Hid (gk = n - k) := hgk
    have HG : Hid (w.grownBy wr none) := hg
    obtain ⟨ol, hol⟩ : ∃ o, o = (listF f k).length := ⟨_, rfl⟩
    have HOL : Hid (ol = (listF f k).length) := hol
    have holb : ol ≤ 1024 := by rw [hol]; exact Nat.le_trans (listF_len f k) (by omega)
    rw [← hol] at ho
    rw [← hol]
    have HO := show Hid _ from ho
    clear hgk hg ho hol
    by_cases hlt : k < n
    · have hk0 : (0 : Int) ≤ (k : Int) := by omega
      have hk1 : (k : Int) < (n : Int) := by omega
      have hkd : decide (k < n) = true := decide_eq_true hlt
      have b0 := (HB.out wr HG.out).cell k hlt
      have HS := show Hid _ from listF_succ f k
      obtain ⟨fk, hfk⟩ : ∃ c, c = f k := ⟨_, rfl⟩
      rw [← hfk] at b0 HS
      clear hfk
      cases fk with
      | false =>
        have HS2 : Hid (listF f (k + 1) = listF f k) := by show _ = _; rw [HS.out]; simp
        clear HS
        go_wp2_with fail
        go_roundg (n - (k + 1))
        case measure => have := HGK.out; omega
        case rel => exact ⟨k + 1, a', c', by omega, rfl, by rw [HS2.out, ← HOL.out], by go_num, HG.out, by rw [HS2.out, ← HOL.out]; exact HO.out⟩
      | true =>
        have HS2 : Hid (listF f (k + 1) = listF f k ++ [(k : Int)]) := by show _ = _; rw [HS.out]; simp
        have HOW : Hid ((wr.alloc (.cells #[.int .i64 (k : Int)] 3)).ownsRow w.heap.size 3 1 (.slice a' ol c') ol ((listF f k).map (Value.int .i64))) := keep0 HO.out (World.grownBy_alloc _ _ none)
        have HGA : Hid (w.grownBy (wr.alloc (.cells #[.int .i64 (k : Int)] 3)) none) := grown_trans HG.out (World.grownBy_alloc _ _ none)
        have HF6 : Hid (∀ v6 wB, wB.ownsRow w.heap.size 3 1 v6 (ol + 1) ((listF f k).map (Value.int .i64) ++ [.int .i64 (k : Int)]) → (wr.alloc (.cells #[.int .i64 (k : Int)] 3)).grownBy wB (Value.slice a' ol c').ownBlock → ∃ a c, v6 = .slice a (listF f (k + 1)).length c ∧ w.grownBy wB none ∧ wB.ownsRow w.heap.size 3 1 (.slice a (listF f (k + 1)).length c) (listF f (k + 1)).length ((listF f (k + 1)).map (Value.int .i64))) := by
          intro v6 wB ho hg
          obtain ⟨a, c, rfl⟩ := owns_slice ho
          have e1 : (listF f (k + 1)).length = ol + 1 := by rw [HS2.out, List.length_append, ← HOL.out]; rfl
          refine ⟨a, c, by rw [e1], ?_, ?_⟩
          · cases hv : (Value.slice a' ol c').ownBlock with
            | none => rw [hv] at hg; exact grown_trans HGA.out hg
            | some q => rw [hv] at hg; exact grown_at HGA.out hg (HOW.out.lt q hv).1
          · rw [e1, HS2.out, List.map_append]
            exact ho
        have HNW : Hid (∀ j u, [Value.int .i64 (k : Int)][j]? = some u → (wr.alloc (.cells #[.int .i64 (k : Int)] 3)).cell? ((⟨wr.heap.size, 0, none⟩ : Addr).add j) = some u) := news_new wr _ _
        have HBB : Hid (w.heap.size ≤ (wr.alloc (.cells #[.int .i64 (k : Int)] 3)).heap.size) := HGA.out.size
        clear HS
        go_wp2_with (at_builtin; refine wpList_append_src rfl (.tmp 15) (.tmp 17) 24 rfl w.heap.size 3 i0 (.int .i64 0) 1 8 Tryd.underlying24 hi0 hz0 hz1 hz2 rfl (by decide) (.slice a' ol c') ol ((listF f k).map (Value.int .i64)) rfl HOW.out (some ⟨wr.heap.size, 0, none⟩) 1 1 [.int .i64 (k : Int)] rfl (fun h => by cases h) rfl (fun ad e => by cases e; exact HNW.out) (by simp [Value.oneCell']) (by unfold maxLen; omega) (by omega) HBB.out ?_; intro v6 wB hoB hgB; obtain ⟨a6, c6, rfl, y2, y3⟩ := HF6.out v6 wB hoB hgB; have HY2 := show Hid _ from y2; have HY3 := show Hid _ from y3; clear hoB hgB y2 y3)
        go_roundg (n - (k + 1))
        case measure => have := HGK.out; omega
        case rel => exact ⟨k + 1, a6, c6, by omega, rfl, rfl, by go_num, HY2.out, HY3.out⟩
    · have hkn : n = k := by omega
      subst hkn
      have hkd : decide (n < n) = false := decide_eq_false (by omega)
      go_wp2_with fail
      go_ret
      have h2 := HO.out
      rw [HOL.out] at h2
      exact ⟨a', c', by rw [← HOL.out]; rfl, h2, HG.out⟩

end Go.Proofs.YtdhojilmgnodeaaDoor
