import Derived.Test.YthoamlahbnphkaaGreatQikojkomcgmgp

/-
  first: what a row begins with, as far as is found (ofRow), and add.
-/
namespace Go.Proofs.YthoamlahbnphkaaGreat
open Go.RowKit Go.Maps Go.Shelf

attribute [local go_sem] Oper.semAt_some

theorem boxKept {X Y : World} {b : Nat} {o : Obj} (h : X.heap[b]? = some o) (hg : X.grownBy Y none) : Hid (Y.heap[b]? = some o) := (hg.block b (Array.getElem?_eq_some_iff.1 h).1 (by simp)).trans h

/-- The box of found, and what it holds. -/
structure FB (w X : World) (fb0 : Nat) (lo hi tn S fb vb : Nat) (f : Nat → Nat) (v : Nat) (m : Nat → Nat) : Prop where
  grown : w.grownBy X none
  box : X.heap[fb0]? = some (.cells #[.int .i64 (tn : Int), .pointer (some ⟨vb, 0, none⟩), .slice (some ⟨fb, 0, none⟩) S S] 126 (0, 0))
  fat : FAt X lo hi tn S fb vb f v m
section
variable {w X Y : World} {fb0 lo hi tn S fb vb : Nat} {f : Nat → Nat} {v : Nat} {m : Nat → Nat}
theorem FB.kept (h : FB w X fb0 lo hi tn S fb vb f v m) (hg : X.grownBy Y none) : FB w Y fb0 lo hi tn S fb vb f v m := ⟨grown_trans h.grown hg, (boxKept h.box hg).out, h.fat.kept hg⟩
theorem FB.cells (h : FB w X fb0 lo hi tn S fb vb f v m) : X.cell? ⟨fb0, 0, none⟩ = some (.int .i64 (tn : Int)) ∧ X.cell? ⟨fb0, 1, none⟩ = some (.pointer (some ⟨vb, 0, none⟩)) ∧ X.cell? ⟨fb0, 2, none⟩ = some (.slice (some ⟨fb, 0, none⟩) S S) := by
  refine ⟨?_, ?_, ?_⟩ <;> rw [cell_of_row _ _ _ _ _ _ h.box] <;> rfl
end

theorem rowM_take {v : Nat} {m : Nat → Nat} {l : List Int} {k : Nat} (hk : k < l.length) (hv : rowV v (l.take k) = true) : rowM v m (l.take (k + 1)) = rowM v m (l.take k) ||| m (l.getD k 0).toNat := by
  rw [List.take_add_one, List.getElem?_eq_getElem hk, Option.toList_some, rowM_append, if_pos hv]
  have e : l.getD k 0 = l[k] := by rw [List.getD_eq_getElem?_getD, List.getElem?_eq_getElem hk]; rfl
  rw [e]
  simp [rowM]
theorem rowV_take {v : Nat} {l : List Int} {k : Nat} (hk : k < l.length) : rowV v (l.take (k + 1)) = (rowV v (l.take k) && v.testBit (l.getD k 0).toNat) := by
  rw [List.take_add_one, List.getElem?_eq_getElem hk, Option.toList_some, rowV_append]
  have e : l.getD k 0 = l[k] := by rw [List.getD_eq_getElem?_getD, List.getElem?_eq_getElem hk]; rfl
  rw [e]
  simp [rowV]
theorem row_stop {v : Nat} {m : Nat → Nat} {l : List Int} {k : Nat} (hk : k < l.length) (hv : v.testBit (l.getD k 0).toNat = false) : rowV v l = false ∧ rowM v m l = rowM v m (l.take (k + 1)) := by
  have h1 : rowV v (l.take (k + 1)) = false := by rw [rowV_take hk, hv, Bool.and_false]
  have e := List.take_append_drop (k + 1) l
  constructor
  · rw [← e, rowV_append, h1, Bool.false_and]
  · conv => lhs; rw [← e]
    rw [rowM_append, h1]
    simp

set_option maxRecDepth 100000 in
set_option maxHeartbeats 1000000 in
theorem ofRow_any (lo hi tn S fb vb : Nat) (f : Nat → Nat) (v : Nat) (m : Nat → Nat) (a : Option Addr) (cap : Nat) (l : List Int) (w : World) (hF : FAt w lo hi tn S fb vb f v m) (hl : IntsAt w a l) (hlen : l.length ≤ 17592186044416) (hin : ∀ x ∈ l, (0 : Int) ≤ x ∧ x < (S : Int)) (htn : tn ≤ 1024) (hhi : hi ≤ w.heap.size) :
    Calls Tryz.prog 126 #[.agg #[.int .i64 (tn : Int), .pointer (some ⟨vb, 0, none⟩), .slice (some ⟨fb, 0, none⟩) S S], .slice a l.length cap] w fun e w' => ∃ b, e = .returned (.tuple #[.pointer (some ⟨b, 0, none⟩), .bool (rowV v l)]) ∧ w.heap.size ≤ b ∧ B.SetM w' (some ⟨b, 0, none⟩) tn (rowM v m l) ∧ w.grownBy w' none := by
  obtain ⟨n, hn⟩ : ∃ n, n = l.length := ⟨_, rfl⟩
  have HN : Hid (n = l.length) := hn
  rw [← hn] at hlen
  rw [← hn]
  have HB0 : Hid (FB w (w.alloc (.cells #[.int .i64 (tn : Int), .pointer (some ⟨vb, 0, none⟩), .slice (some ⟨fb, 0, none⟩) S S] 126)) w.heap.size lo hi tn S fb vb f v m) := ⟨World.grownBy_alloc _ _ none, heap_alloc_last w _, hF.kept (World.grownBy_alloc _ _ none)⟩
  have HL : Hid (∀ X, w.grownBy X none → IntsAt X a l) := fun X hX => hl.kept hX
  have HIN : Hid (∀ k, k < l.length → (0 : Int) ≤ l.getD k 0 ∧ l.getD k 0 < (S : Int)) := fun k hk => by
    rw [List.getD_eq_getElem?_getD, List.getElem?_eq_getElem hk]; exact hin _ (List.getElem_mem hk)
  have HCL : Hid (B.clampN (tn : Int) = tn) := by show B.clampN (tn : Int) = tn; unfold B.clampN; omega
  have HHI : Hid (hi ≤ w.heap.size) := hhi
  clear hF hl hin hn hhi
  obtain ⟨k0, k1, k2⟩ := HB0.out.cells
  go_enter Tryz.func126, Tryz.ntmps126
  go_wp2_with fail
  refine Calls.mono (B.of_any (tn : Int) none 0 [] _ (.inl rfl) (by decide)) ?_
  rintro e w1 ⟨rfl, hS, hb⟩
  rw [HCL.out] at hS
  have HB1 : Hid (FB w w1 w.heap.size lo hi tn S fb vb f v m) := HB0.out.kept (grown_of_below hb)
  obtain ⟨b, hbe⟩ : ∃ b, b = (w.alloc (.cells #[.int .i64 (tn : Int), .pointer (some ⟨vb, 0, none⟩), .slice (some ⟨fb, 0, none⟩) S S] 126)).heap.size := ⟨_, rfl⟩
  rw [← hbe] at hS
  rw [← hbe]
  have HBS : Hid (w.heap.size < b ∧ b < w1.heap.size ∧ hi ≤ b) := by
    have h3 := SetM_lt hS
    rw [World.size_alloc] at hbe
    exact ⟨by omega, h3, by have := HHI.out; omega⟩
  have HS1 : Hid (B.SetM w1 (some ⟨b, 0, none⟩) tn (rowM v m (l.take 0))) := hS
  clear hb hS hbe k0 k1 k2 HB0
  go_wp2_with fail
  go_loopg [4, 5, 13] n (fun gk u4 u5 i wr => ∃ k : Nat, k ≤ n ∧ gk = n - k ∧ u4 = .pointer (some ⟨b, 0, none⟩) ∧ u5 = .bool false ∧ i = .int .i64 k ∧ rowV v (l.take k) = true ∧ B.SetM wr (some ⟨b, 0, none⟩) tn (rowM v m (l.take k)) ∧ FB w wr w.heap.size lo hi tn S fb vb f v m)
  case atStart => exact ⟨0, Nat.zero_le _, rfl, rfl, rfl, rfl, rfl, HS1.out, HB1.out⟩
  case round =>
    obtain ⟨k, hk, hgk, rfl, rfl, rfl, hv, hS, hB⟩ := hrel
    have HGK : Hid (gk = n - k) := hgk
    have HV : Hid (rowV v (l.take k) = true) := hv
    have HS : Hid (B.SetM wr (some ⟨b, 0, none⟩) tn (rowM v m (l.take k))) := hS
    have HB : Hid (FB w wr w.heap.size lo hi tn S fb vb f v m) := hB
    clear hgk hv hS hB
    by_cases hlt : k < n
    · have hkl : k < l.length := by rw [← HN.out]; exact hlt
      obtain ⟨ab, ao, rfl, hc⟩ : ∃ ab ao, a = some ⟨ab, ao, none⟩ ∧ wr.cell? ⟨ab, ao + k, none⟩ = some (.int .i64 (l.getD k 0)) := by
        rcases HL.out wr HB.out.grown with h | ⟨ab, ao, e, h⟩
        · rw [h] at hkl; cases hkl
        · exact ⟨ab, ao, e, h k hkl⟩
      have hx := HIN.out k hkl
      obtain ⟨x, hxe⟩ : ∃ x : Nat, l.getD k 0 = (x : Int) := ⟨(l.getD k 0).toNat, by omega⟩
      have HX : Hid (l.getD k 0 = (x : Int)) := hxe
      rw [hxe] at hc hx
      have hxS : x < S := by omega
      obtain ⟨k0, k1, k2⟩ := HB.out.cells
      have r0 := HB.out.fat.row x hxS
      have hx0 : (0 : Int) ≤ (x : Int) := by omega
      have hx1 : (x : Int) < (S : Int) := by omega
      have hk0 : (0 : Int) ≤ (k : Int) := by omega
      have hk1 : (k : Int) < (n : Int) := by omega
      have hkd : decide (k < n) = true := decide_eq_true hlt
      have HUN : Hid (Calls Tryz.prog 127 #[.pointer (some ⟨b, 0, none⟩), .slice (some ⟨wr.heap.size, 0, none⟩) 1 1] (wr.alloc (.cells #[.pointer (some ⟨f x, 0, none⟩)] 123)) fun e w' => (∃ z, e = .returned (.int .i64 z)) ∧ B.SetM w' (some ⟨b, 0, none⟩) tn (rowM v m (l.take (k + 1))) ∧ FB w w' w.heap.size lo hi tn S fb vb f v m) := by
        have hg := World.grownBy_alloc wr (.cells #[.pointer (some ⟨f x, 0, none⟩)] 123) none
        have h1 := SetM_kept HS.out hg
        have h2 := HB.out.kept hg
        have h3 := SetM_lt HS.out
        refine (union_in b (f x) tn _ _ wr.heap.size _ h1 (h2.fat.sets x hxS) (by have := h2.fat.rng.2.2 x hxS; have := HBS.out; omega) (by omega) (new_cell wr _ _)).mono ?_
        rintro e w' ⟨rfl, h4, h5⟩
        refine ⟨⟨_, rfl⟩, ?_, ?_⟩
        · rw [rowM_take hkl HV.out, HX.out, Int.toNat_natCast]
          exact h4
        · refine ⟨grown_at h2.grown h5 (Nat.le_of_lt HBS.out.1), (h5.block _ (Array.getElem?_eq_some_iff.1 h2.box).1 (by have := HBS.out; simp; omega)).trans h2.box, h2.fat.other h5 (.inr HBS.out.2.2)⟩
      clear hx hxe
      go_wp2_with fail
      refine Calls.mono HUN.out ?_
      rintro e w2 ⟨⟨z, rfl⟩, hS2, hB2⟩
      have HS2 : Hid (B.SetM w2 (some ⟨b, 0, none⟩) tn (rowM v m (l.take (k + 1)))) := hS2
      have HB2 : Hid (FB w w2 w.heap.size lo hi tn S fb vb f v m) := hB2
      clear hS2 hB2 HUN HS HB k0 k1 k2 r0 hc
      obtain ⟨k0, k1, k2⟩ := HB2.out.cells
      go_wp2_with fail
      refine Calls.mono (has_in vb S v x w2 HB2.out.fat.van) ?_
      rintro e w3 ⟨rfl, hg3⟩
      have HS3 : Hid (B.SetM w3 (some ⟨b, 0, none⟩) tn (rowM v m (l.take (k + 1)))) := SetM_kept HS2.out hg3
      have HB3 : Hid (FB w w3 w.heap.size lo hi tn S fb vb f v m) := HB2.out.kept hg3
      clear hg3 HS2 HB2 k0 k1 k2
      cases hvx : v.testBit x with
      | true =>
        go_wp2_with fail
        go_roundg (n - (k + 1))
        case measure => have := HGK.out; omega
        case rel => exact ⟨k + 1, by omega, rfl, rfl, rfl, by go_num, by rw [rowV_take hkl, HV.out, HX.out, Int.toNat_natCast, hvx]; rfl, HS3.out, HB3.out⟩
      | false =>
        have HST := row_stop (m := m) hkl (show v.testBit (l.getD k 0).toNat = false by rw [HX.out, Int.toNat_natCast]; exact hvx)
        have HST2 : Hid (rowV v l = false ∧ rowM v m l = rowM v m (l.take (k + 1))) := HST
        clear HST
        go_wp2_with fail
        go_ret2
        exact ⟨b, by rw [HST2.out.1]; rfl, Nat.le_of_lt HBS.out.1, by rw [HST2.out.2]; exact HS3.out, HB3.out.grown⟩
    · have hkn : n = k := by omega
      subst hkn
      have hkd : decide (n < n) = false := decide_eq_false (by omega)
      go_wp2_with fail
      go_ret2
      have e : l.take n = l := by rw [HN.out]; exact List.take_length
      have h1 := HV.out
      have h2 := HS.out
      rw [e] at h1 h2
      exact ⟨b, by rw [h1]; rfl, Nat.le_of_lt HBS.out.1, h2, HB.out.grown⟩

end Go.Proofs.YthoamlahbnphkaaGreat

/-
  first: add: a nonterminal is let have what a row has.
-/
namespace Go.Proofs.YthoamlahbnphkaaGreat
open Go.RowKit Go.Maps Go.Shelf

attribute [local go_sem] Oper.semAt_some

/-- What is found behind a step. -/
def stV (v x : Nat) (l : List Int) : Nat := if rowV v l = true then v ||| 2 ^ x else v
def stB (v : Nat) (m : Nat → Nat) (x : Nat) (l : List Int) : Nat → Nat := upd m x (m x ||| rowM v m l)

theorem tot_step {S v x : Nat} {m : Nat → Nat} {l : List Int} (hx : x < S) (hS : S ≤ 1024) : tot S (stV v x l) (stB v m x l) = tot S v m + (B.cnt (m x ||| rowM v m l) - B.cnt (m x)) + (if rowV v l = true then (if v.testBit x = true then 0 else 1) else 0) := by
  have h1 := sumC_upd m x (m x ||| rowM v m l) S hx
  have h2 := cnt_or (m x) (rowM v m l)
  unfold tot stB stV
  cases hv : rowV v l with
  | false => simp; omega
  | true =>
    simp only [if_true]
    cases hb : v.testBit x with
    | true => rw [or_bit_same hb]; simp; omega
    | false => rw [cnt_add (by omega) hb]; simp; omega
theorem step_none {S v x tn : Nat} {m : Nat → Nat} {l : List Int} (hx : x < S) (hS : S ≤ 1024) (ht : tn ≤ 1024) (hm : rowM v m l < 2 ^ tn) (h : tot S (stV v x l) (stB v m x l) = tot S v m) : stV v x l = v ∧ stB v m x l = m ∧ (rowV v l = true → v.testBit x = true) ∧ ∀ t : Nat, (rowM v m l).testBit t = true → (m x).testBit t = true := by
  rw [tot_step hx hS] at h
  have h2 := cnt_or (m x) (rowM v m l)
  have e1 : m x ||| rowM v m l = m x := cnt_or_same ht hm (by omega)
  have e2 : rowV v l = true → v.testBit x = true := fun hv => by
    rw [if_pos hv] at h
    cases hb : v.testBit x with
    | true => rfl
    | false => rw [hb, if_neg (by decide)] at h; omega
  refine ⟨?_, ?_, e2, fun t ht => ?_⟩
  · unfold stV
    split
    · rename_i hv; exact or_bit_same (e2 hv)
    · rfl
  · unfold stB
    rw [e1]
    funext j
    unfold upd
    split
    · rename_i e; rw [e]
    · rfl
  · rw [← e1, Nat.testBit_or, ht, Bool.or_true]

set_option maxRecDepth 100000 in
set_option maxHeartbeats 1000000 in
theorem addF_any (lo hi tn S fb vb x : Nat) (f : Nat → Nat) (v : Nat) (m : Nat → Nat) (a : Option Addr) (cap : Nat) (l : List Int) (w : World) (hF : FAt w lo hi tn S fb vb f v m) (hl : IntsAt w a l) (hlen : l.length ≤ 17592186044416) (hin : ∀ y ∈ l, (0 : Int) ≤ y ∧ y < (S : Int)) (htn : tn ≤ 1024) (hS : S ≤ 1024) (hhi : hi ≤ w.heap.size) (hx : x < S) :
    Calls Tryz.prog 102 #[.agg #[.int .i64 (tn : Int), .pointer (some ⟨vb, 0, none⟩), .slice (some ⟨fb, 0, none⟩) S S], .int .i64 (x : Int), .slice a l.length cap] w fun e w' => ∃ z : Nat, e = .returned (.int .i64 (z : Int)) ∧ FAt w' lo hi tn S fb vb f (stV v x l) (stB v m x l) ∧ tot S (stV v x l) (stB v m x l) = tot S v m + z ∧ Outside lo hi w w' := by
  have HB0 : Hid (FB w (w.alloc (.cells #[.int .i64 (tn : Int), .pointer (some ⟨vb, 0, none⟩), .slice (some ⟨fb, 0, none⟩) S S] 126)) w.heap.size lo hi tn S fb vb f v m) := ⟨World.grownBy_alloc _ _ none, heap_alloc_last w _, hF.kept (World.grownBy_alloc _ _ none)⟩
  have HOR : Hid (∀ X, FB w X w.heap.size lo hi tn S fb vb f v m → Calls Tryz.prog 126 #[.agg #[.int .i64 (tn : Int), .pointer (some ⟨vb, 0, none⟩), .slice (some ⟨fb, 0, none⟩) S S], .slice a l.length cap] X fun e w' => ∃ b, e = .returned (.tuple #[.pointer (some ⟨b, 0, none⟩), .bool (rowV v l)]) ∧ X.heap.size ≤ b ∧ B.SetM w' (some ⟨b, 0, none⟩) tn (rowM v m l) ∧ X.grownBy w' none) := fun X hX => ofRow_any lo hi tn S fb vb f v m a cap l X hX.fat (hl.kept hX.grown) hlen hin htn (Nat.le_trans hhi hX.grown.size)
  have HT := show Hid _ from tot_step (v := v) (m := m) (l := l) hx hS
  obtain ⟨n, hn⟩ : ∃ n, n = l.length := ⟨_, rfl⟩
  rw [← hn] at HOR ⊢
  obtain ⟨r, hr⟩ : ∃ r, r = rowV v l := ⟨_, rfl⟩
  have HR : Hid (r = rowV v l) := hr
  rw [← hr] at HOR
  have HHI : Hid (hi ≤ w.heap.size) := hhi
  clear hF hl hin hlen hn hr hhi
  obtain ⟨k0, k1, k2⟩ := HB0.out.cells
  go_enter Tryz.func102, Tryz.ntmps102
  go_wp2_with fail
  refine Calls.mono (HOR.out _ HB0.out) ?_
  rintro e w1 ⟨b, rfl, hb, hS1, hg1⟩
  have HB1 : Hid (FB w w1 w.heap.size lo hi tn S fb vb f v m) := HB0.out.kept hg1
  have HBB : Hid (w.heap.size < b) := by
    show _ < _
    rw [World.size_alloc] at hb; omega
  have HS1 : Hid (B.SetM w1 (some ⟨b, 0, none⟩) tn (rowM v m l)) := hS1
  clear hb hS1 hg1 HB0 k0 k1 k2
  obtain ⟨k0, k1, k2⟩ := HB1.out.cells
  have r0 := HB1.out.fat.row x hx
  have hx0 : (0 : Int) ≤ (x : Int) := by omega
  have hx1 : (x : Int) < (S : Int) := by omega
  obtain ⟨z1, hz1⟩ : ∃ z : Nat, z = B.cnt (m x ||| rowM v m l) - B.cnt (m x) := ⟨_, rfl⟩
  have hz1b : z1 ≤ 1024 := by have := cnt_le (m x ||| rowM v m l); omega
  have HZ1 : Hid (((B.cnt (m x ||| rowM v m l) : Nat) : Int) - (B.cnt (m x) : Nat) = (z1 : Int) ∧ z1 = B.cnt (m x ||| rowM v m l) - B.cnt (m x)) := ⟨by have := cnt_or (m x) (rowM v m l); omega, hz1⟩
  clear hz1
  have HUN : Hid (Calls Tryz.prog 127 #[.pointer (some ⟨f x, 0, none⟩), .slice (some ⟨w1.heap.size, 0, none⟩) 1 1] (w1.alloc (.cells #[.pointer (some ⟨b, 0, none⟩)] 123)) fun e w' => e = .returned (.int .i64 (z1 : Int)) ∧ FAt w' lo hi tn S fb vb f v (stB v m x l) ∧ Outside lo hi w w' ∧ w'.heap[w.heap.size]? = some (.cells #[.int .i64 (tn : Int), .pointer (some ⟨vb, 0, none⟩), .slice (some ⟨fb, 0, none⟩) S S] 126 (0, 0))) := by
    have hg := World.grownBy_alloc w1 (.cells #[.pointer (some ⟨b, 0, none⟩)] 123) none
    have h2 := HB1.out.kept hg
    have h3 := h2.fat.rng.2.2 x hx
    have h4 := HHI.out
    have h6 := SetM_lt HS1.out
    have h7 := h2.grown.size
    refine (union_in (f x) b tn _ _ w1.heap.size _ (h2.fat.sets x hx) (SetM_kept HS1.out hg) (by have := HBB.out; omega) (by have := HB1.out.grown.size; omega) (new_cell w1 _ _)).mono ?_
    rintro e w' ⟨rfl, h8, h9⟩
    refine ⟨by rw [HZ1.out.1], h2.fat.setB hx h9 h8, ?_, (h9.block _ (Array.getElem?_eq_some_iff.1 h2.box).1 (by simp; omega)).trans h2.box⟩
    exact Outside.at ⟨h2.grown.os, h2.grown.tape, h2.grown.output, h2.grown.size, fun j hj _ => h2.grown.block j hj (by simp)⟩ h9 h3.1 h3.2
  go_wp2_with fail
  refine Calls.mono HUN.out ?_
  rintro e w2 ⟨rfl, hF2, hO2, hbx2⟩
  have HF2 : Hid (FAt w2 lo hi tn S fb vb f v (stB v m x l)) := hF2
  have HO2 : Hid (Outside lo hi w w2) := hO2
  clear HUN k0 k1 k2 r0 hF2 hO2 HS1
  have k1 : w2.cell? ⟨w.heap.size, 1, none⟩ = some (.pointer (some ⟨vb, 0, none⟩)) := by rw [cell_of_row _ _ _ _ _ _ hbx2]; rfl
  clear hbx2
  cases r with
  | false =>
    go_wp2_with fail
    go_ret
    refine ⟨z1, rfl, ?_, ?_, HO2.out⟩
    · have e1 : stV v x l = v := by unfold stV; rw [← HR.out]; rfl
      rw [e1]; exact HF2.out
    · have := HT.out
      rw [← HR.out, ← HZ1.out.2] at this
      simpa using this
  | true =>
    obtain ⟨z2, hz2⟩ : ∃ z : Nat, z = if v.testBit x = true then 0 else 1 := ⟨_, rfl⟩
    have hz2b : z2 ≤ 1 := by rw [hz2]; split <;> omega
    have HZ2 : Hid (z2 = if v.testBit x = true then 0 else 1) := hz2
    have HAD : Hid (Calls Tryz.prog 125 #[.pointer (some ⟨vb, 0, none⟩), .slice (some ⟨w2.heap.size, 0, none⟩) 1 1] (w2.alloc (.cells #[.int .i64 (x : Int)] 3)) fun e w' => e = .returned (.int .i64 (z2 : Int)) ∧ FAt w' lo hi tn S fb vb f (stV v x l) (stB v m x l) ∧ Outside lo hi w w') := by
      have hg := World.grownBy_alloc w2 (.cells #[.int .i64 (x : Int)] 3) none
      have h1 := HF2.out.kept hg
      have h2 := SetM_lt HF2.out.van
      refine (add_in vb S v w2.heap.size x hx _ h1.van (by omega) (new_cell w2 _ _)).mono ?_
      rintro e w' ⟨rfl, h8, h9⟩
      have e1 : stV v x l = v ||| 2 ^ x := by unfold stV; rw [← HR.out]; rfl
      refine ⟨by rw [hz2], by rw [e1]; exact h1.setV h9 h8, ?_⟩
      exact (HO2.out.kept hg).at h9 h1.rng.1.1 h1.rng.1.2
    clear hz2
    go_wp2_with fail
    refine Calls.mono HAD.out ?_
    rintro e w3 ⟨rfl, hF3, hO3⟩
    have HF3 : Hid (FAt w3 lo hi tn S fb vb f (stV v x l) (stB v m x l)) := hF3
    have HO3 : Hid (Outside lo hi w w3) := hO3
    clear HAD hF3 hO3
    go_wp2_with fail
    go_ret
    refine ⟨z1 + z2, by first | rfl | (go_num), HF3.out, ?_, HO3.out⟩
    have := HT.out
    rw [← HR.out, ← HZ1.out.2] at this
    simp only [if_true] at this
    rw [← HZ2.out] at this
    omega

end Go.Proofs.YthoamlahbnphkaaGreat

/-
  first: unlike: the symbols of a row, each where it stands first.
-/
namespace Go.Proofs.YthoamlahbnphkaaGreat
open Go.RowKit Go.Maps Go.Shelf

attribute [local go_sem] Oper.semAt_some

theorem symbols_at (ta na la pa : Option Addr) (tn nn ln n tc nc lc pc S : Nat) (st : Int) (w : World) (hS : S = tn + nn) (hz : S ≤ 1024) :
    Calls Tryz.prog 124 #[.agg #[.slice ta tn tc, .slice na nn nc, .slice la ln lc, .int .i64 st, .slice pa n pc]] w fun e w' => e = .returned (.int .i64 (S : Int)) ∧ w.grownBy w' none := by
  have hz1 : tn + nn ≤ 1024 := by omega
  have HS : Hid ((S : Int) = (tn : Int) + (nn : Int)) := by show (S : Int) = (tn : Int) + (nn : Int); omega
  clear hS hz
  go_enter Tryz.func124, Tryz.ntmps124
  go_wp2_with fail
  go_ret
  exact ⟨by rw [HS.out]; rfl, World.grownBy_alloc _ _ none⟩

theorem infoIntK : (Tryz.prog.info? 3).map (fun i => (i.zero, i.size, i.bytes)) = some (some (.int .i64 0), 1, 8) := by kernel_rfl

/-- While unlike goes over a row. -/
structure UlAt (w wr : World) (sb S M : Nat) (v : Value) (u : List Int) : Prop where
  grown : w.grownBy wr none
  set : B.SetM wr (some ⟨sb, 0, none⟩) S M
  lo : w.heap.size ≤ sb
  own : wr.ownsRow (sb + 1) 3 1 v u.length (u.map (Value.int .i64))
theorem UlAt.kept {w wr y : World} {sb S M : Nat} {v : Value} {u : List Int} (h : UlAt w wr sb S M v u) (hg : wr.grownBy y none) : UlAt w y sb S M v u := ⟨grown_trans h.grown hg, SetM_kept h.set hg, h.lo, keep0 h.own hg⟩
theorem UlAt.add {w wr y : World} {sb S M M' : Nat} {v : Value} {u : List Int} (h : UlAt w wr sb S M v u) (hg : wr.grownBy y (some sb)) (hS : B.SetM y (some ⟨sb, 0, none⟩) S M') : UlAt w y sb S M' v u :=
  ⟨grown_at h.grown hg h.lo, hS, h.lo, h.own.kept hg (by
    cases hv : v.ownBlock with
    | none => exact .inl rfl
    | some q => exact .inr (by have := (h.own.lt q hv).1; simp; omega))⟩
theorem UlAt.push {w wr y : World} {sb S M : Nat} {v v' : Value} {u u' : List Int} (h : UlAt w wr sb S M v u) (hg : wr.grownBy y v.ownBlock) (ho : y.ownsRow (sb + 1) 3 1 v' u'.length (u'.map (Value.int .i64))) : UlAt w y sb S M v' u' := by
  have hlo := h.lo
  cases hv : v.ownBlock with
  | none =>
    rw [hv] at hg
    exact ⟨grown_trans h.grown hg, SetM_kept h.set hg, h.lo, ho⟩
  | some q =>
    rw [hv] at hg
    have hq := (h.own.lt q hv).1
    exact ⟨grown_at h.grown hg (by omega), SetM_at h.set hg (by omega), h.lo, ho⟩

theorem contains_bit {M S x : Nat} {u : List Int} (hx : x < S) (hM : ∀ i : Nat, M.testBit i = (decide (i < S) && u.contains (i : Int))) : M.testBit x = u.contains (x : Int) := by rw [hM]; simp [hx]
theorem contains_snoc {M S x : Nat} {u : List Int} (hx : x < S) (hM : ∀ i : Nat, M.testBit i = (decide (i < S) && u.contains (i : Int))) : ∀ i : Nat, (M ||| 2 ^ x).testBit i = (decide (i < S) && (u ++ [(x : Int)]).contains (i : Int)) := fun i => by
  rw [Nat.testBit_or, hM, Nat.testBit_two_pow]
  by_cases e : x = i
  · subst e; simp [hx]
  · have e2 : ¬ ((i : Int) = (x : Int)) := by omega
    simp [e, e2]
/-- The answer of unlike. -/
def UnlTold (l : List Int) (w : World) (e : Ending) (y : World) : Prop :=
  ∃ a c, e = .returned (.slice a (unl l).length c) ∧ y.ownsRow w.heap.size 3 1 (.slice a (unl l).length c) (unl l).length ((unl l).map (Value.int .i64)) ∧ w.grownBy y none

set_option maxRecDepth 100000 in
set_option maxHeartbeats 1000000 in
theorem unlike_any (ta na la pa a : Option Addr) (tn nn ln pn tc nc lc pc cap S : Nat) (st : Int) (l : List Int) (w : World) (hS : S = tn + nn) (hz : S ≤ 1024) (hl : IntsAt w a l) (hlen : l.length ≤ 17592186044416) (hin : ∀ x ∈ l, (0 : Int) ≤ x ∧ x < (S : Int)) :
    Calls Tryz.prog 101 #[.agg #[.slice ta tn tc, .slice na nn nc, .slice la ln lc, .int .i64 st, .slice pa pn pc], .slice a l.length cap] w fun e y => UnlTold l w e y := by
  obtain ⟨n, hn⟩ : ∃ n, n = l.length := ⟨_, rfl⟩
  have HN : Hid (n = l.length) := hn
  rw [← hn] at hlen
  rw [← hn]
  have HL : Hid (∀ X, w.grownBy X none → IntsAt X a l) := fun X hX => hl.kept hX
  have HIN : Hid (∀ k, k < l.length → (0 : Int) ≤ l.getD k 0 ∧ l.getD k 0 < (S : Int)) := fun k hk => by
    rw [List.getD_eq_getElem?_getD, List.getElem?_eq_getElem hk]; exact hin _ (List.getElem_mem hk)
  have HCL : Hid (B.clampN (S : Int) = S) := by show B.clampN (S : Int) = S; unfold B.clampN; omega
  have HSY : Hid (∀ X, Calls Tryz.prog 124 #[.agg #[.slice ta tn tc, .slice na nn nc, .slice la ln lc, .int .i64 st, .slice pa pn pc]] X fun e w' => e = .returned (.int .i64 (S : Int)) ∧ X.grownBy w' none) := fun X => symbols_at ta na la pa tn nn ln pn tc nc lc pc S st X hS hz
  have HG0 : Hid (w.grownBy (w.alloc (.cells #[.slice ta tn tc, .slice na nn nc, .slice la ln lc, .int .i64 st, .slice pa pn pc] 27)) none) := World.grownBy_alloc _ _ none
  obtain ⟨i0, hi0, hz0, hz1, hz2⟩ := info_parts infoIntK
  clear hl hin hn hS
  go_enter Tryz.func101, Tryz.ntmps101
  go_wp2_with fail
  refine Calls.mono (HSY.out _) ?_
  rintro e w1 ⟨rfl, hg1⟩
  have HG1 : Hid (w.grownBy w1 none) := grown_trans HG0.out hg1
  clear hg1 HG0
  go_wp2_with fail
  refine Calls.mono (B.of_any (S : Int) none 0 [] _ (.inl rfl) (by decide)) ?_
  rintro e w2 ⟨rfl, hS2, hb2⟩
  rw [HCL.out] at hS2
  obtain ⟨sb, hsb⟩ : ∃ b, b = w1.heap.size := ⟨_, rfl⟩
  rw [← hsb] at hS2
  rw [← hsb]
  have HU2 : Hid (UlAt w w2 sb S 0 (.slice none 0 0) (unl (l.take 0))) := ⟨grown_trans HG1.out (grown_of_below hb2), hS2, by rw [hsb]; exact HG1.out.size, World.ownsRow_nil _ _ _ _⟩
  clear hS2 hb2 hsb
  go_wp2_with fail
  go_loopg [6, 14] n (fun gk v6 i wr => ∃ (k M : Nat) (a' : Option Addr) (c' : Nat), k ≤ n ∧ gk = n - k ∧ i = .int .i64 k ∧ v6 = .slice a' (unl (l.take k)).length c' ∧ (∀ i : Nat, M.testBit i = (decide (i < S) && (l.take k).contains (i : Int))) ∧ UlAt w wr sb S M (.slice a' (unl (l.take k)).length c') (unl (l.take k)))
  case atStart => exact ⟨0, 0, none, 0, Nat.zero_le _, rfl, rfl, rfl, fun i => by simp, HU2.out⟩
  case round =>
    obtain ⟨k, M, a', c', hk, hgk, rfl, rfl, hM, hU⟩ := hrel
    have HGK : Hid (gk = n - k) := hgk
    have HM : Hid (∀ i : Nat, M.testBit i = (decide (i < S) && (l.take k).contains (i : Int))) := hM
    have HU : Hid (UlAt w wr sb S M (.slice a' (unl (l.take k)).length c') (unl (l.take k))) := hU
    clear hgk hM hU
    by_cases hlt : k < n
    · have hkl : k < l.length := by rw [← HN.out]; exact hlt
      obtain ⟨ab, ao, rfl, hc⟩ : ∃ ab ao, a = some ⟨ab, ao, none⟩ ∧ wr.cell? ⟨ab, ao + k, none⟩ = some (.int .i64 (l.getD k 0)) := by
        rcases HL.out wr HU.out.grown with h | ⟨ab, ao, e, h⟩
        · rw [h] at hkl; cases hkl
        · exact ⟨ab, ao, e, h k hkl⟩
      have hx := HIN.out k hkl
      obtain ⟨x, hxe⟩ : ∃ x : Nat, l.getD k 0 = (x : Int) := ⟨(l.getD k 0).toNat, by omega⟩
      have HTK : Hid (l.take (k + 1) = l.take k ++ [(x : Int)]) := by
        show _ = _
        rw [List.take_add_one, List.getElem?_eq_getElem hkl, Option.toList_some, ← hxe, List.getD_eq_getElem?_getD, List.getElem?_eq_getElem hkl]
        rfl
      rw [hxe] at hc hx
      have hxS : x < S := by omega
      have hk0 : (0 : Int) ≤ (k : Int) := by omega
      have hk1 : (k : Int) < (n : Int) := by omega
      have hkd : decide (k < n) = true := decide_eq_true hlt
      obtain ⟨q, hq⟩ : ∃ q, q = M.testBit x := ⟨_, rfl⟩
      have HAD : Hid (Calls Tryz.prog 125 #[.pointer (some ⟨sb, 0, none⟩), .slice (some ⟨wr.heap.size, 0, none⟩) 1 1] (wr.alloc (.cells #[.int .i64 (x : Int)] 3)) fun e w' => e = .returned (.int .i64 ((if q = true then 0 else 1 : Nat) : Int)) ∧ UlAt w w' sb S (M ||| 2 ^ x) (.slice a' (unl (l.take k)).length c') (unl (l.take k))) := by
        have hg := World.grownBy_alloc wr (.cells #[.int .i64 (x : Int)] 3) none
        have h1 := HU.out.kept hg
        have h2 := SetM_lt HU.out.set
        refine (add_in sb S M wr.heap.size x hxS _ h1.set (by omega) (new_cell wr _ _)).mono ?_
        rintro e w' ⟨rfl, h8, h9⟩
        exact ⟨by rw [hq], h1.add h9 h8⟩
      have HQ : Hid (q = (unl (l.take k)).contains (x : Int)) := by
        show _ = _
        rw [hq, contains_bit hxS HM.out]
        have : ((l.take k).contains (x : Int) = true) ↔ ((unl (l.take k)).contains (x : Int) = true) := by
          simp only [List.contains_iff_mem, unl_mem]
        cases h1 : (l.take k).contains (x : Int) <;> cases h2 : (unl (l.take k)).contains (x : Int) <;> simp_all
      have HM2 : Hid (∀ i : Nat, (M ||| 2 ^ x).testBit i = (decide (i < S) && (l.take (k + 1)).contains (i : Int))) := by
        show ∀ i : Nat, _ = _
        rw [HTK.out]
        exact contains_snoc hxS HM.out
      have HUN : Hid (unl (l.take (k + 1)) = if q = true then unl (l.take k) else unl (l.take k) ++ [(x : Int)]) := by
        show _ = _
        rw [HTK.out, unl_snoc, ← HQ.out]
      have hul : (unl (l.take k)).length + 1 ≤ 17592186044416 := by
        have := unl_len (l.take k)
        have h3 := List.length_take_le k l
        omega
      obtain ⟨ul, hule⟩ : ∃ x, x = (unl (l.take k)).length := ⟨_, rfl⟩
      have HUL : Hid (ul = (unl (l.take k)).length) := hule
      rw [← hule] at hul HAD HU
      rw [← hule]
      have HUB : Hid (ul + 1 ≤ 17592186044416) := hul
      clear hx hxe hq hule HM HQ HTK hul
      go_wp2_with fail
      refine Calls.mono HAD.out ?_
      rintro e w3 ⟨rfl, hU3⟩
      have HU3 : Hid (UlAt w w3 sb S (M ||| 2 ^ x) (.slice a' ul c') (unl (l.take k))) := hU3
      clear hU3 HAD HU hc
      cases q with
      | true =>
        have HUN2 : Hid (unl (l.take (k + 1)) = unl (l.take k)) := HUN.out
        clear HUN
        go_wp2_with fail
        go_roundg (n - (k + 1))
        case measure => have := HGK.out; omega
        case rel => exact ⟨k + 1, M ||| 2 ^ x, a', c', by omega, rfl, by go_num, by rw [HUN2.out, ← HUL.out], HM2.out, by rw [HUN2.out, ← HUL.out]; exact HU3.out⟩
      | false =>
        have HUN2 : Hid (unl (l.take (k + 1)) = unl (l.take k) ++ [(x : Int)]) := HUN.out
        have HAL : Hid (UlAt w (w3.alloc (.cells #[.int .i64 (x : Int)] 3)) sb S (M ||| 2 ^ x) (.slice a' ul c') (unl (l.take k))) := HU3.out.kept (World.grownBy_alloc _ _ none)
        have HOW : Hid ((w3.alloc (.cells #[.int .i64 (x : Int)] 3)).ownsRow (sb + 1) 3 1 (.slice a' ul c') ul ((unl (l.take k)).map (Value.int .i64))) := by
          have := HAL.out.own
          rw [← HUL.out] at this
          exact this
        have HF6 : Hid (∀ v6 wB, wB.ownsRow (sb + 1) 3 1 v6 (ul + 1) ((unl (l.take k)).map (Value.int .i64) ++ [.int .i64 (x : Int)]) → (w3.alloc (.cells #[.int .i64 (x : Int)] 3)).grownBy wB (Value.slice a' ul c').ownBlock → ∃ a c, v6 = .slice a (unl (l.take (k + 1))).length c ∧ UlAt w wB sb S (M ||| 2 ^ x) (.slice a (unl (l.take (k + 1))).length c) (unl (l.take (k + 1)))) := by
          intro v6 wB ho hg
          obtain ⟨a, c, rfl⟩ := owns_slice ho
          have e1 : (unl (l.take (k + 1))).length = ul + 1 := by rw [HUN2.out, List.length_append, ← HUL.out]; rfl
          refine ⟨a, c, by rw [e1], HAL.out.push hg ?_⟩
          rw [e1, HUN2.out, List.map_append]
          exact ho
        have HNW : Hid (∀ j u, [Value.int .i64 (x : Int)][j]? = some u → (w3.alloc (.cells #[.int .i64 (x : Int)] 3)).cell? ((⟨w3.heap.size, 0, none⟩ : Addr).add j) = some u) := news_new w3 _ _
        have HBB : Hid (sb + 1 ≤ (w3.alloc (.cells #[.int .i64 (x : Int)] 3)).heap.size) := by
          have := SetM_lt HAL.out.set
          exact this
        clear HUN HU3
        go_wp2_with (at_builtin; refine wpList_append_src rfl (.tmp 23) (.tmp 25) 24 rfl (sb + 1) 3 i0 (.int .i64 0) 1 8 Tryz.underlying24 hi0 hz0 hz1 hz2 rfl (by decide) (.slice a' ul c') ul ((unl (l.take k)).map (Value.int .i64)) rfl HOW.out (some ⟨w3.heap.size, 0, none⟩) 1 1 [.int .i64 (x : Int)] rfl (fun h => by cases h) rfl (fun ad e => by cases e; exact HNW.out) (by simp [Value.oneCell']) (by have := HUB.out; unfold maxLen; omega) (by have := HUB.out; omega) HBB.out ?_; intro v6 wB hoB hgB; obtain ⟨a6, c6, rfl, y2⟩ := HF6.out v6 wB hoB hgB; have HY2 := show Hid _ from y2; clear hoB hgB y2)
        go_roundg (n - (k + 1))
        case measure => have := HGK.out; omega
        case rel => exact ⟨k + 1, M ||| 2 ^ x, a6, c6, by omega, rfl, by go_num, rfl, HM2.out, HY2.out⟩
    · have hkn : n = k := by omega
      subst hkn
      have hkd : decide (n < n) = false := decide_eq_false (by omega)
      go_wp2_with fail
      go_ret
      have e : l.take n = l := by rw [HN.out]; exact List.take_length
      have h1 := HU.out
      rw [e] at h1
      refine ⟨a', c', by rw [e]; rfl, ?_, h1.grown⟩
      have h2 := h1.own
      refine ⟨h2.1, ?_⟩
      rcases h2.2 with h | ⟨g, cap, cur, hv, hB, hr⟩
      · exact .inl h
      · exact .inr ⟨g, cap, cur, hv, by have := h1.lo; omega, hr⟩

end Go.Proofs.YthoamlahbnphkaaGreat

/-
  first: rows of values and boxes; nothingFound, its first statement.
-/
namespace Go.Proofs.YthoamlahbnphkaaGreat
open Go.RowKit Go.Maps Go.Shelf

attribute [local go_sem] Oper.semAt_some

/-- A row of values, whole in block k. -/
def ValAt (w : World) (k len : Nat) (t : TypeId) (c : Nat → Value) : Prop := w.heap[k]? = some (.cells ((List.range len).map c).toArray t (0, 0))
section
variable {w w' : World} {k len : Nat} {t : TypeId} {c : Nat → Value}
theorem ValAt.cell (h : ValAt w k len t c) (i : Nat) (hi : i < len) : w.cell? ⟨k, i, none⟩ = some (c i) := by
  rw [cell_of_row _ _ _ _ _ _ h]; simp [hi]
theorem ValAt.free (h : ValAt w k len t c) (i : Nat) : w.frozen? ⟨k, i, none⟩ = false := frozen_of_row _ _ _ _ _ h
theorem ValAt.lt (h : ValAt w k len t c) : k < w.heap.size := (Array.getElem?_eq_some_iff.1 h).1
theorem ValAt.kept (h : ValAt w k len t c) (hg : w.grownBy w' none) : ValAt w' k len t c := (hg.block k h.lt (by simp)).trans h
theorem ValAt.at {b : Nat} (h : ValAt w k len t c) (hg : w.grownBy w' (some b)) (hne : k ≠ b) : ValAt w' k len t c := (hg.block k h.lt (by simpa using hne)).trans h
/-- The cells with one turned. -/
def put (c : Nat → Value) (x : Nat) (v : Value) : Nat → Value := fun i => if i = x then v else c i
theorem ValAt.set (h : ValAt w k len t c) (x : Nat) (v : Value) : ValAt (w.setCell ⟨k, x, none⟩ v) k len t (put c x v) := by
  unfold ValAt
  rw [heap_setCell_same _ _ _ _ _ _ h]
  congr 2
  apply Array.ext'
  apply List.ext_getElem?
  intro i
  simp only [Array.toList_setIfInBounds, List.getElem?_set, List.getElem?_map]
  by_cases hi : i < len
  · by_cases e : x = i
    · subst e; simp [hi, put]
    · have e2 : ¬ i = x := fun h => e h.symm
      simp [e, e2, hi, put]
  · by_cases e : x = i
    · subst e; simp [hi]
    · simp [e, hi]
end
theorem box3 {x : World} {b : Nat} {v0 v1 v2 : Value} {t : TypeId} (h : x.heap[b]? = some (.cells #[v0, v1, v2] t (0, 0))) : (x.cell? ⟨b, 0, none⟩ = some v0 ∧ x.cell? ⟨b, 1, none⟩ = some v1 ∧ x.cell? ⟨b, 2, none⟩ = some v2) ∧ x.frozen? ⟨b, 0, none⟩ = false ∧ x.frozen? ⟨b, 1, none⟩ = false ∧ x.frozen? ⟨b, 2, none⟩ = false := by
  refine ⟨⟨?_, ?_, ?_⟩, frozen_of_row _ _ _ _ _ h, frozen_of_row _ _ _ _ _ h, frozen_of_row _ _ _ _ _ h⟩ <;> rw [cell_of_row _ _ _ _ _ _ h] <;> rfl
theorem grown_two {x y z : World} {b : Nat} (h1 : x.grownBy y (some b)) (h2 : y.grownBy z (some b)) : x.grownBy z (some b) :=
  ⟨h2.os.trans h1.os, h2.tape.trans h1.tape, h2.output.trans h1.output, Nat.le_trans h1.size h2.size, fun k hk hne => (h2.block k (Nat.lt_of_lt_of_le hk h1.size) hne).trans (h1.block k hk hne)⟩

theorem infoSetP : (Tryz.prog.info? 123).map (fun i => (i.zero, i.size, i.bytes)) = some (some (.pointer none), 1, 8) := by kernel_rfl
theorem infoFound : (Tryz.prog.info? 126).map (·.size) = some 3 := by kernel_rfl

/-- While nothingFound's first statement is under way: what of its parts there is. -/
structure NF (Y x : World) (S : Nat) (M : Array Value) (ov ob : Option Nat) : Prop where
  grown : Y.grownBy x none
  v : ∀ b, ov = some b → Y.heap.size ≤ b ∧ B.SetM x (some ⟨b, 0, none⟩) S 0
  b : ∀ b, ob = some b → Y.heap.size ≤ b ∧ x.heap[b]? = some (.cells #[.int .i64 0, .pointer none, .slice none 0 0] 126 (0, 0))
section
variable {Y x y : World} {S : Nat} {M : Array Value} {ov ob : Option Nat}
theorem NF.kept (h : NF Y x S M ov ob) (hg : x.grownBy y none) : NF Y y S M ov ob :=
  ⟨grown_trans h.grown hg, fun b hb => ⟨(h.v b hb).1, SetM_kept (h.v b hb).2 hg⟩, fun b hb => ⟨(h.b b hb).1, (boxKept (h.b b hb).2 hg).out⟩⟩
theorem NF.al (h : NF Y x S M ov none) : NF Y (x.alloc (.cells #[.int .i64 0, .pointer none, .slice none 0 0] 126)) S M ov (some x.heap.size) :=
  ⟨grown_trans h.grown (World.grownBy_alloc _ _ none), fun b hb => ⟨(h.v b hb).1, SetM_kept (h.v b hb).2 (World.grownBy_alloc _ _ none)⟩, fun b hb => by cases hb; exact ⟨h.grown.size, heap_alloc_last x _⟩⟩
theorem NF.ald (h : NF Y x S M ov none) : NF Y (x.alloc (.cells #[.int .i64 0, .pointer none, .slice none 0 0] 126)).drew S M ov (some x.heap.size) := (h.al).kept (grown_drewN _ 1)
theorem NF.of {b : Nat} (h : NF Y x S M none ob) (hg : x.grownBy y none) (hb : x.heap.size ≤ b) (hS : B.SetM y (some ⟨b, 0, none⟩) S 0) : NF Y y S M (some b) ob :=
  ⟨grown_trans h.grown hg, fun c hc => by cases hc; exact ⟨Nat.le_trans h.grown.size hb, hS⟩, fun b hb => ⟨(h.b b hb).1, (boxKept (h.b b hb).2 hg).out⟩⟩
theorem NF.hid (h : NF Y x S M ov ob) : Hid (NF Y x S M ov ob) := h
/-- The box behind another alloc. -/
theorem NF.boxM {kb : Nat} (h : NF Y x S M ov (some kb)) : ((x.alloc (.cells M 123)).cell? ⟨kb, 0, none⟩ = some (.int .i64 0) ∧ (x.alloc (.cells M 123)).cell? ⟨kb, 1, none⟩ = some (.pointer none) ∧ (x.alloc (.cells M 123)).cell? ⟨kb, 2, none⟩ = some (.slice none 0 0)) ∧ (x.alloc (.cells M 123)).frozen? ⟨kb, 0, none⟩ = false ∧ (x.alloc (.cells M 123)).frozen? ⟨kb, 1, none⟩ = false ∧ (x.alloc (.cells M 123)).frozen? ⟨kb, 2, none⟩ = false :=
  box3 (boxKept (h.b kb rfl).2 (World.grownBy_alloc x (.cells M 123) none)).out
theorem boxA (x : World) (M : Array Value) : (((x.alloc (.cells #[.int .i64 0, .pointer none, .slice none 0 0] 126)).alloc (.cells M 123)).cell? ⟨x.heap.size, 0, none⟩ = some (.int .i64 0) ∧ ((x.alloc (.cells #[.int .i64 0, .pointer none, .slice none 0 0] 126)).alloc (.cells M 123)).cell? ⟨x.heap.size, 1, none⟩ = some (.pointer none) ∧ ((x.alloc (.cells #[.int .i64 0, .pointer none, .slice none 0 0] 126)).alloc (.cells M 123)).cell? ⟨x.heap.size, 2, none⟩ = some (.slice none 0 0)) ∧ ((x.alloc (.cells #[.int .i64 0, .pointer none, .slice none 0 0] 126)).alloc (.cells M 123)).frozen? ⟨x.heap.size, 0, none⟩ = false ∧ ((x.alloc (.cells #[.int .i64 0, .pointer none, .slice none 0 0] 126)).alloc (.cells M 123)).frozen? ⟨x.heap.size, 1, none⟩ = false ∧ ((x.alloc (.cells #[.int .i64 0, .pointer none, .slice none 0 0] 126)).alloc (.cells M 123)).frozen? ⟨x.heap.size, 2, none⟩ = false :=
  box3 (boxKept (heap_alloc_last x _) (World.grownBy_alloc _ (.cells M 123) none)).out
end

end Go.Proofs.YthoamlahbnphkaaGreat
