import Derived.Test.YthoamlahbnphkaaGreatQkbonjeeknifk

/-
  copiedProds, walked: the same productions in new memory, no two right sides in one row.
-/
namespace Go.Proofs.YthoamlahbnphkaaGreat
open Go.RowKit Go.Maps Go.Shelf

/-- A store into an own row. -/
theorem owns_set {w : World} {base e size g n c j : Nat} {xs : List Value} (h : w.ownsRow base e size (.slice (some ⟨g, 0, none⟩) n c) n xs) (u : Value) : (w.setCell ⟨g, j, none⟩ u).ownsRow base e size (.slice (some ⟨g, 0, none⟩) n c) n (xs.set j u) := by
  refine ⟨by rw [List.length_set]; exact h.1, ?_⟩
  rcases h.2 with ⟨hv, _⟩ | ⟨g', c', cur, hv, hb, hh, h1, h2, h3, h4⟩
  · cases hv
  · simp only [Value.slice.injEq, Option.some.injEq, Addr.mk.injEq, and_true, true_and] at hv
    obtain ⟨rfl, rfl⟩ := hv
    refine .inr ⟨g, c, cur.setIfInBounds j u, rfl, hb, heap_setCell_same w g j _ _ _ hh, h1, h2, by simpa using h3, ?_⟩
    rw [Array.toList_setIfInBounds, ← h4, List.take_set]

/-- The cells of n productions. -/
def prodRow (n : Nat) (L : Nat → Int) (r : Nat → Value) (V : Nat → Int) : List Value := (List.range n).flatMap fun i => [.int .i64 (L i), r i, .int .i64 (V i)]

theorem prodRow_succ (n : Nat) (L : Nat → Int) (r : Nat → Value) (V : Nat → Int) : prodRow (n + 1) L r V = prodRow n L r V ++ [.int .i64 (L n), r n, .int .i64 (V n)] := by simp [prodRow, List.range_succ]
theorem prodRow_length (L : Nat → Int) (r : Nat → Value) (V : Nat → Int) : ∀ n, (prodRow n L r V).length = n * 3
  | 0 => rfl
  | n + 1 => by rw [prodRow_succ, List.length_append, prodRow_length L r V n]; simp; omega
theorem prodRow_ext {n : Nat} {L L' : Nat → Int} {r r' : Nat → Value} {V V' : Nat → Int} (h1 : ∀ i, i < n → L i = L' i) (h2 : ∀ i, i < n → r i = r' i) (h3 : ∀ i, i < n → V i = V' i) : prodRow n L r V = prodRow n L' r' V' := by
  unfold prodRow
  rw [List.flatMap_def, List.flatMap_def]
  congr 1
  exact List.map_congr_left fun i hi => by
    have hi' : i < n := by simpa using hi
    rw [h1 i hi', h2 i hi', h3 i hi']
def updV (r : Nat → Value) (k : Nat) (v : Value) : Nat → Value := fun i => if i = k then v else r i
def updI (L : Nat → Int) (k : Nat) (x : Int) : Nat → Int := fun i => if i = k then x else L i
theorem prodRow_setR (L : Nat → Int) (r : Nat → Value) (V : Nat → Int) (k : Nat) (v : Value) : ∀ n, k < n → (prodRow n L r V).set (k * 3 + 1) v = prodRow n L (updV r k v) V
  | 0, hk => by omega
  | n + 1, hk => by
    rw [prodRow_succ, prodRow_succ]
    by_cases h : k < n
    · rw [List.set_append_left _ _ (by rw [prodRow_length]; omega), prodRow_setR L r V k v n h]
      congr 2
      simp [updV, show n ≠ k by omega]
    · obtain rfl : k = n := by omega
      rw [List.set_append_right _ _ (by rw [prodRow_length]; omega), prodRow_length]
      rw [prodRow_ext (n := k) (L := L) (L' := L) (r := r) (r' := updV r k v) (V := V) (V' := V) (fun _ _ => rfl) (fun i hi => by simp [updV, show i ≠ k by omega]) (fun _ _ => rfl)]
      congr 1
      rw [show k * 3 + 1 - k * 3 = 1 by omega]
      simp [updV]
/-- Productions, wherever they lie: their left sides L, right sides R in the slices ra, rc, their levels V. -/
def ProdsAt (w : World) (a : Option Addr) (n : Nat) (L : Nat → Int) (R : Nat → List Int) (ra : Nat → Option Addr) (rc : Nat → Nat) (V : Nat → Int) : Prop :=
  n = 0 ∨ ∃ b off, a = some ⟨b, off, none⟩ ∧ ∀ k, k < n → w.cell? ⟨b, off + k * 3, none⟩ = some (.int .i64 (L k)) ∧ w.cell? ⟨b, off + k * 3 + 1, none⟩ = some (.slice (ra k) (R k).length (rc k)) ∧ w.cell? ⟨b, off + k * 3 + 2, none⟩ = some (.int .i64 (V k)) ∧ IntsAt w (ra k) (R k) ∧ (ra k = none → rc k = 0) ∧ (R k).length ≤ 17592186044416

end Go.Proofs.YthoamlahbnphkaaGreat

namespace Go.Proofs.YthoamlahbnphkaaGreat
open Go.RowKit Go.Maps Go.Shelf

/-- Productions in memory of their own: the first m of n right sides are new; no two of these lie in one row. -/
structure NewProds (w wr : World) (B : Nat) (v : Value) (n m : Nat) (L : Nat → Int) (R : Nat → List Int) (V : Nat → Int) (rg : Nat → Value) : Prop where
  row : wr.ownsRow B 71 3 v n (prodRow n L rg V)
  rights : ∀ i, i < m → wr.ownsRow B 3 1 (rg i) (R i).length ((R i).map (Value.int .i64))
  apart : ∀ i, i < m → ∀ g, (rg i).ownBlock = some g → v.ownBlock ≠ some g
  disj : ∀ i j, i < j → j < m → ∀ g, (rg i).ownBlock = some g → (rg j).ownBlock ≠ some g
  lo : w.heap.size ≤ B
  grown : w.grownBy wr none

theorem NewProds.kept {w wr wx : World} {B n m : Nat} {v : Value} {L : Nat → Int} {R : Nat → List Int} {V : Nat → Int} {rg : Nat → Value} (h : NewProds w wr B v n m L R V rg) (hg : wr.grownBy wx none) : NewProds w wx B v n m L R V rg :=
  ⟨h.row.kept hg (by cases hv : v.ownBlock <;> simp), fun i hi => (h.rights i hi).kept hg (by cases hv : (rg i).ownBlock <;> simp), h.apart, h.disj, h.lo, grown_trans h.grown hg⟩

theorem NewProds.push {w wr w1 : World} {B g n m c c' : Nat} {a' : Option Addr} {L : Nat → Int} {R : Nat → List Int} {V : Nat → Int} {rg : Nat → Value} (h : NewProds w wr B (.slice (some ⟨g, 0, none⟩) n c) n m L R V rg) (hm : m < n)
    (hown : w1.ownsRow wr.heap.size 3 1 (.slice a' (R m).length c') (R m).length ((R m).map (Value.int .i64))) (hg : wr.grownBy w1 none) :
    NewProds w (w1.setCell ⟨g, m * 3 + 1, none⟩ (.slice a' (R m).length c')) B (.slice (some ⟨g, 0, none⟩) n c) n (m + 1) L R V (updV rg m (.slice a' (R m).length c')) := by
  have h1 := h.kept hg
  have hgB := h.row.lt g rfl
  have hst := grown_setCell (w := w1) g (m * 3 + 1) (.slice a' (R m).length c')
  have hnew : ∀ x, (Value.slice a' (R m).length c').ownBlock = some x → wr.heap.size ≤ x := fun x hx => (hown.lt x hx).1
  have hlo := h.lo
  have hsz := h.grown.size
  have es : updV rg m (.slice a' (R m).length c') m = .slice a' (R m).length c' := by simp [updV]
  have eo : ∀ i, i < m → updV rg m (.slice a' (R m).length c') i = rg i := fun i hi => by simp [updV, show i ≠ m by omega]
  refine ⟨?_, fun i hi => ?_, fun i hi x hx => ?_, fun i j hij hj x hx => ?_, h.lo, grown_new h1.grown hst (Nat.le_trans hlo hgB.1)⟩
  · rw [← prodRow_setR L rg V m _ n hm]
    exact owns_set h1.row _
  · by_cases e : i = m
    · subst e
      rw [es]
      have h2 : w1.ownsRow B 3 1 (.slice a' (R i).length c') (R i).length ((R i).map (Value.int .i64)) := by
        refine ⟨hown.1, ?_⟩
        rcases hown.2 with h' | ⟨x, cap, cur, hv, hb, rest⟩
        · exact .inl h'
        · have hBle : B ≤ wr.heap.size := by
            rcases h.row.2 with ⟨h', _⟩ | ⟨x', _, _, hv', hb', hh', _⟩
            · cases h'
            · have := (Array.getElem?_eq_some_iff.1 hh').1; omega
          exact .inr ⟨x, cap, cur, hv, by omega, rest⟩
      refine h2.kept hst ?_
      cases hx : (Value.slice a' (R i).length c').ownBlock with
      | none => exact .inl rfl
      | some x => have := hnew x hx; exact .inr (by simp; omega)
    · rw [eo i (by omega)]
      refine (h1.rights i (by omega)).kept hst ?_
      cases hx : (rg i).ownBlock with
      | none => exact .inl rfl
      | some x => have := h.apart i (by omega) x hx; simp [Value.ownBlock] at this; exact .inr (by simp; omega)
  · by_cases e : i = m
    · subst e
      rw [es] at hx
      have := hnew x hx
      simp [Value.ownBlock]
      omega
    · rw [eo i (by omega)] at hx
      exact h.apart i (by omega) x hx
  · by_cases e : j = m
    · subst e
      rw [eo i hij] at hx
      rw [es]
      intro hh
      have h3 := hnew x hh
      have h4 := ((h.rights i hij).lt x hx).2
      omega
    · rw [eo i (by omega)] at hx
      rw [eo j (by omega)]
      exact h.disj i j hij (by omega) x hx

end Go.Proofs.YthoamlahbnphkaaGreat

/-
  nonsHold; what a number is in a grammar: a level, a terminal's symbol, a nonterminal's.
-/
namespace Go.Proofs.YthoamlahbnphkaaGreat
open Go.RowKit Go.Maps

/-- A slice of texts, wherever it lies. -/
def StrsAt (w : World) (a : Option Addr) (l : List ByteArray) : Prop := l = [] ∨ ∃ b off, a = some ⟨b, off, none⟩ ∧ ∀ i, i < l.length → w.cell? ⟨b, off + i, none⟩ = some (.string (l.getD i ⟨#[]⟩))

theorem StrsAt.kept {w w' : World} {a : Option Addr} {l : List ByteArray} (h : StrsAt w a l) (hg : w.grownBy w' none) : StrsAt w' a l := by
  rcases h with h | ⟨b, off, ha, hc⟩
  · exact .inl h
  · exact .inr ⟨b, off, ha, fun i hi => hg.cell (hc i hi) (by simp)⟩
theorem StrsIn.strsAt {w : World} {v : Value} {l : List ByteArray} {a : Option Addr} {n c : Nat} (h : StrsIn w v l) (hv : v = .slice a n c) : StrsAt w a l := by
  subst hv
  have h' := h
  rcases h.2 with ⟨hv, hn⟩ | ⟨g, cap, cur, hv, _, hg, hle, _⟩
  · exact .inl (List.eq_nil_of_length_eq_zero hn)
  · simp at hv
    obtain ⟨rfl, rfl, rfl⟩ := hv
    refine .inr ⟨g, 0, rfl, fun i hi => ?_⟩
    have := World.ownsRow.cells h' (g := g) rfl i (.string (l.getD i ⟨#[]⟩)) (by simp [List.getD, hi])
    rw [Addr.add_mid] at this
    exact this

/-- The map of the first k names. -/
structure SeenAt (w wr : World) (B : Nat) (l : List ByteArray) (k : Nat) (D : DataW Unit) : Prop where
  own : wr.ownsMap Tryz.prog 9 strR B k D
  has : ∀ s : ByteArray, Maps.has D (.string s.data.toList) = true ↔ s ∈ l.take k
  le : Maps.size D ≤ k
  nd : Maps.size D = k ↔ (l.take k).Nodup
  grown : w.grownBy wr none
  lo : w.heap.size ≤ B

theorem getD_mem {l : List ByteArray} {k : Nat} (h : k < l.length) : l.getD k ⟨#[]⟩ ∈ l := by
  have : l.getD k ⟨#[]⟩ = l[k] := by simp [List.getD, h]
  rw [this]; exact List.getElem_mem _

theorem SeenAt.push {w wr w1 : World} {B k : Nat} {l : List ByteArray} {D : DataW Unit} {d : DataW Unit} (h : SeenAt w wr B l k D) (hk : k < l.length) (ho : w1.ownsMap Tryz.prog 9 strR B (k + 1) (D.put (.string (l.getD k ⟨#[]⟩).data.toList) d)) (hg : wr.grownBy w1 (some B)) :
    SeenAt w w1 B l (k + 1) (D.put (.string (l.getD k ⟨#[]⟩).data.toList) d) := by
  have htk : l.take (k + 1) = l.take k ++ [l.getD k ⟨#[]⟩] := by rw [List.take_succ_eq_append_getElem hk]; simp [List.getD, hk]
  generalize l.getD k ⟨#[]⟩ = q at *
  have hT := h.own.tidy strKey
  have hsz := size_put (k := .string (q).data.toList) hT d
  refine ⟨ho, fun s => ?_, ?_, ?_, grown_new h.grown hg h.lo, h.lo⟩
  · rw [htk, List.mem_append]
    by_cases e : s = q
    · subst e
      simp [has_put_same h.own.isMap (k := .string s.data.toList) (by simp [WideAt.IsKeyLit]) d]
    · rw [has_put_other (fun hh => e (bytes_ext (by simpa using hh))), h.has s]
      simp only [List.mem_singleton, e, or_false]
  · rw [hsz]
    have := h.le
    split <;> omega
  · rw [hsz, htk, List.nodup_append]
    have h1 := h.le
    have h2 := h.nd
    have h3 := h.has (q)
    split
    · next hh =>
      constructor
      · intro; omega
      · rintro ⟨_, _, h4⟩
        exact absurd rfl (h4 _ (h3.1 hh) _ (by simp))
    · next hh =>
      constructor
      · intro he
        refine ⟨h2.1 (by omega), by simp, fun a ha b hb => ?_⟩
        simp at hb
        subst hb
        exact fun e => hh (h3.2 (e ▸ ha))
      · rintro ⟨h4, _, _⟩
        have := h2.2 h4
        omega

set_option maxRecDepth 100000 in
theorem noTwoAlike_any (a : Option Addr) (cap : Nat) (l : List ByteArray) (w : World) (hl : StrsAt w a l) (hn : l.length ≤ 65) (hs : ∀ s ∈ l, s.size ≤ 16) :
    Calls Tryz.prog 132 #[.slice a l.length cap] w fun e w' => ∃ r, e = .returned (.bool r) ∧ (r = true ↔ l.Nodup) ∧ w.grownBy w' none := by
  have hmm := @run_makeMap Tryz.prog
  have HL : Hid (StrsAt w a l) := hl
  have HS : Hid (∀ s ∈ l, s.size ≤ 16) := hs
  obtain ⟨n, hln⟩ : ∃ n, n = l.length := ⟨_, rfl⟩
  have HLN : Hid (l.length = n) := hln.symm
  rw [← hln] at hn ⊢
  clear hl hs hln
  have HS0 : Hid (SeenAt w (w.alloc (.map #[] 0)) w.heap.size l 0 (.map [])) := ⟨World.ownsMap_made _ _ _ _, fun s => by simp [Maps.has], Nat.le_refl _, by simp [Maps.size], World.grownBy_alloc w _ none, Nat.le_refl _⟩
  go_enter Tryz.func132, Tryz.ntmps132
  go_wp2_with fail
  clear hmm
  go_loopw [9] (fun i wr => ∃ k : Nat, k ≤ n ∧ i = .int .i64 k ∧ ∃ D, SeenAt w wr w.heap.size l k D) (fun i _ => n - (intOf i).toNat)
  case atStart => exact ⟨0, Nat.zero_le _, rfl, _, HS0.out⟩
  case round =>
    obtain ⟨k, hk, rfl, D, hD⟩ := hrel
    have HD : Hid (SeenAt w wr w.heap.size l k D) := hD
    clear hD HS0
    by_cases hlt : k < n
    · have hkl : k < l.length := by rw [HLN.out]; exact hlt
      obtain ⟨bl, off, rfl, hcells⟩ : ∃ b off, a = some ⟨b, off, none⟩ ∧ ∀ i, i < l.length → wr.cell? ⟨b, off + i, none⟩ = some (.string (l.getD i ⟨#[]⟩)) := by
        rcases (HL.out.kept HD.out.grown) with h | h
        · subst h; simp at hkl
        · exact h
      have hck := hcells k hkl
      have hsz := HS.out _ (getD_mem hkl)
      have HPU : Hid (∀ w1, w1.ownsMap Tryz.prog 9 strR w.heap.size (k + 1) (D.put (.string (l.getD k ⟨#[]⟩).data.toList) (.lit (.int .i64 (k : Int)))) → wr.grownBy w1 (some w.heap.size) → SeenAt w w1 w.heap.size l (k + 1) (D.put (.string (l.getD k ⟨#[]⟩).data.toList) (.lit (.int .i64 (k : Int))))) := fun w1 h1 h2 => HD.out.push hkl h1 h2
      generalize l.getD k ⟨#[]⟩ = s at *
      have hwf : (Lit.int .i64 (k : Int)).wf = true := WalkArith.wf_i64 (by omega)
      clear hcells
      go_wp2_with (at_mapUpdate; refine wpList_mapUpdate_own _ rfl _ _ _ 191 rfl 9 3 strKey Tryz.underlying191 _ w.heap.size k D rfl HD.out.own (by unfold maxLen; omega) _ _ _ rfl rfl (keyStr s (by unfold maxLen; omega)) _ [] (plainElem_int Tryz.underlying3 hwf) ?_; intro w1 hown1 hg1; have HN1 : Hid (SeenAt w w1 w.heap.size l (k + 1) _) := HPU.out w1 hown1 hg1; clear hown1 hg1)
      go_roundw
      case rel => exact ⟨k + 1, by omega, by go_num, _, HN1.out⟩
      case measure => simp [intOf]; omega
    · obtain rfl : k = n := by omega
      go_wp2_with (at_len; refine wpList_len_own _ rfl _ 191 rfl 9 3 Tryz.underlying191 _ w.heap.size k D rfl HD.out.own ?_)
      go_ret
      refine ⟨_, rfl, ?_, HD.out.grown⟩
      have h1 := HD.out.nd
      rw [List.take_of_length_le (Nat.le_of_eq HLN.out)] at h1
      refine Iff.trans ?_ h1
      simp
      omega

end Go.Proofs.YthoamlahbnphkaaGreat

namespace Go.Proofs.YthoamlahbnphkaaGreat
open Go.RowKit Go.Maps

set_option maxRecDepth 100000 in
theorem nonsHold_any (a : Option Addr) (cap : Nat) (l : List ByteArray) (w : World) (hl : StrsAt w a l) (hn : l.length ≤ 65) :
    Calls Tryz.prog 107 #[.slice a l.length cap] w fun e w' => ∃ r, e = .returned (.bool r) ∧ (r = true ↔ (∀ s ∈ l, isNameB s = true) ∧ l.Nodup) ∧ w.grownBy w' none := by
  have HNT : Hid ((∀ s ∈ l, isNameB s = true) → Calls Tryz.prog 132 #[.slice a l.length cap] w fun e w' => ∃ r, e = .returned (.bool r) ∧ (r = true ↔ l.Nodup) ∧ w.grownBy w' none) := fun h => noTwoAlike_any a cap l w hl hn (fun s hs => by have := h s hs; simp [isNameB, lenOK] at this; omega)
  have HL : Hid (StrsAt w a l) := hl
  obtain ⟨n, hln⟩ : ∃ n, n = l.length := ⟨_, rfl⟩
  have HLN : Hid (l.length = n) := hln.symm
  rw [← hln] at hn ⊢ HNT
  clear hl hln
  go_enter Tryz.func107, Tryz.ntmps107
  go_wp2_with fail
  go_loopw [7] (fun i wr => ∃ k : Nat, k ≤ n ∧ i = .int .i64 k ∧ wr = w ∧ ∀ s ∈ l.take k, isNameB s = true) (fun i _ => n - (intOf i).toNat)
  case atStart => exact ⟨0, Nat.zero_le _, rfl, rfl, fun s hs => by simp at hs⟩
  case round =>
    obtain ⟨k, hk, rfl, hw, hall⟩ := hrel
    subst hw
    have HA : Hid (∀ s ∈ l.take k, isNameB s = true) := hall
    clear hall
    by_cases hlt : k < n
    · have hkl : k < l.length := by rw [HLN.out]; exact hlt
      obtain ⟨bl, off, rfl, hcells⟩ : ∃ b off, a = some ⟨b, off, none⟩ ∧ ∀ i, i < l.length → wr.cell? ⟨b, off + i, none⟩ = some (.string (l.getD i ⟨#[]⟩)) := by
        rcases HL.out with h | h
        · subst h; simp at hkl
        · exact h
      have hck := hcells k hkl
      have hmem := getD_mem hkl
      have htk : l.take (k + 1) = l.take k ++ [l.getD k ⟨#[]⟩] := by rw [List.take_succ_eq_append_getElem hkl]; simp [List.getD, hkl]
      generalize l.getD k ⟨#[]⟩ = s at *
      have hN := isName_any s wr
      cases hb : isNameB s with
      | true =>
        rw [hb] at hN
        have HA' : Hid (∀ s ∈ l.take (k + 1), isNameB s = true) := fun x hx => by
          rw [htk] at hx
          rcases List.mem_append.1 hx with hx | hx
          · exact HA.out x hx
          · simp at hx; subst hx; exact hb
        clear hcells hmem htk HNT
        go_wp2_with (go_at_call 133; refine hN.mono ?_; rintro e w' ⟨rfl, rfl⟩)
        go_roundw
        case rel => exact ⟨k + 1, by omega, by go_num, trivial, HA'.out⟩
        case measure => simp [intOf]; omega
      | false =>
        rw [hb] at hN
        have HF : Hid (¬ ((∀ s ∈ l, isNameB s = true) ∧ l.Nodup)) := fun h => by
          have := h.1 s hmem
          rw [hb] at this
          cases this
        clear hcells hmem htk HNT
        go_wp2_with (go_at_call 133; refine hN.mono ?_; rintro e w' ⟨rfl, rfl⟩)
        go_ret
        exact ⟨false, rfl, by simp [HF.out], grown_refl _ _⟩
    · obtain rfl : k = n := by omega
      have ht : l.take k = l := List.take_of_length_le (Nat.le_of_eq HLN.out)
      rw [ht] at HA
      have hnt := HNT.out HA.out
      clear HNT
      go_wp2_with fail
      refine hnt.mono ?_
      rintro e w2 ⟨r, rfl, hr, hg⟩
      go_wp2_with fail
      go_ret
      exact ⟨r, rfl, hr.trans ⟨fun h => ⟨HA.out, h⟩, fun h => h.2⟩, hg⟩

end Go.Proofs.YthoamlahbnphkaaGreat

/-
  lefts and IsSorted, walked.
-/
namespace Go.Proofs.YthoamlahbnphkaaGreat
open Go.RowKit Go.Maps Go.Shelf

attribute [local go_sem] Oper.semAt_some

/-- A grammar by value. -/
def gramV (ta na la pa : Option Addr) (tn nn ln pn tc nc lc pc : Nat) (st : Int) : Value := .agg #[.slice ta tn tc, .slice na nn nc, .slice la ln lc, .int .i64 st, .slice pa pn pc]

theorem isLevel_any (ta na la pa : Option Addr) (tn nn ln pn tc nc lc pc : Nat) (st x : Int) (w : World) :
    Calls Tryz.prog 131 #[.agg #[.slice ta tn tc, .slice na nn nc, .slice la ln lc, .int .i64 st, .slice pa pn pc], .int .i64 x] w fun e w' => e = .returned (.bool (decide (0 ≤ x) && decide (x ≤ ln))) ∧ w.grownBy w' none := by
  by_cases h0 : 0 ≤ x
  · have hd : decide (0 ≤ x) = true := decide_eq_true h0
    go_enter Tryz.func131, Tryz.ntmps131
    go_wp2_with fail
    go_ret
    exact ⟨by simp [h0], World.grownBy_alloc _ _ none⟩
  · have hd : decide (0 ≤ x) = false := decide_eq_false h0
    go_enter Tryz.func131, Tryz.ntmps131
    go_wp2_with fail
    go_ret
    exact ⟨by simp, World.grownBy_alloc _ _ none⟩
theorem isTermOf_any (ta na la pa : Option Addr) (tn nn ln pn tc nc lc pc : Nat) (st x : Int) (w : World) :
    Calls Tryz.prog 137 #[.agg #[.slice ta tn tc, .slice na nn nc, .slice la ln lc, .int .i64 st, .slice pa pn pc], .int .i64 x] w fun e w' => e = .returned (.bool (decide (0 < x) && decide (x < tn))) ∧ w.grownBy w' none := by
  by_cases h0 : 0 < x
  · have hd : decide (0 < x) = true := decide_eq_true h0
    go_enter Tryz.func137, Tryz.ntmps137
    go_wp2_with fail
    go_ret
    exact ⟨by simp [h0], World.grownBy_alloc _ _ none⟩
  · have hd : decide (0 < x) = false := decide_eq_false h0
    go_enter Tryz.func137, Tryz.ntmps137
    go_wp2_with fail
    go_ret
    exact ⟨by simp, World.grownBy_alloc _ _ none⟩
theorem isNonOf_any (ta na la pa : Option Addr) (tn nn ln pn tc nc lc pc ad : Nat) (st x : Int) (w : World) (ht : tn ≤ 140737488355328) (hn : nn ≤ 140737488355328) (ha : ad ≤ 1) :
    Calls Tryz.prog 111 #[.agg #[.slice ta tn tc, .slice na nn nc, .slice la ln lc, .int .i64 st, .slice pa pn pc], .int .i64 x, .int .i64 ad] w fun e w' => e = .returned (.bool (decide ((tn : Int) + ad ≤ x) && decide (x < (tn : Int) + nn))) ∧ w.grownBy w' none := by
  by_cases h0 : (tn : Int) + ad ≤ x
  · have hd : decide ((tn : Int) + ad ≤ x) = true := decide_eq_true h0
    go_enter Tryz.func111, Tryz.ntmps111
    go_wp2_with fail
    go_ret
    exact ⟨by simp [h0], World.grownBy_alloc _ _ none⟩
  · have hd : decide ((tn : Int) + ad ≤ x) = false := decide_eq_false h0
    go_enter Tryz.func111, Tryz.ntmps111
    go_wp2_with fail
    go_ret
    exact ⟨by simp, World.grownBy_alloc _ _ none⟩

/-- Index: somewhere, or -1. -/
theorem index_any (a : Option Addr) (cap : Nat) (l : List Int) (x : Int) (w : World) (hl : IntsAt w a l) (hn : l.length ≤ 140737488355328) :
    Calls Tryz.prog 158 #[.slice a l.length cap, .int .i64 x] w fun e w' => (∃ r : Int, e = .returned (.int .i64 r) ∧ -1 ≤ r ∧ (0 ≤ r ↔ x ∈ l)) ∧ w' = w := by
  have HL : Hid (IntsAt w a l) := hl
  obtain ⟨n, hln⟩ : ∃ n, n = l.length := ⟨_, rfl⟩
  have HLN : Hid (l.length = n) := hln.symm
  rw [← hln] at hn ⊢
  clear hl hln
  go_enter Tryz.func158, Tryz.ntmps158
  go_wp2_with fail
  go_loopw [8] (fun i wr => ∃ k : Nat, k ≤ n ∧ i = .int .i64 k ∧ wr = w ∧ x ∉ l.take k) (fun i _ => n - (intOf i).toNat)
  case atStart => exact ⟨0, Nat.zero_le _, rfl, rfl, by simp⟩
  case round =>
    obtain ⟨k, hk, rfl, hw, hno⟩ := hrel
    subst hw
    have HA : Hid (x ∉ l.take k) := hno
    clear hno
    by_cases hlt : k < n
    · have hkl : k < l.length := by rw [HLN.out]; exact hlt
      obtain ⟨bl, off, rfl, hcells⟩ : ∃ b off, a = some ⟨b, off, none⟩ ∧ ∀ i, i < l.length → wr.cell? ⟨b, off + i, none⟩ = some (.int .i64 (l.getD i 0)) := by
        rcases HL.out with h | h
        · subst h; simp at hkl
        · exact h
      have hck := hcells k hkl
      have hmem : l.getD k 0 ∈ l := by
        have : l.getD k 0 = l[k] := by simp [List.getD, hkl]
        rw [this]; exact List.getElem_mem _
      have htk : l.take (k + 1) = l.take k ++ [l.getD k 0] := by rw [List.take_succ_eq_append_getElem hkl]; simp [List.getD, hkl]
      generalize l.getD k 0 = y at *
      by_cases he : x = y
      · have hb : (x == y) = true := beq_iff_eq.2 he
        have HM : Hid (x ∈ l) := by rw [he]; exact hmem
        clear hcells hmem htk he
        go_wp2_with fail
        go_ret
        exact ⟨⟨k, rfl, by omega, ⟨fun _ => HM.out, fun _ => by omega⟩⟩, rfl⟩
      · have hb : (x == y) = false := beq_eq_false_iff_ne.2 he
        have HA' : Hid (x ∉ l.take (k + 1)) := by
          show x ∉ l.take (k + 1)
          rw [htk, List.mem_append, not_or]
          exact ⟨HA.out, by simpa using he⟩
        clear hcells hmem htk he
        go_wp2_with fail
        go_roundw
        case rel => exact ⟨k + 1, by omega, by go_num, trivial, HA'.out⟩
        case measure => simp [intOf]; omega
    · obtain rfl : k = n := by omega
      have ht : l.take k = l := List.take_of_length_le (Nat.le_of_eq HLN.out)
      rw [ht] at HA
      go_wp2_with fail
      go_ret
      exact ⟨⟨-1, rfl, by omega, ⟨fun h => absurd h (by omega), fun h => absurd h HA.out⟩⟩, rfl⟩

theorem contains_any (a : Option Addr) (cap : Nat) (l : List Int) (x : Int) (w : World) (hl : IntsAt w a l) (hn : l.length ≤ 140737488355328) :
    Calls Tryz.prog 138 #[.slice a l.length cap, .int .i64 x] w fun e w' => e = .returned (.bool (decide (x ∈ l))) ∧ w' = w := by
  have hI := index_any a cap l x w hl hn
  clear hl
  go_enter Tryz.func138, Tryz.ntmps138
  go_wp2_with fail
  refine hI.mono ?_
  rintro e w' ⟨⟨r, rfl, h1, h2⟩, rfl⟩
  go_wp2_with fail
  go_ret
  refine ⟨?_, rfl⟩
  congr 2

theorem less_any (x y : Int) (w : World) : Calls Tryz.prog 164 #[.int .i64 x, .int .i64 y] w fun e w' => e = .returned (.bool (decide (x < y))) ∧ w' = w := by
  have hN : Calls Tryz.prog 149 #[.int .i64 x] w fun e w' => e = .returned (.bool false) ∧ w' = w := by
    go_enter Tryz.func149, Tryz.ntmps149
    go_wp2_with fail
    go_ret
    exact ⟨by simp, rfl⟩
  go_enter Tryz.func164, Tryz.ntmps164
  go_wp2_with (go_at_call 149; refine hN.mono ?_; rintro e w' ⟨rfl, rfl⟩)
  go_ret
  exact ⟨rfl, rfl⟩

end Go.Proofs.YthoamlahbnphkaaGreat

namespace Go.Proofs.YthoamlahbnphkaaGreat
open Go.RowKit Go.Maps Go.Shelf

attribute [local go_sem] Oper.semAt_some

def leftStep (L : Nat → Int) (out : List Int) (i : Nat) : List Int := if L i ∈ out then out else out ++ [L i]
def leftsTo (L : Nat → Int) (n : Nat) : List Int := (List.range n).foldl (leftStep L) []
theorem leftsTo_succ (L : Nat → Int) (n : Nat) : leftsTo L (n + 1) = leftStep L (leftsTo L n) n := by simp [leftsTo, List.range_succ]
theorem leftsTo_le (L : Nat → Int) : ∀ n, (leftsTo L n).length ≤ n
  | 0 => by simp [leftsTo]
  | n + 1 => by
    rw [leftsTo_succ]
    have := leftsTo_le L n
    unfold leftStep
    split
    · omega
    · simp; omega

theorem owns_intsAt {w : World} {B n c : Nat} {a : Option Addr} {l : List Int} (h : w.ownsRow B 3 1 (.slice a n c) n (l.map (Value.int .i64))) (hn : n = l.length) : IntsAt w a l := by
  subst hn
  have h0 := owns_base h
  obtain ⟨a', c', hv, hI, _⟩ := IntsIn.at (l := l) h0
  simp at hv
  obtain ⟨rfl, rfl⟩ := hv
  exact hI

set_option maxRecDepth 100000 in
set_option maxHeartbeats 1000000 in
theorem lefts_any (a : Option Addr) (n cap : Nat) (L : Nat → Int) (R : Nat → List Int) (ra : Nat → Option Addr) (rc : Nat → Nat) (V : Nat → Int) (w : World) (hP : ProdsAt w a n L R ra rc V) (hn : n ≤ 97) :
    Calls Tryz.prog 110 #[.slice a n cap] w fun e w' => ∃ a' c', e = .returned (.slice a' (leftsTo L n).length c') ∧ w'.ownsRow w.heap.size 3 1 (.slice a' (leftsTo L n).length c') (leftsTo L n).length ((leftsTo L n).map (Value.int .i64)) ∧ w.grownBy w' none := by
  obtain ⟨i0, hi, hz0, hz1, hz2⟩ := info_parts infoInt
  have HP : Hid (ProdsAt w a n L R ra rc V) := hP
  clear hP
  go_enter Tryz.func110, Tryz.ntmps110
  go_wp2_with fail
  go_loopw [8, 3] (fun i v3 wr => ∃ k : Nat, k ≤ n ∧ i = .int .i64 k ∧ ∃ a' c', v3 = .slice a' (leftsTo L k).length c' ∧ wr.ownsRow w.heap.size 3 1 (.slice a' (leftsTo L k).length c') (leftsTo L k).length ((leftsTo L k).map (Value.int .i64)) ∧ w.grownBy wr none) (fun i _ _ => n - (intOf i).toNat)
  case atStart => exact ⟨0, Nat.zero_le _, rfl, none, 0, rfl, World.ownsRow_nil _ _ _ _, grown_refl _ _⟩
  case round =>
    obtain ⟨k, hk, rfl, a3, c3, rfl, hown, hg⟩ := hrel
    have HO : Hid (wr.ownsRow w.heap.size 3 1 (.slice a3 (leftsTo L k).length c3) (leftsTo L k).length ((leftsTo L k).map (Value.int .i64))) := hown
    have HG : Hid (w.grownBy wr none) := hg
    clear hown hg
    by_cases hlt : k < n
    · obtain ⟨bp, off, rfl, hcs⟩ : ∃ b off, a = some ⟨b, off, none⟩ ∧ ∀ k, k < n → w.cell? ⟨b, off + k * 3, none⟩ = some (.int .i64 (L k)) ∧ w.cell? ⟨b, off + k * 3 + 1, none⟩ = some (.slice (ra k) (R k).length (rc k)) ∧ w.cell? ⟨b, off + k * 3 + 2, none⟩ = some (.int .i64 (V k)) ∧ IntsAt w (ra k) (R k) ∧ (ra k = none → rc k = 0) ∧ (R k).length ≤ 17592186044416 := by
        rcases HP.out with h | h
        · omega
        · exact h
      obtain ⟨h1, h2, h3, _⟩ := hcs k hlt
      have d0 := HG.out.cell h1 (by simp)
      have d1 := HG.out.cell h2 (by simp)
      have d2 := HG.out.cell h3 (by simp)
      have hle := leftsTo_le L k
      have hstep := leftsTo_succ L k
      have hst : leftsTo L (k + 1) = if L k ∈ leftsTo L k then leftsTo L k else leftsTo L k ++ [L k] := hstep
      have HST : Hid (leftsTo L (k + 1) = if L k ∈ leftsTo L k then leftsTo L k else leftsTo L k ++ [L k]) := hst
      have hC : ∀ o, Calls Tryz.prog 138 #[.slice a3 (leftsTo L k).length c3, .int .i64 (L k)] (wr.alloc o) fun e w' => e = .returned (.bool (decide (L k ∈ leftsTo L k))) ∧ w' = wr.alloc o := fun o =>
        contains_any a3 c3 (leftsTo L k) (L k) (wr.alloc o) ((owns_intsAt HO.out rfl).kept (World.grownBy_alloc _ _ none)) (by omega)
      have HC : Hid (∀ o, Calls Tryz.prog 138 #[.slice a3 (leftsTo L k).length c3, .int .i64 (L k)] (wr.alloc o) fun e w' => e = .returned (.bool (decide (L k ∈ leftsTo L k))) ∧ w' = wr.alloc o) := hC
      have hsz := HG.out.size
      generalize leftsTo L k = out at *
      clear hcs h1 h2 h3 hst hC hstep
      by_cases hm : L k ∈ out
      · have hmd : decide (L k ∈ out) = true := decide_eq_true hm
        have hs2 := HST.out
        rw [if_pos hm] at hs2
        have HS2 : Hid (leftsTo L (k + 1) = out) := hs2
        rw [hmd] at HC
        clear hm HST hs2 hmd
        go_wp2_with fail
        refine (HC.out _).mono ?_
        rintro e w2 ⟨rfl, hw2⟩
        have HO2 : Hid (w2.ownsRow w.heap.size 3 1 (.slice a3 out.length c3) out.length (out.map (Value.int .i64))) := by rw [hw2]; exact HO.out.alloc _
        have HG2 : Hid (w.grownBy w2 none) := by rw [hw2]; exact grown_trans HG.out (World.grownBy_alloc _ _ none)
        clear hw2
        go_wp2_with fail
        go_roundw
        case rel => exact ⟨k + 1, by omega, by go_num, a3, c3, by rw [HS2.out], by rw [HS2.out]; exact HO2.out, HG2.out⟩
        case measure => simp [intOf]; omega
      · have hmd : decide (L k ∈ out) = false := decide_eq_false hm
        have hs2 := HST.out
        rw [if_neg hm] at hs2
        have HS2 : Hid (leftsTo L (k + 1) = out ++ [L k]) := hs2
        rw [hmd] at HC
        clear hm HST hs2 hmd
        go_wp2_with fail
        refine (HC.out _).mono ?_
        rintro e w2 ⟨rfl, hw2⟩
        have HO2 : Hid (w2.ownsRow w.heap.size 3 1 (.slice a3 out.length c3) out.length (out.map (Value.int .i64))) := by rw [hw2]; exact HO.out.alloc _
        have HG2 : Hid (w.grownBy w2 none) := by rw [hw2]; exact grown_trans HG.out (World.grownBy_alloc _ _ none)
        have hcp : w2.cell? ⟨wr.heap.size, 0, none⟩ = some (.int .i64 (L k)) := by
          rw [hw2, cell_of_row _ _ _ _ _ _ (heap_alloc_last wr _)]
          rfl
        have hsz2 := HG2.out.size
        clear hw2
        go_wp2_with (at_builtin; refine wpList_append_lies _ rfl _ _ 24 rfl w.heap.size 3 i0 (.int .i64 0) 1 8 Tryz.underlying24 hi hz0 hz1 hz2 rfl (by decide) (.slice a3 out.length c3) out.length (out.map (Value.int .i64)) rfl (HO2.out.alloc _) ⟨w2.heap.size, 0, none⟩ 1 1 [.int .i64 (L k)] rfl rfl (cell_one_new _ _ _) (ints_oneCell' [L k]) (by omega) (by unfold maxLen; omega) (by omega) (by simp; omega) _ rfl ?_; intro g4 c4 w4 hown4 hg4 hloc4 hlt4)
        have HFIN : Hid (w4.ownsRow w.heap.size 3 1 (.slice (some ⟨g4, 0, none⟩) (out ++ [L k]).length c4) (out ++ [L k]).length ((out ++ [L k]).map (Value.int .i64)) ∧ w.grownBy w4 none) := by
          refine ⟨by simpa using hown4, ?_⟩
          have hA := grown_trans HG2.out (World.grownBy_alloc w2 (.cells #[.int .i64 (L k)] 3) none)
          cases hv : (Value.slice a3 out.length c3).ownBlock with
          | none => rw [hv] at hg4; exact grown_trans hA hg4
          | some q => rw [hv] at hg4; exact grown_new hA hg4 (HO2.out.lt q hv).1
        clear hown4 hg4 hloc4 hlt4
        go_wp2_with fail
        go_roundw
        case rel => exact ⟨k + 1, by omega, by go_num, some ⟨g4, 0, none⟩, c4, by rw [HS2.out]; simp, by rw [HS2.out]; exact HFIN.out.1, HFIN.out.2⟩
        case measure => simp [intOf]; omega
    · obtain rfl : k = n := by omega
      go_wp2_with fail
      go_ret
      exact ⟨a3, c3, rfl, HO.out, HG.out⟩

theorem less_quiet (x y : Int) (w : World) (q : Nat) : Calls Tryz.prog 164 #[.int .i64 x, .int .i64 y] (w.drewN q) fun e w' => e = .returned (.bool (decide (x < y))) ∧ w' = w.drewN q := less_any x y _

def Asc (l : List Int) : Prop := ∀ i, i + 1 < l.length → l.getD i 0 ≤ l.getD (i + 1) 0

/-- IsSorted: no number is below the one ahead of it. -/
theorem isSorted_any (a : Option Addr) (cap : Nat) (l : List Int) (w : World) (hl : IntsAt w a l) (hn : l.length ≤ 97) (r : Bool) (hr : r = true ↔ Asc l) :
    Calls Tryz.prog 150 #[.slice a l.length cap] w fun e w' => e = .returned (.bool r) ∧ w.grownBy w' none := by
  have HRR : Hid (r = true ↔ Asc l) := hr
  clear hr
  have HL : Hid (IntsAt w a l) := hl
  obtain ⟨n, hln⟩ : ∃ n, n = l.length := ⟨_, rfl⟩
  have HLN : Hid (l.length = n) := hln.symm
  rw [← hln] at hn ⊢
  clear hl hln
  go_enter Tryz.func150, Tryz.ntmps150
  go_wp2_with fail
  go_loopw [3] (fun i wr => ∃ k : Int, -1 ≤ k ∧ k < n ∧ i = .int .i64 k ∧ w.grownBy wr none ∧ ∀ j : Nat, k ≤ j → j + 1 < n → l.getD j 0 ≤ l.getD (j + 1) 0) (fun i _ => (intOf i + 1).toNat)
  case atStart => exact ⟨(n : Int) - 1, by omega, by omega, rfl, grown_refl _ _, fun j h1 h2 => by omega⟩
  case round =>
    obtain ⟨k, hk1, hk2, rfl, hg, hall⟩ := hrel
    have HG : Hid (w.grownBy wr none) := hg
    have HA : Hid (∀ j : Nat, k ≤ j → j + 1 < n → l.getD j 0 ≤ l.getD (j + 1) 0) := hall
    clear hg hall
    by_cases hpos : 0 < k
    · obtain ⟨m, rfl⟩ : ∃ m : Nat, k = (m : Int) + 1 := ⟨(k - 1).toNat, by omega⟩
      obtain ⟨bl, off, rfl, hcells⟩ : ∃ b off, a = some ⟨b, off, none⟩ ∧ ∀ i, i < l.length → wr.cell? ⟨b, off + i, none⟩ = some (.int .i64 (l.getD i 0)) := by
        rcases HL.out.kept HG.out with h | h
        · have := HLN.out; subst h; simp at this; omega
        · exact h
      have hln := HLN.out
      have h1 := hcells m (by omega)
      have h2 := hcells (m + 1) (by omega)
      obtain ⟨x, hx⟩ : ∃ x, x = l.getD m 0 := ⟨_, rfl⟩
      obtain ⟨y, hy⟩ : ∃ y, y = l.getD (m + 1) 0 := ⟨_, rfl⟩
      rw [← hx] at h1
      rw [← hy] at h2
      have hb1 : (m : Int) < n := by omega
      have hb2 : (m : Int) + 1 < n := by omega
      have hm64 : m ≤ 97 := by omega
      have HXY : Hid (x = l.getD m 0 ∧ y = l.getD (m + 1) 0) := ⟨hx, hy⟩
      clear hcells hln hx hy
      cases hd : decide (y < x) with
      | true =>
        have hrf : r = false := Bool.eq_false_iff.2 fun hh => by
          have h3 := HRR.out.1 hh m (by rw [HLN.out]; omega)
          rw [← HXY.out.1, ← HXY.out.2] at h3
          have := of_decide_eq_true hd
          omega
        have HLS : Hid (∀ q, Calls Tryz.prog 164 #[.int .i64 y, .int .i64 x] (wr.drewN q) fun e w' => e = .returned (.bool true) ∧ w' = wr.drewN q) := fun q => by have := less_quiet y x wr q; rwa [hd] at this
        go_wp2_with fail
        go_quiet (first | (go_at_call 164; with_reducible exact Calls.quiet_of_same (HLS.out _)))
        go_wp2
        go_ret
        exact ⟨by rw [hrf]; rfl, grown_trans HG.out (grown_drewN _ _)⟩
      | false =>
        have HA' : Hid (∀ j : Nat, (m : Int) ≤ j → j + 1 < n → l.getD j 0 ≤ l.getD (j + 1) 0) := fun j h3 h4 => by
          by_cases e : j = m
          · subst e
            rw [← HXY.out.1, ← HXY.out.2]
            have := of_decide_eq_false hd
            omega
          · exact HA.out j (by omega) h4
        have HLS : Hid (∀ q, Calls Tryz.prog 164 #[.int .i64 y, .int .i64 x] (wr.drewN q) fun e w' => e = .returned (.bool false) ∧ w' = wr.drewN q) := fun q => by have := less_quiet y x wr q; rwa [hd] at this
        go_wp2_with fail
        go_quiet (first | (go_at_call 164; with_reducible exact Calls.quiet_of_same (HLS.out _)))
        go_wp2
        go_roundw
        case rel => exact ⟨m, by omega, by omega, by go_num, grown_trans HG.out (grown_drewN _ _), HA'.out⟩
        case measure => simp [intOf]; omega
    · have hd : decide (0 < k) = false := decide_eq_false hpos
      have hrt : r = true := HRR.out.2 fun i hi => HA.out i (by omega) (by rw [← HLN.out]; exact hi)
      go_wp2_with fail
      go_ret
      exact ⟨by first | rfl | (rw [hrt]; rfl), HG.out⟩

end Go.Proofs.YthoamlahbnphkaaGreat
