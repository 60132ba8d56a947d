import Derived.Test.YtckgjolaoifgkaaGreatQocckodllgeob
import Derived.Laws.Externs
import Derived.MapKept
import Derived.Shelf.SlMaps.Clone

/-
  What a table of names does: its size, a name's number, a new name.
-/
namespace Go.Proofs.YtckgjolaoifgkaaGreat
open Go.RowKit Go.Maps

theorem strKey : Keyed Tryz.prog 9 := string_keyed Tryz.underlying9
theorem infoStr : (Tryz.prog.info? 9).map (fun i => (i.zero, i.size, i.bytes)) = some (some (.string ByteArray.empty), 1, 16) := by kernel_rfl

theorem StrsIn.form {w : World} {v : Value} {l : List ByteArray} (h : StrsIn w v l) : ∃ a cap, v = .slice a l.length cap ∧ l.length ≤ cap ∧ (a = none → l.length = 0 ∧ cap = 0) ∧ (∀ g, a = some g → ∀ j u, (l.map Value.string)[j]? = some u → w.cell? (g.add j) = some u) := by
  have h' := h
  rcases h.2 with ⟨rfl, hn⟩ | ⟨g, cap, cur, rfl, _, hg, hle, _⟩
  · rw [hn]
    exact ⟨none, 0, rfl, Nat.le_refl _, fun _ => ⟨rfl, rfl⟩, fun g hg => by cases hg⟩
  · exact ⟨_, cap, rfl, hle, (fun h => by cases h), (fun g' hg' => by cases hg'; exact World.ownsRow.cells h' rfl)⟩
theorem IntsIn.form {w : World} {v : Value} {l : List Int} (h : IntsIn w v l) : ∃ a cap, v = .slice a l.length cap ∧ l.length ≤ cap ∧ (a = none → l.length = 0 ∧ cap = 0) ∧ (∀ g, a = some g → ∀ j u, (l.map (Value.int .i64))[j]? = some u → w.cell? (g.add j) = some u) := by
  have h' := h
  rcases h.2 with ⟨rfl, hn⟩ | ⟨g, cap, cur, rfl, _, hg, hle, _⟩
  · rw [hn]
    exact ⟨none, 0, rfl, Nat.le_refl _, fun _ => ⟨rfl, rfl⟩, fun g hg => by cases hg⟩
  · exact ⟨_, cap, rfl, hle, (fun h => by cases h), (fun g' hg' => by cases hg'; exact World.ownsRow.cells h' rfl)⟩

theorem keyStr (s : ByteArray) (hs : s.size ≤ maxLen) : keyOf Tryz.prog 9 (.string s) = some (.string s.data.toList) := WideMaps.keyOf_string_mk Tryz.underlying9 hs

theorem owns_base {w : World} {base e size n : Nat} {v : Value} {xs : List Value} (h : w.ownsRow base e size v n xs) : w.ownsRow 0 e size v n xs := by
  refine ⟨h.1, ?_⟩
  rcases h.2 with h' | ⟨g, cap, cur, hv, _, rest⟩
  · exact .inl h'
  · exact .inr ⟨g, cap, cur, hv, Nat.zero_le _, rest⟩

theorem MapIs.put {w : World} {l : List ByteArray} {B n : Nat} {D : DataW Unit} {s : ByteArray} (ho : w.ownsMap Tryz.prog 9 strR B (n + 1) (D.put (.string s.data.toList) (.lit (.int .i64 ((l.length + 1 : Nat) : Int))))) (hn : n ≤ l.length) (hs : s ∉ l) (hD : IsMap D)
    (hat : ∀ s : ByteArray, D.atKey (.string s.data.toList) (.lit (.int .i64 0)) = .lit (.int .i64 (numOf l s))) : MapIs w (.map (some B)) (l ++ [s]) := by
  refine .inr ⟨B, n + 1, _, rfl, by simp; omega, ho, fun s' => ?_⟩
  by_cases e : s' = s
  · subst e
    rw [atKey_put_same hD (by simp [WideAt.IsKeyLit]), numOf_snoc_same hs]
  · rw [atKey_put_other (fun h => e (bytes_ext (by simpa using h))), hat s', numOf_snoc_other e]

end Go.Proofs.YtckgjolaoifgkaaGreat

/-
  A new name in a table: the map and the list are replaced.
-/
namespace Go.Proofs.YtckgjolaoifgkaaGreat
open Go.RowKit Go.Maps

theorem str_oneCell (s : ByteArray) : ∀ u ∈ [Value.string s], u.oneCell' = true := by
  intro u hu; simp at hu; subst hu; rfl

end Go.Proofs.YtckgjolaoifgkaaGreat

/-
  Term and Non of a builder; whether a handle is a terminal's or a nonterminal's.
-/
namespace Go.Proofs.YtckgjolaoifgkaaGreat
open Go.RowKit Go.Maps

theorem grown_drewN (w : World) (k : Nat) : w.grownBy (w.drewN k) none := ⟨rfl, rfl, rfl, Nat.le_refl _, fun _ _ _ => rfl⟩
/-! ### Term, Non -/
def BS.addT (S : BS) (s : ByteArray) : BS := { S with terms := S.terms ++ [s] }
def BS.addN (S : BS) (s : ByteArray) : BS := { S with nons := S.nons ++ [s] }
/-- A name's number, or 0 and the error; the builder behind it. -/
def numbered (full : Bool) (l : List ByteArray) (s : ByteArray) : Nat × Int :=
  if numOf l s = 0 then (if full then (0, 11) else (l.length + 1, 0)) else (numOf l s, 0)
def BS.full (S : BS) : Bool := decide (64 ≤ S.terms.length + S.nons.length)
def BS.term (S : BS) (s : ByteArray) : Int × Int × BS :=
  if isTextB s then (((numbered S.full S.terms s).1 : Int), (numbered S.full S.terms s).2, if numOf S.terms s = 0 ∧ S.full = false then S.addT s else S) else (0, 1, S)
def BS.non (S : BS) (s : ByteArray) : Int × Int × BS :=
  if isNameB s then (-((numbered S.full S.nons s).1 : Int), (numbered S.full S.nons s).2, if numOf S.nons s = 0 ∧ S.full = false then S.addN s else S) else (0, 1, S)

theorem BS.OK.addT {S : BS} (h : S.OK) {s : ByteArray} (hs : isTextB s = true) (hni : s ∉ S.terms) (hf : S.full = false) : (S.addT s).OK := by
  have hf' : S.terms.length + S.nons.length < 64 := by simpa [BS.full] using hf
  have hl : (S.addT s).terms.length = S.terms.length + 1 := by simp [BS.addT]
  refine ⟨by rw [hl]; show S.terms.length + 1 + S.nons.length ≤ 64; omega, fun x hx => ?_, h.nnames, ?_, h.nnd, h.sides, h.sdv, h.prods, h.lev, h.lev0, fun k hk => h.levT k (by omega), fun i hi => ?_, h.pl, fun p hp k hk => ?_, h.plen, h.pv, h.st⟩
  · rcases List.mem_append.1 hx with hx | hx
    · exact h.tnames x hx
    · simp at hx; subst hx; exact hs
  · exact List.nodup_append.2 ⟨h.tnd, by simp, fun a ha b hb => by simp at hb; subst hb; exact fun e => hni (e ▸ ha)⟩
  · obtain ⟨k, h1, h2, h3⟩ := h.has i hi
    exact ⟨k, h1, by omega, h3⟩
  · rcases h.pr p hp k hk with h' | h'
    · left; rw [hl]; omega
    · exact .inr h'
theorem BS.OK.addN {S : BS} (h : S.OK) {s : ByteArray} (hs : isNameB s = true) (hni : s ∉ S.nons) (hf : S.full = false) : (S.addN s).OK := by
  have hf' : S.terms.length + S.nons.length < 64 := by simpa [BS.full] using hf
  have hl : (S.addN s).nons.length = S.nons.length + 1 := by simp [BS.addN]
  refine ⟨by rw [hl]; show S.terms.length + (S.nons.length + 1) ≤ 64; omega, h.tnames, fun x hx => ?_, h.tnd, ?_, h.sides, h.sdv, h.prods, h.lev, h.lev0, h.levT, h.has, fun p hp => ?_, fun p hp k hk => ?_, h.plen, h.pv, ?_⟩
  · rcases List.mem_append.1 hx with hx | hx
    · exact h.nnames x hx
    · simp at hx; subst hx; exact hs
  · exact List.nodup_append.2 ⟨h.nnd, by simp, fun a ha b hb => by simp at hb; subst hb; exact fun e => hni (e ▸ ha)⟩
  · have := h.pl p hp; rw [hl]; omega
  · rcases h.pr p hp k hk with h' | h'
    · exact .inl h'
    · right; rw [hl]; omega
  · have hst : (S.addN s).start = S.start := rfl
    rw [hl, hst]
    rcases h.st with h' | h'
    · exact .inl h'
    · right; omega

theorem isTextB_size {s : ByteArray} (h : isTextB s = true) : s.size ≤ 16 := by simp [isTextB, lenOK] at h; omega
end Go.Proofs.YtckgjolaoifgkaaGreat

/-
  New; a builder that nobody made; what a nil one answers; whether a handle is one.
-/
namespace Go.Proofs.YtckgjolaoifgkaaGreat
open Go.RowKit Go.Maps

def BS.zero : BS := { terms := [], nons := [], lev := fun _ => 0, sides := [], prods := [], start := 0 }
/-- The cells of an empty builder. -/
def zeroC (i : Nat) : Value := if i = 0 ∨ i = 2 then .map none else if i = 1 ∨ i = 3 ∨ i = 69 ∨ i = 70 then .slice none 0 0 else .int .i64 0

def BS.isN (S : BS) (h : Int) : Bool := decide (h < 0) && decide (-(S.nons.length : Int) ≤ h)
def BS.isT (S : BS) (h : Int) : Bool := decide (0 < h) && decide (h ≤ S.terms.length)

/-! ### Start, Sizes; nil -/
/-- A grammar's five cells. -/
def gramC (t n l p : Value) (st : Int) : Array Value := #[t, n, l, .int .i64 st, p]
theorem infoG : (Tryz.prog.info? 27).map (·.size) = some 5 := by kernel_rfl

end Go.Proofs.YtckgjolaoifgkaaGreat

/-
  nonsHold; what a number is in a grammar: a level, a terminal's symbol, a nonterminal's.
-/
namespace Go.Proofs.YtckgjolaoifgkaaGreat
open Go.RowKit Go.Maps

/-- A slice of texts, wherever it lies. -/
def StrsAt (w : World) (a : Option Addr) (l : List ByteArray) : Prop := l = [] ∨ ∃ b off, a = some ⟨b, off, none⟩ ∧ ∀ i, i < l.length → w.cell? ⟨b, off + i, none⟩ = some (.string (l.getD i ⟨#[]⟩))

theorem StrsAt.kept {w w' : World} {a : Option Addr} {l : List ByteArray} (h : StrsAt w a l) (hg : w.grownBy w' none) : StrsAt w' a l := by
  rcases h with h | ⟨b, off, ha, hc⟩
  · exact .inl h
  · exact .inr ⟨b, off, ha, fun i hi => hg.cell (hc i hi) (by simp)⟩
theorem StrsIn.strsAt {w : World} {v : Value} {l : List ByteArray} {a : Option Addr} {n c : Nat} (h : StrsIn w v l) (hv : v = .slice a n c) : StrsAt w a l := by
  subst hv
  have h' := h
  rcases h.2 with ⟨hv, hn⟩ | ⟨g, cap, cur, hv, _, hg, hle, _⟩
  · exact .inl (List.eq_nil_of_length_eq_zero hn)
  · simp at hv
    obtain ⟨rfl, rfl, rfl⟩ := hv
    refine .inr ⟨g, 0, rfl, fun i hi => ?_⟩
    have := World.ownsRow.cells h' (g := g) rfl i (.string (l.getD i ⟨#[]⟩)) (by simp [List.getD, hi])
    rw [Addr.add_mid] at this
    exact this

/-- The map of the first k names. -/
structure SeenAt (w wr : World) (B : Nat) (l : List ByteArray) (k : Nat) (D : DataW Unit) : Prop where
  own : wr.ownsMap Tryz.prog 9 strR B k D
  has : ∀ s : ByteArray, Maps.has D (.string s.data.toList) = true ↔ s ∈ l.take k
  le : Maps.size D ≤ k
  nd : Maps.size D = k ↔ (l.take k).Nodup
  grown : w.grownBy wr none
  lo : w.heap.size ≤ B

theorem getD_mem {l : List ByteArray} {k : Nat} (h : k < l.length) : l.getD k ⟨#[]⟩ ∈ l := by
  have : l.getD k ⟨#[]⟩ = l[k] := by simp [List.getD, h]
  rw [this]; exact List.getElem_mem _

theorem SeenAt.push {w wr w1 : World} {B k : Nat} {l : List ByteArray} {D : DataW Unit} {d : DataW Unit} (h : SeenAt w wr B l k D) (hk : k < l.length) (ho : w1.ownsMap Tryz.prog 9 strR B (k + 1) (D.put (.string (l.getD k ⟨#[]⟩).data.toList) d)) (hg : wr.grownBy w1 (some B)) :
    SeenAt w w1 B l (k + 1) (D.put (.string (l.getD k ⟨#[]⟩).data.toList) d) := by
  have htk : l.take (k + 1) = l.take k ++ [l.getD k ⟨#[]⟩] := by rw [List.take_succ_eq_append_getElem hk]; simp [List.getD, hk]
  generalize l.getD k ⟨#[]⟩ = q at *
  have hT := h.own.tidy strKey
  have hsz := size_put (k := .string (q).data.toList) hT d
  refine ⟨ho, fun s => ?_, ?_, ?_, grown_new h.grown hg h.lo, h.lo⟩
  · rw [htk, List.mem_append]
    by_cases e : s = q
    · subst e
      simp [has_put_same h.own.isMap (k := .string s.data.toList) (by simp [WideAt.IsKeyLit]) d]
    · rw [has_put_other (fun hh => e (bytes_ext (by simpa using hh))), h.has s]
      simp only [List.mem_singleton, e, or_false]
  · rw [hsz]
    have := h.le
    split <;> omega
  · rw [hsz, htk, List.nodup_append]
    have h1 := h.le
    have h2 := h.nd
    have h3 := h.has (q)
    split
    · next hh =>
      constructor
      · intro; omega
      · rintro ⟨_, _, h4⟩
        exact absurd rfl (h4 _ (h3.1 hh) _ (by simp))
    · next hh =>
      constructor
      · intro he
        refine ⟨h2.1 (by omega), by simp, fun a ha b hb => ?_⟩
        simp at hb
        subst hb
        exact fun e => hh (h3.2 (e ▸ ha))
      · rintro ⟨h4, _, _⟩
        have := h2.2 h4
        omega

set_option maxRecDepth 100000 in
theorem noTwoAlike_any (a : Option Addr) (cap : Nat) (l : List ByteArray) (w : World) (hl : StrsAt w a l) (hn : l.length ≤ 65) (hs : ∀ s ∈ l, s.size ≤ 16) :
    Calls Tryz.prog 66 #[.slice a l.length cap] w fun e w' => ∃ r, e = .returned (.bool r) ∧ (r = true ↔ l.Nodup) ∧ w.grownBy w' none := by
  have hmm := @run_makeMap Tryz.prog
  have HL : Hid (StrsAt w a l) := hl
  have HS : Hid (∀ s ∈ l, s.size ≤ 16) := hs
  obtain ⟨n, hln⟩ : ∃ n, n = l.length := ⟨_, rfl⟩
  have HLN : Hid (l.length = n) := hln.symm
  rw [← hln] at hn ⊢
  clear hl hs hln
  have HS0 : Hid (SeenAt w (w.alloc (.map #[] 0)) w.heap.size l 0 (.map [])) := ⟨World.ownsMap_made _ _ _ _, fun s => by simp [Maps.has], Nat.le_refl _, by simp [Maps.size], World.grownBy_alloc w _ none, Nat.le_refl _⟩
  go_enter Tryz.func66, Tryz.ntmps66
  go_wp2_with fail
  clear hmm
  go_loopw [9] (fun i wr => ∃ k : Nat, k ≤ n ∧ i = .int .i64 k ∧ ∃ D, SeenAt w wr w.heap.size l k D) (fun i _ => n - (intOf i).toNat)
  case atStart => exact ⟨0, Nat.zero_le _, rfl, _, HS0.out⟩
  case round =>
    obtain ⟨k, hk, rfl, D, hD⟩ := hrel
    have HD : Hid (SeenAt w wr w.heap.size l k D) := hD
    clear hD HS0
    by_cases hlt : k < n
    · have hkl : k < l.length := by rw [HLN.out]; exact hlt
      obtain ⟨bl, off, rfl, hcells⟩ : ∃ b off, a = some ⟨b, off, none⟩ ∧ ∀ i, i < l.length → wr.cell? ⟨b, off + i, none⟩ = some (.string (l.getD i ⟨#[]⟩)) := by
        rcases (HL.out.kept HD.out.grown) with h | h
        · subst h; simp at hkl
        · exact h
      have hck := hcells k hkl
      have hsz := HS.out _ (getD_mem hkl)
      have HPU : Hid (∀ w1, w1.ownsMap Tryz.prog 9 strR w.heap.size (k + 1) (D.put (.string (l.getD k ⟨#[]⟩).data.toList) (.lit (.int .i64 (k : Int)))) → wr.grownBy w1 (some w.heap.size) → SeenAt w w1 w.heap.size l (k + 1) (D.put (.string (l.getD k ⟨#[]⟩).data.toList) (.lit (.int .i64 (k : Int))))) := fun w1 h1 h2 => HD.out.push hkl h1 h2
      generalize l.getD k ⟨#[]⟩ = s at *
      have hwf : (Lit.int .i64 (k : Int)).wf = true := WalkArith.wf_i64 (by omega)
      clear hcells
      go_wp2_with (at_mapUpdate; refine wpList_mapUpdate_own _ rfl _ _ _ 110 rfl 9 3 strKey Tryz.underlying110 _ w.heap.size k D rfl HD.out.own (by unfold maxLen; omega) _ _ _ rfl rfl (keyStr s (by unfold maxLen; omega)) _ [] (plainElem_int Tryz.underlying3 hwf) ?_; intro w1 hown1 hg1; have HN1 : Hid (SeenAt w w1 w.heap.size l (k + 1) _) := HPU.out w1 hown1 hg1; clear hown1 hg1)
      go_roundw
      case rel => exact ⟨k + 1, by omega, by go_num, _, HN1.out⟩
      case measure => simp [intOf]; omega
    · obtain rfl : k = n := by omega
      go_wp2_with (at_len; refine wpList_len_own _ rfl _ 110 rfl 9 3 Tryz.underlying110 _ w.heap.size k D rfl HD.out.own ?_)
      go_ret
      refine ⟨_, rfl, ?_, HD.out.grown⟩
      have h1 := HD.out.nd
      rw [List.take_of_length_le (Nat.le_of_eq HLN.out)] at h1
      refine Iff.trans ?_ h1
      simp
      omega

end Go.Proofs.YtckgjolaoifgkaaGreat

namespace Go.Proofs.YtckgjolaoifgkaaGreat
open Go.RowKit Go.Maps

set_option maxRecDepth 100000 in
theorem nonsHold_any (a : Option Addr) (cap : Nat) (l : List ByteArray) (w : World) (hl : StrsAt w a l) (hn : l.length ≤ 65) :
    Calls Tryz.prog 56 #[.slice a l.length cap] w fun e w' => ∃ r, e = .returned (.bool r) ∧ (r = true ↔ (∀ s ∈ l, isNameB s = true) ∧ l.Nodup) ∧ w.grownBy w' none := by
  have HNT : Hid ((∀ s ∈ l, isNameB s = true) → Calls Tryz.prog 66 #[.slice a l.length cap] w fun e w' => ∃ r, e = .returned (.bool r) ∧ (r = true ↔ l.Nodup) ∧ w.grownBy w' none) := fun h => noTwoAlike_any a cap l w hl hn (fun s hs => by have := h s hs; simp [isNameB, lenOK] at this; omega)
  have HL : Hid (StrsAt w a l) := hl
  obtain ⟨n, hln⟩ : ∃ n, n = l.length := ⟨_, rfl⟩
  have HLN : Hid (l.length = n) := hln.symm
  rw [← hln] at hn ⊢ HNT
  clear hl hln
  go_enter Tryz.func56, Tryz.ntmps56
  go_wp2_with fail
  go_loopw [7] (fun i wr => ∃ k : Nat, k ≤ n ∧ i = .int .i64 k ∧ wr = w ∧ ∀ s ∈ l.take k, isNameB s = true) (fun i _ => n - (intOf i).toNat)
  case atStart => exact ⟨0, Nat.zero_le _, rfl, rfl, fun s hs => by simp at hs⟩
  case round =>
    obtain ⟨k, hk, rfl, hw, hall⟩ := hrel
    subst hw
    have HA : Hid (∀ s ∈ l.take k, isNameB s = true) := hall
    clear hall
    by_cases hlt : k < n
    · have hkl : k < l.length := by rw [HLN.out]; exact hlt
      obtain ⟨bl, off, rfl, hcells⟩ : ∃ b off, a = some ⟨b, off, none⟩ ∧ ∀ i, i < l.length → wr.cell? ⟨b, off + i, none⟩ = some (.string (l.getD i ⟨#[]⟩)) := by
        rcases HL.out with h | h
        · subst h; simp at hkl
        · exact h
      have hck := hcells k hkl
      have hmem := getD_mem hkl
      have htk : l.take (k + 1) = l.take k ++ [l.getD k ⟨#[]⟩] := by rw [List.take_succ_eq_append_getElem hkl]; simp [List.getD, hkl]
      generalize l.getD k ⟨#[]⟩ = s at *
      have hN := isName_any s wr
      cases hb : isNameB s with
      | true =>
        rw [hb] at hN
        have HA' : Hid (∀ s ∈ l.take (k + 1), isNameB s = true) := fun x hx => by
          rw [htk] at hx
          rcases List.mem_append.1 hx with hx | hx
          · exact HA.out x hx
          · simp at hx; subst hx; exact hb
        clear hcells hmem htk HNT
        go_wp2_with (go_at_call 67; refine hN.mono ?_; rintro e w' ⟨rfl, rfl⟩)
        go_roundw
        case rel => exact ⟨k + 1, by omega, by go_num, trivial, HA'.out⟩
        case measure => simp [intOf]; omega
      | false =>
        rw [hb] at hN
        have HF : Hid (¬ ((∀ s ∈ l, isNameB s = true) ∧ l.Nodup)) := fun h => by
          have := h.1 s hmem
          rw [hb] at this
          cases this
        clear hcells hmem htk HNT
        go_wp2_with (go_at_call 67; refine hN.mono ?_; rintro e w' ⟨rfl, rfl⟩)
        go_ret
        exact ⟨false, rfl, by simp [HF.out], grown_refl _ _⟩
    · obtain rfl : k = n := by omega
      have ht : l.take k = l := List.take_of_length_le (Nat.le_of_eq HLN.out)
      rw [ht] at HA
      have hnt := HNT.out HA.out
      clear HNT
      go_wp2_with fail
      refine hnt.mono ?_
      rintro e w2 ⟨r, rfl, hr, hg⟩
      go_wp2_with fail
      go_ret
      exact ⟨r, rfl, hr.trans ⟨fun h => ⟨HA.out, h⟩, fun h => h.2⟩, hg⟩

end Go.Proofs.YtckgjolaoifgkaaGreat
