/-
  Level, walked.
-/
import Derived.Test.YtkbpnafahimeiaaRuleWalk
import Derived.BigQuiet
import Derived.Test.YtkbpnafahimeiaaLevelsWalk
import Derived.Deep.MidRow
import Derived.Deep.WholeRow
namespace Go.Proofs.Ytkbpnafahimeiaa
open Go.RowKit

attribute [local go_sem] Oper.semAt_some

theorem owns_form {W : World} {B e z n : Nat} {v : Value} {xs : List Value} (h : W.ownsRow B e z v n xs) : ∃ a c, v = .slice a n c := by
  rcases h.2 with ⟨rfl, h0⟩ | ⟨g, cap, cur, rfl, _⟩
  · exact ⟨none, 0, by rw [h0]⟩
  · exact ⟨_, _, rfl⟩
theorem results_sizes (tmps : Array Value) (w : World) (x y z u : Value) (h2 : tmps.getD 2 undef = x) (h3 : tmps.getD 3 undef = y) (h4 : tmps.getD 4 undef = z) (h5 : tmps.getD 5 undef = u) : (results Try.f19 tmps).run Try.prog w = .ok (.tuple #[x, y, z, u]) w := by
  have h2' : tmps[2]?.getD undef = x := by simpa using h2
  have h3' : tmps[3]?.getD undef = y := by simpa using h3
  have h4' : tmps[4]?.getD undef = z := by simpa using h4
  have h5' : tmps[5]?.getD undef = u := by simpa using h5
  simp [results, Try.results19, h2', h3', h4', h5']

set_option maxRecDepth 100000 in
theorem sizes_any (b : Nat) (S : BS) (w : World) (hB : BAt w b S) : Calls Try.prog 19 #[.pointer (some ⟨b, 0, none⟩)] w fun e w' => e = .returned (.tuple #[.int .i64 S.terms.length, .int .i64 S.nons.length, .int .i64 S.sides.length, .int .i64 S.prods.length]) ∧ ∃ k, w' = w.drewN k := by
  obtain ⟨hok, c, hr, hc⟩ := hB
  obtain ⟨a1, c1, e1⟩ := owns_form hc.tl
  obtain ⟨a3, c3, e3⟩ := owns_form hc.nl
  obtain ⟨a69, c69, e69⟩ := owns_form hc.sd
  obtain ⟨rs, _, hp, _⟩ := hc.pr
  obtain ⟨a70, c70, e70⟩ := owns_form hp
  have h1 := hr.cell 1 (by omega)
  have h3 := hr.cell 3 (by omega)
  have h69 := hr.cell 69 (by omega)
  have h70 := hr.cell 70 (by omega)
  rw [e1] at h1
  rw [e3] at h3
  rw [e69] at h69
  rw [e70] at h70
  have HA : Hid (∀ k, Calls Try.prog 44 #[.pointer (some ⟨b, 0, none⟩)] (w.drewN k) fun e w' => e = .returned (.int .i64 S.terms.length) ∧ w' = w.drewN k) := fun k => size_quiet (o := 0) k h1
  have HB : Hid (∀ k, Calls Try.prog 44 #[.pointer (some ⟨b, 2, none⟩)] (w.drewN k) fun e w' => e = .returned (.int .i64 S.nons.length) ∧ w' = w.drewN k) := fun k => size_quiet (o := 2) k h3
  clear hok hr hc hp e1 e3 e69 e70 h1 h3
  go_enter Try.func19, Try.ntmps19
  go_wp2_with fail
  go_quiet (first | (go_at_call 44; with_reducible exact Calls.quiet_of_same (HA.out _)) | (go_at_call 44; with_reducible exact Calls.quiet_of_same (HB.out _)))
  go_wp2
  refine bodyPost_ret (results_sizes _ _ _ _ _ _ rfl rfl rfl rfl) rfl ?_
  exact ⟨rfl, _, rfl⟩

end Go.Proofs.Ytkbpnafahimeiaa

namespace Go.Proofs.Ytkbpnafahimeiaa
open Go.RowKit

theorem nodup_short {α : Type} [DecidableEq α] : ∀ (l m : List α), l.Nodup → (∀ x ∈ l, x ∈ m) → l.length ≤ m.length
  | [], _, _, _ => Nat.zero_le _
  | a :: l, m, hn, hs => by
    rw [List.nodup_cons] at hn
    have ha := hs a (by simp)
    have h := nodup_short l (m.erase a) hn.2 (fun x hx => (List.mem_erase_of_ne (fun e => hn.1 (by rw [← e]; exact hx))).2 (hs x (by simp [hx])))
    rw [List.length_erase_of_mem ha] at h
    have : 0 < m.length := List.length_pos_of_mem ha
    simp only [List.length_cons]
    omega

def updL (f : Nat → Int) (i : Nat) (z : Int) : Nat → Int := fun j => if j = i then z else f j
/-- The terminals' levels, once a level is told of these; none: it is refused. -/
def levGo (S : BS) (L : Int) : (Nat → Int) → List Int → Option (Nat → Int)
  | lev, [] => some lev
  | lev, h :: r => if S.isT h = true ∧ lev h.toNat = 0 then levGo S L (updL lev h.toNat L) r else none
def BS.addL (S : BS) (lev : Nat → Int) (side : Int) : BS := { S with lev := lev, sides := S.sides ++ [side] }
def BS.level (S : BS) (side : Int) (terms : List Int) : Int × Int × BS :=
  if (1 ≤ side ∧ side ≤ 3) ∧ terms ≠ [] then
    match levGo S (S.sides.length + 1) S.lev terms with
    | some lev => (S.sides.length + 1, 0, S.addL lev side)
    | none => (0, 1, S)
  else (0, 1, S)

theorem isT_iff {S : BS} {h : Int} : S.isT h = true ↔ 0 < h ∧ h ≤ S.terms.length := by simp [BS.isT]
/-- What it leaves and what it turns. -/
theorem levGo_keeps {S : BS} {L : Int} (hL : L ≠ 0) : ∀ (terms : List Int) (lev lev' : Nat → Int), levGo S L lev terms = some lev' →
    (∀ i, lev i ≠ 0 → lev' i = lev i) ∧ (∀ i, lev' i = lev i ∨ (lev' i = L ∧ 1 ≤ i ∧ i ≤ S.terms.length)) ∧ (terms ≠ [] → ∃ i, 1 ≤ i ∧ i ≤ S.terms.length ∧ lev' i = L)
  | [], lev, lev', h => by
    cases h
    exact ⟨fun _ _ => rfl, fun _ => .inl rfl, fun h => absurd rfl h⟩
  | a :: r, lev, lev', h => by
    unfold levGo at h
    split at h
    · next hc =>
      obtain ⟨h1, h2⟩ := hc
      obtain ⟨t1, t2⟩ := isT_iff.1 h1
      obtain ⟨k1, k2, _⟩ := levGo_keeps hL r _ _ h
      have hat : lev' a.toNat = L := by
        rw [k1 a.toNat (by simp [updL, hL])]
        simp [updL]
      refine ⟨fun i hi => ?_, fun i => ?_, fun _ => ⟨a.toNat, by omega, by omega, hat⟩⟩
      · have hne : i ≠ a.toNat := fun e => hi (by rw [e]; exact h2)
        have hu : updL lev a.toNat L i = lev i := by simp [updL, hne]
        rw [k1 i (by rw [hu]; exact hi), hu]
      · by_cases e : i = a.toNat
        · right
          rw [e]
          exact ⟨hat, by omega, by omega⟩
        · have hu : updL lev a.toNat L i = lev i := by simp [updL, e]
          rcases k2 i with h3 | h3
          · left; rw [h3, hu]
          · exact .inr h3
    · cases h

theorem levels_le {S : BS} {lev : Nat → Int} {n : Nat} (has : ∀ i, i < n → ∃ h, 1 ≤ h ∧ h ≤ S.terms.length ∧ lev h = (i : Int) + 1) : n ≤ S.terms.length := by
  have hnd : ((List.range n).map fun i : Nat => (i : Int) + 1).Nodup := by
    rw [List.nodup_iff_pairwise_ne, List.pairwise_map]
    exact (List.nodup_range (n := n)).imp (fun h e => h (by omega))
  have h := nodup_short ((List.range n).map fun i : Nat => (i : Int) + 1) ((List.range S.terms.length).map fun j => lev (j + 1)) hnd (fun x hx => by
    obtain ⟨i, hi, rfl⟩ := List.mem_map.1 hx
    obtain ⟨h, h1, h2, h3⟩ := has i (List.mem_range.1 hi)
    exact List.mem_map.2 ⟨h - 1, List.mem_range.2 (by omega), by rw [show h - 1 + 1 = h by omega]; exact h3⟩)
  simpa using h

theorem BS.OK.addL {S : BS} (h : S.OK) {side : Int} {terms : List Int} {lev : Nat → Int} (hs : 1 ≤ side ∧ side ≤ 3) (ht : terms ≠ []) (hl : levGo S (S.sides.length + 1) S.lev terms = some lev) : (S.addL lev side).OK := by
  obtain ⟨k1, k2, k3⟩ := levGo_keeps (by omega) terms S.lev lev hl
  have hlen : (S.sides ++ [side]).length = S.sides.length + 1 := by simp
  have hhas : ∀ i, i < (S.sides ++ [side]).length → ∃ h, 1 ≤ h ∧ h ≤ S.terms.length ∧ lev h = (i : Int) + 1 := fun i hi => by
    rw [hlen] at hi
    by_cases e : i = S.sides.length
    · obtain ⟨j, j1, j2, j3⟩ := k3 ht
      exact ⟨j, j1, j2, by rw [j3, e]⟩
    · obtain ⟨j, j1, j2, j3⟩ := h.has i (by omega)
      exact ⟨j, j1, j2, by rw [k1 j (by rw [j3]; omega), j3]⟩
  have hle := levels_le hhas
  have hsy := h.syms
  refine { syms := h.syms, tnames := h.tnames, nnames := h.nnames, tnd := h.tnd, nnd := h.nnd, sides := by show (S.sides ++ [side]).length ≤ 64; omega, sdv := ?_, prods := h.prods, lev := ?_, lev0 := ?_, levT := ?_, has := hhas, pl := h.pl, pr := h.pr, plen := h.plen, pv := ?_, st := h.st }
  · intro x hx
    rcases List.mem_append.1 (show x ∈ S.sides ++ [side] from hx) with hx | hx
    · exact h.sdv x hx
    · rw [List.mem_singleton.1 hx]; exact hs
  · intro i
    show 0 ≤ lev i ∧ lev i ≤ ((S.sides ++ [side]).length : Int)
    have hi := h.lev i
    rw [hlen]
    rcases k2 i with e | ⟨e, _, _⟩
    · rw [e]; omega
    · rw [e]; omega
  · show lev 0 = 0
    rcases k2 0 with e | ⟨_, e, _⟩
    · rw [e]; exact h.lev0
    · omega
  · intro j hj
    show lev j = 0
    rcases k2 j with e | ⟨_, _, e⟩
    · rw [e]; exact h.levT j hj
    · have hj' : S.terms.length < j := hj
      omega
  · intro p hp
    have := h.pv p hp
    show 0 ≤ p.level ∧ p.level ≤ ((S.sides ++ [side]).length : Int)
    rw [hlen]
    omega
theorem BS.OK.level {S : BS} (h : S.OK) (side : Int) (terms : List Int) : (S.level side terms).2.2.OK := by
  unfold BS.level
  split
  · next hc =>
    split
    · next lev hl => exact h.addL hc.1 hc.2 hl
    · exact h
  · exact h

end Go.Proofs.Ytkbpnafahimeiaa

namespace Go.Proofs.Ytkbpnafahimeiaa
open Go.RowKit

attribute [local go_sem] Oper.semAt_some

theorem info65 : (Try.prog.info? 67).map (·.size) = some 65 := by kernel_rfl
/-- A row of the terminals' levels. -/
def IsLev (A : Array Value) (f : Nat → Int) : Prop := A.size = 65 ∧ ∀ i, i < 65 → A[i]? = some (.int .i64 (f i))
def levRow (f : Nat → Int) : List Value := (List.range 65).map fun i => .int .i64 (f i)
theorem levRow_is (f : Nat → Int) : IsLev (levRow f).toArray f := by
  refine ⟨by simp [levRow], fun i hi => ?_⟩
  simp [levRow, hi]
theorem lev_range {w : World} {b : Nat} {S : BS} {c : Nat → Value} (hr : BRow w b c) (hc : BCells w S c) : w.rangeAt b 4 (levRow S.lev) := by
  intro j v hv
  have hj : j < 65 := by have := (List.getElem?_eq_some_iff.1 hv).1; simpa [levRow] using this
  have e : v = .int .i64 (S.lev j) := by simp [levRow, hj] at hv; exact hv.symm
  rw [hr.cell (4 + j) (by omega), hc.lv j hj, e]

theorem wpList_store_new {P : Program} {ops : Array Oper} {rest : List Oper} {op : Oper} {a : Act} {w : World} {Q : Exit → Act → World → Prop} (hgd : op.guard = none) (ty : TypeId) (x y : Operand) (ho : op.op = .store ty x y)
    (c c' : Array Value) (hx : a.eval x = .pointer (some ⟨w.heap.size, 0, none⟩)) (hy : a.eval y = .agg c') (hi : (P.info? ty).map (·.size) = some c'.size) (hs : c.size = c'.size) (h1 : c'.all (·.oneCell') = true)
    (h : wpList P ops Q rest (a.put op.dst undef) (w.alloc (.cells c' ty))) : wpList P ops Q (op :: rest) a (w.alloc (.cells c ty)) :=
  wpList_plain hgd fun K hK => by
    have hst := run_storeAt_new (P := P) w ty c c' hi hs h1
    unfold Oper.wp execOp
    simp only [ho, hx, hy, Sem.run_bind, Sem.run_pure, hst, Result.andThen_ok]
    exact hK _ _ h
theorem levGo_app {S : BS} {L : Int} : ∀ (xs ys : List Int) (lev lev' : Nat → Int), levGo S L lev xs = some lev' → levGo S L lev (xs ++ ys) = levGo S L lev' ys
  | [], ys, lev, lev', h => by cases h; rfl
  | x :: xs, ys, lev, lev', h => by
    unfold levGo at h
    rw [List.cons_append]
    conv => lhs; unfold levGo
    split at h
    · next hc => rw [if_pos hc]; exact levGo_app xs ys _ _ h
    · cases h
theorem take_drop_at {l : List Int} {k : Nat} (h : k < l.length) : l = l.take k ++ l.getD k 0 :: l.drop (k + 1) := by
  have : l.getD k 0 = l[k] := by simp [List.getD, h]
  rw [this, ← List.drop_eq_getElem_cons h, List.take_append_drop]
theorem take_succ_at {l : List Int} {k : Nat} (h : k < l.length) : l.take (k + 1) = l.take k ++ [l.getD k 0] := by
  have : l.getD k 0 = l[k] := by simp [List.getD, h]
  rw [this, List.take_succ_eq_append_getElem h]
theorem IsLev.set {A : Array Value} {f : Nat → Int} (h : IsLev A f) (m : Nat) (L : Int) : IsLev (A.setIfInBounds m (.int .i64 L)) (updL f m L) := by
  refine ⟨by simp [h.1], fun i hi => ?_⟩
  by_cases e : i = m
  · subst e
    simp [updL, h.1, hi]
  · rw [Array.getElem?_setIfInBounds_ne (fun x => e x.symm), h.2 i hi]
    simp [updL, e]
theorem BAt.kept0 {w w' : World} {b : Nat} {S : BS} (h : BAt w b S) (hg : w.grownBy w' none) : BAt w' b S := by
  obtain ⟨hok, c, hr, hc⟩ := h
  exact ⟨hok, c, hr.kept hg (by simp), hc.kept hg (Apart.none _)⟩
def putL (c : Nat → Value) (o : Nat) (vs : List Value) : Nat → Value := fun i => if o ≤ i ∧ i < o + vs.length then vs.getD (i - o) undef else c i
theorem putL_out {c : Nat → Value} {o : Nat} {vs : List Value} {i : Nat} (h : i < o ∨ o + vs.length ≤ i) : putL c o vs i = c i := by unfold putL; rw [if_neg (by omega)]
theorem putL_in {c : Nat → Value} {o : Nat} {vs : List Value} {i : Nat} (h : i < vs.length) : putL c o vs (o + i) = vs.getD i undef := by unfold putL; rw [if_pos (by omega), Nat.add_sub_cancel_left]
theorem putL_cons (c : Nat → Value) (o : Nat) (v : Value) (vs : List Value) : putL c o (v :: vs) = putL (putC c o v) (o + 1) vs := by
  funext i
  by_cases h1 : i = o
  · subst h1
    rw [putL_out (c := putC c i v) (o := i + 1) (by omega), putC_same]
    unfold putL
    rw [if_pos (by simp)]
    simp
  · unfold putL
    simp only [List.length_cons]
    by_cases h2 : o + 1 ≤ i ∧ i < o + 1 + vs.length
    · rw [if_pos (by omega), if_pos h2, show i - o = (i - (o + 1)) + 1 by omega]
      rfl
    · rw [if_neg (by omega), if_neg h2, putC_other _ _ h1]
theorem brow_setCells {b : Nat} : ∀ (vs : List Value) (o : Nat) (w : World) (c : Nat → Value), BRow w b c → o + vs.length ≤ 72 → BRow (w.setCells b o vs) b (putL c o vs)
  | [], o, w, c, h, _ => by
    have e : putL c o [] = c := by funext i; exact putL_out (by simp; omega)
    rw [e]
    exact h
  | v :: vs, o, w, c, h, hl => by
    rw [putL_cons]
    simp only [List.length_cons] at hl
    exact brow_setCells vs (o + 1) _ _ (h.set o v (by omega)) (by omega)
theorem grown_setCells {b : Nat} : ∀ (vs : List Value) (o : Nat) (w : World), w.grownBy (w.setCells b o vs) (some b)
  | [], _, _ => grown_refl _ _
  | v :: vs, o, _ => grown_trans (grown_setCell b o v) (grown_setCells vs (o + 1) _)
theorem clip_int (a : Option Addr) (n cap : Nat) (w : World) (hle : n ≤ cap) (hn : a = none → n = 0 ∧ cap = 0) :
    Calls Try.prog 87 #[.slice a n cap] w fun e w' => e = .returned (.slice a n n) ∧ w' = w := by
  cases a with
  | none =>
    obtain ⟨rfl, rfl⟩ := hn rfl
    clear hn hle
    go_enter Try.func87, Try.ntmps87
    go_wp2
    go_ret
    exact ⟨rfl, rfl⟩
  | some x =>
    clear hn
    go_enter Try.func87, Try.ntmps87
    go_wp2
    go_ret
    exact ⟨rfl, rfl⟩
theorem zero65 : (Try.prog.info? 67).map (fun i => (i.zero, i.size)) = some (some (.agg (Array.replicate 65 (.int .i64 0))), 65) := by kernel_rfl

set_option maxRecDepth 100000 in
set_option maxHeartbeats 1000000 in
theorem level_good (b : Nat) (S : BS) (side : Int) (a : Option Addr) (cap : Nat) (terms : List Int) (w : World) (hB : BAt w b S) (hs : 1 ≤ side ∧ side ≤ 3) (ht : terms ≠ []) (hl : IntsAt w a terms) (hlen : terms.length ≤ 17592186044416) (Q : Int × Int × BS) (hQ : Q = S.level side terms) :
    Calls Try.prog 57 #[.pointer (some ⟨b, 0, none⟩), .int .i64 side, .slice a terms.length cap] w fun e w' => e = .returned (.tuple #[.int .i64 Q.1, .int .i64 Q.2.1]) ∧ BAt w' b Q.2.2 ∧ w.grownBy w' (some b) := by
  obtain ⟨hok, c, hr, hc⟩ := hB
  have hrg := lev_range hr hc
  have HA0 : Hid (IsLev (levRow S.lev).toArray S.lev) := levRow_is S.lev
  have hlv : (levRow S.lev).length = 65 := by simp [levRow]
  have hone : (levRow S.lev).toArray.all (·.oneCell') = true := all_oneCell_toArray (fun v hv => by obtain ⟨i, _, rfl⟩ := List.mem_map.1 hv; rfl)
  have HR : Hid (BRow w b c) := hr
  have HC : Hid (BCells w S c) := hc
  have HOK : Hid S.OK := hok
  have HL : Hid (IntsAt w a terms) := hl
  have HQ : Hid (Q = S.level side terms) := hQ
  obtain ⟨a69, c69, e69, hle69, hnil69, _⟩ := hc.sd.form
  have h69 := hr.cell 69 (by omega)
  rw [e69] at h69
  have E69 : Hid (c 69 = .slice a69 S.sides.length c69) := e69
  have hIS : ∀ W, Calls Try.prog 86 #[.int .i64 side] W fun e w' => e = .returned (.bool true) ∧ w' = W := fun W => by
    have h := isSide_any side W
    rw [decide_eq_true hs.1, decide_eq_true hs.2] at h
    exact h
  generalize levRow S.lev = lv at *
  have hn0 : ((terms.length : Int) == 0) = false := by have := List.length_pos_iff.2 ht; simp; omega
  have hsl : S.sides.length ≤ 64 := hok.sides
  have hw : IntKind.i64.wrap ((S.sides.length : Int) + 1) = (S.sides.length : Int) + 1 := by rw [IntKind.wrap_i64]; omega
  have HRG : Hid (w.rangeAt b 4 lv) := hrg
  have hz := zero_of_info zero65
  clear hr hc hok hl hQ hrg e69
  go_enter Try.func57, Try.ntmps57
  go_upto_region 5 with (first | (go_at_call 86; refine (hIS _).mono ?_; rintro e w' ⟨rfl, hw⟩; subst hw) | (refine wpList_load_mid rfl 67 _ rfl b 4 rfl lv _ HRG.out Try.underlying67 rfl (by rw [info65, hlv]) ?_) | (refine wpList_store_new rfl 67 _ _ rfl _ lv.toArray rfl rfl (by rw [info65]; simp [hlv]) (by simp [hlv]) hone ?_))
  have HBA : Hid (BAt w' b S) := ⟨HOK.out, c, HR.out, HC.out⟩
  obtain ⟨n, hn⟩ : ∃ n, n = terms.length := ⟨_, rfl⟩
  have HN : Hid (n = terms.length) := hn
  rw [← hn] at hlen hn0 ⊢
  obtain ⟨L, hLL⟩ : ∃ L : Int, L = (S.sides.length : Int) + 1 := ⟨_, rfl⟩
  have HLL : Hid (L = (S.sides.length : Int) + 1) := hLL
  have HTL : Hid (S.terms.length ≤ 64) := by have := HOK.out.syms; show S.terms.length ≤ 64; omega
  rw [← hLL]
  clear hn hLL hw hz hIS hone
  go_wp2_with fail
  go_loopw [36] (fun v36 wr => ∃ (k : Nat) (lev : Nat → Int) (A : Array Value), k ≤ n ∧ v36 = .int .i64 k ∧ w'.grownBy wr none ∧ wr.heap[w'.heap.size]? = some (.cells A 67 (0, 0)) ∧ IsLev A lev ∧ levGo S L S.lev (terms.take k) = some lev) (fun v36 _ => n - (intOf v36).toNat)
  case atStart => exact ⟨0, S.lev, lv.toArray, Nat.zero_le _, rfl, World.grownBy_alloc _ _ none, heap_alloc_new w' _, HA0.out, rfl⟩
  case round =>
    obtain ⟨k, lev, A, hk, rfl, hg, hbox, hA, hgo⟩ := hrel
    have HG : Hid (w'.grownBy wr none) := hg
    have HBOX : Hid (wr.heap[w'.heap.size]? = some (.cells A 67 (0, 0))) := hbox
    have HA : Hid (IsLev A lev) := hA
    have HGO : Hid (levGo S L S.lev (terms.take k) = some lev) := hgo
    clear hg hbox hA hgo HA0 HRG hlv
    by_cases hlt : k < n
    · have hlt' : k < terms.length := by rw [← HN.out]; exact hlt
      rcases HL.out with h0 | ⟨lb, lo, rfl, hcs⟩
      · exact absurd h0 ht
      · have hck := HG.out.cell (hcs k hlt') (by simp)
        have HT := isT_at b S (terms.getD k 0) wr (HBA.out.kept0 HG.out)
        have HAPP : Hid (levGo S L S.lev terms = levGo S L lev (terms.getD k 0 :: terms.drop (k + 1))) := by
          show _ = _
          conv => lhs; rw [take_drop_at hlt']
          exact levGo_app _ _ _ _ HGO.out
        have HNXT : Hid (levGo S L S.lev (terms.take (k + 1)) = levGo S L lev [terms.getD k 0]) := by
          show _ = _
          rw [take_succ_at hlt']
          exact levGo_app _ _ _ _ HGO.out
        generalize terms.getD k 0 = h at *
        clear hcs
        cases hT : S.isT h with
        | false =>
          rw [hT] at HT
          have HTT : Hid (Calls Try.prog 52 #[.pointer (some ⟨b, 0, none⟩), .int .i64 h] wr fun e w' => e = .returned (.bool false) ∧ w' = wr) := HT
          have hq : Q = (0, 1, S) := by
            rw [HQ.out]
            unfold BS.level
            rw [if_pos ⟨hs, ht⟩, ← HLL.out, HAPP.out]
            unfold levGo
            rw [if_neg (by rw [hT]; simp)]
          subst hq
          clear hT HT hs ht
          go_wp2_with (go_at_call 52; refine HTT.out.mono ?_; rintro e wv ⟨rfl, hw⟩; subst hw)
          go_ret2
          exact ⟨rfl, HBA.out.kept HG.out, grown_but _ HG.out⟩
        | true =>
          rw [hT] at HT
          have HTT : Hid (Calls Try.prog 52 #[.pointer (some ⟨b, 0, none⟩), .int .i64 h] wr fun e w' => e = .returned (.bool true) ∧ w' = wr) := HT
          obtain ⟨t1, t2⟩ := isT_iff.1 hT
          have ht64 := HTL.out
          obtain ⟨m, rfl⟩ : ∃ m : Nat, h = (m : Int) := ⟨h.toNat, by omega⟩
          have hm : m < 65 := by omega
          have hcm : wr.cell? ⟨w'.heap.size, m, none⟩ = some (.int .i64 (lev m)) := by rw [cell_of_row _ _ _ _ _ _ HBOX.out]; exact HA.out.2 m hm
          have hfm := frozen_of_row wr w'.heap.size m _ _ HBOX.out
          by_cases hz : lev m = 0
          · have HST : Hid (levGo S L lev [(m : Int)] = some (updL lev m L)) := by
              show _ = _
              unfold levGo
              rw [if_pos ⟨hT, by simpa using hz⟩]
              rfl
            rw [hz] at hcm
            clear hT HT t1 t2 ht64 hz HQ
            go_wp2_with (go_at_call 52; refine HTT.out.mono ?_; rintro e wv ⟨rfl, hw⟩; subst hw)
            go_roundw
            case rel => exact ⟨k + 1, updL lev m L, A.setIfInBounds m (.int .i64 L), by omega, by go_num, grown_new HG.out (grown_setCell _ _ _) (Nat.le_refl _), heap_setCell_same _ _ _ _ _ _ HBOX.out, HA.out.set m L, by rw [HNXT.out]; exact HST.out⟩
            case measure => simp [intOf]; omega
          · have hne : (lev m != 0) = true := by simpa using hz
            have hq : Q = (0, 1, S) := by
              rw [HQ.out]
              unfold BS.level
              rw [if_pos ⟨hs, ht⟩, ← HLL.out, HAPP.out]
              unfold levGo
              rw [if_neg (by rintro ⟨_, h2⟩; exact hz (by simpa using h2))]
            subst hq
            clear hT HT t1 t2 ht64 hz hs ht
            generalize lev m = z at *
            go_wp2_with (go_at_call 52; refine HTT.out.mono ?_; rintro e wv ⟨rfl, hw⟩; subst hw)
            go_ret2
            exact ⟨rfl, HBA.out.kept HG.out, grown_but _ HG.out⟩
    · have hkn : k = n := by omega
      have hgoAll : levGo S L S.lev terms = some lev := by
        have h := HGO.out
        rwa [List.take_of_length_le (by rw [← HN.out]; omega)] at h
      have hq : Q = (L, 0, S.addL lev side) := by
        rw [HQ.out]
        unfold BS.level
        rw [if_pos ⟨hs, ht⟩, ← HLL.out, hgoAll]
      have HADD : Hid (S.addL lev side).OK := HOK.out.addL hs ht (by rw [← HLL.out]; exact hgoAll)
      have HRr : Hid (BRow wr b c) := HR.out.kept HG.out (by simp)
      obtain ⟨al, hal⟩ : ∃ al, al = A.toList := ⟨_, rfl⟩
      have hals : al.length = 65 := by rw [hal]; simpa using HA.out.1
      have HAL : Hid (∀ i, i < 65 → al.getD i undef = .int .i64 (lev i)) := fun i hi => by
        have := HA.out.2 i hi
        rw [hal, List.getD]
        simp [this]
      have HRGA : Hid (wr.rangeAt w'.heap.size 0 al) := fun j v hv => by
        rw [Nat.zero_add, cell_of_row _ _ _ _ _ _ HBOX.out]
        rw [hal] at hv
        simpa using hv
      have HTH : Hid (wr.there b 4 al.toArray.size) := fun j hj => by
        have hj' : j < 65 := by simpa [hals] using hj
        exact ⟨by rw [HRr.out.cell (4 + j) (by omega)]; rfl, HRr.out.free _⟩
      have hone : al.toArray.all (·.oneCell') = true := all_oneCell_toArray (fun v hv => by
        obtain ⟨i, hi, e⟩ := List.getElem_of_mem hv
        have h2 := HAL.out i (by omega)
        rw [List.getD, List.getElem?_eq_getElem hi, Option.getD_some] at h2
        rw [← e, h2]
        rfl)
      subst hq
      clear hal HBOX HA HGO hgoAll hs ht HQ hlt
      go_upto_region 13 with (first | (refine wpList_load_mid rfl 67 _ rfl w'.heap.size 0 rfl al _ HRGA.out Try.underlying67 rfl (by rw [info65, hals]) ?_) | (refine wpList_store_mid rfl 67 _ _ rfl b 4 al.toArray rfl rfl HTH.out (by rw [info65]; simp [hals]) hone ?_))
      obtain ⟨V, hV⟩ : ∃ V, wr.setCells b 4 al = V := ⟨_, rfl⟩
      have HRV : Hid (BRow V b (putL c 4 al)) := by rw [← hV]; exact brow_setCells al 4 wr c HRr.out (by omega)
      have HGV : Hid (w'.grownBy V (some b)) := by rw [← hV]; exact grown_trans (grown_but _ HG.out) (grown_setCells al 4 wr)
      have h69 := HRV.out.cell 69 (by omega)
      rw [putL_out (by omega), E69.out] at h69
      obtain ⟨i0, hi, hz0, hz1, hz2⟩ := info_parts infoInt
      have HSDV : Hid (IntsIn V (.slice a69 S.sides.length c69) S.sides) := by have := HC.out.sd.kept HGV.out HR.out.apart; rwa [E69.out] at this
      have HCS : Hid (∀ g, a69 = some g → ∀ j u, (S.sides.map (Value.int .i64))[j]? = some u → V.cell? (g.add j) = some u) := by
        obtain ⟨a', c', e', _, _, h5⟩ := HSDV.out.form
        cases e'
        exact h5
      rw [hV]
      clear hV HRr HRGA HTH hone
      go_wp2_with fail
      refine (clip_int a69 _ c69 _ hle69 hnil69).mono ?_
      rintro e wq ⟨rfl, hw⟩
      subst hw
      go_wp2_with (at_builtin; refine wpList_append_new _ rfl _ _ 30 rfl 3 i0 (.int .i64 0) 1 8 Try.underlying30 hi hz0 hz1 hz2 rfl (by decide) a69 S.sides.length S.sides.length (S.sides.map (Value.int .i64)) rfl ?hnil (by simp) ?hcs ⟨wq.heap.size, 0, none⟩ 1 1 [Value.int .i64 side] rfl rfl ?hnews (by simp [Value.oneCell']) (by omega) (by unfold maxLen; omega) (by omega) ?_)
      case hnil => exact fun h => ⟨(hnil69 h).1, (hnil69 h).1⟩
      case hcs => exact fun g hg j u hu => (World.grownBy_alloc _ _ none).cell (HCS.out g hg j u hu) (by simp)
      case hnews => exact fun j u hu => World.news_of_block (heap_alloc_last wq _) j u hu
      intro g c2 w2 hown2 hg2
      have hG2 : wq.grownBy w2 none := grown_trans (World.grownBy_alloc _ _ none) hg2
      have hR2 : BRow w2 b (putL c 4 al) := HRV.out.kept hG2 (by simp)
      have hcell := hR2.cell 69 (by omega)
      have hfz := hR2.free 69
      have hst := grown_setCell (w := w2) b 69 (.slice (some ⟨g, 0, none⟩) (S.sides.length + 1) c2)
      have hR3 := hR2.set 69 (.slice (some ⟨g, 0, none⟩) (S.sides.length + 1) c2) (by omega)
      have hall : w'.grownBy (w2.setCell ⟨b, 69, none⟩ (.slice (some ⟨g, 0, none⟩) (S.sides.length + 1) c2)) (some b) := grown_trans HGV.out (grown_trans (grown_but _ hG2) hst)
      have hk := HC.out.kept hall HR.out.apart
      have hI2 : IntsIn w2 (.slice (some ⟨g, 0, none⟩) (S.sides.length + 1) c2) (S.sides ++ [side]) := by
        have := owns_base hown2
        unfold IntsIn
        simpa using this
      have HFIN : Hid (BAt (w2.setCell ⟨b, 69, none⟩ (.slice (some ⟨g, 0, none⟩) (S.sides.length + 1) c2)) b (S.addL lev side) ∧ w'.grownBy (w2.setCell ⟨b, 69, none⟩ (.slice (some ⟨g, 0, none⟩) (S.sides.length + 1) c2)) (some b)) := by
        refine ⟨⟨HADD.out, _, hR3, ?_⟩, hall⟩
        exact ⟨by rw [putC_other _ _ (by omega), putL_out (by omega)]; exact hk.tm, by rw [putC_other _ _ (by omega), putL_out (by omega)]; exact hk.tl, by rw [putC_other _ _ (by omega), putL_out (by omega)]; exact hk.nm, by rw [putC_other _ _ (by omega), putL_out (by omega)]; exact hk.nl,
          fun i hi => by rw [putC_other _ _ (by omega), putL_in (by omega)]; exact HAL.out i hi, by rw [putC_same]; exact hI2.kept hst hR2.apart, by rw [putC_other _ _ (by omega), putL_out (by omega)]; exact hk.pr, by rw [putC_other _ _ (by omega), putL_out (by omega)]; exact hk.st, foot_of HC.out.ft HC.out.pr hall HR.out.apart rfl rfl (by rw [putC_other _ _ (by omega), putL_out (by omega)]) (fun i hi => by
            by_cases e : i = 69
            · right; rw [e, putC_same]; intro q hq; cases hq; have h1 := (hown2.lt g rfl).1; have h2 := HGV.out.size; show _ ≤ g; omega
            · left; rw [putC_other _ _ (by omega), putL_out (by omega)])⟩
      clear hk hR3 hst hR2 hG2 hown2 hg2 hall hI2
      go_wp2_with fail
      go_ret2
      exact ⟨rfl, HFIN.out.1, HFIN.out.2⟩

set_option maxRecDepth 100000 in
theorem level_side (b : Nat) (side : Int) (a : Option Addr) (cap n : Nat) (w : World) (hs : ¬ (1 ≤ side ∧ side ≤ 3)) :
    Calls Try.prog 57 #[.pointer (some ⟨b, 0, none⟩), .int .i64 side, .slice a n cap] w fun e w' => e = .returned (.tuple #[.int .i64 0, .int .i64 1]) ∧ w' = w := by
  have hIS : ∀ W, Calls Try.prog 86 #[.int .i64 side] W fun e w' => e = .returned (.bool false) ∧ w' = W := fun W => by
    have h := isSide_any side W
    have e : (decide (1 ≤ side) && decide (side ≤ 3)) = false := by
      rw [Bool.and_eq_false_iff]
      by_cases h1 : 1 ≤ side
      · exact .inr (decide_eq_false (fun h2 => hs ⟨h1, h2⟩))
      · exact .inl (decide_eq_false h1)
    rw [e] at h
    exact h
  clear hs
  go_enter Try.func57, Try.ntmps57
  go_wp2_with (go_at_call 86; refine (hIS _).mono ?_; rintro e w' ⟨rfl, hw⟩; subst hw)
  go_ret2
  exact ⟨rfl, rfl⟩
set_option maxRecDepth 100000 in
theorem level_none (b : Nat) (side : Int) (a : Option Addr) (cap : Nat) (w : World) (hs : 1 ≤ side ∧ side ≤ 3) :
    Calls Try.prog 57 #[.pointer (some ⟨b, 0, none⟩), .int .i64 side, .slice a 0 cap] w fun e w' => e = .returned (.tuple #[.int .i64 0, .int .i64 1]) ∧ w' = w := by
  have hIS : ∀ W, Calls Try.prog 86 #[.int .i64 side] W fun e w' => e = .returned (.bool true) ∧ w' = W := fun W => by
    have h := isSide_any side W
    rw [decide_eq_true hs.1, decide_eq_true hs.2] at h
    exact h
  clear hs
  go_enter Try.func57, Try.ntmps57
  go_wp2_with (go_at_call 86; refine (hIS _).mono ?_; rintro e w' ⟨rfl, hw⟩; subst hw)
  go_ret2
  exact ⟨rfl, rfl⟩

/-- Level of any builder. -/
theorem level_any (b : Nat) (S : BS) (side : Int) (a : Option Addr) (cap : Nat) (terms : List Int) (w : World) (hB : BAt w b S) (hl : IntsAt w a terms) (hlen : terms.length ≤ 17592186044416) :
    Calls Try.prog 57 #[.pointer (some ⟨b, 0, none⟩), .int .i64 side, .slice a terms.length cap] w fun e w' => e = .returned (.tuple #[.int .i64 (S.level side terms).1, .int .i64 (S.level side terms).2.1]) ∧ BAt w' b (S.level side terms).2.2 ∧ w.grownBy w' (some b) := by
  by_cases hs : 1 ≤ side ∧ side ≤ 3
  · by_cases ht : terms = []
    · subst ht
      have e : S.level side [] = (0, 1, S) := by unfold BS.level; rw [if_neg (by simp)]
      rw [e]
      refine (level_none b side a cap w hs).mono ?_
      rintro e w' ⟨he, rfl⟩
      exact ⟨he, hB, grown_refl _ _⟩
    · exact level_good b S side a cap terms w hB hs ht hl hlen _ rfl
  · have e : S.level side terms = (0, 1, S) := by unfold BS.level; rw [if_neg (fun h => hs h.1)]
    rw [e]
    refine (level_side b side a cap terms.length w hs).mono ?_
    rintro e w' ⟨he, rfl⟩
    exact ⟨he, hB, grown_refl _ _⟩

end Go.Proofs.Ytkbpnafahimeiaa
