/-
  Rule of a builder, walked.
-/
import Derived.Test.YtkbpnafahimeiaaNew
import Derived.Laws.AppendOwnNone
import Derived.Deep.AppendLies
namespace Go.Proofs.Ytkbpnafahimeiaa
open Go.RowKit Go.Maps

theorem infoInt : (Try.prog.info? 3).map (fun i => (i.zero, i.size, i.bytes)) = some (some (.int .i64 0), 1, 8) := by kernel_rfl
theorem infoProd : (Try.prog.info? 52).map (fun i => (i.zero, i.size, i.bytes)) = some (some (.agg #[.int .i64 0, .slice none 0 0, .int .i64 0]), 3, 40) := by kernel_rfl

/-- A slice of numbers, wherever it lies. -/
def IntsAt (w : World) (a : Option Addr) (l : List Int) : Prop := l = [] ∨ ∃ b off, a = some ⟨b, off, none⟩ ∧ ∀ i, i < l.length → w.cell? ⟨b, off + i, none⟩ = some (.int .i64 (l.getD i 0))

theorem IntsAt.kept {w w' : World} {a : Option Addr} {l : List Int} (h : IntsAt w a l) (hg : w.grownBy w' none) : IntsAt w' a l := by
  rcases h with h | ⟨b, off, ha, hc⟩
  · exact .inl h
  · exact .inr ⟨b, off, ha, fun i hi => hg.cell (hc i hi) (by simp)⟩
theorem IntsIn.at {w : World} {v : Value} {l : List Int} (h : IntsIn w v l) : ∃ a cap, v = .slice a l.length cap ∧ IntsAt w a l ∧ l.length ≤ cap ∧ (a = none → l.length = 0 ∧ cap = 0) := by
  have h' := h
  rcases h.2 with ⟨rfl, hn⟩ | ⟨g, cap, cur, rfl, _, hg, hle, _⟩
  · have : l = [] := List.eq_nil_of_length_eq_zero hn
    subst this
    exact ⟨none, 0, rfl, .inl rfl, Nat.le_refl _, fun _ => ⟨rfl, rfl⟩⟩
  · refine ⟨_, cap, rfl, .inr ⟨g, 0, rfl, fun i hi => ?_⟩, hle, fun h => by cases h⟩
    have := World.ownsRow.cells h' (g := g) rfl i (.int .i64 (l.getD i 0)) (by simp [List.getD, hi])
    rw [Addr.add_mid] at this
    exact this

theorem ints_oneCell' (l : List Int) : ∀ u ∈ l.map (Value.int .i64), u.oneCell' = true := by
  intro u hu
  obtain ⟨x, _, rfl⟩ := List.mem_map.1 hu
  rfl

theorem owns_slice {w : World} {base e size n : Nat} {v : Value} {xs : List Value} (h : w.ownsRow base e size v n xs) : ∃ a cap, v = .slice a n cap := by
  rcases h.2 with ⟨rfl, rfl⟩ | ⟨g, cap, _, rfl, _⟩
  · exact ⟨_, _, rfl⟩
  · exact ⟨_, _, rfl⟩

/-- copied: the same numbers in new memory. -/
theorem copiedInt_new (a : Option Addr) (cap : Nat) (l : List Int) (w : World) (hl : IntsAt w a l) (hnil : a = none → cap = 0) (hlen : l.length ≤ 17592186044416) :
    Calls Try.prog 34 #[.slice a l.length cap] w fun e w' => ∃ a' c', e = .returned (.slice a' l.length c') ∧ w'.ownsRow w.heap.size 3 1 (.slice a' l.length c') l.length (l.map (Value.int .i64)) ∧ w.grownBy w' none := by
  obtain ⟨i0, hi, hz0, hz1, hz2⟩ := info_parts infoInt
  cases a with
  | none =>
    have hl0 : l = [] := by
      rcases hl with h | ⟨b, off, h, _⟩
      · exact h
      · cases h
    subst hl0
    have hc0 := hnil rfl
    subst hc0
    clear hl hnil hlen
    go_enter Try.func34, Try.ntmps34
    go_wp2_with (at_builtin; refine wpList_append_own_none rfl _ _ 30 rfl w.heap.size 3 i0 1 Try.underlying30 hi (.slice none 0 0) 0 [] rfl (World.ownsRow_nil _ _ _ _) rfl ?_)
    go_ret
    exact ⟨none, 0, rfl, World.ownsRow_nil _ _ _ _, grown_refl _ _⟩
  | some x =>
    have HN : Hid (∀ j u, (l.map (Value.int .i64))[j]? = some u → w.cell? (x.add j) = some u) := by
      intro j u hu
      rcases hl with h | ⟨b, off, h, hc⟩
      · subst h; simp at hu
      · cases h
        have hj : j < l.length := by have := (List.getElem?_eq_some_iff.1 hu).1; simpa using this
        have := hc j hj
        rw [Addr.add_mid, this]
        rw [List.getElem?_map, List.getElem?_eq_getElem hj] at hu
        simp only [Option.map_some, Option.some.injEq] at hu
        rw [← hu]
        simp [List.getD, hj]
    clear hl hnil
    go_enter Try.func34, Try.ntmps34
    go_wp2_with (at_builtin; refine wpList_append_own _ rfl _ _ 30 rfl w.heap.size 3 i0 (.int .i64 0) 1 8 Try.underlying30 hi hz0 hz1 hz2 rfl (by decide) (.slice none 0 0) 0 [] rfl (World.ownsRow_nil _ _ _ _) x l.length cap (l.map (Value.int .i64)) rfl (by simp) HN.out (ints_oneCell' l) (by unfold maxLen; omega) (by omega) (Nat.le_refl _) ?_; intro v' w1 hown hg _)
    go_ret
    have hown' : w1.ownsRow w.heap.size 3 1 v' l.length (l.map (Value.int .i64)) := by simpa using hown
    obtain ⟨a', c', hv⟩ := owns_slice hown'
    have hg' : w.grownBy w1 none := hg
    rw [hv] at hown'
    exact ⟨a', c', by rw [← hv]; rfl, hown', hg'⟩

theorem copiedInt_any (a : Option Addr) (cap : Nat) (l : List Int) (w : World) (hl : IntsAt w a l) (hnil : a = none → cap = 0) (hlen : l.length ≤ 17592186044416) :
    Calls Try.prog 34 #[.slice a l.length cap] w fun e w' => ∃ a' c', e = .returned (.slice a' l.length c') ∧ IntsIn w' (.slice a' l.length c') l ∧ w.grownBy w' none :=
  (copiedInt_new a cap l w hl hnil hlen).mono fun _ _ ⟨a', c', he, ho, hg⟩ => ⟨a', c', he, owns_base ho, hg⟩

theorem clip_prod (a : Option Addr) (n cap : Nat) (w : World) (hle : n ≤ cap) (hn : a = none → n = 0 ∧ cap = 0) :
    Calls Try.prog 53 #[.slice a n cap] w fun e w' => e = .returned (.slice a n n) ∧ w' = w := by
  cases a with
  | none =>
    obtain ⟨rfl, rfl⟩ := hn rfl
    clear hn hle
    go_enter Try.func53, Try.ntmps53
    go_wp2
    go_ret
    exact ⟨rfl, rfl⟩
  | some x =>
    clear hn
    go_enter Try.func53, Try.ntmps53
    go_wp2
    go_ret
    exact ⟨rfl, rfl⟩

/-- A production's level: its last terminal's. -/
def BS.levOf (S : BS) (l : List Int) : Int := l.foldl (fun z h => if S.isT h then S.lev h.toNat else z) 0
def BS.good (S : BS) (l : List Int) : Bool := l.all (fun h => S.isT h || S.isN h)
def BS.addP (S : BS) (p : PR) : BS := { S with prods := S.prods ++ [p] }
def BS.rule (S : BS) (left : Int) (right : List Int) : Int × Int × BS :=
  if S.isN left = true ∧ S.good right = true then (if 96 ≤ S.prods.length then (0, 11, S) else (S.prods.length, 0, S.addP ⟨left, right, S.levOf right⟩)) else (0, 1, S)

theorem ProdsIn.snoc {w w' : World} {v' : Value} {ps : List PR} {p : PR} {r : Value} {rs : List Value} (h1 : rs.length = ps.length) (h3 : ∀ i, i < ps.length → IntsIn w (rs.getD i undef) (ps.getD i ⟨0, [], 0⟩).right)
    (hg : w.grownBy w' none) (hown : w'.ownsRow 0 52 3 v' (ps.length + 1) (((ps.zip rs).flatMap fun x => prL x.1 x.2) ++ prL p r)) (hr : IntsIn w' r p.right) : ProdsIn w' v' (ps ++ [p]) := by
  refine ⟨rs ++ [r], by simp [h1], ?_, fun i hi => ?_⟩
  · have e : (ps ++ [p]).zip (rs ++ [r]) = ps.zip rs ++ [(p, r)] := by rw [List.zip_append h1.symm]; rfl
    rw [e, List.flatMap_append]
    simpa using hown
  · by_cases h : i < ps.length
    · have e1 : (rs ++ [r]).getD i undef = rs.getD i undef := by simp [List.getD, List.getElem?_append_left (show i < rs.length by omega)]
      have e2 : (ps ++ [p]).getD i ⟨0, [], 0⟩ = ps.getD i ⟨0, [], 0⟩ := by simp [List.getD, List.getElem?_append_left h]
      rw [e1, e2]
      exact (h3 i h).kept hg (Apart.none _)
    · have hi' : i = ps.length := by simp at hi; omega
      subst hi'
      have e1 : (rs ++ [r]).getD ps.length undef = r := by rw [← h1]; simp [List.getD]
      have e2 : (ps ++ [p]).getD ps.length ⟨0, [], 0⟩ = p := by simp [List.getD]
      rw [e1, e2]
      exact hr

theorem flat_length {ps : List PR} {rs : List Value} (h : rs.length = ps.length) : ((ps.zip rs).flatMap fun x => prL x.1 x.2).length = ps.length * 3 := by
  induction ps generalizing rs with
  | nil => simp
  | cons p ps ih =>
    cases rs with
    | nil => simp at h
    | cons r rs =>
      simp at h
      simp only [List.zip_cons_cons, List.flatMap_cons, List.length_append, ih h, List.length_cons]
      simp [prL]
      omega

end Go.Proofs.Ytkbpnafahimeiaa

namespace Go.Proofs.Ytkbpnafahimeiaa
open Go.RowKit Go.Maps

theorem rule_bad (b : Nat) (S : BS) (left : Int) (v : Value) (w : World) (hB : BAt w b S) (hn : S.isN left = false) :
    Calls Try.prog 23 #[.pointer (some ⟨b, 0, none⟩), .int .i64 left, v] w fun e w' => e = .returned (.tuple #[.int .i64 0, .int .i64 1]) ∧ w' = w := by
  have hN := isN_at b S left w hB
  rw [hn] at hN
  clear hB
  go_enter Try.func23, Try.ntmps23
  go_wp2_with (go_at_call 51; refine hN.mono ?_; rintro e w' ⟨rfl, rfl⟩)
  go_ret2
  exact ⟨rfl, rfl⟩

theorem levOf_snoc (S : BS) (l : List Int) (k : Nat) (hk : k < l.length) : S.levOf (l.take (k + 1)) = if S.isT (l.getD k 0) then S.lev (l.getD k 0).toNat else S.levOf (l.take k) := by
  unfold BS.levOf
  rw [List.take_succ_eq_append_getElem hk, List.foldl_append]
  simp [List.getD, hk]
theorem good_bad {S : BS} {l : List Int} {k : Nat} (hk : k < l.length) (h1 : S.isT (l.getD k 0) = false) (h2 : S.isN (l.getD k 0) = false) : S.good l = false := by
  unfold BS.good
  rw [Bool.eq_false_iff]
  intro h
  have := List.all_eq_true.1 h _ (List.getElem_mem hk)
  have e : l.getD k 0 = l[k] := by simp [List.getD, hk]
  rw [e] at h1 h2
  simp [h1, h2] at this

theorem prL_oneCell (p : PR) {a : Option Addr} {n c : Nat} : ∀ u ∈ prL p (.slice a n c), u.oneCell' = true := by
  intro u hu
  simp [prL] at hu
  rcases hu with rfl | rfl | rfl <;> rfl

theorem levOf_ok {S : BS} (h : S.OK) (l : List Int) : 0 ≤ S.levOf l ∧ S.levOf l ≤ S.sides.length := by
  unfold BS.levOf
  have : ∀ (l : List Int) (z : Int), (0 ≤ z ∧ z ≤ S.sides.length) → (0 ≤ l.foldl (fun z h => if S.isT h then S.lev h.toNat else z) z ∧ l.foldl (fun z h => if S.isT h then S.lev h.toNat else z) z ≤ S.sides.length) := by
    intro l
    induction l with
    | nil => intro z hz; exact hz
    | cons x l ih =>
      intro z hz
      rw [List.foldl_cons]
      refine ih _ ?_
      split
      · exact h.lev _
      · exact hz
  exact this l 0 ⟨Int.le_refl _, by omega⟩

theorem BS.OK.addP {S : BS} (h : S.OK) {left : Int} {right : List Int} (hp : S.prods.length < 96) (hn : S.isN left = true) (hg : S.good right = true) (hlen : right.length ≤ 17592186044416) : (S.addP ⟨left, right, S.levOf right⟩).OK := by
  have hn' : left < 0 ∧ -(S.nons.length : Int) ≤ left := by simpa [BS.isN] using hn
  have mem : ∀ p ∈ (S.addP ⟨left, right, S.levOf right⟩).prods, p ∈ S.prods ∨ p = ⟨left, right, S.levOf right⟩ := fun p hp => by
    rcases List.mem_append.1 hp with hp | hp
    · exact .inl hp
    · simp at hp; exact .inr hp
  refine ⟨h.syms, h.tnames, h.nnames, h.tnd, h.nnd, h.sides, h.sdv, by simp [BS.addP]; omega, h.lev, h.lev0, h.levT, h.has, fun p hp => ?_, fun p hp k hk => ?_, fun p hp => ?_, fun p hp => ?_, h.st⟩
  · rcases mem p hp with hp | rfl
    · exact h.pl p hp
    · exact ⟨hn'.2, hn'.1⟩
  · rcases mem p hp with hp | rfl
    · exact h.pr p hp k hk
    · have := List.all_eq_true.1 hg k hk
      simp only [BS.isT, BS.isN, Bool.or_eq_true, Bool.and_eq_true, decide_eq_true_eq] at this
      exact this
  · rcases mem p hp with hp | rfl
    · exact h.plen p hp
    · exact hlen
  · rcases mem p hp with hp | rfl
    · exact h.pv p hp
    · exact levOf_ok h right

set_option maxRecDepth 100000 in
set_option maxHeartbeats 1000000 in
theorem rule_good (b : Nat) (S : BS) (left : Int) (a : Option Addr) (cap : Nat) (right : List Int) (w : World) (hB : BAt w b S) (hn : S.isN left = true) (hl : IntsAt w a right) (hnil : a = none → cap = 0) (hlen : right.length ≤ 17592186044416) :
    Calls Try.prog 23 #[.pointer (some ⟨b, 0, none⟩), .int .i64 left, .slice a right.length cap] w fun e w' =>
      e = .returned (.tuple #[.int .i64 (S.rule left right).1, .int .i64 (S.rule left right).2.1]) ∧ BAt w' b (S.rule left right).2.2 ∧ w.grownBy w' (some b) := by
  have hN := isN_at b S left w hB
  rw [hn] at hN
  have HB : Hid (BAt w b S) := hB
  have HL : Hid (IntsAt w a right) := hl
  have HCP : Hid (Calls Try.prog 34 #[.slice a right.length cap] w fun e w' => ∃ a' c', e = .returned (.slice a' right.length c') ∧ (IntsIn w' (.slice a' right.length c') right ∧ ∀ g, (Value.slice a' right.length c').ownBlock = some g → w.heap.size ≤ g) ∧ w.grownBy w' none) := (copiedInt_new a cap right w hl hnil hlen).mono fun e w' ⟨a', c', he, ho, hg⟩ => ⟨a', c', he, ⟨owns_base ho, fun g h => (ho.lt g h).1⟩, hg⟩
  have HN : Hid (S.isN left = true) := hn
  have HRU : Hid (S.good right = true → S.rule left right = (if 96 ≤ S.prods.length then ((0 : Int), (11 : Int), S) else ((S.prods.length : Int), (0 : Int), S.addP ⟨left, right, S.levOf right⟩))) := fun h => by simp [BS.rule, hn, h]
  have HRB : Hid (S.good right = false → S.rule left right = (0, 1, S)) := fun h => by simp [BS.rule, h]
  generalize S.rule left right = R at *
  clear hB hl hn
  go_enter Try.func23, Try.ntmps23
  go_wp2_with (go_at_call 51; refine hN.mono ?_; rintro e w' ⟨rfl, rfl⟩)
  go_loopw [23, 8] (fun i v8 wr => ∃ k : Nat, k ≤ right.length ∧ i = .int .i64 k ∧ v8 = .int .i64 (S.levOf (right.take k)) ∧ wr = w' ∧ S.good (right.take k) = true) (fun i _ _ => right.length - (intOf i).toNat)
  case atStart => exact ⟨0, Nat.zero_le _, rfl, rfl, rfl, rfl⟩
  case round =>
    obtain ⟨k, hk, rfl, rfl, rfl, hgood⟩ := hrel
    have HGD : Hid (S.good (right.take k) = true) := hgood
    clear hgood
    by_cases hlt : k < right.length
    · obtain ⟨bl, off, rfl, hcells⟩ : ∃ b off, a = some ⟨b, off, none⟩ ∧ ∀ i, i < right.length → wr.cell? ⟨b, off + i, none⟩ = some (.int .i64 (right.getD i 0)) := by
        rcases HL.out with h | h
        · subst h; simp at hlt
        · exact h
      have hck := hcells k hlt
      clear hcells
      have hstep := levOf_snoc S right k hlt
      have hgs : (S.isT (right.getD k 0) || S.isN (right.getD k 0)) = true → S.good (right.take (k + 1)) = true := fun h => by
        have e : right.getD k 0 = right[k] := by simp [List.getD, hlt]
        rw [e] at h
        unfold BS.good
        rw [List.take_succ_eq_append_getElem hlt, List.all_append]
        have := HGD.out
        unfold BS.good at this
        rw [this]
        simpa using h
      have hgb := @good_bad S right k hlt
      generalize right.getD k 0 = h at *
      have hT := isT_at b S h wr HB.out
      have hNN := isN_at b S h wr HB.out
      cases hit : S.isT h with
      | true =>
        rw [hit] at hT
        rw [hit, if_pos rfl] at hstep
        have hgs' := hgs (by rw [hit]; rfl)
        have hb0 : 0 < h ∧ h ≤ S.terms.length := by simpa [BS.isT] using hit
        obtain ⟨j, rfl⟩ := Int.eq_ofNat_of_zero_le (show 0 ≤ h by omega)
        have hj : j ≤ 64 := by have := HB.out.1.syms; omega
        have hcl : wr.cell? ⟨b, 4 + j, none⟩ = some (.int .i64 (S.lev j)) := by
          obtain ⟨_, c, hr, hc⟩ := HB.out
          rw [hr.cell (4 + j) (by omega), hc.lv j (by omega)]
        have hstep' : S.levOf (right.take (k + 1)) = S.lev j := hstep
        have HST : Hid (S.levOf (right.take (k + 1)) = S.lev j) := hstep'
        have HGS : Hid (S.good (right.take (k + 1)) = true) := hgs'
        clear hstep hstep' hgs hgs' hgb hit hNN hb0 HCP HRU HRB
        go_wp2_with (go_at_call 52; refine hT.mono ?_; rintro e w' ⟨rfl, rfl⟩)
        go_roundw
        case rel => exact ⟨k + 1, by omega, by go_num, by rw [HST.out], trivial, HGS.out⟩
        case measure => simp [intOf]; omega
      | false =>
        rw [hit] at hT
        cases hin : S.isN h with
        | true =>
          rw [hin] at hNN
          have HST : Hid (S.levOf (right.take (k + 1)) = S.levOf (right.take k)) := by rw [hit] at hstep; exact (show S.levOf (right.take (k + 1)) = S.levOf (right.take k) by simpa using hstep)
          have HGS : Hid (S.good (right.take (k + 1)) = true) := hgs (by rw [hin]; simp)
          clear hstep hgs hgb hit hin HCP HRU HRB
          go_wp2_with (first | (go_at_call 52; refine hT.mono ?_; rintro e w' ⟨rfl, rfl⟩) | (go_at_call 51; refine hNN.mono ?_; rintro e w' ⟨rfl, rfl⟩))
          go_roundw
          case rel => exact ⟨k + 1, by omega, by go_num, by rw [HST.out], trivial, HGS.out⟩
          case measure => simp [intOf]; omega
        | false =>
          rw [hin] at hNN
          have hR := HRB.out (hgb hit hin)
          clear hstep hgs hgb hit hin HCP HRU HRB
          go_wp2_with (first | (go_at_call 52; refine hT.mono ?_; rintro e w' ⟨rfl, rfl⟩) | (go_at_call 51; refine hNN.mono ?_; rintro e w' ⟨rfl, rfl⟩))
          go_ret2
          rw [hR]
          exact ⟨rfl, HB.out, grown_refl _ _⟩
    · obtain rfl : k = right.length := by omega
      have hgd := HGD.out
      rw [List.take_length] at hgd
      have hR := HRU.out hgd
      have HGOOD : Hid (S.good right = true) := hgd
      rw [List.take_length]
      clear hgd HGD HRU HRB
      obtain ⟨hok, c, hr, hc⟩ := HB.out
      obtain ⟨rs, h1, h2, h3⟩ := hc.pr
      obtain ⟨ap, cp, hvp, hlep, hnilp, hcp⟩ : ∃ a cap, c 70 = .slice a S.prods.length cap ∧ S.prods.length ≤ cap ∧ (a = none → S.prods.length = 0 ∧ cap = 0) ∧ (∀ g, a = some g → ∀ j u, ((S.prods.zip rs).flatMap fun x => prL x.1 x.2)[j]? = some u → wr.cell? (g.add j) = some u) := by
        have h2' := h2
        rcases h2.2 with ⟨hv, hn⟩ | ⟨g, cap, cur, hv, _, hg, hle, _⟩
        · rw [hv, hn]
          exact ⟨none, 0, rfl, Nat.le_refl _, fun _ => ⟨rfl, rfl⟩, fun g hg => by cases hg⟩
        · rw [hv] at h2' ⊢
          exact ⟨_, cap, rfl, hle, (fun h => by cases h), (fun g' hg' => by cases hg'; exact World.ownsRow.cells h2' rfl)⟩
      have hc70 := hr.cell 70 (by omega)
      rw [hvp] at hc70
      have hpb := hok.prods
      by_cases hfull : 96 ≤ S.prods.length
      · rw [if_pos hfull] at hR
        have hd : decide (96 ≤ (S.prods.length : Int)) = true := decide_eq_true (by omega)
        clear hr hc h2 h3 hcp HCP
        go_wp2_with fail
        go_ret2
        rw [hR]
        exact ⟨rfl, HB.out, grown_refl _ _⟩
      · rw [if_neg hfull] at hR
        have hd : decide (96 ≤ (S.prods.length : Int)) = false := decide_eq_false (by omega)
        obtain ⟨i0, hi, hz0, hz1, hz2⟩ := info_parts infoProd
        have HR : Hid (BRow wr b c) := hr
        have HC : Hid (BCells wr S c) := hc
        have H3 : Hid (∀ i, i < S.prods.length → IntsIn wr (rs.getD i undef) (S.prods.getD i ⟨0, [], 0⟩).right) := h3
        have H1 : Hid (rs.length = S.prods.length) := h1
        have HCS : Hid (∀ g, ap = some g → ∀ j u, ((S.prods.zip rs).flatMap fun x => prL x.1 x.2)[j]? = some u → wr.cell? (g.add j) = some u) := hcp
        have HOK : Hid S.OK := hok
        have HOP : Hid (wr.ownsRow 0 52 3 (c 70) S.prods.length ((S.prods.zip rs).flatMap fun x => prL x.1 x.2)) := by show wr.ownsRow _ _ _ _ _ _; first | exact h2 | (rw [hvp]; exact h2)
        clear hr hc h2 h3 hcp h1 hok HL hvp
        go_wp2_with fail
        refine (clip_prod ap _ cp _ hlep hnilp).mono ?_
        rintro e wq ⟨rfl, hw⟩
        subst hw
        go_wp2_with fail
        refine HCP.out.mono ?_
        clear HCP
        rintro e w1 ⟨a', c', rfl, ⟨hI1, hnew1⟩, hg1⟩
        have HNEW1 : Hid (∀ g, (Value.slice a' right.length c').ownBlock = some g → wq.heap.size ≤ g) := hnew1
        clear hnew1
        have HI1 : Hid (IntsIn w1 (.slice a' right.length c') right) := hI1
        have HG1 : Hid (wq.grownBy w1 none) := hg1
        have HCS1 : Hid (∀ g, ap = some g → ∀ j u, ((S.prods.zip rs).flatMap fun x => prL x.1 x.2)[j]? = some u → w1.cell? (g.add j) = some u) := fun g hg j u hu => hg1.cell (HCS.out g hg j u hu) (by simp)
        have HFL := flat_length H1.out
        clear hI1 hg1 HCS hc70
        go_wp2_with (at_builtin; refine wpList_append_new _ rfl _ _ 40 rfl 52 i0 (.agg #[.int .i64 0, .slice none 0 0, .int .i64 0]) 3 40 Try.underlying40 hi hz0 hz1 hz2 rfl (by decide) ap S.prods.length S.prods.length ((S.prods.zip rs).flatMap fun x => prL x.1 x.2) rfl ?hnil HFL ?hcs ⟨w1.heap.size, 0, none⟩ 1 1 (prL ⟨left, right, S.levOf right⟩ (.slice a' right.length c')) rfl rfl ?hnews (prL_oneCell _) (by omega) (by unfold maxLen; omega) (by omega) ?_)
        case hnil => exact fun h => ⟨(hnilp h).1, (hnilp h).1⟩
        case hcs => exact fun g hg j u hu => (World.grownBy_alloc _ _ none).cell (HCS1.out g hg j u hu) (by simp)
        case hnews => exact fun j u hu => World.news_of_block (heap_alloc_last w1 _) j u hu
        intro g c2 w2 hown2 hg2
        have hG2 : w1.grownBy w2 none := grown_trans (World.grownBy_alloc _ _ none) hg2
        have hGq : wq.grownBy w2 none := grown_trans HG1.out hG2
        have hR2 : BRow w2 b c := HR.out.kept hGq (by simp)
        have hcell := hR2.cell 70 (by omega)
        have hfz := hR2.free 70
        have hP2 : ProdsIn w2 (.slice (some ⟨g, 0, none⟩) (S.prods.length + 1) c2) (S.prods ++ [⟨left, right, S.levOf right⟩]) :=
          ProdsIn.snoc H1.out H3.out hGq (owns_base hown2) (HI1.out.kept hG2 (Apart.none _))
        have hst := grown_setCell (w := w2) b 70 (.slice (some ⟨g, 0, none⟩) (S.prods.length + 1) c2)
        have hR3 := hR2.set 70 (.slice (some ⟨g, 0, none⟩) (S.prods.length + 1) c2) (by omega)
        have hc3 := hR3.cell 70 (by omega)
        rw [putC_same] at hc3
        have hk := HC.out.kept (grown_trans (grown_but (some b) hGq) hst) HR.out.apart
        have HFIN : Hid (BAt (w2.setCell ⟨b, 70, none⟩ (.slice (some ⟨g, 0, none⟩) (S.prods.length + 1) c2)) b (S.addP ⟨left, right, S.levOf right⟩) ∧ wq.grownBy (w2.setCell ⟨b, 70, none⟩ (.slice (some ⟨g, 0, none⟩) (S.prods.length + 1) c2)) (some b)) := by
          refine ⟨⟨HOK.out.addP (by omega) HN.out HGOOD.out hlen, _, hR3, ?_⟩, grown_trans (grown_but (some b) hGq) hst⟩
          exact ⟨by rw [putC_other _ _ (by omega)]; exact hk.tm, by rw [putC_other _ _ (by omega)]; exact hk.tl, by rw [putC_other _ _ (by omega)]; exact hk.nm, by rw [putC_other _ _ (by omega)]; exact hk.nl,
            fun i hi => by rw [putC_other _ _ (by omega)]; exact hk.lv i hi, by rw [putC_other _ _ (by omega)]; exact hk.sd, by rw [putC_same]; exact hP2.kept hst hR2.apart, by rw [putC_other _ _ (by omega)]; exact hk.st, foot_prods (B := 0) (e := 52) (n := S.prods.length + 1) HC.out.ft (grown_trans (grown_but (some b) hGq) hst) rfl (fun i hi => putC_other _ _ (by omega)) (fun q hq => by rw [putC_same] at hq; cases hq; have h1 := (hown2.lt g rfl).1; have h2 := HG1.out.size; show _ ≤ g; omega) (by rw [putC_same]; exact (owns_base hown2).kept hst (owns_apart (owns_base hown2) (by decide) hR2.apart)) (by simp [BS.addP]) (fun u hu q hq => by
              rcases List.mem_append.1 hu with h | h
              · exact foot_rights HC.out.ft HOP.out u h q hq
              · simp only [prL, List.mem_cons, List.not_mem_nil, or_false] at h
                rcases h with rfl | rfl | rfl
                · cases hq
                · exact HC.out.ft.1 q (HNEW1.out q hq)
                · cases hq)⟩
        clear hk hR3 hst hP2 hR2 hGq hG2 hown2 hg2 HI1 HG1 HCS1 HR HC H3 H1 HOK HFL
        go_wp2_with fail
        go_ret2
        rw [hR]
        exact ⟨by first | rfl | simp, HFIN.out.1, HFIN.out.2⟩

theorem rule_any (b : Nat) (S : BS) (left : Int) (a : Option Addr) (cap : Nat) (right : List Int) (w : World) (hB : BAt w b S) (hl : IntsAt w a right) (hnil : a = none → cap = 0) (hlen : right.length ≤ 17592186044416) :
    Calls Try.prog 23 #[.pointer (some ⟨b, 0, none⟩), .int .i64 left, .slice a right.length cap] w fun e w' =>
      e = .returned (.tuple #[.int .i64 (S.rule left right).1, .int .i64 (S.rule left right).2.1]) ∧ BAt w' b (S.rule left right).2.2 ∧ w.grownBy w' (some b) := by
  cases hn : S.isN left with
  | true => exact rule_good b S left a cap right w hB hn hl hnil hlen
  | false =>
    have e : S.rule left right = (0, 1, S) := by simp [BS.rule, hn]
    rw [e]
    refine (rule_bad b S left _ w hB hn).mono ?_
    rintro e w' ⟨rfl, rfl⟩
    exact ⟨rfl, hB, grown_refl _ _⟩

end Go.Proofs.Ytkbpnafahimeiaa
