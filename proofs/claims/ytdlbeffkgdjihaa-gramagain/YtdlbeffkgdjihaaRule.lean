/-
  Rule of a builder.
-/
import Derived.Test.YtdlbeffkgdjihaaNew
import Derived.Laws.AppendOwnNone
namespace Go.Proofs.Ytdlbeffkgdjihaa
open Go.RowKit Go.Maps

theorem infoInt : (Try.prog.info? 3).map (fun i => (i.zero, i.size, i.bytes)) = some (some (.int .i64 0), 1, 8) := by kernel_rfl
theorem infoProd : (Try.prog.info? 52).map (fun i => (i.zero, i.size, i.bytes)) = some (some (.agg #[.int .i64 0, .slice none 0 0, .int .i64 0]), 3, 40) := by kernel_rfl

/-- A slice of numbers, wherever it lies. -/
def IntsAt (w : World) (a : Option Addr) (l : List Int) : Prop := l = [] ∨ ∃ b off, a = some ⟨b, off, none⟩ ∧ ∀ i, i < l.length → w.cell? ⟨b, off + i, none⟩ = some (.int .i64 (l.getD i 0))

theorem IntsAt.kept {w w' : World} {a : Option Addr} {l : List Int} (h : IntsAt w a l) (hg : w.grownBy w' none) : IntsAt w' a l := by
  rcases h with h | ⟨b, off, ha, hc⟩
  · exact .inl h
  · exact .inr ⟨b, off, ha, fun i hi => hg.cell (hc i hi) (by simp)⟩
theorem IntsIn.at {w : World} {v : Value} {l : List Int} (h : IntsIn w v l) : ∃ a cap, v = .slice a l.length cap ∧ IntsAt w a l ∧ l.length ≤ cap ∧ (a = none → l.length = 0 ∧ cap = 0) := by
  have h' := h
  rcases h.2 with ⟨rfl, hn⟩ | ⟨g, cap, cur, rfl, _, hg, hle, _⟩
  · have : l = [] := List.eq_nil_of_length_eq_zero hn
    subst this
    exact ⟨none, 0, rfl, .inl rfl, Nat.le_refl _, fun _ => ⟨rfl, rfl⟩⟩
  · refine ⟨_, cap, rfl, .inr ⟨g, 0, rfl, fun i hi => ?_⟩, hle, fun h => by cases h⟩
    have := World.ownsRow.cells h' (g := g) rfl i (.int .i64 (l.getD i 0)) (by simp [List.getD, hi])
    rw [Addr.add_mid] at this
    exact this

theorem ints_oneCell' (l : List Int) : ∀ u ∈ l.map (Value.int .i64), u.oneCell' = true := by
  intro u hu
  obtain ⟨x, _, rfl⟩ := List.mem_map.1 hu
  rfl

theorem owns_slice {w : World} {base e size n : Nat} {v : Value} {xs : List Value} (h : w.ownsRow base e size v n xs) : ∃ a cap, v = .slice a n cap := by
  rcases h.2 with ⟨rfl, rfl⟩ | ⟨g, cap, _, rfl, _⟩
  · exact ⟨_, _, rfl⟩
  · exact ⟨_, _, rfl⟩

/-- copied: the same numbers in new memory. -/
theorem copiedInt_new (a : Option Addr) (cap : Nat) (l : List Int) (w : World) (hl : IntsAt w a l) (hnil : a = none → cap = 0) (hlen : l.length ≤ 17592186044416) :
    Calls Try.prog 38 #[.slice a l.length cap] w fun e w' => ∃ a' c', e = .returned (.slice a' l.length c') ∧ w'.ownsRow w.heap.size 3 1 (.slice a' l.length c') l.length (l.map (Value.int .i64)) ∧ w.grownBy w' none := by
  obtain ⟨i0, hi, hz0, hz1, hz2⟩ := info_parts infoInt
  cases a with
  | none =>
    have hl0 : l = [] := by
      rcases hl with h | ⟨b, off, h, _⟩
      · exact h
      · cases h
    subst hl0
    have hc0 := hnil rfl
    subst hc0
    clear hl hnil hlen
    go_enter Try.func38, Try.ntmps38
    go_wp2_with (at_builtin; refine wpList_append_own_none rfl _ _ 30 rfl w.heap.size 3 i0 1 Try.underlying30 hi (.slice none 0 0) 0 [] rfl (World.ownsRow_nil _ _ _ _) rfl ?_)
    go_ret
    exact ⟨none, 0, rfl, World.ownsRow_nil _ _ _ _, grown_refl _ _⟩
  | some x =>
    have HN : Hid (∀ j u, (l.map (Value.int .i64))[j]? = some u → w.cell? (x.add j) = some u) := by
      intro j u hu
      rcases hl with h | ⟨b, off, h, hc⟩
      · subst h; simp at hu
      · cases h
        have hj : j < l.length := by have := (List.getElem?_eq_some_iff.1 hu).1; simpa using this
        have := hc j hj
        rw [Addr.add_mid, this]
        rw [List.getElem?_map, List.getElem?_eq_getElem hj] at hu
        simp only [Option.map_some, Option.some.injEq] at hu
        rw [← hu]
        simp [List.getD, hj]
    clear hl hnil
    go_enter Try.func38, Try.ntmps38
    go_wp2_with (at_builtin; refine wpList_append_own _ rfl _ _ 30 rfl w.heap.size 3 i0 (.int .i64 0) 1 8 Try.underlying30 hi hz0 hz1 hz2 rfl (by decide) (.slice none 0 0) 0 [] rfl (World.ownsRow_nil _ _ _ _) x l.length cap (l.map (Value.int .i64)) rfl (by simp) HN.out (ints_oneCell' l) (by unfold maxLen; omega) (by omega) (Nat.le_refl _) ?_; intro v' w1 hown hg _)
    go_ret
    have hown' : w1.ownsRow w.heap.size 3 1 v' l.length (l.map (Value.int .i64)) := by simpa using hown
    obtain ⟨a', c', hv⟩ := owns_slice hown'
    have hg' : w.grownBy w1 none := hg
    rw [hv] at hown'
    exact ⟨a', c', by rw [← hv]; rfl, hown', hg'⟩

theorem copiedInt_any (a : Option Addr) (cap : Nat) (l : List Int) (w : World) (hl : IntsAt w a l) (hnil : a = none → cap = 0) (hlen : l.length ≤ 17592186044416) :
    Calls Try.prog 38 #[.slice a l.length cap] w fun e w' => ∃ a' c', e = .returned (.slice a' l.length c') ∧ IntsIn w' (.slice a' l.length c') l ∧ w.grownBy w' none :=
  (copiedInt_new a cap l w hl hnil hlen).mono fun _ _ ⟨a', c', he, ho, hg⟩ => ⟨a', c', he, owns_base ho, hg⟩

theorem clip_prod (a : Option Addr) (n cap : Nat) (w : World) (hle : n ≤ cap) (hn : a = none → n = 0 ∧ cap = 0) :
    Calls Try.prog 54 #[.slice a n cap] w fun e w' => e = .returned (.slice a n n) ∧ w' = w := by
  cases a with
  | none =>
    obtain ⟨rfl, rfl⟩ := hn rfl
    clear hn hle
    go_enter Try.func54, Try.ntmps54
    go_wp2
    go_ret
    exact ⟨rfl, rfl⟩
  | some x =>
    clear hn
    go_enter Try.func54, Try.ntmps54
    go_wp2
    go_ret
    exact ⟨rfl, rfl⟩

/-- A production's level: its last terminal's. -/
def BS.levOf (S : BS) (l : List Int) : Int := l.foldl (fun z h => if S.isT h then S.lev h.toNat else z) 0
def BS.good (S : BS) (l : List Int) : Bool := l.all (fun h => S.isT h || S.isN h)
def BS.addP (S : BS) (p : PR) : BS := { S with prods := S.prods ++ [p] }
def BS.rule (S : BS) (left : Int) (right : List Int) : Int × Int × BS :=
  if S.isN left = true ∧ S.good right = true then (if 96 ≤ S.prods.length then (0, 11, S) else (S.prods.length, 0, S.addP ⟨left, right, S.levOf right⟩)) else (0, 1, S)

theorem ProdsIn.snoc {w w' : World} {v' : Value} {ps : List PR} {p : PR} {r : Value} {rs : List Value} (h1 : rs.length = ps.length) (h3 : ∀ i, i < ps.length → IntsIn w (rs.getD i undef) (ps.getD i ⟨0, [], 0⟩).right)
    (hg : w.grownBy w' none) (hown : w'.ownsRow 0 52 3 v' (ps.length + 1) (((ps.zip rs).flatMap fun x => prL x.1 x.2) ++ prL p r)) (hr : IntsIn w' r p.right) : ProdsIn w' v' (ps ++ [p]) := by
  refine ⟨rs ++ [r], by simp [h1], ?_, fun i hi => ?_⟩
  · have e : (ps ++ [p]).zip (rs ++ [r]) = ps.zip rs ++ [(p, r)] := by rw [List.zip_append h1.symm]; rfl
    rw [e, List.flatMap_append]
    simpa using hown
  · by_cases h : i < ps.length
    · have e1 : (rs ++ [r]).getD i undef = rs.getD i undef := by simp [List.getD, List.getElem?_append_left (show i < rs.length by omega)]
      have e2 : (ps ++ [p]).getD i ⟨0, [], 0⟩ = ps.getD i ⟨0, [], 0⟩ := by simp [List.getD, List.getElem?_append_left h]
      rw [e1, e2]
      exact (h3 i h).kept hg (Apart.none _)
    · have hi' : i = ps.length := by simp at hi; omega
      subst hi'
      have e1 : (rs ++ [r]).getD ps.length undef = r := by rw [← h1]; simp [List.getD]
      have e2 : (ps ++ [p]).getD ps.length ⟨0, [], 0⟩ = p := by simp [List.getD]
      rw [e1, e2]
      exact hr

theorem flat_length {ps : List PR} {rs : List Value} (h : rs.length = ps.length) : ((ps.zip rs).flatMap fun x => prL x.1 x.2).length = ps.length * 3 := by
  induction ps generalizing rs with
  | nil => simp
  | cons p ps ih =>
    cases rs with
    | nil => simp at h
    | cons r rs =>
      simp at h
      simp only [List.zip_cons_cons, List.flatMap_cons, List.length_append, ih h, List.length_cons]
      simp [prL]
      omega

end Go.Proofs.Ytdlbeffkgdjihaa
