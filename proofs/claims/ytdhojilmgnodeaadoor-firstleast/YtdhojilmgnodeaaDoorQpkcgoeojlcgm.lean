import Derived.Test.YtdhojilmgnodeaaDoorQkdbfnbjpmjjb
import Derived.ProofKit
import Derived.OpenShut
import Derived.SliceStrings
import Derived.Deep.Slices
import Derived.SizedLaws
import Derived.Test.YtdhojilmgnodeaaDoorRows
import Derived.Test.YtdhojilmgnodeaaDoorQaaiiloddnlah
import Derived.Lib.LaidTab
import Derived.LaidMore
import Derived.Stop.Joined
import Derived.MakeChecks
import Derived.Test.YtdhojilmgnodeaaDoorQgmgbiphdpmcb
import Derived.Deep.RegionWith
import Derived.Deep.RegionHeld3
import Derived.Deep.DrawnRows
import Derived.DeepKeys

/-
  A grammar that came in, as the walks take it.
-/
namespace Go.Proofs.YtdhojilmgnodeaaDoor
open Go.ChangeShapes Go.WideShapes Go.ChangeAt Go.RowKit Go.Deep

theorem cellsInt : Tryd.prog.cellsOf 3 = 1 := by kernel_rfl
theorem cellsStr : Tryd.prog.cellsOf 9 = 1 := by kernel_rfl
theorem cellsInts : Tryd.prog.cellsOf 24 = 1 := by kernel_rfl
theorem cellsTerm : Tryd.prog.cellsOf 77 = 2 := by kernel_rfl
theorem cellsProd : Tryd.prog.cellsOf 51 = 3 := by kernel_rfl
theorem cellsTerms : Tryd.prog.cellsOf 22 = 1 := by kernel_rfl
theorem cellsStrs : Tryd.prog.cellsOf 23 = 1 := by kernel_rfl
theorem cellsProds : Tryd.prog.cellsOf 25 = 1 := by kernel_rfl
theorem cellsGram : Tryd.prog.cellsOf 27 = 5 := by kernel_rfl
theorem bytesInt : Tryd.prog.bytesOf 3 = 8 := by kernel_rfl
theorem bytesStr : Tryd.prog.bytesOf 9 = 16 := by kernel_rfl
theorem bytesTerm : Tryd.prog.bytesOf 77 = 24 := by kernel_rfl
theorem bytesProd : Tryd.prog.bytesOf 51 = 40 := by kernel_rfl

theorem weights_mem_all {H : Type} {P : Program} {e : TypeId} {d : DataW H} : ∀ {l : List (DataW H)}, d ∈ l → ∀ n ∈ d.weights P e, n ∈ DataW.weightsAll P e l
  | d0 :: l, hd, n, hn => by
    simp only [DataW.weightsAll, List.mem_append]
    rcases List.mem_cons.1 hd with rfl | h
    · exact .inl hn
    · exact .inr (weights_mem_all h n hn)

theorem ints_of_open {W : World} {x : Addr} {len cap : Nat} {zs : List Int} (hl : len ≤ cap) (hz : zs.length = cap) (hc : ∀ i, i < zs.length → W.cell? (x.add i) = some (.int .i64 (zs.getD i 0))) :
    IntsAt W (some x) (zs.take len) := by
  by_cases h0 : len = 0
  · subst h0; exact .inl (by simp)
  · obtain ⟨b, off, spot⟩ := x
    have h1 := hc 0 (by omega)
    have hs : spot = none := by simpa [Addr.add] using World.cell?_spot h1
    subst hs
    refine .inr ⟨b, off, rfl, fun i hi => ?_⟩
    have hi' : i < len := by simp at hi; omega
    have h2 := hc i (by omega)
    rw [Addr.add_mid] at h2
    rw [h2]
    congr 2
    simp [List.getD, hi']
theorem strs_of_open {W : World} {x : Addr} {len cap : Nat} {zs : List ByteArray} (hl : len ≤ cap) (hz : zs.length = cap) (hc : ∀ i, i < zs.length → W.cell? (x.add i) = some (.string (zs.getD i ByteArray.empty))) :
    StrsAt W (some x) (zs.take len) := by
  by_cases h0 : len = 0
  · subst h0; exact .inl (by simp)
  · obtain ⟨b, off, spot⟩ := x
    have h1 := hc 0 (by omega)
    have hs : spot = none := by simpa [Addr.add] using World.cell?_spot h1
    subst hs
    refine .inr ⟨b, off, rfl, fun i hi => ?_⟩
    have hi' : i < len := by simp at hi; omega
    have h2 := hc i (by omega)
    rw [Addr.add_mid] at h2
    rw [h2]
    congr 2
    have hi2 : i < zs.length := by omega
    simp [List.getD, hi', hi2]

section
variable {H : Type} {enc : TypeId × Value → H} {W : World} {fuel : Nat} {cs : List Value} {x : DataW H × List MemPlace}

theorem open_ints_in (h : DataW.trod enc Tryd.prog W 0 (fun _ => true) true fuel 24 cs = some x) (hw : ∀ n ∈ x.1.weights Tryd.prog 24, n ≤ reachBytes) :
    ∃ (a : Option Addr) (l : List Int) (c : Nat), cs = [.slice a l.length c] ∧ IntsAt W a l ∧ l.length ≤ 17592186044416 ∧ l.length ≤ c ∧ (a = none → l.length = 0 ∧ c = 0) ∧ ∀ z ∈ l, (Lit.int .i64 z).wf = true := by
  rcases open_ints Tryd.underlying24 Tryd.underlying3 cellsInt h with ⟨hcs, _⟩ | ⟨y, l, c, zs, hcs, _, hl, hm, hz, hx, hcell, hwz⟩
  · exact ⟨none, [], 0, hcs, .inl rfl, by decide, Nat.le_refl _, fun _ => ⟨rfl, rfl⟩, by simp⟩
  · have hz' : zs.length = c := by simpa using hz
    have hlen : (zs.take l).length = l := by rw [List.length_take]; omega
    refine ⟨some y, zs.take l, c, by rw [hlen]; exact hcs, ints_of_open hl hz' hcell, ?_, by rw [hlen]; exact hl, (fun h => by cases h), fun z hz => hwz z (List.mem_of_mem_take hz)⟩
    have := hw ((lits (H := H) .i64 (zs.take l)).length * 8 + (lits (H := H) .i64 (zs.drop l)).length * 8) (by rw [hx]; simp [DataW.weights, Tryd.underlying24, bytesInt, Nat.add_mul])
    simp only [lits, List.length_map, List.length_take, List.length_drop, reachBytes] at this
    rw [hlen]
    omega

theorem open_strs_in (h : DataW.trod enc Tryd.prog W 0 (fun _ => true) true fuel 23 cs = some x) (hw : ∀ n ∈ x.1.weights Tryd.prog 23, n ≤ reachBytes) :
    ∃ (a : Option Addr) (l : List ByteArray) (c : Nat), cs = [.slice a l.length c] ∧ StrsAt W a l ∧ l.length ≤ 8796093022208 ∧ l.length ≤ c ∧ (a = none → l.length = 0 ∧ c = 0) ∧ ∀ s ∈ l, s.size ≤ 140737488355328 := by
  rcases open_strings Tryd.underlying23 Tryd.underlying9 cellsStr h with ⟨hcs, _⟩ | ⟨y, l, c, zs, hcs, _, hl, hm, hz, hx, hcell, hwz⟩
  · exact ⟨none, [], 0, hcs, .inl rfl, by decide, Nat.le_refl _, fun _ => ⟨rfl, rfl⟩, by simp⟩
  · have hz' : zs.length = c := by simpa using hz
    have hlen : (zs.take l).length = l := by rw [List.length_take]; omega
    refine ⟨some y, zs.take l, c, by rw [hlen]; exact hcs, strs_of_open hl hz' hcell, ?_, by rw [hlen]; exact hl, (fun h => by cases h), fun s hs => ?_⟩
    rotate_left
    · have := hw s.data.toList.length (by
        rw [hx]
        simp only [DataW.weights, Tryd.underlying23, List.mem_cons, List.mem_append]
        exact .inr (.inl (weights_mem_all (List.mem_map.2 ⟨s, hs, rfl⟩) _ (by simp [DataW.weights]))))
      have e : s.data.toList.length = s.size := by simp
      unfold reachBytes at this
      omega
    have := hw ((strs (H := H) (zs.take l)).length * 16 + (strs (H := H) (zs.drop l)).length * 16) (by rw [hx]; simp [DataW.weights, Tryd.underlying23, bytesStr, Nat.add_mul])
    simp only [strs, List.length_map, List.length_take, List.length_drop, reachBytes] at this
    rw [hlen]
    omega

set_option maxRecDepth 100000 in
theorem open_terms_in (h : DataW.trod enc Tryd.prog W 0 (fun _ => true) true fuel 22 cs = some x) (hw : ∀ n ∈ x.1.weights Tryd.prog 22, n ≤ reachBytes) :
    ∃ (a : Option Addr) (l : List (ByteArray × Int)) (c : Nat), cs = [.slice a l.length c] ∧ TermsAt W a l ∧ l.length ≤ 5864062014805 ∧ l.length ≤ c ∧ (a = none → l.length = 0 ∧ c = 0) ∧ ∀ t ∈ l, (Lit.int .i64 t.2).wf = true ∧ t.1.size ≤ 140737488355328 := by
  rcases open_slice Tryd.underlying22 h with ⟨hcs, _⟩ | ⟨ad, len, cap, m, n, D, Pl, hcs, _, hl, hm, hmm, hx, heach⟩
  · exact ⟨none, [], 0, hcs, .inl rfl, by decide, Nat.le_refl _, fun _ => ⟨rfl, rfl⟩, by simp⟩
  · simp only [if_true] at hmm
    subst hx
    rw [cellsTerm] at heach
    have hlen : len ≤ 5864062014805 := by
      have := hw (((List.range len).map D).length * 24 + ((List.range (m - len)).map fun j => D (len + j)).length * 24) (by simp [DataW.weights, Tryd.underlying22, bytesTerm, Nat.add_mul])
      simp only [List.length_map, List.length_range, reachBytes] at this
      omega
    have each : ∀ i, i < len → ∃ t : ByteArray × Int, ∃ b off, ad = ⟨b, off, none⟩ ∧ W.cell? ⟨b, off + i * 2, none⟩ = some (.string t.1) ∧ W.cell? ⟨b, off + i * 2 + 1, none⟩ = some (.int .i64 t.2) ∧ (Lit.int .i64 t.2).wf = true ∧ t.1.size ≤ 140737488355328 := by
      intro i hi
      obtain ⟨cs', h1, h2⟩ := heach i (by omega)
      obtain ⟨_, hcl, hcell⟩ := World.cells?_some h1
      obtain ⟨xs, k, hk, hxy, _, hxl, hfs⟩ := DataW.trod_struct Tryd.underlying77 h2
      match xs, hxl, cs', hcl with
      | [y0, y1], _, [v0, v1], _ =>
        have g0 := hfs 0 _ rfl
        have g1 := hfs 1 _ rfl
        simp [cellsInt, cellsStr] at g0 g1
        simp only [Prod.mk.injEq] at hxy
        obtain ⟨s0, e0, ed0, _⟩ := DataW.trod_string Tryd.underlying9 g0
        have hsz : s0.size ≤ 140737488355328 := by
          have := hw s0.data.toList.length (by
            simp only [DataW.weights, Tryd.underlying22, List.mem_cons, List.mem_append]
            refine .inr (.inl (weights_mem_all (List.mem_map.2 ⟨i, List.mem_range.2 hi, rfl⟩) _ ?_))
            rw [hxy.1]
            simp only [DataW.weights, Tryd.underlying77]
            refine DataW.weights_mem_each (j := 0) (t := 9) (d := y0.1) rfl rfl _ ?_
            rw [show y0.1 = .lit (.string s0.data.toList) from congrArg Prod.fst ed0]
            simp [DataW.weights])
          have e : s0.data.toList.length = s0.size := by simp
          unfold reachBytes at this
          omega
        obtain ⟨z1, e1, _, w1⟩ := DataW.trod_int Tryd.underlying3 g1
        simp only [List.cons.injEq, and_true] at e0 e1
        subst e0 e1
        have c0 := hcell 0 (by omega)
        have c1 := hcell 1 (by omega)
        rw [Deep.add_add] at c0 c1
        obtain ⟨b, off, spot⟩ := ad
        have hs : spot = none := by
          obtain ⟨cs0, h10, _⟩ := heach 0 (by omega)
          obtain ⟨_, hcl0, hcell0⟩ := World.cells?_some h10
          have q0 := hcell0 0 (by omega)
          rw [List.getElem?_eq_getElem (by omega)] at q0
          simpa [Addr.add] using World.cell?_spot q0
        subst hs
        rw [add_plain] at c0 c1
        exact ⟨(s0, z1), b, off, rfl, by simpa using c0, by simpa [Nat.add_assoc] using c1, w1, hsz⟩
    obtain ⟨S, hS⟩ := choose_lt (α := ByteArray × Int) each
    have hg : ∀ i, i < len → ((List.range len).map S).getD i (⟨#[]⟩, 0) = S i := fun i hi => by simp [List.getD, hi]
    refine ⟨some ad, (List.range len).map S, cap, by simpa using hcs, ?_, by simpa using hlen, by simpa using hl, fun h => (by cases h), fun t ht => ?_⟩
    · by_cases h0 : len = 0
      · subst h0; exact .inl (by simp)
      · obtain ⟨b, off, rfl, _⟩ := hS 0 (by omega)
        refine .inr ⟨b, off, rfl, fun i hi => ?_⟩
        have hi' : i < len := by simpa using hi
        obtain ⟨b', off', e, r1, r2, _⟩ := hS i hi'
        simp only [Addr.mk.injEq, and_true] at e
        obtain ⟨rfl, rfl⟩ := e
        rw [hg i hi']
        exact ⟨r1, r2⟩
    · obtain ⟨i, hi, rfl⟩ := List.mem_map.1 ht
      obtain ⟨_, _, _, _, _, hwf⟩ := hS i (by simpa using hi)
      exact hwf

set_option maxRecDepth 100000 in
theorem open_prods_in (h : DataW.trod enc Tryd.prog W 0 (fun _ => true) true fuel 25 cs = some x) (hw : ∀ n ∈ x.1.weights Tryd.prog 25, n ≤ reachBytes) :
    ∃ (a : Option Addr) (n c : Nat) (L V : Nat → Int) (R : Nat → List Int) (ra : Nat → Option Addr) (rc : Nat → Nat), cs = [.slice a n c] ∧ ProdsAt W a n L R ra rc V ∧ n ≤ 3518437208883 ∧ n ≤ c ∧ (a = none → n = 0 ∧ c = 0) ∧ ∀ i, i < n → (R i).length ≤ rc i ∧ (Lit.int .i64 (L i)).wf = true ∧ (Lit.int .i64 (V i)).wf = true ∧ ∀ z ∈ R i, (Lit.int .i64 z).wf = true := by
  rcases open_slice Tryd.underlying25 h with ⟨hcs, _⟩ | ⟨ad, len, cap, m, n, D, Pl, hcs, _, hl, hm, hmm, hx, heach⟩
  · exact ⟨none, 0, 0, fun _ => 0, fun _ => 0, fun _ => [], fun _ => none, fun _ => 0, hcs, .inl rfl, by decide, Nat.le_refl _, fun _ => ⟨rfl, rfl⟩, fun i hi => absurd hi (Nat.not_lt_zero i)⟩
  · simp only [if_true] at hmm
    subst hx
    rw [cellsProd] at heach
    have hlen : len ≤ 3518437208883 := by
      have := hw (((List.range len).map D).length * 40 + ((List.range (m - len)).map fun j => D (len + j)).length * 40) (by simp [DataW.weights, Tryd.underlying25, bytesProd, Nat.add_mul])
      simp only [List.length_map, List.length_range, reachBytes] at this
      omega
    have each : ∀ i, i < len → ∃ t : Int × Int × List Int × Option Addr × Nat, ∃ b off, ad = ⟨b, off, none⟩ ∧ (W.cell? ⟨b, off + i * 3, none⟩ = some (.int .i64 t.1) ∧ W.cell? ⟨b, off + i * 3 + 1, none⟩ = some (.slice t.2.2.2.1 t.2.2.1.length t.2.2.2.2) ∧ W.cell? ⟨b, off + i * 3 + 2, none⟩ = some (.int .i64 t.2.1) ∧ IntsAt W t.2.2.2.1 t.2.2.1 ∧ (t.2.2.2.1 = none → t.2.2.2.2 = 0) ∧ t.2.2.1.length ≤ 17592186044416) ∧
        t.2.2.1.length ≤ t.2.2.2.2 ∧ (Lit.int .i64 t.1).wf = true ∧ (Lit.int .i64 t.2.1).wf = true ∧ ∀ z ∈ t.2.2.1, (Lit.int .i64 z).wf = true := by
      intro i hi
      obtain ⟨cs', h1, h2⟩ := heach i (by omega)
      obtain ⟨_, hcl, hcell⟩ := World.cells?_some h1
      obtain ⟨xs, k, hk, hxy, _, hxl, hfs⟩ := DataW.trod_struct Tryd.underlying51 h2
      have hDw : ∀ n ∈ (D i).weights Tryd.prog 51, n ≤ reachBytes := fun q hq => hw q (by
        simp only [DataW.weights, Tryd.underlying25, List.mem_cons, List.mem_append]
        exact .inr (.inl (weights_mem_all (List.mem_map.2 ⟨i, List.mem_range.2 hi, rfl⟩) q hq)))
      match xs, hxl, cs', hcl with
      | [y0, y1, y2], _, [v0, v1, v2], _ =>
        have g0 := hfs 0 _ rfl
        have g1 := hfs 1 _ rfl
        have g2 := hfs 2 _ rfl
        simp [cellsInt, cellsInts] at g0 g1 g2
        simp only [Prod.mk.injEq] at hxy
        have hw1 : ∀ n ∈ y1.1.weights Tryd.prog 24, n ≤ reachBytes := fun q hq => hDw q (by
          rw [hxy.1]
          simp only [DataW.weights, Tryd.underlying51]
          exact DataW.weights_mem_each (j := 1) (t := 24) (d := y1.1) rfl rfl q hq)
        obtain ⟨z0, e0, _, w0⟩ := DataW.trod_int Tryd.underlying3 g0
        obtain ⟨la, l, lc, e1, hints, hll, hlc, hnil, hwl⟩ := open_ints_in g1 hw1
        obtain ⟨z2, e2, _, w2⟩ := DataW.trod_int Tryd.underlying3 g2
        simp only [List.cons.injEq, and_true] at e0 e1 e2
        subst e0 e1 e2
        have c0 := hcell 0 (by omega)
        have c1 := hcell 1 (by omega)
        have c2 := hcell 2 (by omega)
        rw [Deep.add_add] at c0 c1 c2
        obtain ⟨b, off, spot⟩ := ad
        have hs : spot = none := by
          obtain ⟨cs0, h10, _⟩ := heach 0 (by omega)
          obtain ⟨_, hcl0, hcell0⟩ := World.cells?_some h10
          have q0 := hcell0 0 (by omega)
          rw [List.getElem?_eq_getElem (by omega)] at q0
          simpa [Addr.add] using World.cell?_spot q0
        subst hs
        rw [add_plain] at c0 c1 c2
        exact ⟨(z0, z2, l, la, lc), b, off, rfl, ⟨by simpa using c0, by simpa [Nat.add_assoc] using c1, by simpa [Nat.add_assoc] using c2, hints, fun h => (hnil h).2, hll⟩, hlc, w0, w2, hwl⟩
    obtain ⟨S, hS⟩ := choose_lt (α := Int × Int × List Int × Option Addr × Nat) each
    refine ⟨some ad, len, cap, fun i => (S i).1, fun i => (S i).2.1, fun i => (S i).2.2.1, fun i => (S i).2.2.2.1, fun i => (S i).2.2.2.2, hcs, ?_, hlen, hl, fun h => (by cases h), fun i hi => ?_⟩
    · by_cases h0 : len = 0
      · exact .inl h0
      · obtain ⟨b, off, rfl, _⟩ := hS 0 (by omega)
        refine .inr ⟨b, off, rfl, fun i hi => ?_⟩
        obtain ⟨b', off', e, r, _⟩ := hS i hi
        simp only [Addr.mk.injEq, and_true] at e
        obtain ⟨rfl, rfl⟩ := e
        exact r
    · obtain ⟨_, _, _, _, r⟩ := hS i hi
      exact r

/-- What else is known of a grammar that came in. -/
structure GIn (ta la : Option Addr) (tc lc : Nat) (ts : List (ByteArray × Int)) (lv : List Int) (n : Nat) (L : Nat → Int) (R : Nat → List Int) (rc : Nat → Nat) (V : Nat → Int) (st : Int) (ns : List ByteArray) : Prop where
  tn : ts.length ≤ 5864062014805
  nn : ns.length ≤ 8796093022208
  pn : n ≤ 3518437208883
  tnil : ta = none → ts.length = 0 ∧ tc = 0
  lnil : la = none → lv.length = 0 ∧ lc = 0
  lcap : lv.length ≤ lc
  rcap : ∀ i, i < n → (R i).length ≤ rc i
  lvl : ∀ t ∈ ts, (Lit.int .i64 t.2).wf = true ∧ t.1.size ≤ 140737488355328
  nsz : ∀ s ∈ ns, s.size ≤ 140737488355328
  lvw : ∀ z ∈ lv, (Lit.int .i64 z).wf = true
  stw : (Lit.int .i64 st).wf = true
  prw : ∀ i, i < n → (Lit.int .i64 (L i)).wf = true ∧ (Lit.int .i64 (V i)).wf = true ∧ ∀ z ∈ R i, (Lit.int .i64 z).wf = true

set_option maxRecDepth 100000 in
theorem open_gram {base : Nat} {v : Value} {d : DataW H} {p : List MemPlace} (hv : Value.okWide Tryd.prog W .any base 27 v) (h : DataW.Trod enc Tryd.prog W 0 (fun _ => true) true 27 v d p) (hw : ∀ n ∈ d.weights Tryd.prog 27, n ≤ reachBytes) :
    ∃ ta na la pa tc nc lc pc ts ns lv n L R ra rc V st, v = .agg #[.slice ta ts.length tc, .slice na ns.length nc, .slice la lv.length lc, .int .i64 st, .slice pa n pc] ∧ GAt W ta na la pa tc nc lc pc ts ns lv n L R ra rc V ∧ GIn ta la tc lc ts lv n L R rc V st ns := by
  obtain ⟨cs, rfl, hsz⟩ := okWide_struct Tryd.underlying27 hv
  obtain ⟨fuel, hf⟩ := h
  obtain ⟨xs, k, hk, hxy, hcl, hxl, hfs⟩ := DataW.trod_struct Tryd.underlying27 hf
  rw [cellsGram] at hsz
  obtain ⟨l, rfl⟩ : ∃ l : List Value, cs = l.toArray := ⟨cs.toList, by simp⟩
  simp only [Value.cells] at hfs hcl
  have hl : l.length = 5 := by simpa using hsz
  match xs, hxl, l, hl with
  | [y0, y1, y2, y3, y4], _, [v0, v1, v2, v3, v4], _ =>
    have g0 := hfs 0 _ rfl
    have g1 := hfs 1 _ rfl
    have g2 := hfs 2 _ rfl
    have g3 := hfs 3 _ rfl
    have g4 := hfs 4 _ rfl
    simp [cellsInt, cellsInts, cellsTerms, cellsStrs, cellsProds] at g0 g1 g2 g3 g4
    simp only [Prod.mk.injEq] at hxy
    have hwj : ∀ (j : Nat) (t : TypeId) (y : DataW H × List MemPlace), ((Tryd.prog.fieldsOf 27).toList.map (·.type))[j]? = some t → ([y0, y1, y2, y3, y4].map (·.1))[j]? = some y.1 → ∀ n ∈ y.1.weights Tryd.prog t, n ≤ reachBytes := fun j t y h1 h2 q hq => hw q (by
      rw [hxy.1]
      simp only [DataW.weights, Tryd.underlying27]
      simp only [Program.fieldsOf, Tryd.underlying27] at h1
      exact DataW.weights_mem_each (j := j) (t := t) (d := y.1) h1 h2 q hq)
    have hw0 := hwj 0 22 y0 (by kernel_rfl) rfl
    have hw1 := hwj 1 23 y1 (by kernel_rfl) rfl
    have hw2 := hwj 2 24 y2 (by kernel_rfl) rfl
    have hw4 := hwj 4 25 y4 (by kernel_rfl) rfl
    obtain ⟨ta, ts, tc, e0, hT, hTl, hTc, hTn, hTw⟩ := open_terms_in g0 hw0
    obtain ⟨na, ns, nc, e1, hN, hNl, hNc, hNn, hNs⟩ := open_strs_in g1 hw1
    obtain ⟨la, lv, lc, e2, hL, hLl, hLc, hLn, hLw⟩ := open_ints_in g2 hw2
    obtain ⟨st, e3, _, w3⟩ := DataW.trod_int Tryd.underlying3 g3
    obtain ⟨pa, n, pc, L, V, R, ra, rc, e4, hP, hPl, hPc, hPn, hPw⟩ := open_prods_in g4 hw4
    simp only [List.cons.injEq, and_true] at e0 e1 e2 e3 e4
    subst e0 e1 e2 e3 e4
    exact ⟨ta, na, la, pa, tc, nc, lc, pc, ts, ns, lv, n, L, R, ra, rc, V, st, rfl, ⟨hT, hN, hL, hP, hTc, hNc, hPc, hNn, hPn, by omega, by omega, by omega, by omega⟩, hTl, hNl, hPl, hTn, hLn, hLc, fun i hi => (hPw i hi).1, hTw, hNs, hLw, w3, fun i hi => (hPw i hi).2⟩
end

end Go.Proofs.YtdhojilmgnodeaaDoor

/-
  What the laws' proofs share: the library's table out of the row's condition.
-/
namespace Go.Proofs.YtdhojilmgnodeaaDoor
open Go.ChangeShapes Go.WideShapes Go.ChangeAt Go.RowKit

theorem own : ownKnob Tryd.prog.godebug = none := by kernel_rfl
theorem laidOut : laidOutB Tryd.prog = true := by kernel_rfl
/-- The name of the library's table. -/
def tabName : String := Rows.firstExactRow.named.headD ""
theorem gTab : Tryd.prog.globalNamed tabName = some 0 := by kernel_rfl
theorem tTab : (Tryd.prog.globals[0]?).map (·.type) = some 106 := by kernel_rfl
theorem cells5 : Tryd.prog.cellsOf 5 = 1 := by kernel_rfl
theorem cells75 : Tryd.prog.cellsOf 106 = 64 := by kernel_rfl

/-- What the rows list. -/
def laid1 : List (String × DataW Unit) := [(tabName, Rows.laid_math_bits_deBruijn64tab)]

theorem tab_is : (Rows.laid_math_bits_deBruijn64tab : DataW Unit) = Lib.tabData .u8 (Lib.deBruijn64tab.map (fun z : Nat => (z : Int))) := by kernel_rfl

theorem tab_of_laid {W : World} (h : laidMetH Tryd.prog laid1 W) : B.Tab W := by
  rw [MakeChecks.laidMetH_plain _ _ _ (by kernel_rfl)] at h
  unfold laid1 at h
  rw [tab_is] at h
  have ht := Lib.tabIs_of_head gTab tTab Tryd.underlying106 Tryd.underlying5 cells5 cells75 h
  intro j hj
  have hl : j < Lib.deBruijn64tab.length := hj
  have hj' : j < (Lib.deBruijn64tab.map (fun z : Nat => (z : Int))).length := by rw [List.length_map]; exact hl
  have := ht.cell gTab j hj'
  rw [this]
  simp [List.getD, hl]

theorem door_met (os : Os) (args : Array Value) : laidMetH Tryd.prog laid1 ((World.doorLaid Tryd.prog 14 os).forCall (fun _ _ => 0) ⟨#[], args, []⟩).memory :=
  laidMetH_of_parts3 (fuel := 65) (laidMet_of_run' 65 (by kernel_rfl) (by kernel_rfl)) (by kernel_rfl) (by kernel_rfl)

theorem heap_pos {W : World} (h : B.Tab W) : 0 < W.heap.size := World.block_lt_of_cell? W _ (h 0 (by decide))

end Go.Proofs.YtdhojilmgnodeaaDoor

/-
  What Add and Drop do.
-/
namespace Go.Proofs.YtdhojilmgnodeaaDoor.B
open Go.RowKit

/-- One member more: the set, and how many were new. -/
def addStep (n : Nat) (s : Nat × Nat) (x : Int) : Nat × Nat := if inB n x && !hasB s.1 x then (s.1 ||| 2 ^ x.toNat, s.2 + 1) else s
def addS (n m : Nat) (l : List Int) : Nat × Nat := l.foldl (addStep n) (m, 0)
/-- One member less: the set, and how many were there. -/
def dropStep (s : Nat × Nat) (x : Int) : Nat × Nat := if hasB s.1 x then (s.1 ^^^ 2 ^ x.toNat, s.2 + 1) else s
def dropS (m : Nat) (l : List Int) : Nat × Nat := l.foldl dropStep (m, 0)

theorem addS_snoc (n m : Nat) (l : List Int) (k : Nat) (hk : k < l.length) : addS n m (l.take (k + 1)) = addStep n (addS n m (l.take k)) (l.getD k 0) := by
  unfold addS
  rw [List.take_succ_eq_append_getElem hk, List.foldl_append]
  simp [List.getD, hk]
theorem dropS_snoc (m : Nat) (l : List Int) (k : Nat) (hk : k < l.length) : dropS m (l.take (k + 1)) = dropStep (dropS m (l.take k)) (l.getD k 0) := by
  unfold dropS
  rw [List.take_succ_eq_append_getElem hk, List.foldl_append]
  simp [List.getD, hk]

/-- What is stored when n is added. -/
theorem or_bit (m n : Nat) : bits BinOp.or IntKind.u64 (wd m (n / 64) : Int) (bt n : Int) = (wd (m ||| 2 ^ n) (n / 64) : Nat) := by
  rw [bits_or_u64_nat _ _ (wd_lt _ _) (bt_lt _), wd_or, wd_two_pow, if_pos rfl]; rfl
theorem or_other (m n i : Nat) (h : i ≠ n / 64) : wd (m ||| 2 ^ n) i = wd m i := by rw [wd_or, wd_two_pow, if_neg h]; simp
theorem xor_other (m n i : Nat) (h : i ≠ n / 64) : wd (m ^^^ 2 ^ n) i = wd m i := by rw [wd_xor, wd_two_pow, if_neg h]; simp

theorem RowAt.added {w : World} {b n m : Nat} (h : RowAt w b n (wd m)) (k : Nat) (hk : k < 1024) : RowAt (w.setCell ⟨b, 1 + k / 64, none⟩ (.int .u64 (wd (m ||| 2 ^ k) (k / 64) : Nat))) b n (wd (m ||| 2 ^ k)) :=
  (h.setWord (k / 64) _ (by omega)).congr fun i _ => by
    by_cases e : i = k / 64
    · subst e; simp
    · simp only [e, if_false]; exact (or_other m k i e).symm

/-- The numbers of a slice lie where it leads to. -/
def IntsAt (w : World) (a : Option Addr) (l : List Int) : Prop :=
  l = [] ∨ ∃ b off, a = some ⟨b, off, none⟩ ∧ ∀ i, i < l.length → w.cell? ⟨b, off + i, none⟩ = some (.int .i64 (l.getD i 0))

theorem But.drewN {b : Nat} {w w' : World} (h : But b w w') (k : Nat) : But b w (w'.drewN k) := ⟨h.os, h.tape, h.output, h.size, h.block⟩
theorem RowAt.drewN {w : World} {b n : Nat} {f : Nat → Nat} (h : RowAt w b n f) (k : Nat) : RowAt (w.drewN k) b n f := h

theorem has_is {p : Option Addr} {n m : Nat} {x : Int} {w : World} (h : SetM w p n m) (hx : hasB m x = true) :
    Calls Tryd.prog 29 #[.pointer p, .int .i64 x] w fun e w' => e = .returned (.bool true) ∧ ∃ k, w' = w.drewN k := by
  have := has_any p n m x w h
  rwa [hx] at this
theorem has_isnt {p : Option Addr} {n m : Nat} {x : Int} {w : World} (h : SetM w p n m) (hx : hasB m x = false) :
    Calls Tryd.prog 29 #[.pointer p, .int .i64 x] w fun e w' => e = .returned (.bool false) ∧ ∃ k, w' = w.drewN k := by
  have := has_any p n m x w h
  rwa [hx] at this

theorem add_none (a : Option Addr) (cap : Nat) (p : Option Addr) (w : World) :
    Calls Tryd.prog 58 #[.pointer p, .slice a 0 cap] w fun e w' => e = .returned (.int .i64 0) ∧ w' = w := by
  go_enter Tryd.func58, Tryd.ntmps58
  go_wp2
  go_loop [5, 10] (fun a i => a = .int .i64 0 ∧ i = .int .i64 0) (fun _ _ => 0)
  case atStart => exact ⟨rfl, rfl⟩
  case round =>
    obtain ⟨rfl, rfl⟩ := hrel
    go_wp2
    go_ret
    exact ⟨rfl, rfl⟩

attribute [local go_sem ↓] Go.wp_at_zero Go.wp_at_succ

set_option maxHeartbeats 1000000 in
theorem add_row (b n m bl off cap : Nat) (l : List Int) (w : World) (hn : n ≤ 1024) (hm : m < 2 ^ n) (hr : RowAt w b n (wd m)) (hne : bl ≠ b) (hlen : l.length < 1152921504606846976)
    (hc : ∀ i, i < l.length → w.cell? ⟨bl, off + i, none⟩ = some (.int .i64 (l.getD i 0))) :
    Calls Tryd.prog 58 #[.pointer (some ⟨b, 0, none⟩), .slice (some ⟨bl, off, none⟩) l.length cap] w fun e w' =>
      e = .returned (.int .i64 ((addS n m l).2 : Nat)) ∧ RowAt w' b n (wd (addS n m l).1) ∧ (addS n m l).1 < 2 ^ n ∧ But b w w' := by
  have HC : Hid (∀ i, i < l.length → w.cell? ⟨bl, off + i, none⟩ = some (.int .i64 (l.getD i 0))) := hc
  have HR : Hid (RowAt w b n (wd m)) := hr
  have HM : Hid (m < 2 ^ n) := hm
  clear hc hr hm
  go_enter Tryd.func58, Tryd.ntmps58
  go_wp2
  go_loopw [5, 10] (fun a i wr => ∃ k : Nat, k ≤ l.length ∧ i = .int .i64 k ∧ a = .int .i64 ((addS n m (l.take k)).2 : Nat) ∧ (addS n m (l.take k)).2 ≤ k ∧ (addS n m (l.take k)).1 < 2 ^ n ∧ RowAt wr b n (wd (addS n m (l.take k)).1) ∧ But b w wr)
    (fun _ i _ => l.length - (intOf i).toNat)
  case atStart => exact ⟨0, Nat.zero_le _, rfl, rfl, Nat.zero_le _, HM.out, HR.out, But.refl _ _⟩
  case round =>
    obtain ⟨k, hk, rfl, rfl, hle, hlt2, hrow, hbut⟩ := hrel
    by_cases hlt : k < l.length
    · have hsn := addS_snoc n m l k hlt
      have hcell : wr.cell? ⟨bl, off + k, none⟩ = some (.int .i64 (l.getD k 0)) := by
        have h1 := HC.out k hlt
        have h2 : bl < w.heap.size := World.block_lt_of_cell? w _ h1
        rw [World.cell?_of_block (w := w) (hbut.block bl h2 hne)]; exact h1
      generalize l.getD k 0 = x at hsn hcell
      generalize addS n m (l.take k) = s at *
      obtain ⟨sm, sk⟩ := s
      have HSN : Hid (addS n m (l.take (k + 1)) = addStep n (sm, sk) x) := hsn
      have HS : Hid (SetM wr (some ⟨b, 0, none⟩) n sm) := SetM.of hrow hn hlt2
      have HROW : Hid (RowAt wr b n (wd sm)) := hrow
      have HLT2 : Hid (sm < 2 ^ n) := hlt2
      have HBUT : Hid (But b w wr) := hbut
      clear hsn hrow hlt2 hbut
      cases hin : inB n x with
      | false =>
        have HIN : Hid (inB n x = false) := hin
        clear hin
        go_wp2_with (go_at_call 48; refine (holds_no HS.out HIN.out).mono ?_; rintro e w2 ⟨rfl, rfl⟩)
        go_roundw
        case rel =>
          have e : addS n m (l.take (k + 1)) = (sm, sk) := by rw [HSN.out]; simp [addStep, HIN.out]
          exact ⟨k + 1, by omega, by go_num, by rw [e], by rw [e]; simp; omega, by rw [e]; exact HLT2.out, by rw [e]; exact HROW.out, HBUT.out⟩
        case measure => simp [intOf]; omega
      | true =>
        have HIN : Hid (inB n x = true) := hin
        obtain ⟨h0, h1⟩ : 0 ≤ x ∧ x < n := by simpa [inB] using hin
        clear hin
        cases hh : hasB sm x with
        | true =>
          have HH : Hid (hasB sm x = true) := hh
          clear hh
          go_wp2_with (first | (go_at_call 48; refine (holds_yes HS.out HIN.out).mono ?_; rintro e w2 ⟨rfl, rfl⟩) | (go_at_call 29; refine (has_is HS.out HH.out).mono ?_; rintro e w2 ⟨rfl, j, rfl⟩))
          go_roundw
          case rel =>
            have e : addS n m (l.take (k + 1)) = (sm, sk) := by rw [HSN.out]; simp [addStep, HH.out]
            exact ⟨k + 1, by omega, by go_num, by rw [e], by rw [e]; simp; omega, by rw [e]; exact HLT2.out, by rw [e]; exact HROW.out, HBUT.out.drewN _⟩
          case measure => simp [intOf]; omega
        | false =>
          have HH : Hid (hasB sm x = false) := hh
          clear hh
          obtain ⟨y, rfl⟩ := Int.eq_ofNat_of_zero_le h0
          have hy : y < 1024 := by omega
          have hyi : (y : Int) / 64 < 16 := by omega
          have hyi0 : (0 : Int) ≤ (y : Int) / 64 := by omega
          have hq1 : (y : Int).tdiv 64 = (y : Int) / 64 := Int.tdiv_eq_ediv_of_nonneg (by omega)
          have hq2 : IntKind.i64.wrap ((y : Int) / 64) = (y : Int) / 64 := by rw [IntKind.wrap_i64]; omega
          have hq3 : ((y : Int) / 64).toNat = y / 64 := by omega
          have hw := HROW.out.word (y / 64) (by omega)
          have hfz := HROW.out.free (1 + y / 64)
          have ho := or_bit sm y
          go_wp2_with (first | (go_at_call 48; refine (holds_yes HS.out HIN.out).mono ?_; rintro e w2 ⟨rfl, rfl⟩) | (go_at_call 29; refine (has_isnt HS.out HH.out).mono ?_; rintro e w2 ⟨rfl, j, rfl⟩))
          go_region_with (go_at_call 49; refine (bit_any y hy _).mono ?_; rintro e w' ⟨rfl, rfl⟩)
          all_goals go_wp2
          all_goals go_roundw
          case' rel =>
            have e : addS n m (l.take (k + 1)) = (sm ||| 2 ^ y, sk + 1) := by rw [HSN.out]; simp [addStep, HH.out, HIN.out]
            exact ⟨k + 1, by omega, by go_num, by rw [e]; go_num, by rw [e]; simp; omega, by rw [e]; exact lt_or HLT2.out (two_pow_lt (by omega)), by rw [e]; exact RowAt.added (RowAt.drewN HROW.out _) y hy, (But.drewN HBUT.out _).setCell _ _⟩
          case' measure => simp [intOf]; omega
          case' rel =>
            have e : addS n m (l.take (k + 1)) = (sm ||| 2 ^ y, sk + 1) := by rw [HSN.out]; simp [addStep, HH.out, HIN.out]
            exact ⟨k + 1, by omega, by go_num, by rw [e]; go_num, by rw [e]; simp; omega, by rw [e]; exact lt_or HLT2.out (two_pow_lt (by omega)), by rw [e]; exact RowAt.added (RowAt.drewN HROW.out _) y hy, (But.drewN HBUT.out _).setCell _ _⟩
          case' measure => simp [intOf]; omega
    · have : k = l.length := by omega
      subst this
      rw [List.take_length] at *
      go_wp2
      go_ret
      exact ⟨rfl, hrow, hlt2, hbut⟩

end Go.Proofs.YtdhojilmgnodeaaDoor.B

/-
  What Drop does; Add and Drop of sets without room.
-/
namespace Go.Proofs.YtdhojilmgnodeaaDoor.B
open Go.RowKit

theorem andNot_u64_nat (a b : Nat) (ha : a < 18446744073709551616) (hb : b < 18446744073709551616) (hs : a &&& b = b) :
    bits .andNot .u64 (a : Int) (b : Int) = ((a ^^^ b : Nat) : Int) := by
  have h1 : (BitVec.ofInt 64 (a : Int)).toNat = a := by
    rw [BitVec.ofInt_natCast, BitVec.toNat_ofNat]; exact Nat.mod_eq_of_lt (by omega)
  have h2 : (BitVec.ofInt 64 (b : Int)).toNat = b := by
    rw [BitVec.ofInt_natCast, BitVec.toNat_ofNat]; exact Nat.mod_eq_of_lt (by omega)
  have h3 : (BitVec.ofInt 64 (a : Int) &&& ~~~ BitVec.ofInt 64 (b : Int)).toNat = a ^^^ b := by
    rw [BitVec.toNat_and, BitVec.toNat_not, h1, h2]
    apply Nat.eq_of_testBit_eq
    intro i
    rw [show 2 ^ 64 - 1 - b = 2 ^ 64 - (b + 1) by omega, Nat.testBit_and, Nat.testBit_two_pow_sub_succ (by omega), Nat.testBit_xor]
    have h4 := congrArg (fun x => x.testBit i) hs
    simp only [Nat.testBit_and] at h4
    by_cases hi : i < 64
    · simp only [hi, decide_true, Bool.true_and]
      cases ea : a.testBit i <;> cases eb : b.testBit i <;> simp_all
    · have e1 : a.testBit i = false := Nat.testBit_lt_two_pow (Nat.lt_of_lt_of_le ha (by
        have : 2 ^ 64 ≤ 2 ^ i := Nat.pow_le_pow_right (by decide) (by omega)
        exact this))
      have e2 : b.testBit i = false := by rw [e1] at h4; simpa using h4.symm
      simp [e1, e2]
  show IntKind.u64.wrap ((BitVec.ofInt 64 (a : Int) &&& ~~~ BitVec.ofInt 64 (b : Int)).toNat : Int) = _
  rw [h3, IntKind.wrap_u64]
  have : a ^^^ b < 2 ^ 64 := lt_xor ha hb
  omega

/-- What is stored when n is dropped. -/
theorem xor_bit (m n : Nat) (h : m.testBit n = true) : bits BinOp.andNot IntKind.u64 (wd m (n / 64) : Int) (bt n : Int) = (wd (m ^^^ 2 ^ n) (n / 64) : Nat) := by
  have hs : wd m (n / 64) &&& bt n = bt n := by
    apply Nat.eq_of_testBit_eq
    intro j
    unfold bt
    rw [Nat.testBit_and, testBit_wd, Nat.testBit_two_pow]
    by_cases e : n % 64 = j
    · subst e
      have e2 : 64 * (n / 64) + n % 64 = n := by omega
      have e3 : n % 64 < 64 := by omega
      simp [e2, e3, h]
    · simp [e]
  rw [andNot_u64_nat _ _ (wd_lt _ _) (bt_lt _) hs, wd_xor, wd_two_pow, if_pos rfl]; rfl

theorem RowAt.dropped {w : World} {b n m : Nat} (h : RowAt w b n (wd m)) (k : Nat) (hk : k < 1024) : RowAt (w.setCell ⟨b, 1 + k / 64, none⟩ (.int .u64 (wd (m ^^^ 2 ^ k) (k / 64) : Nat))) b n (wd (m ^^^ 2 ^ k)) :=
  (h.setWord (k / 64) _ (by omega)).congr fun i _ => by
    by_cases e : i = k / 64
    · subst e; simp
    · simp only [e, if_false]; exact (xor_other m k i e).symm

/-! ### A set without room (nil among them): nothing is taken, nothing is there. -/
theorem inB_zero (x : Int) : inB 0 x = false := by
  unfold inB
  by_cases h : 0 ≤ x
  · have : ¬ x < ((0 : Nat) : Int) := by omega
    rw [decide_eq_false this, Bool.and_false]
  · simp [h]
theorem hasB_zero (x : Int) : hasB 0 x = false := by simp [hasB]

theorem add_zero (p : Option Addr) (bl off cap : Nat) (l : List Int) (w : World) (h : SetM w p 0 0) (hlen : l.length < 1152921504606846976)
    (hc : ∀ i, i < l.length → w.cell? ⟨bl, off + i, none⟩ = some (.int .i64 (l.getD i 0))) :
    Calls Tryd.prog 58 #[.pointer p, .slice (some ⟨bl, off, none⟩) l.length cap] w fun e w' => e = .returned (.int .i64 0) ∧ w' = w := by
  have H : Hid (SetM w p 0 0) := h
  have HC : Hid (∀ i, i < l.length → w.cell? ⟨bl, off + i, none⟩ = some (.int .i64 (l.getD i 0))) := hc
  clear hc h
  go_enter Tryd.func58, Tryd.ntmps58
  go_wp2
  go_loop [5, 10] (fun a i => ∃ k : Nat, k ≤ l.length ∧ i = .int .i64 k ∧ a = .int .i64 0) (fun _ i => l.length - (intOf i).toNat)
  case atStart => exact ⟨0, Nat.zero_le _, rfl, rfl⟩
  case round =>
    obtain ⟨k, hk, rfl, rfl⟩ := hrel
    by_cases hlt : k < l.length
    · have hcell := HC.out k hlt
      generalize l.getD k 0 = x at hcell
      go_wp2_with (go_at_call 48; refine (holds_no H.out (inB_zero _)).mono ?_; rintro e w2 ⟨rfl, rfl⟩)
      go_round
      case rel => exact ⟨k + 1, by omega, by go_num, rfl⟩
      case measure => simp [intOf]; omega
    · go_wp2
      go_ret
      exact ⟨rfl, rfl⟩

end Go.Proofs.YtdhojilmgnodeaaDoor.B

/-
  What Of, Copy and Equal do.
-/
namespace Go.Proofs.YtdhojilmgnodeaaDoor.B
open Go.RowKit

theorem part_word (f : Nat → Nat) (i : Nat) (hi : i < 16) (w : World) : (part 80 (wordsL f).toArray (i * 1)).run Tryd.prog w = .ok (.int .u64 (f i)) w := by
  have ha : (isAgg 80).run Tryd.prog w = .ok false w := by kernel_rfl
  unfold part
  simp only [Sem.run_bind, ha, Result.andThen_ok]
  simp [wordsL, hi]

theorem eq_words (d : Nat) (f g : Nat → Nat) (w : World) : ∀ is : List Nat, (∀ i ∈ is, i < 16) → (Op.eqItems (d + 1) 80 1 (wordsL f).toArray (wordsL g).toArray is).run Tryd.prog w = .ok (is.all fun i => f i == g i) w
  | [], _ => by simp [Op.eqItems]
  | i :: is, h => by
    have ih := eq_words d f g w is (fun j hj => h j (by simp [hj]))
    have hi := h i (by simp)
    have he := run_equalIn_int (P := Tryd.prog) w d 80 .u64 .u64 (f i) (g i) Tryd.underlying80
    simp only [Op.eqItems, Sem.run_bind, part_word f i hi, part_word g i hi, Result.andThen_ok, he, List.all_cons]
    by_cases e : f i = g i
    · rw [e]
      simpa using ih
    · have e2 : ((f i : Int) == (g i : Int)) = false := beq_eq_false_iff_ne.2 (fun h => e (by omega))
      have e3 : (f i == g i) = false := by simp [e]
      rw [e2, e3]
      simp

theorem eqFields58 (d : Nat) (xs ys : Array Value) : Op.eqFields d xs ys (Tryd.prog.fieldsOf 83).toList = (do
    let a ← part 3 xs 0
    let b ← part 3 ys 0
    let r ← Op.equalIn d 3 a b
    if (!r) = true then pure false else do
      let a ← part 81 xs 1
      let b ← part 81 ys 1
      let r ← Op.equalIn d 81 a b
      if (!r) = true then pure false else pure true) := by kernel_rfl
theorem part_size (n : Nat) (f : Nat → Nat) (w : World) : (part 3 (rowL n f).toArray 0).run Tryd.prog w = .ok (.int .i64 n) w := by kernel_rfl
theorem part_words (n : Nat) (f : Nat → Nat) (w : World) : (part 81 (rowL n f).toArray 1).run Tryd.prog w = .ok (.agg (wordsL f).toArray) w := by kernel_rfl
theorem cells55 : Tryd.prog.cellsOf 80 = 1 := by kernel_rfl
theorem struct58 : Tryd.prog.underlying 83 = some (.struct (Tryd.prog.fieldsOf 83)) := by kernel_rfl
theorem stood58 : Tryd.prog.stoodInHeld 83 = false := by kernel_rfl
theorem info55 : ∃ i, Tryd.prog.info? 80 = some i := by
  have : (Tryd.prog.info? 80).isSome = true := by kernel_rfl
  exact Option.isSome_iff_exists.1 this

theorem eq58 (n n' : Nat) (f g : Nat → Nat) (w : World) : (Op.equalIn 10000 83 (.agg (rowL n f).toArray) (.agg (rowL n' g).toArray)).run Tryd.prog w = .ok ((n == n') && (List.range 16).all fun i => f i == g i) w := by
  obtain ⟨i55, h55⟩ := info55
  rw [run_equalIn_struct w 9999 83 _ _ struct58 stood58, eqFields58]
  have he := run_equalIn_int (P := Tryd.prog) w 9998 3 .i64 .i64 n n' Tryd.underlying3
  simp only [Sem.run_bind, part_size, Result.andThen_ok, he]
  by_cases e : n = n'
  · have e2 : ((n : Int) == (n' : Int)) = true := beq_iff_eq.2 (by omega)
    have e3 : (n == n') = true := beq_iff_eq.2 e
    have hw := eq_words 9997 f g w (List.range 16) (fun i hi => by simpa using hi)
    have ha := run_equalIn_array (P := Tryd.prog) w 9998 (wordsL f).toArray (wordsL g).toArray Tryd.underlying81 h55
    rw [cells55, hw] at ha
    rw [e2, e3]
    simp only [Bool.not_true, Bool.false_eq_true, if_false, Sem.run_bind, part_words, Result.andThen_ok, ha, Bool.true_and]
    cases (List.range 16).all fun i => f i == g i <;> simp
  · have e2 : ((n : Int) == (n' : Int)) = false := beq_eq_false_iff_ne.2 (fun h => e (by omega))
    have e3 : (n == n') = false := beq_eq_false_iff_ne.2 e
    rw [e2, e3]
    simp

/-- An operation that yields a value in the world as it stands. -/
theorem wpList_yields {P : Program} {ops : Array Oper} {rest : List Oper} {o : Oper} {a : Act} {w w' : World} {v : Value} {Q : Exit → Act → World → Prop} (hgd : o.guard = none)
    (hrun : (execOp a.eval o).run P w = .ok (.value v) w') (h : wpList P ops Q rest (a.put o.dst v) w') : wpList P ops Q (o :: rest) a w :=
  wpList_plain hgd fun _ hK => by unfold Oper.wp; rw [hrun]; exact hK _ _ h

theorem wpList_eq58 {ops : Array Oper} {rest : List Oper} {o : Oper} {a : Act} {w : World} {Q : Exit → Act → World → Prop} (hgd : o.guard = none) (x y : Operand) (t : TypeId) (ho : o.op = .binOp .eql 83 x y t)
    (n n' : Nat) (f g : Nat → Nat) (r : Bool) (hr : ((n == n') && (List.range 16).all fun i => f i == g i) = r) (hx : a.eval x = .agg (rowL n f).toArray) (hy : a.eval y = .agg (rowL n' g).toArray)
    (h : wpList Tryd.prog ops Q rest (a.put o.dst (.bool r)) w) : wpList Tryd.prog ops Q (o :: rest) a w := by
  subst hr
  refine wpList_yields hgd ?_ h
  have hg : (eqGuard .eql 83 x y (.agg (rowL n f).toArray) (.agg (rowL n' g).toArray)).run Tryd.prog w = .ok () w := run_eqGuard_agg w .eql 83 x y _ _ (by kernel_rfl)
  unfold execOp
  simp only [ho, hx, hy, Sem.run_bind, hg, Result.andThen_ok, run_eql_struct, eq58, Sem.run_pure]

theorem SetM.keep {w w' : World} {p : Option Addr} {n m : Nat} (h : SetM w p n m) (hb : Below w.heap.size w w') : SetM w' p n m := by
  refine ⟨h.1, h.2.1, ?_⟩
  rcases h.2.2 with h3 | ⟨b, rfl, hr⟩
  · exact .inl h3
  · exact .inr ⟨b, rfl, hr.below hb hr.lt⟩
theorem SetM.but {w w' : World} {p : Option Addr} {n m c : Nat} (h : SetM w p n m) (hb : But c w w') (hne : ∀ b, p = some ⟨b, 0, none⟩ → b ≠ c) : SetM w' p n m := by
  refine ⟨h.1, h.2.1, ?_⟩
  rcases h.2.2 with h3 | ⟨b, rfl, hr⟩
  · exact .inl h3
  · exact .inr ⟨b, rfl, hr.but hb (hne b rfl)⟩

/-- Have two sets the same size and members? -/
def eqB (n m n' m' : Nat) : Bool := decide (n = n' ∧ m = m')

theorem eqB_words {n m n' m' : Nat} (hn : n ≤ 1024) (hn' : n' ≤ 1024) (hm : m < 2 ^ n) (hm' : m' < 2 ^ n') : ((n == n') && (List.range 16).all fun i => wd m i == wd m' i) = eqB n m n' m' := by
  rw [Bool.eq_iff_iff]
  unfold eqB
  simp only [Bool.and_eq_true, beq_iff_eq, List.all_eq_true, List.mem_range, decide_eq_true_eq]
  constructor
  · rintro ⟨rfl, h⟩
    exact ⟨rfl, wd_ext hn hn hm hm' h⟩
  · rintro ⟨rfl, rfl⟩
    exact ⟨rfl, fun _ _ => rfl⟩

/-- A size as Of takes it. -/
def clampN (z : Int) : Nat := (min (max z 0) 1024).toNat
theorem clampN_le (z : Int) : clampN z ≤ 1024 := by unfold clampN; omega

theorem zero_row (n : Nat) : (#[Value.int IntKind.i64 n, Value.int IntKind.u64 0, Value.int IntKind.u64 0, Value.int IntKind.u64 0,
    Value.int IntKind.u64 0, Value.int IntKind.u64 0, Value.int IntKind.u64 0, Value.int IntKind.u64 0,
    Value.int IntKind.u64 0, Value.int IntKind.u64 0, Value.int IntKind.u64 0, Value.int IntKind.u64 0,
    Value.int IntKind.u64 0, Value.int IntKind.u64 0, Value.int IntKind.u64 0, Value.int IntKind.u64 0,
    Value.int IntKind.u64 0] : Array Value) = (rowL n (fun _ => 0)).toArray := rfl

/-- What Of leaves, whatever Add does to the new set. -/
theorem of_core (z : Int) (n k : Nat) (f : Nat → Nat) (v : Value) (w : World) (hn : clampN z = n)
    (hA : Calls Tryd.prog 58 #[.pointer (some ⟨w.heap.size, 0, none⟩), v] (w.alloc (.cells (rowL n (fun _ => 0)).toArray 83)) fun e w' =>
      e = .returned (.int .i64 k) ∧ RowAt w' w.heap.size n f ∧ But w.heap.size (w.alloc (.cells (rowL n (fun _ => 0)).toArray 83)) w') :
    Calls Tryd.prog 56 #[.int .i64 z, v] w fun e w' => e = .returned (.pointer (some ⟨w.heap.size, 0, none⟩)) ∧ RowAt w' w.heap.size n f ∧ Below w.heap.size w w' := by
  have HA := hA
  rw [← zero_row] at hA
  have fin : ∀ w', But w.heap.size (w.alloc (.cells (rowL n (fun _ => 0)).toArray 83)) w' → Below w.heap.size w w' := fun w' hb =>
    ((Below.refl _ w).alloc (Nat.le_refl _) _).trans (hb.below (by simp) (Nat.le_refl _))
  have FIN : Hid (∀ w', But w.heap.size (w.alloc (.cells (rowL n (fun _ => 0)).toArray 83)) w' → Below w.heap.size w w') := fin
  clear fin HA
  have HN : Hid (clampN z = n) := hn
  clear hn
  by_cases h1 : z ≤ 0
  · obtain rfl : n = 0 := by rw [← HN.out]; unfold clampN; omega
    by_cases h2 : z = 0
    · subst h2
      go_enter Tryd.func56, Tryd.ntmps56
      go_wp2_with fail
      refine hA.mono ?_
      rintro e w' ⟨rfl, hr, hb⟩
      go_wp2
      go_ret
      exact ⟨rfl, hr, FIN.out _ hb⟩
    · have h3 : z < 0 := by omega
      clear h1
      go_enter Tryd.func56, Tryd.ntmps56
      go_wp2_with fail
      refine hA.mono ?_
      rintro e w' ⟨rfl, hr, hb⟩
      go_wp2
      go_ret
      exact ⟨rfl, hr, FIN.out _ hb⟩
  · by_cases h2 : z ≤ 1024
    · obtain ⟨y, rfl⟩ := Int.eq_ofNat_of_zero_le (by omega : 0 ≤ z)
      obtain rfl : n = y := by rw [← HN.out]; unfold clampN; omega
      go_enter Tryd.func56, Tryd.ntmps56
      go_wp2_with fail
      refine hA.mono ?_
      rintro e w' ⟨rfl, hr, hb⟩
      go_wp2
      go_ret
      exact ⟨rfl, hr, FIN.out _ hb⟩
    · obtain rfl : n = 1024 := by rw [← HN.out]; unfold clampN; omega
      go_enter Tryd.func56, Tryd.ntmps56
      go_wp2_with fail
      refine hA.mono ?_
      rintro e w' ⟨rfl, hr, hb⟩
      go_wp2
      go_ret
      exact ⟨rfl, hr, FIN.out _ hb⟩

theorem IntsAt.below {w w' : World} {a : Option Addr} {l : List Int} (h : IntsAt w a l) (hb : Below w.heap.size w w') : IntsAt w' a l := by
  rcases h with h | ⟨b, off, rfl, hc⟩
  · exact .inl h
  · refine .inr ⟨b, off, rfl, fun i hi => ?_⟩
    have h1 := hc i hi
    rw [hb.cell (World.block_lt_of_cell? w _ h1)]; exact h1

theorem addS_lt (n m : Nat) (l : List Int) (hm : m < 2 ^ n) : (addS n m l).1 < 2 ^ n := by
  unfold addS
  generalize 0 = k
  induction l generalizing m k with
  | nil => exact hm
  | cons x l ih =>
    rw [List.foldl_cons]
    unfold addStep
    split
    · rename_i h
      have h1 : 0 ≤ x ∧ x < n := by simp [inB] at h; exact h.1
      exact ih (m ||| 2 ^ x.toNat) (lt_or hm (two_pow_lt (by omega))) (k + 1)
    · exact ih m hm k

theorem of_any (z : Int) (a : Option Addr) (cap : Nat) (l : List Int) (w : World) (hl : IntsAt w a l) (hlen : l.length < 1152921504606846976) :
    Calls Tryd.prog 56 #[.int .i64 z, .slice a l.length cap] w fun e w' =>
      e = .returned (.pointer (some ⟨w.heap.size, 0, none⟩)) ∧ SetM w' (some ⟨w.heap.size, 0, none⟩) (clampN z) (addS (clampN z) 0 l).1 ∧ Below w.heap.size w w' := by
  have hrow : RowAt (w.alloc (.cells (rowL (clampN z) (fun _ => 0)).toArray 83)) w.heap.size (clampN z) (wd 0) := by
    rw [wd_zero']; exact heap_alloc_last w _
  have hle := clampN_le z
  rcases hl with rfl | ⟨bl, off, rfl, hc⟩
  · refine (of_core z _ 0 (wd 0) _ w rfl ((add_none a cap _ _).mono ?_)).mono ?_
    · rintro e w' ⟨rfl, rfl⟩
      exact ⟨rfl, hrow, But.refl _ _⟩
    · rintro e w' ⟨rfl, hr, hb⟩
      exact ⟨rfl, SetM.of hr hle (Nat.two_pow_pos _), hb⟩
  · by_cases hne : l = []
    · subst hne
      refine (of_core z _ 0 (wd 0) _ w rfl ((add_none _ cap _ _).mono ?_)).mono ?_
      · rintro e w' ⟨rfl, rfl⟩
        exact ⟨rfl, hrow, But.refl _ _⟩
      · rintro e w' ⟨rfl, hr, hb⟩
        exact ⟨rfl, SetM.of hr hle (Nat.two_pow_pos _), hb⟩
    · have hlt : bl < w.heap.size := World.block_lt_of_cell? w _ (hc 0 (List.length_pos_iff.2 hne))
      have hc' : ∀ i, i < l.length → (w.alloc (.cells (rowL (clampN z) (fun _ => 0)).toArray 83)).cell? ⟨bl, off + i, none⟩ = some (.int .i64 (l.getD i 0)) := fun i hi => by
        rw [World.cell?_alloc_lt _ _ _ hlt]; exact hc i hi
      have hA := add_row w.heap.size (clampN z) 0 bl off cap l _ hle (Nat.two_pow_pos _) hrow (by omega) hlen hc'
      have hlt2 : (addS (clampN z) 0 l).1 < 2 ^ clampN z := addS_lt _ _ _ (Nat.two_pow_pos _)
      refine (of_core z _ (addS (clampN z) 0 l).2 (wd (addS (clampN z) 0 l).1) _ w rfl (hA.mono ?_)).mono ?_
      · rintro e w' ⟨rfl, hr, _, hb⟩
        exact ⟨rfl, hr, hb⟩
      · rintro e w' ⟨rfl, hr, hb⟩
        exact ⟨rfl, SetM.of hr hle hlt2, hb⟩

end Go.Proofs.YtdhojilmgnodeaaDoor.B
