/-
  A script that came in, as the walk takes it: its steps lie where it leads to.
-/
import Derived.Test.YtkbpnafahimeiaaDoes
import Derived.Test.YtkbpnafahimeiaaAwakeWalk
import Derived.Test.YtkbpnafahimeiaaGOpen
namespace Go.Proofs.Ytkbpnafahimeiaa
open Go.RowKit Go.Shelf

/-- A step as it lies in the memory. -/
structure OpD where
  kind : Int
  A : Int
  la : Option Addr
  lc : Nat
  l : List Int
  s : ByteArray

structure OpD.ok (w : World) (o : OpD) : Prop where
  kindb : -9223372036854775808 ≤ o.kind ∧ o.kind ≤ 9223372036854775807
  Ab : -9223372036854775808 ≤ o.A ∧ o.A ≤ 9223372036854775807
  ints : IntsAt w o.la o.l
  len : o.l.length ≤ 17592186044416
  slen : o.s.size ≤ 140737488355328

/-- The steps of a script lie where the slice leads to. -/
def OpsAt (w : World) (a : Option Addr) (n : Nat) (S : Nat → OpD) : Prop :=
  ∀ i, i < n → ∃ b off, a = some ⟨b, off, none⟩ ∧ w.cell? ⟨b, off + i * 4, none⟩ = some (.int .i64 (S i).kind) ∧ w.cell? ⟨b, off + i * 4 + 1, none⟩ = some (.int .i64 (S i).A) ∧ w.cell? ⟨b, off + i * 4 + 2, none⟩ = some (.slice (S i).la (S i).l.length (S i).lc) ∧ w.cell? ⟨b, off + i * 4 + 3, none⟩ = some (.string (S i).s) ∧ (S i).ok w

/-- What the calls make of a builder. -/
def plays (O : Nat → OpD) : Nat → BS
  | 0 => BS.zero
  | k + 1 => (plays O k).does (O k).kind (O k).A (O k).l (O k).s

structure PlAt (K : Nat → Prop) (X w : World) (x b r : Nat) (S : BS) : Prop where
  two : ∃ P Q, Two w K x b r S S P Q
  gX : Frm K X w

theorem PlAt.kept {K : Nat → Prop} {X w w' : World} {x b r : Nat} {S : BS} (h : PlAt K X w x b r S) (hg : w.grownBy w' none) : PlAt K X w' x b r S := by
  obtain ⟨P, Q, hT⟩ := h.two
  exact ⟨⟨_, _, hT.kept hg⟩, h.gX.kept hg⟩
theorem PlAt.cells {K : Nat → Prop} {X w : World} {x b r : Nat} {S : BS} (h : PlAt K X w x b r S) : w.cell? ⟨x, 0, none⟩ = some (.pointer (some ⟨b, 0, none⟩)) ∧ w.cell? ⟨x, 1, none⟩ = some (.pointer (some ⟨r, 0, none⟩)) := by
  obtain ⟨P, Q, hT⟩ := h.two
  refine ⟨?_, ?_⟩ <;> rw [cell_of_row _ _ _ _ _ _ hT.box] <;> rfl
theorem PlAt.does {K : Nat → Prop} {X w : World} {x b r : Nat} {S : BS} (h : PlAt K X w x b r S) (o : OpD) (ho : ∀ W, Frm K X W → o.ok W) (hb : o.l.length ≤ 17592186044416 ∧ o.s.size ≤ 140737488355328) :
    Calls Try.prog 8 #[.pointer (some ⟨x, 0, none⟩), .agg #[.int .i64 o.kind, .int .i64 o.A, .slice o.la o.l.length o.lc, .string o.s]] w fun e w' => e = .returned (.bool true) ∧ PlAt K X w' x b r (S.does o.kind o.A o.l o.s) := by
  obtain ⟨P, Q, hT⟩ := h.two
  exact (does_any X w K x b r S P Q hT h.gX o.kind o.A o.la o.lc o.l o.s (fun W hW => (ho W hW).ints) hb.1 hb.2).mono fun e w' ⟨h1, P', Q', h2, h3⟩ => ⟨h1, ⟨P', Q', h2⟩, h3⟩
theorem PlAt.told {K : Nat → Prop} {X w : World} {x b r : Nat} {S : BS} (h : PlAt K X w x b r S) :
    Calls Try.prog 9 #[.pointer (some ⟨x, 0, none⟩)] w fun e w' => e = .returned (.bool true) ∧ PlAt K X w' x b r S := by
  obtain ⟨P, Q, hT⟩ := h.two
  exact (told_any X w K x b r S P Q hT h.gX).mono fun e w' ⟨h1, P', Q', h2, h3⟩ => ⟨h1, ⟨P', Q', h2⟩, h3⟩

/-- A new builder has no row. -/
theorem zero_lone (w : World) : BCells w { BS.zero with P := fun g => w.heap.size ≤ g } zeroC := by
  have h := zero_cells w
  refine ⟨h.tm, h.tl, h.nm, h.nl, h.lv, h.sd, h.pr, h.st, fun g hg => hg, fun i hi g hv => ?_, fun gp k v g _ h2 => absurd h2 (Nat.not_lt_zero k)⟩
  rcases hi with rfl | rfl | rfl | rfl <;> cases hv

set_option maxRecDepth 100000 in
theorem new_lone (w : World) : Calls Try.prog 7 #[] w fun e w' => e = .returned (.pointer (some ⟨w.heap.size, 0, none⟩)) ∧ BAt w' w.heap.size { BS.zero with P := fun g => w'.heap.size ≤ g } ∧ w.grownBy w' none := by
  have hz : BAt (w.alloc (.cells ((List.range 72).map zeroC).toArray 69)) w.heap.size { BS.zero with P := fun g => (w.alloc (.cells ((List.range 72).map zeroC).toArray 69)).heap.size ≤ g } := by
    have h9 := zero_ok
    exact ⟨⟨h9.syms, h9.tnames, h9.nnames, h9.tnd, h9.nnd, h9.sides, h9.sdv, h9.prods, h9.lev, h9.lev0, h9.levT, h9.has, h9.pl, h9.pr, h9.plen, h9.pv, h9.st⟩, zeroC, heap_alloc_last w _, zero_lone _⟩
  rw [← builtB] at hz
  have HZ : Hid (BAt (w.alloc (.cells Try.zeroCells69 69)) w.heap.size { BS.zero with P := fun g => (w.alloc (.cells Try.zeroCells69 69)).heap.size ≤ g }) := hz
  clear hz
  go_enter Try.func7, Try.ntmps7
  go_wp2_with fail
  go_ret
  exact ⟨rfl, HZ.out, World.grownBy_alloc w _ none⟩

/-- Both builders, new: b is the program's, r the document's, x the box. -/
theorem PlAt.start {X w1 w2 w3 w4 : World} (hX : X.grownBy w1 none) (hB : BAt w2 w1.heap.size { BS.zero with P := fun g => w2.heap.size ≤ g }) (hg : w1.grownBy w2 none) (h3 : w3 = w2.alloc (.cells #[.slice none 0 0, .slice none 0 0, .slice none 0 0, .slice none 0 0, .int .i64 0] 33)) (h4 : w4 = w3.alloc (.cells #[.pointer (some ⟨w1.heap.size, 0, none⟩), .pointer (some ⟨w2.heap.size, 0, none⟩)] 35)) :
    PlAt (fun g => g < X.heap.size) X w4 w3.heap.size w1.heap.size w2.heap.size BS.zero := by
  have z3 : w3.heap.size = w2.heap.size + 1 := by rw [h3]; simp
  have z4 : w4.heap.size = w3.heap.size + 1 := by rw [h4]; simp
  have g23 : w2.grownBy w3 none := by rw [h3]; exact World.grownBy_alloc _ _ none
  have g34 : w3.grownBy w4 none := by rw [h4]; exact World.grownBy_alloc _ _ none
  have hr3 : w3.heap[w2.heap.size]? = some (.cells #[.slice none 0 0, .slice none 0 0, .slice none 0 0, .slice none 0 0, .int .i64 0] 33 (0, 0)) := by rw [h3]; exact heap_alloc_last w2 _
  have hr4 : w4.heap[w2.heap.size]? = some (.cells #[.slice none 0 0, .slice none 0 0, .slice none 0 0, .slice none 0 0, .int .i64 0] 33 (0, 0)) := (g34.block _ (by omega) (by simp)).trans hr3
  have hx4 : w4.heap[w3.heap.size]? = some (.cells #[.pointer (some ⟨w1.heap.size, 0, none⟩), .pointer (some ⟨w2.heap.size, 0, none⟩)] 35 (0, 0)) := by rw [h4]; exact heap_alloc_last w3 _
  have hlt1 : w1.heap.size < w2.heap.size := by
    obtain ⟨_, c, hr, _⟩ := hB
    exact (Array.getElem?_eq_some_iff.1 hr).1
  have sX := hX.size
  have s12 := hg.size
  have hB4 : BAt w4 w1.heap.size { BS.zero with P := fun g => (w2.heap.size ≤ g ∧ g < w2.heap.size) ∨ w4.heap.size ≤ g } := hB.off (Q := fun g => False) (GrownOff.of_none (grown_trans g23 g34)) (fun _ _ _ h => h)
  refine ⟨⟨fun g => (w2.heap.size ≤ g ∧ g < w2.heap.size) ∨ w4.heap.size ≤ g, fun g => g = w2.heap.size ∨ w4.heap.size ≤ g, hB4, ?_, ?_, ?_, ?_, ?_, ?_, ?_, ?_, ?_, hx4⟩, (Frm.refl fun g h => h).kept (grown_trans (grown_trans hX hg) (grown_trans g23 g34))⟩
  · refine ⟨fun g h => .inr h, .inl rfl, .slice none 0 0, .slice none 0 0, .slice none 0 0, .slice none 0 0, hr4, World.ownsRow_nil _ _ _ _, World.ownsRow_nil _ _ _ _, World.ownsRow_nil _ _ _ _, ⟨[], rfl, World.ownsRow_nil _ _ _ _, fun i hi => absurd hi (Nat.not_lt_zero i)⟩, fun g h => (by cases h), fun g h => (by cases h), fun g h => (by cases h), fun g h => (by cases h)⟩
  · rintro g hlt (⟨h, h0⟩ | h) (h' | h') <;> omega
  · rintro g (h | h) <;> omega
  · rintro g (⟨h, h0⟩ | h) <;> omega
  · show ¬ w1.heap.size < X.heap.size; omega
  · intro g h; have : g < X.heap.size := h; omega
  · rintro (h | h) <;> omega
  · omega
  · omega

theorem ops_keep {w wr : World} {a : Option Addr} {n : Nat} {O : Nat → OpD} (hO : OpsAt w a n O) {K : Nat → Prop} (hK : ∀ g, g < w.heap.size → K g) (hf : Frm K w wr) {k : Nat} (hk : k < n) :
    ∃ b off, a = some ⟨b, off, none⟩ ∧ wr.cell? ⟨b, off + k * 4, none⟩ = some (.int .i64 (O k).kind) ∧ wr.cell? ⟨b, off + k * 4 + 1, none⟩ = some (.int .i64 (O k).A) ∧ wr.cell? ⟨b, off + k * 4 + 2, none⟩ = some (.slice (O k).la (O k).l.length (O k).lc) ∧ wr.cell? ⟨b, off + k * 4 + 3, none⟩ = some (.string (O k).s) ∧ (O k).ok wr := by
  have hg : w.grownBy wr none := Frm.whole ⟨hf.os, hf.tape, hf.output, fun g h => hf.lt g (hK g h), fun g h => hf.eq g (hK g h)⟩
  obtain ⟨b, off, ha, c0, c1, c2, c3, hok⟩ := hO k hk
  exact ⟨b, off, ha, hg.cell c0 (by simp), hg.cell c1 (by simp), hg.cell c2 (by simp), hg.cell c3 (by simp), hok.kindb, hok.Ab, hok.ints.kept hg, hok.len, hok.slen⟩

set_option maxRecDepth 100000 in
set_option maxHeartbeats 4000000 in
theorem plays_any (a : Option Addr) (n cap : Nat) (O : Nat → OpD) (w : World) (hO : OpsAt w a n O) (hn : n ≤ 17592186044416) :
    Calls Try.prog 3 #[.slice a n cap] w fun e w' => e = .returned (.bool true) ∧ w.grownBy w' none := by
  have HO : Hid (OpsAt w a n O) := hO
  clear hO
  go_enter Try.func3, Try.ntmps3
  go_wp2_with fail
  refine (awake_any _).mono ?_
  rintro e w1 ⟨rfl, hg1⟩
  have HG1 : Hid (w.grownBy w1 none) := hg1
  clear hg1
  go_wp2_with fail
  refine (new_lone w1).mono ?_
  rintro e w2 ⟨rfl, hB2, hg2⟩
  have HB2 := show Hid _ from hB2
  have HG2 := show Hid _ from hg2
  clear hB2 hg2
  go_wp2_with fail
  obtain ⟨w3, hw3⟩ : ∃ w3, w3 = w2.alloc (.cells #[.slice none 0 0, .slice none 0 0, .slice none 0 0, .slice none 0 0, .int .i64 0] 33) := ⟨_, rfl⟩
  obtain ⟨w4, hw4⟩ : ∃ w4, w4 = w3.alloc (.cells #[.pointer (some ⟨w1.heap.size, 0, none⟩), .pointer (some ⟨w2.heap.size, 0, none⟩)] 35) := ⟨_, rfl⟩
  have HP0 := show Hid _ from PlAt.start HG1.out HB2.out HG2.out hw3 hw4
  have hz3 : w3.heap.size = w2.heap.size + 1 := by rw [hw3]; simp
  rw [← hw3, ← hw4]
  rw [hz3] at HP0
  clear hw3 hw4 hz3 HB2 HG2 HG1
  generalize w2.heap.size + 1 = x at *
  generalize w1.heap.size = b at *
  generalize w2.heap.size = r at *
  go_loopw [5] (fun i wr => ∃ k : Nat, k ≤ n ∧ i = .int .i64 k ∧ PlAt (fun g => g < w.heap.size) w wr x b r (plays O k)) (fun i _ => n - (intOf i).toNat)
  case atStart => exact ⟨0, Nat.zero_le _, rfl, HP0.out⟩
  case round =>
    obtain ⟨k, hk, rfl, hP⟩ := hrel
    have HP := show Hid _ from hP
    clear hP HP0
    by_cases hlt : k < n
    · obtain ⟨bo, off, rfl, d0, d1, d2, d3, hok⟩ := ops_keep HO.out (fun g h => h) HP.out.gX hlt
      have HST := show Hid _ from HP.out.does (O k) (fun W hW => (ops_keep HO.out (fun g h => h) hW hlt).choose_spec.choose_spec.2.2.2.2.2) ⟨hok.len, hok.slen⟩
      clear hok
      go_wp2_with fail
      refine Calls.mono HST.out ?_
      rintro e w5 ⟨rfl, hP5⟩
      have HP5 := show Hid _ from hP5
      clear hP5 HST d0 d1 d2 d3
      go_wp2_with fail
      go_roundw
      case rel => exact ⟨k + 1, by omega, by go_num, HP5.out⟩
      case measure => simp [intOf]; omega
    · go_wp2_with fail
      refine Calls.mono HP.out.told ?_
      rintro e w5 ⟨rfl, hP5⟩
      have HP5 := show Hid _ from hP5
      clear hP5
      go_wp2_with fail
      refine Calls.mono HP5.out.told ?_
      rintro e w6 ⟨rfl, hP6⟩
      have HP6 := show Hid _ from hP6
      clear hP6
      go_wp2_with fail
      go_ret
      exact ⟨rfl, HP6.out.gX.whole⟩

end Go.Proofs.Ytkbpnafahimeiaa

namespace Go.Proofs.Ytkbpnafahimeiaa
open Go.ChangeShapes Go.WideShapes Go.ChangeAt Go.RowKit Go.Deep

theorem cellsOp : Try.prog.cellsOf 38 = 4 := by kernel_rfl
theorem bytesOp : Try.prog.bytesOf 38 = 56 := by kernel_rfl

instance : Inhabited OpD := ⟨⟨0, 0, none, 0, [], ⟨#[]⟩⟩⟩

theorem wf_i64 {n : Int} (h : (Lit.int .i64 n).wf = true) : -9223372036854775808 ≤ n ∧ n ≤ 9223372036854775807 := by
  simp only [Lit.wf, Bool.and_eq_true, decide_eq_true_eq] at h
  exact h

set_option maxRecDepth 100000 in
theorem open_ops {H : Type} {enc : TypeId × Value → H} {W : World} {a : Option Addr} {len cap : Nat} {d : DataW H} {p : List MemPlace}
    (h : DataW.Trod enc Try.prog W 0 (fun _ => true) true 22 (.slice a len cap) d p) (hw : ∀ n ∈ d.weights Try.prog 22, n ≤ reachBytes) :
    ∃ S : Nat → OpD, OpsAt W a len S ∧ len ≤ 17592186044416 := by
  obtain ⟨fuel, hf⟩ := h
  rcases open_slice Try.underlying22 hf with ⟨hcs, _⟩ | ⟨ad, len', cap', m, n, D, Pl, hcs, _, hl, hm, hmm, hx, heach⟩
  · simp [Value.cells] at hcs
    obtain ⟨rfl, rfl, rfl⟩ := hcs
    exact ⟨fun _ => default, fun i hi => absurd hi (Nat.not_lt_zero i), by decide⟩
  · simp [Value.cells] at hcs
    obtain ⟨rfl, rfl, rfl⟩ := hcs
    simp only [if_true] at hmm
    simp only [Prod.mk.injEq] at hx
    obtain ⟨rfl, _⟩ := hx
    rw [cellsOp] at heach
    have hlen : len ≤ 17592186044416 := by
      have := hw (((List.range len).map D).length * 56 + ((List.range (m - len)).map fun j => D (len + j)).length * 56) (by simp [DataW.weights, Try.underlying22, bytesOp, Nat.add_mul])
      simp only [List.length_map, List.length_range, reachBytes] at this
      omega
    have each : ∀ i, i < len → ∃ o : OpD, ∃ b off, ad = ⟨b, off, none⟩ ∧ W.cell? ⟨b, off + i * 4, none⟩ = some (.int .i64 o.kind) ∧ W.cell? ⟨b, off + i * 4 + 1, none⟩ = some (.int .i64 o.A) ∧ W.cell? ⟨b, off + i * 4 + 2, none⟩ = some (.slice o.la o.l.length o.lc) ∧ W.cell? ⟨b, off + i * 4 + 3, none⟩ = some (.string o.s) ∧ o.ok W := by
      intro i hi
      obtain ⟨cs', h1, h2⟩ := heach i (by omega)
      obtain ⟨_, hcl, hcell⟩ := World.cells?_some h1
      obtain ⟨xs, k, hk, hxy, _, hxl, hfs⟩ := DataW.trod_struct Try.underlying38 h2
      have hDw : ∀ n ∈ (D i).weights Try.prog 38, n ≤ reachBytes := fun q hq => hw q (by
        simp only [DataW.weights, Try.underlying22, List.mem_cons, List.mem_append]
        exact .inr (.inl (weights_mem_all (List.mem_map.2 ⟨i, List.mem_range.2 hi, rfl⟩) q hq)))
      match xs, hxl, cs', hcl with
      | [y0, y1, y2, y3], _, [v0, v1, v2, v3], _ =>
        have g0 := hfs 0 _ rfl
        have g1 := hfs 1 _ rfl
        have g2 := hfs 2 _ rfl
        have g3 := hfs 3 _ rfl
        simp [cellsInt, cellsInts, cellsStr] at g0 g1 g2 g3
        simp only [Prod.mk.injEq] at hxy
        have hw2 : ∀ n ∈ y2.1.weights Try.prog 30, n ≤ reachBytes := fun q hq => hDw q (by
          rw [hxy.1]
          simp only [DataW.weights, Try.underlying38]
          exact DataW.weights_mem_each (j := 2) (t := 30) (d := y2.1) rfl rfl q hq)
        obtain ⟨z0, e0, _, w0⟩ := DataW.trod_int Try.underlying3 g0
        obtain ⟨z1, e1, _, w1⟩ := DataW.trod_int Try.underlying3 g1
        obtain ⟨la, l, lc, e2, hints, hll, _⟩ := open_ints_in g2 hw2
        obtain ⟨s3, e3, ed3, _⟩ := DataW.trod_string Try.underlying9 g3
        have hsz : s3.size ≤ 140737488355328 := by
          have := hDw s3.data.toList.length (by
            rw [hxy.1]
            simp only [DataW.weights, Try.underlying38]
            refine DataW.weights_mem_each (j := 3) (t := 9) (d := y3.1) rfl rfl _ ?_
            rw [show y3.1 = .lit (.string s3.data.toList) from congrArg Prod.fst ed3]
            simp [DataW.weights])
          have e : s3.data.toList.length = s3.size := by simp
          unfold reachBytes at this
          omega
        simp only [List.cons.injEq, and_true] at e0 e1 e2 e3
        subst e0 e1 e2 e3
        have c0 := hcell 0 (by omega)
        have c1 := hcell 1 (by omega)
        have c2 := hcell 2 (by omega)
        have c3 := hcell 3 (by omega)
        rw [Deep.add_add] at c0 c1 c2 c3
        obtain ⟨b, off, spot⟩ := ad
        have hs : spot = none := by
          obtain ⟨cs0, h10, _⟩ := heach 0 (by omega)
          obtain ⟨_, hcl0, hcell0⟩ := World.cells?_some h10
          have q0 := hcell0 0 (by omega)
          rw [List.getElem?_eq_getElem (by omega)] at q0
          simpa [Addr.add] using World.cell?_spot q0
        subst hs
        rw [add_plain] at c0 c1 c2 c3
        exact ⟨⟨z0, z1, la, lc, l, s3⟩, b, off, rfl, by simpa using c0, by simpa [Nat.add_assoc] using c1, by simpa [Nat.add_assoc] using c2, by simpa [Nat.add_assoc] using c3, wf_i64 w0, wf_i64 w1, hints, hll, hsz⟩
    obtain ⟨S, hS⟩ := choose_lt each
    exact ⟨S, fun i hi => by
      obtain ⟨b, off, rfl, r⟩ := hS i hi
      exact ⟨b, off, rfl, r⟩, hlen⟩

theorem own : ownKnob Try.prog.godebug = none := by kernel_rfl
theorem laidOut : laidOutB Try.prog = true := by kernel_rfl

end Go.Proofs.Ytkbpnafahimeiaa
