/-
  ScanEach, walked.
-/
import Derived.Test.YtpjckjggmcijjabDoorSRoundQuiet
namespace Go.Proofs.YtpjckjggmcijjabDoor
open Go.RowKit Go.Shelf

attribute [local go_sem] Oper.semAt_some

theorem grown_past {X A B : World} {r l : Nat} (h : X.grownBy A (some r)) (hg : A.grownBy B (some l)) (hl : X.heap.size ≤ l) : X.grownBy B (some r) :=
  ⟨hg.os.trans h.os, hg.tape.trans h.tape, hg.output.trans h.output, Nat.le_trans h.size hg.size, fun k hk hne => (hg.block k (Nat.lt_of_lt_of_le hk h.size) (by simp; omega)).trans (h.block k hk hne)⟩
theorem boxed_past {A B : World} {q l : Nat} {t : TypeId} {v : Value} (h : Boxed A q t v) (hg : A.grownBy B (some l)) (hl : q ≠ l) : Boxed B q t v := h.kept hg (by simp; omega)
theorem keptC_grown {r : Nat} {A B : World} {row : Option Nat} (hg : A.grownBy B row) (h1 : some r ≠ row) (h2 : some 0 ≠ row) : KeptC r A B := ⟨hg.size, fun _ _ _ ho => (hg.block r ho.lt h1).trans ho, fun h j hj => hg.cell (h j hj) (by simpa using h2)⟩
theorem keptC_book {X r : Nat} {A B : World} (hX : 0 < X) (h : Book X A B) : KeptC r A B := by
  obtain ⟨l, hg, hl, o, ho, hc⟩ := book_grown h
  refine ⟨hg.size, fun _ _ _ hR => ?_, fun h j hj => hg.cell (h j hj) (by simp; omega)⟩
  refine (hg.block r hR.lt (fun e => ?_)).trans hR
  cases e
  rw [show A.heap[r]? = _ from hR] at ho
  cases ho
  cases hc
theorem side_grown {X : Nat} {A B : World} {row : Option Nat} (hg : A.grownBy B row) (h : ∀ k, row = some k → k < X) : Side X A B := ⟨hg.size, fun k o hk ho _ => (hg.block k (Array.getElem?_eq_some_iff.1 ho).1 (fun e => by have := h k e.symm; omega)).trans ho⟩
theorem words_past {w3 A B : World} {b : Option Addr} {ws : List El} {l : Nat} (h0 : WordsAt w3 b ws) (h : WordsAt A b ws) (hg : A.grownBy B (some l)) (hl : w3.heap.size ≤ l) : WordsAt B b ws := by
  rcases h with h | ⟨blk, off, rfl, hc⟩
  · exact .inl h
  · rcases h0 with h0 | ⟨blk', off', e, hc0⟩
    · exact .inl h0
    · cases e
      right
      refine ⟨blk, off, rfl, fun i hi => ?_⟩
      have hb : blk < w3.heap.size := World.block_lt_of_cell? w3 _ (hc0 i hi).1
      exact ⟨hg.cell (hc i hi).1 (by simp; omega), hg.cell (hc i hi).2.1 (by simp; omega), hg.cell (hc i hi).2.2 (by simp; omega)⟩
/-- The list that grows in its box: rows of words, from the box on. -/
def LI (Z : World) (q : Nat) (pre : List El) (V : World) : Prop := Z.grownBy V (some q) ∧ ∃ v, Boxed V q 26 v ∧ V.ownsRow q 36 3 v pre.length (pre.flatMap elL)
theorem LI.alloc {Z V : World} {q : Nat} {pre : List El} (h : LI Z q pre V) (o : Obj) : LI Z q pre (V.alloc o) := by
  obtain ⟨hg, v, hv, hr⟩ := h
  exact ⟨grown_trans hg (grown_but _ (World.grownBy_alloc _ _ none)), v, hv.kept (World.grownBy_alloc _ _ none) (by simp), owns_kept hr (World.grownBy_alloc _ _ none)⟩
theorem LI.turn {Z A B : World} {q l : Nat} {pre : List El} (h : LI Z q pre A) (hg : A.grownBy B (some l)) (hl : Z.heap.size ≤ l) (hq : q < Z.heap.size) (hno : ∀ cur : Array Value, A.heap[l]? ≠ some (.cells cur 36 (0, 0))) : LI Z q pre B := by
  obtain ⟨hgz, v, hv, hr⟩ := h
  refine ⟨grown_past hgz hg hl, v, boxed_past hv hg (by omega), hr.kept hg ?_⟩
  rcases hr.2 with ⟨rfl, _⟩ | ⟨g, cap, cur, rfl, hge, hgb, _⟩
  · exact .inl rfl
  · right
    intro e
    have e' : some g = some l := e
    cases e'
    exact hno cur hgb
theorem LI.book {Z A B : World} {q : Nat} {pre : List El} (h : LI Z q pre A) (hb : Book Z.heap.size A B) (hq : q < Z.heap.size) : LI Z q pre B := by
  obtain ⟨l, hg, hl, o, ho, hc⟩ := book_grown hb
  exact h.turn hg hl hq (fun cur e => by rw [ho] at e; cases e; cases hc)
theorem reader_word : (55 : Nat) ≠ 36 := by decide
theorem LI.mv {Z A B : World} {q : Nat} {pre : List El} (h : LI Z q pre A) (hm : MvR (Z.heap.size + 2) A B) (hq : q < Z.heap.size) : LI Z q pre B := by
  refine h.turn hm.1 (by omega) hq (fun cur e => ?_)
  rcases hm.2 with h1 | ⟨s, i, b, h1⟩
  · have := (Array.getElem?_eq_some_iff.1 e).1; omega
  · rw [show A.heap[Z.heap.size + 2]? = _ from h1] at e
    cases e
theorem rat_append {V w1 : World} {q r n : Nat} {tmp : Obj} {v v' : Value} {xs : List Value} {s : ByteArray} {i : Nat} {b : Bool} (h : RAt V r s i b) (hrow : V.ownsRow q 36 3 v n xs) (hg : (V.alloc tmp).grownBy w1 v.ownBlock) (hr : r ≠ q) : RAt (w1.setCell ⟨q, 0, none⟩ v') r s i b := by
  have h1 : RAt (V.alloc tmp) r s i b := h.kept (World.grownBy_alloc _ _ none)
  have h2 : RAt w1 r s i b := by
    refine (hg.block r h1.lt (fun e => ?_)).trans h1
    rcases hrow.2 with ⟨rfl, _⟩ | ⟨g, cap, cur, rfl, hge, hgb, _⟩
    · cases e
    · have e' : some r = some g := e
      cases e'
      rw [show V.heap[r]? = _ from h] at hgb
      cases hgb
  exact (heap_other (by omega)).trans h2
theorem results_each (tmps : Array Value) (W : World) (R : Nat) (v : Value) (h4 : tmps.getD 4 undef = .pointer (some ⟨R, 0, none⟩)) (hb : Boxed W R 4 v) : (results Tryd.f4 tmps).run Tryd.prog W = .ok v W := by
  have h4' : tmps[4]?.getD undef = .pointer (some ⟨R, 0, none⟩) := by simpa using h4
  have hc := hb.cell
  simp [results, Tryd.results4, go_sem, h4', hc]
/-- The word at a prefix's end. -/
theorem prefix_at {ws pre : List El} {x : El} (h : (pre ++ [x]) <+: ws) : pre.length < ws.length ∧ ws.getD pre.length (0, ⟨#[]⟩, 0) = x := by
  obtain ⟨r, rfl⟩ := h
  constructor
  · simp
  · simp [List.getD]

set_option maxRecDepth 100000 in
set_option maxHeartbeats 1000000 in
theorem each_in (s : ByteArray) (st : Int) (hlo : -9223372036854775808 ≤ st) (hhi : st ≤ 9223372036854775807) (w : World) (ws : List El) (en : Option Nat) (hO : Ords w) (h : scanW s = (ws, en)) (HLEN : Hid (ws.length ≤ 8192)) (HAW : Hid (∀ W, Ords W → Calls Tryd.prog 8 #[] W fun e w' => e = .returned (.bool true) ∧ W.grownBy w' none)) :
    CallsIn Fence.wide 3 Tryd.prog 4 #[.string s, .int .i64 st] w fun e w' => e = .returned (.bool true) ∧ w.grownBy w' none := by
  have HO : Hid (Ords w) := hO
  have HS : Hid (scanW s = (ws, en)) := h
  have hw0 : 0 < w.heap.size := World.block_lt_of_cell? w _ (hO 0 (by decide))
  obtain ⟨i0, hi, hz0, hz1, hz2⟩ := info_parts infoWd
  clear hO h
  refine callsIn_of_wp_marks Tryd.func4 rfl trivial ?_ rfl
  simp only [Tryd.ntmps4, List.size_toArray, List.length_cons, List.length_nil, Nat.reduceAdd, Nat.reduceSub, Array.replicate_succ, Array.replicate_zero, List.push_toArray, List.append_toArray, List.nil_append, List.cons_append]
  gi_wp2
  have HB4 : Hid (Boxed (w.alloc (.cells #[.bool false] 4)) w.heap.size 4 (.bool false)) := heap_alloc_new w _
  have HG1 : Hid (w.grownBy (w.alloc (.cells #[.bool false] 4)) none) := World.grownBy_alloc _ _ _
  generalize w.alloc (.cells #[.bool false] 4) = w1 at *
  refine ⟨trivial, ?_⟩
  refine (callsIn_wide.2 (HAW.out w1 (HO.out.grown0 HG1.out))).mono ?_
  rintro e w2 ⟨rfl, hg2⟩
  have HG2 : Hid (w.grownBy w2 none) := grown_trans HG1.out hg2
  have HC4 : Hid (Boxed w2 w.heap.size 4 (.bool false)) := HB4.out.kept hg2 (by simp)
  clear hg2 HG1 HB4 HAW
  gi_wp2
  refine ⟨trivial, ?_⟩
  refine (callsIn_wide.2 (rall_any s w2 ws en HS.out)).mono ?_
  rintro e w3 ⟨b, cb, rfl, hR3, hg3⟩
  have HG3 : Hid (w.grownBy w3 none) := grown_trans HG2.out hg3
  have HD4 : Hid (Boxed w3 w.heap.size 4 (.bool false)) := HC4.out.kept hg3 (by simp)
  have HR3 : Hid (WordsAt w3 b ws) := hR3
  clear hg3 HG2 HC4 hR3
  gi_wp2
  have HB5 : Hid (Boxed (w3.alloc (.cells #[.slice b ws.length cb] 23)) w3.heap.size 23 (.slice b ws.length cb)) := heap_alloc_new w3 _
  have hga := World.grownBy_alloc w3 (.cells #[.slice b ws.length cb] 23) none
  generalize w3.alloc (.cells #[.slice b ws.length cb] 23) = w4 at *
  refine ⟨trivial, ?_⟩
  refine (callsIn_wide.2 (each_any s w4)).mono ?_
  rintro e w5 ⟨rfl, hq5, hg5⟩
  have HQ : Hid (w5.heap[w4.heap.size]? = some (.cells #[.string s] 9 (0, 0))) := hq5
  have hg35 := grown_trans hga hg5
  have HG5 : Hid (w.grownBy w5 none) := grown_trans HG3.out hg35
  have HE4 : Hid (Boxed w5 w.heap.size 4 (.bool false)) := HD4.out.kept hg35 (by simp)
  have HE5 : Hid (Boxed w5 w3.heap.size 23 (.slice b ws.length cb)) := HB5.out.kept hg5 (by simp)
  have HR5 : Hid (WordsAt w5 b ws) := HR3.out.kept hg35
  have h03 := HG3.out.size
  have h34 : w3.heap.size < w4.heap.size := HB5.out.lt
  have h45 : w4.heap.size < w5.heap.size := (Array.getElem?_eq_some_iff.1 hq5).1
  clear hga hg5 hg35 hq5 HG3 HD4 HB5
  have hnf := fun cap w => eql_nilFunc cap w
  have hc5 := HE5.out.cell
  obtain ⟨n, hn⟩ : ∃ n, n = ws.length := ⟨_, rfl⟩
  rw [← hn] at HLEN HE5 hc5 ⊢
  have HN : Hid (n = ws.length) := hn
  clear hn
  have hw := wrap_fits (x := (n : Int) + 1) (by omega) (by have := HLEN.out; omega)
  gi_wp2
  refine ⟨trivial, ?_⟩
  refine (callsIn_wide.2 (pick_any st hlo hhi (n + 1) (by omega) (by have := HLEN.out; omega) w5)).mono ?_
  rintro e w6 ⟨⟨k, hk, rfl⟩, hw6⟩
  subst hw6
  clear hnf hw
  by_cases hk0 : k = 0
  · subst hk0
    gi_wp2
    obtain ⟨X, hX⟩ : ∃ X, (w6.alloc (.cells #[.int .i64 0] 3)).alloc (.cells #[.int .i64 0] 3) = X := ⟨_, rfl⟩
    have hXs : X.heap.size = w6.heap.size + 2 := by rw [← hX, World.size_alloc, World.size_alloc]
    have HX6 : Hid (w6.grownBy X none) := by rw [← hX]; exact grown_trans (World.grownBy_alloc _ _ none) (World.grownBy_alloc _ _ none)
    have HX8 : Hid (Boxed X w6.heap.size 3 (.int .i64 0)) := by
      rw [← hX]
      exact ((World.grownBy_alloc _ _ none).block _ (by rw [World.size_alloc]; omega) (by simp)).trans (heap_alloc_new w6 _)
    have HX9 : Hid (Boxed X (w6.heap.size + 1) 3 (.int .i64 0)) := by rw [← hX]; exact alloc2_new w6 _ _
    rw [hX]
    clear hX
    have hga := World.grownBy_alloc X (.cells #[.slice none 0 0] 26) none
    have HZ11 : Hid (Boxed (X.alloc (.cells #[.slice none 0 0] 26)) X.heap.size 26 (.slice none 0 0)) := heap_alloc_new X _
    have h11s : (X.alloc (.cells #[.slice none 0 0] 26)).heap.size = X.heap.size + 1 := World.size_alloc _ _
    generalize X.alloc (.cells #[.slice none 0 0] 26) = Z at *
    have hgz := grown_trans HX6.out hga
    have HZ4 : Hid (Boxed Z w.heap.size 4 (.bool false)) := HE4.out.kept hgz (by simp)
    have HZ5 : Hid (Boxed Z w3.heap.size 23 (.slice b n cb)) := HE5.out.kept hgz (by simp)
    have HZ8 : Hid (Boxed Z w6.heap.size 3 (.int .i64 0)) := HX8.out.kept hga (by simp)
    have HZ9 : Hid (Boxed Z (w6.heap.size + 1) 3 (.int .i64 0)) := HX9.out.kept hga (by simp)
    have HZQ : Hid (Z.heap[w4.heap.size]? = some (.cells #[.string s] 9 (0, 0))) := (hgz.block _ h45 (by simp)).trans HQ.out
    have HZR : Hid (WordsAt Z b ws) := HR5.out.kept hgz
    have HZO : Hid (Ords Z) := HO.out.grown0 (grown_trans HG5.out hgz)
    have HZG : Hid (w.grownBy Z none) := grown_trans HG5.out hgz
    clear hga hgz HX6 HX8 HX9 HQ HE4 HE5 HR5 HG5 hc5
    rw [hXs] at HZ11 h11s
    obtain ⟨q11, hq11⟩ : ∃ q, q = w6.heap.size + 2 := ⟨_, rfl⟩
    rw [← hq11] at HZ11 h11s ⊢
    have h11 : q11 < Z.heap.size := by omega
    have h11b : Z.heap.size ≤ q11 + 1 := by omega
    have h11c : w6.heap.size + 2 ≤ q11 := by omega
    clear hq11 h11s hXs
    refine range_law (α := El) 23 (fun l => #[.func (.yield l) #[] #[], .pointer (some ⟨w4.heap.size, 0, none⟩)]) ?hres (fun x => #[elV x]) (fun _ => rfl) (MvR (Z.heap.size + 2)) (KeptC (Z.heap.size + 2)) (fun xs => xs <+: ws) (fun xs _ => xs = ws)
      (fun pre V => LI Z q11 pre V) (fun _ _ _ => False) ?hbook ?hnew ?hKt ?hmI ?hmX ?hmS ?hit ⟨grown_refl _ _, _, HZ11.out, World.ownsRow_nil _ _ _ _⟩ ?hround ?hdone ?hstop
    case hres =>
      intro l W
      refine ⟨{ target := .fn (.func 23) #[.pointer (some ⟨w4.heap.size, 0, none⟩)], args := #[.func (.yield l) #[] #[]] }, by simp only [resolve]; simp [go_sem], by simp [invoke, go_sem]⟩
    case hbook => exact fun hb => ⟨fun pre h => h.book hb h11, fun _ _ h => h, fun _ h => h, keptC_book (by omega) hb⟩
    case hnew => exact fun o A pre h => h.alloc o
    case hKt => exact fun h k => h.trans k
    case hmI => exact fun pre A B h hm => h.mv hm h11
    case hmX => exact fun c pre A B h hm => h
    case hmS => exact fun A B hm k o h1 h2 ho hc => (hm.1.block k (Array.getElem?_eq_some_iff.1 ho).1 (by simp; omega)).trans ho
    case hit =>
      intro J Jx W hg hsz hJ hJx hY h0
      refine (each1_in 2 (Z.heap.size + 1) w4.heap.size s ws en HS.out W J Jx (by rw [hsz]; exact hJ) (by rw [hsz]; exact hY) ((hg.block _ (by omega) (by simp)).trans HZQ.out) (HZO.out.grown0 hg) h0).mono ?_
      rintro e W' ⟨hv, (h1 | ⟨pre, _, h2⟩)⟩
      · exact ⟨hv, .inl ⟨ws, rfl, h1⟩⟩
      · exact ⟨hv, .inr ⟨pre, h2⟩⟩
    case hround =>
      intro pre x V hI hok
      obtain ⟨hp1, _⟩ := prefix_at hok
      rw [← HN.out] at hp1
      have hlen := HLEN.out
      have HII : Hid (LI Z q11 pre V) := hI
      clear hI hok
      unfold elV
      gi_wp2
      have hga := World.grownBy_alloc V (.cells (elL x).toArray 36) none
      refine ⟨side_grown hga (fun _ h => by cases h), keptC_grown hga (by simp) (by simp), HII.out.alloc _, ?_⟩
      clear hga HII
      rintro V2 hb ⟨hg, v, hv, hrow⟩
      have hbx : V2.heap[V.heap.size]? = some (.cells #[.int .i64 x.1, .string x.2.1, .int .i64 x.2.2] 36 (0, 0)) := by
        have b1 := heap_alloc_new V (.cells #[.int .i64 x.1, .string x.2.1, .int .i64 x.2.2] 36)
        obtain ⟨l, hg, hl, o, ho, hc⟩ := book_grown hb
        refine (hg.block _ (Array.getElem?_eq_some_iff.1 b1).1 (fun e => ?_)).trans b1
        cases e
        rw [b1] at ho; cases ho; cases hc
      obtain ⟨x0, x1, x2⟩ := three_cells hbx
      have c5 := (boxed_past HZ5.out hg (by omega)).cell
      obtain ⟨av, cv, hvf⟩ := owns_form hrow
      subst hvf
      have hcv := hv.cell
      have hs2 : q11 ≤ V2.heap.size := by have := hg.size; omega
      have d1 : decide ((n : Int) < (pre.length : Int)) = false := decide_eq_false (by omega)
      have d2 : decide (n < pre.length) = false := decide_eq_false (by omega)
      have HG : Hid (Z.grownBy V2 (some q11)) := hg
      clear hb hbx hg
      gi_wp2_with (gi_at_builtin; refine wpListIn_append_own _ rfl _ _ 26 rfl q11 36 i0 _ 3 32 Tryd.underlying26 hi hz0 hz1 hz2 rfl (by decide) _ _ _ rfl (hrow.alloc _) ⟨V2.heap.size, 0, none⟩ 1 1 (elL x) rfl rfl (fun j u hu => World.news_of_block (heap_alloc_new V2 _) j u hu) (by simp [elL, Value.oneCell']) (by unfold maxLen; omega) (by omega) (by simp; omega) ?_; intro v' v1 hown' hgrow _; obtain ⟨g', cap', rfl⟩ := ownsRow_succ hown'; have hrat := fun (s : ByteArray) (i : Nat) (b : Bool) (h : RAt V2 (Z.heap.size + 2) s i b) => rat_append (v' := .slice (some ⟨g', 0, none⟩) (pre.length + 1) cap') h hrow hgrow (by omega); obtain ⟨hv1, hv2, hr2, hk2, hb2⟩ := hv.appended (by decide) hrow (by omega) (Nat.le_refl _) hown' hgrow; have hc1 := hv1.cell; have hf1 := hv1.frozen)
      refine ⟨⟨hk2.size, fun k o _ h1 h2 => hk2.same k o h1 h2⟩, ⟨hb2.size, hrat, fun h j hj => (hb2.cell (p := ⟨0, j, none⟩) (by show 0 < q11; omega)).trans (h j hj)⟩, ⟨hb2.os.trans HG.out.os, hb2.tape.trans HG.out.tape, hb2.output.trans HG.out.output, Nat.le_trans HG.out.size hb2.size, fun j hj hne => (hb2.block j (by have : j ≠ q11 := fun e => hne (by rw [e]); omega)).trans (HG.out.block j hj hne)⟩, _, hv2, ?_⟩
      simpa using hr2
    case hdone =>
      rintro xs V hxs ⟨hg, v, hv, hrow⟩ hD2
      subst hxs
      have hn := HN.out
      subst hn
      obtain ⟨av, cv, hvf⟩ := owns_form hrow
      subst hvf
      have hcv := hv.cell
      have c5 := (boxed_past HZ5.out hg (by omega)).cell
      have c8 := (boxed_past HZ8.out hg (by omega)).cell
      have c9 := (boxed_past HZ9.out hg (by omega)).cell
      have dk : ((0 : Int) == (0 : Int)) = true := by simp
      have HWV : Hid (WordsAt V av xs) := owns_words hrow
      have HWR : Hid (WordsAt V b xs) := words_past HR3.out HZR.out hg (by omega)
      have HV4 : Hid (Boxed V w.heap.size 4 (.bool false)) := boxed_past HZ4.out hg (by omega)
      have HGV : Hid (w.grownBy V none) := grown_new HZG.out hg (by omega)
      have HDZ : Hid (V.heap[Z.heap.size]? = some (.deferred (some []))) := hD2
      clear hg hv hrow hD2
      gi_wp2
      refine ⟨trivial, ?_⟩
      refine (callsIn_wide.2 (are_same av b cv cb xs V HWV.out HWR.out HLEN.out)).mono ?_
      rintro e V3 ⟨rfl, hg3⟩
      have hb4 := HV4.out.kept hg3 (by simp)
      have c4 := hb4.cell
      have f4 := hb4.frozen
      have HB4 : Hid (Boxed V3 w.heap.size 4 (.bool false)) := hb4
      have HG3 : Hid (w.grownBy V3 none) := grown_trans HGV.out hg3
      have HD3 : Hid (V3.heap[Z.heap.size]? = some (.deferred (some []))) := (hg3.block _ (Array.getElem?_eq_some_iff.1 HDZ.out).1 (by simp)).trans HDZ.out
      clear hg3 hb4 HV4 HGV HDZ
      gi_wp2
      have k1 : (V3.setCell ⟨w.heap.size, 0, none⟩ (.bool true)).heap[Z.heap.size]? = some (.deferred (some [])) := (heap_other (by omega)).trans HD3.out
      have hbF := HB4.out.set (.bool true)
      have hgF : w.grownBy (V3.setCell ⟨w.heap.size, 0, none⟩ (.bool true)) none := grown_new HG3.out (grown_setCell _ _ _) (Nat.le_refl _)
      generalize V3.setCell ⟨w.heap.size, 0, none⟩ (.bool true) = E at *
      refine ⟨by simp, .inl ⟨_, _, rfl, run_takeDeferred k1, ?_⟩⟩
      have hp := grownBy_putObj' E Z.heap.size (.deferred none)
      have hbP : Boxed (E.putObj Z.heap.size (.deferred none)) w.heap.size 4 (.bool true) := hbF.kept hp (by simp; omega)
      have hgP : w.grownBy (E.putObj Z.heap.size (.deferred none)) none := grown_new hgF hp (by omega)
      exact ⟨_, results_each _ _ w.heap.size _ rfl hbP, rfl, hgP⟩
    case hstop => exact fun _ _ _ h _ => h.elim
  · have hkd : decide (0 < (k : Int)) = true := decide_eq_true (by omega)
    have hkd' : decide (0 < k) = true := decide_eq_true (by omega)
    clear hk0
    gi_wp2
    obtain ⟨X, hX⟩ : ∃ X, (w6.alloc (.cells #[.int .i64 k] 3)).alloc (.cells #[.int .i64 0] 3) = X := ⟨_, rfl⟩
    have hXs : X.heap.size = w6.heap.size + 2 := by rw [← hX, World.size_alloc, World.size_alloc]
    have HX6 : Hid (w6.grownBy X none) := by rw [← hX]; exact grown_trans (World.grownBy_alloc _ _ none) (World.grownBy_alloc _ _ none)
    have HX8 : Hid (Boxed X w6.heap.size 3 (.int .i64 k)) := by
      rw [← hX]
      exact ((World.grownBy_alloc _ _ none).block _ (by rw [World.size_alloc]; omega) (by simp)).trans (heap_alloc_new w6 _)
    have HX9 : Hid (Boxed X (w6.heap.size + 1) 3 (.int .i64 0)) := by rw [← hX]; exact alloc2_new w6 _ _
    have HXQ : Hid (X.heap[w4.heap.size]? = some (.cells #[.string s] 9 (0, 0))) := (HX6.out.block _ h45 (by simp)).trans HQ.out
    have HX4 : Hid (Boxed X w.heap.size 4 (.bool false)) := HE4.out.kept HX6.out (by simp)
    have HX5 : Hid (Boxed X w3.heap.size 23 (.slice b n cb)) := HE5.out.kept HX6.out (by simp)
    have HXR : Hid (WordsAt X b ws) := HR5.out.kept HX6.out
    have HXO : Hid (Ords X) := HO.out.grown0 (grown_trans HG5.out HX6.out)
    have HXG : Hid (w.grownBy X none) := grown_trans HG5.out HX6.out
    rw [hX]
    have hXa : w6.heap.size + 2 ≤ X.heap.size := Nat.le_of_eq hXs.symm
    have hXb : X.heap.size ≤ w6.heap.size + 2 := Nat.le_of_eq hXs
    clear hX hXs HX6 HQ HE4 HE5 HR5 HG5 hc5
    refine range_law (α := El) 23 (fun l => #[.func (.yield l) #[] #[], .pointer (some ⟨w4.heap.size, 0, none⟩)]) ?hres (fun x => #[elV x]) (fun _ => rfl) (MvR (X.heap.size + 2)) (KeptC (X.heap.size + 2)) (fun xs => xs <+: ws) (fun xs _ => xs = ws)
      (fun pre W => X.grownBy W (some (w6.heap.size + 1)) ∧ Boxed W (w6.heap.size + 1) 3 (.int .i64 pre.length) ∧ pre.length < k) (fun c _ W => c = .exit 0 ∧ X.grownBy W (some (w6.heap.size + 1)) ∧ Boxed W (w6.heap.size + 1) 3 (.int .i64 k)) ?hbook ?hnew ?hKt ?hmI ?hmX ?hmS ?hit ⟨grown_refl _ _, HX9.out, by simpa using hkd'⟩ ?hround ?hdone ?hstop
    case hres =>
      intro l W
      refine ⟨{ target := .fn (.func 23) #[.pointer (some ⟨w4.heap.size, 0, none⟩)], args := #[.func (.yield l) #[] #[]] }, by simp only [resolve]; simp [go_sem], by simp [invoke, go_sem]⟩
    case hbook =>
      intro A B hb
      have hkp := keptC_book (r := X.heap.size + 2) (by omega) hb
      obtain ⟨l, hg, hl, o, ho, hc⟩ := book_grown hb
      exact ⟨fun pre h => ⟨grown_past h.1 hg hl, boxed_past h.2.1 hg (by omega), h.2.2⟩, fun c pre h => ⟨h.1, grown_past h.2.1 hg hl, boxed_past h.2.2 hg (by omega)⟩, fun _ h => h, hkp⟩
    case hnew => exact fun o A pre h => ⟨grown_trans h.1 (grown_but _ (World.grownBy_alloc _ _ none)), h.2.1.kept (World.grownBy_alloc _ _ none) (by simp), h.2.2⟩
    case hKt => exact fun h k => h.trans k
    case hmI => exact fun pre A B h hm => ⟨grown_past h.1 hm.1 (by omega), boxed_past h.2.1 hm.1 (by omega), h.2.2⟩
    case hmX => exact fun c pre A B h hm => ⟨h.1, grown_past h.2.1 hm.1 (by omega), boxed_past h.2.2 hm.1 (by omega)⟩
    case hmS => exact fun A B hm k o h1 h2 ho hc => (hm.1.block k (Array.getElem?_eq_some_iff.1 ho).1 (by simp; omega)).trans ho
    case hit =>
      intro J Jx W hg hsz hJ hJx hY h0
      refine (each1_in 2 (X.heap.size + 1) w4.heap.size s ws en HS.out W J Jx (by rw [hsz]; exact hJ) (by rw [hsz]; exact hY) ((hg.block _ (by omega) (by simp)).trans HXQ.out) (HXO.out.grown0 hg) h0).mono ?_
      rintro e W' ⟨hv, (h1 | ⟨pre, _, h2⟩)⟩
      · exact ⟨hv, .inl ⟨ws, rfl, h1⟩⟩
      · exact ⟨hv, .inr ⟨pre, h2⟩⟩
    case hround =>
      intro pre x W hI hok
      obtain ⟨hp1, hp2⟩ := prefix_at hok
      rw [← HN.out] at hp1
      have HP2 : Hid (ws.getD pre.length (0, ⟨#[]⟩, 0) = x) := hp2
      have HII : Hid (X.grownBy W (some (w6.heap.size + 1)) ∧ Boxed W (w6.heap.size + 1) 3 (.int .i64 pre.length) ∧ pre.length < k) := hI
      clear hI hp2 hok
      unfold elV
      gi_wp2
      have hga := World.grownBy_alloc W (.cells (elL x).toArray 36) none
      refine ⟨side_grown hga (fun _ h => by cases h), keptC_grown hga (by simp) (by simp), ⟨grown_trans HII.out.1 (grown_but _ hga), HII.out.2.1.kept hga (by simp), HII.out.2.2⟩, ?_⟩
      clear hga HII
      rintro W2 hb ⟨hg, hb9, hltk⟩
      have hbx : W2.heap[W.heap.size]? = some (.cells #[.int .i64 x.1, .string x.2.1, .int .i64 x.2.2] 36 (0, 0)) := by
        have b1 := heap_alloc_new W (.cells #[.int .i64 x.1, .string x.2.1, .int .i64 x.2.2] 36)
        obtain ⟨l, hg, hl, o, ho, hc⟩ := book_grown hb
        refine (hg.block _ (Array.getElem?_eq_some_iff.1 b1).1 (fun e => ?_)).trans b1
        cases e
        rw [b1] at ho; cases ho; cases hc
      obtain ⟨x0, x1, x2⟩ := three_cells hbx
      have c9 := hb9.cell
      have f9 := hb9.frozen
      have c5 := (boxed_past HX5.out hg (by omega)).cell
      have c8 := (boxed_past HX8.out hg (by omega)).cell
      have hWA := words_past HR3.out HXR.out hg (by omega)
      have HG : Hid (X.grownBy W2 (some (w6.heap.size + 1))) := hg
      have HB9 : Hid (Boxed W2 (w6.heap.size + 1) 3 (.int .i64 pre.length)) := hb9
      clear hb hbx hg hb9
      rcases hWA with h0 | ⟨blk, off, rfl, hcs⟩
      · have := HN.out; rw [h0] at this; simp at this; omega
      · obtain ⟨a0, a1, a2⟩ := hcs pre.length (by rw [← HN.out]; exact hp1)
        rw [HP2.out] at a0 a1 a2
        have e1 : ((x.1 : Int) != (x.1 : Int)) = false := by simp
        have e2 : (x.2.1.toList != x.2.1.toList) = false := by simp
        have e3 : ((x.2.2 : Int) != (x.2.2 : Int)) = false := by simp
        have d1 : decide ((n : Int) ≤ (pre.length : Int)) = false := decide_eq_false (by omega)
        have d2 : decide (n ≤ pre.length) = false := decide_eq_false (by omega)
        have hwr := wrap_fits (x := (pre.length : Int) + 1) (by omega) (by have := HLEN.out; omega)
        clear hcs HP2
        by_cases hke : pre.length + 1 = k
        · have dk : (((pre.length : Int) + 1) == (k : Int)) = true := by simp; omega
          have HKE : Hid (pre.length + 1 = k) := hke
          clear hke
          gi_wp2
          refine region_round (by kernel_rfl) (by kernel_rfl) (by kernel_rfl) ?_
          repeat (gi_big_quiet_step (fail))
          refine wpQuietIn_nil ?_
          rintro _ ⟨nq, rfl⟩
          gi_wp2
          have hgs : W2.grownBy ((W2.drewN nq).setCell ⟨w6.heap.size + 1, 0, none⟩ (.int .i64 ((pre.length : Int) + 1))) (some (w6.heap.size + 1)) := grown_trans (grown_but _ (grown_drewN _ _)) (grown_setCell _ _ _)
          have hbs := (show Boxed (W2.drewN nq) (w6.heap.size + 1) 3 (.int .i64 pre.length) from HB9.out).set (.int .i64 ((pre.length : Int) + 1))
          rw [show ((pre.length : Int) + 1) = (k : Int) by have := HKE.out; omega] at hgs hbs ⊢
          exact ⟨side_grown hgs (fun k hk => by cases hk; omega), rfl, grown_trans HG.out hgs, hbs⟩
        · have dk : (((pre.length : Int) + 1) == (k : Int)) = false := by simp; omega
          have HLT : Hid (pre.length + 1 < k) := by show _ < _; omega
          clear hke
          gi_wp2
          refine region_round (by kernel_rfl) (by kernel_rfl) (by kernel_rfl) ?_
          repeat (gi_big_quiet_step (fail))
          refine wpQuietIn_nil ?_
          rintro _ ⟨nq, rfl⟩
          gi_wp2
          have hgs : W2.grownBy ((W2.drewN nq).setCell ⟨w6.heap.size + 1, 0, none⟩ (.int .i64 ((pre.length : Int) + 1))) (some (w6.heap.size + 1)) := grown_trans (grown_but _ (grown_drewN _ _)) (grown_setCell _ _ _)
          have hbs := (show Boxed (W2.drewN nq) (w6.heap.size + 1) 3 (.int .i64 pre.length) from HB9.out).set (.int .i64 ((pre.length : Int) + 1))
          have hpl : ((pre ++ [x]).length : Int) = (pre.length : Int) + 1 := by simp
          refine ⟨side_grown hgs (fun k hk => by cases hk; omega), keptC_grown hgs (by simp; omega) (by simp), grown_trans HG.out hgs, ?_, by have := HLT.out; simpa using this⟩
          rw [hpl]
          exact hbs
    case hdone =>
      rintro xs W hxs hI hD
      have h1 := hI.2.2
      rw [hxs, ← HN.out] at h1
      omega
    case hstop =>
      rintro c pre W ⟨rfl, hg, hb9⟩ hD
      have HZ4' : Hid (Boxed W w.heap.size 4 (.bool false)) := boxed_past HX4.out hg (by omega)
      have HZ5' : Hid (Boxed W w3.heap.size 23 (.slice b n cb)) := boxed_past HX5.out hg (by omega)
      have HZ8' : Hid (Boxed W w6.heap.size 3 (.int .i64 k)) := boxed_past HX8.out hg (by omega)
      have HZ9' : Hid (Boxed W (w6.heap.size + 1) 3 (.int .i64 k)) := hb9
      have HZQ' : Hid (W.heap[w4.heap.size]? = some (.cells #[.string s] 9 (0, 0))) := (hg.block _ (by omega) (by simp; omega)).trans HXQ.out
      have HZR' : Hid (WordsAt W b ws) := words_past HR3.out HXR.out hg (by omega)
      have HZO' : Hid (Ords W) := HXO.out.grown hg (by omega)
      have HZG' : Hid (w.grownBy W none) := grown_new HXG.out hg (by omega)
      have HDX' : Hid (W.heap[X.heap.size]? = some (.deferred (some []))) := hD
      have hXW := (Array.getElem?_eq_some_iff.1 hD).1
      clear hg hb9 hD HX4 HX5 HX8 HX9 HXQ HXR HXO HXG
      gi_wp2
      have hga := World.grownBy_alloc W (.cells #[.slice none 0 0] 26) none
      have HZ11 : Hid (Boxed (W.alloc (.cells #[.slice none 0 0] 26)) W.heap.size 26 (.slice none 0 0)) := heap_alloc_new W _
      have h11s : (W.alloc (.cells #[.slice none 0 0] 26)).heap.size = W.heap.size + 1 := World.size_alloc _ _
      generalize W.alloc (.cells #[.slice none 0 0] 26) = Z at *
      have HZ4 : Hid (Boxed Z w.heap.size 4 (.bool false)) := HZ4'.out.kept hga (by simp)
      have HZ5 : Hid (Boxed Z w3.heap.size 23 (.slice b n cb)) := HZ5'.out.kept hga (by simp)
      have HZ8 : Hid (Boxed Z w6.heap.size 3 (.int .i64 k)) := HZ8'.out.kept hga (by simp)
      have HZ9 : Hid (Boxed Z (w6.heap.size + 1) 3 (.int .i64 k)) := HZ9'.out.kept hga (by simp)
      have HZQ : Hid (Z.heap[w4.heap.size]? = some (.cells #[.string s] 9 (0, 0))) := (hga.block _ (by omega) (by simp)).trans HZQ'.out
      have HZR : Hid (WordsAt Z b ws) := HZR'.out.kept hga
      have HZO : Hid (Ords Z) := HZO'.out.grown0 hga
      have HZG : Hid (w.grownBy Z none) := grown_trans HZG'.out hga
      have HDZX : Hid (Z.heap[X.heap.size]? = some (.deferred (some []))) := (hga.block _ hXW (by simp)).trans HDX'.out
      clear hga HZ4' HZ5' HZ8' HZ9' HZQ' HZR' HZO' HZG' HDX'
      obtain ⟨q11, hq11⟩ : ∃ q, q = W.heap.size := ⟨_, rfl⟩
      rw [← hq11] at HZ11 h11s hXW ⊢
      have h11 : q11 < Z.heap.size := by omega
      have h11b : Z.heap.size ≤ q11 + 1 := by omega
      clear hq11 h11s
      refine range_law (α := El) 23 (fun l => #[.func (.yield l) #[] #[], .pointer (some ⟨w4.heap.size, 0, none⟩)]) ?hres (fun x => #[elV x]) (fun _ => rfl) (MvR (Z.heap.size + 2)) (KeptC (Z.heap.size + 2)) (fun xs => xs <+: ws) (fun xs _ => xs = ws)
        (fun pre V => LI Z q11 pre V) (fun _ _ _ => False) ?hbook ?hnew ?hKt ?hmI ?hmX ?hmS ?hit ⟨grown_refl _ _, _, HZ11.out, World.ownsRow_nil _ _ _ _⟩ ?hround ?hdone ?hstop
      case hres =>
        intro l W
        refine ⟨{ target := .fn (.func 23) #[.pointer (some ⟨w4.heap.size, 0, none⟩)], args := #[.func (.yield l) #[] #[]] }, by simp only [resolve]; simp [go_sem], by simp [invoke, go_sem]⟩
      case hbook => exact fun hb => ⟨fun pre h => h.book hb h11, fun _ _ h => h, fun _ h => h, keptC_book (by omega) hb⟩
      case hnew => exact fun o A pre h => h.alloc o
      case hKt => exact fun h k => h.trans k
      case hmI => exact fun pre A B h hm => h.mv hm h11
      case hmX => exact fun c pre A B h hm => h
      case hmS => exact fun A B hm k o h1 h2 ho hc => (hm.1.block k (Array.getElem?_eq_some_iff.1 ho).1 (by simp; omega)).trans ho
      case hit =>
        intro J Jx W hg hsz hJ hJx hY h0
        refine (each1_in 2 (Z.heap.size + 1) w4.heap.size s ws en HS.out W J Jx (by rw [hsz]; exact hJ) (by rw [hsz]; exact hY) ((hg.block _ (by omega) (by simp)).trans HZQ.out) (HZO.out.grown0 hg) h0).mono ?_
        rintro e W' ⟨hv, (h1 | ⟨pre, _, h2⟩)⟩
        · exact ⟨hv, .inl ⟨ws, rfl, h1⟩⟩
        · exact ⟨hv, .inr ⟨pre, h2⟩⟩
      case hround =>
        intro pre x V hI hok
        obtain ⟨hp1, _⟩ := prefix_at hok
        rw [← HN.out] at hp1
        have hlen := HLEN.out
        have HII : Hid (LI Z q11 pre V) := hI
        clear hI hok
        unfold elV
        gi_wp2
        have hga := World.grownBy_alloc V (.cells (elL x).toArray 36) none
        refine ⟨side_grown hga (fun _ h => by cases h), keptC_grown hga (by simp) (by simp), HII.out.alloc _, ?_⟩
        clear hga HII
        rintro V2 hb ⟨hg, v, hv, hrow⟩
        have hbx : V2.heap[V.heap.size]? = some (.cells #[.int .i64 x.1, .string x.2.1, .int .i64 x.2.2] 36 (0, 0)) := by
          have b1 := heap_alloc_new V (.cells #[.int .i64 x.1, .string x.2.1, .int .i64 x.2.2] 36)
          obtain ⟨l, hg, hl, o, ho, hc⟩ := book_grown hb
          refine (hg.block _ (Array.getElem?_eq_some_iff.1 b1).1 (fun e => ?_)).trans b1
          cases e
          rw [b1] at ho; cases ho; cases hc
        obtain ⟨x0, x1, x2⟩ := three_cells hbx
        have c5 := (boxed_past HZ5.out hg (by omega)).cell
        obtain ⟨av, cv, hvf⟩ := owns_form hrow
        subst hvf
        have hcv := hv.cell
        have hs2 : q11 ≤ V2.heap.size := by have := hg.size; omega
        have d1 : decide ((n : Int) < (pre.length : Int)) = false := decide_eq_false (by omega)
        have d2 : decide (n < pre.length) = false := decide_eq_false (by omega)
        have HG : Hid (Z.grownBy V2 (some q11)) := hg
        clear hb hbx hg
        gi_wp2_with (gi_at_builtin; refine wpListIn_append_own _ rfl _ _ 26 rfl q11 36 i0 _ 3 32 Tryd.underlying26 hi hz0 hz1 hz2 rfl (by decide) _ _ _ rfl (hrow.alloc _) ⟨V2.heap.size, 0, none⟩ 1 1 (elL x) rfl rfl (fun j u hu => World.news_of_block (heap_alloc_new V2 _) j u hu) (by simp [elL, Value.oneCell']) (by unfold maxLen; omega) (by omega) (by simp; omega) ?_; intro v' v1 hown' hgrow _; obtain ⟨g', cap', rfl⟩ := ownsRow_succ hown'; have hrat := fun (s : ByteArray) (i : Nat) (b : Bool) (h : RAt V2 (Z.heap.size + 2) s i b) => rat_append (v' := .slice (some ⟨g', 0, none⟩) (pre.length + 1) cap') h hrow hgrow (by omega); obtain ⟨hv1, hv2, hr2, hk2, hb2⟩ := hv.appended (by decide) hrow (by omega) (Nat.le_refl _) hown' hgrow; have hc1 := hv1.cell; have hf1 := hv1.frozen)
        refine ⟨⟨hk2.size, fun k o _ h1 h2 => hk2.same k o h1 h2⟩, ⟨hb2.size, hrat, fun h j hj => (hb2.cell (p := ⟨0, j, none⟩) (by show 0 < q11; omega)).trans (h j hj)⟩, ⟨hb2.os.trans HG.out.os, hb2.tape.trans HG.out.tape, hb2.output.trans HG.out.output, Nat.le_trans HG.out.size hb2.size, fun j hj hne => (hb2.block j (by have : j ≠ q11 := fun e => hne (by rw [e]); omega)).trans (HG.out.block j hj hne)⟩, _, hv2, ?_⟩
        simpa using hr2
      case hdone =>
        rintro xs V hxs ⟨hg, v, hv, hrow⟩ hD2
        subst hxs
        have hn := HN.out
        subst hn
        obtain ⟨av, cv, hvf⟩ := owns_form hrow
        subst hvf
        have hcv := hv.cell
        have c5 := (boxed_past HZ5.out hg (by omega)).cell
        have c8 := (boxed_past HZ8.out hg (by omega)).cell
        have c9 := (boxed_past HZ9.out hg (by omega)).cell
        have dk : ((k : Int) == (k : Int)) = true := by simp
        have HWV : Hid (WordsAt V av xs) := owns_words hrow
        have HWR : Hid (WordsAt V b xs) := words_past HR3.out HZR.out hg (by omega)
        have HV4 : Hid (Boxed V w.heap.size 4 (.bool false)) := boxed_past HZ4.out hg (by omega)
        have HGV : Hid (w.grownBy V none) := grown_new HZG.out hg (by omega)
        have HDZ : Hid (V.heap[Z.heap.size]? = some (.deferred (some []))) := hD2
        have HDX : Hid (V.heap[X.heap.size]? = some (.deferred (some []))) := (hg.block _ (by omega) (by simp; omega)).trans HDZX.out
        clear hg hv hrow hD2
        gi_wp2
        refine ⟨trivial, ?_⟩
        refine (callsIn_wide.2 (are_same av b cv cb xs V HWV.out HWR.out HLEN.out)).mono ?_
        rintro e V3 ⟨rfl, hg3⟩
        have hb4 := HV4.out.kept hg3 (by simp)
        have c4 := hb4.cell
        have f4 := hb4.frozen
        have HB4 : Hid (Boxed V3 w.heap.size 4 (.bool false)) := hb4
        have HG3 : Hid (w.grownBy V3 none) := grown_trans HGV.out hg3
        have HD3 : Hid (V3.heap[Z.heap.size]? = some (.deferred (some []))) := (hg3.block _ (Array.getElem?_eq_some_iff.1 HDZ.out).1 (by simp)).trans HDZ.out
        have HDX3 : Hid (V3.heap[X.heap.size]? = some (.deferred (some []))) := (hg3.block _ (Array.getElem?_eq_some_iff.1 HDX.out).1 (by simp)).trans HDX.out
        clear hg3 hb4 HV4 HGV HDZ
        gi_wp2
        have k1 : (V3.setCell ⟨w.heap.size, 0, none⟩ (.bool true)).heap[Z.heap.size]? = some (.deferred (some [])) := (heap_other (by omega)).trans HD3.out
        have hbF := HB4.out.set (.bool true)
        have hgF : w.grownBy (V3.setCell ⟨w.heap.size, 0, none⟩ (.bool true)) none := grown_new HG3.out (grown_setCell _ _ _) (Nat.le_refl _)
        have k2 : (V3.setCell ⟨w.heap.size, 0, none⟩ (.bool true)).heap[X.heap.size]? = some (.deferred (some [])) := (heap_other (by omega)).trans HDX3.out
        generalize V3.setCell ⟨w.heap.size, 0, none⟩ (.bool true) = E at *
        refine ⟨by simp, .inl ⟨_, _, rfl, run_takeDeferred k1, ?_⟩⟩
        have hp := grownBy_putObj' E Z.heap.size (.deferred none)
        have hbP : Boxed (E.putObj Z.heap.size (.deferred none)) w.heap.size 4 (.bool true) := hbF.kept hp (by simp; omega)
        have hgP : w.grownBy (E.putObj Z.heap.size (.deferred none)) none := grown_new hgF hp (by omega)
        have k3 : (E.putObj Z.heap.size (.deferred none)).heap[X.heap.size]? = some (.deferred (some [])) := (World.putObj_heap_other (by omega)).trans k2
        generalize E.putObj Z.heap.size (.deferred none) = E2 at *
        refine ⟨by simp, .inl ⟨_, _, rfl, run_takeDeferred k3, ?_⟩⟩
        have hp2 := grownBy_putObj' E2 X.heap.size (.deferred none)
        exact ⟨_, results_each _ _ w.heap.size _ rfl (hbP.kept hp2 (by simp; omega)), rfl, grown_new hgP hp2 (by omega)⟩
      case hstop => exact fun _ _ _ h _ => h.elim

theorem scanW_len {s : ByteArray} {ws : List El} {en : Option Nat} (h : scanW s = (ws, en)) : ws.length ≤ 8192 := by
  unfold scanW at h
  split at h
  · cases h; simp
  · have := scan_len s
    rw [h] at this
    simp only at this
    omega

theorem eachL_any (s : ByteArray) (st : Int) (hlo : -9223372036854775808 ≤ st) (hhi : st ≤ 9223372036854775807) (w : World) (hO : Ords w) : Calls Tryd.prog 4 #[.string s, .int .i64 st] w fun e w' => e = .returned (.bool true) ∧ w.grownBy w' none := by
  obtain ⟨ws, en, h⟩ : ∃ ws en, scanW s = (ws, en) := ⟨_, _, rfl⟩
  exact callsIn_wide.1 (each_in s st hlo hhi w ws en hO h (scanW_len h) (fun W hW => awake_any W hW))

end Go.Proofs.YtpjckjggmcijjabDoor
