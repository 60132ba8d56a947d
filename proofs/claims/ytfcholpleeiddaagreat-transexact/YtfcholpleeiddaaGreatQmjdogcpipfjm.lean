import Derived.Test.YtfcholpleeiddaaGreatQemaobhaadenc
import Derived.Test.YtfcholpleeiddaaGreatQnnfnfenbllkn
import Derived.Deep.RegionHeld3
import Derived.Test.YtfcholpleeiddaaGreatQnkejppgjnodo
import Derived.BigQuiet

/-
  trans: the document's transitions, and the terminals right behind one.
-/
namespace Go.Proofs.YtfcholpleeiddaaGreat.J
open Go.RowKit Go.Maps Go.Shelf

attribute [local go_sem] Oper.semAt_some

section
variable (ta na la pa sa : Option Addr) (tc nc lc pc sc : Nat) (n N : Nat) (st ask nI : Int) (w : World) (tn nn ln : Nat)
set_option maxRecDepth 100000 in
theorem risNon_any (htn : tn ≤ 65) (hnn : nn ≤ 65) (s : Nat) (hs : s < tn + nn) (b : Bool) (hb : b = decide (tn ≤ s)) : Calls Tryz.prog 30 #[.agg #[.slice ta tn tc, .slice na nn nc, .slice la ln lc, .int .i64 st, .slice pa n pc], .int .i64 (s : Int)] w fun e y => e = .returned (.bool b) ∧ w.grownBy y none := by
  obtain ⟨S, hS⟩ : ∃ S, S = tn + nn := ⟨_, rfl⟩
  have HSY : Hid (∀ X, Calls Tryz.prog 27 #[.agg #[.slice ta tn tc, .slice na nn nc, .slice la ln lc, .int .i64 st, .slice pa n pc]] X fun e y => e = .returned (.int .i64 (S : Int)) ∧ X.grownBy y none) := fun X => by
    refine (Go.Proofs.YtfcholpleeiddaaGreat.symbols_any ta na la pa tn nn ln n tc nc lc pc st X (by omega) (by omega)).mono ?_
    rintro e y ⟨rfl, hg⟩
    exact ⟨by rw [hS, Int.natCast_add], hg⟩
  have HX0 : Hid (w.grownBy (w.alloc (.cells #[.slice ta tn tc, .slice na nn nc, .slice la ln lc, .int .i64 st, .slice pa n pc] 27)) none) := World.grownBy_alloc _ _ none
  rw [← hS] at hs
  clear hS
  by_cases h : tn ≤ s
  · rw [hb, decide_eq_true h]
    have h1 : decide ((tn : Int) ≤ (s : Int)) = true := decide_eq_true (by omega)
    have h2 : decide (tn ≤ s) = true := decide_eq_true h
    have h3 : decide (s < S) = true := decide_eq_true hs
    have h4 : decide ((s : Int) < (S : Int)) = true := decide_eq_true (by omega)
    clear hb
    go_enter Tryz.func30, Tryz.ntmps30
    go_wp2_with fail
    refine Calls.mono (HSY.out _) ?_
    rintro e w1 ⟨rfl, hg1⟩
    have HG1 : Hid (w.grownBy w1 none) := grown_trans HX0.out hg1
    clear hg1
    go_wp2_with fail
    go_ret
    exact ⟨rfl, HG1.out⟩
  · rw [hb, decide_eq_false h]
    have h1 : decide ((tn : Int) ≤ (s : Int)) = false := decide_eq_false (by omega)
    have h2 : decide (tn ≤ s) = false := decide_eq_false h
    clear hb
    go_enter Tryz.func30, Tryz.ntmps30
    go_wp2_with fail
    go_ret
    exact ⟨rfl, HX0.out⟩

set_option maxRecDepth 100000 in
set_option maxHeartbeats 4000000 in
theorem rall_any (htn : tn ≤ 65) (hnn : nn ≤ 65) (B : Nat) (ks : List (List It)) (es : List (List (Nat × Nat))) (kv ev : Nat → Value) (hN : N = ks.length) (hN256 : N ≤ 256) (hP : AutP B w (.slice sa ks.length sc) ks (elF es) kv ev) (hes : ∀ q, q < ks.length → (es.getD q []).length ≤ 130) (hsy : ∀ q, q < ks.length → ∀ x ∈ es.getD q [], x.1 < tn + nn) :
    Calls Tryz.prog 15 #[.agg #[.slice ta tn tc, .slice na nn nc, .slice la ln lc, .int .i64 st, .slice pa n pc], .agg #[.slice sa N sc, .int .i64 ask, .int .i64 nI]] w fun e y => TrTold (trT tn es N) w e y := by
  have HN : Hid (N = ks.length) := hN
  have HP : Hid (∀ Y, w.grownBy Y none → AutP B Y (.slice sa ks.length sc) ks (elF es) kv ev) := fun Y hY => hP.kept hY
  have HES := show Hid _ from hes
  have HSY := show Hid _ from hsy
  have HIN : Hid (∀ X (s : Nat) (b : Bool), s < tn + nn → b = decide (tn ≤ s) → Calls Tryz.prog 30 #[.agg #[.slice ta tn tc, .slice na nn nc, .slice la ln lc, .int .i64 st, .slice pa n pc], .int .i64 (s : Int)] X fun e y => e = .returned (.bool b) ∧ X.grownBy y none) := fun X s b h1 h2 => risNon_any ta na la pa tc nc lc pc n st X tn nn ln htn hnn s h1 b h2
  have HX0 : Hid (PhAt w ((w.alloc (.cells #[.slice ta tn tc, .slice na nn nc, .slice la ln lc, .int .i64 st, .slice pa n pc] 27)).alloc (.cells #[.slice sa N sc, .int .i64 ask, .int .i64 nI] 49)) w.heap.size #[.slice ta tn tc, .slice na nn nc, .slice la ln lc, .int .i64 st, .slice pa n pc]) := PhAt.kept ⟨World.grownBy_alloc _ _ none, heap_alloc_last w _⟩ (World.grownBy_alloc _ _ none)
  have HB0 : Hid (((w.alloc (.cells #[.slice ta tn tc, .slice na nn nc, .slice la ln lc, .int .i64 st, .slice pa n pc] 27)).alloc (.cells #[.slice sa N sc, .int .i64 ask, .int .i64 nI] 49)).heap[w.heap.size + 1]? = some (.cells #[.slice sa N sc, .int .i64 ask, .int .i64 nI] 49 (0, 0))) := by
    have h := heap_alloc_last (w.alloc (.cells #[.slice ta tn tc, .slice na nn nc, .slice la ln lc, .int .i64 st, .slice pa n pc] 27)) (.cells #[.slice sa N sc, .int .i64 ask, .int .i64 nI] 49)
    rw [World.size_alloc] at h; exact h
  obtain ⟨i0, hi0, hz0, hz1, hz2⟩ := info_parts infoTrans
  clear hP hes hN hsy
  go_enter Tryz.func15, Tryz.ntmps15
  go_wp2_with fail
  obtain ⟨W, hW⟩ : ∃ W, W = (w.alloc (.cells #[.slice ta tn tc, .slice na nn nc, .slice la ln lc, .int .i64 st, .slice pa n pc] 27)).alloc (.cells #[.slice sa N sc, .int .i64 ask, .int .i64 nI] 49) := ⟨_, rfl⟩
  rw [← hW] at HX0 HB0 ⊢
  clear hW
  have HAC : Hid (∀ Y, W.grownBy Y none → Y.cell? ⟨w.heap.size + 1, 0, none⟩ = some (.slice sa N sc)) := fun Y hY => by rw [cell_of_row _ _ _ _ _ _ (box_kept HB0.out hY)]; rfl
  go_loopg [5, 6] N (fun gk v5 v6 wr => ∃ (i L : Nat) (a : Option Addr) (c : Nat), i ≤ N ∧ gk = N - i ∧ v6 = .int .i64 i ∧ v5 = .slice a L c ∧ L = (trT tn es i).length ∧ wr.ownsRow W.heap.size 39 2 (.slice a L c) L (itsV (trT tn es i)) ∧ W.grownBy wr none)
  case atStart => exact ⟨0, 0, none, 0, Nat.zero_le _, rfl, rfl, rfl, rfl, World.ownsRow_nil _ _ _ _, grown_refl _ _⟩
  case round =>
    obtain ⟨i, L, a, c, hi, hgi, rfl, rfl, hLl, hown, hg⟩ := hrel
    have HGI : Hid (gk = N - i) := hgi
    have HLL : Hid (L = (trT tn es i).length) := hLl
    have HO : Hid (wr.ownsRow W.heap.size 39 2 (.slice a L c) L (itsV (trT tn es i))) := hown
    have HG : Hid (W.grownBy wr none) := hg
    have hLb : L ≤ i * 130 := by rw [hLl]; exact trT_len i fun q hq => HES.out q (by have := HN.out; omega)
    have y0 := HAC.out wr hg
    clear hgi hLl hown hg
    by_cases hlt : i < N
    · have hid : decide (i < N) = true := decide_eq_true hlt
      have hi0' : (0 : Int) ≤ (i : Int) := by omega
      have hi1 : (i : Int) < (N : Int) := by omega
      have hik : i < ks.length := by rw [← HN.out]; exact hlt
      have hPZ := HP.out wr (grown_trans HX0.out.grown HG.out)
      obtain ⟨sb, sc', hsv, -, hs1⟩ := hPZ.st hik
      simp only [Value.slice.injEq] at hsv
      obtain ⟨rfl, _, rfl⟩ := hsv
      obtain ⟨ea, ec, hev, hei⟩ := hPZ.edgAt hik
      rw [hev] at hs1
      obtain ⟨E, hE⟩ : ∃ E, E = (elF es i).length := ⟨_, rfl⟩
      rw [← hE] at hs1
      have HEA : Hid (∀ Y, wr.grownBy Y none → ItsAt Y ea (elF es i) ∧ Y.cell? ⟨sb, i * 2 + 1, none⟩ = some (.slice ea E ec)) := fun Y hY => ⟨hei.kept hY, hY.cell hs1 (by simp)⟩
      have HE : Hid (E = (es.getD i []).length) := by show _ = _; rw [hE]; exact elF_len _ _
      have hEb : E ≤ 130 := by rw [HE.out]; exact HES.out i hik
      have HSI := show Hid _ from HSY.out i hik
      clear hE hev hPZ hei hik hs1
      generalize wr = Z at *
      go_wp2_with fail
      clear y0
      go_loopg [5, 7] E (fun gk v5 v7 wr => ∃ (j L : Nat) (a : Option Addr) (c : Nat), j ≤ E ∧ gk = E - j ∧ v7 = .int .i64 j ∧ v5 = .slice a L c ∧ L = (trT tn es i ++ trI tn ((es.getD i []).take j) i).length ∧ wr.ownsRow W.heap.size 39 2 (.slice a L c) L (itsV (trT tn es i ++ trI tn ((es.getD i []).take j) i)) ∧ (W.grownBy wr none ∧ wr.cell? ⟨sb, i * 2 + 1, none⟩ = some (.slice ea E ec) ∧ ItsAt wr ea (elF es i)))
      case atStart => exact ⟨0, L, a, c, Nat.zero_le _, rfl, rfl, rfl, by simpa [trI] using HLL.out, by simpa [trI] using HO.out, HG.out, (HEA.out Z (grown_refl _ _)).2, (HEA.out Z (grown_refl _ _)).1⟩
      case round =>
        obtain ⟨j, L2, a2, c2, hj, hgj, rfl, rfl, hL2, hown2, hg2, hsc, hit⟩ := hrel
        have HGJ : Hid (gk = E - j) := hgj
        have HL2 : Hid (L2 = (trT tn es i ++ trI tn ((es.getD i []).take j) i).length) := hL2
        have HO2 : Hid (wr.ownsRow W.heap.size 39 2 (.slice a2 L2 c2) L2 (itsV (trT tn es i ++ trI tn ((es.getD i []).take j) i))) := hown2
        have HG2 : Hid (W.grownBy wr none) := hg2
        have HSC : Hid (wr.cell? ⟨sb, i * 2 + 1, none⟩ = some (.slice ea E ec) ∧ ItsAt wr ea (elF es i)) := ⟨hsc, hit⟩
        have hL2b : L2 ≤ i * 130 + 130 := by
          rw [hL2, List.length_append, ← HLL.out]
          have h1 := trI_len tn ((es.getD i []).take j) i
          have h2 : ((es.getD i []).take j).length ≤ j := by rw [List.length_take]; omega
          omega
        have y0 := HAC.out wr hg2
        clear hgj hL2 hown2 hg2 hit
        by_cases hlj : j < E
        · have hjd : decide (j < E) = true := decide_eq_true hlj
          have hj0 : (0 : Int) ≤ (j : Int) := by omega
          have hj1 : (j : Int) < (E : Int) := by omega
          have hje : j < (es.getD i []).length := by rw [← HE.out]; exact hlj
          obtain ⟨eb, eo, hea, c0, c1⟩ := HSC.out.2.cellAt (i := j) (by rw [elF_len]; exact hje)
          subst hea
          rw [(elF_at hje).2] at c0
          obtain ⟨x, hx⟩ : ∃ x, x = (es.getD i []).getD j (0, 0) := ⟨_, rfl⟩
          have hmem : (es.getD i []).getD j (0, 0) ∈ es.getD i [] := by
            clear hx c0 c1
            generalize es.getD i [] = l at hje ⊢
            rw [List.getD_eq_getElem?_getD, List.getElem?_eq_getElem hje]; exact List.getElem_mem hje
          have hsS := HSI.out _ hmem
          rw [← hx] at c0 hsS
          obtain ⟨s, t⟩ := x
          simp only at c0 hsS
          have HTK : Hid (trI tn ((es.getD i []).take (j + 1)) i = trI tn ((es.getD i []).take j) i ++ (if tn ≤ s then [((i : Int), (s : Int))] else [])) := by
            show _ = _
            rw [take_snocE hje hx.symm, trI_snoc]
          obtain ⟨b, hb⟩ : ∃ b, b = decide (tn ≤ s) := ⟨_, rfl⟩
          have HB : Hid (b = decide (tn ≤ s)) := hb
          have HC := show Hid _ from HIN.out wr s b hsS hb
          obtain ⟨k0, k1, k2, k3, k4⟩ := (HX0.out.kept HG2.out).cells
          clear hx hje c1 hmem hsS hb
          go_wp2_with fail
          refine Calls.mono HC.out ?_
          rintro e w5 ⟨rfl, hg5⟩
          have HO5 : Hid (w5.ownsRow W.heap.size 39 2 (.slice a2 L2 c2) L2 (itsV (trT tn es i ++ trI tn ((es.getD i []).take j) i))) := keep0 HO2.out hg5
          have HG5 : Hid (W.grownBy w5 none) := grown_trans HG2.out hg5
          have HS5 : Hid (w5.cell? ⟨sb, i * 2 + 1, none⟩ = some (.slice (some ⟨eb, eo, none⟩) E ec) ∧ ItsAt w5 (some ⟨eb, eo, none⟩) (elF es i)) := ⟨hg5.cell HSC.out.1 (by simp), HSC.out.2.kept hg5⟩
          clear hg5 k0 k1 k2 k3 k4 y0 c0 hsc HC HO2 HSC
          cases b with
          | true =>
            have hts : tn ≤ s := of_decide_eq_true HB.out.symm
            rw [if_pos hts] at HTK
            clear HB hts
            go_wp2_with (at_builtin; refine wpList_append_srcW rfl (.tmp 42) (.tmp 46) 30 rfl W.heap.size 39 i0 (.agg #[.int .i64 0, .int .i64 0]) 2 16 Tryz.underlying30 hi0 hz0 hz1 hz2 rfl (by decide) (.slice a2 L2 c2) L2 (itsV (trT tn es i ++ trI tn ((es.getD i []).take j) i)) rfl (HO5.out.alloc _) (some ⟨w5.heap.size, 0, none⟩) 1 1 [.int .i64 (i : Int), .int .i64 (s : Int)] rfl (fun h => by cases h) rfl (fun ad e => by cases e; exact World.news_of_block (heap_alloc_last w5 _)) (by simp [Value.oneCell']) (by unfold maxLen; omega) (by omega) (Nat.le_trans HG5.out.size (World.grownBy_alloc _ _ none).size) ?_)
            intro v8 wB hoB hgB
            obtain ⟨a8, c8, rfl⟩ := owns_cut hoB
            have HGA : Hid (W.grownBy wB none) := grown_owned (grown_trans HG5.out (World.grownBy_alloc _ _ none)) (HO5.out.alloc _) (Nat.le_refl _) hgB
            have HOB : Hid (wB.ownsRow W.heap.size 39 2 (.slice a8 (L2 + 1) c8) (L2 + 1) (itsV (trT tn es i ++ trI tn ((es.getD i []).take (j + 1)) i))) := by
              show World.ownsRow _ _ _ _ _ _ _
              rw [HTK.out, ← List.append_assoc, itsV_append]
              exact hoB
            have HSB : Hid (wB.cell? ⟨sb, i * 2 + 1, none⟩ = some (.slice (some ⟨eb, eo, none⟩) E ec) ∧ ItsAt wB (some ⟨eb, eo, none⟩) (elF es i)) := by
              have hPB := HP.out wB (grown_trans HX0.out.grown HGA.out)
              obtain ⟨sb2, sc2, hsv2, -, hs2⟩ := hPB.st (q := i) (by rw [← HN.out]; exact hlt)
              simp only [Value.slice.injEq, Option.some.injEq, Addr.mk.injEq] at hsv2
              obtain ⟨⟨rfl, _⟩, _⟩ := hsv2
              have h0 := (HP.out Z (grown_trans HX0.out.grown HG.out)).st (q := i) (by rw [← HN.out]; exact hlt)
              obtain ⟨sb3, sc3, hsv3, -, hs3⟩ := h0
              simp only [Value.slice.injEq, Option.some.injEq, Addr.mk.injEq] at hsv3
              obtain ⟨⟨rfl, _⟩, _⟩ := hsv3
              have h1 := (HEA.out Z (grown_refl _ _)).2
              rw [hs3] at h1
              obtain ⟨ea2, ec2, he2, hi2⟩ := hPB.edgAt (q := i) (by rw [← HN.out]; exact hlt)
              have h2 : ev i = .slice (some ⟨eb, eo, none⟩) E ec := by simpa using h1
              rw [h2] at hs2 he2
              simp only [Value.slice.injEq] at he2
              rw [← he2.1] at hi2
              exact ⟨hs2, hi2⟩
            clear hoB hgB
            go_wp2_with fail
            go_roundg (E - (j + 1))
            case measure => have := HGJ.out; omega
            case rel => exact ⟨j + 1, L2 + 1, a8, c8, by omega, rfl, by go_num, rfl, by rw [HTK.out, ← List.append_assoc, List.length_append, ← HL2.out]; rfl, HOB.out, HGA.out, HSB.out.1, HSB.out.2⟩
          | false =>
            have hts : ¬ tn ≤ s := of_decide_eq_false HB.out.symm
            rw [if_neg hts, List.append_nil] at HTK
            clear HB hts
            go_wp2_with fail
            go_roundg (E - (j + 1))
            case measure => have := HGJ.out; omega
            case rel => exact ⟨j + 1, L2, a2, c2, by omega, rfl, by go_num, rfl, by rw [HTK.out]; exact HL2.out, by rw [HTK.out]; exact HO5.out, HG5.out, HS5.out.1, HS5.out.2⟩
        · have hjE : E = j := by omega
          subst hjE
          have hjd : decide (E < E) = false := decide_eq_false (by omega)
          have HTF : Hid (trT tn es i ++ trI tn ((es.getD i []).take E) i = trT tn es (i + 1)) := by
            show _ = _
            rw [HE.out, List.take_length]; rfl
          rw [HTF.out] at HL2 HO2
          go_wp2_with fail
          go_roundg (N - (i + 1))
          case measure => have := HGI.out; omega
          case rel => exact ⟨i + 1, L2, a2, c2, by omega, rfl, by go_num, rfl, HL2.out, HO2.out, HG2.out⟩
    · have hiN : N = i := by omega
      subst hiN
      have hid : decide (N < N) = false := decide_eq_false (by omega)
      go_wp2_with fail
      go_ret
      exact ⟨a, c, by rw [← HLL.out]; rfl, by rw [← HLL.out]; exact owns_base HO.out HX0.out.grown.size, grown_trans HX0.out.grown HG.out⟩
end

end Go.Proofs.YtfcholpleeiddaaGreat.J

/-
  Lists of numbers that are the same.
-/
namespace Go.Proofs.YtfcholpleeiddaaGreat.J
open Go.RowKit Go.Maps Go.Shelf

attribute [local go_sem] Oper.semAt_some

/-- Lists of numbers in memory. -/
def LsAt (X : World) (a : Option Addr) (N : Nat) (Q : Nat → List Int) (ua : Nat → Option Addr) (uc : Nat → Nat) : Prop := (N = 0 ∨ ∃ k, a = some ⟨k, 0, none⟩ ∧ ∀ i, i < N → X.cell? ⟨k, i, none⟩ = some (.slice (ua i) (Q i).length (uc i))) ∧ ∀ i, i < N → IntsAt X (ua i) (Q i)
theorem LsAt.kept {X Y : World} {a : Option Addr} {N : Nat} {Q : Nat → List Int} {ua : Nat → Option Addr} {uc : Nat → Nat} (h : LsAt X a N Q ua uc) (hg : X.grownBy Y none) : LsAt Y a N Q ua uc := by
  refine ⟨?_, fun i hi => (h.2 i hi).kept hg⟩
  rcases h.1 with h | ⟨k, e, h1⟩
  · exact .inl h
  · exact .inr ⟨k, e, fun i hi => hg.cell (h1 i hi) (by simp)⟩


set_option maxRecDepth 100000 in
theorem ints_same (a1 a2 : Option Addr) (c1 c2 : Nat) (l : List Int) (w : World) (h1 : IntsAt w a1 l) (h2 : IntsAt w a2 l) (hn : l.length ≤ 17592186044416) :
    Calls Tryz.prog 20 #[.slice a1 l.length c1, .slice a2 l.length c2] w fun e y => e = .returned (.bool true) ∧ w.grownBy y none := by
  have H1 : Hid (∀ X, w.grownBy X none → IntsAt X a1 l ∧ IntsAt X a2 l) := fun X hX => ⟨h1.kept hX, h2.kept hX⟩
  obtain ⟨n, he⟩ : ∃ n, n = l.length := ⟨_, rfl⟩
  have HE : Hid (n = l.length) := he
  rw [← he] at hn
  rw [← he]
  have hnn : ((n : Int) != (n : Int)) = false := bne_self_eq_false _
  clear h1 h2 he
  go_enter Tryz.func20, Tryz.ntmps20
  go_wp2_with fail
  go_loopg [5] n (fun gk v5 wr => ∃ (j : Nat), j ≤ n ∧ gk = n - j ∧ v5 = .int .i64 j ∧ w.grownBy wr none)
  case atStart => exact ⟨0, Nat.zero_le _, rfl, rfl, grown_refl _ _⟩
  case round =>
    obtain ⟨j, hj, hgj, rfl, hg⟩ := hrel
    have HGJ : Hid (gk = n - j) := hgj
    have HG : Hid (w.grownBy wr none) := hg
    clear hgj hg
    by_cases hjl : j < n
    · have hjl2 : j < l.length := by rw [← HE.out]; exact hjl
      obtain ⟨ab, ao, rfl, hc1⟩ : ∃ ab ao, a1 = some ⟨ab, ao, none⟩ ∧ wr.cell? ⟨ab, ao + j, none⟩ = some (.int .i64 (l.getD j 0)) := by
        rcases (H1.out wr HG.out).1 with h | ⟨ab, ao, e, h⟩
        · rw [h] at hjl2; cases hjl2
        · exact ⟨ab, ao, e, h j hjl2⟩
      obtain ⟨bb, bo, rfl, hc2⟩ : ∃ ab ao, a2 = some ⟨ab, ao, none⟩ ∧ wr.cell? ⟨ab, ao + j, none⟩ = some (.int .i64 (l.getD j 0)) := by
        rcases (H1.out wr HG.out).2 with h | ⟨ab, ao, e, h⟩
        · rw [h] at hjl2; cases hjl2
        · exact ⟨ab, ao, e, h j hjl2⟩
      obtain ⟨x, hx⟩ : ∃ x, x = l.getD j 0 := ⟨_, rfl⟩
      rw [← hx] at hc1 hc2
      have hxx : (x != x) = false := bne_self_eq_false _
      have hj0 : (0 : Int) ≤ (j : Int) := by omega
      have hj1 : (j : Int) < (n : Int) := by omega
      have hjd : decide (j < n) = true := decide_eq_true hjl
      clear hx
      go_wp2_with fail
      go_quiet (fail)
      go_wp2_with fail
      go_roundg (n - (j + 1))
      case measure => have := HGJ.out; omega
      case rel => exact ⟨j + 1, by omega, rfl, by go_num, by first | exact HG.out | exact grown_trans HG.out (grown_drewN _ _)⟩
    · have hjn : n = j := by omega
      subst hjn
      have hjd : decide (n < n) = false := decide_eq_false (by omega)
      go_wp2_with fail
      go_ret
      exact ⟨rfl, HG.out⟩


set_option maxRecDepth 100000 in
theorem lists_same (a1 a2 : Option Addr) (c1 c2 n : Nat) (Q : Nat → List Int) (u1 u2 : Nat → Option Addr) (k1 k2 : Nat → Nat) (w : World) (h1 : LsAt w a1 n Q u1 k1) (h2 : LsAt w a2 n Q u2 k2) (hn : n ≤ 1000000) (hQ : ∀ i, (Q i).length ≤ 1024) :
    Calls Tryz.prog 10 #[.slice a1 n c1, .slice a2 n c2] w fun e y => e = .returned (.bool true) ∧ w.grownBy y none := by
  have H1 : Hid (∀ X, w.grownBy X none → LsAt X a1 n Q u1 k1 ∧ LsAt X a2 n Q u2 k2) := fun X hX => ⟨h1.kept hX, h2.kept hX⟩
  have HQ : Hid (∀ i, (Q i).length ≤ 1024) := hQ
  have hnn : ((n : Int) != (n : Int)) = false := bne_self_eq_false _
  clear h1 h2 hQ
  go_enter Tryz.func10, Tryz.ntmps10
  go_wp2_with fail
  go_loopg [5] n (fun gk v5 wr => ∃ (j : Nat), j ≤ n ∧ gk = n - j ∧ v5 = .int .i64 j ∧ w.grownBy wr none)
  case atStart => exact ⟨0, Nat.zero_le _, rfl, rfl, grown_refl _ _⟩
  case round =>
    obtain ⟨j, hj, hgj, rfl, hg⟩ := hrel
    have HGJ : Hid (gk = n - j) := hgj
    have HG : Hid (w.grownBy wr none) := hg
    clear hgj hg
    by_cases hjl : j < n
    · obtain ⟨ab, rfl, hc1⟩ : ∃ ab, a1 = some ⟨ab, 0, none⟩ ∧ wr.cell? ⟨ab, j, none⟩ = some (.slice (u1 j) (Q j).length (k1 j)) := by
        rcases (H1.out wr HG.out).1.1 with h | ⟨k, e, h⟩
        · omega
        · exact ⟨k, e, h j hjl⟩
      obtain ⟨bb, rfl, hc2⟩ : ∃ ab, a2 = some ⟨ab, 0, none⟩ ∧ wr.cell? ⟨ab, j, none⟩ = some (.slice (u2 j) (Q j).length (k2 j)) := by
        rcases (H1.out wr HG.out).2.1 with h | ⟨k, e, h⟩
        · omega
        · exact ⟨k, e, h j hjl⟩
      have HIN : Hid (∀ X, wr.grownBy X none → Calls Tryz.prog 20 #[.slice (u1 j) (Q j).length (k1 j), .slice (u2 j) (Q j).length (k2 j)] X fun e y => e = .returned (.bool true) ∧ X.grownBy y none) := fun X hX => ints_same _ _ _ _ (Q j) X (((H1.out wr HG.out).1.2 j hjl).kept hX) (((H1.out wr HG.out).2.2 j hjl).kept hX) (Nat.le_trans (HQ.out j) (by decide))
      obtain ⟨ql, hql⟩ : ∃ q, q = (Q j).length := ⟨_, rfl⟩
      rw [← hql] at HIN hc1 hc2
      have hj0 : (0 : Int) ≤ (j : Int) := by omega
      have hj1 : (j : Int) < (n : Int) := by omega
      have hjd : decide (j < n) = true := decide_eq_true hjl
      clear hql
      go_wp2_with fail
      have HUP : Hid (wr.grownBy wr.drew none) := grown_drewN wr 1
      have HKS : Hid (∀ X, wr.grownBy X none → X.cell? ⟨ab, j, none⟩ = some (.slice (u1 j) ql (k1 j)) ∧ X.cell? ⟨bb, j, none⟩ = some (.slice (u2 j) ql (k2 j))) := fun X hX => ⟨hX.cell hc1 (by simp), hX.cell hc2 (by simp)⟩
      go_region_held3 (fun X => X.cell? ⟨ab, j, none⟩ = some (.slice (u1 j) ql (k1 j)) ∧ X.cell? ⟨bb, j, none⟩ = some (.slice (u2 j) ql (k2 j))) (first | exact HKS.out _ HUP.out | exact HKS.out _ HG4.out | go_keep)
        ((first
          | (go_at_call 20; refine Calls.mono (HIN.out _ HUP.out) ?_; rintro e w3 ⟨rfl, hg3⟩; have HG4 : Hid (wr.grownBy w3 none) := grown_trans HUP.out hg3; clear hg3)
          | fail))
      have HG3 : Hid (w.grownBy w3 none) := grown_trans HG.out HG4.out
      clear hc1 hc2 HIN
      go_wp2_with fail
      go_roundg (n - (j + 1))
      case measure => have := HGJ.out; omega
      case rel => exact ⟨j + 1, by omega, rfl, by go_num, HG3.out⟩
    · have hjn : n = j := by omega
      subst hjn
      have hjd : decide (n < n) = false := decide_eq_false (by omega)
      go_wp2_with fail
      go_ret
      exact ⟨rfl, HG.out⟩


end Go.Proofs.YtfcholpleeiddaaGreat.J

/-
  trans: the document's terminals right behind a transition; its List and Direct.
-/
namespace Go.Proofs.YtfcholpleeiddaaGreat.J
open Go.RowKit Go.Maps Go.Shelf

attribute [local go_sem] Oper.semAt_some

/-- A row of numbers of one's own. -/
def OwnI (X : World) (B : Nat) (a : Option Addr) (L c : Nat) (l : List Int) : Prop := X.ownsRow B 3 1 (.slice a L c) L (intV l)
theorem OwnI.kept {X Y : World} {B : Nat} {a : Option Addr} {L c : Nat} {l : List Int} (h : OwnI X B a L c l) (hg : X.grownBy Y none) : OwnI Y B a L c l := keep0 h hg

section
variable (ta na la pa sa : Option Addr) (tc nc lc pc sc : Nat) (n N : Nat) (st ask nI : Int) (w : World) (tn nn ln : Nat)
set_option maxRecDepth 100000 in
set_option maxHeartbeats 4000000 in
theorem rtbehind_any (B : Nat) (ks : List (List It)) (es : List (List (Nat × Nat))) (kv ev : Nat → Value) (hN : N = ks.length) (hE : EsOK ks es) (hP : AutP B w (.slice sa ks.length sc) ks (elF es) kv ev) (q s tq : Nat) (hq : q < N) (hl : leadA es ((q : Int), (s : Int)) = some (tq : Int)) (htq : tq < N) :
    Calls Tryz.prog 16 #[.agg #[.slice ta tn tc, .slice na nn nc, .slice la ln lc, .int .i64 st, .slice pa n pc], .agg #[.slice sa N sc, .int .i64 ask, .int .i64 nI], .agg #[.int .i64 (q : Int), .int .i64 (s : Int)]] w fun e y => NumTold (preF ((q : Int) == 0 && (s : Int) == st) ++ dirL tn (es.getD tq [])) w e y := by
  have HN : Hid (N = ks.length) := hN
  have HP : Hid (∀ Y, w.grownBy Y none → AutP B Y (.slice sa ks.length sc) ks (elF es) kv ev) := fun Y hY => hP.kept hY
  have HNX : Hid (∀ Y, w.grownBy Y none → Calls Tryz.prog 31 #[.agg #[.slice sa N sc, .int .i64 ask, .int .i64 nI], .int .i64 (q : Int), .int .i64 (s : Int)] Y fun e y => e = .returned (.int .i64 (tq : Int)) ∧ Y.grownBy y none) := fun Y hY => by
    have h := rnext_any sa sc ask nI Y B ks es kv ev (hP.kept hY) hE.short q (by rw [← hN]; exact hq) (s : Int)
    rw [← leadA_at es (by rw [hE.len, ← hN]; exact hq), hl] at h
    rw [hN]; exact h
  have hEb0 : (es.getD tq []).length ≤ 130 := hE.short tq
  have HX0 : Hid (PhAt w (((w.alloc (.cells #[.slice ta tn tc, .slice na nn nc, .slice la ln lc, .int .i64 st, .slice pa n pc] 27)).alloc (.cells #[.slice sa N sc, .int .i64 ask, .int .i64 nI] 49)).alloc (.cells #[.int .i64 (q : Int), .int .i64 (s : Int)] 39)) w.heap.size #[.slice ta tn tc, .slice na nn nc, .slice la ln lc, .int .i64 st, .slice pa n pc]) := PhAt.kept (PhAt.kept ⟨World.grownBy_alloc _ _ none, heap_alloc_last w _⟩ (World.grownBy_alloc _ _ none)) (World.grownBy_alloc _ _ none)
  have HB0 : Hid ((((w.alloc (.cells #[.slice ta tn tc, .slice na nn nc, .slice la ln lc, .int .i64 st, .slice pa n pc] 27)).alloc (.cells #[.slice sa N sc, .int .i64 ask, .int .i64 nI] 49)).alloc (.cells #[.int .i64 (q : Int), .int .i64 (s : Int)] 39)).heap[w.heap.size + 1]? = some (.cells #[.slice sa N sc, .int .i64 ask, .int .i64 nI] 49 (0, 0))) := by
    refine box_kept ?_ (World.grownBy_alloc _ _ none)
    have h := heap_alloc_last (w.alloc (.cells #[.slice ta tn tc, .slice na nn nc, .slice la ln lc, .int .i64 st, .slice pa n pc] 27)) (.cells #[.slice sa N sc, .int .i64 ask, .int .i64 nI] 49)
    rw [World.size_alloc] at h; exact h
  have HT0 : Hid ((((w.alloc (.cells #[.slice ta tn tc, .slice na nn nc, .slice la ln lc, .int .i64 st, .slice pa n pc] 27)).alloc (.cells #[.slice sa N sc, .int .i64 ask, .int .i64 nI] 49)).alloc (.cells #[.int .i64 (q : Int), .int .i64 (s : Int)] 39)).heap[w.heap.size + 1 + 1]? = some (.cells #[.int .i64 (q : Int), .int .i64 (s : Int)] 39 (0, 0))) := by
    have h := heap_alloc_last ((w.alloc (.cells #[.slice ta tn tc, .slice na nn nc, .slice la ln lc, .int .i64 st, .slice pa n pc] 27)).alloc (.cells #[.slice sa N sc, .int .i64 ask, .int .i64 nI] 49)) (.cells #[.int .i64 (q : Int), .int .i64 (s : Int)] 39)
    rw [World.size_alloc, World.size_alloc] at h; exact h
  obtain ⟨i0, hi0, hz0, hz1, hz2⟩ := info_parts infoInt
  obtain ⟨W, hW⟩ : ∃ W, W = (((w.alloc (.cells #[.slice ta tn tc, .slice na nn nc, .slice la ln lc, .int .i64 st, .slice pa n pc] 27)).alloc (.cells #[.slice sa N sc, .int .i64 ask, .int .i64 nI] 49)).alloc (.cells #[.int .i64 (q : Int), .int .i64 (s : Int)] 39)) := ⟨_, rfl⟩
  have HWE := show Hid _ from hW
  rw [← hW] at HX0 HB0 HT0
  have HAC : Hid (∀ Y, W.grownBy Y none → (Y.cell? ⟨w.heap.size + 1, 0, none⟩ = some (.slice sa N sc) ∧ Y.cell? ⟨w.heap.size + 1, 1, none⟩ = some (.int .i64 ask) ∧ Y.cell? ⟨w.heap.size + 1, 2, none⟩ = some (.int .i64 nI)) ∧ Y.cell? ⟨w.heap.size + 1 + 1, 0, none⟩ = some (.int .i64 (q : Int)) ∧ Y.cell? ⟨w.heap.size + 1 + 1, 1, none⟩ = some (.int .i64 (s : Int))) := fun Y hY => by
    have h := box_kept HB0.out hY
    have h' := box_kept HT0.out hY
    exact ⟨⟨by rw [cell_of_row _ _ _ _ _ _ h]; rfl, by rw [cell_of_row _ _ _ _ _ _ h]; rfl, by rw [cell_of_row _ _ _ _ _ _ h]; rfl⟩, by rw [cell_of_row _ _ _ _ _ _ h']; rfl, by rw [cell_of_row _ _ _ _ _ _ h']; rfl⟩
  have HGC : Hid (∀ Y, W.grownBy Y none → (Y.cell? ⟨w.heap.size, 0, none⟩ = some (.slice ta tn tc) ∧ Y.cell? ⟨w.heap.size, 1, none⟩ = some (.slice na nn nc) ∧ Y.cell? ⟨w.heap.size, 2, none⟩ = some (.slice la ln lc) ∧ Y.cell? ⟨w.heap.size, 3, none⟩ = some (.int .i64 st) ∧ Y.cell? ⟨w.heap.size, 4, none⟩ = some (.slice pa n pc))) := fun Y hY => (HX0.out.kept hY).cells
  obtain ⟨E, hEE⟩ : ∃ E, E = (es.getD tq []).length := ⟨_, rfl⟩
  have HE : Hid (E = (es.getD tq []).length) := hEE
  obtain ⟨sb, ea, ec, hsa, hst⟩ : ∃ sb ea ec, sa = some ⟨sb, 0, none⟩ ∧ ∀ Y, W.grownBy Y none → Y.cell? ⟨sb, tq * 2 + 1, none⟩ = some (.slice ea E ec) ∧ ItsAt Y ea (elF es tq) := by
    have hPZ := HP.out W HX0.out.grown
    have hik : tq < ks.length := by rw [← hN]; exact htq
    obtain ⟨sb, sc', hsv, -, hs1⟩ := hPZ.st hik
    simp only [Value.slice.injEq] at hsv
    obtain ⟨ea, ec, hev, hei⟩ := hPZ.edgAt hik
    rw [hev, elF_len] at hs1
    exact ⟨sb, ea, ec, hsv.1, fun Y hY => ⟨by rw [hEE]; exact hY.cell hs1 (by simp), hei.kept hY⟩⟩
  subst hsa
  have HST := show Hid _ from hst
  have hEb : E ≤ 130 := by rw [hEE]; exact hEb0
  obtain ⟨b, hb⟩ : ∃ b, b = ((q : Int) == 0 && (s : Int) == st) := ⟨_, rfl⟩
  have HB : Hid (b = ((q : Int) == 0 && (s : Int) == st)) := hb
  have ht0 : (0 : Int) ≤ (tq : Int) := by omega
  have ht1 : (tq : Int) < (N : Int) := by omega
  rw [← hb]
  obtain ⟨⟨y0, y1, y2⟩, y3, y4⟩ := HAC.out W (grown_refl _ _)
  obtain ⟨k0, k1, k2, k3, k4⟩ := HGC.out W (grown_refl _ _)
  rw [hW] at y0 y1 y2 y3 y4 k0 k1 k2 k3 k4
  have HOE : Hid (∀ (L : Nat) (a : Option Addr) (c : Nat) (X : World), L = (preF b).length → X.ownsRow W.heap.size 3 1 (.slice a L c) L (intV (preF b)) → OwnI X W.heap.size a L c (preF b ++ dirL tn ((es.getD tq []).take 0)) ∧ L = (preF b ++ dirL tn ((es.getD tq []).take 0)).length) := fun L a c X h1 h2 => by
    have e : preF b ++ dirL tn ((es.getD tq []).take 0) = preF b := by rw [List.take_zero]; simp [dirL]
    rw [e]
    exact ⟨h2, h1⟩
  clear hP hE hN hl hst hEE hEb0 hW hb
  have hcs : ((q : Int) = 0 ∧ (s : Int) = st) ∨ ((q : Int) = 0 ∧ ¬ (s : Int) = st) ∨ ¬ (q : Int) = 0 := by
    by_cases h5 : (q : Int) = 0
    · by_cases h6 : (s : Int) = st
      · exact .inl ⟨h5, h6⟩
      · exact .inr (.inl ⟨h5, h6⟩)
    · exact .inr (.inr h5)
  rcases hcs with hc | hc | hc
  case' inl =>
    have hbt : b = true := by rw [HB.out, hc.1, hc.2]; simp
    have d1 : ((q : Int) == 0) = true := beq_iff_eq.2 hc.1
    have d1n : (q == 0) = true := beq_iff_eq.2 (by omega)
    have d2 : ((s : Int) == st) = true := beq_iff_eq.2 hc.2
    clear hc HB
    go_enter Tryz.func16, Tryz.ntmps16
    go_wp2_with (at_builtin; rw [← HWE.out]; refine wpList_append_srcW rfl (.tmp 21) (.tmp 22) 24 rfl W.heap.size 3 i0 (.int .i64 0) 1 8 Tryz.underlying24 hi0 hz0 hz1 hz2 rfl (by decide) (.slice none 0 0) 0 [] rfl (World.ownsRow_nil _ _ _ _) (some ⟨W.heap.size, 0, none⟩) 1 1 [.int .i64 0] (by rw [HWE.out]; simp [Act.eval]) (fun h => by cases h) rfl (fun ad e => by cases e; exact World.news_of_block (heap_alloc_last W _)) (by simp [Value.oneCell']) (by unfold maxLen; omega) (by omega) (World.grownBy_alloc _ _ none).size ?_)
    intro v8 X hoX hgX
    obtain ⟨a8, c8, rfl⟩ := owns_cut hoX
    have HGX : Hid (W.grownBy X none) := grown_trans (World.grownBy_alloc _ _ none) hgX
    have HOX := show Hid _ from HOE.out 1 a8 c8 X (by rw [hbt]; rfl) (by rw [hbt]; exact hoX)
    clear hoX hgX y0 y1 y2 y3 y4 k0 k1 k2 k3 k4
    obtain ⟨⟨y0, y1, y2⟩, y3, y4⟩ := HAC.out X HGX.out
    have k0 := True.intro
    have k1 := True.intro
    have k2 := True.intro
    have k3 := True.intro
    have k4 := True.intro
    have HCN := show Hid _ from HNX.out X (grown_trans HX0.out.grown HGX.out)
    have HNEXT := show Hid _ from fun (y : World) (hy : X.grownBy y none) => And.intro (grown_trans HGX.out hy) (And.intro (OwnI.kept HOX.out.1 hy) HOX.out.2)
    clear d2
    go_wp2_with fail
  case' inr.inl =>
    have hbt : b = false := by rw [HB.out, Bool.and_eq_false_iff, beq_eq_false_iff_ne, beq_eq_false_iff_ne]; exact .inr hc.2
    have d1 : ((q : Int) == 0) = true := beq_iff_eq.2 hc.1
    have d1n : (q == 0) = true := beq_iff_eq.2 (by omega)
    have d2 : ((s : Int) == st) = false := beq_eq_false_iff_ne.2 hc.2
    have HGX : Hid (W.grownBy W none) := grown_refl _ _
    have HOX := show Hid _ from HOE.out 0 none 0 W (by rw [hbt]; rfl) (by rw [hbt]; exact World.ownsRow_nil _ _ _ _)
    clear hc HB
    go_enter Tryz.func16, Tryz.ntmps16
    go_wp2_with fail
    rw [← HWE.out]
    have HCN := show Hid _ from HNX.out W HX0.out.grown
    have HNEXT := show Hid _ from fun (y : World) (hy : W.grownBy y none) => And.intro hy (And.intro (OwnI.kept HOX.out.1 hy) HOX.out.2)
    clear d2
  case' inr.inr =>
    have hbt : b = false := by rw [HB.out, Bool.and_eq_false_iff, beq_eq_false_iff_ne, beq_eq_false_iff_ne]; exact .inl hc
    have d1 : ((q : Int) == 0) = false := beq_eq_false_iff_ne.2 hc
    have d1n : (q == 0) = false := beq_eq_false_iff_ne.2 (by omega)
    have HGX : Hid (W.grownBy W none) := grown_refl _ _
    have HOX := show Hid _ from HOE.out 0 none 0 W (by rw [hbt]; rfl) (by rw [hbt]; exact World.ownsRow_nil _ _ _ _)
    clear hc HB
    go_enter Tryz.func16, Tryz.ntmps16
    go_wp2_with fail
    rw [← HWE.out]
    have HCN := show Hid _ from HNX.out W HX0.out.grown
    have HNEXT := show Hid _ from fun (y : World) (hy : W.grownBy y none) => And.intro hy (And.intro (OwnI.kept HOX.out.1 hy) HOX.out.2)
  all_goals
    refine Calls.mono HCN.out ?_
    rintro e w5 ⟨rfl, hg5⟩
    obtain ⟨hg6, ho6, hl6⟩ := HNEXT.out w5 hg5
    have HG6 : Hid (W.grownBy w5 none) := hg6
    have HO6 : Hid (OwnI w5 W.heap.size _ _ _ _) := ho6
    have HL6 := show Hid _ from hl6
    clear hg5 hg6 ho6 hl6 HCN HNEXT HOX HGX y0 y1 y2 y3 y4 k0 k1 k2 k3 k4 d1 d1n hbt
    obtain ⟨⟨y0, -, -⟩, -, -⟩ := HAC.out w5 HG6.out
    have s0 := (HST.out w5 HG6.out).1
    go_wp2_with fail
    clear y0 s0
    go_loopg [7, 10] E (fun gk v7 v10 wr => ∃ (j L : Nat) (a : Option Addr) (c : Nat), j ≤ E ∧ gk = E - j ∧ v10 = .int .i64 j ∧ v7 = .slice a L c ∧ L = (preF b ++ dirL tn ((es.getD tq []).take j)).length ∧ wr.ownsRow W.heap.size 3 1 (.slice a L c) L (intV (preF b ++ dirL tn ((es.getD tq []).take j))) ∧ W.grownBy wr none)
    case atStart => exact ⟨0, _, _, _, Nat.zero_le _, rfl, rfl, rfl, HL6.out, HO6.out, HG6.out⟩
    case round =>
      obtain ⟨j, L, a, c, hj, hgj, rfl, rfl, hLl, hown, hg⟩ := hrel
      have HGJ : Hid (gk = E - j) := hgj
      have HLL : Hid (L = (preF b ++ dirL tn ((es.getD tq []).take j)).length) := hLl
      have HO : Hid (wr.ownsRow W.heap.size 3 1 (.slice a L c) L (intV (preF b ++ dirL tn ((es.getD tq []).take j)))) := hown
      have HG : Hid (W.grownBy wr none) := hg
      have hLb : L ≤ 131 := by
        rw [hLl, List.length_append]
        have h1 := preF_len b
        have h2 := dirL_len tn ((es.getD tq []).take j)
        have h3 : ((es.getD tq []).take j).length ≤ j := by rw [List.length_take]; omega
        omega
      clear hgj hLl hown hg HO6 HL6 HG6
      by_cases hlt : j < E
      · have hjd : decide (j < E) = true := decide_eq_true hlt
        have hj0 : (0 : Int) ≤ (j : Int) := by omega
        have hj1 : (j : Int) < (E : Int) := by omega
        have hje : j < (es.getD tq []).length := by rw [← HE.out]; exact hlt
        have hei := (HST.out wr HG.out).2
        obtain ⟨eb, eo, hea, c0, -⟩ := hei.cellAt (i := j) (by rw [elF_len]; exact hje)
        rw [(elF_at hje).2] at c0
        obtain ⟨x, hx⟩ : ∃ x, x = (es.getD tq []).getD j (0, 0) := ⟨_, rfl⟩
        rw [← hx] at c0
        obtain ⟨u, v⟩ := x
        simp only at c0
        have HTK : Hid (dirL tn ((es.getD tq []).take (j + 1)) = dirL tn ((es.getD tq []).take j) ++ (if u < tn then [(u : Int)] else [])) := by
          show _ = _
          rw [take_snocE hje hx.symm, dirL_snoc]
        obtain ⟨k0, -, -, -, -⟩ := HGC.out wr HG.out
        subst hea
        clear hx hje hei
        by_cases hut : u < tn
        · have hud : decide (u < tn) = true := decide_eq_true hut
          have hud2 : decide ((u : Int) < (tn : Int)) = true := decide_eq_true (by omega)
          rw [if_pos hut] at HTK
          clear hut
          go_wp2_with fail
          go_quiet (fail)
          go_wp2_with (at_builtin; refine wpList_append_srcW rfl (.tmp 51) (.tmp 57) 24 rfl W.heap.size 3 i0 (.int .i64 0) 1 8 Tryz.underlying24 hi0 hz0 hz1 hz2 rfl (by decide) (.slice a L c) L (intV (preF b ++ dirL tn ((es.getD tq []).take j))) rfl (keep0 HO.out (grown_trans (grown_drewN _ _) (World.grownBy_alloc _ _ none))) (some ⟨_, 0, none⟩) 1 1 [.int .i64 (u : Int)] rfl (fun h => by cases h) rfl (fun ad e => by cases e; exact World.news_of_block (heap_alloc_last _ _)) (by simp [Value.oneCell']) (by unfold maxLen; omega) (by omega) (Nat.le_trans HG.out.size (grown_trans (grown_drewN _ _) (World.grownBy_alloc _ _ none)).size) ?_)
          intro v8 wB hoB hgB
          obtain ⟨a8, c8, rfl⟩ := owns_cut hoB
          have HGA : Hid (W.grownBy wB none) := grown_owned (grown_trans HG.out (grown_trans (grown_drewN _ _) (World.grownBy_alloc _ _ none))) (keep0 HO.out (grown_trans (grown_drewN _ _) (World.grownBy_alloc _ _ none))) (Nat.le_refl _) hgB
          have HOB : Hid (OwnI wB W.heap.size a8 (L + 1) c8 (preF b ++ dirL tn ((es.getD tq []).take (j + 1)))) := by
            show World.ownsRow _ _ _ _ _ _ _
            have e9 : intV (preF b ++ (dirL tn ((es.getD tq []).take j) ++ [(u : Int)])) = intV (preF b ++ dirL tn ((es.getD tq []).take j)) ++ [.int .i64 (u : Int)] := by rw [← List.append_assoc]; unfold intV; rw [List.map_append]; rfl
            rw [HTK.out, e9]
            exact hoB
          clear hoB hgB
          go_wp2_with fail
          go_roundg (E - (j + 1))
          case measure => have := HGJ.out; omega
          case rel => exact ⟨j + 1, L + 1, a8, c8, by omega, rfl, by go_num, rfl, by rw [HTK.out, ← List.append_assoc, List.length_append, ← HLL.out]; rfl, HOB.out, HGA.out⟩
        · have hud : decide (u < tn) = false := decide_eq_false hut
          have hud2 : decide ((u : Int) < (tn : Int)) = false := decide_eq_false (by omega)
          rw [if_neg hut, List.append_nil] at HTK
          clear hut
          go_wp2_with fail
          go_quiet (fail)
          go_wp2_with fail
          go_roundg (E - (j + 1))
          case measure => have := HGJ.out; omega
          case rel => exact ⟨j + 1, L, a, c, by omega, rfl, by go_num, rfl, by rw [HTK.out]; exact HLL.out, by rw [HTK.out]; first | exact HO.out | exact keep0 HO.out (grown_drewN _ _), by first | exact HG.out | exact grown_trans HG.out (grown_drewN _ _)⟩
      · have hjE : E = j := by omega
        subst hjE
        have hjd : decide (E < E) = false := decide_eq_false (by omega)
        have HTF : Hid ((es.getD tq []).take E = es.getD tq []) := by show _ = _; rw [HE.out, List.take_length]
        rw [HTF.out] at HLL HO
        go_wp2_with fail
        go_ret
        exact ⟨a, c, by rw [← HLL.out]; rfl, by rw [← HLL.out]; exact owns_base HO.out HX0.out.grown.size, grown_trans HX0.out.grown HG.out⟩
end

end Go.Proofs.YtfcholpleeiddaaGreat.J
