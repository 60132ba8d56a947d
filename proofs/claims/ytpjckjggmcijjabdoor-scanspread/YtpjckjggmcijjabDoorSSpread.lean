/-
  ScanSpread, walked.
-/
import Derived.Test.YtpjckjggmcijjabDoorSMade
import Derived.Test.YtpjckjggmcijjabDoorSAre
namespace Go.Proofs.YtpjckjggmcijjabDoor
open Go.RowKit

attribute [local go_sem] Oper.semAt_some

abbrev Pc := Int × Int × Int × ByteArray
def PcsAt (w : World) (a : Option Addr) (ps : List Pc) : Prop :=
  ps = [] ∨ ∃ b off, a = some ⟨b, off, none⟩ ∧ ∀ i, i < ps.length → w.cell? ⟨b, off + i * 4, none⟩ = some (.int .i64 (ps.getD i (0, 0, 0, ⟨#[]⟩)).1) ∧ w.cell? ⟨b, off + i * 4 + 1, none⟩ = some (.int .i64 (ps.getD i (0, 0, 0, ⟨#[]⟩)).2.1) ∧ w.cell? ⟨b, off + i * 4 + 2, none⟩ = some (.int .i64 (ps.getD i (0, 0, 0, ⟨#[]⟩)).2.2.1) ∧ w.cell? ⟨b, off + i * 4 + 3, none⟩ = some (.string (ps.getD i (0, 0, 0, ⟨#[]⟩)).2.2.2)
theorem PcsAt.kept {w w' : World} {a : Option Addr} {ps : List Pc} (h : PcsAt w a ps) (hg : w.grownBy w' none) : PcsAt w' a ps := by
  rcases h with h | ⟨b, off, ha, hc⟩
  · exact .inl h
  · exact .inr ⟨b, off, ha, fun i hi => ⟨hg.cell (hc i hi).1 (by simp), hg.cell (hc i hi).2.1 (by simp), hg.cell (hc i hi).2.2.1 (by simp), hg.cell (hc i hi).2.2.2 (by simp)⟩⟩
def Fits (z : Int) : Prop := -9223372036854775808 ≤ z ∧ z ≤ 9223372036854775807
def PcOK (p : Pc) : Prop := Fits p.1 ∧ Fits p.2.1 ∧ Fits p.2.2.1

theorem app_empty (a : ByteArray) : a ++ (ByteArray.mk #[]) = a := by
  apply bs_inj
  rw [bs_append]
  exact List.append_nil _
theorem Rd.word0 {acc x t : ByteArray} {ws : List El} {k : Nat} (h : Rd acc ws) (h0 : acc.size = 0) (hw : WordIs k x t) : Rd (acc ++ t) (ws ++ [(k, x, acc.size)]) := by
  have := h.word (g := ⟨#[]⟩) (.inr ⟨rfl, h0⟩) hw
  rwa [app_empty] at this
theorem Rd.done0 {acc : ByteArray} {ws : List El} (h : Rd acc ws) (hl : acc.size ≤ 8192) : scanW acc = (ws, none) := by
  have := h.done (z := ⟨#[]⟩) (.inr (.inl rfl)) rfl (by rw [app_empty]; exact hl)
  rwa [app_empty] at this
theorem owns_past {A B : World} {base e z n l : Nat} {v : Value} {xs : List Value} (ho : A.ownsRow base e z v n xs) (hg : A.grownBy B (some l)) (hl : A.heap.size ≤ l) : B.ownsRow base e z v n xs := by
  refine ho.kept hg ?_
  rcases ho.2 with ⟨rfl, _⟩ | ⟨g, cap, cur, rfl, _, hgb, _⟩
  · exact .inl rfl
  · right
    intro e
    have e' : some g = some l := e
    cases e'
    have := (Array.getElem?_eq_some_iff.1 hgb).1
    omega
theorem neqWord_same (k a : Int) (t : ByteArray) (w : World) : (binOp .neq 36 (.agg #[.int .i64 k, .string t, .int .i64 a]) (.agg #[.int .i64 k, .string t, .int .i64 a])).run Tryd.prog w = .ok (.bool false) w := by
  have h := eqWord_same k a t w
  rw [run_eql_struct] at h
  rw [run_neq_struct]
  generalize (Op.equalIn 10000 36 (.agg #[.int .i64 k, .string t, .int .i64 a]) (.agg #[.int .i64 k, .string t, .int .i64 a])).run Tryd.prog w = r at *
  cases r with
  | ok b w' =>
    have h' : Result.ok (Value.bool b) w' = .ok (.bool true) w := h
    cases h'
    rfl
  | halt x w' => cases h
theorem six_cells {W : World} {B : Nat} {t : TypeId} (h : W.heap[B]? = some (.cells #[.string (gapAt 0), .string (gapAt 1), .string (gapAt 2), .string (gapAt 3), .string (gapAt 4), .string (gapAt 5)] t (0, 0))) (k : Nat) (hk : k < 6) : W.cell? ⟨B, k, none⟩ = some (.string (gapAt k)) := by
  obtain rfl | rfl | rfl | rfl | rfl | rfl : k = 0 ∨ k = 1 ∨ k = 2 ∨ k = 3 ∨ k = 4 ∨ k = 5 := by omega
  all_goals (rw [cell_of_row _ _ _ _ _ _ h]; rfl)

set_option maxRecDepth 100000 in
set_option maxHeartbeats 2000000 in
theorem spread_any (a : Option Addr) (c : Nat) (ps : List Pc) (w : World) (hps : PcsAt w a ps) (hok : ∀ p ∈ ps, PcOK p) (hlen : ps.length ≤ 8796093022208) (hO : Ords w) (HAW : Hid (Calls Tryd.prog 8 #[] w fun e w' => e = .returned (.bool true) ∧ w.grownBy w' none)) :
    Calls Tryd.prog 6 #[.slice a ps.length c] w fun e w' => e = .returned (.bool true) ∧ w.grownBy w' none := by
  have HPS : Hid (PcsAt w a ps) := hps
  have HOK : Hid (∀ p ∈ ps, PcOK p) := hok
  have HO : Hid (Ords w) := hO
  obtain ⟨n, hn⟩ : ∃ n, n = ps.length := ⟨_, rfl⟩
  have HN : Hid (n = ps.length) := hn
  rw [← hn] at hlen ⊢
  obtain ⟨i0, hi, hz0, hz1, hz2⟩ := info_parts infoWd
  clear hps hok hO hn
  go_enter Tryd.func6, Tryd.ntmps6
  go_wp2_with fail
  refine HAW.out.mono ?_
  rintro e w2 ⟨rfl, hg2⟩
  have HG2 : Hid (w.grownBy w2 none) := hg2
  clear hg2 HAW
  go_wp2_with fail
  obtain ⟨X, hX⟩ : ∃ X, w2.alloc (.cells #[.string (gapAt 0), .string (gapAt 1), .string (gapAt 2), .string (gapAt 3), .string (gapAt 4), .string (gapAt 5)] 9) = X := ⟨_, rfl⟩
  have HGX : Hid (w.grownBy X none) := by rw [← hX]; exact grown_trans HG2.out (World.grownBy_alloc _ _ none)
  have HROWG : Hid (X.heap[w2.heap.size]? = some (.cells #[.string (gapAt 0), .string (gapAt 1), .string (gapAt 2), .string (gapAt 3), .string (gapAt 4), .string (gapAt 5)] 9 (0, 0))) := by rw [← hX]; exact heap_alloc_new w2 _
  go_loopw [4, 5, 6] (fun v4 v5 v6 wr => ∃ (k : Nat) (acc : ByteArray) (wl : List El), k ≤ n ∧ k ≤ 200 ∧ v6 = .int .i64 k ∧ v4 = .string acc ∧ Rd acc wl ∧ acc.size ≤ k * 29 ∧ X.grownBy wr none ∧ wr.ownsRow X.heap.size 36 3 v5 wl.length (wl.flatMap elL) ∧ wl.length = k) (fun _ _ v6 _ => 200 - (intOf v6).toNat)
  case atStart => exact ⟨0, ⟨#[]⟩, [], Nat.zero_le _, Nat.zero_le _, rfl, rfl, Rd.nil, by decide, by rw [← hX]; exact grown_refl _ _, World.ownsRow_nil _ _ _ _, rfl⟩
  case round =>
    clear hX
    obtain ⟨k, acc, wl, hkn, hk2, rfl, rfl, hrd, hsz, hg, hrow, hwl⟩ := hrel
    have HG : Hid (X.grownBy wr none) := hg
    have HROW : Hid (wr.ownsRow X.heap.size 36 3 u5 wl.length (wl.flatMap elL)) := hrow
    have HRD : Hid (Rd acc wl) := hrd
    have HWL : Hid (wl.length = k) := hwl
    clear hg hrow hrd hwl
    by_cases hlt : k < n ∧ k < 200
    · obtain ⟨h1, h2⟩ := hlt
      have d200 : decide ((k : Int) < 200) = true := decide_eq_true (by omega)
      rcases HPS.out.kept (grown_trans HGX.out HG.out) with h0 | ⟨pb, po, rfl, hpc⟩
      · have := HN.out; rw [h0] at this; simp at this; omega
      · have hk' : k < ps.length := by rw [← HN.out]; exact h1
        have HPC : Hid (∀ W, wr.grownBy W none → W.cell? ⟨pb, po + k * 4 + 2, none⟩ = some (.int .i64 (ps.getD k (0, 0, 0, ⟨#[]⟩)).2.2.1)) := fun W hW => hW.cell (hpc k hk').2.2.1 (by simp)
        obtain ⟨q0, q1, q2, q3⟩ := hpc k hk'
        have hpo : PcOK (ps.getD k (0, 0, 0, ⟨#[]⟩)) := HOK.out _ (by rw [List.getD, List.getElem?_eq_getElem hk']; exact List.getElem_mem hk')
        generalize ps.getD k (0, 0, 0, ⟨#[]⟩) = p at *
        obtain ⟨kd, nn, gp, ss⟩ := p
        obtain ⟨⟨ok1, ok2⟩, ⟨on1, on2⟩, ⟨og1, og2⟩⟩ := hpo
        have HMADE : Hid (∀ W, Calls Tryd.prog 19 #[.agg #[.int .i64 kd, .int .i64 nn, .int .i64 gp, .string ss]] W fun e w' => (∃ v, e = .returned v ∧ MadeV v) ∧ W.grownBy w' none) := fun W => made_any kd nn gp ss ok1 ok2 on1 on2 W
        have HP2 : Hid (∀ W, Calls Tryd.prog 14 #[.int .i64 gp, .int .i64 2] W fun e w' => (∃ r : Nat, r < 2 ∧ e = .returned (.int .i64 r)) ∧ w' = W) := fun W => pick_any gp og1 og2 2 (by decide) (by decide) W
        have HP6 : Hid (∀ W, Calls Tryd.prog 14 #[.int .i64 gp, .int .i64 6] W fun e w' => (∃ r : Nat, r < 6 ∧ e = .returned (.int .i64 r)) ∧ w' = W) := fun W => pick_any gp og1 og2 6 (by decide) (by decide) W
        clear hpc ok1 ok2 on1 on2 og1 og2
        simp only at q0 q1 q2 q3 HPC
        go_wp2_with fail
        refine (HMADE.out _).mono ?_
        rintro e W2 ⟨⟨v, rfl, kk, x, t, rfl, hwi⟩, hg2⟩
        have HWI : Hid (WordIs kk x t) := hwi
        have hts := word_size hwi
        have HGW : Hid (wr.grownBy W2 none) := hg2
        clear hwi hg2 q0 q1 q2 q3 HMADE
        go_upto_region 10 with fail
        obtain ⟨Y, hY⟩ : ∃ Y, W2.alloc (.cells #[.int .i64 kk, .string x, .int .i64 0] 36) = Y := ⟨_, rfl⟩
        have HGY : Hid (wr.grownBy Y none) := by rw [← hY]; exact grown_trans HGW.out (World.grownBy_alloc _ _ none)
        have HBX : Hid (Y.heap[W2.heap.size]? = some (.cells #[.int .i64 kk, .string x, .int .i64 0] 36 (0, 0))) := by rw [← hY]; exact heap_alloc_new W2 _
        have hwW2 : wr.heap.size ≤ W2.heap.size := HGW.out.size
        have hXW2 : X.heap.size ≤ W2.heap.size := Nat.le_trans HG.out.size HGW.out.size
        rw [hY]
        clear hY HGW
        have q2 := HPC.out Y HGY.out
        have HGAP : Hid (∀ r, r < 6 → Y.cell? ⟨w2.heap.size, r, none⟩ = some (.string (gapAt r))) := six_cells (((grown_trans HG.out HGY.out).block _ (Array.getElem?_eq_some_iff.1 HROWG.out).1 (by simp)).trans HROWG.out)
        obtain ⟨bx0, bx1, bx2⟩ := three_cells HBX.out
        have bxf := fun j => frozen_of_row Y W2.heap.size j _ _ HBX.out
        go_cut [43] from 33 to 43 (fun v43 wx => (∃ b : Bool, v43 = .bool b ∧ (b = false → k = 0)) ∧ wx = Y)
        case first =>
          by_cases hk0 : k = 0
          · have dk : decide (0 < (k : Int)) = false := decide_eq_false (by omega)
            have dk' : decide (0 < k) = false := decide_eq_false (by omega)
            have HK0 : Hid (k = 0) := hk0
            clear hk0
            go_wp2_with (go_at_call 14; refine (HP2.out _).mono ?_; rintro e w' ⟨⟨r, hr, rfl⟩, hw⟩; subst hw)
            go_meet
            exact ⟨⟨_, rfl, fun _ => HK0.out⟩, rfl⟩
          · have dk : decide (0 < (k : Int)) = true := decide_eq_true (by omega)
            have dk' : decide (0 < k) = true := decide_eq_true (by omega)
            clear hk0
            go_wp2_with fail
            go_meet
            exact ⟨⟨true, rfl, fun h => (by cases h)⟩, rfl⟩
        case rest =>
          obtain ⟨⟨bb, hv43, hbk⟩, hwc⟩ := hcut
          subst hwc
          rw [hv43]
          clear hv43
          cases bb with
          | true =>
            clear hbk
            go_wp2_with fail
            refine (HP6.out _).mono ?_
            rintro e w' ⟨⟨r, hr, rfl⟩, hw⟩
            subst hw
            have hgc := HGAP.out r hr
            obtain ⟨hgap, hgs⟩ := gap_is r hr
            have HNEXT : Hid (Rd (acc ++ gapAt r ++ t) (wl ++ [(kk, x, (acc ++ gapAt r).size)])) := HRD.out.word (.inl hgap) HWI.out
            have hz1b : (acc ++ gapAt r).size ≤ k * 29 + 11 := by rw [size_append]; omega
            have HZ2 : Hid ((acc ++ gapAt r ++ t).size = (acc ++ gapAt r).size + t.size) := size_append _ _
            clear hgap
            generalize gapAt r = gg at *
            go_upto_region 12 with fail
            generalize acc ++ gg = tx at *
            have HR1 : Hid ((w'.setCell ⟨W2.heap.size, 2, none⟩ (.int .i64 tx.size)).ownsRow X.heap.size 36 3 u5 wl.length (wl.flatMap elL)) := owns_past HROW.out (grown_trans (grown_but _ HGY.out) (grown_setCell _ _ _)) hwW2
            have HGS : Hid (X.grownBy (w'.setCell ⟨W2.heap.size, 2, none⟩ (.int .i64 tx.size)) none) := grown_new HG.out (grown_trans (grown_but _ HGY.out) (grown_setCell _ _ _)) hXW2
            have hss : (w'.setCell ⟨W2.heap.size, 2, none⟩ (.int .i64 tx.size)).heap.size = w'.heap.size := by simp [World.setCell]
            have HNW : Hid (∀ o : Obj, ((w'.setCell ⟨W2.heap.size, 2, none⟩ (.int .i64 tx.size)).alloc o).heap[w'.heap.size]? = some o) := fun o => by
              have := heap_alloc_new (w'.setCell ⟨W2.heap.size, 2, none⟩ (.int .i64 tx.size)) o
              rwa [hss] at this
            have hXY : X.heap.size ≤ w'.heap.size := (grown_trans HG.out HGY.out).size
            have hwl200 : wl.length ≤ 200 := by have := HWL.out; omega
            clear hss
            go_wp2_with (at_builtin; refine wpList_append_own_at _ rfl _ _ 26 rfl X.heap.size 36 i0 _ 3 32 Tryd.underlying26 hi hz0 hz1 hz2 rfl (by decide) _ _ _ rfl (HR1.out.alloc _) ⟨w'.heap.size, 0, none⟩ 1 1 (elL (kk, x, tx.size)) rfl rfl (fun j u hu => World.news_of_block (HNW.out _) j u hu) (by simp [elL, Value.oneCell']) (by unfold maxLen; omega) (by omega) (by simp [World.setCell]; omega) ?_)
            intro v' w3 hown3 hg3 _ _
            have hga := World.grownBy_alloc (w'.setCell ⟨W2.heap.size, 2, none⟩ (.int .i64 tx.size)) (.cells #[.int .i64 kk, .string x, .int .i64 tx.size] 36) none
            have HG3 : Hid (X.grownBy w3 none) := grown_own (grown_trans HGS.out hga) (owns_kept HR1.out hga) hg3
            have HROW3 : Hid (w3.ownsRow X.heap.size 36 3 v' (wl.length + 1) (wl.flatMap elL ++ elL (kk, x, tx.size))) := hown3
            clear hown3 hg3 hga
            have hwk := wrap_fits (x := (k : Int) + 1) (by omega) (by omega)
            go_wp2_with fail
            go_roundw
            case rel => exact ⟨k + 1, tx ++ t, wl ++ [(kk, x, tx.size)], by omega, by omega, by go_num, rfl, HNEXT.out, by rw [HZ2.out]; omega, HG3.out, by simpa using HROW3.out, by simp [HWL.out]⟩
            case measure => simp [intOf]; omega
          | false =>
            have hk0 := hbk rfl
            have HK0 : Hid (acc.size = 0) := by show acc.size = 0; omega
            have HNEXT : Hid (Rd (acc ++ t) (wl ++ [(kk, x, acc.size)])) := HRD.out.word0 HK0.out HWI.out
            have HZ2 : Hid ((acc ++ t).size = acc.size + t.size) := size_append _ _
            clear hbk hk0
            have HR1 : Hid ((wc.setCell ⟨W2.heap.size, 2, none⟩ (.int .i64 acc.size)).ownsRow X.heap.size 36 3 u5 wl.length (wl.flatMap elL)) := owns_past HROW.out (grown_trans (grown_but _ HGY.out) (grown_setCell _ _ _)) hwW2
            have HGS : Hid (X.grownBy (wc.setCell ⟨W2.heap.size, 2, none⟩ (.int .i64 acc.size)) none) := grown_new HG.out (grown_trans (grown_but _ HGY.out) (grown_setCell _ _ _)) hXW2
            have hss : (wc.setCell ⟨W2.heap.size, 2, none⟩ (.int .i64 acc.size)).heap.size = wc.heap.size := by simp [World.setCell]
            have HNW : Hid (∀ o : Obj, ((wc.setCell ⟨W2.heap.size, 2, none⟩ (.int .i64 acc.size)).alloc o).heap[wc.heap.size]? = some o) := fun o => by
              have := heap_alloc_new (wc.setCell ⟨W2.heap.size, 2, none⟩ (.int .i64 acc.size)) o
              rwa [hss] at this
            have hXY : X.heap.size ≤ wc.heap.size := (grown_trans HG.out HGY.out).size
            have hwl200 : wl.length ≤ 200 := by have := HWL.out; omega
            clear hss
            go_wp2_with (at_builtin; refine wpList_append_own_at _ rfl _ _ 26 rfl X.heap.size 36 i0 _ 3 32 Tryd.underlying26 hi hz0 hz1 hz2 rfl (by decide) _ _ _ rfl (HR1.out.alloc _) ⟨wc.heap.size, 0, none⟩ 1 1 (elL (kk, x, acc.size)) rfl rfl (fun j u hu => World.news_of_block (HNW.out _) j u hu) (by simp [elL, Value.oneCell']) (by unfold maxLen; omega) (by omega) (by simp [World.setCell]; omega) ?_)
            intro v' w3 hown3 hg3 _ _
            have hga := World.grownBy_alloc (wc.setCell ⟨W2.heap.size, 2, none⟩ (.int .i64 acc.size)) (.cells #[.int .i64 kk, .string x, .int .i64 acc.size] 36) none
            have HG3 : Hid (X.grownBy w3 none) := grown_own (grown_trans HGS.out hga) (owns_kept HR1.out hga) hg3
            have HROW3 : Hid (w3.ownsRow X.heap.size 36 3 v' (wl.length + 1) (wl.flatMap elL ++ elL (kk, x, acc.size))) := hown3
            clear hown3 hg3 hga
            have hwk := wrap_fits (x := (k : Int) + 1) (by omega) (by omega)
            go_wp2_with fail
            go_roundw
            case rel => exact ⟨k + 1, acc ++ t, wl ++ [(kk, x, acc.size)], by omega, by omega, by go_num, rfl, HNEXT.out, by rw [HZ2.out]; omega, HG3.out, by simpa using HROW3.out, by simp [HWL.out]⟩
            case measure => simp [intOf]; omega
    · have hacc : acc.size ≤ 5800 := by omega
      have hlt' : ¬ (k < n ∧ k < 200) := hlt
      obtain ⟨av, cv, hvf⟩ := owns_form HROW.out
      subst hvf
      have HWA : Hid (WordsAt wr av wl) := owns_words HROW.out
      have HGR : Hid (w.grownBy wr none) := grown_trans HGX.out HG.out
      have HPR : Hid (PcsAt wr a ps) := HPS.out.kept HGR.out
      have HRDA : Hid (scanW acc = (wl, none)) := HRD.out.done0 (by omega)
      have HRDE : Hid (scanW (acc ++ endText) = (wl, none)) := HRD.out.done (.inr end_is.1) end_is.2 (by rw [size_append]; have : endText.size = 15 := rfl; omega)
      have hwl200 : wl.length ≤ 200 := by have := HWL.out; omega
      clear HROW HG HRD HWL HGX HROWG HPS hlt hsz
      obtain ⟨m, hm⟩ : ∃ m, m = wl.length := ⟨_, rfl⟩
      have HM : Hid (m = wl.length) := hm
      rw [← hm] at hwl200 ⊢
      clear hm
      by_cases hkn' : k < n
      · have d2 : decide ((k : Int) < 200) = false := decide_eq_false (by omega)
        clear hlt'
        go_upto_region 15 with fail
        go_cut [77] from 67 to 77 (fun v77 wx => (∃ b : Bool, v77 = .bool b) ∧ wx = wr)
        case first =>
          by_cases hn0 : n = 0
          · subst hn0
            go_wp2_with fail
            go_meet
            exact ⟨⟨false, rfl⟩, rfl⟩
          · have dn : decide (0 < (n : Int)) = true := decide_eq_true (by omega)
            have dn' : decide (0 < n) = true := decide_eq_true (by omega)
            have hn1 : 0 < n := by omega
            rcases HPR.out with h0 | ⟨pb, po, rfl, hpc⟩
            · have := HN.out; rw [h0] at this; simp at this; omega
            · have h0' : 0 < ps.length := by rw [← HN.out]; omega
              obtain ⟨_, q1, _, _⟩ := hpc 0 h0'
              have hpo : PcOK (ps.getD 0 (0, 0, 0, ⟨#[]⟩)) := HOK.out _ (by rw [List.getD, List.getElem?_eq_getElem h0']; exact List.getElem_mem h0')
              generalize ps.getD 0 (0, 0, 0, ⟨#[]⟩) = p at *
              obtain ⟨kd, nn, gp, ss⟩ := p
              obtain ⟨_, ⟨on1, on2⟩, _⟩ := hpo
              have HP3 : Hid (∀ W, Calls Tryd.prog 14 #[.int .i64 nn, .int .i64 3] W fun e w' => (∃ r : Nat, r < 3 ∧ e = .returned (.int .i64 r)) ∧ w' = W) := fun W => pick_any nn on1 on2 3 (by decide) (by decide) W
              simp only [Nat.zero_mul, Nat.add_zero] at q1
              clear hpc hn0
              go_wp2_with (go_at_call 14; refine (HP3.out _).mono ?_; rintro e w' ⟨⟨r, hr, rfl⟩, hw⟩; subst hw)
              go_meet
              exact ⟨⟨_, rfl⟩, rfl⟩
        case rest =>
          obtain ⟨⟨bb, hv77⟩, hwc⟩ := hcut
          subst hwc
          rw [hv77]
          clear hv77 HPR
          cases bb with
          | true =>
            have HSC : Hid (scanW (acc ++ endText) = (wl, none)) := HRDE.out
            clear HRDA HRDE
            go_wp2_with fail
            refine (words_ok (acc ++ endText) _ (HO.out.grown0 HGR.out) wl HSC.out).mono ?_
            rintro e w9 ⟨a9, c9, rfl, hown9, hg9⟩
            have HA9 : Hid (WordsAt w9 a9 wl) := owns_words hown9
            have HB9 : Hid (WordsAt w9 av wl) := HWA.out.kept hg9
            have HG9 : Hid (w.grownBy w9 none) := grown_trans HGR.out hg9
            clear hown9 hg9 HWA HGR HSC
            unfold mishapV
            rw [← HM.out]
            go_wp2_with fail
            have hga := World.grownBy_alloc w9 (.cells #[.int .i64 0, .int .i64 0, .slice none 0 0] 30) none
            generalize w9.alloc (.cells #[.int .i64 0, .int .i64 0, .slice none 0 0] 30) = Z at *
            have HAZ : Hid (WordsAt Z a9 wl) := HA9.out.kept hga
            have HBZ : Hid (WordsAt Z av wl) := HB9.out.kept hga
            have HGZ : Hid (w.grownBy Z none) := grown_trans HG9.out hga
            clear hga HA9 HB9 HG9
            go_loopw [11] (fun v11 wr => ∃ j : Nat, j ≤ m ∧ v11 = .int .i64 j ∧ Z.grownBy wr none) (fun v11 _ => m - (intOf v11).toNat)
            case atStart => exact ⟨0, Nat.zero_le _, rfl, grown_refl _ _⟩
            case round =>
              obtain ⟨j, hj, rfl, hgz⟩ := hrel
              have HGJ : Hid (Z.grownBy wr none) := hgz
              by_cases hlt2 : j < m
              · have hlt3 : j < wl.length := by rw [← HM.out]; exact hlt2
                rcases HAZ.out.kept hgz with h0 | ⟨ba, oa, rfl, hA⟩
                · rw [h0] at hlt3; simp at hlt3
                · rcases HBZ.out.kept hgz with h0 | ⟨bb2, ob, rfl, hBB⟩
                  · rw [h0] at hlt3; simp at hlt3
                  · obtain ⟨e0, e1, e2⟩ := hA j hlt3
                    obtain ⟨g0, g1, g2⟩ := hBB j hlt3
                    generalize wl.getD j (0, ⟨#[]⟩, 0) = y at *
                    have hneq := fun W => neqWord_same y.1 y.2.2 y.2.1 W
                    have hwk := wrap_fits (x := (j : Int) + 1) (by omega) (by omega)
                    clear hA hBB hgz hlt3
                    go_wp2_with fail
                    go_quiet (fail)
                    go_wp2_with fail
                    exact ⟨⟨j + 1, by omega, by go_num, grown_trans HGJ.out (grown_drewN _ _)⟩, by simp [intOf]; omega⟩
              · go_wp2_with fail
                go_ret
                exact ⟨rfl, grown_trans HGZ.out hgz⟩
          | false =>
            have HSC : Hid (scanW acc = (wl, none)) := HRDA.out
            clear HRDA HRDE
            go_wp2_with fail
            refine (words_ok acc _ (HO.out.grown0 HGR.out) wl HSC.out).mono ?_
            rintro e w9 ⟨a9, c9, rfl, hown9, hg9⟩
            have HA9 : Hid (WordsAt w9 a9 wl) := owns_words hown9
            have HB9 : Hid (WordsAt w9 av wl) := HWA.out.kept hg9
            have HG9 : Hid (w.grownBy w9 none) := grown_trans HGR.out hg9
            clear hown9 hg9 HWA HGR HSC
            unfold mishapV
            rw [← HM.out]
            go_wp2_with fail
            have hga := World.grownBy_alloc w9 (.cells #[.int .i64 0, .int .i64 0, .slice none 0 0] 30) none
            generalize w9.alloc (.cells #[.int .i64 0, .int .i64 0, .slice none 0 0] 30) = Z at *
            have HAZ : Hid (WordsAt Z a9 wl) := HA9.out.kept hga
            have HBZ : Hid (WordsAt Z av wl) := HB9.out.kept hga
            have HGZ : Hid (w.grownBy Z none) := grown_trans HG9.out hga
            clear hga HA9 HB9 HG9
            go_loopw [11] (fun v11 wr => ∃ j : Nat, j ≤ m ∧ v11 = .int .i64 j ∧ Z.grownBy wr none) (fun v11 _ => m - (intOf v11).toNat)
            case atStart => exact ⟨0, Nat.zero_le _, rfl, grown_refl _ _⟩
            case round =>
              obtain ⟨j, hj, rfl, hgz⟩ := hrel
              have HGJ : Hid (Z.grownBy wr none) := hgz
              by_cases hlt2 : j < m
              · have hlt3 : j < wl.length := by rw [← HM.out]; exact hlt2
                rcases HAZ.out.kept hgz with h0 | ⟨ba, oa, rfl, hA⟩
                · rw [h0] at hlt3; simp at hlt3
                · rcases HBZ.out.kept hgz with h0 | ⟨bb2, ob, rfl, hBB⟩
                  · rw [h0] at hlt3; simp at hlt3
                  · obtain ⟨e0, e1, e2⟩ := hA j hlt3
                    obtain ⟨g0, g1, g2⟩ := hBB j hlt3
                    generalize wl.getD j (0, ⟨#[]⟩, 0) = y at *
                    have hneq := fun W => neqWord_same y.1 y.2.2 y.2.1 W
                    have hwk := wrap_fits (x := (j : Int) + 1) (by omega) (by omega)
                    clear hA hBB hgz hlt3
                    go_wp2_with fail
                    go_quiet (fail)
                    go_wp2_with fail
                    exact ⟨⟨j + 1, by omega, by go_num, grown_trans HGJ.out (grown_drewN _ _)⟩, by simp [intOf]; omega⟩
              · go_wp2_with fail
                go_ret
                exact ⟨rfl, grown_trans HGZ.out hgz⟩
      · clear hlt'
        go_upto_region 15 with fail
        go_cut [77] from 67 to 77 (fun v77 wx => (∃ b : Bool, v77 = .bool b) ∧ wx = wr)
        case first =>
          by_cases hn0 : n = 0
          · subst hn0
            go_wp2_with fail
            go_meet
            exact ⟨⟨false, rfl⟩, rfl⟩
          · have dn : decide (0 < (n : Int)) = true := decide_eq_true (by omega)
            have dn' : decide (0 < n) = true := decide_eq_true (by omega)
            have hn1 : 0 < n := by omega
            rcases HPR.out with h0 | ⟨pb, po, rfl, hpc⟩
            · have := HN.out; rw [h0] at this; simp at this; omega
            · have h0' : 0 < ps.length := by rw [← HN.out]; omega
              obtain ⟨_, q1, _, _⟩ := hpc 0 h0'
              have hpo : PcOK (ps.getD 0 (0, 0, 0, ⟨#[]⟩)) := HOK.out _ (by rw [List.getD, List.getElem?_eq_getElem h0']; exact List.getElem_mem h0')
              generalize ps.getD 0 (0, 0, 0, ⟨#[]⟩) = p at *
              obtain ⟨kd, nn, gp, ss⟩ := p
              obtain ⟨_, ⟨on1, on2⟩, _⟩ := hpo
              have HP3 : Hid (∀ W, Calls Tryd.prog 14 #[.int .i64 nn, .int .i64 3] W fun e w' => (∃ r : Nat, r < 3 ∧ e = .returned (.int .i64 r)) ∧ w' = W) := fun W => pick_any nn on1 on2 3 (by decide) (by decide) W
              simp only [Nat.zero_mul, Nat.add_zero] at q1
              clear hpc hn0
              go_wp2_with (go_at_call 14; refine (HP3.out _).mono ?_; rintro e w' ⟨⟨r, hr, rfl⟩, hw⟩; subst hw)
              go_meet
              exact ⟨⟨_, rfl⟩, rfl⟩
        case rest =>
          obtain ⟨⟨bb, hv77⟩, hwc⟩ := hcut
          subst hwc
          rw [hv77]
          clear hv77 HPR
          cases bb with
          | true =>
            have HSC : Hid (scanW (acc ++ endText) = (wl, none)) := HRDE.out
            clear HRDA HRDE
            go_wp2_with fail
            refine (words_ok (acc ++ endText) _ (HO.out.grown0 HGR.out) wl HSC.out).mono ?_
            rintro e w9 ⟨a9, c9, rfl, hown9, hg9⟩
            have HA9 : Hid (WordsAt w9 a9 wl) := owns_words hown9
            have HB9 : Hid (WordsAt w9 av wl) := HWA.out.kept hg9
            have HG9 : Hid (w.grownBy w9 none) := grown_trans HGR.out hg9
            clear hown9 hg9 HWA HGR HSC
            unfold mishapV
            rw [← HM.out]
            go_wp2_with fail
            have hga := World.grownBy_alloc w9 (.cells #[.int .i64 0, .int .i64 0, .slice none 0 0] 30) none
            generalize w9.alloc (.cells #[.int .i64 0, .int .i64 0, .slice none 0 0] 30) = Z at *
            have HAZ : Hid (WordsAt Z a9 wl) := HA9.out.kept hga
            have HBZ : Hid (WordsAt Z av wl) := HB9.out.kept hga
            have HGZ : Hid (w.grownBy Z none) := grown_trans HG9.out hga
            clear hga HA9 HB9 HG9
            go_loopw [11] (fun v11 wr => ∃ j : Nat, j ≤ m ∧ v11 = .int .i64 j ∧ Z.grownBy wr none) (fun v11 _ => m - (intOf v11).toNat)
            case atStart => exact ⟨0, Nat.zero_le _, rfl, grown_refl _ _⟩
            case round =>
              obtain ⟨j, hj, rfl, hgz⟩ := hrel
              have HGJ : Hid (Z.grownBy wr none) := hgz
              by_cases hlt2 : j < m
              · have hlt3 : j < wl.length := by rw [← HM.out]; exact hlt2
                rcases HAZ.out.kept hgz with h0 | ⟨ba, oa, rfl, hA⟩
                · rw [h0] at hlt3; simp at hlt3
                · rcases HBZ.out.kept hgz with h0 | ⟨bb2, ob, rfl, hBB⟩
                  · rw [h0] at hlt3; simp at hlt3
                  · obtain ⟨e0, e1, e2⟩ := hA j hlt3
                    obtain ⟨g0, g1, g2⟩ := hBB j hlt3
                    generalize wl.getD j (0, ⟨#[]⟩, 0) = y at *
                    have hneq := fun W => neqWord_same y.1 y.2.2 y.2.1 W
                    have hwk := wrap_fits (x := (j : Int) + 1) (by omega) (by omega)
                    clear hA hBB hgz hlt3
                    go_wp2_with fail
                    go_quiet (fail)
                    go_wp2_with fail
                    exact ⟨⟨j + 1, by omega, by go_num, grown_trans HGJ.out (grown_drewN _ _)⟩, by simp [intOf]; omega⟩
              · go_wp2_with fail
                go_ret
                exact ⟨rfl, grown_trans HGZ.out hgz⟩
          | false =>
            have HSC : Hid (scanW acc = (wl, none)) := HRDA.out
            clear HRDA HRDE
            go_wp2_with fail
            refine (words_ok acc _ (HO.out.grown0 HGR.out) wl HSC.out).mono ?_
            rintro e w9 ⟨a9, c9, rfl, hown9, hg9⟩
            have HA9 : Hid (WordsAt w9 a9 wl) := owns_words hown9
            have HB9 : Hid (WordsAt w9 av wl) := HWA.out.kept hg9
            have HG9 : Hid (w.grownBy w9 none) := grown_trans HGR.out hg9
            clear hown9 hg9 HWA HGR HSC
            unfold mishapV
            rw [← HM.out]
            go_wp2_with fail
            have hga := World.grownBy_alloc w9 (.cells #[.int .i64 0, .int .i64 0, .slice none 0 0] 30) none
            generalize w9.alloc (.cells #[.int .i64 0, .int .i64 0, .slice none 0 0] 30) = Z at *
            have HAZ : Hid (WordsAt Z a9 wl) := HA9.out.kept hga
            have HBZ : Hid (WordsAt Z av wl) := HB9.out.kept hga
            have HGZ : Hid (w.grownBy Z none) := grown_trans HG9.out hga
            clear hga HA9 HB9 HG9
            go_loopw [11] (fun v11 wr => ∃ j : Nat, j ≤ m ∧ v11 = .int .i64 j ∧ Z.grownBy wr none) (fun v11 _ => m - (intOf v11).toNat)
            case atStart => exact ⟨0, Nat.zero_le _, rfl, grown_refl _ _⟩
            case round =>
              obtain ⟨j, hj, rfl, hgz⟩ := hrel
              have HGJ : Hid (Z.grownBy wr none) := hgz
              by_cases hlt2 : j < m
              · have hlt3 : j < wl.length := by rw [← HM.out]; exact hlt2
                rcases HAZ.out.kept hgz with h0 | ⟨ba, oa, rfl, hA⟩
                · rw [h0] at hlt3; simp at hlt3
                · rcases HBZ.out.kept hgz with h0 | ⟨bb2, ob, rfl, hBB⟩
                  · rw [h0] at hlt3; simp at hlt3
                  · obtain ⟨e0, e1, e2⟩ := hA j hlt3
                    obtain ⟨g0, g1, g2⟩ := hBB j hlt3
                    generalize wl.getD j (0, ⟨#[]⟩, 0) = y at *
                    have hneq := fun W => neqWord_same y.1 y.2.2 y.2.1 W
                    have hwk := wrap_fits (x := (j : Int) + 1) (by omega) (by omega)
                    clear hA hBB hgz hlt3
                    go_wp2_with fail
                    go_quiet (fail)
                    go_wp2_with fail
                    exact ⟨⟨j + 1, by omega, by go_num, grown_trans HGJ.out (grown_drewN _ _)⟩, by simp [intOf]; omega⟩
              · go_wp2_with fail
                go_ret
                exact ⟨rfl, grown_trans HGZ.out hgz⟩

end Go.Proofs.YtpjckjggmcijjabDoor
