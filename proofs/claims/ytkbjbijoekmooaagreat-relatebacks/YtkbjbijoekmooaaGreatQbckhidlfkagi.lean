/-
  trans: the document's Way and Walk.
-/
import Derived.Test.YtkbjbijoekmooaaGreatQhibjijflakdi
import Derived.Deep.RegionHeld3
namespace Go.Proofs.YtkbjbijoekmooaaGreat.J
open Go.RowKit Go.Maps Go.Shelf

attribute [local go_sem] Oper.semAt_some

theorem wayF_range {ks : List (List It)} {es : List (List (Nat × Nat))} (hE : EsOK ks es) : ∀ (r : List Int) (q v : Int), 0 ≤ q → q < (ks.length : Int) → wayF es (some q) r = some v → 0 ≤ v ∧ v < (ks.length : Int)
  | [], q, v, h0, h1, h => by
    unfold wayF at h
    cases h
    exact ⟨h0, h1⟩
  | s :: r, q, v, h0, h1, h => by
    unfold wayF at h
    cases h2 : leadA es (q, s) with
    | none => rw [h2, wayF_none] at h; cases h
    | some u =>
      rw [h2] at h
      have h3 := hE.lead h2
      exact wayF_range hE r u v h3.1 h3.2 h

set_option maxRecDepth 100000 in
theorem rway_any (sa : Option Addr) (sc : Nat) (ask nI : Int) (w : World) (B : Nat) (ks : List (List It)) (es : List (List (Nat × Nat))) (kv ev : Nat → Value) (hP : AutP B w (.slice sa ks.length sc) ks (elF es) kv ev) (hE : EsOK ks es) (q : Nat) (hq : q < ks.length) (ra : Option Addr) (rc : Nat) (row : List Int) (hr : IntsAt w ra row) (hrb : row.length ≤ 1099511627776000) :
    Calls Tryz.prog 24 #[.agg #[.slice sa ks.length sc, .int .i64 ask, .int .i64 nI], .int .i64 (q : Int), .slice ra row.length rc] w fun e y => e = .returned (.int .i64 (wayV (wayF es (some (q : Int)) row))) ∧ w.grownBy y none := by
  obtain ⟨N, hN⟩ : ∃ n, n = ks.length := ⟨_, rfl⟩
  have HN : Hid (N = ks.length) := hN
  have HNX : Hid (∀ Y (v : Nat) (s : Int), w.grownBy Y none → v < N → Calls Tryz.prog 49 #[.agg #[.slice sa N sc, .int .i64 ask, .int .i64 nI], .int .i64 (v : Int), .int .i64 s] Y fun e y => e = .returned (.int .i64 (wayV (leadA es ((v : Int), s)))) ∧ Y.grownBy y none) := fun Y v s hY hv => by
    have h := rnext_any sa sc ask nI Y B ks es kv ev (hP.kept hY) hE.short v (by rw [← hN]; exact hv) s
    rw [← leadA_at es (by rw [hE.len, ← hN]; exact hv)] at h
    rw [hN]; exact h
  have HRG : Hid (∀ i v, wayF es (some (q : Int)) (row.take i) = some v → 0 ≤ v ∧ v < (N : Int)) := fun i v h => by
    rw [hN]
    exact wayF_range hE (row.take i) (q : Int) v (by omega) (by omega) h
  have HROW : Hid (∀ Y, w.grownBy Y none → IntsAt Y ra row) := fun Y hY => hr.kept hY
  obtain ⟨m, hm⟩ : ∃ m, m = row.length := ⟨_, rfl⟩
  have HM : Hid (m = row.length) := hm
  have HX0 : Hid (w.grownBy (w.alloc (.cells #[.slice sa N sc, .int .i64 ask, .int .i64 nI] 59)) none ∧ (w.alloc (.cells #[.slice sa N sc, .int .i64 ask, .int .i64 nI] 59)).heap[w.heap.size]? = some (.cells #[.slice sa N sc, .int .i64 ask, .int .i64 nI] 59 (0, 0))) := ⟨World.grownBy_alloc _ _ none, heap_alloc_last w _⟩
  rw [← hN] at hq
  rw [← hm] at hrb
  rw [← hN, ← hm]
  clear hP hE hr hN hm
  go_enter Tryz.func24, Tryz.ntmps24
  go_wp2_with fail
  go_loopg [1, 7] m (fun gk v1 v7 wr => ∃ i : Nat, i ≤ m ∧ gk = m - i ∧ v7 = .int .i64 i ∧ v1 = .int .i64 (wayV (wayF es (some (q : Int)) (row.take i))) ∧ w.grownBy wr none ∧ wr.heap[w.heap.size]? = some (.cells #[.slice sa N sc, .int .i64 ask, .int .i64 nI] 59 (0, 0)))
  case atStart => exact ⟨0, Nat.zero_le _, rfl, rfl, rfl, HX0.out.1, HX0.out.2⟩
  case round =>
    obtain ⟨i, hi, hgi, rfl, rfl, hg, hb⟩ := hrel
    have HGI : Hid (gk = m - i) := hgi
    have HG : Hid (w.grownBy wr none ∧ wr.heap[w.heap.size]? = some (.cells #[.slice sa N sc, .int .i64 ask, .int .i64 nI] 59 (0, 0))) := ⟨hg, hb⟩
    clear hgi hg hb HX0
    by_cases hlt : i < m
    · have hid : decide (i < m) = true := decide_eq_true hlt
      have hi0 : (0 : Int) ≤ (i : Int) := by omega
      have hi1 : (i : Int) < (m : Int) := by omega
      cases hw : wayF es (some (q : Int)) (row.take i) with
      | none =>
        have HF : Hid (wayF es (some (q : Int)) row = none) := wayF_lost es _ hw
        clear hw
        unfold wayV
        go_wp2_with fail
        go_ret
        exact ⟨by rw [HF.out]; rfl, HG.out.1⟩
      | some v =>
        have hv := HRG.out i v hw
        obtain ⟨vn, rfl⟩ : ∃ vn : Nat, v = (vn : Int) := ⟨v.toNat, by omega⟩
        have hvd : decide ((0 : Int) ≤ (vn : Int)) = true := decide_eq_true hv.1
        have hil : i < row.length := by rw [← HM.out]; exact hlt
        obtain ⟨rb, ro, rfl, hrc⟩ : ∃ b off, ra = some ⟨b, off, none⟩ ∧ wr.cell? ⟨b, off + i, none⟩ = some (.int .i64 (row.getD i 0)) := by
          rcases HROW.out wr HG.out.1 with h | ⟨b, off, e, h⟩
          · rw [h] at hil; cases hil
          · exact ⟨b, off, e, h i hil⟩
        have HTK : Hid (wayF es (some (q : Int)) (row.take (i + 1)) = leadA es ((vn : Int), row.getD i 0)) := by
          show _ = _
          rw [wayF_take es hil, hw]
          rfl
        obtain ⟨x, hx⟩ : ∃ x, x = row.getD i 0 := ⟨_, rfl⟩
        rw [← hx] at hrc HTK
        have HC : Hid (∀ Y, wr.grownBy Y none → Calls Tryz.prog 49 #[.agg #[.slice sa N sc, .int .i64 ask, .int .i64 nI], .int .i64 (vn : Int), .int .i64 x] Y fun e y => e = .returned (.int .i64 (wayV (leadA es ((vn : Int), x)))) ∧ Y.grownBy y none) := fun Y hY => HNX.out Y vn x (grown_trans HG.out.1 hY) (by omega)
        have HKS : Hid (∀ Y, wr.grownBy Y none → (Y.cell? ⟨w.heap.size, 0, none⟩ = some (.slice sa N sc) ∧ Y.cell? ⟨w.heap.size, 1, none⟩ = some (.int .i64 ask) ∧ Y.cell? ⟨w.heap.size, 2, none⟩ = some (.int .i64 nI)) ∧ Y.cell? ⟨rb, ro + i, none⟩ = some (.int .i64 x)) := fun Y hY => by
          have h := box_kept HG.out.2 hY
          exact ⟨⟨by rw [cell_of_row _ _ _ _ _ _ h]; rfl, by rw [cell_of_row _ _ _ _ _ _ h]; rfl, by rw [cell_of_row _ _ _ _ _ _ h]; rfl⟩, hY.cell hrc (by simp)⟩
        have HUP : Hid (wr.grownBy wr.drew none) := grown_drewN _ 1
        obtain ⟨r, hr⟩ : ∃ r, r = wayV (leadA es ((vn : Int), x)) := ⟨_, rfl⟩
        have HR : Hid (r = wayV (leadA es ((vn : Int), x))) := hr
        rw [← hr] at HC
        clear hw hx hrc hil hv hr
        unfold wayV
        go_wp2_with fail
        go_region_held3 (fun Y => (Y.cell? ⟨w.heap.size, 0, none⟩ = some (.slice sa N sc) ∧ Y.cell? ⟨w.heap.size, 1, none⟩ = some (.int .i64 ask) ∧ Y.cell? ⟨w.heap.size, 2, none⟩ = some (.int .i64 nI)) ∧ Y.cell? ⟨rb, ro + i, none⟩ = some (.int .i64 x)) (first | exact HKS.out _ HUP.out | exact HKS.out _ HG4.out | go_keep)
          ((first
            | (go_at_call 49; refine Calls.mono (HC.out _ HUP.out) ?_; rintro e w4 ⟨rfl, hg4⟩; have HG4 : Hid (wr.grownBy w4 none) := grown_trans HUP.out hg4; clear hg4)
            | fail))
        go_wp2_with fail
        go_roundg (m - (i + 1))
        case measure => have := HGI.out; omega
        case rel => exact ⟨i + 1, by omega, rfl, by go_num, by rw [HTK.out, HR.out], grown_trans HG.out.1 HG4.out, box_kept HG.out.2 HG4.out⟩
    · have him : m = i := by omega
      subst him
      have hid : decide (m < m) = false := decide_eq_false (by omega)
      have HF : Hid (row.take m = row) := by show _ = _; rw [HM.out]; exact List.take_length
      rw [HF.out]
      go_wp2_with fail
      go_ret
      exact ⟨rfl, HG.out.1⟩

section
variable (ta na la pa : Option Addr) (tc nc lc pc : Nat) (n : Nat) (st : Int) (w : World) (tn nn ln : Nat)
end

end Go.Proofs.YtkbjbijoekmooaaGreat.J
