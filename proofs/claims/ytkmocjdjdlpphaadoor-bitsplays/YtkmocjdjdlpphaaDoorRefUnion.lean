/-
  The document's own sets: Union.
-/
import Derived.Test.YtkmocjdjdlpphaaDoorRefMeets
import Derived.Test.YtkmocjdjdlpphaaDoorGoesSteps
namespace Go.Proofs.YtkmocjdjdlpphaaDoor
open Go.RowKit

/-- What the others of a call on the document's set br are: br itself (which adds nothing), or other sets. -/
def OtherR (w : World) (br bi : Nat) (q : Option Addr) (m' : Nat) : Prop :=
  (q = some ⟨br, 0, none⟩ ∧ m' = 0) ∨ (∃ q' bi' n', q = some ⟨q', 0, none⟩ ∧ q' ≠ bi ∧ bi' ≠ bi ∧ RefAt w q' bi' n' m') ∨ ∃ q', q = some ⟨q', 0, none⟩ ∧ REmpty w q' ∧ q' ≠ bi ∧ m' = 0

theorem radd_from {w : World} {br bi n X lo cap : Nat} {a : Option Addr} {K : List Int} (hr : RefAt w br bi n X) (hi : IntsFrom lo w a K) (hlo : bi < lo) (hK : K.length ≤ 1024) :
    Calls Tryd.prog 18 #[.pointer (some ⟨br, 0, none⟩), .slice a K.length cap] w fun e w' => e = .returned (.int .i64 ((addS n X K).2 : Nat)) ∧ RefAt w' br bi n (addS n X K).1 ∧ But bi w w' := by
  rcases hi with rfl | ⟨g, rfl, hg, hc⟩
  · refine (radd_none br a cap w).mono ?_
    rintro e w' ⟨rfl, rfl⟩
    exact ⟨rfl, hr, But.refl _ _⟩
  · exact radd_row br bi n X g 0 cap K w hr (by omega) (by omega) (fun i hi => by rw [Nat.zero_add]; exact hc i hi)

theorem ru_members {w wr : World} {br bi n X X' m' : Nat} {q : Option Addr} (hr : RefAt wr br bi n X) (hb : But bi w wr) (ho : OtherR w br bi q m') (hX' : X ||| (m' &&& (2 ^ n - 1)) = X') :
    Calls Tryd.prog 12 #[.pointer q] wr fun e w1 => ∃ a cap K, e = .returned (.slice a K.length cap) ∧ IntsFrom wr.heap.size w1 a K ∧ bi < wr.heap.size ∧ K.length ≤ 1024 ∧ RefAt w1 br bi n X ∧ But bi w w1 ∧ (addS n X K).1 = X' ∧ ∃ j : Nat, (addS n X K).2 = j ∧ (j : Int) = (cnt X' : Int) - cnt X := by
  have hc := fun K : List Int => add_cnt n X hr.le K
  rcases ho with ⟨rfl, rfl⟩ | ⟨q', bi', n', rfl, h1, h2, hq⟩ | ⟨q', rfl, he, hne, rfl⟩
  · refine (rmembers_any br bi n X wr hr).mono ?_
    rintro e w1 ⟨v, rfl, hown, hb1⟩
    obtain ⟨a, cap, rfl, hi⟩ := ints_from_own hown
    have hE : (addS n X (mems 1024 X)).1 = X' := by rw [add_self hr.le hr.lt, ← hX']; simp
    have h3 := hc (mems 1024 X)
    rw [hE] at h3
    refine ⟨a, cap, _, rfl, hi, hr.lti, by rw [mems_length]; exact pc_le _ _, hr.keep hb1, hb.trans (But.of_below hb1), hE, _, rfl, by omega⟩
  · refine (rmembers_any q' bi' n' m' wr (hq.but hb h1 h2)).mono ?_
    rintro e w1 ⟨v, rfl, hown, hb1⟩
    obtain ⟨a, cap, rfl, hi⟩ := ints_from_own hown
    have hE : (addS n X (mems 1024 m')).1 = X' := by rw [add_mems hr.le, hX']
    have h3 := hc (mems 1024 m')
    rw [hE] at h3
    refine ⟨a, cap, _, rfl, hi, hr.lti, by rw [mems_length]; exact pc_le _ _, hr.keep hb1, hb.trans (But.of_below hb1), hE, _, rfl, by omega⟩
  · refine (rmembers_empty q' wr ((hb.block q' he.lt hne).trans he)).mono ?_
    rintro e w1 ⟨rfl, rfl⟩
    have hE : X = X' := by rw [← hX']; simp
    subst hE
    exact ⟨none, 0, [], rfl, .inl rfl, hr.lti, by simp, hr, hb, rfl, 0, rfl, by omega⟩

set_option maxHeartbeats 2000000 in
theorem runion_core (br bi n m bl off cap len : Nat) (P : Nat → Option Addr) (M c : Nat → Nat) (w : World) (hr : RefAt w br bi n m) (hlen : len < 1152921504606846976) (hne : bl ≠ bi) (hlt : bl < w.heap.size)
    (hc : ∀ i, i < len → w.cell? ⟨bl, off + i, none⟩ = some (.pointer (P i))) (hc1 : ∀ x, c x ≤ 1024) (hM0 : M 0 = m)
    (hS : Hid (∀ i wr, i < len → RefAt wr br bi n (M i) → But bi w wr → Calls Tryd.prog 12 #[.pointer (P i)] wr fun e w1 => ∃ a cap K, e = .returned (.slice a K.length cap) ∧ IntsFrom wr.heap.size w1 a K ∧ bi < wr.heap.size ∧ K.length ≤ 1024 ∧ RefAt w1 br bi n (M i) ∧ But bi w w1 ∧ (addS n (M i) K).1 = M (i + 1) ∧ ∃ j : Nat, (addS n (M i) K).2 = j ∧ (j : Int) = (c (M (i + 1)) : Int) - c (M i))) :
    Calls Tryd.prog 31 #[.pointer (some ⟨br, 0, none⟩), .slice (some ⟨bl, off, none⟩) len cap] w fun e w' => e = .returned (.int .i64 ((c (M len) : Int) - c m)) ∧ RefAt w' br bi n (M len) ∧ But bi w w' := by
  have HR : Hid (RefAt w br bi n m) := hr
  have HC : Hid (∀ i, i < len → w.cell? ⟨bl, off + i, none⟩ = some (.pointer (P i))) := hc
  have HC1 : Hid (∀ x, c x ≤ 1024) := hc1
  clear hr hc hc1
  go_enter Tryd.func31, Tryd.ntmps31
  go_wp2_with fail
  go_loopw [5, 6] (fun a i wr => ∃ k : Nat, k ≤ len ∧ i = .int .i64 k ∧ a = .int .i64 ((c (M k) : Int) - c m) ∧ RefAt wr br bi n (M k) ∧ But bi w wr) (fun _ i _ => len - (intOf i).toNat)
  case atStart => exact ⟨0, Nat.zero_le _, rfl, by rw [hM0]; simp, by rw [hM0]; exact HR.out, But.refl _ _⟩
  case round =>
    obtain ⟨k, hk, rfl, rfl, hRk, hBk⟩ := hrel
    have HRK : Hid (RefAt wr br bi n (M k)) := hRk
    have HBK : Hid (But bi w wr) := hBk
    clear hRk hBk
    have l0 := HC1.out m
    have l1 := HC1.out (M k)
    by_cases hkl : k < len
    · have hck : wr.cell? ⟨bl, off + k, none⟩ = some (.pointer (P k)) := by
        rw [World.cell?_of_block (w := w) (HBK.out.block bl hlt hne)]; exact HC.out k hkl
      have l2 := HC1.out (M (k + 1))
      go_wp2_with fail
      refine (hS.out k wr hkl HRK.out HBK.out).mono ?_
      rintro e w1 ⟨a, ca, K, rfl, hiK, hbw, hKl, hR1, hB1, hE, j, hj, hjc⟩
      have HRA := radd_from (cap := ca) hR1 hiK hbw hKl
      rw [hE, hj] at HRA
      have HB1 : Hid (But bi w w1) := hB1
      clear hR1 hiK hE hj hB1 hck
      go_wp2_with fail
      refine HRA.mono ?_
      rintro e w2 ⟨rfl, hR2, hB2⟩
      clear HRA
      go_wp2_with fail
      go_roundw
      case rel => exact ⟨k + 1, by omega, by go_num, by go_num, hR2, HB1.out.trans hB2⟩
      case measure => simp [intOf]; omega
    · have hkk : k = len := by omega
      subst hkk
      go_wp2_with fail
      go_ret
      exact ⟨rfl, HRK.out, HBK.out⟩

/-- The document's Union, of a row of sets. -/
theorem runion_row (br bi n m bl off cap : Nat) (L : List (Option Addr × Nat)) (w : World) (hr : RefAt w br bi n m) (hlen : L.length < 1152921504606846976) (hne : bl ≠ bi) (hlt : bl < w.heap.size)
    (hc : ∀ i, i < L.length → w.cell? ⟨bl, off + i, none⟩ = some (.pointer (L.getD i (none, 0)).1)) (ho : ∀ i, i < L.length → OtherR w br bi (L.getD i (none, 0)).1 (L.getD i (none, 0)).2) :
    Calls Tryd.prog 31 #[.pointer (some ⟨br, 0, none⟩), .slice (some ⟨bl, off, none⟩) L.length cap] w fun e w' => e = .returned (.int .i64 ((cnt (uS n m L) : Int) - cnt m)) ∧ RefAt w' br bi n (uS n m L) ∧ But bi w w' := by
  have := runion_core br bi n m bl off cap L.length (fun i => (L.getD i (none, 0)).1) (fun i => uS n m (L.take i)) cnt w hr hlen hne hlt hc (fun x => pc_le 1024 x) rfl
    (fun i wr hi h1 h2 => ru_members h1 h2 (ho i hi) (uS_snoc n m L i hi).symm)
  rwa [List.take_length] at this

theorem runion_none (br : Nat) (a : Option Addr) (cap : Nat) (w : World) :
    Calls Tryd.prog 31 #[.pointer (some ⟨br, 0, none⟩), .slice a 0 cap] w fun e w' => e = .returned (.int .i64 0) ∧ w' = w := by
  go_enter Tryd.func31, Tryd.ntmps31
  go_wp2_with fail
  go_loop [5, 6] (fun a i => a = .int .i64 0 ∧ i = .int .i64 0) (fun _ _ => 0)
  case atStart => exact ⟨rfl, rfl⟩
  case round =>
    obtain ⟨rfl, rfl⟩ := hrel
    go_wp2_with fail
    go_ret
    exact ⟨rfl, rfl⟩

end Go.Proofs.YtkmocjdjdlpphaaDoor
