import Derived.Test.YtjijagnpcmonbaaDoorProg
import Derived.WalkKit
import Derived.WalkSpells
import Derived.Deep.QuietTactic
import Derived.BigQuiet
import Derived.Deep.Quiet

/-
  Which texts may be a terminal's, which are names: the program's own tests.
-/
namespace Go.Proofs.YtjijagnpcmonbaaDoor
open Go.RowKit

/-- May a byte stand in a terminal's text? -/
def textB (n : Nat) : Bool := !(decide (n < 32) || decide (126 < n) || decide (n = 39))
def letterB (n : Nat) : Bool := (decide (65 ≤ n) && decide (n ≤ 90)) || (decide (97 ≤ n) && decide (n ≤ 122)) || decide (n = 95)
def digitB (n : Nat) : Bool := decide (48 ≤ n) && decide (n ≤ 57)
def nameB (i n : Nat) : Bool := letterB n || (decide (0 < i) && digitB n)
/-- The byte at a place. -/
def chr (s : ByteArray) (i : Nat) : Nat := (s.data.toList.getD i 0).toNat
def lenOK (s : ByteArray) : Bool := decide (1 ≤ s.size) && decide (s.size ≤ 16)
def isTextB (s : ByteArray) : Bool := lenOK s && (List.range s.size).all (fun i => textB (chr s i))
def isNameB (s : ByteArray) : Bool := lenOK s && (List.range s.size).all (fun i => nameB i (chr s i))

end Go.Proofs.YtjijagnpcmonbaaDoor

namespace Go.Proofs.YtjijagnpcmonbaaDoor
open Go.RowKit

/-- A world of which p holds. -/
structure WBox (p : World → Prop) where
  w : World
  ok : p w

end Go.Proofs.YtjijagnpcmonbaaDoor

/-
  A region that draws its order, whose last operation waits for all others, and whose others only read: they are walked once, then the last one.
-/
namespace Go.Proofs.YtjijagnpcmonbaaDoor.J
open Go.RowKit

section
variable {P : Program} {ops : Array Oper} {C : World → Prop} {md : Region.Mode}

theorem wpAnyQ_lexT {Q : Act → Prop} (hs : Region.noSelect ops = true) : ∀ (l : List Oper) (k : Nat) (listed : Array Bool) (a : Act), (∀ j, j < l.length → l[j]? = ops[k + j]?) →
    Region.lexFrom md ops l.length k listed = true → wpQuiet P ops C Q l a → wpAnyQ P md ops C Q l.length listed a
  | [], _, _, _, _, hB, h => ⟨by simpa [Region.lexFrom] using hB, h⟩
  | o :: l, k, listed, a, hl, hB, h => by
    have h0 : ops[k]? = some o := by simpa using (hl 0 (by simp)).symm
    simp only [List.length_cons, Region.lexFrom, Bool.and_eq_true] at hB
    obtain ⟨⟨hr, hf⟩, hB'⟩ := hB
    have hst : qOp P ops C k (wpQuiet P ops C Q l) a := by unfold qOp; simp only [h0]; exact h
    obtain ⟨v, hy, hK⟩ := yieldsIn_of_qOp h0 hst
    exact wpAnyQ_first h0 (Region.noSelect_spec hs) l.length listed a (Region.free_spec h0 hf) (by simpa using hr) hy
      (wpAnyQ_lexT hs l (k + 1) _ _ (fun j hj => by have := hl (j + 1) (by simpa using hj); simpa [Nat.add_assoc, Nat.add_comm 1 j] using this) hB' hK)

/-- Operation m waits for all others, none waits for it, and each waits for earlier ones alone. -/
def lastB (md : Region.Mode) (ops : Array Oper) (m : Nat) : Bool := (List.range ops.size).all fun j => match ops[j]? with
  | none => true
  | some oj => (oj.after.all fun e => !Region.binds md e || (decide (e.on < j) && e.on != m)) && (j == m || (match ops[m]? with
    | some om => om.after.toList.any fun e => Region.binds md e && e.on == j
    | none => false))
theorem lastB_spec {m : Nat} (h : lastB md ops m = true) {j : Nat} {oj : Oper} (hj : ops[j]? = some oj) : (∀ e ∈ oj.after, Region.binds md e = true → e.on < j ∧ e.on ≠ m) ∧ (j ≠ m → ∃ om, ops[m]? = some om ∧ ∃ e ∈ om.after, Region.binds md e = true ∧ e.on = j) := by
  unfold lastB at h
  have h1 := List.all_eq_true.1 h j (List.mem_range.2 (Array.getElem?_eq_some_iff.1 hj).1)
  rw [hj] at h1
  simp only [Bool.and_eq_true, Bool.or_eq_true] at h1
  obtain ⟨h2, h3⟩ := h1
  constructor
  · intro e he hb
    have h4 := Array.all_eq_true_iff_forall_mem.1 h2 e he
    rw [hb] at h4
    simp only [Bool.not_true, Bool.false_or, Bool.and_eq_true, decide_eq_true_eq, bne_iff_ne] at h4
    exact h4
  · intro hne
    rcases h3 with h3 | h3
    · exact absurd (by simpa using h3) hne
    · cases hm : ops[m]? with
      | none => rw [hm] at h3; cases h3
      | some om =>
        rw [hm] at h3
        obtain ⟨e, he0, h5⟩ := List.any_eq_true.1 h3
        have he : e ∈ om.after := by simpa using he0
        simp only [Bool.and_eq_true, beq_iff_eq] at h5
        exact ⟨om, rfl, e, he, h5⟩

theorem wpAny_quiet_last {Q : Exit → Act → World → Prop} {QL : Act → Prop} {m : Nat} {om : Oper} (hm : ops[m]? = some om) (hL : lastB md ops m = true) (hQL : ∀ a w, C w → QL a → wpOp P ops Q m (fun a' w' => Q .normal a' w') a w) :
    ∀ (fuel : Nat) (listed : Array Bool) (a : Act) (w : World), listed.size = ops.size → listed.getD m true = false → C w → wpAnyQ P md ops C QL fuel (listed.setIfInBounds m true) a → wpAny P md ops Q (fuel + 1) listed a w := by
  have hms := (Array.getElem?_eq_some_iff.1 hm).1
  have key : ∀ listed : Array Bool, listed.size = ops.size → listed.getD m true = false → (Region.ready md ops listed ≠ []) ∧ (m ∈ Region.ready md ops listed → Region.ready md ops (listed.setIfInBounds m true) = []) := by
    intro listed hsz hum
    have hback : ∀ j, j ∈ Region.ready md ops (listed.setIfInBounds m true) → j ≠ m ∧ j ∈ Region.ready md ops listed := by
      intro j hj
      obtain ⟨h0, o, ho, hall⟩ := mem_ready.1 hj
      have hne : j ≠ m := by
        intro e
        subst e
        have : j < listed.size := by omega
        simp [this] at h0
      refine ⟨hne, mem_ready.2 ⟨by rw [getD_set_ne true (Ne.symm hne)] at h0; exact h0, o, ho, fun e he hb => ?_⟩⟩
      have h1 := hall e he hb
      rwa [getD_set_ne false (Ne.symm ((lastB_spec hL ho).1 e he hb).2)] at h1
    have hgd : ∀ j, j < ops.size → listed.getD j true = false ∨ listed.getD j false = true := by
      intro j hj
      have hjl : j < listed.size := by omega
      cases hv : listed[j] with
      | true => right; simp [hjl, hv]
      | false => left; simp [hjl, hv]
    constructor
    · intro he
      have hall : ∀ d j, j < d → j < ops.size → j ≠ m → listed.getD j false = true := by
        intro d
        induction d with
        | zero => intro j hj; omega
        | succ d ih =>
          intro j hj hjs hjm
          rcases hgd j hjs with h | h
          · exfalso
            have : j ∈ Region.ready md ops listed := mem_ready.2 ⟨h, ops[j], Array.getElem?_eq_getElem hjs, fun e hee hb => by
              have h2 := (lastB_spec hL (Array.getElem?_eq_getElem hjs)).1 e hee hb
              exact ih e.on (by omega) (by omega) h2.2⟩
            rw [he] at this
            cases this
          · exact h
      have : m ∈ Region.ready md ops listed := mem_ready.2 ⟨hum, om, hm, fun e hee hb => by
        have h2 := (lastB_spec hL hm).1 e hee hb
        exact hall ops.size e.on (by omega) (by omega) h2.2⟩
      rw [he] at this
      cases this
    · intro hr
      cases hrd : Region.ready md ops (listed.setIfInBounds m true) with
      | nil => rfl
      | cons j js =>
        exfalso
        obtain ⟨hne, hj⟩ := hback j (by rw [hrd]; exact List.mem_cons_self ..)
        obtain ⟨h0, o, ho, _⟩ := mem_ready.1 hj
        obtain ⟨om', hom', e, hee, hb, hon⟩ := (lastB_spec hL ho).2 hne
        obtain ⟨_, om2, hom2, hall⟩ := mem_ready.1 hr
        rw [hom'] at hom2
        have e2 : om' = om2 := by simpa using hom2
        subst e2
        have h1 := hall e hee hb
        rw [hon] at h1
        have hjs := (Array.getElem?_eq_some_iff.1 ho).1
        have hjl : j < listed.size := by omega
        simp [hjl] at h0 h1
        rw [h0] at h1
        cases h1
  intro fuel
  induction fuel with
  | zero =>
    intro listed a w hsz hum hw h
    obtain ⟨h1, h2⟩ := h
    refine ⟨fun he => absurd he (key listed hsz hum).1, fun i hi => ?_⟩
    by_cases e : i = m
    · subst e
      exact wpOp_mono (fun a' w' hq => ⟨h1, hq⟩) (hQL a w hw h2)
    · have := ready_mono hi e
      rw [h1] at this
      cases this
  | succ fuel ih =>
    intro listed a w hsz hum hw h
    obtain ⟨h1, h2⟩ := h
    refine ⟨fun he => absurd he (key listed hsz hum).1, fun i hi => ?_⟩
    by_cases e : i = m
    · subst e
      have hr := (key listed hsz hum).2 hi
      exact wpOp_mono (fun a' w' hq => ⟨fun _ => hq, fun j hj => by rw [hr] at hj; cases hj⟩) (hQL a w hw (h1 hr))
    · refine wpOp_of_qOp hw (fun a' w' hw' hk => ?_) (h2 i (ready_mono hi e))
      refine ih (listed.setIfInBounds i true) a' w' (by simpa using hsz) (by rw [getD_set_ne true e]; exact hum) hw' ?_
      rw [Array.setIfInBounds_comm _ _ e]
      exact hk

theorem wp_region_last {id : Nat} {Q : Exit → Act → World → Prop} {a : Act} {w : World} {L : List Oper} {om : Oper} (hfo : P.follows .mixedOrders = true) (hom : L[L.length - 1]? = some om)
    (hB : (Region.noSelect L.toArray && Region.lexFrom .any L.toArray (L.length - 1) 0 ((Array.replicate L.toArray.size false).setIfInBounds (L.length - 1) true) && lastB .any L.toArray (L.length - 1) && decide (0 < L.length)) = true) (hC : C { w with drawn := w.drawn + 1 })
    (h : wpQuiet P L.toArray C (fun a' => ∀ w', C w' → wpList P L.toArray Q [om] a' w') L.dropLast a) : (Code.region id L.toArray true).wp P Q a w := by
  simp only [Bool.and_eq_true, decide_eq_true_eq] at hB
  obtain ⟨⟨⟨b1, b2⟩, b3⟩, b4⟩ := hB
  refine wp_region_any hfo ?_
  have hsz : L.toArray.size = L.dropLast.length + 1 := by simp; omega
  have hdl : L.dropLast.length = L.length - 1 := by simp
  have hom2 : L.toArray[L.length - 1]? = some om := by simpa using hom
  have hq := wpAnyQ_lexT (P := P) (C := C) (md := .any) b1 L.dropLast 0 ((Array.replicate L.toArray.size false).setIfInBounds (L.length - 1) true) a (fun j hj => by
    rw [Nat.zero_add, List.getElem?_dropLast, if_pos (by omega)]; simp) (by rw [hdl]; exact b2) h
  have := wpAny_quiet_last (P := P) (Q := Q) (QL := fun a' => ∀ w', C w' → wpList P L.toArray Q [om] a' w') hom2 b3 (fun a' w' hw hl => by
    have h1 := hl w' hw
    unfold wpOp
    rw [hom2]
    exact h1) L.dropLast.length (Array.replicate L.toArray.size false) a _ (by simp) (by
      have : L.length - 1 < L.length := by omega
      simp [this]) hC hq
  rw [← hsz] at this
  exact this
end

end Go.Proofs.YtjijagnpcmonbaaDoor.J
