/-
  The law's own question whether a set is the document's.
-/
import Derived.Test.YtkmocjdjdlpphaaDoorRefOf
namespace Go.Proofs.YtkmocjdjdlpphaaDoor
open Go.RowKit Go.Shelf

theorem ints_of_own {w : World} {B : Nat} {v : Value} {M : List Int} (h : w.ownsRow B 3 1 v M.length (M.map (Value.int .i64))) : ∃ a cap, v = .slice a M.length cap ∧ IntsAt w a M := by
  rcases h.2 with ⟨rfl, h0⟩ | ⟨g, cap, cur, rfl, hg, hh, _⟩
  · have : M = [] := List.length_eq_zero_iff.1 h0
    subst this
    exact ⟨none, 0, rfl, .inl rfl⟩
  · refine ⟨some ⟨g, 0, none⟩, cap, rfl, .inr ⟨g, 0, rfl, fun i hi => ?_⟩⟩
    rw [Nat.zero_add, h.cellAt i (by omega)]
    simp [List.getD, hi]

theorem members_ints {c : Nat → Nat} (hC : CountIs c) (hle : ∀ x, c x ≤ 1024) (p : Option Addr) (n m : Nat) (w : World) (h : SetM w p n m) (hT : Tab w) :
    Calls Tryd.prog 14 #[.pointer p] w fun e w' => ∃ a cap, e = .returned (.slice a (mems 1024 m).length cap) ∧ IntsAt w' a (mems 1024 m) ∧ Below w.heap.size w w' := by
  refine (callsIn_wide.1 (members_in 3 (by omega) c hC hle p n m w h hT (World.block_lt_of_cell? w _ (hT 0 (by decide))))).mono ?_
  rintro e w' ⟨v, rfl, hown, hb⟩
  obtain ⟨a, cap, rfl, hi⟩ := ints_of_own hown
  exact ⟨a, cap, rfl, hi, hb⟩
theorem rmembers_ints (br bi n m : Nat) (w : World) (h : RefAt w br bi n m) :
    Calls Tryd.prog 12 #[.pointer (some ⟨br, 0, none⟩)] w fun e w' => ∃ a cap, e = .returned (.slice a (mems 1024 m).length cap) ∧ IntsAt w' a (mems 1024 m) ∧ Below w.heap.size w w' := by
  refine (rmembers_any br bi n m w h).mono ?_
  rintro e w' ⟨v, rfl, hown, hb⟩
  obtain ⟨a, cap, rfl, hi⟩ := ints_of_own hown
  exact ⟨a, cap, rfl, hi, hb⟩

/-- A set and the document's: alike. -/
structure Alike2 (w0 w : World) (b br bi n m : Nat) : Prop where
  bel : Below w0.heap.size w0 w
  set : SetM w (some ⟨b, 0, none⟩) n m
  ref : RefAt w br bi n m
  tab : Tab w

theorem Alike2.keep {w0 w w' : World} {b br bi n m : Nat} (h : Alike2 w0 w b br bi n m) (hb : Below w.heap.size w w') : Alike2 w0 w' b br bi n m :=
  ⟨h.bel.trans (hb.mono h.bel.size), h.set.keep hb, h.ref.keep hb, h.tab.below hb (World.block_lt_of_cell? w _ (h.tab 0 (by decide)))⟩
theorem Alike2.drew {w0 w : World} {b br bi n m : Nat} (h : Alike2 w0 w b br bi n m) : Alike2 w0 w.drew b br bi n m :=
  h.keep ((Below.refl _ w).drew)

theorem is_size {w0 w : World} {b br bi n m : Nat} (h : Alike2 w0 w b br bi n m) : Calls Tryd.prog 27 #[.pointer (some ⟨b, 0, none⟩)] w fun e w' => e = .returned (.int .i64 n) ∧ w' = w := size_any _ n m w h.set
theorem is_count {c : Nat → Nat} (hC : CountIs c) {w0 w : World} {b br bi n m : Nat} (h : Alike2 w0 w b br bi n m) : Calls Tryd.prog 24 #[.pointer (some ⟨b, 0, none⟩)] w fun e w' => e = .returned (.int .i64 (c m : Nat)) ∧ Alike2 w0 w' b br bi n m := by
  refine (hC _ n m w h.set).mono ?_
  rintro e w' ⟨rfl, hb⟩
  exact ⟨rfl, h.keep hb⟩
theorem is_members {c : Nat → Nat} (hC : CountIs c) (hle : ∀ x, c x ≤ 1024) {w0 w : World} {b br bi n m : Nat} {M : List Int} (hM : mems 1024 m = M) (h : Alike2 w0 w b br bi n m) :
    Calls Tryd.prog 14 #[.pointer (some ⟨b, 0, none⟩)] w fun e w' => ∃ a cap, e = .returned (.slice a M.length cap) ∧ IntsAt w' a M ∧ Alike2 w0 w' b br bi n m := by
  subst hM
  refine (members_ints hC hle _ n m w h.set h.tab).mono ?_
  rintro e w' ⟨a, cap, rfl, hi, hb⟩
  exact ⟨a, cap, rfl, hi, h.keep hb⟩
theorem is_rmembers {w0 w : World} {b br bi n m : Nat} {M M' : List Int} {a' : Option Addr} (hM : mems 1024 m = M) (h : Alike2 w0 w b br bi n m) (h' : IntsAt w a' M') :
    Calls Tryd.prog 12 #[.pointer (some ⟨br, 0, none⟩)] w fun e w' => ∃ a cap, e = .returned (.slice a M.length cap) ∧ IntsAt w' a M ∧ IntsAt w' a' M' ∧ Alike2 w0 w' b br bi n m := by
  subst hM
  refine (rmembers_ints br bi n m w h.ref).mono ?_
  rintro e w' ⟨a, cap, rfl, hi, hb⟩
  exact ⟨a, cap, rfl, hi, h'.below hb, h.keep hb⟩

theorem ints_same {a b : Option Addr} {ca cb : Nat} {M : List Int} {w : World} (hsm : M.length ≤ 1024) (h1 : IntsAt w a M) (h2 : IntsAt w b M) :
    Calls Tryd.prog 20 #[.slice a M.length ca, .slice b M.length cb] w fun e w' => e = .returned (.bool true) ∧ ∃ k, w' = w.drewN k := by
  have := ints_any a b ca cb M M w (by omega) h1 h2
  rwa [decide_eq_true rfl] at this

attribute [local go_sem ↓] Go.wp_at_zero Go.wp_at_succ

set_option maxHeartbeats 2000000 in
theorem is_core (c : Nat → Nat) (hC : CountIs c) (hle : ∀ x, c x ≤ 1024) (b br bi n m : Nat) (M : List Int) (hM : mems 1024 m = M) (hMl : M.length ≤ 1024) (w : World) (h : Alike2 w w b br bi n m)
    (hRC : Hid (∀ W, RefAt W br bi n m → Calls Tryd.prog 36 #[.pointer (some ⟨br, 0, none⟩)] W fun e w' => e = .returned (.int .i64 (c m : Nat)) ∧ w' = W)) :
    Calls Tryd.prog 9 #[.pointer (some ⟨b, 0, none⟩), .pointer (some ⟨br, 0, none⟩)] w fun e w' => e = .returned (.bool true) ∧ Below w.heap.size w w' := by
  have HC : Hid (CountIs c) := hC
  have HLE : Hid (∀ x, c x ≤ 1024) := hle
  have HM : Hid (mems 1024 m = M) := hM
  have hc := h.ref.hcell
  have H : Hid (Alike2 w w b br bi n m) := h
  clear hC hle hM h
  have hA : Alike2 w w.drew b br bi n m := H.out.drew
  go_enter Tryd.func9, Tryd.ntmps9
  go_wp2_with fail
  go_region_with (first
    | (go_at_call 27; refine (is_size hA).mono ?_; rintro e w' ⟨rfl, rfl⟩)
    | (go_at_call 24; refine (is_count HC.out hA).mono ?_; rintro e w1 ⟨rfl, hA1⟩)
    | (go_at_call 36; refine (hRC.out _ (by assumption : Alike2 _ _ _ _ _ _ _).ref).mono ?_; rintro e w' ⟨rfl, rfl⟩)
    | (go_at_call 14; refine (is_members HC.out HLE.out HM.out (by assumption)).mono ?_; rintro e w2 ⟨aM, cM, rfl, hiM, hA2⟩)
    | (go_at_call 12; refine (is_rmembers HM.out (by assumption) (by assumption)).mono ?_; rintro e w3 ⟨aR, cR, rfl, hiR, hiM2, hA3⟩)
    | (go_at_call 20; refine (ints_same hMl (by assumption) (by assumption)).mono ?_; rintro e w4 ⟨rfl, k4, rfl⟩))
  all_goals go_wp2
  all_goals go_ret
  all_goals exact ⟨rfl, Below.drewN' hA3.bel _⟩

theorem is_any (b br bi n m : Nat) (w : World) (h : Alike2 w w b br bi n m) :
    Calls Tryd.prog 9 #[.pointer (some ⟨b, 0, none⟩), .pointer (some ⟨br, 0, none⟩)] w fun e w' => e = .returned (.bool true) ∧ Below w.heap.size w w' :=
  is_core cnt countIs (fun m => pc_le 1024 m) b br bi n m _ rfl (by rw [mems_length]; exact pc_le _ _) w h (fun W hW => ref_count br bi n m W hW)

end Go.Proofs.YtkmocjdjdlpphaaDoor
