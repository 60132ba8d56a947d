/-
  A step of a script, whatever it says.
-/
import Derived.Test.YtkmocjdjdlpphaaDoorStepAdd
import Derived.Test.YtkmocjdjdlpphaaDoorStepDrop
import Derived.Test.YtkmocjdjdlpphaaDoorStepUnion
import Derived.Test.YtkmocjdjdlpphaaDoorStepMeets
import Derived.Test.YtkmocjdjdlpphaaDoorStepCopy
import Derived.Test.YtkmocjdjdlpphaaDoorStepMake
namespace Go.Proofs.YtkmocjdjdlpphaaDoor
open Go.RowKit Go.Shelf

theorem step_any (w W : World) (Bw N : Nat) (ax ar : Option Addr) (cx cr : Nat) (F : Fam) (kind A B : Int) (a : Option Addr) (cap : Nat)
    (hI : PInv w W Bw N N (.slice ax N cx) (.slice ar N cr) F) (hS : Same N F) (hfull : N < 64 ∨ (kind.tmod 8 ≠ 0 ∧ kind.tmod 8 ≠ 6 ∧ kind.tmod 8 ≠ -6))
    (hA : -9223372036854775808 ≤ A ∧ A ≤ 9223372036854775807) (hB : -9223372036854775808 ≤ B ∧ B ≤ 9223372036854775807)
    (l : List Int) (hl : IntsAt w a l) (hlen : l.length ≤ 17592186043904) (h64 : ∀ x ∈ l, -9223372036854775808 ≤ x ∧ x ≤ 9223372036854775807) (hT : Tab w) (hw0 : 0 < w.heap.size) :
    Calls Tryd.prog 8 #[.pointer (some ⟨Bw, 0, none⟩), .agg #[.int .i64 kind, .int .i64 A, .int .i64 B, .slice a l.length cap]] W fun e w' => e = .returned (.bool true) ∧ ∃ N' ax' ar' cx' cr' F', PInv w w' Bw N' N' (.slice ax' N' cx') (.slice ar' N' cr') F' ∧ Same N' F' := by
  have same : (Calls Tryd.prog 8 #[.pointer (some ⟨Bw, 0, none⟩), .agg #[.int .i64 kind, .int .i64 A, .int .i64 B, .slice a l.length cap]] W fun e w' => e = .returned (.bool true) ∧ ∃ F', PInv w w' Bw N N (.slice ax N cx) (.slice ar N cr) F' ∧ Same N F') → Calls Tryd.prog 8 #[.pointer (some ⟨Bw, 0, none⟩), .agg #[.int .i64 kind, .int .i64 A, .int .i64 B, .slice a l.length cap]] W fun e w' => e = .returned (.bool true) ∧ ∃ N' ax' ar' cx' cr' F', PInv w w' Bw N' N' (.slice ax' N' cx') (.slice ar' N' cr') F' ∧ Same N' F' := fun h =>
    h.mono (fun _ _ ⟨he, F', h1, h2⟩ => ⟨he, N, ax, ar, cx, cr, F', h1, h2⟩)
  have more : (Calls Tryd.prog 8 #[.pointer (some ⟨Bw, 0, none⟩), .agg #[.int .i64 kind, .int .i64 A, .int .i64 B, .slice a l.length cap]] W fun e w' => e = .returned (.bool true) ∧ ∃ ax' ar' cx' cr' F', PInv w w' Bw (N + 1) (N + 1) (.slice ax' (N + 1) cx') (.slice ar' (N + 1) cr') F' ∧ Same (N + 1) F') → Calls Tryd.prog 8 #[.pointer (some ⟨Bw, 0, none⟩), .agg #[.int .i64 kind, .int .i64 A, .int .i64 B, .slice a l.length cap]] W fun e w' => e = .returned (.bool true) ∧ ∃ N' ax' ar' cx' cr' F', PInv w w' Bw N' N' (.slice ax' N' cx') (.slice ar' N' cr') F' ∧ Same N' F' := fun h =>
    h.mono (fun _ _ ⟨he, ax', ar', cx', cr', F', h1, h2⟩ => ⟨he, N + 1, ax', ar', cx', cr', F', h1, h2⟩)
  have kept : (Calls Tryd.prog 8 #[.pointer (some ⟨Bw, 0, none⟩), .agg #[.int .i64 kind, .int .i64 A, .int .i64 B, .slice a l.length cap]] W fun e w' => e = .returned (.bool true) ∧ PInv w w' Bw N N (.slice ax N cx) (.slice ar N cr) F) → Calls Tryd.prog 8 #[.pointer (some ⟨Bw, 0, none⟩), .agg #[.int .i64 kind, .int .i64 A, .int .i64 B, .slice a l.length cap]] W fun e w' => e = .returned (.bool true) ∧ ∃ N' ax' ar' cx' cr' F', PInv w w' Bw N' N' (.slice ax' N' cx') (.slice ar' N' cr') F' ∧ Same N' F' := fun h =>
    h.mono (fun _ _ ⟨he, h1⟩ => ⟨he, N, ax, ar, cx, cr, F, h1, hS⟩)
  by_cases h0 : kind.tmod 8 = 0
  · exact more (play_make w W Bw N ax ar cx cr F kind A B a cap hI hS (.inl h0) (hfull.elim id fun h => absurd h0 h.1) l hl hlen hT hw0)
  by_cases hN : N = 0
  · exact more (play_make w W Bw N ax ar cx cr F kind A B a cap hI hS (.inr ⟨by rw [beq_eq_false_iff_ne]; exact h0, hN⟩) (by omega) l hl hlen hT hw0)
  have hpos : 0 < N := by omega
  have hle := hI.le.1
  have hpi : ∀ wr, Calls Tryd.prog 17 #[.int .i64 A, .int .i64 (N : Int)] wr fun e w' => e = .returned (.int .i64 (pickN A N : Nat)) ∧ w' = wr := fun wr => pick_any A N wr hA.1 hA.2 (by omega) (by omega)
  have hpj : ∀ wr, Calls Tryd.prog 17 #[.int .i64 B, .int .i64 (N : Int)] wr fun e w' => e = .returned (.int .i64 (pickN B N : Nat)) ∧ w' = wr := fun wr => pick_any B N wr hB.1 hB.2 (by omega) (by omega)
  have hi := pickN_lt A N hpos
  have hj := pickN_lt B N hpos
  have b1 : kind.tmod 8 < 8 := Int.tmod_lt_of_pos kind (by decide)
  have b2 : -8 < kind.tmod 8 := Int.lt_tmod_of_pos kind (by decide)
  have hcase : (kind.tmod 8 = 1 ∨ kind.tmod 8 = -1) ∨ (kind.tmod 8 = 2 ∨ kind.tmod 8 = -2) ∨ (kind.tmod 8 = 3 ∨ kind.tmod 8 = -3) ∨ (kind.tmod 8 = 4 ∨ kind.tmod 8 = -4) ∨ (kind.tmod 8 = 5 ∨ kind.tmod 8 = -5) ∨ (kind.tmod 8 = 6 ∨ kind.tmod 8 = -6) ∨ (kind.tmod 8 = 7 ∨ kind.tmod 8 = -7) := by omega
  rcases hcase with h | h | h | h | h | h | h
  · exact same (play_add _ h w W Bw N ax ar cx cr F kind A B a cap _ _ hI hS hpos rfl hpi hpj hi hj l hl hlen hT hw0)
  · exact same (play_drop _ h w W Bw N ax ar cx cr F kind A B a cap _ _ hI hS hpos rfl hpi hpj hi hj l hl hlen hT hw0)
  · exact same (play_union _ h w W Bw N ax ar cx cr F kind A B a cap _ _ hI hS hpos rfl hpi hpj hi hj l hl hlen h64 hT hw0)
  · exact kept (play_meets _ h w W Bw N ax ar cx cr F kind A B a cap _ _ hI hS hpos rfl hpi hpj hi hj l hl hlen h64)
  · exact kept (play_equal _ h w W Bw N ax ar cx cr F kind A B a cap _ _ _ hI hS hpos rfl hpi hpj hi hj)
  · exact more (play_copy _ h w W Bw N ax ar cx cr F kind A B a cap _ _ hI hS hpos rfl hpi hpj hi hj (hfull.elim id fun h' => h.elim (fun h => absurd h h'.2.1) (fun h => absurd h h'.2.2)) l hT hw0)
  · exact kept (step_has _ h w W Bw N ax ar cx cr F kind A B a cap _ _ _ hI hS hpos rfl hpi hpj hi hj)

end Go.Proofs.YtkmocjdjdlpphaaDoor
