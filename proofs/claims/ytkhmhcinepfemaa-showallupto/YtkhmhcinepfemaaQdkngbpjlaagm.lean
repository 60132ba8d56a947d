/-
  show's writer: a word.
-/
import Derived.Test.YtkhmhcinepfemaaQgkegldeobagc
namespace Go.Proofs.Ytkhmhcinepfemaa
open Go.RowKit Go.Maps Go.Shelf

theorem WrB.setL {W0 w : World} {b : Nat} {p v : Value} {gv : Value × Value × Value × Value × Value} {bs : List UInt8} {inl : Bool} (h : WrB W0 w b p v gv bs inl) (q : Bool) : WrB W0 (w.setCell ⟨b, 7, none⟩ (.bool q)) b p v gv bs q :=
  ⟨grown_new h.grown (grown_setCell _ _ _) h.lo, h.lo, by have := heap_setCell_same w b 7 _ _ (.bool q) h.blk; simpa using this, h.own.kept (grown_setCell b 7 _) h.apart, h.nil⟩

def piecesB (ps : List ByteArray) : List UInt8 := (ps.map fun s => s.data.toList).flatten

theorem piecesB_succ {ps : List ByteArray} {k : Nat} (h : k < ps.length) : piecesB (ps.take (k + 1)) = piecesB (ps.take k) ++ (ps.getD k ByteArray.empty).data.toList := by
  have e : ps.take (k + 1) = ps.take k ++ [ps.getD k ByteArray.empty] := by rw [List.take_add_one]; simp [h, List.getD]
  rw [e, piecesB, List.map_append, List.flatten_append]
  simp [piecesB]
theorem pieces_le (ps : List ByteArray) (k : Nat) : (piecesB (ps.take k)).length ≤ (piecesB ps).length := by
  have e : piecesB ps = piecesB (ps.take k) ++ piecesB (ps.drop k) := by
    simp only [piecesB]
    rw [← List.flatten_append, ← List.map_append, List.take_append_drop]
  rw [e, List.length_append]
  omega

set_option maxRecDepth 100000 in
theorem word_at {W0 w : World} {b : Nat} {gv : Value × Value × Value × Value × Value} {bs : List UInt8} {inl : Bool} (sa : Option Addr) (n cap : Nat) (ps : List ByteArray) (hn : ps.length = n) (h : WrAt W0 w b gv bs inl) (hs : ∀ X, Lib.OthersKept 5 (some b) w X → StrsAt X sa ps) (hl : bs.length + 1 + (piecesB ps).length ≤ 140737488355328) (hnl : n ≤ 1048576) :
    Calls Try.prog 40 #[.pointer (some ⟨b, 0, none⟩), .slice sa n cap] w fun e w' => e = .returned (.tuple #[]) ∧ WrAt W0 w' b gv (bs ++ (if inl then [32] else []) ++ piecesB ps) true ∧ Lib.OthersKept 5 (some b) w w' := by
  have HN : Hid (ps.length = n) := hn
  have HS : Hid (∀ X, Lib.OthersKept 5 (some b) w X → StrsAt X sa ps) := hs
  clear hn hs
  cases inl
  · obtain ⟨p, v, hp, hB⟩ := h
    have c7 := hB.cell 7 _ rfl
    have f7 := hB.free 7
    have HW : Hid (WrAt W0 (w.setCell ⟨b, 7, none⟩ (.bool true)) b gv bs true) := ⟨p, v, hp, hB.setL true⟩
    have HK : Hid (Lib.OthersKept 5 (some b) w (w.setCell ⟨b, 7, none⟩ (.bool true))) := (Lib.OthersKept.refl _ _ w).setCell ⟨b, 7, none⟩ rfl _
    clear hB hp
    go_enter Try.func40, Try.ntmps40
    go_wp2_with fail
    go_loopg [5, 19] n (fun gk v5 i wr => ∃ k : Nat, k ≤ n ∧ gk = n - k ∧ i = .int .i64 k ∧ WrAt W0 wr b gv (bs ++ piecesB (ps.take k)) true ∧ Lib.OthersKept 5 (some b) w wr)
    case atStart => exact ⟨0, Nat.zero_le _, rfl, rfl, by simpa [piecesB] using HW.out, HK.out⟩
    case round =>
      obtain ⟨k, hk, hgk, rfl, hW, hK⟩ := hrel
      have HW2 : Hid (WrAt W0 wr b gv (bs ++ piecesB (ps.take k)) true) := hW
      have HK2 : Hid (Lib.OthersKept 5 (some b) w wr) := hK
      have HGK : Hid (gk = n - k) := hgk
      clear hW hK hgk HW HK
      by_cases hlt : k < n
      · obtain ⟨sb, so, rfl, hc⟩ : ∃ sb so, sa = some ⟨sb, so, none⟩ ∧ ∀ i, i < ps.length → wr.cell? ⟨sb, so + i, none⟩ = some (.string (ps.getD i ByteArray.empty)) := by
          rcases HS.out wr HK2.out with h | h
          · have h9 := HN.out; rw [h] at h9; simp at h9; omega
          · exact h
        have c0 := hc k (by rw [HN.out]; exact hlt)
        obtain ⟨s, hs0⟩ : ∃ s, s = ps.getD k ByteArray.empty := ⟨_, rfl⟩
        rw [← hs0] at c0
        have HT : Hid (piecesB (ps.take (k + 1)) = piecesB (ps.take k) ++ s.data.toList) := by
          show _ = _
          rw [hs0, piecesB_succ (by rw [HN.out]; exact hlt)]
        have HB2 : Hid ((bs ++ piecesB (ps.take k)).length + s.size ≤ 140737488355328) := by
          show _ ≤ _
          have h1 := pieces_le ps (k + 1)
          rw [HT.out] at h1
          have h2 : s.data.toList.length = s.size := by rw [Array.length_toList]; rfl
          simp only [List.length_append] at h1 ⊢
          have := hl
          omega
        clear hc hs0
        go_wp2_with fail
        refine (writeString_at s HW2.out HB2.out).mono ?_
        rintro e w3 ⟨rfl, hW3, hK3⟩
        have HW3 : Hid (WrAt W0 w3 b gv (bs ++ piecesB (ps.take (k + 1))) true) := by
          show WrAt _ _ _ _ _ _
          rw [HT.out, ← List.append_assoc]
          exact hW3
        have HK3 : Hid (Lib.OthersKept 5 (some b) w w3) := HK2.out.trans hK3
        clear hW3 hK3 HW2 HK2
        go_wp2_with fail
        go_roundg (n - (k + 1))
        case measure => have := HGK.out; omega
        case rel => exact ⟨k + 1, by omega, rfl, by go_num, HW3.out, HK3.out⟩
      · obtain rfl : n = k := by omega
        go_wp2_with fail
        go_end0
        refine ⟨rfl, ?_, HK2.out⟩
        have := HW2.out
        rw [List.take_of_length_le (by rw [HN.out]; exact Nat.le_refl _)] at this
        simpa using this
  · have H : Hid (WrAt W0 w b gv bs true) := h
    have c7 : w.cell? ⟨b, 7, none⟩ = some (.bool true) := by
      obtain ⟨p, v, hp, hB⟩ := h
      exact hB.cell 7 _ rfl
    clear h
    go_enter Try.func40, Try.ntmps40
    go_wp2_with fail
    refine (writeByte_at (32 : UInt8) H.out (by omega)).mono ?_
    rintro e w1 ⟨rfl, ⟨p, v, hp, hB⟩, hk⟩
    have c7 := hB.cell 7 _ rfl
    have f7 := hB.free 7
    have HW : Hid (WrAt W0 (w1.setCell ⟨b, 7, none⟩ (.bool true)) b gv (bs ++ [32]) true) := ⟨p, v, hp, hB.setL true⟩
    have HK : Hid (Lib.OthersKept 5 (some b) w (w1.setCell ⟨b, 7, none⟩ (.bool true))) := hk.setCell ⟨b, 7, none⟩ rfl _
    clear hB hp hk H
    go_wp2_with fail
    go_loopg [5, 19] n (fun gk v5 i wr => ∃ k : Nat, k ≤ n ∧ gk = n - k ∧ i = .int .i64 k ∧ WrAt W0 wr b gv (bs ++ [32] ++ piecesB (ps.take k)) true ∧ Lib.OthersKept 5 (some b) w wr)
    case atStart => exact ⟨0, Nat.zero_le _, rfl, rfl, by simpa [piecesB] using HW.out, HK.out⟩
    case round =>
      obtain ⟨k, hk, hgk, rfl, hW, hK⟩ := hrel
      have HW2 : Hid (WrAt W0 wr b gv (bs ++ [32] ++ piecesB (ps.take k)) true) := hW
      have HK2 : Hid (Lib.OthersKept 5 (some b) w wr) := hK
      have HGK : Hid (gk = n - k) := hgk
      clear hW hK hgk HW HK
      by_cases hlt : k < n
      · obtain ⟨sb, so, rfl, hc⟩ : ∃ sb so, sa = some ⟨sb, so, none⟩ ∧ ∀ i, i < ps.length → wr.cell? ⟨sb, so + i, none⟩ = some (.string (ps.getD i ByteArray.empty)) := by
          rcases HS.out wr HK2.out with h | h
          · have h9 := HN.out; rw [h] at h9; simp at h9; omega
          · exact h
        have c0 := hc k (by rw [HN.out]; exact hlt)
        obtain ⟨s, hs0⟩ : ∃ s, s = ps.getD k ByteArray.empty := ⟨_, rfl⟩
        rw [← hs0] at c0
        have HT : Hid (piecesB (ps.take (k + 1)) = piecesB (ps.take k) ++ s.data.toList) := by
          show _ = _
          rw [hs0, piecesB_succ (by rw [HN.out]; exact hlt)]
        have HB2 : Hid ((bs ++ [32] ++ piecesB (ps.take k)).length + s.size ≤ 140737488355328) := by
          show _ ≤ _
          have h1 := pieces_le ps (k + 1)
          rw [HT.out] at h1
          have h2 : s.data.toList.length = s.size := by rw [Array.length_toList]; rfl
          simp only [List.length_append] at h1 ⊢
          have := hl
          simp only [List.length_singleton] at *; omega
        clear hc hs0
        go_wp2_with fail
        refine (writeString_at s HW2.out HB2.out).mono ?_
        rintro e w3 ⟨rfl, hW3, hK3⟩
        have HW3 : Hid (WrAt W0 w3 b gv (bs ++ [32] ++ piecesB (ps.take (k + 1))) true) := by
          show WrAt _ _ _ _ _ _
          rw [HT.out, ← List.append_assoc]
          exact hW3
        have HK3 : Hid (Lib.OthersKept 5 (some b) w w3) := HK2.out.trans hK3
        clear hW3 hK3 HW2 HK2
        go_wp2_with fail
        go_roundg (n - (k + 1))
        case measure => have := HGK.out; omega
        case rel => exact ⟨k + 1, by omega, rfl, by go_num, HW3.out, HK3.out⟩
      · obtain rfl : n = k := by omega
        go_wp2_with fail
        go_end0
        refine ⟨rfl, ?_, HK2.out⟩
        have := HW2.out
        rw [List.take_of_length_le (by rw [HN.out]; exact Nat.le_refl _)] at this
        simpa using this

end Go.Proofs.Ytkhmhcinepfemaa
