import Derived.Test.YtkhmhcinepfemaaQaindeapmhnpn
import Derived.Lib.Builder
import Derived.Lib.AppendStr
import Derived.Lib.UnsafeStr
import Derived.Lib.OthersKept

/-
  show's writer: a strings.Builder within a box, the grammar beside it, and whether a word stands in the line.
-/
namespace Go.Proofs.Ytkhmhcinepfemaa
open Go.RowKit Go.Maps Go.Shelf

theorem infoByte : (Try.prog.info? 5).map (fun i => (i.zero, i.size, i.bytes)) = some (some (.int .u8 0), 1, 1) := by kernel_rfl
theorem sizeBuilder : (Try.prog.info? 53).map (·.size) = some 2 := by kernel_rfl
theorem liesWriter : liesAt Try.prog Try.prog.depth 55 (8 / Try.prog.cellsOf 55) 0 53 1 = true := by kernel_rfl

structure WrB (W0 w : World) (b : Nat) (p v : Value) (gv : Value × Value × Value × Value × Value) (bs : List UInt8) (inl : Bool) : Prop where
  grown : W0.grownBy w none
  lo : W0.heap.size ≤ b
  blk : w.heap[b]? = some (.cells #[p, v, gv.1, gv.2.1, gv.2.2.1, gv.2.2.2.1, gv.2.2.2.2, .bool inl] 55 (0, 0))
  own : w.ownsRow W0.heap.size 5 1 v bs.length (Lib.byteCells bs)
  nil : bs = [] → v = .slice none 0 0
def WrAt (W0 w : World) (b : Nat) (gv : Value × Value × Value × Value × Value) (bs : List UInt8) (inl : Bool) : Prop :=
  ∃ p v, (p = .pointer none ∨ p = .pointer (some ⟨b, 0, none⟩)) ∧ WrB W0 w b p v gv bs inl

section
variable {W0 w w' : World} {b : Nat} {p v : Value} {gv : Value × Value × Value × Value × Value} {bs : List UInt8} {inl : Bool}
theorem WrB.lt (h : WrB W0 w b p v gv bs inl) : b < w.heap.size := (Array.getElem?_eq_some_iff.1 h.blk).1
theorem WrB.cell (h : WrB W0 w b p v gv bs inl) (k : Nat) (u : Value) (hu : #[p, v, gv.1, gv.2.1, gv.2.2.1, gv.2.2.2.1, gv.2.2.2.2, .bool inl][k]? = some u) : w.cell? ⟨b, k, none⟩ = some u := by rw [cell_of_row _ _ _ _ _ _ h.blk]; exact hu
theorem WrB.free (h : WrB W0 w b p v gv bs inl) (k : Nat) : w.frozen? ⟨b, k, none⟩ = false := frozen_of_row _ _ _ _ _ h.blk
theorem WrB.shape (h : WrB W0 w b p v gv bs inl) : w.shape? b = some (55, 8) := by simp [World.shape?, h.blk]
theorem WrB.apart (h : WrB W0 w b p v gv bs inl) : v.ownBlock = none ∨ v.ownBlock ≠ some b := owns_nebox h.own h.blk (by decide)
theorem WrB.kept (h : WrB W0 w b p v gv bs inl) (hg : w.grownBy w' none) : WrB W0 w' b p v gv bs inl :=
  ⟨grown_trans h.grown hg, h.lo, (hg.block b h.lt (by simp)).trans h.blk, h.own.kept hg (by cases hv : v.ownBlock <;> simp), h.nil⟩
theorem WrAt.kept (h : WrAt W0 w b gv bs inl) (hg : w.grownBy w' none) : WrAt W0 w' b gv bs inl := by
  obtain ⟨p, v, hp, h⟩ := h
  exact ⟨p, v, hp, h.kept hg⟩
theorem WrB.setP (h : WrB W0 w b p v gv bs inl) (q : Value) : WrB W0 (w.setCell ⟨b, 0, none⟩ q) b q v gv bs inl :=
  ⟨grown_new h.grown (grown_setCell _ _ _) h.lo, h.lo, by have := heap_setCell_same w b 0 _ _ q h.blk; simpa using this, h.own.kept (grown_setCell b 0 q) h.apart, h.nil⟩
end

set_option maxHeartbeats 1000000 in
set_option maxRecDepth 100000 in
theorem copyCheck_at {W0 w : World} {b : Nat} {gv : Value × Value × Value × Value × Value} {bs : List UInt8} {inl : Bool} (h : WrAt W0 w b gv bs inl) :
    Calls Try.prog 67 #[.pointer (some ⟨b, 0, none⟩)] w fun e w' => e = .returned (.tuple #[]) ∧ (∃ v, WrB W0 w' b (.pointer (some ⟨b, 0, none⟩)) v gv bs inl) ∧ Lib.OthersKept 5 (some b) w w' := by
  obtain ⟨j, hj, hjs⟩ := Option.map_eq_some_iff.1 sizeBuilder
  obtain ⟨p, v, hp, h⟩ := h
  have c0 := h.cell 0 _ rfl
  have f0 := h.free 0
  have hsh := h.shape
  rcases hp with rfl | rfl
  · go_enter Try.func67, Try.ntmps67
    go_wp2
    rw [Lib.run_to_unsafe w ⟨b, 0, none⟩ Try.underlying50 Try.underlying89 hj (by rw [hjs]; decide) hsh (Nat.zero_lt_succ 7)]
    simp only [Result.andThen]
    rw [Oper.upon_value]
    go_wp2
    rw [run_callFunc_extern Try.func78 (by kernel_rfl) (by kernel_rfl) (by kernel_rfl) (e := Extern.AbiNoEscape.same) (by kernel_rfl)]
    rw [Lib.run_noEscape]
    simp only [Result.andThen]
    rw [Oper.upon_value]
    go_wp2
    rw [Lib.run_from_unsafe w ⟨b, 0, none⟩ Try.underlying89 Try.underlying50 hj hsh liesWriter]
    simp only [Result.andThen]
    rw [Oper.upon_value]
    go_wp2
    go_end0
    exact ⟨rfl, ⟨v, h.setP _⟩, (Lib.OthersKept.refl _ _ w).setCell ⟨b, 0, none⟩ rfl _⟩
  · go_enter Try.func67, Try.ntmps67
    go_wp2
    rw [Lib.run_neq_ptr_same w _ Try.underlying50 hj]
    go_wp2
    go_end0
    exact ⟨rfl, ⟨v, h⟩, Lib.OthersKept.refl _ _ _⟩

theorem WrB.put {W0 w w' : World} {b : Nat} {p v v' : Value} {gv : Value × Value × Value × Value × Value} {bs bs' : List UInt8} {inl : Bool} (h : WrB W0 w b p v gv bs inl) (ho : w'.ownsRow W0.heap.size 5 1 v' bs'.length (Lib.byteCells bs')) (hg : w.grownBy w' v.ownBlock) (hn : bs' = [] → v' = .slice none 0 0) :
    w'.cell? ⟨b, 1, none⟩ = some v ∧ w'.frozen? ⟨b, 1, none⟩ = false ∧ WrB W0 (w'.setCell ⟨b, 1, none⟩ v') b p v' gv bs' inl := by
  have hblk : w'.heap[b]? = some (.cells #[p, v, gv.1, gv.2.1, gv.2.2.1, gv.2.2.2.1, gv.2.2.2.2, .bool inl] 55 (0, 0)) := (hg.block b h.lt (by rcases h.apart with e | e <;> simp [e, Ne.symm])).trans h.blk
  have hgr : W0.grownBy w' none := by
    cases hv : v.ownBlock with
    | none => rw [hv] at hg; exact grown_trans h.grown hg
    | some q => rw [hv] at hg; exact grown_new h.grown hg (h.own.lt q hv).1
  have hne := owns_nebox ho hblk (by decide)
  refine ⟨by rw [cell_of_row _ _ _ _ _ _ hblk]; rfl, frozen_of_row _ _ _ _ _ hblk, grown_new hgr (grown_setCell _ _ _) h.lo, h.lo, ?_, ho.kept (grown_setCell b 1 v') hne, hn⟩
  have := heap_setCell_same w' b 1 _ _ v' hblk
  simpa using this

set_option maxHeartbeats 2000000 in
set_option maxRecDepth 100000 in
theorem writeByte_at {W0 w : World} {b : Nat} {gv : Value × Value × Value × Value × Value} {bs : List UInt8} {inl : Bool} (c : UInt8) (h : WrAt W0 w b gv bs inl) (hl : bs.length + 1 ≤ 140737488355328) :
    Calls Try.prog 53 #[.pointer (some ⟨b, 0, none⟩), .int .u8 c.toNat] w fun e w' => e = .returned .nilIface ∧ WrAt W0 w' b gv (bs ++ [c]) inl ∧ Lib.OthersKept 5 (some b) w w' := by
  obtain ⟨i0, hi, hz0, hz1, hz2⟩ := info_parts infoByte
  have H : Hid (WrAt W0 w b gv bs inl) := h
  clear h
  go_enter Try.func53, Try.ntmps53
  go_wp2_with fail
  refine (copyCheck_at H.out).mono ?_
  rintro e w1 ⟨rfl, ⟨v, hB⟩, hk⟩
  have HK : Hid (Lib.OthersKept 5 (some b) w w1) := hk
  clear hk
  have HB : Hid (WrB W0 w1 b (.pointer (some ⟨b, 0, none⟩)) v gv bs inl) := hB
  have c0 := hB.cell 0 _ rfl
  have c1 := hB.cell 1 _ rfl
  clear hB H
  go_wp2_with (at_builtin; refine wpList_append_own _ rfl _ _ 51 rfl W0.heap.size 5 i0 (.int .u8 0) 1 1 Try.underlying51 hi hz0 hz1 hz2 rfl (by decide) v bs.length (Lib.byteCells bs) rfl (HB.out.own.alloc _) ⟨w1.heap.size, 0, none⟩ 1 1 [.int .u8 c.toNat] rfl rfl ?c1 ?c2 ?c3 ?c4 ?c5 ?_)
  case c1 => exact World.news_of_block (heap_alloc_last w1 _)
  case c2 => intro u hu; simp at hu; subst hu; rfl
  case c3 => unfold maxLen; omega
  case c4 => omega
  case c5 => have := HB.out.grown.size; simp; omega
  intro v' w2 hown hg _
  obtain ⟨y1, y2, y3⟩ := WrB.put (bs' := bs ++ [c]) (HB.out.kept (World.grownBy_alloc w1 _ none)) (by simpa [Lib.byteCells] using hown) hg (by simp)
  have HY : Hid (WrB W0 (w2.setCell ⟨b, 1, none⟩ v') b (.pointer (some ⟨b, 0, none⟩)) v' gv (bs ++ [c]) inl) := y3
  clear y3
  have HO : Hid (Lib.OthersKept 5 (some b) w w2) := (HK.out.alloc _).grown hg (Lib.ownsRowF_kind (World.ownsRowF_of (HB.out.own.alloc _)))
  obtain ⟨a2, n2, rfl⟩ := owns_slice hown
  go_wp2_with fail
  go_ret
  exact ⟨rfl, ⟨_, _, .inr rfl, HY.out⟩, HO.out.setCell ⟨b, 1, none⟩ rfl _⟩

set_option maxHeartbeats 2000000 in
set_option maxRecDepth 100000 in
theorem writeString_at {W0 w : World} {b : Nat} {gv : Value × Value × Value × Value × Value} {bs : List UInt8} {inl : Bool} (s : ByteArray) (h : WrAt W0 w b gv bs inl) (hl : bs.length + s.size ≤ 140737488355328) :
    Calls Try.prog 54 #[.pointer (some ⟨b, 0, none⟩), .string s] w fun e w' => e = .returned (.tuple #[.int .i64 s.size, .nilIface]) ∧ WrAt W0 w' b gv (bs ++ s.data.toList) inl ∧ Lib.OthersKept 5 (some b) w w' := by
  obtain ⟨i0, hi, hz0, hz1, hz2⟩ := info_parts infoByte
  have H : Hid (WrAt W0 w b gv bs inl) := h
  clear h
  go_enter Try.func54, Try.ntmps54
  go_wp2_with fail
  refine (copyCheck_at H.out).mono ?_
  rintro e w1 ⟨rfl, ⟨v, hB⟩, hk⟩
  have HK : Hid (Lib.OthersKept 5 (some b) w w1) := hk
  clear hk
  have HB : Hid (WrB W0 w1 b (.pointer (some ⟨b, 0, none⟩)) v gv bs inl) := hB
  have c0 := hB.cell 0 _ rfl
  have c1 := hB.cell 1 _ rfl
  clear hB H
  have hse : s.data.toList.length = s.size := by rw [Array.length_toList]; rfl
  go_wp2_with (at_builtin; refine Lib.wpList_append_own_string _ rfl _ _ 51 9 rfl W0.heap.size 5 i0 Try.underlying51 Try.underlying9 hi hz0 hz1 hz2 v bs.length (Lib.byteCells bs) rfl HB.out.own s rfl ?c1 ?c2 ?c3 ?_)
  case c1 => unfold maxLen; omega
  case c2 => exact hl
  case c3 => exact HB.out.grown.size
  intro v' w2 hown hg hnil
  obtain ⟨y1, y2, y3⟩ := WrB.put (bs' := bs ++ s.data.toList) HB.out (by rw [List.length_append, hse, Lib.byteCells_append, ← Lib.strCells_eq]; exact hown) hg (fun e => by rw [List.append_eq_nil_iff] at e; exact hnil.2 ⟨HB.out.nil e.1, congrArg ByteArray.mk (Array.toList_eq_nil_iff.1 e.2)⟩)
  have HY : Hid (WrB W0 (w2.setCell ⟨b, 1, none⟩ v') b (.pointer (some ⟨b, 0, none⟩)) v' gv (bs ++ s.data.toList) inl) := y3
  clear y3
  have HO : Hid (Lib.OthersKept 5 (some b) w w2) := HK.out.grown hg (Lib.ownsRowF_kind (World.ownsRowF_of HB.out.own))
  obtain ⟨a2, n2, rfl⟩ := owns_slice hown
  go_wp2_with fail
  go_ret2
  exact ⟨rfl, ⟨_, _, .inr rfl, HY.out⟩, HO.out.setCell ⟨b, 1, none⟩ rfl _⟩

set_option maxRecDepth 100000 in
theorem len_at {W0 w : World} {b : Nat} {gv : Value × Value × Value × Value × Value} {bs : List UInt8} {inl : Bool} (h : WrAt W0 w b gv bs inl) :
    Calls Try.prog 29 #[.pointer (some ⟨b, 0, none⟩)] w fun e w' => e = .returned (.int .i64 bs.length) ∧ w' = w := by
  obtain ⟨p, v, _, h⟩ := h
  obtain ⟨a, c, rfl⟩ := owns_slice h.own
  have c1 := h.cell 1 _ rfl
  clear h
  go_enter Try.func29, Try.ntmps29
  go_wp2_with fail
  go_ret
  exact ⟨rfl, rfl⟩

theorem cellsByte : Try.prog.cellsOf 5 = 1 := by kernel_rfl

theorem grown_freeze {W0 w : World} {g n : Nat} (h : W0.grownBy w none) (hg : W0.heap.size ≤ g) : W0.grownBy (w.freeze ⟨g, 0, none⟩ n) none := by
  unfold World.freeze
  split
  · exact h
  · exact ⟨h.os, h.tape, h.output, by have := h.size; simpa using this, fun k hk hn => by
      simp only [Array.getElem?_modify]
      rw [if_neg (by omega)]
      exact h.block k hk hn⟩

set_option maxHeartbeats 2000000 in
set_option maxRecDepth 100000 in
theorem string_at {W0 w : World} {b : Nat} {gv : Value × Value × Value × Value × Value} {bs : List UInt8} {inl : Bool} (h : WrAt W0 w b gv bs inl) :
    Calls Try.prog 30 #[.pointer (some ⟨b, 0, none⟩)] w fun e w' => e = .returned (.string ⟨bs.toArray⟩) ∧ W0.grownBy w' none := by
  obtain ⟨p, v, _, h⟩ := h
  have h' := h.kept (grown_drewN w 1)
  by_cases h0 : bs = []
  · subst h0
    obtain rfl := h.nil rfl
    have hUS : ∀ W q, (Builtin.unsafeString_ #[76, 3] 9 #[.pointer q, .int .i64 0]).run Try.prog W = .ok (.string .empty) W := fun W q => Lib.run_unsafeString_none W _ _ _ q
    have c1 : w.drew.cell? ⟨b, 1, none⟩ = some (.slice none 0 0) := h'.cell 1 _ rfl
    have hSD : (Builtin.unsafeSliceData_ #[51] 76 #[.slice none 0 0]).run Try.prog w.drew = .ok (.pointer none) w.drew := rfl
    have HG : Hid (W0.grownBy w.drew none) := h'.grown
    clear h h'
    go_enter Try.func30, Try.ntmps30
    go_wp2
    go_region
    all_goals (go_wp2; go_ret; exact ⟨rfl, HG.out⟩)
  · have hl0 : bs.length ≠ 0 := by simpa using h0
    obtain ⟨g, cap, cur, rfl, hbg, hg, hnc, hcm, hcs, htake⟩ : ∃ g cap cur, v = .slice (some ⟨g, 0, none⟩) bs.length cap ∧ W0.heap.size ≤ g ∧ w.heap[g]? = some (.cells cur 5 (0, 0)) ∧ bs.length ≤ cap ∧ cap ≤ maxLen ∧ cur.size = cap * 1 ∧ cur.toList.take (bs.length * 1) = Lib.byteCells bs := by
      rcases h.own.2 with ⟨_, hz⟩ | ⟨g, cap, cur, hv, r⟩
      · exact absurd hz hl0
      · exact ⟨g, cap, cur, hv, r⟩
    have c1 : w.drew.cell? ⟨b, 1, none⟩ = some (.slice (some ⟨g, 0, none⟩) bs.length cap) := h'.cell 1 _ rfl
    have hSD : (Builtin.unsafeSliceData_ #[51] 76 #[.slice (some ⟨g, 0, none⟩) bs.length cap]).run Try.prog w.drew = .ok (.pointer (some ⟨g, 0, none⟩)) w.drew :=
      Lib.run_unsafeSliceData_row _ _ _ _ _ _ (by omega)
    have hUS : (Builtin.unsafeString_ #[76, 3] 9 #[.pointer (some ⟨g, 0, none⟩), .int .i64 bs.length]).run Try.prog w.drew = .ok (.string ⟨bs.toArray⟩) (w.drew.freeze ⟨g, 0, none⟩ bs.length) := by
      refine Lib.run_unsafeString_row w.drew 76 3 9 5 Try.underlying76 cellsByte g cur.size (by have hg' : w.drew.heap[g]? = some (.cells cur 5 (0, 0)) := hg; simp [World.shape?, hg']) bs h0 (by omega) (by unfold maxLen at hcm; omega) ?_
      intro j x hx
      have := h.own.cells (g := g) rfl j (.int .u8 x.toNat) (by simp [Lib.byteCells, hx])
      exact this
    have HG : Hid (W0.grownBy (w.drew.freeze ⟨g, 0, none⟩ bs.length) none) := grown_freeze h'.grown hbg
    clear h h' hg hcs htake
    go_enter Try.func30, Try.ntmps30
    go_wp2
    go_region
    all_goals (go_wp2; go_ret; exact ⟨rfl, HG.out⟩)

end Go.Proofs.Ytkhmhcinepfemaa

/-
  show's writer: a word.
-/
namespace Go.Proofs.Ytkhmhcinepfemaa
open Go.RowKit Go.Maps Go.Shelf

theorem WrB.setL {W0 w : World} {b : Nat} {p v : Value} {gv : Value × Value × Value × Value × Value} {bs : List UInt8} {inl : Bool} (h : WrB W0 w b p v gv bs inl) (q : Bool) : WrB W0 (w.setCell ⟨b, 7, none⟩ (.bool q)) b p v gv bs q :=
  ⟨grown_new h.grown (grown_setCell _ _ _) h.lo, h.lo, by have := heap_setCell_same w b 7 _ _ (.bool q) h.blk; simpa using this, h.own.kept (grown_setCell b 7 _) h.apart, h.nil⟩

def piecesB (ps : List ByteArray) : List UInt8 := (ps.map fun s => s.data.toList).flatten

theorem piecesB_succ {ps : List ByteArray} {k : Nat} (h : k < ps.length) : piecesB (ps.take (k + 1)) = piecesB (ps.take k) ++ (ps.getD k ByteArray.empty).data.toList := by
  have e : ps.take (k + 1) = ps.take k ++ [ps.getD k ByteArray.empty] := by rw [List.take_add_one]; simp [h, List.getD]
  rw [e, piecesB, List.map_append, List.flatten_append]
  simp [piecesB]
theorem pieces_le (ps : List ByteArray) (k : Nat) : (piecesB (ps.take k)).length ≤ (piecesB ps).length := by
  have e : piecesB ps = piecesB (ps.take k) ++ piecesB (ps.drop k) := by
    simp only [piecesB]
    rw [← List.flatten_append, ← List.map_append, List.take_append_drop]
  rw [e, List.length_append]
  omega

set_option maxRecDepth 100000 in
theorem word_at {W0 w : World} {b : Nat} {gv : Value × Value × Value × Value × Value} {bs : List UInt8} {inl : Bool} (sa : Option Addr) (n cap : Nat) (ps : List ByteArray) (hn : ps.length = n) (h : WrAt W0 w b gv bs inl) (hs : ∀ X, Lib.OthersKept 5 (some b) w X → StrsAt X sa ps) (hl : bs.length + 1 + (piecesB ps).length ≤ 140737488355328) (hnl : n ≤ 1048576) :
    Calls Try.prog 40 #[.pointer (some ⟨b, 0, none⟩), .slice sa n cap] w fun e w' => e = .returned (.tuple #[]) ∧ WrAt W0 w' b gv (bs ++ (if inl then [32] else []) ++ piecesB ps) true ∧ Lib.OthersKept 5 (some b) w w' := by
  have HN : Hid (ps.length = n) := hn
  have HS : Hid (∀ X, Lib.OthersKept 5 (some b) w X → StrsAt X sa ps) := hs
  clear hn hs
  cases inl
  · obtain ⟨p, v, hp, hB⟩ := h
    have c7 := hB.cell 7 _ rfl
    have f7 := hB.free 7
    have HW : Hid (WrAt W0 (w.setCell ⟨b, 7, none⟩ (.bool true)) b gv bs true) := ⟨p, v, hp, hB.setL true⟩
    have HK : Hid (Lib.OthersKept 5 (some b) w (w.setCell ⟨b, 7, none⟩ (.bool true))) := (Lib.OthersKept.refl _ _ w).setCell ⟨b, 7, none⟩ rfl _
    clear hB hp
    go_enter Try.func40, Try.ntmps40
    go_wp2_with fail
    go_loopg [5, 19] n (fun gk v5 i wr => ∃ k : Nat, k ≤ n ∧ gk = n - k ∧ i = .int .i64 k ∧ WrAt W0 wr b gv (bs ++ piecesB (ps.take k)) true ∧ Lib.OthersKept 5 (some b) w wr)
    case atStart => exact ⟨0, Nat.zero_le _, rfl, rfl, by simpa [piecesB] using HW.out, HK.out⟩
    case round =>
      obtain ⟨k, hk, hgk, rfl, hW, hK⟩ := hrel
      have HW2 : Hid (WrAt W0 wr b gv (bs ++ piecesB (ps.take k)) true) := hW
      have HK2 : Hid (Lib.OthersKept 5 (some b) w wr) := hK
      have HGK : Hid (gk = n - k) := hgk
      clear hW hK hgk HW HK
      by_cases hlt : k < n
      · obtain ⟨sb, so, rfl, hc⟩ : ∃ sb so, sa = some ⟨sb, so, none⟩ ∧ ∀ i, i < ps.length → wr.cell? ⟨sb, so + i, none⟩ = some (.string (ps.getD i ByteArray.empty)) := by
          rcases HS.out wr HK2.out with h | h
          · have h9 := HN.out; rw [h] at h9; simp at h9; omega
          · exact h
        have c0 := hc k (by rw [HN.out]; exact hlt)
        obtain ⟨s, hs0⟩ : ∃ s, s = ps.getD k ByteArray.empty := ⟨_, rfl⟩
        rw [← hs0] at c0
        have HT : Hid (piecesB (ps.take (k + 1)) = piecesB (ps.take k) ++ s.data.toList) := by
          show _ = _
          rw [hs0, piecesB_succ (by rw [HN.out]; exact hlt)]
        have HB2 : Hid ((bs ++ piecesB (ps.take k)).length + s.size ≤ 140737488355328) := by
          show _ ≤ _
          have h1 := pieces_le ps (k + 1)
          rw [HT.out] at h1
          have h2 : s.data.toList.length = s.size := by rw [Array.length_toList]; rfl
          simp only [List.length_append] at h1 ⊢
          have := hl
          omega
        clear hc hs0
        go_wp2_with fail
        refine (writeString_at s HW2.out HB2.out).mono ?_
        rintro e w3 ⟨rfl, hW3, hK3⟩
        have HW3 : Hid (WrAt W0 w3 b gv (bs ++ piecesB (ps.take (k + 1))) true) := by
          show WrAt _ _ _ _ _ _
          rw [HT.out, ← List.append_assoc]
          exact hW3
        have HK3 : Hid (Lib.OthersKept 5 (some b) w w3) := HK2.out.trans hK3
        clear hW3 hK3 HW2 HK2
        go_wp2_with fail
        go_roundg (n - (k + 1))
        case measure => have := HGK.out; omega
        case rel => exact ⟨k + 1, by omega, rfl, by go_num, HW3.out, HK3.out⟩
      · obtain rfl : n = k := by omega
        go_wp2_with fail
        go_end0
        refine ⟨rfl, ?_, HK2.out⟩
        have := HW2.out
        rw [List.take_of_length_le (by rw [HN.out]; exact Nat.le_refl _)] at this
        simpa using this
  · have H : Hid (WrAt W0 w b gv bs true) := h
    have c7 : w.cell? ⟨b, 7, none⟩ = some (.bool true) := by
      obtain ⟨p, v, hp, hB⟩ := h
      exact hB.cell 7 _ rfl
    clear h
    go_enter Try.func40, Try.ntmps40
    go_wp2_with fail
    refine (writeByte_at (32 : UInt8) H.out (by omega)).mono ?_
    rintro e w1 ⟨rfl, ⟨p, v, hp, hB⟩, hk⟩
    have c7 := hB.cell 7 _ rfl
    have f7 := hB.free 7
    have HW : Hid (WrAt W0 (w1.setCell ⟨b, 7, none⟩ (.bool true)) b gv (bs ++ [32]) true) := ⟨p, v, hp, hB.setL true⟩
    have HK : Hid (Lib.OthersKept 5 (some b) w (w1.setCell ⟨b, 7, none⟩ (.bool true))) := hk.setCell ⟨b, 7, none⟩ rfl _
    clear hB hp hk H
    go_wp2_with fail
    go_loopg [5, 19] n (fun gk v5 i wr => ∃ k : Nat, k ≤ n ∧ gk = n - k ∧ i = .int .i64 k ∧ WrAt W0 wr b gv (bs ++ [32] ++ piecesB (ps.take k)) true ∧ Lib.OthersKept 5 (some b) w wr)
    case atStart => exact ⟨0, Nat.zero_le _, rfl, rfl, by simpa [piecesB] using HW.out, HK.out⟩
    case round =>
      obtain ⟨k, hk, hgk, rfl, hW, hK⟩ := hrel
      have HW2 : Hid (WrAt W0 wr b gv (bs ++ [32] ++ piecesB (ps.take k)) true) := hW
      have HK2 : Hid (Lib.OthersKept 5 (some b) w wr) := hK
      have HGK : Hid (gk = n - k) := hgk
      clear hW hK hgk HW HK
      by_cases hlt : k < n
      · obtain ⟨sb, so, rfl, hc⟩ : ∃ sb so, sa = some ⟨sb, so, none⟩ ∧ ∀ i, i < ps.length → wr.cell? ⟨sb, so + i, none⟩ = some (.string (ps.getD i ByteArray.empty)) := by
          rcases HS.out wr HK2.out with h | h
          · have h9 := HN.out; rw [h] at h9; simp at h9; omega
          · exact h
        have c0 := hc k (by rw [HN.out]; exact hlt)
        obtain ⟨s, hs0⟩ : ∃ s, s = ps.getD k ByteArray.empty := ⟨_, rfl⟩
        rw [← hs0] at c0
        have HT : Hid (piecesB (ps.take (k + 1)) = piecesB (ps.take k) ++ s.data.toList) := by
          show _ = _
          rw [hs0, piecesB_succ (by rw [HN.out]; exact hlt)]
        have HB2 : Hid ((bs ++ [32] ++ piecesB (ps.take k)).length + s.size ≤ 140737488355328) := by
          show _ ≤ _
          have h1 := pieces_le ps (k + 1)
          rw [HT.out] at h1
          have h2 : s.data.toList.length = s.size := by rw [Array.length_toList]; rfl
          simp only [List.length_append] at h1 ⊢
          have := hl
          simp only [List.length_singleton] at *; omega
        clear hc hs0
        go_wp2_with fail
        refine (writeString_at s HW2.out HB2.out).mono ?_
        rintro e w3 ⟨rfl, hW3, hK3⟩
        have HW3 : Hid (WrAt W0 w3 b gv (bs ++ [32] ++ piecesB (ps.take (k + 1))) true) := by
          show WrAt _ _ _ _ _ _
          rw [HT.out, ← List.append_assoc]
          exact hW3
        have HK3 : Hid (Lib.OthersKept 5 (some b) w w3) := HK2.out.trans hK3
        clear hW3 hK3 HW2 HK2
        go_wp2_with fail
        go_roundg (n - (k + 1))
        case measure => have := HGK.out; omega
        case rel => exact ⟨k + 1, by omega, rfl, by go_num, HW3.out, HK3.out⟩
      · obtain rfl : n = k := by omega
        go_wp2_with fail
        go_end0
        refine ⟨rfl, ?_, HK2.out⟩
        have := HW2.out
        rw [List.take_of_length_le (by rw [HN.out]; exact Nat.le_refl _)] at this
        simpa using this

end Go.Proofs.Ytkhmhcinepfemaa

/-
  termsHold of whatever slice.
-/
namespace Go.Proofs.Ytkhmhcinepfemaa
open Go.RowKit Go.Maps Go.Shelf

attribute [local go_sem] Oper.semAt_some

set_option maxRecDepth 100000 in
theorem termsHold_one (b off : Nat) (na la pa : Option Addr) (nn ln pn nc lc pc : Nat) (st : Int) (t : ByteArray × Int) (w : World) (hT : TermsAt w (some ⟨b, off, none⟩) [t]) (r : Bool) (hr : r = true ↔ termsOK [t] ln) :
    Calls Try.prog 70 #[.agg #[.slice (some ⟨b, off, none⟩) 1 1, .slice na nn nc, .slice la ln lc, .int .i64 st, .slice pa pn pc]] w fun e w' => e = .returned (.bool r) ∧ w.grownBy w' none := by
  obtain ⟨j0, hj, hy0, hy1, hy2⟩ := info_parts infoStr
  obtain ⟨s0, l0⟩ := t
  have hcs : w.cell? ⟨b, off, none⟩ = some (.string s0) ∧ w.cell? ⟨b, off + 1, none⟩ = some (.int .i64 l0) := by
    rcases hT with h | ⟨b', off', he, h⟩
    · cases h
    · simp only [Option.some.injEq, Addr.mk.injEq, and_true] at he
      obtain ⟨rfl, rfl⟩ := he
      have := h 0 (by simp)
      simpa using this
  have hA1 : ∀ o, (w.alloc o).cell? ⟨b, off, none⟩ = some (.string s0) := fun o => (World.grownBy_alloc w o none).cell hcs.1 (by simp)
  have hA2 : ∀ o, (w.alloc o).cell? ⟨b, off + 1, none⟩ = some (.int .i64 l0) := fun o => (World.grownBy_alloc w o none).cell hcs.2 (by simp)
  have hq := fun w => neqTerm s0 ⟨#[]⟩ l0 0 w
  have hqg : Try.prog.eqGuardType Try.prog.depth 60 = false := by kernel_rfl
  have HRR : Hid (r = true ↔ termsOK [(s0, l0)] ln) := hr
  clear hcs hT hr
  by_cases hmk : s0 = ⟨#[]⟩ ∧ l0 = 0
  · obtain ⟨rfl, rfl⟩ := hmk
    have hq' : ∀ w, (binOp .neq 60 (.agg #[.string ⟨#[]⟩, .int .i64 0]) (.agg #[.string ⟨#[]⟩, .int .i64 0])).run Try.prog w = .ok (.bool false) w := fun w => by rw [hq]; simp
    have hrt : r = true := HRR.out.2 ⟨[], rfl, (fun t ht => by cases ht), (by simp)⟩
    have HNT : Hid (∀ W a c, Calls Try.prog 81 #[.slice a 0 c] W fun e w' => e = .returned (.bool true) ∧ W.grownBy w' none) := fun W a c => (noTwoAlike_any a c [] W (.inl rfl) (by simp) (fun s hs => by cases hs)).mono fun e w' ⟨r', he, h1, h2⟩ => ⟨by rw [he, h1.2 List.nodup_nil], h2⟩
    have HBX : Hid (∀ w1, (w.alloc (.cells #[.slice (some ⟨b, off, none⟩) 1 1, .slice na nn nc, .slice la ln lc, .int .i64 st, .slice pa pn pc] 27)).grownBy w1 none → w1.heap[w.heap.size]? = some (.cells #[.slice (some ⟨b, off, none⟩) 1 1, .slice na nn nc, .slice la ln lc, .int .i64 st, .slice pa pn pc] 27 (0, 0))) := fun w1 hg => (hg.block w.heap.size (by simp) (by simp)).trans (heap_alloc_last w _)
    clear hq
    go_enter Try.func70, Try.ntmps70
    go_wp2_with (at_make; refine wpList_make_own _ rfl _ _ 23 rfl (w.heap.size + 1) 9 j0 (.string ByteArray.empty) 1 Try.underlying23 hj hy0 hy1 .i64 .i64 _ 0 rfl rfl (by simp) (by rw [hy2]; omega) (by unfold maxLen; omega) (by simp) ?_; intro w1 hown1 hg1; have hbx1 := HBX.out w1 hg1; have k0 := cell_of_row w1 w.heap.size 0 _ _ _ hbx1; simp only [List.getElem?_toArray, List.getElem?_cons_zero] at k0)
    have HG1 : Hid (w.grownBy w1 none) := grown_trans (World.grownBy_alloc _ _ none) hg1
    clear hown1 hg1 hbx1 hA1 hA2
    refine wp_loop_rounds 1 ?_
    rw [rounds_succ]
    go_wp2_with fail
    refine (HNT.out _ _ _).mono ?_
    rintro e w5 ⟨rfl, hg5⟩
    go_wp2_with fail
    go_ret
    exact ⟨by first | rfl | (rw [hrt]; rfl), grown_trans HG1.out hg5⟩
  · have hb : (!(s0.toList == (ByteArray.mk #[]).toList && l0 == 0)) = true := by
      rw [Bool.not_eq_true', Bool.eq_false_iff]
      intro h
      rw [Bool.and_eq_true] at h
      exact hmk ⟨(toList_empty s0).1 (by simpa using h.1), by simpa using h.2⟩
    rw [hb] at hq
    have hrf : r = false := Bool.eq_false_iff.2 fun hh => by
      obtain ⟨rest', he, _⟩ := HRR.out.1 hh
      simp at he
      exact hmk he.1
    clear hb hmk
    go_enter Try.func70, Try.ntmps70
    go_wp2_with fail
    go_ret
    exact ⟨by first | rfl | (rw [hrf]; rfl), World.grownBy_alloc _ _ none⟩

theorem termsHold_any (ta na la pa : Option Addr) (nn ln pn tc nc lc pc : Nat) (st : Int) (ts : List (ByteArray × Int)) (w : World) (hT : TermsAt w ta ts) (hn : ts.length ≤ 65) (hc : ts.length ≤ tc) (r : Bool) (hr : r = true ↔ termsOK ts ln) :
    Calls Try.prog 70 #[.agg #[.slice ta ts.length tc, .slice na nn nc, .slice la ln lc, .int .i64 st, .slice pa pn pc]] w fun e w' => e = .returned (.bool r) ∧ w.grownBy w' none := by
  cases hts : ts with
  | nil =>
    have : r = false := Bool.eq_false_iff.2 fun h => by
      obtain ⟨rest, he, _⟩ := hr.1 h
      rw [hts] at he; cases he
    rw [this]
    exact termsHold_none ta na la pa nn ln pn tc nc lc pc st w
  | cons t rest =>
    rw [← hts]
    have hT' := hT
    rcases hT with h | ⟨b, off, rfl, _⟩
    · rw [hts] at h; cases h
    · have hpos : 0 < ts.length := by rw [hts]; simp
      by_cases h1 : tc = 1
      · have hl1 : ts.length = 1 := by omega
        obtain ⟨t', rfl⟩ : ∃ t', ts = [t'] := by
          match ts, hl1 with
          | [t'], _ => exact ⟨t', rfl⟩
        rw [h1]
        exact termsHold_one b off na la pa nn ln pn nc lc pc st t' w hT' r hr
      · exact termsHold_some b off na la pa nn ln pn tc nc lc pc st ts w hT' hpos hn hc h1 r hr

end Go.Proofs.Ytkhmhcinepfemaa

/-
  inOrder, Valid: is a grammar plain?
-/
namespace Go.Proofs.Ytkhmhcinepfemaa
open Go.RowKit Go.Maps Go.Shelf

attribute [local go_sem] Oper.semAt_some

/-- A grammar, wherever it lies. -/
structure GAt (w : World) (ta na la pa : Option Addr) (tc nc lc pc : Nat) (ts : List (ByteArray × Int)) (ns : List ByteArray) (lv : List Int) (n : Nat) (L : Nat → Int) (R : Nat → List Int) (ra : Nat → Option Addr) (rc : Nat → Nat) (V : Nat → Int) : Prop where
  terms : TermsAt w ta ts
  nons : StrsAt w na ns
  levels : IntsAt w la lv
  prods : ProdsAt w pa n L R ra rc V
  tcap : ts.length ≤ tc
  ncap : ns.length ≤ nc
  pcap : n ≤ pc
  nnil : na = none → ns.length = 0 ∧ nc = 0
  pnil : pa = none → n = 0 ∧ pc = 0
  tlen : ts.length ≤ 17592186044416
  nlen : ns.length ≤ 17592186044416
  llen : lv.length ≤ 17592186044416
  plen : n ≤ 17592186044416

theorem GAt.kept {w w' : World} {ta na la pa : Option Addr} {tc nc lc pc : Nat} {ts : List (ByteArray × Int)} {ns : List ByteArray} {lv : List Int} {n : Nat} {L : Nat → Int} {R : Nat → List Int} {ra : Nat → Option Addr} {rc : Nat → Nat} {V : Nat → Int} (h : GAt w ta na la pa tc nc lc pc ts ns lv n L R ra rc V) (hg : w.grownBy w' none) : GAt w' ta na la pa tc nc lc pc ts ns lv n L R ra rc V := by
  refine ⟨h.terms.kept hg, h.nons.kept hg, h.levels.kept hg, ?_, h.tcap, h.ncap, h.pcap, h.nnil, h.pnil, h.tlen, h.nlen, h.llen, h.plen⟩
  rcases h.prods with h0 | ⟨b, off, ha, hc⟩
  · exact .inl h0
  · exact .inr ⟨b, off, ha, fun k hk => by
      obtain ⟨h1, h2, h3, h4, h5⟩ := hc k hk
      exact ⟨hg.cell h1 (by simp), hg.cell h2 (by simp), hg.cell h3 (by simp), h4.kept hg, h5⟩⟩

/-- All but the order. -/
structure holdsOK (ts : List (ByteArray × Int)) (ns : List ByteArray) (lv : List Int) (st : Int) (n : Nat) (L : Nat → Int) (R : Nat → List Int) (V : Nat → Int) : Prop where
  syms : (ts.length : Int) - 1 + ns.length ≤ 64
  cnt : n ≤ 96
  terms : termsOK ts lv.length
  nons : (∀ s ∈ ns, isNameB s = true) ∧ ns.Nodup
  levels : ∀ j, j < lv.length → levelOK ts lv j
  prods : ∀ i, i < n → prodOK ts.length ns.length lv.length 0 (L i) (R i) (V i)
  lefts : (leftsTo L n).length = ns.length
  start : isNonI ts.length ns.length 0 st

theorem boolOf (p : Prop) : ∃ r : Bool, r = true ↔ p := by
  by_cases h : p
  · exact ⟨true, by simp [h]⟩
  · exact ⟨false, by simp [h]⟩

set_option maxRecDepth 100000 in
set_option maxHeartbeats 1000000 in
theorem holds_zero (ta na la pa : Option Addr) (tc nc lc pc : Nat) (ts : List (ByteArray × Int)) (ns : List ByteArray) (lv : List Int) (n : Nat) (L : Nat → Int) (R : Nat → List Int) (ra : Nat → Option Addr) (rc : Nat → Nat) (V : Nat → Int) (st : Int) (w : World) (hG : GAt w ta na la pa tc nc lc pc ts ns lv n L R ra rc V) (r : Bool) (hr : r = true ↔ holdsOK ts ns lv st n L R V) :
    Calls Try.prog 60 #[.agg #[.slice ta ts.length tc, .slice na ns.length nc, .slice la lv.length lc, .int .i64 st, .slice pa n pc], .int .i64 0] w fun e w' => e = .returned (.bool r) ∧ w.grownBy w' none := by
  have htl := hG.tlen
  have hnl := hG.nlen
  have hpl := hG.plen
  have hnc := hG.ncap
  have hpc := hG.pcap
  have HG : Hid (GAt w ta na la pa tc nc lc pc ts ns lv n L R ra rc V) := hG
  have HRR : Hid (r = true ↔ holdsOK ts ns lv st n L R V) := hr
  have HRF : Hid (¬ holdsOK ts ns lv st n L R V → r = false) := fun hno => Bool.eq_false_iff.2 fun hh => hno (hr.1 hh)
  have HX0 : Hid (∀ q, PhAt w ((w.alloc (.cells #[.slice ta ts.length tc, .slice na ns.length nc, .slice la lv.length lc, .int .i64 st, .slice pa n pc] 27)).drewN q) w.heap.size #[.slice ta ts.length tc, .slice na ns.length nc, .slice la lv.length lc, .int .i64 st, .slice pa n pc]) := fun q => (PhAt.mk (World.grownBy_alloc _ _ none) (heap_alloc_last w _)).kept (grown_drewN _ q)
  have hsn : ∀ W, (Instr.slice 23 (.slice na ns.length nc) (some (.int .i64 0)) none none).run Try.prog W = .ok (.slice na ns.length nc) W := fun W => by
    cases na with
    | none => obtain ⟨h1, h2⟩ := hG.nnil rfl; rw [h1, h2]; kernel_rfl
    | some x => go_simp
  have hsp : ∀ W, (Instr.slice 25 (.slice pa n pc) (some (.int .i64 0)) none none).run Try.prog W = .ok (.slice pa n pc) W := fun W => by
    cases pa with
    | none => obtain ⟨h1, h2⟩ := hG.pnil rfl; rw [h1, h2]; kernel_rfl
    | some x => go_simp
  obtain ⟨tn, htn⟩ : ∃ tn, tn = ts.length := ⟨_, rfl⟩
  obtain ⟨nn, hnn⟩ : ∃ nn, nn = ns.length := ⟨_, rfl⟩
  obtain ⟨ln, hln⟩ : ∃ ln, ln = lv.length := ⟨_, rfl⟩
  have HTN : Hid (ts.length = tn ∧ ns.length = nn ∧ lv.length = ln) := ⟨htn.symm, hnn.symm, hln.symm⟩
  rw [← htn] at htl HX0 ⊢
  rw [← hnn] at hnl hnc hsn HX0 ⊢
  rw [← hln] at HX0 ⊢
  clear hG hr htn hnn hln
  go_enter Try.func60, Try.ntmps60
  go_wp2_with fail
  go_quiet (fail)
  have HX := HX0.out nq
  generalize (w.alloc (.cells #[.slice ta tn tc, .slice na nn nc, .slice la ln lc, .int .i64 st, .slice pa n pc] 27)).drewN nq = W at *
  have HXH : Hid (PhAt w W w.heap.size #[.slice ta tn tc, .slice na nn nc, .slice la ln lc, .int .i64 st, .slice pa n pc]) := HX
  obtain ⟨m0, m1, m2, m3, m4⟩ := HX.cells
  clear HX HX0 hsn hsp
  by_cases hlim : 64 < (tn : Int) - 1 + nn
  · have hd : decide (64 < (tn : Int) - 1 + nn) = true := decide_eq_true hlim
    have hf : r = false := HRF.out fun h => by have h1 := h.syms; rw [HTN.out.1, HTN.out.2.1] at h1; omega
    go_wp2_with fail
    go_ret
    exact ⟨by first | rfl | (rw [hf]; rfl), HXH.out.grown⟩
  · have hd : decide (64 < (tn : Int) - 1 + nn) = false := decide_eq_false hlim
    by_cases hlp : 96 < n
    · have hd2 : decide (96 < (n : Int)) = true := decide_eq_true (by omega)
      have hf : r = false := HRF.out fun h => by have h1 := h.cnt; omega
      go_wp2_with fail
      go_ret
      exact ⟨by first | rfl | (rw [hf]; rfl), HXH.out.grown⟩
    · have hd2 : decide (96 < (n : Int)) = false := decide_eq_false (by omega)
      have hnn65 : nn ≤ 65 := by omega
      have htn65 : tn ≤ 65 := by omega
      have hn96 : n ≤ 96 := by omega
      obtain ⟨rT, hrT⟩ := boolOf (termsOK ts ln)
      have HTT : Hid (Calls Try.prog 70 #[.agg #[.slice ta tn tc, .slice na nn nc, .slice la ln lc, .int .i64 st, .slice pa n pc]] W fun e w' => e = .returned (.bool rT) ∧ W.grownBy w' none) := by
        have := termsHold_any ta na la pa nn ln n tc nc lc pc st ts W (HG.out.kept HXH.out.grown).terms (by rw [HTN.out.1]; exact htn65) HG.out.tcap rT hrT
        rwa [HTN.out.1] at this
      have HRT : Hid (rT = true ↔ termsOK ts ln) := hrT
      have HLM : Hid (¬ 64 < (tn : Int) - 1 + nn) := hlim
      clear hrT hlim hlp
      cases rT with
      | false =>
        have hf : r = false := HRF.out fun h => by have h1 := h.terms; rw [HTN.out.2.2] at h1; have := HRT.out.2 h1; cases this
        go_wp2_with fail
        refine HTT.out.mono ?_
        rintro e w2 ⟨rfl, hg2⟩
        have HG2 : Hid (w.grownBy w2 none) := grown_trans HXH.out.grown hg2
        clear hg2 m0 m1 m2 m3 m4
        go_wp2_with fail
        go_ret
        exact ⟨by first | rfl | (rw [hf]; rfl), HG2.out⟩
      | true =>
        go_wp2_with fail
        refine HTT.out.mono ?_
        rintro e w2 ⟨rfl, hg2⟩
        have HX2 : Hid (PhAt w w2 w.heap.size #[.slice ta tn tc, .slice na nn nc, .slice la ln lc, .int .i64 st, .slice pa n pc]) := HXH.out.kept hg2
        clear hg2 m0 m1 m2 m3 m4 HTT HXH
        have HNH : Hid (Calls Try.prog 71 #[.slice na nn nc] w2 fun e w' => ∃ r, e = .returned (.bool r) ∧ (r = true ↔ (∀ s ∈ ns, isNameB s = true) ∧ ns.Nodup) ∧ w2.grownBy w' none) := by
          have := nonsHold_any na nc ns w2 (HG.out.kept HX2.out.grown).nons (by rw [HTN.out.2.1]; exact hnn65)
          rwa [HTN.out.2.1] at this
        go_wp2_with fail
        refine HNH.out.mono ?_
        rintro e w3 ⟨rN, rfl, hrN, hg3⟩
        have HRN : Hid (rN = true ↔ (∀ s ∈ ns, isNameB s = true) ∧ ns.Nodup) := hrN
        have HX3 : Hid (PhAt w w3 w.heap.size #[.slice ta tn tc, .slice na nn nc, .slice la ln lc, .int .i64 st, .slice pa n pc]) := HX2.out.kept hg3
        clear hrN hg3 HNH HX2
        cases rN with
        | false =>
          have hf : r = false := HRF.out fun h => by have := HRN.out.2 h.nons; cases this
          have HGE : Hid (w.grownBy w3 none) := HX3.out.grown
          clear HX3
          go_wp2_with fail
          go_ret
          exact ⟨by first | rfl | (rw [hf]; rfl), HGE.out⟩
        | true =>
          obtain ⟨rL, hrL⟩ := boolOf (∀ j, j < lv.length → levelOK ts lv j)
          have HLH : Hid (Calls Try.prog 72 #[.agg #[.slice ta tn tc, .slice na nn nc, .slice la ln lc, .int .i64 st, .slice pa n pc]] w3 fun e w' => e = .returned (.bool rL) ∧ w3.grownBy w' none) := by
            have := levelsHold_any ta na la pa nn n tc nc lc pc st ts lv w3 (HG.out.kept HX3.out.grown).terms (HG.out.kept HX3.out.grown).levels (by rw [HTN.out.1]; exact htn65) HG.out.llen rL hrL
            rwa [HTN.out.1, HTN.out.2.2] at this
          have HRL : Hid (rL = true ↔ ∀ j, j < lv.length → levelOK ts lv j) := hrL
          clear hrL
          obtain ⟨m0, m1, m2, m3, m4⟩ := HX3.out.cells
          go_wp2_with fail
          refine HLH.out.mono ?_
          rintro e w4 ⟨rfl, hg4⟩
          have HX4 : Hid (PhAt w w4 w.heap.size #[.slice ta tn tc, .slice na nn nc, .slice la ln lc, .int .i64 st, .slice pa n pc]) := HX3.out.kept hg4
          clear hg4 HLH HX3 m0 m1 m2 m3 m4
          cases rL with
          | false =>
            have hf : r = false := HRF.out fun h => by have := HRL.out.2 h.levels; cases this
            have HGE : Hid (w.grownBy w4 none) := HX4.out.grown
            clear HX4
            go_wp2_with fail
            go_ret
            exact ⟨by first | rfl | (rw [hf]; rfl), HGE.out⟩
          | true =>
            obtain ⟨rP, hrP⟩ := boolOf (∀ i, i < n → prodOK tn nn ln 0 (L i) (R i) (V i))
            have HPH : Hid (Calls Try.prog 73 #[.agg #[.slice ta tn tc, .slice na nn nc, .slice la ln lc, .int .i64 st, .slice pa n pc], .slice pa n pc, .int .i64 0] w4 fun e w' => e = .returned (.bool rP) ∧ w4.grownBy w' none) :=
              prodsHold_any ta na la pa pa tn nn ln n tc nc lc pc n pc 0 st L R ra rc V w4 (HG.out.kept HX4.out.grown).prods (by omega) (by omega) (by omega) (by omega) rP hrP
            have HRP : Hid (rP = true ↔ ∀ i, i < n → prodOK tn nn ln 0 (L i) (R i) (V i)) := hrP
            clear hrP
            obtain ⟨m0, m1, m2, m3, m4⟩ := HX4.out.cells
            go_wp2_with fail
            refine HPH.out.mono ?_
            rintro e w5 ⟨rfl, hg5⟩
            have HX5 : Hid (PhAt w w5 w.heap.size #[.slice ta tn tc, .slice na nn nc, .slice la ln lc, .int .i64 st, .slice pa n pc]) := HX4.out.kept hg5
            clear hg5 HPH HX4 m0 m1 m2 m3 m4
            cases rP with
            | false =>
              have hf : r = false := HRF.out fun h => by have h1 := h.prods; rw [HTN.out.1, HTN.out.2.1, HTN.out.2.2] at h1; have := HRP.out.2 h1; cases this
              have HGE : Hid (w.grownBy w5 none) := HX5.out.grown
              clear HX5
              go_wp2_with fail
              go_ret
              exact ⟨by first | rfl | (rw [hf]; rfl), HGE.out⟩
            | true =>
              have HLF : Hid (Calls Try.prog 74 #[.slice pa n pc] w5 fun e w' => ∃ a' c', e = .returned (.slice a' (leftsTo L n).length c') ∧ w'.ownsRow w5.heap.size 3 1 (.slice a' (leftsTo L n).length c') (leftsTo L n).length ((leftsTo L n).map (Value.int .i64)) ∧ w5.grownBy w' none) := lefts_any pa n pc L R ra rc V w5 (HG.out.kept HX5.out.grown).prods (by omega)
              have hML := leftsTo_le L n
              obtain ⟨M, hM⟩ : ∃ M, M = (leftsTo L n).length := ⟨_, rfl⟩
              have HMM : Hid ((leftsTo L n).length = M) := hM.symm
              rw [← hM] at hML HLF
              clear hM
              go_wp2_with fail
              refine HLF.out.mono ?_
              rintro e w6 ⟨a', c', rfl, _, hg6⟩
              have HX6 : Hid (PhAt w w6 w.heap.size #[.slice ta tn tc, .slice na nn nc, .slice la ln lc, .int .i64 st, .slice pa n pc]) := HX5.out.kept hg6
              clear hg6 HLF HX5
              obtain ⟨m0, m1, m2, m3, m4⟩ := HX6.out.cells
              by_cases hMn : M = nn
              · have hb : ((M : Int) == (nn : Int)) = true := beq_iff_eq.2 (by omega)
                have HMN : Hid (M = nn) := hMn
                have HIN := isNonOf_any ta na la pa tn nn ln n tc nc lc pc 0 st st w6 (by omega) (by omega) (by omega)
                have HFIN : Hid ((decide ((tn : Int) + (0 : Nat) ≤ st) && decide (st < (tn : Int) + nn)) = r) := by
                  show (decide ((tn : Int) + (0 : Nat) ≤ st) && decide (st < (tn : Int) + nn)) = r
                  rw [Bool.eq_iff_iff, HRR.out, Bool.and_eq_true, decide_eq_true_eq, decide_eq_true_eq]
                  obtain ⟨t1, t2, t3⟩ := HTN.out
                  constructor
                  · intro hs
                    exact ⟨by rw [t1, t2]; have := HLM.out; omega, hn96, by rw [t3]; exact HRT.out.1 (by first | rfl | trivial), HRN.out.1 (by first | rfl | trivial), HRL.out.1 (by first | rfl | trivial), by rw [t1, t2, t3]; exact HRP.out.1 (by first | rfl | trivial), by rw [HMM.out, t2]; exact HMN.out, by rw [t1, t2]; exact hs⟩
                  · intro h
                    have h1 := h.start
                    rw [t1, t2] at h1
                    exact h1
                clear hMn
                go_wp2_with fail
                refine HIN.mono ?_
                rintro e w7 ⟨rfl, hg7⟩
                rw [HFIN.out]
                have HGE : Hid (w.grownBy w7 none) := grown_trans HX6.out.grown hg7
                clear hg7 HIN m0 m1 m2 m3 m4
                go_wp2_with fail
                go_ret
                exact ⟨rfl, HGE.out⟩
              · have hb : ((M : Int) == (nn : Int)) = false := beq_eq_false_iff_ne.2 (by omega)
                have hf : r = false := HRF.out fun h => by have h1 := h.lefts; rw [HMM.out, HTN.out.2.1] at h1; exact hMn h1
                have HGE : Hid (w.grownBy w6 none) := HX6.out.grown
                clear hMn HX6
                go_wp2_with fail
                go_ret
                exact ⟨by first | rfl | (rw [hf]; rfl), HGE.out⟩

end Go.Proofs.Ytkhmhcinepfemaa

namespace Go.Proofs.Ytkhmhcinepfemaa
open Go.RowKit Go.Maps Go.Shelf

attribute [local go_sem] Oper.semAt_some

theorem inOrder_any (ta na la pa : Option Addr) (tn nn ln tc nc lc pc n : Nat) (st : Int) (L : Nat → Int) (R : Nat → List Int) (ra : Nat → Option Addr) (rc : Nat → Nat) (V : Nat → Int) (w : World) (hP : ∀ W, w.grownBy W none → ProdsAt W pa n L R ra rc V) (hn : n ≤ 96) (r : Bool) (hr : r = true ↔ Asc (leftsTo L n)) :
    Calls Try.prog 61 #[.agg #[.slice ta tn tc, .slice na nn nc, .slice la ln lc, .int .i64 st, .slice pa n pc]] w fun e w' => e = .returned (.bool r) ∧ w.grownBy w' none := by
  have HLF : Hid (∀ o, Calls Try.prog 74 #[.slice pa n pc] (w.alloc o) fun e w' => ∃ a' c', e = .returned (.slice a' (leftsTo L n).length c') ∧ w'.ownsRow (w.alloc o).heap.size 3 1 (.slice a' (leftsTo L n).length c') (leftsTo L n).length ((leftsTo L n).map (Value.int .i64)) ∧ (w.alloc o).grownBy w' none) := fun o => lefts_any pa n pc L R ra rc V _ (hP _ (World.grownBy_alloc _ _ none)) (by omega)
  have HIS : Hid (∀ W a c B, W.ownsRow B 3 1 (.slice a (leftsTo L n).length c) (leftsTo L n).length ((leftsTo L n).map (Value.int .i64)) → Calls Try.prog 76 #[.slice a (leftsTo L n).length c] W fun e w' => e = .returned (.bool r) ∧ W.grownBy w' none) := fun W a c B ho => isSorted_any a c (leftsTo L n) W (owns_intsAt ho rfl) (by have := leftsTo_le L n; omega) r hr
  clear hP hr
  generalize (leftsTo L n).map (Value.int .i64) = xs at *
  generalize (leftsTo L n).length = M at *
  go_enter Try.func61, Try.ntmps61
  go_wp2_with fail
  refine (HLF.out _).mono ?_
  rintro e w2 ⟨a', c', rfl, ho, hg2⟩
  have his := HIS.out w2 a' c' _ ho
  have HG2 : Hid (w.grownBy w2 none) := grown_trans (World.grownBy_alloc _ _ none) hg2
  clear ho hg2 HIS HLF
  go_wp2_with fail
  refine his.mono ?_
  rintro e w3 ⟨rfl, hg3⟩
  go_wp2_with fail
  go_ret
  exact ⟨rfl, grown_trans HG2.out hg3⟩

def validOK (ts : List (ByteArray × Int)) (ns : List ByteArray) (lv : List Int) (st : Int) (n : Nat) (L : Nat → Int) (R : Nat → List Int) (V : Nat → Int) : Prop := holdsOK ts ns lv st n L R V ∧ Asc (leftsTo L n)

set_option maxRecDepth 100000 in
theorem valid_any (ta na la pa : Option Addr) (tc nc lc pc : Nat) (ts : List (ByteArray × Int)) (ns : List ByteArray) (lv : List Int) (n : Nat) (L : Nat → Int) (R : Nat → List Int) (ra : Nat → Option Addr) (rc : Nat → Nat) (V : Nat → Int) (st : Int) (w : World) (hG : GAt w ta na la pa tc nc lc pc ts ns lv n L R ra rc V) (r : Bool) (hr : r = true ↔ validOK ts ns lv st n L R V) :
    Calls Try.prog 44 #[.agg #[.slice ta ts.length tc, .slice na ns.length nc, .slice la lv.length lc, .int .i64 st, .slice pa n pc]] w fun e w' => e = .returned (.bool r) ∧ w.grownBy w' none := by
  have HG : Hid (GAt w ta na la pa tc nc lc pc ts ns lv n L R ra rc V) := hG
  have HRR : Hid (r = true ↔ validOK ts ns lv st n L R V) := hr
  obtain ⟨rH, hrH⟩ := boolOf (holdsOK ts ns lv st n L R V)
  have HRH : Hid (rH = true ↔ holdsOK ts ns lv st n L R V) := hrH
  have HH : Hid (∀ W, w.grownBy W none → Calls Try.prog 60 #[.agg #[.slice ta ts.length tc, .slice na ns.length nc, .slice la lv.length lc, .int .i64 st, .slice pa n pc], .int .i64 0] W fun e w' => e = .returned (.bool rH) ∧ W.grownBy w' none) := fun W hW => holds_zero ta na la pa tc nc lc pc ts ns lv n L R ra rc V st W (hG.kept hW) rH hrH
  have HO : Hid (n ≤ 96 → ∀ W r', w.grownBy W none → (r' = true ↔ Asc (leftsTo L n)) → Calls Try.prog 61 #[.agg #[.slice ta ts.length tc, .slice na ns.length nc, .slice la lv.length lc, .int .i64 st, .slice pa n pc]] W fun e w' => e = .returned (.bool r') ∧ W.grownBy w' none) := fun h W r' hW hr' => inOrder_any ta na la pa ts.length ns.length lv.length tc nc lc pc n st L R ra rc V W (fun X hX => (hG.kept (grown_trans hW hX)).prods) h r' hr'
  have HX0 : Hid (PhAt w (w.alloc (.cells #[.slice ta ts.length tc, .slice na ns.length nc, .slice la lv.length lc, .int .i64 st, .slice pa n pc] 27)) w.heap.size #[.slice ta ts.length tc, .slice na ns.length nc, .slice la lv.length lc, .int .i64 st, .slice pa n pc]) := ⟨World.grownBy_alloc _ _ none, heap_alloc_last w _⟩
  clear hG hr hrH
  generalize ts.length = tn at *
  generalize ns.length = nn at *
  generalize lv.length = ln at *
  cases rH with
  | false =>
    have hf : r = false := Bool.eq_false_iff.2 fun hh => by have := HRH.out.2 (HRR.out.1 hh).1; cases this
    go_enter Try.func44, Try.ntmps44
    go_wp2_with fail
    refine (HH.out _ HX0.out.grown).mono ?_
    rintro e w2 ⟨rfl, hg2⟩
    have HG2 : Hid (w.grownBy w2 none) := grown_trans HX0.out.grown hg2
    clear hg2 HX0
    go_wp2_with fail
    go_ret
    exact ⟨by first | rfl | (rw [hf]; rfl), HG2.out⟩
  | true =>
    have HOK := HRH.out.1 rfl
    have HCN : Hid (n ≤ 96) := HOK.cnt
    have HRA : Hid (r = true ↔ Asc (leftsTo L n)) := by
      constructor
      · intro h; exact (HRR.out.1 h).2
      · intro h; exact HRR.out.2 ⟨HOK, h⟩
    clear HOK HRR HRH
    go_enter Try.func44, Try.ntmps44
    go_wp2_with fail
    refine (HH.out _ HX0.out.grown).mono ?_
    rintro e w2 ⟨rfl, hg2⟩
    have HX2 : Hid (PhAt w w2 w.heap.size #[.slice ta tn tc, .slice na nn nc, .slice la ln lc, .int .i64 st, .slice pa n pc]) := HX0.out.kept hg2
    obtain ⟨m0, m1, m2, m3, m4⟩ := HX2.out.cells
    have ho := HO.out HCN.out w2 r HX2.out.grown HRA.out
    clear hg2 HX0 HO HH
    go_wp2_with fail
    refine ho.mono ?_
    rintro e w3 ⟨rfl, hg3⟩
    go_wp2_with fail
    go_ret
    exact ⟨rfl, grown_trans HX2.out.grown hg3⟩

end Go.Proofs.Ytkhmhcinepfemaa
