import Derived.Test.YtkhmhcinepfemaaQmenllipglmbg

/-
  show's writer: the rules.
-/
namespace Go.Proofs.Ytkhmhcinepfemaa
open Go.RowKit Go.Maps Go.Shelf

/-- The first n productions' lines; that of the added nonterminal has none. -/
def rulesT (ts : List (ByteArray × Int)) (ns : List ByteArray) (L : Nat → Int) (R : Nat → List Int) (V : Nat → Int) : Nat → List UInt8
  | 0 => []
  | k + 1 => rulesT ts ns L R V k ++ (if ns.getD ((L k).toNat - ts.length) ByteArray.empty = ⟨#[]⟩ then [] else ruleT ts ns (L k) (R k) (V k))
def roomT (ts : List (ByteArray × Int)) (ns : List ByteArray) (L : Nat → Int) (R : Nat → List Int) (V : Nat → Int) : Nat → Nat
  | 0 => 0
  | k + 1 => roomT ts ns L R V k + (8 + (symT ts ns (L k).toNat).length + (symsT ts ns true (R k)).length + (gradeT ts ns (V k)).length)
theorem ruleT_le (ts : List (ByteArray × Int)) (ns : List ByteArray) (z : Int) (l : List Int) (lev : Int) : (ruleT ts ns z l lev).length ≤ 8 + (symT ts ns z.toNat).length + (symsT ts ns true l).length + (gradeT ts ns lev).length := by
  simp only [ruleT, List.length_append]
  split <;> simp <;> omega
theorem rulesT_le (ts : List (ByteArray × Int)) (ns : List ByteArray) (L : Nat → Int) (R : Nat → List Int) (V : Nat → Int) : ∀ k, (rulesT ts ns L R V k).length ≤ roomT ts ns L R V k
  | 0 => by simp [rulesT]
  | k + 1 => by
    have h1 := rulesT_le ts ns L R V k
    have h2 := ruleT_le ts ns (L k) (R k) (V k)
    simp only [rulesT, roomT, List.length_append]
    split
    · simp; omega
    · omega
theorem roomT_mono (ts : List (ByteArray × Int)) (ns : List ByteArray) (L : Nat → Int) (R : Nat → List Int) (V : Nat → Int) {k n : Nat} (h : k ≤ n) : roomT ts ns L R V k ≤ roomT ts ns L R V n := by
  induction n with
  | zero => have : k = 0 := by omega
            subst this; exact Nat.le_refl _
  | succ n ih =>
    by_cases e : k = n + 1
    · subst e; exact Nat.le_refl _
    · have := ih (by omega)
      simp only [roomT]
      omega

set_option maxHeartbeats 2000000 in
set_option maxRecDepth 100000 in
theorem rules_at {W0 w : World} {b : Nat} {ta na la pa : Option Addr} {tn nn ln n tc nc lc pc : Nat} {st : Int} {bs : List UInt8} {ts : List (ByteArray × Int)} {ns : List ByteArray} {L : Nat → Int} {R : Nat → List Int} {ra : Nat → Option Addr} {rc : Nat → Nat} {V : Nat → Int} (h : WrAt W0 w b (gvOf ta na la pa tn nn ln n tc nc lc pc st) bs false) (hT : TermsAt W0 ta ts) (hN : StrsAt W0 na ns) (hP : ProdsAt W0 pa n L R ra rc V) (htn : ts.length = tn) (hnn : ns.length = nn) (hn : nn ≤ 17592186044416) (ht : tn ≤ 1048576) (hnp : n ≤ 17592186044416)
    (hleft : ∀ i, i < n → (tn : Int) ≤ L i ∧ L i < (tn : Int) + nn) (hsym : ∀ i, i < n → ∀ z ∈ R i, 0 ≤ z ∧ z < (tn : Int) + nn) (hlev : ∀ i, i < n → V i ≠ 0 → 0 < (ofLev ts (V i) (upTo (tn - 1))).length) (hl : bs.length + roomT ts ns L R V n ≤ 140737488355328) :
    Calls Try.prog 28 #[.pointer (some ⟨b, 0, none⟩)] w fun e w' => e = .returned (.tuple #[]) ∧ WrAt W0 w' b (gvOf ta na la pa tn nn ln n tc nc lc pc st) (bs ++ rulesT ts ns L R V n) false ∧ Lib.OthersKept 5 (some b) w w' := by
  have H : Hid (WrAt W0 w b (gvOf ta na la pa tn nn ln n tc nc lc pc st) bs false) := h
  obtain ⟨_, _, _, _, c6, hg0⟩ := h.cells
  have HP : Hid (ProdsAt W0 pa n L R ra rc V) := hP
  have HLF : Hid (∀ i, i < n → (tn : Int) ≤ L i ∧ L i < (tn : Int) + nn) := hleft
  have HL : Hid (bs.length + roomT ts ns L R V n ≤ 140737488355328) := hl
  have HTN : Hid (ts.length = tn) := htn
  have HCA : Hid (∀ X bs' inl' (j : Nat) (i : Int), WrAt W0 X b (gvOf ta na la pa tn nn ln n tc nc lc pc st) bs' inl' → j < nn → i = (tn : Int) + j → Calls Try.prog 50 #[.pointer (some ⟨b, 0, none⟩), .int .i64 i] X fun e w' => e = .returned (.bool (decide (ns.getD j ByteArray.empty = ⟨#[]⟩))) ∧ X.grownBy w' none) := fun X bs' inl' j i hX hj hi => wisAdded_at hX hN hnn j hj hn i hi
  have HCR : Hid (∀ X bs' (k i : Nat), i < n → L i = (k : Int) → WrAt W0 X b (gvOf ta na la pa tn nn ln n tc nc lc pc st) bs' false → IntsAt W0 (ra i) (R i) → (R i).length ≤ 17592186044416 → bs'.length + 8 + (symT ts ns k).length + (symsT ts ns true (R i)).length + (gradeT ts ns (V i)).length ≤ 140737488355328 → Calls Try.prog 51 #[.pointer (some ⟨b, 0, none⟩), .agg #[.int .i64 k, .slice (ra i) (R i).length (rc i), .int .i64 (V i)]] X fun e w' => e = .returned (.tuple #[]) ∧ WrAt W0 w' b (gvOf ta na la pa tn nn ln n tc nc lc pc st) (bs' ++ ruleT ts ns k (R i) (V i)) false ∧ Lib.OthersKept 5 (some b) X w') := fun X bs' k i hi hk hX hI hR hb => rule_at hX hT hN htn hnn hn ht k (by have := hleft i hi; omega) (ra i) (R i).length (rc i) (R i) rfl hI (hsym i hi) hR (V i) (hlev i hi) hb
  clear h hT hN hP htn hnn hleft hsym hlev hl hg0
  go_enter Try.func28, Try.ntmps28
  go_wp2_with fail
  go_loopg [3, 10] n (fun gk v3 i wr => ∃ k : Nat, k ≤ n ∧ gk = n - k ∧ i = .int .i64 k ∧ WrAt W0 wr b (gvOf ta na la pa tn nn ln n tc nc lc pc st) (bs ++ rulesT ts ns L R V k) false ∧ Lib.OthersKept 5 (some b) w wr)
  case atStart => exact ⟨0, Nat.zero_le _, rfl, rfl, by simpa [rulesT] using H.out, Lib.OthersKept.refl _ _ _⟩
  case round =>
    obtain ⟨k, hk, hgk, rfl, hW, hK⟩ := hrel
    have HW : Hid (WrAt W0 wr b (gvOf ta na la pa tn nn ln n tc nc lc pc st) (bs ++ rulesT ts ns L R V k) false) := hW
    have HK : Hid (Lib.OthersKept 5 (some b) w wr) := hK
    have HGK : Hid (gk = n - k) := hgk
    have hgr := hW.cells.2.2.2.2.2
    clear hW hK hgk H c6
    by_cases hlt : k < n
    · obtain ⟨bp, op, rfl, hps⟩ : ∃ b off, pa = some ⟨b, off, none⟩ ∧ ∀ k, k < n → W0.cell? ⟨b, off + k * 3, none⟩ = some (.int .i64 (L k)) ∧ W0.cell? ⟨b, off + k * 3 + 1, none⟩ = some (.slice (ra k) (R k).length (rc k)) ∧ W0.cell? ⟨b, off + k * 3 + 2, none⟩ = some (.int .i64 (V k)) ∧ IntsAt W0 (ra k) (R k) ∧ (ra k = none → rc k = 0) ∧ (R k).length ≤ 17592186044416 := by
        rcases HP.out with h | h
        · omega
        · exact h
      obtain ⟨p0, p1, p2, hI, _, hRl⟩ := hps k hlt
      have d0 := hgr.cell p0 (by simp)
      have d1 := hgr.cell p1 (by simp)
      have d2 := hgr.cell p2 (by simp)
      have hlf := HLF.out k hlt
      obtain ⟨z, hz⟩ : ∃ z : Nat, L k = (z : Int) := ⟨(L k).toNat, by omega⟩
      obtain ⟨len, hlen⟩ : ∃ x, x = (R k).length := ⟨_, rfl⟩
      obtain ⟨lv, hlv⟩ : ∃ x, x = V k := ⟨_, rfl⟩
      rw [hz] at d0
      rw [← hlen] at d1
      rw [← hlv] at d2
      obtain ⟨s, hs⟩ : ∃ s, s = ns.getD (z - tn) ByteArray.empty := ⟨_, rfl⟩
      have HA : Hid (∀ X bs' inl', WrAt W0 X b (gvOf ta na la (some ⟨bp, op, none⟩) tn nn ln n tc nc lc pc st) bs' inl' → Calls Try.prog 50 #[.pointer (some ⟨b, 0, none⟩), .int .i64 z] X fun e w' => e = .returned (.bool (decide (s = ⟨#[]⟩))) ∧ X.grownBy w' none) := fun X bs' inl' hX => by
        rw [hs]
        exact HCA.out X bs' inl' (z - tn) z hX (by omega) (by omega)
      have HT2 : Hid (rulesT ts ns L R V (k + 1) = rulesT ts ns L R V k ++ (if s = ⟨#[]⟩ then [] else ruleT ts ns z (R k) lv)) := by
        show _ = _
        rw [rulesT, hz, hs, hlv, HTN.out]
        rfl
      have hroom : bs.length + (rulesT ts ns L R V k).length + 8 + (symT ts ns z).length + (symsT ts ns true (R k)).length + (gradeT ts ns lv).length ≤ 140737488355328 := by
        have h1 := rulesT_le ts ns L R V k
        have h2 := roomT_mono ts ns L R V (k := k + 1) (n := n) hlt
        have h3 := HL.out
        simp only [roomT] at h2
        rw [hz] at h2
        rw [hlv]
        simp at h2
        omega
      have HR : Hid (∀ X, WrAt W0 X b (gvOf ta na la (some ⟨bp, op, none⟩) tn nn ln n tc nc lc pc st) (bs ++ rulesT ts ns L R V k) false → Calls Try.prog 51 #[.pointer (some ⟨b, 0, none⟩), .agg #[.int .i64 z, .slice (ra k) len (rc k), .int .i64 lv]] X fun e w' => e = .returned (.tuple #[]) ∧ WrAt W0 w' b (gvOf ta na la (some ⟨bp, op, none⟩) tn nn ln n tc nc lc pc st) (bs ++ rulesT ts ns L R V k ++ ruleT ts ns z (R k) lv) false ∧ Lib.OthersKept 5 (some b) X w') := fun X hX => by
        rw [hlen, hlv]
        exact HCR.out X _ z k hlt hz hX hI hRl (by rw [← hlv]; simp only [List.length_append]; omega)
      have HWA : Hid (WrAt W0 (wr.alloc (.cells #[.int .i64 z, .slice (ra k) len (rc k), .int .i64 lv] 47)) b (gvOf ta na la (some ⟨bp, op, none⟩) tn nn ln n tc nc lc pc st) (bs ++ rulesT ts ns L R V k) false) := HW.out.kept (World.grownBy_alloc _ _ none)
      have HBX : Hid (∀ X, (wr.alloc (.cells #[.int .i64 z, .slice (ra k) len (rc k), .int .i64 lv] 47)).grownBy X none → X.cell? ⟨wr.heap.size, 0, none⟩ = some (.int .i64 z) ∧ X.cell? ⟨wr.heap.size, 1, none⟩ = some (.slice (ra k) len (rc k)) ∧ X.cell? ⟨wr.heap.size, 2, none⟩ = some (.int .i64 lv)) := fun X hX => by
        have hx := (hX.block wr.heap.size (by simp) (by simp)).trans (heap_alloc_last wr _)
        refine ⟨?_, ?_, ?_⟩ <;> rw [cell_of_row _ _ _ _ _ _ hx] <;> rfl
      clear hps p0 p1 p2 hI hRl hlf hz hlen hlv hs hgr HCA HCR HW
      by_cases hzz : s = ⟨#[]⟩
      · have HT3 : Hid (rulesT ts ns L R V (k + 1) = rulesT ts ns L R V k) := by
          show _ = _
          rw [HT2.out, if_pos hzz, List.append_nil]
        rw [decide_eq_true hzz] at HA
        go_wp2_with fail
        refine Calls.mono (HA.out _ _ _ HWA.out) ?_
        rintro e w1 ⟨rfl, hg1⟩
        have HW1 : Hid (WrAt W0 w1 b (gvOf ta na la (some ⟨bp, op, none⟩) tn nn ln n tc nc lc pc st) (bs ++ rulesT ts ns L R V (k + 1)) false) := by
          show WrAt _ _ _ _ _ _
          rw [HT3.out]
          exact HWA.out.kept hg1
        have HK1 : Hid (Lib.OthersKept 5 (some b) w w1) := (HK.out.alloc _).grown hg1 (fun g h => by cases h)
        clear hg1
        go_wp2_with fail
        go_roundg (n - (k + 1))
        case measure => have := HGK.out; omega
        case rel => exact ⟨k + 1, by omega, rfl, by go_num, HW1.out, HK1.out⟩
      · have HT3 : Hid (rulesT ts ns L R V (k + 1) = rulesT ts ns L R V k ++ ruleT ts ns z (R k) lv) := by
          show _ = _
          rw [HT2.out, if_neg hzz]
        rw [decide_eq_false hzz] at HA
        go_wp2_with fail
        refine Calls.mono (HA.out _ _ _ HWA.out) ?_
        rintro e w1 ⟨rfl, hg1⟩
        have HW1 : Hid (WrAt W0 w1 b (gvOf ta na la (some ⟨bp, op, none⟩) tn nn ln n tc nc lc pc st) (bs ++ rulesT ts ns L R V k) false) := HWA.out.kept hg1
        have HK1 : Hid (Lib.OthersKept 5 (some b) w w1) := (HK.out.alloc _).grown hg1 (fun g h => by cases h)
        obtain ⟨m0, m1, m2⟩ := HBX.out w1 hg1
        clear hg1
        go_wp2_with fail
        refine Calls.mono (HR.out w1 HW1.out) ?_
        rintro e w2 ⟨rfl, hW, hK⟩
        have HW2 : Hid (WrAt W0 w2 b (gvOf ta na la (some ⟨bp, op, none⟩) tn nn ln n tc nc lc pc st) (bs ++ rulesT ts ns L R V (k + 1)) false) := by
          show WrAt _ _ _ _ _ _
          rw [HT3.out, ← List.append_assoc]
          exact hW
        have HK2 : Hid (Lib.OthersKept 5 (some b) w w2) := HK1.out.trans hK
        clear hW hK m0 m1 m2
        go_wp2_with fail
        go_roundg (n - (k + 1))
        case measure => have := HGK.out; omega
        case rel => exact ⟨k + 1, by omega, rfl, by go_num, HW2.out, HK2.out⟩
    · obtain rfl : n = k := by omega
      clear hgr
      go_wp2_with fail
      go_end0
      exact ⟨rfl, HW.out, HK.out⟩

end Go.Proofs.Ytkhmhcinepfemaa

/-
  show's writer: the headers.
-/
namespace Go.Proofs.Ytkhmhcinepfemaa
open Go.RowKit Go.Maps Go.Shelf

theorem owns_others {w X : World} {b B n : Nat} {v : Value} {xs : List Value} (h : w.ownsRow B 3 1 v n xs) (hb : v.ownBlock = none ∨ v.ownBlock ≠ some b) (hk : Lib.OthersKept 5 (some b) w X) : X.ownsRow B 3 1 v n xs := by
  refine ⟨h.1, ?_⟩
  rcases h.2 with h' | ⟨g, cap, cur, hv, hB, hg, rest⟩
  · exact .inl h'
  · refine .inr ⟨g, cap, cur, hv, hB, hk g _ hg ?_ (by intro c fz; simp), rest⟩
    rw [hv] at hb
    rcases hb with hb | hb
    · simp [Value.ownBlock] at hb
    · exact hb

def orderS (side : Int) : ByteArray := if side = 1 then ⟨#[37, 108, 101, 102, 116]⟩ else if side = 2 then ⟨#[37, 114, 105, 103, 104, 116]⟩ else ⟨#[37, 110, 111, 110, 97, 115, 115, 111, 99]⟩

set_option maxRecDepth 100000 in
theorem orderOf_any (side : Int) (w : World) : Calls Try.prog 48 #[.int .i64 side] w fun e w' => e = .returned (.string (orderS side)) ∧ w' = w := by
  by_cases h1 : side = 1
  · subst h1
    go_enter Try.func48, Try.ntmps48
    go_wp2_with fail
    go_ret
    exact ⟨rfl, rfl⟩
  · by_cases h2 : side = 2
    · subst h2
      go_enter Try.func48, Try.ntmps48
      go_wp2_with fail
      go_ret
      exact ⟨rfl, rfl⟩
    · have HE : Hid (orderS side = ⟨#[37, 110, 111, 110, 97, 115, 115, 111, 99]⟩) := by
        show _ = _
        rw [orderS, if_neg h1, if_neg h2]
      go_enter Try.func48, Try.ntmps48
      go_wp2_with fail
      go_ret
      exact ⟨by rw [HE.out]; rfl, rfl⟩

/-- A header's line. -/
def headT (ts : List (ByteArray × Int)) (ns : List ByteArray) (s : ByteArray) (l : List Int) : List UInt8 := s.data.toList ++ symsT ts ns true l ++ [32, 59, 10]
/-- The first k levels' lines. -/
def levsT (ts : List (ByteArray × Int)) (ns : List ByteArray) (lv : List Int) : Nat → List UInt8
  | 0 => []
  | k + 1 => levsT ts ns lv k ++ headT ts ns (orderS (lv.getD k 0)) (ofLev ts ((k : Int) + 1) (upTo (ts.length - 1)))
def tokT (ts : List (ByteArray × Int)) (ns : List ByteArray) : List UInt8 := if ts.length - 1 = 0 then [] else headT ts ns ⟨#[37, 116, 111, 107, 101, 110]⟩ (upTo (ts.length - 1))

theorem levsT_mono (ts : List (ByteArray × Int)) (ns : List ByteArray) (lv : List Int) {k n : Nat} (h : k ≤ n) : (levsT ts ns lv k).length ≤ (levsT ts ns lv n).length := by
  induction n with
  | zero => have : k = 0 := by omega
            subst this; exact Nat.le_refl _
  | succ n ih =>
    by_cases e : k = n + 1
    · subst e; exact Nat.le_refl _
    · have := ih (by omega)
      simp only [levsT, List.length_append]
      omega

set_option maxHeartbeats 2000000 in
set_option maxRecDepth 100000 in
theorem headers_at {W0 w : World} {b : Nat} {ta na la pa : Option Addr} {tn nn ln n tc nc lc pc : Nat} {st : Int} {bs : List UInt8} {ts : List (ByteArray × Int)} {ns : List ByteArray} {lv : List Int} (h : WrAt W0 w b (gvOf ta na la pa tn nn ln n tc nc lc pc st) bs false) (hT : TermsAt W0 ta ts) (hN : StrsAt W0 na ns) (hLv : IntsAt W0 la lv) (htn : ts.length = tn) (hnn : ns.length = nn) (hln : lv.length = ln) (hn : nn ≤ 17592186044416) (ht : tn ≤ 1048576) (hlm : ln ≤ 1048576) (hst : 0 ≤ st ∧ st < (tn : Int) + nn)
    (hl : bs.length + (tokT ts ns).length + (levsT ts ns lv ln).length + (headT ts ns ⟨#[37, 115, 116, 97, 114, 116]⟩ [st]).length + 8 ≤ 140737488355328) :
    Calls Try.prog 27 #[.pointer (some ⟨b, 0, none⟩)] w fun e w' => e = .returned (.tuple #[]) ∧ WrAt W0 w' b (gvOf ta na la pa tn nn ln n tc nc lc pc st) (bs ++ tokT ts ns ++ levsT ts ns lv ln ++ headT ts ns ⟨#[37, 115, 116, 97, 114, 116]⟩ [st]) false ∧ Lib.OthersKept 5 (some b) w w' := by
  have H : Hid (WrAt W0 w b (gvOf ta na la pa tn nn ln n tc nc lc pc st) bs false) := h
  have HTM : Hid (∀ X, W0.grownBy X none → X.cell? ⟨b, 2, none⟩ = some (.slice ta tn tc) → Calls Try.prog 46 #[.pointer (some ⟨b, 0, none⟩)] X fun e w' => ∃ v, e = .returned v ∧ w'.ownsRow X.heap.size 3 1 v (tn - 1) ((upTo (tn - 1)).map (Value.int .i64)) ∧ X.grownBy w' none) := fun X _ hc => wterms_at hc ht
  have HTO : Hid (∀ X lev, W0.grownBy X none → X.cell? ⟨b, 2, none⟩ = some (.slice ta tn tc) → Calls Try.prog 49 #[.pointer (some ⟨b, 0, none⟩), .int .i64 lev] X fun e w' => ∃ v, e = .returned v ∧ w'.ownsRow X.heap.size 3 1 v (ofLev ts lev (upTo (tn - 1))).length ((ofLev ts lev (upTo (tn - 1))).map (Value.int .i64)) ∧ X.grownBy w' none) := fun X lev hX hc => wtermsOf_at hc ht (hT.kept hX) htn lev
  have HHD : Hid (∀ X bs' (s : ByteArray) sa m cap l, WrAt W0 X b (gvOf ta na la pa tn nn ln n tc nc lc pc st) bs' false → l.length = m → X.ownsRow W0.heap.size 3 1 (.slice sa m cap) m (l.map (Value.int .i64)) → (∀ y ∈ l, 0 ≤ y ∧ y < (tn : Int) + nn) → m ≤ 1048576 → bs'.length + 1 + (headT ts ns s l).length ≤ 140737488355328 → Calls Try.prog 47 #[.pointer (some ⟨b, 0, none⟩), .string s, .slice sa m cap] X fun e w' => e = .returned (.tuple #[]) ∧ WrAt W0 w' b (gvOf ta na la pa tn nn ln n tc nc lc pc st) (bs' ++ headT ts ns s l) false ∧ Lib.OthersKept 5 (some b) X w') := by
    intro X bs' s sa m cap l hX hm hO hok hmm hb
    have hse : s.data.toList.length = s.size := by rw [Array.length_toList]; rfl
    have hap : (Value.slice sa m cap).ownBlock = none ∨ (Value.slice sa m cap).ownBlock ≠ some b := by
      obtain ⟨p, v, _, hB⟩ := hX
      exact owns_nebox hO hB.blk (by decide)
    refine (header_at hX hT hN htn hnn hn s sa m cap l hm (fun Y _ hK => owns_intsAt (owns_others hO hap hK) hm.symm) (fun j hj => hok _ (by rw [List.getD, List.getElem?_eq_getElem (by rw [hm]; exact hj)]; exact List.getElem_mem _)) (by omega) (by simp only [headT, List.length_append] at hb; simp at hb; omega)).mono ?_
    rintro e w' ⟨rfl, hW, hK⟩
    exact ⟨rfl, by simpa [headT, sp] using hW, hK⟩
  have HLV : Hid (∀ X, W0.grownBy X none → IntsAt X la lv) := fun X hX => hLv.kept hX
  have HLN : Hid (lv.length = ln) := hln
  have HL : Hid (bs.length + (tokT ts ns).length + (levsT ts ns lv ln).length + (headT ts ns ⟨#[37, 115, 116, 97, 114, 116]⟩ [st]).length + 8 ≤ 140737488355328) := hl
  have HST : Hid (0 ≤ st ∧ st < (tn : Int) + nn) := hst
  have HTN : Hid (ts.length = tn) := htn
  obtain ⟨m, hm⟩ : ∃ m, m = tn - 1 := ⟨_, rfl⟩
  rw [← hm] at HTM
  have HM : Hid (m = tn - 1) := hm
  have hmm : m ≤ 1048576 := by omega
  clear h hT hN htn hnn hLv hln hl hst hm
  go_enter Try.func27, Try.ntmps27
  obtain ⟨c2, _, _, _, _, hg0⟩ := H.out.cells
  have HG0 : Hid (W0.grownBy w none) := hg0
  clear hg0
  go_wp2_with fail
  refine Calls.mono (HTM.out w HG0.out c2) ?_
  rintro e w1 ⟨v, rfl, hO, hg1⟩
  obtain ⟨ar, cr, rfl⟩ := owns_slice hO
  have HO : Hid (w1.ownsRow w.heap.size 3 1 (.slice ar m cr) m ((upTo m).map (Value.int .i64))) := hO
  have HW1 : Hid (WrAt W0 w1 b (gvOf ta na la pa tn nn ln n tc nc lc pc st) bs false) := H.out.kept hg1
  have HK1 : Hid (Lib.OthersKept 5 (some b) w w1) := (Lib.OthersKept.refl _ _ w).grown hg1 (fun g h => by cases h)
  have HB : Hid (W0.heap.size ≤ w.heap.size) := HG0.out.size
  clear hO hg1 c2 H
  by_cases h0 : m = 0
  · subst h0
    have HW2 : Hid (WrAt W0 w1 b (gvOf ta na la pa tn nn ln n tc nc lc pc st) (bs ++ tokT ts ns) false) := by
      show WrAt _ _ _ _ _ _
      rw [tokT, HTN.out, if_pos HM.out.symm, List.append_nil]
      exact HW1.out
    obtain ⟨_, _, c4, _, _, hgr⟩ := HW2.out.cells
    clear HW1 hgr
    go_wp2_with fail
    go_loopg [3, 4, 19] ln (fun gk v3 v4 i wr => ∃ k : Nat, k ≤ ln ∧ gk = ln - k ∧ i = .int .i64 k ∧ WrAt W0 wr b (gvOf ta na la pa tn nn ln n tc nc lc pc st) (bs ++ tokT ts ns ++ levsT ts ns lv k) false ∧ Lib.OthersKept 5 (some b) w wr)
    case atStart => exact ⟨0, Nat.zero_le _, rfl, rfl, by simpa [levsT] using HW2.out, HK1.out⟩
    case round =>
      obtain ⟨k, hk, hgk, rfl, hW, hK⟩ := hrel
      have HW : Hid (WrAt W0 wr b (gvOf ta na la pa tn nn ln n tc nc lc pc st) (bs ++ tokT ts ns ++ levsT ts ns lv k) false) := hW
      have HK : Hid (Lib.OthersKept 5 (some b) w wr) := hK
      have HGK : Hid (gk = ln - k) := hgk
      obtain ⟨e2, _, _, e5, _, hgr⟩ := hW.cells
      have HGR : Hid (W0.grownBy wr none) := hgr
      clear hW hK hgk HW2 HK1 hgr c4
      by_cases hlt : k < ln
      · obtain ⟨sb, so, rfl, hcs⟩ : ∃ sb so, la = some ⟨sb, so, none⟩ ∧ ∀ i, i < lv.length → wr.cell? ⟨sb, so + i, none⟩ = some (.int .i64 (lv.getD i 0)) := by
          rcases HLV.out wr HGR.out with h | h
          · have h9 := HLN.out; rw [h] at h9; simp at h9; omega
          · exact h
        have d0 := hcs k (by rw [HLN.out]; exact hlt)
        obtain ⟨sd, hsd⟩ : ∃ x, x = lv.getD k 0 := ⟨_, rfl⟩
        rw [← hsd] at d0
        have HOR : Hid (∀ X, Calls Try.prog 48 #[.int .i64 sd] X fun e w' => e = .returned (.string (orderS sd)) ∧ w' = X) := fun X => orderOf_any sd X
        obtain ⟨l, hll⟩ : ∃ l, l = ofLev ts ((k : Int) + 1) (upTo (tn - 1)) := ⟨_, rfl⟩
        have HT2 : Hid (levsT ts ns lv (k + 1) = levsT ts ns lv k ++ headT ts ns (orderS sd) l) := by
          show _ = _
          rw [levsT, hsd, hll, HTN.out]
        have HTK := HTO.out wr ((k : Int) + 1) HGR.out e2
        rw [← hll] at HTK
        have hl1 : l.length ≤ 1048576 := by
          have := ofLev_len ts ((k : Int) + 1) (upTo (tn - 1))
          rw [upTo_len, ← hll] at this
          omega
        have HLR : Hid (∀ y ∈ l, 0 ≤ y ∧ y < (tn : Int) + nn) := fun y hy => by
          rw [hll] at hy
          have := ofLev_mem hy
          omega
        obtain ⟨q, hq⟩ : ∃ q, q = l.length := ⟨_, rfl⟩
        rw [← hq] at HTK hl1
        have HQ : Hid (q = l.length) := hq
        clear hcs hsd hll hq
        go_wp2_with fail
        refine Calls.mono (HOR.out wr) ?_
        rintro e w3 ⟨rfl, rfl⟩
        go_wp2_with fail
        refine HTK.mono ?_
        rintro e w4 ⟨v, rfl, hO, hg4⟩
        obtain ⟨a5, c5, rfl⟩ := owns_slice hO
        have HO4 : Hid (w4.ownsRow W0.heap.size 3 1 (.slice a5 q c5) q (l.map (Value.int .i64))) := owns_lower hO HGR.out.size
        have HW4 : Hid (WrAt W0 w4 b (gvOf ta na (some ⟨sb, so, none⟩) pa tn nn ln n tc nc lc pc st) (bs ++ tokT ts ns ++ levsT ts ns lv k) false) := HW.out.kept hg4
        have HK4 : Hid (Lib.OthersKept 5 (some b) w w4) := HK.out.grown hg4 (fun g h => by cases h)
        clear hO hg4 HW HK HTK
        go_wp2_with fail
        refine Calls.mono (HHD.out w4 _ (orderS sd) a5 q c5 l HW4.out HQ.out.symm HO4.out HLR.out hl1 (by
          have h1 := HL.out
          have h2 := levsT_mono ts ns lv (k := k + 1) (n := ln) hlt
          rw [HT2.out] at h2
          simp only [List.length_append] at h2 ⊢
          omega)) ?_
        rintro e w5 ⟨rfl, hW, hK⟩
        have HW5 : Hid (WrAt W0 w5 b (gvOf ta na (some ⟨sb, so, none⟩) pa tn nn ln n tc nc lc pc st) (bs ++ tokT ts ns ++ levsT ts ns lv (k + 1)) false) := by
          show WrAt _ _ _ _ _ _
          rw [HT2.out, ← List.append_assoc]
          exact hW
        have HK5 : Hid (Lib.OthersKept 5 (some b) w w5) := HK4.out.trans hK
        clear hW hK HW4 HK4
        go_wp2_with fail
        go_roundg (ln - (k + 1))
        case measure => have := HGK.out; omega
        case rel => exact ⟨k + 1, by omega, rfl, by go_num, HW5.out, HK5.out⟩
      · obtain rfl : ln = k := by omega
        have HOS : Hid (∀ X : World, W0.heap.size ≤ X.heap.size → (X.alloc (.cells #[.int .i64 st] 3)).ownsRow W0.heap.size 3 1 (.slice (some ⟨X.heap.size, 0, none⟩) 1 1) 1 ([st].map (Value.int .i64))) := fun X hX => ⟨rfl, .inr ⟨X.heap.size, 1, _, rfl, hX, heap_alloc_last X _, Nat.le_refl _, by unfold maxLen; omega, rfl, rfl⟩⟩
        go_wp2_with fail
        refine Calls.mono (HHD.out _ _ ⟨#[37, 115, 116, 97, 114, 116]⟩ _ 1 1 [st] (HW.out.kept (World.grownBy_alloc wr _ none)) rfl (HOS.out wr HGR.out.size) (fun y hy => by simp only [List.mem_singleton] at hy; subst hy; exact HST.out) (by decide) (by have := HL.out; simp only [List.length_append]; omega)) ?_
        rintro e w5 ⟨rfl, hW, hK⟩
        have HW5 : Hid (WrAt W0 w5 b (gvOf ta na la pa tn nn ln n tc nc lc pc st) (bs ++ tokT ts ns ++ levsT ts ns lv ln ++ headT ts ns ⟨#[37, 115, 116, 97, 114, 116]⟩ [st]) false) := hW
        have HK5 : Hid (Lib.OthersKept 5 (some b) w w5) := (HK.out.alloc _).trans hK
        clear hW hK
        go_wp2_with fail
        go_end0
        exact ⟨rfl, HW5.out, HK5.out⟩
  · have hm0 : (0 : Int) < (m : Int) := by omega
    go_wp2_with fail
    refine Calls.mono (HHD.out w1 bs ⟨#[37, 116, 111, 107, 101, 110]⟩ ar m cr (upTo m) HW1.out (upTo_len m) (owns_lower HO.out HB.out) (fun y hy => by
      simp only [upTo, List.mem_map, List.mem_range] at hy
      obtain ⟨i, hi, rfl⟩ := hy
      have := HM.out
      omega) hmm (by
        have := HL.out
        rw [tokT, HTN.out, if_neg (by rw [← HM.out]; exact h0), ← HM.out] at this
        omega)) ?_
    rintro e w2 ⟨rfl, hW, hK⟩
    have HW2 : Hid (WrAt W0 w2 b (gvOf ta na la pa tn nn ln n tc nc lc pc st) (bs ++ tokT ts ns) false) := by
      show WrAt _ _ _ _ _ _
      rw [tokT, HTN.out, if_neg (by rw [← HM.out]; exact h0), ← HM.out]
      exact hW
    have HK2 : Hid (Lib.OthersKept 5 (some b) w w2) := HK1.out.trans hK
    obtain ⟨_, _, c4, _, _, hgr⟩ := HW2.out.cells
    clear hW hK HW1 HK1 hgr
    go_wp2_with fail
    go_loopg [3, 4, 19] ln (fun gk v3 v4 i wr => ∃ k : Nat, k ≤ ln ∧ gk = ln - k ∧ i = .int .i64 k ∧ WrAt W0 wr b (gvOf ta na la pa tn nn ln n tc nc lc pc st) (bs ++ tokT ts ns ++ levsT ts ns lv k) false ∧ Lib.OthersKept 5 (some b) w wr)
    case atStart => exact ⟨0, Nat.zero_le _, rfl, rfl, by simpa [levsT] using HW2.out, HK2.out⟩
    case round =>
      obtain ⟨k, hk, hgk, rfl, hW, hK⟩ := hrel
      have HW : Hid (WrAt W0 wr b (gvOf ta na la pa tn nn ln n tc nc lc pc st) (bs ++ tokT ts ns ++ levsT ts ns lv k) false) := hW
      have HK : Hid (Lib.OthersKept 5 (some b) w wr) := hK
      have HGK : Hid (gk = ln - k) := hgk
      obtain ⟨e2, _, _, e5, _, hgr⟩ := hW.cells
      have HGR : Hid (W0.grownBy wr none) := hgr
      clear hW hK hgk HW2 HK2 hgr c4
      by_cases hlt : k < ln
      · obtain ⟨sb, so, rfl, hcs⟩ : ∃ sb so, la = some ⟨sb, so, none⟩ ∧ ∀ i, i < lv.length → wr.cell? ⟨sb, so + i, none⟩ = some (.int .i64 (lv.getD i 0)) := by
          rcases HLV.out wr HGR.out with h | h
          · have h9 := HLN.out; rw [h] at h9; simp at h9; omega
          · exact h
        have d0 := hcs k (by rw [HLN.out]; exact hlt)
        obtain ⟨sd, hsd⟩ : ∃ x, x = lv.getD k 0 := ⟨_, rfl⟩
        rw [← hsd] at d0
        have HOR : Hid (∀ X, Calls Try.prog 48 #[.int .i64 sd] X fun e w' => e = .returned (.string (orderS sd)) ∧ w' = X) := fun X => orderOf_any sd X
        obtain ⟨l, hll⟩ : ∃ l, l = ofLev ts ((k : Int) + 1) (upTo (tn - 1)) := ⟨_, rfl⟩
        have HT2 : Hid (levsT ts ns lv (k + 1) = levsT ts ns lv k ++ headT ts ns (orderS sd) l) := by
          show _ = _
          rw [levsT, hsd, hll, HTN.out]
        have HTK := HTO.out wr ((k : Int) + 1) HGR.out e2
        rw [← hll] at HTK
        have hl1 : l.length ≤ 1048576 := by
          have := ofLev_len ts ((k : Int) + 1) (upTo (tn - 1))
          rw [upTo_len, ← hll] at this
          omega
        have HLR : Hid (∀ y ∈ l, 0 ≤ y ∧ y < (tn : Int) + nn) := fun y hy => by
          rw [hll] at hy
          have := ofLev_mem hy
          omega
        obtain ⟨q, hq⟩ : ∃ q, q = l.length := ⟨_, rfl⟩
        rw [← hq] at HTK hl1
        have HQ : Hid (q = l.length) := hq
        clear hcs hsd hll hq
        go_wp2_with fail
        refine Calls.mono (HOR.out wr) ?_
        rintro e w3 ⟨rfl, rfl⟩
        go_wp2_with fail
        refine HTK.mono ?_
        rintro e w4 ⟨v, rfl, hO, hg4⟩
        obtain ⟨a5, c5, rfl⟩ := owns_slice hO
        have HO4 : Hid (w4.ownsRow W0.heap.size 3 1 (.slice a5 q c5) q (l.map (Value.int .i64))) := owns_lower hO HGR.out.size
        have HW4 : Hid (WrAt W0 w4 b (gvOf ta na (some ⟨sb, so, none⟩) pa tn nn ln n tc nc lc pc st) (bs ++ tokT ts ns ++ levsT ts ns lv k) false) := HW.out.kept hg4
        have HK4 : Hid (Lib.OthersKept 5 (some b) w w4) := HK.out.grown hg4 (fun g h => by cases h)
        clear hO hg4 HW HK HTK
        go_wp2_with fail
        refine Calls.mono (HHD.out w4 _ (orderS sd) a5 q c5 l HW4.out HQ.out.symm HO4.out HLR.out hl1 (by
          have h1 := HL.out
          have h2 := levsT_mono ts ns lv (k := k + 1) (n := ln) hlt
          rw [HT2.out] at h2
          simp only [List.length_append] at h2 ⊢
          omega)) ?_
        rintro e w5 ⟨rfl, hW, hK⟩
        have HW5 : Hid (WrAt W0 w5 b (gvOf ta na (some ⟨sb, so, none⟩) pa tn nn ln n tc nc lc pc st) (bs ++ tokT ts ns ++ levsT ts ns lv (k + 1)) false) := by
          show WrAt _ _ _ _ _ _
          rw [HT2.out, ← List.append_assoc]
          exact hW
        have HK5 : Hid (Lib.OthersKept 5 (some b) w w5) := HK4.out.trans hK
        clear hW hK HW4 HK4
        go_wp2_with fail
        go_roundg (ln - (k + 1))
        case measure => have := HGK.out; omega
        case rel => exact ⟨k + 1, by omega, rfl, by go_num, HW5.out, HK5.out⟩
      · obtain rfl : ln = k := by omega
        have HOS : Hid (∀ X : World, W0.heap.size ≤ X.heap.size → (X.alloc (.cells #[.int .i64 st] 3)).ownsRow W0.heap.size 3 1 (.slice (some ⟨X.heap.size, 0, none⟩) 1 1) 1 ([st].map (Value.int .i64))) := fun X hX => ⟨rfl, .inr ⟨X.heap.size, 1, _, rfl, hX, heap_alloc_last X _, Nat.le_refl _, by unfold maxLen; omega, rfl, rfl⟩⟩
        go_wp2_with fail
        refine Calls.mono (HHD.out _ _ ⟨#[37, 115, 116, 97, 114, 116]⟩ _ 1 1 [st] (HW.out.kept (World.grownBy_alloc wr _ none)) rfl (HOS.out wr HGR.out.size) (fun y hy => by simp only [List.mem_singleton] at hy; subst hy; exact HST.out) (by decide) (by have := HL.out; simp only [List.length_append]; omega)) ?_
        rintro e w5 ⟨rfl, hW, hK⟩
        have HW5 : Hid (WrAt W0 w5 b (gvOf ta na la pa tn nn ln n tc nc lc pc st) (bs ++ tokT ts ns ++ levsT ts ns lv ln ++ headT ts ns ⟨#[37, 115, 116, 97, 114, 116]⟩ [st]) false) := hW
        have HK5 : Hid (Lib.OthersKept 5 (some b) w w5) := (HK.out.alloc _).trans hK
        clear hW hK
        go_wp2_with fail
        go_end0
        exact ⟨rfl, HW5.out, HK5.out⟩

end Go.Proofs.Ytkhmhcinepfemaa

/-
  show: rightsLength and Text.
-/
namespace Go.Proofs.Ytkhmhcinepfemaa
open Go.RowKit Go.Maps Go.Shelf

def rsum (R : Nat → List Int) : Nat → Nat
  | 0 => 0
  | k + 1 => rsum R k + (R k).length

set_option maxRecDepth 100000 in
theorem rights_any (ta na la pa : Option Addr) (tn nn ln n tc nc lc pc : Nat) (st : Int) (L : Nat → Int) (R : Nat → List Int) (ra : Nat → Option Addr) (rc : Nat → Nat) (V : Nat → Int) (w : World) (hP : ProdsAt w pa n L R ra rc V) (hn : n ≤ 1024) :
    Calls Try.prog 26 #[.agg #[.slice ta tn tc, .slice na nn nc, .slice la ln lc, .int .i64 st, .slice pa n pc]] w fun e w' => e = .returned (.int .i64 (rsum R n)) ∧ w.grownBy w' none := by
  have HP : Hid (ProdsAt w pa n L R ra rc V) := hP
  have HX0 : Hid (PhAt w (w.alloc (.cells #[.slice ta tn tc, .slice na nn nc, .slice la ln lc, .int .i64 st, .slice pa n pc] 27)) w.heap.size #[.slice ta tn tc, .slice na nn nc, .slice la ln lc, .int .i64 st, .slice pa n pc]) := ⟨World.grownBy_alloc _ _ none, heap_alloc_last w _⟩
  clear hP
  go_enter Try.func26, Try.ntmps26
  go_wp2_with fail
  go_loopg [3, 5, 9] n (fun gk v3 v5 i wr => ∃ k : Nat, k ≤ n ∧ gk = n - k ∧ i = .int .i64 k ∧ v3 = .int .i64 (rsum R k) ∧ rsum R k ≤ k * 17592186044416 ∧ w.grownBy wr none)
  case atStart => exact ⟨0, Nat.zero_le _, rfl, rfl, rfl, Nat.zero_le _, HX0.out.grown⟩
  case round =>
    obtain ⟨k, hk, hgk, rfl, rfl, hsm, hgr⟩ := hrel
    have HGK : Hid (gk = n - k) := hgk
    have HGR : Hid (w.grownBy wr none) := hgr
    clear hgk HX0
    by_cases hlt : k < n
    · obtain ⟨bp, op, rfl, hps⟩ : ∃ b off, pa = some ⟨b, off, none⟩ ∧ ∀ k, k < n → w.cell? ⟨b, off + k * 3, none⟩ = some (.int .i64 (L k)) ∧ w.cell? ⟨b, off + k * 3 + 1, none⟩ = some (.slice (ra k) (R k).length (rc k)) ∧ w.cell? ⟨b, off + k * 3 + 2, none⟩ = some (.int .i64 (V k)) ∧ IntsAt w (ra k) (R k) ∧ (ra k = none → rc k = 0) ∧ (R k).length ≤ 17592186044416 := by
        rcases HP.out with h | h
        · omega
        · exact h
      obtain ⟨p0, p1, p2, _, _, hRl⟩ := hps k hlt
      have d0 := hgr.cell p0 (by simp)
      have d1 := hgr.cell p1 (by simp)
      have d2 := hgr.cell p2 (by simp)
      obtain ⟨len, hlen⟩ : ∃ x, x = (R k).length := ⟨_, rfl⟩
      obtain ⟨s, hs⟩ : ∃ s, s = rsum R k := ⟨_, rfl⟩
      have HS : Hid (rsum R (k + 1) = s + len) := by
        show _ = _
        rw [rsum, hs, hlen]
      rw [← hlen] at d1 hRl
      rw [← hs] at hsm ⊢
      have hsl : s + len ≤ (k + 1) * 17592186044416 := by omega
      have hwr : IntKind.i64.wrap ((s : Int) + (len : Int)) = (s : Int) + len := by simp [IntKind.wrap, IntKind.signed, IntKind.bits]; omega
      clear hps p0 p1 p2 hlen hs hgr
      go_wp2_with fail
      go_roundg (n - (k + 1))
      case measure => have := HGK.out; omega
      case rel => exact ⟨k + 1, by omega, rfl, by go_num, by rw [HS.out]; simp, by rw [HS.out]; exact hsl, grown_trans HGR.out (World.grownBy_alloc _ _ none)⟩
    · obtain rfl : n = k := by omega
      clear hgr
      go_wp2_with fail
      go_ret
      exact ⟨rfl, HGR.out⟩

/-- A grammar's text. -/
def textT (ts : List (ByteArray × Int)) (ns : List ByteArray) (lv : List Int) (st : Int) (n : Nat) (L : Nat → Int) (R : Nat → List Int) (V : Nat → Int) : List UInt8 :=
  tokT ts ns ++ levsT ts ns lv lv.length ++ headT ts ns ⟨#[37, 115, 116, 97, 114, 116]⟩ [st] ++ rulesT ts ns L R V n

set_option maxHeartbeats 2000000 in
set_option maxRecDepth 100000 in
theorem text_core (ta na la pa : Option Addr) (tc nc lc pc : Nat) (ts : List (ByteArray × Int)) (ns : List ByteArray) (lv : List Int) (n : Nat) (L : Nat → Int) (R : Nat → List Int) (ra : Nat → Option Addr) (rc : Nat → Nat) (V : Nat → Int) (st : Int) (w : World) (tn nn ln : Nat) (hlen : ts.length = tn ∧ ns.length = nn ∧ lv.length = ln) (hG : GAt w ta na la pa tc nc lc pc ts ns lv n L R ra rc V)
    (r : Bool) (hr : r = true ↔ validOK ts ns lv st n L R V ∨ closedOK ts ns lv st n L R V)
    (hE : r = true → tn ≤ 1048576 ∧ ln ≤ 1048576 ∧ n ≤ 1024 ∧ (0 ≤ st ∧ st < (tn : Int) + nn) ∧ (∀ i, i < n → (tn : Int) ≤ L i ∧ L i < (tn : Int) + nn) ∧ (∀ i, i < n → ∀ z ∈ R i, 0 ≤ z ∧ z < (tn : Int) + nn) ∧ (∀ i, i < n → V i ≠ 0 → 0 < (ofLev ts (V i) (upTo (tn - 1))).length))
    (hroom : r = true → rsum R n ≤ 8192 → (tokT ts ns).length + (levsT ts ns lv ln).length + (headT ts ns ⟨#[37, 115, 116, 97, 114, 116]⟩ [st]).length + 8 + roomT ts ns L R V n ≤ 140737488355328) :
    Calls Try.prog 8 #[.agg #[.slice ta tn tc, .slice na nn nc, .slice la ln lc, .int .i64 st, .slice pa n pc]] w fun e w' => e = .returned (.tuple #[.string (if r && decide (rsum R n ≤ 8192) && decide ((textT ts ns lv st n L R V).length ≤ 8192) then ⟨(textT ts ns lv st n L R V).toArray⟩ else ⟨#[]⟩), .int .i64 (if r then (if decide (rsum R n ≤ 8192) && decide ((textT ts ns lv st n L R V).length ≤ 8192) then 0 else 11) else 1)]) ∧ w.grownBy w' none := by
  have HM : Hid (∀ Y, w.grownBy Y none → Calls Try.prog 25 #[.agg #[.slice ta tn tc, .slice na nn nc, .slice la ln lc, .int .i64 st, .slice pa n pc]] Y fun e w' => e = .returned (.bool r) ∧ Y.grownBy w' none) := fun Y hY => mayBe_any ta na la pa tc nc lc pc ts ns lv n L R ra rc V st Y tn nn ln hlen (hG.kept hY) r hr
  have hnn := hG.nlen
  rw [hlen.2.1] at hnn
  have HX0 : Hid (PhAt w (w.alloc (.cells #[.slice ta tn tc, .slice na nn nc, .slice la ln lc, .int .i64 st, .slice pa n pc] 27)) w.heap.size #[.slice ta tn tc, .slice na nn nc, .slice la ln lc, .int .i64 st, .slice pa n pc]) := ⟨World.grownBy_alloc _ _ none, heap_alloc_last w _⟩
  have hbd : ∀ u, (Instr.build 55 #[(1, .agg #[.slice ta tn tc, .slice na nn nc, .slice la ln lc, .int .i64 st, .slice pa n pc])]).run Try.prog u = .ok (.agg #[.pointer none, .slice none 0 0, .slice ta tn tc, .slice na nn nc, .slice la ln lc, .int .i64 st, .slice pa n pc, .bool false]) u := fun u => run_build u _ _ _ (by kernel_rfl)
  have HG : Hid (GAt w ta na la pa tc nc lc pc ts ns lv n L R ra rc V) := hG
  have HLN : Hid (ts.length = tn ∧ ns.length = nn ∧ lv.length = ln) := hlen
  obtain ⟨rs, hrs⟩ : ∃ x, x = rsum R n := ⟨_, rfl⟩
  obtain ⟨tlen, htl⟩ : ∃ x, x = (textT ts ns lv st n L R V).length := ⟨_, rfl⟩
  rw [← hrs, ← htl]
  have HTL : Hid (tlen = (textT ts ns lv st n L R V).length) := htl
  cases r with
  | false =>
    clear hG hlen hr hE hroom hrs htl
    go_enter Try.func8, Try.ntmps8
    go_wp2_with fail
    refine Calls.mono (HM.out _ HX0.out.grown) ?_
    rintro e w1 ⟨rfl, hg1⟩
    have HG1 : Hid (w.grownBy w1 none) := grown_trans HX0.out.grown hg1
    clear hg1 HX0
    go_wp2_with fail
    go_ret2
    exact ⟨rfl, HG1.out⟩
  | true =>
    have HE : Hid (tn ≤ 1048576 ∧ ln ≤ 1048576 ∧ n ≤ 1024 ∧ (0 ≤ st ∧ st < (tn : Int) + nn) ∧ (∀ i, i < n → (tn : Int) ≤ L i ∧ L i < (tn : Int) + nn) ∧ (∀ i, i < n → ∀ z ∈ R i, 0 ≤ z ∧ z < (tn : Int) + nn) ∧ (∀ i, i < n → V i ≠ 0 → 0 < (ofLev ts (V i) (upTo (tn - 1))).length)) := hE rfl
    have HRO : Hid (rs ≤ 8192 → (tokT ts ns).length + (levsT ts ns lv ln).length + (headT ts ns ⟨#[37, 115, 116, 97, 114, 116]⟩ [st]).length + 8 + roomT ts ns L R V n ≤ 140737488355328) := by rw [hrs]; exact hroom rfl
    have HRT : Hid (∀ Y, w.grownBy Y none → Calls Try.prog 26 #[.agg #[.slice ta tn tc, .slice na nn nc, .slice la ln lc, .int .i64 st, .slice pa n pc]] Y fun e w' => e = .returned (.int .i64 rs) ∧ Y.grownBy w' none) := fun Y hY => by
      rw [hrs]
      exact rights_any ta na la pa tn nn ln n tc nc lc pc st L R ra rc V Y (hG.kept hY).prods HE.out.2.2.1
    clear hG hlen hr hE hroom hrs htl
    by_cases h1 : rs ≤ 8192
    · have HRM : Hid ((tokT ts ns).length + (levsT ts ns lv ln).length + (headT ts ns ⟨#[37, 115, 116, 97, 114, 116]⟩ [st]).length + 8 + roomT ts ns L R V n ≤ 140737488355328) := HRO.out h1
      have h1i : ¬ ((8192 : Int) < (rs : Int)) := by omega
      by_cases h2 : tlen ≤ 8192
      · have h2i : ¬ ((8192 : Int) < (tlen : Int)) := by omega
        simp only [h1, h2, decide_true, Bool.and_self, if_true]
        go_enter Try.func8, Try.ntmps8
        go_wp2_with fail
        refine Calls.mono (HM.out _ HX0.out.grown) ?_
        rintro e w1 ⟨rfl, hg1⟩
        have HX1 : Hid (PhAt w w1 w.heap.size #[.slice ta tn tc, .slice na nn nc, .slice la ln lc, .int .i64 st, .slice pa n pc]) := HX0.out.kept hg1
        obtain ⟨k0, k1, k2, k3, k4⟩ := HX1.out.cells
        clear hg1 HX0
        go_wp2_with fail
        refine Calls.mono (HRT.out _ HX1.out.grown) ?_
        rintro e w2 ⟨rfl, hg2⟩
        have HX2 : Hid (PhAt w w2 w.heap.size #[.slice ta tn tc, .slice na nn nc, .slice la ln lc, .int .i64 st, .slice pa n pc]) := HX1.out.kept hg2
        clear k0 k1 k2 k3 k4 hg2 HX1
        obtain ⟨k0, k1, k2, k3, k4⟩ := HX2.out.cells
        go_wp2_with fail
        refine (headers_at (wr_new w2 ta na la pa tn nn ln n tc nc lc pc st) (HG.out.kept HX2.out.grown).terms (HG.out.kept HX2.out.grown).nons (HG.out.kept HX2.out.grown).levels HLN.out.1 HLN.out.2.1 HLN.out.2.2 hnn HE.out.1 HE.out.2.1 HE.out.2.2.2.1 (by have := HRM.out; simp; omega)).mono ?_
        rintro e w3 ⟨rfl, hW, hK⟩
        have HW3 : Hid (WrAt w2 w3 w2.heap.size (gvOf ta na la pa tn nn ln n tc nc lc pc st) (tokT ts ns ++ levsT ts ns lv ln ++ headT ts ns ⟨#[37, 115, 116, 97, 114, 116]⟩ [st]) false) := by
          show WrAt _ _ _ _ _ _
          simpa using hW
        clear hW hK k0 k1 k2 k3 k4
        go_wp2_with fail
        refine (rules_at HW3.out (HG.out.kept HX2.out.grown).terms (HG.out.kept HX2.out.grown).nons (HG.out.kept HX2.out.grown).prods HLN.out.1 HLN.out.2.1 hnn HE.out.1 (by have := HE.out.2.2.1; omega) HE.out.2.2.2.2.1 HE.out.2.2.2.2.2.1 HE.out.2.2.2.2.2.2 (by have := HRM.out; simp only [List.length_append]; omega)).mono ?_
        rintro e w4 ⟨rfl, hW, hK⟩
        have HW4 : Hid (WrAt w2 w4 w2.heap.size (gvOf ta na la pa tn nn ln n tc nc lc pc st) (textT ts ns lv st n L R V) false) := by
          show WrAt _ _ _ _ _ _
          rw [textT, HLN.out.2.2]
          exact hW
        clear hW hK HW3
        have HLEN : Hid (Calls Try.prog 29 #[.pointer (some ⟨w2.heap.size, 0, none⟩)] w4 fun e w' => e = .returned (.int .i64 tlen) ∧ w' = w4) := by
          rw [HTL.out]
          exact len_at HW4.out
        go_wp2_with fail
        refine Calls.mono HLEN.out ?_
        rintro e w5 ⟨rfl, rfl⟩
        go_wp2_with fail
        refine (string_at HW4.out).mono ?_
        rintro e w6 ⟨rfl, hg6⟩
        have HG6 : Hid (w.grownBy w6 none) := grown_trans HX2.out.grown hg6
        clear hg6
        go_wp2_with fail
        go_ret2
        exact ⟨rfl, HG6.out⟩
      · have h2i : (8192 : Int) < (tlen : Int) := by omega
        simp only [h1, h2, decide_true, decide_false, Bool.and_self, Bool.and_false, if_true, if_false, Bool.false_eq_true]
        go_enter Try.func8, Try.ntmps8
        go_wp2_with fail
        refine Calls.mono (HM.out _ HX0.out.grown) ?_
        rintro e w1 ⟨rfl, hg1⟩
        have HX1 : Hid (PhAt w w1 w.heap.size #[.slice ta tn tc, .slice na nn nc, .slice la ln lc, .int .i64 st, .slice pa n pc]) := HX0.out.kept hg1
        obtain ⟨k0, k1, k2, k3, k4⟩ := HX1.out.cells
        clear hg1 HX0
        go_wp2_with fail
        refine Calls.mono (HRT.out _ HX1.out.grown) ?_
        rintro e w2 ⟨rfl, hg2⟩
        have HX2 : Hid (PhAt w w2 w.heap.size #[.slice ta tn tc, .slice na nn nc, .slice la ln lc, .int .i64 st, .slice pa n pc]) := HX1.out.kept hg2
        clear k0 k1 k2 k3 k4 hg2 HX1
        obtain ⟨k0, k1, k2, k3, k4⟩ := HX2.out.cells
        go_wp2_with fail
        refine (headers_at (wr_new w2 ta na la pa tn nn ln n tc nc lc pc st) (HG.out.kept HX2.out.grown).terms (HG.out.kept HX2.out.grown).nons (HG.out.kept HX2.out.grown).levels HLN.out.1 HLN.out.2.1 HLN.out.2.2 hnn HE.out.1 HE.out.2.1 HE.out.2.2.2.1 (by have := HRM.out; simp; omega)).mono ?_
        rintro e w3 ⟨rfl, hW, hK⟩
        have HW3 : Hid (WrAt w2 w3 w2.heap.size (gvOf ta na la pa tn nn ln n tc nc lc pc st) (tokT ts ns ++ levsT ts ns lv ln ++ headT ts ns ⟨#[37, 115, 116, 97, 114, 116]⟩ [st]) false) := by
          show WrAt _ _ _ _ _ _
          simpa using hW
        clear hW hK k0 k1 k2 k3 k4
        go_wp2_with fail
        refine (rules_at HW3.out (HG.out.kept HX2.out.grown).terms (HG.out.kept HX2.out.grown).nons (HG.out.kept HX2.out.grown).prods HLN.out.1 HLN.out.2.1 hnn HE.out.1 (by have := HE.out.2.2.1; omega) HE.out.2.2.2.2.1 HE.out.2.2.2.2.2.1 HE.out.2.2.2.2.2.2 (by have := HRM.out; simp only [List.length_append]; omega)).mono ?_
        rintro e w4 ⟨rfl, hW, hK⟩
        have HW4 : Hid (WrAt w2 w4 w2.heap.size (gvOf ta na la pa tn nn ln n tc nc lc pc st) (textT ts ns lv st n L R V) false) := by
          show WrAt _ _ _ _ _ _
          rw [textT, HLN.out.2.2]
          exact hW
        clear hW hK HW3
        have HLEN : Hid (Calls Try.prog 29 #[.pointer (some ⟨w2.heap.size, 0, none⟩)] w4 fun e w' => e = .returned (.int .i64 tlen) ∧ w' = w4) := by
          rw [HTL.out]
          exact len_at HW4.out
        go_wp2_with fail
        refine Calls.mono HLEN.out ?_
        rintro e w5 ⟨rfl, rfl⟩
        have HG6 : Hid (w.grownBy w5 none) := grown_trans HX2.out.grown HW4.out.cells.2.2.2.2.2
        go_wp2_with fail
        go_ret2
        exact ⟨rfl, HG6.out⟩
    · have h1i : (8192 : Int) < (rs : Int) := by omega
      simp only [h1, decide_false, Bool.and_false, Bool.false_and, if_true, if_false, Bool.false_eq_true]
      go_enter Try.func8, Try.ntmps8
      go_wp2_with fail
      refine Calls.mono (HM.out _ HX0.out.grown) ?_
      rintro e w1 ⟨rfl, hg1⟩
      have HX1 : Hid (PhAt w w1 w.heap.size #[.slice ta tn tc, .slice na nn nc, .slice la ln lc, .int .i64 st, .slice pa n pc]) := HX0.out.kept hg1
      obtain ⟨k0, k1, k2, k3, k4⟩ := HX1.out.cells
      clear hg1 HX0
      go_wp2_with fail
      refine Calls.mono (HRT.out _ HX1.out.grown) ?_
      rintro e w2 ⟨rfl, hg2⟩
      have HX2 : Hid (PhAt w w2 w.heap.size #[.slice ta tn tc, .slice na nn nc, .slice la ln lc, .int .i64 st, .slice pa n pc]) := HX1.out.kept hg2
      clear k0 k1 k2 k3 k4 hg2 HX1
      obtain ⟨k0, k1, k2, k3, k4⟩ := HX2.out.cells
      go_wp2_with fail
      go_ret2
      exact ⟨rfl, HX2.out.grown⟩

end Go.Proofs.Ytkhmhcinepfemaa
