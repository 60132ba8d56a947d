/-
  ShowSmall, walked.
-/
import Derived.Test.YtkhmhcinepfemaaQoaaoiagionma
import Derived.Test.YtkhmhcinepfemaaQgdifklbllbgg
import Derived.Test.YtkhmhcinepfemaaQfppihokionde
namespace Go.Proofs.Ytkhmhcinepfemaa
open Go.RowKit Go.Maps Go.Shelf

attribute [local go_sem] Oper.semAt_some

/-- Of a grammar that may be, the document's texts are these. -/
theorem doc_symbol {ta na la pa : Option Addr} {tc nc lc pc : Nat} {ts : List (ByteArray × Int)} {ns : List ByteArray} {lv : List Int} {n : Nat} {L : Nat → Int} {R : Nat → List Int} {ra : Nat → Option Addr} {rc : Nat → Nat} {V : Nat → Int} {st : Int} {w : World} {tn nn ln : Nat} (hlen : ts.length = tn ∧ ns.length = nn ∧ lv.length = ln) (hG : GAt w ta na la pa tc nc lc pc ts ns lv n L R ra rc V) (hv : validOK ts ns lv st n L R V ∨ closedOK ts ns lv st n L R V) (k : Nat) (hk : k < tn + nn) (Y : World) (hY : w.grownBy Y none) :
    Calls Try.prog 32 #[.agg #[.slice ta tn tc, .slice na nn nc, .slice la ln lc, .int .i64 st, .slice pa n pc], .int .i64 k] Y fun e w' => e = .returned (.string (strOf (symT ts ns k))) ∧ Y.grownBy w' none := by
  have h1 := hG.nlen
  rw [hlen.2.1] at h1
  have h2 := symT_le hv k (by rw [hlen.1, hlen.2.1]; exact hk)
  exact rsymbol_any ta na la pa tn nn ln n tc nc lc pc st ts ns Y (hG.kept hY).terms (hG.kept hY).nons hlen.1 hlen.2.1 k hk h1 (by omega)

theorem doc_dotted {ta na la pa : Option Addr} {tc nc lc pc : Nat} {ts : List (ByteArray × Int)} {ns : List ByteArray} {lv : List Int} {n : Nat} {L : Nat → Int} {R : Nat → List Int} {ra : Nat → Option Addr} {rc : Nat → Nat} {V : Nat → Int} {st : Int} {w : World} {tn nn ln : Nat} (hlen : ts.length = tn ∧ ns.length = nn ∧ lv.length = ln) (hG : GAt w ta na la pa tc nc lc pc ts ns lv n L R ra rc V) (hv : validOK ts ns lv st n L R V ∨ closedOK ts ns lv st n L R V) (h5 : ∀ i, i < n → (R i).length ≤ 1048576) (d : Int) (k : Nat) (hk : k < n) (Y : World) (hY : w.grownBy Y none) :
    Calls Try.prog 38 #[.agg #[.slice ta tn tc, .slice na nn nc, .slice la ln lc, .int .i64 st, .slice pa n pc], .agg #[.int .i64 (L k), .slice (ra k) (R k).length (rc k), .int .i64 (V k)], .int .i64 d] Y fun e w' => e = .returned (.string (strOf (dotT ts ns (L k) (R k) d ((R k).length + 1)))) ∧ Y.grownBy w' none := by
  obtain ⟨ad, had, hf, _⟩ := either_fits hv
  have hnn := hf.nn
  have hp := either_prods hv k hk
  have hI : IntsAt Y (ra k) (R k) := by
    rcases (hG.kept hY).prods with h | ⟨b, off, _, h⟩
    · omega
    · exact (h k hk).2.2.2.1
  rw [hlen.1, hlen.2.1] at hp
  rw [hlen.2.1] at hnn
  refine rdotted_any ta na la pa tn nn ln n tc nc lc pc st ts ns Y (hG.kept hY).terms (hG.kept hY).nons hlen.1 hlen.2.1 (by omega) (fun k hk => ?_) (L k) (V k) (ra k) (rc k) (R k).length (R k) rfl (by have := h5 k hk; omega) hI hp.1 (fun i hi => hp.2 _ (by rw [List.getD, List.getElem?_eq_getElem hi]; exact List.getElem_mem _)) d
  have h2 := symT_le hv k (by rw [hlen.1, hlen.2.1]; exact hk)
  omega

theorem prodT_short {ts : List (ByteArray × Int)} {ns : List ByteArray} {lv : List Int} {n : Nat} {L : Nat → Int} {R : Nat → List Int} {V : Nat → Int} {st : Int} (hv : validOK ts ns lv st n L R V ∨ closedOK ts ns lv st n L R V) (h5 : ∀ i, i < n → (R i).length ≤ 1048576) (k : Nat) (hk : k < n) : (prodT ts ns (L k) (R k)).length + 8 ≤ 140737488355328 := by
  have hp := either_prods hv k hk
  have h1 := symT_le hv (L k).toNat (by omega)
  have h2 := symsT_short hv (R k) hp.2
  have h3 := h5 k hk
  simp only [prodT, List.length_append, List.length_cons, List.length_nil]
  omega

set_option maxRecDepth 100000 in
set_option maxHeartbeats 8000000 in
theorem small_core (ta na la pa : Option Addr) (tc nc lc pc : Nat) (ts : List (ByteArray × Int)) (ns : List ByteArray) (lv : List Int) (n : Nat) (L : Nat → Int) (R : Nat → List Int) (ra : Nat → Option Addr) (rc : Nat → Nat) (V : Nat → Int) (st : Int) (w : World) (tn nn ln : Nat) (hlen : ts.length = tn ∧ ns.length = nn ∧ lv.length = ln) (hG : GAt w ta na la pa tc nc lc pc ts ns lv n L R ra rc V) (hnt : ta = none → tn = 0 ∧ tc = 0) (hnl : la = none → ln = 0 ∧ lc = 0)
    (h1 : tn ≤ 1048576) (h2 : nn ≤ 1048576) (h4 : n ≤ 1048576) (h5 : ∀ i, i < n → (R i).length ≤ 1048576) (hts : ∀ t ∈ ts, t.1.size ≤ 140737488355328) (hns : ∀ s ∈ ns, s.size ≤ 140737488355328)
    (sa : Option Addr) (m cap : Nat) (l : List Int) (hm : l.length = m) (hI : IntsAt w sa l) (hmm : m ≤ 1048576) (ip id : Int) :
    Calls Try.prog 4 #[.agg #[.slice ta tn tc, .slice na nn nc, .slice la ln lc, .int .i64 st, .slice pa n pc], .slice sa m cap, .agg #[.int .i64 ip, .int .i64 id]] w fun e w' => e = .returned (.bool true) ∧ w.grownBy w' none := by
  obtain ⟨r, hr⟩ := boolOf (validOK ts ns lv st n L R V ∨ closedOK ts ns lv st n L R V)
  have HN : Hid (ItAt w ((w.alloc (.cells #[.slice ta tn tc, .slice na nn nc, .slice la ln lc, .int .i64 st, .slice pa n pc] 27)).alloc (.cells #[.int .i64 ip, .int .i64 id] 36)) w.heap.size #[.slice ta tn tc, .slice na nn nc, .slice la ln lc, .int .i64 st, .slice pa n pc] #[.int .i64 ip, .int .i64 id]) := ItAt.new w _ _
  have HCP : Hid (∀ Y, w.grownBy Y none → Calls Try.prog 7 #[.agg #[.slice ta tn tc, .slice na nn nc, .slice la ln lc, .int .i64 st, .slice pa n pc]] Y fun e w' => ∃ ta' na' la' pa' tc' nc' lc' pc' ra' rc', e = .returned (.agg #[.slice ta' tn tc', .slice na' nn nc', .slice la' ln lc', .int .i64 st, .slice pa' n pc']) ∧ GAt w' ta' na' la' pa' tc' nc' lc' pc' ts ns lv n L R ra' rc' V ∧ (∀ i, i < n → (R i).length ≤ rc' i) ∧ (ta' = none → tn = 0 ∧ tc' = 0) ∧ (la' = none → ln = 0 ∧ lc' = 0) ∧ Y.grownBy w' none) := fun Y hY => rcopy_any ta na la pa tn nn ln n tc nc lc pc st ts ns lv L R ra rc V Y hlen (hG.kept hY) hnt hnl (by omega) (by omega) (by omega)
  have HG : Hid (GAt w ta na la pa tc nc lc pc ts ns lv n L R ra rc V) := hG
  have HLN : Hid (ts.length = tn ∧ ns.length = nn ∧ lv.length = ln) := hlen
  have HR : Hid (r = true ↔ validOK ts ns lv st n L R V ∨ closedOK ts ns lv st n L R V) := hr
  have H5 : Hid (∀ i, i < n → (R i).length ≤ 1048576) := h5
  have HTS : Hid ((∀ t ∈ ts, t.1.size ≤ 140737488355328) ∧ (∀ s ∈ ns, s.size ≤ 140737488355328)) := ⟨hts, hns⟩
  have HI : Hid (IntsAt w sa l) := hI
  have HM : Hid (l.length = m) := hm
  clear hG hnt hnl hlen hr h5 hts hns hI hm
  go_enter Try.func4, Try.ntmps4
  go_wp2_with fail
  refine Calls.mono (HCP.out _ HN.out.grown) ?_
  rintro e w1 ⟨ta', na', la', pa', tc', nc', lc', pc', ra', rc', rfl, hG', hrc', _, _, hg1⟩
  have HG1 : Hid (GAt w1 ta' na' la' pa' tc' nc' lc' pc' ts ns lv n L R ra' rc' V) := hG'
  have HRC : Hid (∀ i, i < n → (R i).length ≤ rc' i) := hrc'
  have HN1 : Hid (ItAt w w1 w.heap.size #[.slice ta tn tc, .slice na nn nc, .slice la ln lc, .int .i64 st, .slice pa n pc] #[.int .i64 ip, .int .i64 id]) := HN.out.kept hg1
  clear hG' hrc' hg1 HN HCP
  go_wp2_with fail
  obtain ⟨C, hC⟩ : ∃ C, C = w1.heap.size := ⟨_, rfl⟩
  obtain ⟨X1, hX1⟩ : ∃ X1, X1 = w1.alloc (.cells #[.slice ta' tn tc', .slice na' nn nc', .slice la' ln lc', .int .i64 st, .slice pa' n pc'] 27) := ⟨_, rfl⟩
  have HWX : Hid (w1.grownBy X1 none) := by rw [hX1]; exact World.grownBy_alloc _ _ none
  have hCb : X1.heap[C]? = some (.cells #[.slice ta' tn tc', .slice na' nn nc', .slice la' ln lc', .int .i64 st, .slice pa' n pc'] 27 (0, 0)) := by rw [hX1, hC]; exact heap_alloc_last w1 _
  have HBX : Hid (∀ Y, X1.grownBy Y none → ItAt w Y w.heap.size #[.slice ta tn tc, .slice na nn nc, .slice la ln lc, .int .i64 st, .slice pa n pc] #[.int .i64 ip, .int .i64 id] ∧ PhAt X1 Y C #[.slice ta' tn tc', .slice na' nn nc', .slice la' ln lc', .int .i64 st, .slice pa' n pc']) := fun Y hY => ⟨HN1.out.kept (grown_trans HWX.out hY), hY, (hY.block _ (Array.getElem?_eq_some_iff.1 hCb).1 (by simp)).trans hCb⟩
  rw [← hC, ← hX1]
  clear hC hX1 hCb
  have HWX0 : Hid (w.grownBy X1 none) := grown_trans HN1.out.grown HWX.out
  have KL : Hid (Calls Try.prog 12 #[.slice sa m cap] X1 fun e w' => e = .returned (.tuple #[.slice (some ⟨X1.heap.size, 0, none⟩) m (m + 8), .slice (some ⟨X1.heap.size, 0, none⟩) (m + 8) (m + 8)]) ∧ LentAt w' X1.heap.size l 8 ∧ X1.grownBy w' none) := by
    have h9 := lent_any sa cap l X1 (HI.out.kept HWX0.out) (by rw [HM.out]; omega)
    rw [HM.out] at h9
    exact h9.mono fun e w' h => ⟨h.1, h.2.1, below_grown h.2.2⟩
  obtain ⟨G0, hG0⟩ : ∃ G0, G0 = X1.heap.size := ⟨_, rfl⟩
  rw [← hG0] at KL
  clear hG0
  refine Calls.mono KL.out ?_
  rintro e w2 ⟨rfl, hL, hg2⟩
  have HLT : Hid (LentAt w2 G0 l 8) := hL
  have HB : Hid (∀ Y, w2.grownBy Y none → ItAt w Y w.heap.size #[.slice ta tn tc, .slice na nn nc, .slice la ln lc, .int .i64 st, .slice pa n pc] #[.int .i64 ip, .int .i64 id] ∧ PhAt X1 Y C #[.slice ta' tn tc', .slice na' nn nc', .slice la' ln lc', .int .i64 st, .slice pa' n pc']) := fun Y hY => HBX.out Y (grown_trans hg2 hY)
  have HGc : Hid (∀ Y, w2.grownBy Y none → GAt Y ta' na' la' pa' tc' nc' lc' pc' ts ns lv n L R ra' rc' V) := fun Y hY => HG1.out.kept (grown_trans HWX.out (grown_trans hg2 hY))
  have HGg : Hid (∀ Y, w2.grownBy Y none → GAt Y ta na la pa tc nc lc pc ts ns lv n L R ra rc V) := fun Y hY => HG.out.kept (grown_trans HWX0.out (grown_trans hg2 hY))
  have HIg : Hid (∀ Y, w2.grownBy Y none → IntsAt Y sa l) := fun Y hY => HI.out.kept (grown_trans HWX0.out (grown_trans hg2 hY))
  have HW2 : Hid (w.grownBy w2 none) := grown_trans HWX0.out hg2
  clear hL hg2 KL HBX HWX HG1 HN1 HG HI
  have hEi : Hid (∀ Y, w2.grownBy Y none → Calls Try.prog 22 #[.agg #[.slice ta tn tc, .slice na nn nc, .slice la ln lc, .int .i64 st, .slice pa n pc]] Y fun e w' => e = .returned (.bool r) ∧ Y.grownBy w' none) := fun Y hY => rEither_any ta na la pa tc nc lc pc ts ns lv n L R ra rc V st Y tn nn ln HLN.out (HGg.out Y hY) HTS.out.1 HTS.out.2 r HR.out
  have hSy : Hid (∀ Y, w2.grownBy Y none → r = true → ∀ k : Nat, k < tn + nn → ∀ Z, Y.grownBy Z none → Calls Try.prog 32 #[.agg #[.slice ta tn tc, .slice na nn nc, .slice la ln lc, .int .i64 st, .slice pa n pc], .int .i64 k] Z fun e w' => e = .returned (.string (strOf (symT ts ns k))) ∧ Z.grownBy w' none) := fun Y hY hrt k hk Z hZ => doc_symbol HLN.out (HGg.out Y hY) (HR.out.1 hrt) k hk Z hZ
  have hDo : Hid (∀ d, ∀ Y, w2.grownBy Y none → r = true → ∀ k : Nat, k < n → ∀ Z, Y.grownBy Z none → Calls Try.prog 38 #[.agg #[.slice ta tn tc, .slice na nn nc, .slice la ln lc, .int .i64 st, .slice pa n pc], .agg #[.int .i64 (L k), .slice (ra k) (R k).length (rc k), .int .i64 (V k)], .int .i64 d] Z fun e w' => e = .returned (.string (strOf (dotT ts ns (L k) (R k) d ((R k).length + 1)))) ∧ Z.grownBy w' none) := fun d Y hY hrt k hk Z hZ => doc_dotted HLN.out (HGg.out Y hY) (HR.out.1 hrt) H5.out d k hk Z hZ
  have hSL : Hid (r = true → ∀ k : Nat, k < tn + nn → (symT ts ns k).length ≤ 1000) := fun hrt k hk => by
    have := symT_le (HR.out.1 hrt) k (by rw [HLN.out.1, HLN.out.2.1]; exact hk)
    omega
  -- rows
  obtain ⟨qr, hqr⟩ := boolOf (∀ i, i < m → 0 ≤ l.getD i 0 ∧ l.getD i 0 < (tn : Int) + nn)
  obtain ⟨s1, hs1⟩ : ∃ s : ByteArray, s = if r && qr then strOf (symsT ts ns false l) else ⟨#[]⟩ := ⟨_, rfl⟩
  obtain ⟨e1, he1⟩ : ∃ e : Int, e = if r && qr then 0 else 1 := ⟨_, rfl⟩
  have KR : Hid (∀ Y, w2.grownBy Y none → Calls Try.prog 13 #[.agg #[.slice ta' tn tc', .slice na' nn nc', .slice la' ln lc', .int .i64 st, .slice pa' n pc'], .slice (some ⟨G0, 0, none⟩) m (m + 8)] Y fun e w' => e = .returned (.tuple #[.string s1, .int .i64 e1]) ∧ Y.grownBy w' none) := fun Y hY => by
    rw [hs1, he1]
    refine row_any ta' na' la' pa' tc' nc' lc' pc' ts ns lv n L R ra' rc' V st Y tn nn ln HLN.out (HGc.out Y hY) r HR.out _ m (m + 8) l HM.out (IntsAt.kept HLT.out.ints hY) (by omega) qr hqr (fun hrt hqt => ?_)
    have h9 := symsT_short (HR.out.1 hrt) l (fun z hz => by
      obtain ⟨i, hi, rfl⟩ := List.getElem_of_mem hz
      have := hqr.1 hqt i (by rw [← HM.out]; exact hi)
      rw [HLN.out.1, HLN.out.2.1]
      simpa [List.getD, hi] using this)
    rw [HM.out] at h9
    omega
  have KRr : Hid (∀ Y, w2.grownBy Y none → Calls Try.prog 14 #[.agg #[.slice ta tn tc, .slice na nn nc, .slice la ln lc, .int .i64 st, .slice pa n pc], .slice sa m cap] Y fun e w' => e = .returned (.tuple #[.string s1, .int .i64 e1]) ∧ Y.grownBy w' none) := fun Y hY => by
    rw [hs1, he1]
    exact rRow_any ta na la pa tn nn ln n tc nc lc pc st ts ns Y HLN.out.1 HLN.out.2.1 r (fun Z hZ => hEi.out Z (grown_trans hY hZ)) (hSy.out Y hY) hSL.out (by omega) (by omega) sa m cap l HM.out (HIg.out Y hY) hmm qr hqr
  have KW : Hid (∀ Y, w2.grownBy Y none → Calls Try.prog 15 #[.slice (some ⟨G0, 0, none⟩) (m + 8) (m + 8), .slice sa m cap] Y fun e w' => e = .returned (.bool true) ∧ Y.grownBy w' none) := fun Y hY => by
    have h9 := whole_any G0 (m + 8) sa cap l Y ((hY.block _ HLT.out.lt (by simp)).trans HLT.out) (HIg.out Y hY) (by rw [HM.out]; omega)
    rw [HM.out] at h9
    refine h9.mono ?_
    rintro e w' ⟨rfl, k, rfl⟩
    exact ⟨rfl, grown_drewN _ _⟩
  clear hs1 he1 hqr
  -- symbols
  obtain ⟨sS, hsS⟩ : ∃ s : Int → ByteArray, s = fun z => if r && decide (0 ≤ z ∧ z < (tn : Int) + nn) then strOf (symT ts ns z.toNat) else ⟨#[]⟩ := ⟨_, rfl⟩
  obtain ⟨eS, heS⟩ : ∃ e : Int → Int, e = fun z => if r && decide (0 ≤ z ∧ z < (tn : Int) + nn) then 0 else 1 := ⟨_, rfl⟩
  have KS : Hid (∀ z, ∀ Y, w2.grownBy Y none → Calls Try.prog 16 #[.agg #[.slice ta' tn tc', .slice na' nn nc', .slice la' ln lc', .int .i64 st, .slice pa' n pc'], .int .i64 z] Y fun e w' => e = .returned (.tuple #[.string (sS z), .int .i64 (eS z)]) ∧ Y.grownBy w' none) := fun z Y hY => by
    rw [hsS, heS]
    refine hsymbol_any ta' na' la' pa' tc' nc' lc' pc' ts ns lv n L R ra' rc' V st Y tn nn ln HLN.out (HGc.out Y hY) r HR.out z _ (by rw [decide_eq_true_eq]) (fun hrt hqt => ?_)
    have h8 := of_decide_eq_true hqt
    have h9 := symsT_short (HR.out.1 hrt) [z] (fun y hy => by
      simp only [List.mem_singleton] at hy
      subst hy
      rw [HLN.out.1, HLN.out.2.1]
      exact h8)
    simp only [List.length_cons, List.length_nil] at h9
    omega
  have KSr : Hid (∀ z, ∀ Y, w2.grownBy Y none → Calls Try.prog 17 #[.agg #[.slice ta tn tc, .slice na nn nc, .slice la ln lc, .int .i64 st, .slice pa n pc], .int .i64 z] Y fun e w' => e = .returned (.tuple #[.string (sS z), .int .i64 (eS z)]) ∧ Y.grownBy w' none) := fun z Y hY => by
    rw [hsS, heS]
    exact rSymbol_any ta na la pa tn nn ln n tc nc lc pc st ts ns Y r (fun Z hZ => hEi.out Z (grown_trans hY hZ)) (hSy.out Y hY) (by omega) (by omega) z _ rfl
  clear hsS heS
  -- productions
  obtain ⟨sP, hsP⟩ : ∃ s : ByteArray, s = if r && decide (0 ≤ ip ∧ ip < (n : Int)) then strOf (prodT ts ns (L ip.toNat) (R ip.toNat)) else ⟨#[]⟩ := ⟨_, rfl⟩
  obtain ⟨eP, heP⟩ : ∃ e : Int, e = if r && decide (0 ≤ ip ∧ ip < (n : Int)) then 0 else 1 := ⟨_, rfl⟩
  have KP : Hid (∀ Y, w2.grownBy Y none → Calls Try.prog 18 #[.agg #[.slice ta' tn tc', .slice na' nn nc', .slice la' ln lc', .int .i64 st, .slice pa' n pc'], .int .i64 ip] Y fun e w' => e = .returned (.tuple #[.string sP, .int .i64 eP]) ∧ Y.grownBy w' none) := fun Y hY => by
    rw [hsP, heP]
    exact prod_any ta' na' la' pa' tc' nc' lc' pc' ts ns lv n L R ra' rc' V st Y tn nn ln HLN.out (HGc.out Y hY) r HR.out ip (fun hrt k hk => by have := prodT_short (HR.out.1 hrt) H5.out k hk; omega)
  have KPr : Hid (∀ Y, w2.grownBy Y none → Calls Try.prog 19 #[.agg #[.slice ta tn tc, .slice na nn nc, .slice la ln lc, .int .i64 st, .slice pa n pc], .int .i64 ip] Y fun e w' => e = .returned (.tuple #[.string sP, .int .i64 eP]) ∧ Y.grownBy w' none) := fun Y hY => by
    rw [hsP, heP, ← dot_prod]
    exact rProd_any ta na la pa tn nn ln n tc nc lc pc st ts ns L R ra rc V Y (HGg.out Y hY).prods r (fun Z hZ => hEi.out Z (grown_trans hY hZ)) (hDo.out (-1) Y hY) ip _ rfl
  clear hsP heP
  -- items
  obtain ⟨qi, hqi⟩ : ∃ q, q = decide ((0 ≤ ip ∧ ip < (n : Int)) ∧ 0 ≤ id ∧ id ≤ ((R ip.toNat).length : Int)) := ⟨_, rfl⟩
  obtain ⟨sI, hsI⟩ : ∃ s : ByteArray, s = if r && qi then strOf (itemT ts ns (L ip.toNat) (R ip.toNat) id.toNat) else ⟨#[]⟩ := ⟨_, rfl⟩
  obtain ⟨eI, heI⟩ : ∃ e : Int, e = if r && qi then 0 else 1 := ⟨_, rfl⟩
  have KI : Hid (∀ Y, w2.grownBy Y none → Calls Try.prog 20 #[.agg #[.slice ta' tn tc', .slice na' nn nc', .slice la' ln lc', .int .i64 st, .slice pa' n pc'], .agg #[.int .i64 ip, .int .i64 id]] Y fun e w' => e = .returned (.tuple #[.string sI, .int .i64 eI]) ∧ Y.grownBy w' none) := fun Y hY => by
    rw [hsI, heI]
    exact item_any ta' na' la' pa' tc' nc' lc' pc' ts ns lv n L R ra' rc' V st Y tn nn ln HLN.out (HGc.out Y hY) HRC.out r HR.out ip id (fun hrt => prodT_short (HR.out.1 hrt) H5.out) qi hqi
  have KIr : Hid (∀ Y, w2.grownBy Y none → Calls Try.prog 21 #[.agg #[.slice ta tn tc, .slice na nn nc, .slice la ln lc, .int .i64 st, .slice pa n pc], .agg #[.int .i64 ip, .int .i64 id]] Y fun e w' => e = .returned (.tuple #[.string sI, .int .i64 eI]) ∧ Y.grownBy w' none) := fun Y hY => by
    have h9 := rItem_any ta na la pa tn nn ln n tc nc lc pc st ts ns L R ra rc V Y (HGg.out Y hY).prods r (fun Z hZ => hEi.out Z (grown_trans hY hZ)) ip id (hDo.out id Y hY) qi hqi
    rw [hsI, heI]
    cases qi with
    | false => simpa using h9
    | true =>
      have h8 := of_decide_eq_true hqi.symm
      obtain ⟨dn, rfl⟩ : ∃ dn : Nat, id = (dn : Int) := ⟨id.toNat, by omega⟩
      rw [Int.toNat_natCast, ← dot_item _ _ _ _ _ (by omega)]
      exact h9
  clear hsI heI hqi
  have KSM : Hid (∀ Y, w2.grownBy Y none → Calls Try.prog 10 #[.agg #[.slice ta' tn tc', .slice na' nn nc', .slice la' ln lc', .int .i64 st, .slice pa' n pc'], .agg #[.slice ta tn tc, .slice na nn nc, .slice la ln lc, .int .i64 st, .slice pa n pc]] Y fun e w' => e = .returned (.bool true) ∧ Y.grownBy w' none) := fun Y hY => by
    have h9 := rsame_any (st := st) (st' := st) (HGc.out Y hY) (HGg.out Y hY) true ⟨fun _ => ⟨rfl, rfl, rfl, rfl, rfl, fun i hi => ⟨rfl, rfl, rfl⟩⟩, fun _ => rfl⟩
    rw [HLN.out.1, HLN.out.2.1, HLN.out.2.2] at h9
    exact h9
  have KA : Hid (∀ Y, Calls Try.prog 11 #[] Y fun e w' => e = .returned (.bool true) ∧ Y.grownBy w' none) := hawake_any
  clear HGc HGg HTS HR H5 HRC hEi hSy hDo hSL
  obtain ⟨c0, c1, c2, c3, c4⟩ := (HB.out w2 (grown_refl _ _)).2.cells
  go_wp2_with fail
  refine Calls.mono (KR.out _ (grown_refl _ _)) ?_
  rintro e w3 ⟨rfl, hg3⟩
  have HG3 : Hid (w2.grownBy w3 none) := hg3
  have gx := (HB.out w3 hg3).1
  have g0 := gx.g 0 _ rfl
  have g1 := gx.g 1 _ rfl
  have g2 := gx.g 2 _ rfl
  have g3 := gx.g 3 _ rfl
  have g4 := gx.g 4 _ rfl
  clear hg3 gx c0 c1 c2 c3 c4
  go_wp2_with fail
  refine Calls.mono (KRr.out _ HG3.out) ?_
  rintro e w4 ⟨rfl, hg4⟩
  have HG4 : Hid (w2.grownBy w4 none) := grown_trans HG3.out hg4
  clear hg4 g0 g1 g2 g3 g4 HG3
  go_wp2_with fail
  refine Calls.mono (KW.out _ HG4.out) ?_
  rintro e w5 ⟨rfl, hg5⟩
  have HG5 : Hid (w2.grownBy w5 none) := grown_trans HG4.out hg5
  clear hg5 HG4
  go_wp2_with fail
  go_loopg [14, 15, 16, 17, 18] 8 (fun gk i v15 v16 v17 v18 wr => ∃ k : Nat, k ≤ 8 ∧ gk = 8 - k ∧ i = .int .i64 k ∧ w2.grownBy wr none)
  case atStart => exact ⟨0, Nat.zero_le _, rfl, rfl, HG5.out⟩
  case round =>
    obtain ⟨k, hk, hgk, rfl, hG⟩ := hrel
    have HGK : Hid (gk = 8 - k) := hgk
    have HG : Hid (w2.grownBy wr none) := hG
    clear hgk hG HG5
    by_cases hlt : k < m ∧ k < 8
    · have hkm := hlt.1
      have hk8 := hlt.2
      clear hlt
      have hd1 : (k : Int) < (m : Int) := by omega
      have hd2 : (k : Int) < 8 := by omega
      obtain ⟨sb, so, rfl, hc⟩ : ∃ sb so, sa = some ⟨sb, so, none⟩ ∧ ∀ i, i < l.length → w2.cell? ⟨sb, so + i, none⟩ = some (.int .i64 (l.getD i 0)) := by
        rcases HIg.out w2 (grown_refl _ _) with h | h
        · have h9 := HM.out; rw [h] at h9; simp at h9; omega
        · exact h
      have c0 := hc k (by rw [HM.out]; exact hkm)
      obtain ⟨z, hz⟩ : ∃ z, z = l.getD k 0 := ⟨_, rfl⟩
      rw [← hz] at c0
      have HKC : Hid (∀ Y, w2.grownBy Y none → Y.cell? ⟨C, 0, none⟩ = some (.slice ta' tn tc') ∧ Y.cell? ⟨C, 1, none⟩ = some (.slice na' nn nc') ∧ Y.cell? ⟨C, 2, none⟩ = some (.slice la' ln lc') ∧ Y.cell? ⟨C, 3, none⟩ = some (.int .i64 st) ∧ Y.cell? ⟨C, 4, none⟩ = some (.slice pa' n pc') ∧ Y.cell? ⟨sb, so + k, none⟩ = some (.int .i64 z)) := fun Y hY => by
        obtain ⟨q0, q1, q2, q3, q4⟩ := (HB.out Y hY).2.cells
        exact ⟨q0, q1, q2, q3, q4, hY.cell c0 (by simp)⟩
      have HKG : Hid (∀ Y, w2.grownBy Y none → Y.cell? ⟨w.heap.size, 0, none⟩ = some (.slice ta tn tc) ∧ Y.cell? ⟨w.heap.size, 1, none⟩ = some (.slice na nn nc) ∧ Y.cell? ⟨w.heap.size, 2, none⟩ = some (.slice la ln lc) ∧ Y.cell? ⟨w.heap.size, 3, none⟩ = some (.int .i64 st) ∧ Y.cell? ⟨w.heap.size, 4, none⟩ = some (.slice pa n pc) ∧ Y.cell? ⟨sb, so + k, none⟩ = some (.int .i64 z)) := fun Y hY => by
        have hx := (HB.out Y hY).1
        exact ⟨hx.g 0 _ rfl, hx.g 1 _ rfl, hx.g 2 _ rfl, hx.g 3 _ rfl, hx.g 4 _ rfl, hY.cell c0 (by simp)⟩
      have hk0 : (0 : Int) ≤ (k : Int) := by omega
      have HKS := KS.out z
      have HKSr := KSr.out z
      obtain ⟨sz, hsz⟩ : ∃ x, x = sS z := ⟨_, rfl⟩
      obtain ⟨ez, hez⟩ : ∃ x, x = eS z := ⟨_, rfl⟩
      rw [← hsz, ← hez] at HKS HKSr
      have HKS1 := show Hid _ from HKS
      have HKSr1 := show Hid _ from HKSr
      clear hc hz c0 HKS HKSr hsz hez
      have HGc : Hid (w2.grownBy wr.drew none) := grown_trans HG.out (grown_drewN _ 1)
      go_wp2_with fail
      go_region_held3 (fun w' => w'.cell? ⟨C, 0, none⟩ = some (.slice ta' tn tc') ∧ w'.cell? ⟨C, 1, none⟩ = some (.slice na' nn nc') ∧ w'.cell? ⟨C, 2, none⟩ = some (.slice la' ln lc') ∧ w'.cell? ⟨C, 3, none⟩ = some (.int .i64 st) ∧ w'.cell? ⟨C, 4, none⟩ = some (.slice pa' n pc') ∧ w'.cell? ⟨sb, so + k, none⟩ = some (.int .i64 z)) (first | exact HKC.out _ HGc.out | go_keep)
        ((go_at_call 16; refine Calls.mono (HKS1.out _ HGc.out) ?_; rintro e w6 ⟨rfl, hg6⟩; have HGc : Hid (w2.grownBy w6 none) := grown_trans HGc.out hg6))
      have HG6 : Hid (w2.grownBy w6 none) := HGc.out
      clear hg6 HGc
      have HGc : Hid (w2.grownBy w6.drew none) := grown_trans HG6.out (grown_drewN _ 1)
      go_wp2_with fail
      go_region_held3 (fun w' => w'.cell? ⟨w.heap.size, 0, none⟩ = some (.slice ta tn tc) ∧ w'.cell? ⟨w.heap.size, 1, none⟩ = some (.slice na nn nc) ∧ w'.cell? ⟨w.heap.size, 2, none⟩ = some (.slice la ln lc) ∧ w'.cell? ⟨w.heap.size, 3, none⟩ = some (.int .i64 st) ∧ w'.cell? ⟨w.heap.size, 4, none⟩ = some (.slice pa n pc) ∧ w'.cell? ⟨sb, so + k, none⟩ = some (.int .i64 z)) (first | exact HKG.out _ HGc.out | go_keep)
        ((go_at_call 17; refine Calls.mono (HKSr1.out _ HGc.out) ?_; rintro e w7 ⟨rfl, hg7⟩; have HGc : Hid (w2.grownBy w7 none) := grown_trans HGc.out hg7))
      have HG7 : Hid (w2.grownBy w7 none) := HGc.out
      clear hg7 HGc
      go_wp2_with fail
      go_roundg (8 - (k + 1))
      case measure => have := HGK.out; omega
      case rel => exact ⟨k + 1, by omega, rfl, by go_num, HG7.out⟩
    · have hcx : (k : Int) < (m : Int) → ¬ ((k : Int) < 8) := fun h => by omega
      have HCX : Hid ((k : Int) < (m : Int) → ¬ ((k : Int) < 8)) := hcx
      clear hcx hlt
      obtain ⟨hx, hy⟩ := HB.out wr HG.out
      obtain ⟨c0, c1, c2, c3, c4⟩ := hy.cells
      have i0 := hx.i 0 _ rfl
      have i1 := hx.i 1 _ rfl
      clear hx hy
      by_cases hkm : (k : Int) < (m : Int)
      all_goals
        try have hk8 : ¬ ((k : Int) < 8) := HCX.out hkm
        go_wp2_with fail
        refine Calls.mono (KP.out _ HG.out) ?_
        rintro e w8 ⟨rfl, hg8⟩
        have HG8 : Hid (w2.grownBy w8 none) := grown_trans HG.out hg8
        clear hg8 c0 c1 c2 c3 c4 i0 i1
        obtain ⟨hx, hy⟩ := HB.out w8 HG8.out
        have g0 := hx.g 0 _ rfl
        have g1 := hx.g 1 _ rfl
        have g2 := hx.g 2 _ rfl
        have g3 := hx.g 3 _ rfl
        have g4 := hx.g 4 _ rfl
        have i0 := hx.i 0 _ rfl
        have i1 := hx.i 1 _ rfl
        clear hx hy
        go_wp2_with fail
        refine Calls.mono (KPr.out _ HG8.out) ?_
        rintro e w9 ⟨rfl, hg9⟩
        have HG9 : Hid (w2.grownBy w9 none) := grown_trans HG8.out hg9
        clear hg9 g0 g1 g2 g3 g4 i0 i1
        obtain ⟨hx, hy⟩ := HB.out w9 HG9.out
        obtain ⟨c0, c1, c2, c3, c4⟩ := hy.cells
        have i0 := hx.i 0 _ rfl
        have i1 := hx.i 1 _ rfl
        clear hx hy
        go_wp2_with fail
        refine Calls.mono (KI.out _ HG9.out) ?_
        rintro e w10 ⟨rfl, hg10⟩
        have HG10 : Hid (w2.grownBy w10 none) := grown_trans HG9.out hg10
        clear hg10 c0 c1 c2 c3 c4 i0 i1
        obtain ⟨hx, hy⟩ := HB.out w10 HG10.out
        have g0 := hx.g 0 _ rfl
        have g1 := hx.g 1 _ rfl
        have g2 := hx.g 2 _ rfl
        have g3 := hx.g 3 _ rfl
        have g4 := hx.g 4 _ rfl
        have i0 := hx.i 0 _ rfl
        have i1 := hx.i 1 _ rfl
        clear hx hy
        go_wp2_with fail
        refine Calls.mono (KIr.out _ HG10.out) ?_
        rintro e w11 ⟨rfl, hg11⟩
        have HG11 : Hid (w2.grownBy w11 none) := grown_trans HG10.out hg11
        clear hg11 g0 g1 g2 g3 g4 i0 i1
        obtain ⟨hx, hy⟩ := HB.out w11 HG11.out
        obtain ⟨c0, c1, c2, c3, c4⟩ := hy.cells
        have g0 := hx.g 0 _ rfl
        have g1 := hx.g 1 _ rfl
        have g2 := hx.g 2 _ rfl
        have g3 := hx.g 3 _ rfl
        have g4 := hx.g 4 _ rfl
        clear hx hy
        go_wp2_with fail
        refine Calls.mono (KSM.out _ HG11.out) ?_
        rintro e w12 ⟨rfl, hg12⟩
        have HG12 : Hid (w2.grownBy w12 none) := grown_trans HG11.out hg12
        clear hg12 g0 g1 g2 g3 g4 c0 c1 c2 c3 c4
        go_wp2_with fail
        refine Calls.mono (KA.out _) ?_
        rintro e w13 ⟨rfl, hg13⟩
        have HG13 : Hid (w2.grownBy w13 none) := grown_trans HG12.out hg13
        clear hg13
        go_wp2_with fail
        go_ret
        exact ⟨rfl, grown_trans HW2.out HG13.out⟩

end Go.Proofs.Ytkhmhcinepfemaa
