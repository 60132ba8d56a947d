/-
  The document's Text.
-/
import Derived.Test.YtkhmhcinepfemaaQcleelpihcmlk
namespace Go.Proofs.Ytkhmhcinepfemaa
open Go.RowKit Go.Maps Go.Shelf

attribute [local go_sem] Oper.semAt_some

theorem bs_lit (l : List UInt8) : (⟨l.toArray⟩ : ByteArray) = strOf l := rfl

/-- Of a grammar that may be: what the document's Text writes of one rule, up to its j-th symbol. -/
def ruleTo (ts : List (ByteArray × Int)) (ns : List ByteArray) (z : Int) (l : List Int) (j : Nat) : List UInt8 := symT ts ns z.toNat ++ [32, 58] ++ symsT ts ns true (l.take j)

/-- The least terminal of a level, looked for from the last one. -/
def leastFrom (ts : List (ByteArray × Int)) (lev : Int) : Nat → Nat → Nat
  | 0, b => b
  | k + 1, b => leastFrom ts lev k (if (ts.getD (k + 1) (⟨#[]⟩, 0)).2 = lev then k + 1 else b)

theorem least_first (ts : List (ByteArray × Int)) (lev : Int) : ∀ k b, leastFrom ts lev k b = match (ofLev ts lev (upTo k)) with | [] => b | z :: _ => z.toNat
  | 0, b => by simp [leastFrom, upTo, ofLev]
  | k + 1, b => by
    have e : (((k : Int) + 1)).toNat = k + 1 := by omega
    rw [leastFrom, least_first ts lev k, upTo_succ, ofLev_snoc, e]
    by_cases hl : (ts.getD (k + 1) (⟨#[]⟩, 0)).2 = lev
    · rw [if_pos hl, if_pos hl]
      cases ofLev ts lev (upTo k) with
      | nil => simp [e]
      | cons a r => simp
    · rw [if_neg hl, if_neg hl]

theorem BRowAt.other {w w' : World} {base g : Nat} {v : Value} {bs : List UInt8} {cs : Array Value} {t : TypeId} {fz : Nat × Nat} (h : BRowAt w base v bs) (hg : w.grownBy w' v.ownBlock) (hb : w.heap[g]? = some (.cells cs t fz)) (ht : t ≠ 5) : w'.heap[g]? = some (.cells cs t fz) := by
  refine (hg.block g (Array.getElem?_eq_some_iff.1 hb).1 ?_).trans hb
  intro e
  rcases h with ⟨rfl, _⟩ | ⟨g', cap, cur, fz', rfl, _, hc, _⟩
  · simp [Value.ownBlock] at e
  · simp only [Value.ownBlock, Option.some.injEq] at e
    subst e
    rw [hc] at hb
    simp only [Option.some.injEq, Obj.cells.injEq] at hb
    exact ht hb.2.1.symm

theorem strOf_three (a b c : List UInt8) : strOf a ++ strOf b ++ strOf c = strOf (a ++ b ++ c) := by rw [strOf_append, strOf_append]

theorem rulesT_mono (ts : List (ByteArray × Int)) (ns : List ByteArray) (L : Nat → Int) (R : Nat → List Int) (V : Nat → Int) {k n : Nat} (h : k ≤ n) : (rulesT ts ns L R V k).length ≤ (rulesT ts ns L R V n).length := by
  induction n with
  | zero => have : k = 0 := by omega
            subst this; exact Nat.le_refl _
  | succ m ih =>
    by_cases e : k = m + 1
    · subst e; exact Nat.le_refl _
    · have := ih (by omega)
      rw [rulesT, List.length_append]
      omega

theorem rsum_le {R : Nat → List Int} {n : Nat} (h : ∀ i, i < n → (R i).length ≤ 1048576) : ∀ k, k ≤ n → rsum R k ≤ k * 1048576
  | 0, _ => by simp [rsum]
  | k + 1, hk => by
    have h1 := rsum_le h k (by omega)
    have h2 := h k (by omega)
    simp only [rsum]
    omega

theorem strOf_inj {a b : List UInt8} (h : strOf a = strOf b) : a = b := by
  have := congrArg (fun s => s.data.toList) h
  simpa [strOf] using this

section
variable {ts : List (ByteArray × Int)} {ns : List ByteArray} {lv : List Int} {st : Int} {n : Nat} {L : Nat → Int} {R : Nat → List Int} {V : Nat → Int}

/-- Which productions are written: all but the added one. -/
theorem left_name (h : validOK ts ns lv st n L R V ∨ closedOK ts ns lv st n L R V) : ∃ ad, ad ≤ 1 ∧ 1 + ad ≤ n ∧ (∀ i, i < ad → ns.getD ((L i).toNat - ts.length) ByteArray.empty = ⟨#[]⟩ ∧ symT ts ns (L i).toNat = [36, 115, 116, 97, 114, 116]) ∧ ∀ i, ad ≤ i → i < n → ¬ ns.getD ((L i).toNat - ts.length) ByteArray.empty = ⟨#[]⟩ ∧ ¬ symT ts ns (L i).toNat = [36, 115, 116, 97, 114, 116] := by
  obtain ⟨ad, had, hf, ha⟩ := either_fits h
  have htp := hf.terms.1.1
  refine ⟨ad, had, hf.p1, fun i hi => ?_, fun i hi hn => ?_⟩
  · have h1 : ad = 1 := by omega
    have h0 : i = 0 := by omega
    subst h0
    have hA := ha h1
    have e : (L 0).toNat = ts.length := by rw [hA.left]; omega
    have e2 : ns.getD 0 ByteArray.empty = ⟨#[]⟩ := hA.name
    rw [e, Nat.sub_self]
    refine ⟨e2, ?_⟩
    rw [symT, if_neg (by omega), if_neg (by omega), Nat.sub_self, if_pos e2]
  · have hp := (hf.prods i hi hn).1
    unfold isNonI at hp
    have hN := (hf.nons ((L i).toNat - ts.length) (by omega) (by omega)).1
    obtain ⟨s, hs⟩ : ∃ s, s = ns.getD ((L i).toNat - ts.length) ByteArray.empty := ⟨_, rfl⟩
    have hN' : isNameB s = true := by rw [hs]; exact hN
    have hsz : 1 ≤ s.size := by
      have hh := hN'
      unfold isNameB lenOK at hh
      simp only [Bool.and_eq_true, decide_eq_true_eq] at hh
      exact hh.1.1
    have hne : ¬ s = ⟨#[]⟩ := fun e => by
      have h9 : s.size = 0 := by rw [e]; rfl
      omega
    rw [← hs]
    refine ⟨hne, fun e => ?_⟩
    rw [symT, if_neg (by omega), if_neg (by omega), ← hs, if_neg hne] at e
    have h0 : nameB 0 (chr s 0) = true := by
      have hh := hN'
      unfold isNameB at hh
      rw [Bool.and_eq_true] at hh
      exact List.all_eq_true.1 hh.2 0 (List.mem_range.2 (by omega))
    have hc : chr s 0 = 36 := by unfold chr; rw [e]; rfl
    rw [hc] at h0
    revert h0
    decide
end

set_option maxRecDepth 100000 in
set_option maxHeartbeats 8000000 in
theorem rtext_core (ta na la pa : Option Addr) (tc nc lc pc : Nat) (ts : List (ByteArray × Int)) (ns : List ByteArray) (lv : List Int) (n : Nat) (L : Nat → Int) (R : Nat → List Int) (ra : Nat → Option Addr) (rc : Nat → Nat) (V : Nat → Int) (st : Int) (w : World) (tn nn ln : Nat) (hlen : ts.length = tn ∧ ns.length = nn ∧ lv.length = ln) (hG : GAt w ta na la pa tc nc lc pc ts ns lv n L R ra rc V)
    (h5 : ∀ i, i < n → (R i).length ≤ 1048576) (hts : ∀ t ∈ ts, t.1.size ≤ 140737488355328) (hns : ∀ s ∈ ns, s.size ≤ 140737488355328) (hv : validOK ts ns lv st n L R V ∨ closedOK ts ns lv st n L R V) :
    Calls Try.prog 9 #[.agg #[.slice ta tn tc, .slice na nn nc, .slice la ln lc, .int .i64 st, .slice pa n pc]] w fun e w' => e = .returned (.tuple #[.string (if (textT ts ns lv st n L R V).length ≤ 8192 then strOf (textT ts ns lv st n L R V) else ⟨#[]⟩), .int .i64 (if (textT ts ns lv st n L R V).length ≤ 8192 then 0 else 11)]) ∧ w.grownBy w' none := by
  obtain ⟨hT1, _⟩ := either_text hv
  rw [hlen.1, hlen.2.1, hlen.2.2] at hT1
  obtain ⟨ad, had, hp1, hadd1, hadd2⟩ := left_name hv
  obtain ⟨_, _, hf, _⟩ := either_fits hv
  have htp : 1 ≤ tn := by have := hf.terms.1.1; rw [hlen.1] at this; exact this
  have htl : tn ≤ 65 := by have := hf.tn; rw [hlen.1] at this; exact this
  have hln : ln ≤ 64 := by have := hf.ln; rw [hlen.2.2] at this; exact this
  have hnn : nn ≤ 65 := by have := hf.nn; rw [hlen.2.1] at this; rename_i ad2 had2 _; omega
  have hpn : n ≤ 97 := by have := hf.pn; omega
  have HSYL : Hid (∀ k, k < tn + nn → (symT ts ns k).length ≤ 18) := fun k hk => symT_le hv k (by rw [hlen.1, hlen.2.1]; exact hk)
  have HX0 : Hid (PhAt w (w.alloc (.cells #[.slice ta tn tc, .slice na nn nc, .slice la ln lc, .int .i64 st, .slice pa n pc] 27)) w.heap.size #[.slice ta tn tc, .slice na nn nc, .slice la ln lc, .int .i64 st, .slice pa n pc]) := ⟨World.grownBy_alloc _ _ none, heap_alloc_last w _⟩
  have HE : Hid (∀ Y, w.grownBy Y none → Calls Try.prog 22 #[.agg #[.slice ta tn tc, .slice na nn nc, .slice la ln lc, .int .i64 st, .slice pa n pc]] Y fun e w' => e = .returned (.bool true) ∧ Y.grownBy w' none) := fun Y hY => rEither_any ta na la pa tc nc lc pc ts ns lv n L R ra rc V st Y tn nn ln hlen (hG.kept hY) hts hns true ⟨fun _ => hv, fun _ => rfl⟩
  have HS : Hid (∀ k : Nat, k < tn + nn → ∀ Y, w.grownBy Y none → Calls Try.prog 32 #[.agg #[.slice ta tn tc, .slice na nn nc, .slice la ln lc, .int .i64 st, .slice pa n pc], .int .i64 (k : Int)] Y fun e w' => e = .returned (.string (strOf (symT ts ns k))) ∧ Y.grownBy w' none) := fun k hk Y hY => doc_symbol hlen hG hv k hk Y hY
  have HTT : Hid (∀ Y, w.grownBy Y none → Calls Try.prog 31 #[.agg #[.slice ta tn tc, .slice na nn nc, .slice la ln lc, .int .i64 st, .slice pa n pc], .int .i64 (-1)] Y fun e w' => e = .returned (.string (strOf (symsT ts ns true (upTo (tn - 1))))) ∧ Y.grownBy w' none) := fun Y hY => rterms_any ta na la pa tn nn ln n tc nc lc pc st ts ns Y (hG.kept hY).terms (hG.kept hY).nons hlen.1 hlen.2.1 htp (by omega) (by omega) (fun k hk => by have := HSYL.out k (by omega); omega) (-1) upTo rfl (fun k h1 h2 => by
    rw [if_pos (.inl (by omega))]
    have := upTo_succ (k - 1)
    rw [show k - 1 + 1 = k by omega] at this
    rw [this]
    congr 2
    omega)
  have HTL : Hid (∀ lev : Int, 0 ≤ lev → ∀ Y, w.grownBy Y none → Calls Try.prog 31 #[.agg #[.slice ta tn tc, .slice na nn nc, .slice la ln lc, .int .i64 st, .slice pa n pc], .int .i64 lev] Y fun e w' => e = .returned (.string (strOf (symsT ts ns true (ofLev ts lev (upTo (tn - 1)))))) ∧ Y.grownBy w' none) := fun lev hlev Y hY => rterms_any ta na la pa tn nn ln n tc nc lc pc st ts ns Y (hG.kept hY).terms (hG.kept hY).nons hlen.1 hlen.2.1 htp (by omega) (by omega) (fun k hk => by have := HSYL.out k (by omega); omega) lev (fun k => ofLev ts lev (upTo k)) rfl (fun k h1 h2 => by
    have e1 := upTo_succ (k - 1)
    rw [show k - 1 + 1 = k by omega] at e1
    have e2 : ((k - 1 : Nat) : Int) + 1 = (k : Int) := by omega
    rw [e2] at e1
    show ofLev ts lev (upTo k) = _
    rw [e1, ofLev_snoc, Int.toNat_natCast]
    by_cases hl : (ts.getD k (⟨#[]⟩, 0)).2 = lev
    · rw [if_pos hl, if_pos (.inr hl)]
    · rw [if_neg hl, if_neg (by intro h; rcases h with h | h; · omega
                                · exact hl h)])
  have HLEV : Hid (∀ i, i < ln → 1 ≤ lv.getD i 0 ∧ lv.getD i 0 ≤ 3) := fun i hi => (hf.levels i (by rw [hlen.2.2]; exact hi)).1
  have HG : Hid (GAt w ta na la pa tc nc lc pc ts ns lv n L R ra rc V) := hG
  have HLN : Hid (ts.length = tn ∧ ns.length = nn ∧ lv.length = ln) := hlen
  have HV : Hid (validOK ts ns lv st n L R V ∨ closedOK ts ns lv st n L R V) := hv
  have H5 : Hid (∀ i, i < n → (R i).length ≤ 1048576) := h5
  have HA1 : Hid (∀ i, i < ad → ns.getD ((L i).toNat - ts.length) ByteArray.empty = ⟨#[]⟩ ∧ symT ts ns (L i).toNat = [36, 115, 116, 97, 114, 116]) := hadd1
  have HA2 : Hid (∀ i, ad ≤ i → i < n → ¬ ns.getD ((L i).toNat - ts.length) ByteArray.empty = ⟨#[]⟩ ∧ ¬ symT ts ns (L i).toNat = [36, 115, 116, 97, 114, 116]) := hadd2
  have HT1 := show Hid _ from hT1
  have HKG : Hid (∀ Y, (w.alloc (.cells #[.slice ta tn tc, .slice na nn nc, .slice la ln lc, .int .i64 st, .slice pa n pc] 27)).grownBy Y none → Y.cell? ⟨w.heap.size, 0, none⟩ = some (.slice ta tn tc) ∧ Y.cell? ⟨w.heap.size, 1, none⟩ = some (.slice na nn nc) ∧ Y.cell? ⟨w.heap.size, 2, none⟩ = some (.slice la ln lc) ∧ Y.cell? ⟨w.heap.size, 3, none⟩ = some (.int .i64 st) ∧ Y.cell? ⟨w.heap.size, 4, none⟩ = some (.slice pa n pc)) := fun Y hY => (HX0.out.kept hY).cells
  clear hG hlen hv h5 hts hns hadd1 hadd2 hT1 hf
  obtain ⟨X0, hX0⟩ : ∃ X, X = w.alloc (.cells #[.slice ta tn tc, .slice na nn nc, .slice la ln lc, .int .i64 st, .slice pa n pc] 27) := ⟨_, rfl⟩
  have HWX : Hid (w.grownBy X0 none) := by rw [hX0]; exact World.grownBy_alloc _ _ none
  rw [← hX0] at HKG
  have HX : Hid (X0 = w.alloc (.cells #[.slice ta tn tc, .slice na nn nc, .slice la ln lc, .int .i64 st, .slice pa n pc] 27)) := hX0
  clear hX0 HX0
  go_enter Try.func9, Try.ntmps9
  go_wp2_with fail
  rw [← HX.out]
  clear HX
  refine Calls.mono (HE.out _ HWX.out) ?_
  rintro e w1 ⟨rfl, hg1⟩
  have HG1 : Hid (X0.grownBy w1 none) := hg1
  clear hg1
  have HUP : Hid (∀ l : List Int, (∀ z ∈ l, 0 ≤ z ∧ z < (tn : Int) + nn) → (symsT ts ns true l).length ≤ 19 * l.length) := fun l hl => symsT_short HV.out l (by rw [HLN.out.1, HLN.out.2.1]; exact hl)
  obtain ⟨k0, k1, k2, k3, k4⟩ := HKG.out w1 HG1.out
  by_cases htk : 1 < tn
  case' pos =>
    have hti : (1 : Int) < (tn : Int) := by omega
    obtain ⟨tt, htt⟩ : ∃ x, x = strOf (symsT ts ns true (upTo (tn - 1))) := ⟨_, rfl⟩
    have HTT2 := HTT.out
    rw [← htt] at HTT2
    have HTT3 := show Hid _ from HTT2
    have hts2 : tt.size ≤ 1300 := by
      rw [htt, strOf_size]
      have h9 := HUP.out (upTo (tn - 1)) (fun z hz => by
        simp only [upTo, List.mem_map, List.mem_range] at hz
        obtain ⟨i, hi, rfl⟩ := hz
        omega)
      rw [upTo_len] at h9
      omega
    have HSTR : Hid ({ data := #[37, 116, 111, 107, 101, 110] } ++ tt ++ { data := #[32, 59, 10] } = strOf (tokT ts ns)) := by
      show _ = _
      rw [htt, show ({ data := #[37, 116, 111, 107, 101, 110] } : ByteArray) = strOf [37, 116, 111, 107, 101, 110] from rfl, show ({ data := #[32, 59, 10] } : ByteArray) = strOf [32, 59, 10] from rfl, strOf_three, tokT, HLN.out.1, if_neg (by omega)]
      rfl
    have HTKL : Hid ((tokT ts ns).length ≤ 1400) := by
      show _ ≤ _
      have h9 := congrArg ByteArray.size HSTR.out
      rw [strOf_size] at h9
      rw [← h9]
      simp
      have e1 : ({ data := #[37, 116, 111, 107, 101, 110] } : ByteArray).size = 6 := rfl
      have e2 : ({ data := #[32, 59, 10] } : ByteArray).size = 3 := rfl
      omega
    clear htt HTT2 HTT
    go_wp2_with fail
    refine Calls.mono (HTT3.out _ (grown_trans HWX.out HG1.out)) ?_
    rintro e w2 ⟨rfl, hg2⟩
    have HG2 : Hid (X0.grownBy w2 none) := grown_trans HG1.out hg2
    clear hg2 k0 k1 k2 k3 k4
    go_wp2_with (at_builtin; refine wpList_append_B rfl (.tmp 20) (.tmp 24) rfl X0.heap.size (.slice none 0 0) [] (tokT ts ns) _ HSTR.out rfl rfl (BRowAt.nil _ _) (by have := HTKL.out; simp; omega) HG2.out.size ?_; intro v3 w3 hB3 hg3; have HB3 : Hid (BRowAt w3 X0.heap.size v3 (tokT ts ns)) := (by rw [List.nil_append] at hB3; exact hB3); have HG3 : Hid (X0.grownBy w3 none) := grown_trans HG2.out hg3; clear hB3 hg3 HG2)
    obtain ⟨SB, hSB⟩ : ∃ x, x = w3.heap.size := ⟨_, rfl⟩
    obtain ⟨WS, hWS⟩ : ∃ x, x = w3.alloc (.cells #[.string { data := #[] }, .string { data := #[37, 108, 101, 102, 116] }, .string { data := #[37, 114, 105, 103, 104, 116] }, .string { data := #[37, 110, 111, 110, 97, 115, 115, 111, 99] }] 9) := ⟨_, rfl⟩
    have HBS : Hid (BRowAt WS X0.heap.size v3 (tokT ts ns)) := by rw [hWS]; exact HB3.out.kept (World.grownBy_alloc _ _ none)
    have HGS : Hid (X0.grownBy WS none) := by rw [hWS]; exact grown_trans HG3.out (World.grownBy_alloc _ _ none)
    have HSD : Hid (WS.heap[SB]? = some (.cells #[.string { data := #[] }, .string { data := #[37, 108, 101, 102, 116] }, .string { data := #[37, 114, 105, 103, 104, 116] }, .string { data := #[37, 110, 111, 110, 97, 115, 115, 111, 99] }] 9 (0, 0))) := by rw [hWS, hSB]; exact heap_alloc_last w3 _
    rw [← hWS, ← hSB]
    have HTKL2 : Hid ((tokT ts ns).length ≤ 1400) := HTKL.out
    clear hWS hSB HB3 HG3 HSTR HTT3 HG1 HTKL
  case' neg =>
    have hti : ¬ ((1 : Int) < (tn : Int)) := by omega
    have HTK0 : Hid (tokT ts ns = []) := by show _ = _; rw [tokT, HLN.out.1, if_pos (by omega)]
    go_wp2_with fail
    obtain ⟨SB, hSB⟩ : ∃ x, x = w1.heap.size := ⟨_, rfl⟩
    obtain ⟨WS, hWS⟩ : ∃ x, x = w1.alloc (.cells #[.string { data := #[] }, .string { data := #[37, 108, 101, 102, 116] }, .string { data := #[37, 114, 105, 103, 104, 116] }, .string { data := #[37, 110, 111, 110, 97, 115, 115, 111, 99] }] 9) := ⟨_, rfl⟩
    have HBS : Hid (BRowAt WS X0.heap.size (.slice none 0 0) (tokT ts ns)) := by rw [HTK0.out]; exact BRowAt.nil _ _
    have HGS : Hid (X0.grownBy WS none) := by rw [hWS]; exact grown_trans HG1.out (World.grownBy_alloc _ _ none)
    have HSD : Hid (WS.heap[SB]? = some (.cells #[.string { data := #[] }, .string { data := #[37, 108, 101, 102, 116] }, .string { data := #[37, 114, 105, 103, 104, 116] }, .string { data := #[37, 110, 111, 110, 97, 115, 115, 111, 99] }] 9 (0, 0))) := by rw [hWS, hSB]; exact heap_alloc_last w1 _
    have HTKL2 : Hid ((tokT ts ns).length ≤ 1400) := by rw [HTK0.out]; exact Nat.zero_le _
    rw [← hWS, ← hSB]
    clear hWS hSB HTK0 HTT HG1 k0 k1 k2 k3 k4
  all_goals
    have HSBX : Hid (X0.heap.size ≤ SB ∨ True) := .inr trivial
    go_loopg [4, 6] ln (fun gk v4 i wr => ∃ k : Nat, k ≤ ln ∧ gk = ln - k ∧ i = .int .i64 k ∧ BRowAt wr X0.heap.size v4 (tokT ts ns ++ levsT ts ns lv k) ∧ X0.grownBy wr none ∧ wr.heap[SB]? = some (.cells #[.string { data := #[] }, .string { data := #[37, 108, 101, 102, 116] }, .string { data := #[37, 114, 105, 103, 104, 116] }, .string { data := #[37, 110, 111, 110, 97, 115, 115, 111, 99] }] 9 (0, 0)))
    case atStart => exact ⟨0, Nat.zero_le _, rfl, rfl, by rw [levsT, List.append_nil]; exact HBS.out, HGS.out, HSD.out⟩
    case round =>
      obtain ⟨k, hk, hgk, rfl, hB, hG, hSD⟩ := hrel
      have HGK : Hid (gk = ln - k) := hgk
      have HB : Hid (BRowAt wr X0.heap.size u4 (tokT ts ns ++ levsT ts ns lv k)) := hB
      have HG2 : Hid (X0.grownBy wr none) := hG
      have HSD2 : Hid (wr.heap[SB]? = some (.cells #[.string { data := #[] }, .string { data := #[37, 108, 101, 102, 116] }, .string { data := #[37, 114, 105, 103, 104, 116] }, .string { data := #[37, 110, 111, 110, 97, 115, 115, 111, 99] }] 9 (0, 0))) := hSD
      obtain ⟨k0, k1, k2, k3, k4⟩ := HKG.out wr hG
      clear hgk hB hG hSD HBS HGS HSD
      by_cases hlt : k < ln
      · obtain ⟨lb, lo, rfl, hc⟩ : ∃ lb lo, la = some ⟨lb, lo, none⟩ ∧ ∀ i, i < lv.length → w.cell? ⟨lb, lo + i, none⟩ = some (.int .i64 (lv.getD i 0)) := by
          rcases HG.out.levels with h | h
          · have h9 := HLN.out.2.2; rw [h] at h9; simp at h9; omega
          · exact h
        have c0 := hc k (by rw [HLN.out.2.2]; exact hlt)
        have hy := HLEV.out k hlt
        obtain ⟨y, hye⟩ : ∃ y : Nat, lv.getD k 0 = (y : Int) := ⟨(lv.getD k 0).toNat, by omega⟩
        rw [hye] at c0 hy
        obtain ⟨sd, hsd⟩ : ∃ x, x = orderS (y : Int) := ⟨_, rfl⟩
        have c1 : ∀ Y : World, Y.heap[SB]? = some (.cells #[.string { data := #[] }, .string { data := #[37, 108, 101, 102, 116] }, .string { data := #[37, 114, 105, 103, 104, 116] }, .string { data := #[37, 110, 111, 110, 97, 115, 115, 111, 99] }] 9 (0, 0)) → Y.cell? ⟨SB, y, none⟩ = some (.string sd) := fun Y hY => by
          rw [cell_of_row _ _ _ _ _ _ hY, hsd]
          have h3 : y = 1 ∨ y = 2 ∨ y = 3 := by omega
          rcases h3 with rfl | rfl | rfl <;> rfl
        have hsds : sd.size ≤ 9 := by
          rw [hsd]
          have h3 : y = 1 ∨ y = 2 ∨ y = 3 := by omega
          rcases h3 with rfl | rfl | rfl <;> decide
        obtain ⟨tl, htl2⟩ : ∃ x, x = strOf (symsT ts ns true (ofLev ts ((k : Int) + 1) (upTo (tn - 1)))) := ⟨_, rfl⟩
        have HTL2 : Hid (∀ Y, w.grownBy Y none → Calls Try.prog 31 #[.agg #[.slice ta tn tc, .slice na nn nc, .slice (some ⟨lb, lo, none⟩) ln lc, .int .i64 st, .slice pa n pc], .int .i64 ((k : Int) + 1)] Y fun e w' => e = .returned (.string tl) ∧ Y.grownBy w' none) := fun Y hY => by rw [htl2]; exact HTL.out ((k : Int) + 1) (by omega) Y hY
        have htls : tl.size ≤ 1300 := by
          rw [htl2, strOf_size]
          have h9 := HUP.out (ofLev ts ((k : Int) + 1) (upTo (tn - 1))) (fun z hz => by have := ofLev_mem hz; omega)
          have h8 := ofLev_len ts ((k : Int) + 1) (upTo (tn - 1))
          rw [upTo_len] at h8
          omega
        have HSTR : Hid (sd ++ tl ++ { data := #[32, 59, 10] } = strOf (headT ts ns (orderS (lv.getD k 0)) (ofLev ts ((k : Int) + 1) (upTo (ts.length - 1))))) := by
          show _ = _
          rw [htl2, ← strOf_data sd, show ({ data := #[32, 59, 10] } : ByteArray) = strOf [32, 59, 10] from rfl, strOf_three, headT, HLN.out.1, hye, hsd]
        have hadd1 : ∀ u, (Op.stringOp .add sd tl).run Try.prog u = .ok (.string (sd ++ tl)) u := fun u => run_string_add_sum u _ _ (by omega)
        have hadd2 : ∀ u, (Op.stringOp .add (sd ++ tl) { data := #[32, 59, 10] }).run Try.prog u = .ok (.string (sd ++ tl ++ { data := #[32, 59, 10] })) u := fun u => run_string_add_sum u _ _ (by have e : ({ data := #[32, 59, 10] } : ByteArray).size = 3 := rfl; simp; omega)
        have HKS : Hid (∀ Y, X0.grownBy Y none → Y.heap[SB]? = some (.cells #[.string { data := #[] }, .string { data := #[37, 108, 101, 102, 116] }, .string { data := #[37, 114, 105, 103, 104, 116] }, .string { data := #[37, 110, 111, 110, 97, 115, 115, 111, 99] }] 9 (0, 0)) → Y.cell? ⟨w.heap.size, 0, none⟩ = some (.slice ta tn tc) ∧ Y.cell? ⟨w.heap.size, 1, none⟩ = some (.slice na nn nc) ∧ Y.cell? ⟨w.heap.size, 2, none⟩ = some (.slice (some ⟨lb, lo, none⟩) ln lc) ∧ Y.cell? ⟨w.heap.size, 3, none⟩ = some (.int .i64 st) ∧ Y.cell? ⟨w.heap.size, 4, none⟩ = some (.slice pa n pc) ∧ Y.cell? ⟨lb, lo + k, none⟩ = some (.int .i64 (y : Int)) ∧ Y.cell? ⟨SB, y, none⟩ = some (.string sd)) := fun Y hY hY2 => by
          obtain ⟨q0, q1, q2, q3, q4⟩ := HKG.out Y hY
          exact ⟨q0, q1, q2, q3, q4, (grown_trans HWX.out hY).cell c0 (by simp), c1 Y hY2⟩
        have HHL : Hid ((headT ts ns (orderS (lv.getD k 0)) (ofLev ts ((k : Int) + 1) (upTo (ts.length - 1)))).length ≤ 1400) := by
          show _ ≤ _
          have h9 := congrArg ByteArray.size HSTR.out
          rw [strOf_size] at h9
          rw [← h9]
          have e2 : ({ data := #[32, 59, 10] } : ByteArray).size = 3 := rfl
          simp
          omega
        have HDL : Hid ((tokT ts ns ++ levsT ts ns lv k).length ≤ 200000) := by
          show _ ≤ _
          have h9 := levsT_short HV.out k
          rw [HLN.out.1] at h9
          have h8 : (12 + 19 * tn) * k ≤ (12 + 19 * 65) * 64 := Nat.mul_le_mul (by omega) (by omega)
          have h7 := HTKL2.out
          rw [List.length_append]
          omega
        have hk0 : (0 : Int) ≤ (k : Int) := by omega
        have hk1 : (k : Int) < (ln : Int) := by omega
        have hy0 : (0 : Int) ≤ (y : Int) := by omega
        have hy4 : (y : Int) < 4 := by omega
        have hwk : IntKind.i64.wrap ((k : Int) + 1) = (k : Int) + 1 := by simp [IntKind.wrap, IntKind.signed, IntKind.bits]; omega
        clear hc hye hsd htl2 c0 c1 hy
        have HGc : Hid (X0.grownBy wr.drew none ∧ wr.drew.heap[SB]? = some (.cells #[.string { data := #[] }, .string { data := #[37, 108, 101, 102, 116] }, .string { data := #[37, 114, 105, 103, 104, 116] }, .string { data := #[37, 110, 111, 110, 97, 115, 115, 111, 99] }] 9 (0, 0))) := ⟨grown_trans HG2.out (grown_drewN _ 1), HSD2.out⟩
        have HBc : Hid (BRowAt wr.drew X0.heap.size u4 (tokT ts ns ++ levsT ts ns lv k)) := HB.out.kept (grown_drewN _ 1)
        go_wp2_with fail
        go_region_held3 (fun w' => w'.cell? ⟨w.heap.size, 0, none⟩ = some (.slice ta tn tc) ∧ w'.cell? ⟨w.heap.size, 1, none⟩ = some (.slice na nn nc) ∧ w'.cell? ⟨w.heap.size, 2, none⟩ = some (.slice (some ⟨lb, lo, none⟩) ln lc) ∧ w'.cell? ⟨w.heap.size, 3, none⟩ = some (.int .i64 st) ∧ w'.cell? ⟨w.heap.size, 4, none⟩ = some (.slice pa n pc) ∧ w'.cell? ⟨lb, lo + k, none⟩ = some (.int .i64 (y : Int)) ∧ w'.cell? ⟨SB, y, none⟩ = some (.string sd)) (first | exact HKS.out _ HGc.out.1 HGc.out.2 | go_keep)
          ((first
            | (go_at_call 31; refine Calls.mono (HTL2.out _ (grown_trans HWX.out HGc.out.1)) ?_; rintro e w5 ⟨rfl, hg5⟩; have HBc : Hid (BRowAt w5 X0.heap.size u4 (tokT ts ns ++ levsT ts ns lv k)) := HBc.out.kept hg5; have HGc : Hid (X0.grownBy w5 none ∧ w5.heap[SB]? = some (.cells #[.string { data := #[] }, .string { data := #[37, 108, 101, 102, 116] }, .string { data := #[37, 114, 105, 103, 104, 116] }, .string { data := #[37, 110, 111, 110, 97, 115, 115, 111, 99] }] 9 (0, 0))) := ⟨grown_trans HGc.out.1 hg5, (hg5.block _ (Array.getElem?_eq_some_iff.1 HGc.out.2).1 (by simp)).trans HGc.out.2⟩)
            | (refine step_append_B rfl (.tmp 34) (.tmp 48) rfl X0.heap.size u4 (tokT ts ns ++ levsT ts ns lv k) (headT ts ns (orderS (lv.getD k 0)) (ofLev ts ((k : Int) + 1) (upTo (ts.length - 1)))) (sd ++ tl ++ { data := #[32, 59, 10] }) HSTR.out (by simp [Act.eval]) (by simp [Act.eval]) HBc.out (by have := HHL.out; have := HDL.out; omega) HGc.out.1.size ?_; intro v6 w6 hB6 hg6; have HB6 : Hid (BRowAt w6 X0.heap.size v6 (tokT ts ns ++ levsT ts ns lv k ++ headT ts ns (orderS (lv.getD k 0)) (ofLev ts ((k : Int) + 1) (upTo (ts.length - 1))))) := hB6; have HGc : Hid (X0.grownBy w6 none ∧ w6.heap[SB]? = some (.cells #[.string { data := #[] }, .string { data := #[37, 108, 101, 102, 116] }, .string { data := #[37, 114, 105, 103, 104, 116] }, .string { data := #[37, 110, 111, 110, 97, 115, 115, 111, 99] }] 9 (0, 0))) := ⟨HBc.out.grown HGc.out.1 (Nat.le_refl _) hg6, HBc.out.other hg6 HGc.out.2 (by decide)⟩)))
        go_wp2_with fail
        go_roundg (ln - (k + 1))
        case measure => have := HGK.out; omega
        case rel => exact ⟨k + 1, by omega, rfl, by go_num, by rw [levsT, ← List.append_assoc]; exact HB6.out, HGc.out.1, HGc.out.2⟩
      · obtain rfl : ln = k := by omega
        have HST : Hid (0 ≤ st ∧ st < (tn : Int) + nn) := HT1.out.2.2.2.1
        obtain ⟨sn, hsn⟩ : ∃ sn : Nat, st = (sn : Int) := ⟨st.toNat, by have := HST.out; omega⟩
        subst hsn
        have hsnn : sn < tn + nn := by have := HST.out.2; omega
        generalize wr = XR at *
        obtain ⟨sy, hsy⟩ : ∃ x, x = strOf (symT ts ns sn) := ⟨_, rfl⟩
        have hsys : sy.size ≤ 18 := by rw [hsy, strOf_size]; exact HSYL.out sn hsnn
        have HSN : Hid (∀ Y, w.grownBy Y none → Calls Try.prog 32 #[.agg #[.slice ta tn tc, .slice na nn nc, .slice la ln lc, .int .i64 (sn : Int), .slice pa n pc], .int .i64 (sn : Int)] Y fun e w' => e = .returned (.string sy) ∧ Y.grownBy w' none) := fun Y hY => by rw [hsy]; exact HS.out sn hsnn Y hY
        have HSTR : Hid ({ data := #[37, 115, 116, 97, 114, 116, 32] } ++ sy ++ { data := #[32, 59, 10] } = strOf (headT ts ns ⟨#[37, 115, 116, 97, 114, 116]⟩ [(sn : Int)])) := by
          show _ = _
          rw [hsy, show ({ data := #[37, 115, 116, 97, 114, 116, 32] } : ByteArray) = strOf [37, 115, 116, 97, 114, 116, 32] from rfl, show ({ data := #[32, 59, 10] } : ByteArray) = strOf [32, 59, 10] from rfl, strOf_three]
          simp [headT, symsT, sp]
        have HHL : Hid ((headT ts ns ⟨#[37, 115, 116, 97, 114, 116]⟩ [(sn : Int)]).length ≤ 30) := by
          show _ ≤ _
          have h9 := congrArg ByteArray.size HSTR.out
          rw [strOf_size] at h9
          rw [← h9]
          have e1 : ({ data := #[37, 115, 116, 97, 114, 116, 32] } : ByteArray).size = 7 := rfl
          have e2 : ({ data := #[32, 59, 10] } : ByteArray).size = 3 := rfl
          simp
          omega
        have HDL : Hid ((tokT ts ns ++ levsT ts ns lv ln).length ≤ 200000) := by
          show _ ≤ _
          have h9 := levsT_short HV.out ln
          rw [HLN.out.1] at h9
          have h8 : (12 + 19 * tn) * ln ≤ (12 + 19 * 65) * 64 := Nat.mul_le_mul (by omega) (by omega)
          have h7 := HTKL2.out
          rw [List.length_append]
          omega
        clear hsy
        go_wp2_with fail
        refine Calls.mono (HSN.out _ (grown_trans HWX.out HG2.out)) ?_
        rintro e w5 ⟨rfl, hg5⟩
        have HG5 : Hid (X0.grownBy w5 none) := grown_trans HG2.out hg5
        have HB5 : Hid (BRowAt w5 X0.heap.size u4 (tokT ts ns ++ levsT ts ns lv ln)) := HB.out.kept hg5
        clear hg5 k0 k1 k2 k3 k4 HB HG2 HSD2
        obtain ⟨D2, hD2⟩ : ∃ x, x = tokT ts ns ++ levsT ts ns lv ln ++ headT ts ns ⟨#[37, 115, 116, 97, 114, 116]⟩ [(sn : Int)] := ⟨_, rfl⟩
        have HD2L : Hid (D2.length ≤ 200030) := by show _ ≤ _; rw [hD2, List.length_append]; have := HDL.out; have := HHL.out; omega
        have HTXT : Hid (textT ts ns lv (sn : Int) n L R V = D2 ++ rulesT ts ns L R V n) := by show _ = _; rw [textT, hD2, HLN.out.2.2]
        go_wp2_with (at_builtin; refine wpList_append_B rfl (.tmp 50) (.tmp 56) rfl X0.heap.size u4 (tokT ts ns ++ levsT ts ns lv ln) (headT ts ns ⟨#[37, 115, 116, 97, 114, 116]⟩ [(sn : Int)]) _ HSTR.out rfl rfl HB5.out (by have := HHL.out; have := HDL.out; omega) HG5.out.size ?_; intro v6 w6 hB6 hg6; have HB6 : Hid (BRowAt w6 X0.heap.size v6 D2) := (by rw [hD2]; exact hB6); have HG6 : Hid (X0.grownBy w6 none) := HB5.out.grown HG5.out (Nat.le_refl _) hg6; clear hB6 hg6)
        clear hD2 HB5 HG5 HSTR HHL HDL HSN
        go_loopg [4, 7] n (fun gk v4 i wr => ∃ k : Nat, k ≤ n ∧ gk = n - k ∧ i = .int .i64 k ∧ BRowAt wr X0.heap.size v4 (D2 ++ rulesT ts ns L R V k) ∧ X0.grownBy wr none ∧ (k ≤ ad ∨ (D2 ++ rulesT ts ns L R V k).length ≤ 8192))
        case atStart => exact ⟨0, Nat.zero_le _, rfl, rfl, by rw [rulesT, List.append_nil]; exact HB6.out, HG6.out, .inl (Nat.zero_le _)⟩
        case round =>
          obtain ⟨k, hk, hgk, rfl, hB, hG, hLe⟩ := hrel
          have HGK : Hid (gk = n - k) := hgk
          have HB : Hid (BRowAt wr X0.heap.size u4 (D2 ++ rulesT ts ns L R V k)) := hB
          have HG2 : Hid (X0.grownBy wr none) := hG
          have HLE : Hid (k ≤ ad ∨ (D2 ++ rulesT ts ns L R V k).length ≤ 8192) := hLe
          obtain ⟨k0, k1, k2, k3, k4⟩ := HKG.out wr hG
          clear hgk hB hG hLe HB6 HG6
          by_cases hlt : k < n
          · obtain ⟨bp, op, rfl, hps⟩ : ∃ b off, pa = some ⟨b, off, none⟩ ∧ ∀ k, k < n → w.cell? ⟨b, off + k * 3, none⟩ = some (.int .i64 (L k)) ∧ w.cell? ⟨b, off + k * 3 + 1, none⟩ = some (.slice (ra k) (R k).length (rc k)) ∧ w.cell? ⟨b, off + k * 3 + 2, none⟩ = some (.int .i64 (V k)) ∧ IntsAt w (ra k) (R k) ∧ (ra k = none → rc k = 0) ∧ (R k).length ≤ 17592186044416 := by
              rcases HG.out.prods with h | h
              · omega
              · exact h
            obtain ⟨p0, p1, p2, hI, _, _⟩ := hps k hlt
            have HE2 := either_prods HV.out k hlt
            rw [HLN.out.1, HLN.out.2.1] at HE2
            obtain ⟨z, hz⟩ : ∃ z : Nat, L k = (z : Int) := ⟨(L k).toNat, by omega⟩
            have hzn : z < tn + nn := by have := HE2.1; rw [hz] at this; omega
            obtain ⟨len, hlen⟩ : ∃ m, m = (R k).length := ⟨_, rfl⟩
            obtain ⟨cap, hcap⟩ : ∃ m, m = rc k := ⟨_, rfl⟩
            obtain ⟨rak, hrak⟩ : ∃ m, m = ra k := ⟨_, rfl⟩
            obtain ⟨Vk, hVk⟩ : ∃ m, m = V k := ⟨_, rfl⟩
            have hl5 := H5.out k hlt
            rw [← hlen] at hl5
            have q0 := (grown_trans HWX.out HG2.out).cell p0 (by simp)
            have q1 := (grown_trans HWX.out HG2.out).cell p1 (by simp)
            have q2 := (grown_trans HWX.out HG2.out).cell p2 (by simp)
            rw [hz] at q0
            rw [← hlen, ← hcap, ← hrak] at q1
            rw [← hVk] at q2
            have hk0 : (0 : Int) ≤ (k : Int) := by omega
            have hk1 : (k : Int) < (n : Int) := by omega
            have HI : Hid (IntsAt w rak (R k)) := by rw [hrak]; exact hI
            have HLEN : Hid ((R k).length = len) := hlen.symm
            have HLz : Hid (L k = (z : Int)) := hz
            have HVk : Hid (Vk = V k) := hVk
            have HSY : Hid (∀ y ∈ R k, 0 ≤ y ∧ y < (tn : Int) + nn) := HE2.2
            obtain ⟨sy, hsy⟩ : ∃ x, x = strOf (symT ts ns z) := ⟨_, rfl⟩
            have hsys : sy.size ≤ 18 := by rw [hsy, strOf_size]; exact HSYL.out z hzn
            have HSN : Hid (∀ Y, w.grownBy Y none → Calls Try.prog 32 #[.agg #[.slice ta tn tc, .slice na nn nc, .slice la ln lc, .int .i64 (sn : Int), .slice (some ⟨bp, op, none⟩) n pc], .int .i64 (z : Int)] Y fun e w' => e = .returned (.string sy) ∧ Y.grownBy w' none) := fun Y hY => by rw [hsy]; exact HS.out z hzn Y hY
            have HSYE : Hid (sy = strOf (symT ts ns z)) := hsy
            clear p0 p1 p2 hI HE2 hz hlen hcap hrak hVk hps hsy
            obtain ⟨PB, hPB⟩ : ∃ B, B = wr.heap.size := ⟨_, rfl⟩
            obtain ⟨W1, hW1⟩ : ∃ X, X = wr.alloc (.cells #[.int .i64 (z : Int), .slice rak len cap, .int .i64 Vk] 47) := ⟨_, rfl⟩
            have hW1b : W1.heap[PB]? = some (.cells #[.int .i64 (z : Int), .slice rak len cap, .int .i64 Vk] 47 (0, 0)) := by rw [hW1, hPB]; exact heap_alloc_last wr _
            have HG3 : Hid (X0.grownBy W1 none) := by rw [hW1]; exact grown_trans HG2.out (World.grownBy_alloc _ _ none)
            have HB3 : Hid (BRowAt W1 X0.heap.size u4 (D2 ++ rulesT ts ns L R V k)) := by rw [hW1]; exact HB.out.kept (World.grownBy_alloc _ _ none)
            have HKB : Hid (∀ Y, X0.grownBy Y none → Y.heap[PB]? = some (.cells #[.int .i64 (z : Int), .slice rak len cap, .int .i64 Vk] 47 (0, 0)) → (Y.cell? ⟨w.heap.size, 0, none⟩ = some (.slice ta tn tc) ∧ Y.cell? ⟨w.heap.size, 1, none⟩ = some (.slice na nn nc) ∧ Y.cell? ⟨w.heap.size, 2, none⟩ = some (.slice la ln lc) ∧ Y.cell? ⟨w.heap.size, 3, none⟩ = some (.int .i64 (sn : Int)) ∧ Y.cell? ⟨w.heap.size, 4, none⟩ = some (.slice (some ⟨bp, op, none⟩) n pc)) ∧ Y.cell? ⟨PB, 0, none⟩ = some (.int .i64 (z : Int)) ∧ Y.cell? ⟨PB, 1, none⟩ = some (.slice rak len cap) ∧ Y.cell? ⟨PB, 2, none⟩ = some (.int .i64 Vk)) := fun Y hY hb => by
              refine ⟨HKG.out Y hY, ?_, ?_, ?_⟩ <;> (rw [cell_of_row _ _ _ _ _ _ hb]; rfl)
            have HW1B : Hid (W1.heap[PB]? = some (.cells #[.int .i64 (z : Int), .slice rak len cap, .int .i64 Vk] 47 (0, 0))) := hW1b
            obtain ⟨⟨m0, m1, m2, m3, m4⟩, m5, m6, m7⟩ := HKB.out W1 HG3.out hW1b
            rw [hW1] at m0 m1 m2 m3 m4 m5 m6 m7
            rw [hPB] at m5 m6 m7
            by_cases hka : k < ad
            · have hs1 := (HA1.out k hka).2
              rw [HLz.out, Int.toNat_natCast] at hs1
              have hse : sy = { data := #[36, 115, 116, 97, 114, 116] } := by rw [HSYE.out, hs1]; rfl
              have HNX : Hid (rulesT ts ns L R V (k + 1) = rulesT ts ns L R V k) := by
                show _ = _
                rw [rulesT, if_pos (HA1.out k hka).1, List.append_nil]
              subst hse
              go_wp2_with fail
              rw [← hW1, ← hPB]
              clear hW1 hPB hW1b m0 m1 m2 m3 m4 m5 m6 m7 q0 q1 q2 k0 k1 k2 k3 k4
              refine Calls.mono (HSN.out _ (grown_trans HWX.out HG3.out)) ?_
              rintro e w7 ⟨rfl, hg7⟩
              have HG7 : Hid (X0.grownBy w7 none) := grown_trans HG3.out hg7
              have HB7 : Hid (BRowAt w7 X0.heap.size u4 (D2 ++ rulesT ts ns L R V k)) := HB3.out.kept hg7
              clear hg7
              go_wp2_with fail
              go_roundg (n - (k + 1))
              case measure => have := HGK.out; omega
              case rel => exact ⟨k + 1, by omega, rfl, by go_num, by rw [HNX.out]; exact HB7.out, HG7.out, .inl (by omega)⟩
            · have hs1 := (HA2.out k (by omega) hlt)
              rw [HLz.out, Int.toNat_natCast] at hs1
              have hse : ¬ sy = { data := #[36, 115, 116, 97, 114, 116] } := fun e => hs1.2 (strOf_inj (by rw [← HSYE.out, e]; rfl))
              have d1 : (sy.toList == [36, 115, 116, 97, 114, 116]) = false := by
                rw [beq_eq_false_iff_ne, ByteArray.toList_eq, HSYE.out]
                simpa [strOf] using hs1.2
              have HNX : Hid (rulesT ts ns L R V (k + 1) = rulesT ts ns L R V k ++ ruleT ts ns (z : Int) (R k) Vk) := by
                show _ = _
                rw [rulesT, HVk.out]
                have h9 := (HA2.out k (by omega) hlt).1
                rw [if_neg h9, HLz.out]
              clear hse hs1
              go_wp2_with fail
              rw [← hW1, ← hPB]
              clear hW1 hPB hW1b m0 m1 m2 m3 m4 m5 m6 m7 q0 q1 q2 k0 k1 k2 k3 k4
              refine Calls.mono (HSN.out _ (grown_trans HWX.out HG3.out)) ?_
              rintro e w7 ⟨rfl, hg7⟩
              have HG7 : Hid (X0.grownBy w7 none) := grown_trans HG3.out hg7
              have HB7 : Hid (BRowAt w7 X0.heap.size u4 (D2 ++ rulesT ts ns L R V k)) := HB3.out.kept hg7
              have HW7 : Hid (w7.heap[PB]? = some (.cells #[.int .i64 (z : Int), .slice rak len cap, .int .i64 Vk] 47 (0, 0))) := (hg7.block _ (Array.getElem?_eq_some_iff.1 HW1B.out).1 (by simp)).trans HW1B.out
              clear hg7
              obtain ⟨⟨m0, m1, m2, m3, m4⟩, m5, m6, m7⟩ := HKB.out w7 HG7.out HW7.out
              have HDL : Hid ((D2 ++ rulesT ts ns L R V k).length ≤ 2100000000) := by
                show _ ≤ _
                have h1 := rulesT_le ts ns L R V k
                have h2 := roomT_short HV.out k (by omega)
                have h3 : rsum R k ≤ k * 1048576 := rsum_le H5.out k (by omega)
                have h4 := HD2L.out
                rw [List.length_append]
                omega
              have HRT : Hid (∀ j, (ruleTo ts ns (z : Int) (R k) j).length ≤ 20000000) := fun j => by
                have h1 := HSYL.out z hzn
                have h2 := HUP.out ((R k).take j) (fun y hy => HSY.out y (List.mem_of_mem_take hy))
                have h3 : ((R k).take j).length ≤ 1048576 := by rw [List.length_take, HLEN.out]; omega
                simp only [ruleTo, List.length_append, List.length_cons, List.length_nil, Int.toNat_natCast]
                omega
              have HS0 : Hid (sy ++ { data := #[32, 58] } = strOf (ruleTo ts ns (z : Int) (R k) 0)) := by
                show _ = _
                rw [HSYE.out, show ({ data := #[32, 58] } : ByteArray) = strOf [32, 58] from rfl, strOf_append]
                simp [ruleTo, symsT]
              go_wp2_with fail
              refine Calls.mono (HSN.out _ (grown_trans HWX.out HG7.out)) ?_
              rintro e w8 ⟨rfl, hg8⟩
              have HG8 : Hid (X0.grownBy w8 none) := grown_trans HG7.out hg8
              have HB8 : Hid (BRowAt w8 X0.heap.size u4 (D2 ++ rulesT ts ns L R V k)) := HB7.out.kept hg8
              have HW8 : Hid (w8.heap[PB]? = some (.cells #[.int .i64 (z : Int), .slice rak len cap, .int .i64 Vk] 47 (0, 0))) := (hg8.block _ (Array.getElem?_eq_some_iff.1 HW7.out).1 (by simp)).trans HW7.out
              clear hg8 m0 m1 m2 m3 m4 m5 m6 m7 HB7 HG7 HW7
              obtain ⟨DK, hDK⟩ : ∃ x, x = D2 ++ rulesT ts ns L R V k := ⟨_, rfl⟩
              rw [← hDK] at HB8 HDL
              have HDK : Hid (DK = D2 ++ rulesT ts ns L R V k) := hDK
              clear hDK
              go_wp2_with (at_builtin; refine wpList_append_B rfl (.tmp 75) (.tmp 80) rfl X0.heap.size u4 DK (ruleTo ts ns (z : Int) (R k) 0) _ HS0.out rfl rfl HB8.out (by have := HDL.out; have := HRT.out 0; omega) HG8.out.size ?_; intro v9 w9 hB9 hg9; have HB9 : Hid (BRowAt w9 X0.heap.size v9 (DK ++ ruleTo ts ns (z : Int) (R k) 0)) := hB9; have HG9 : Hid (X0.grownBy w9 none) := HB8.out.grown HG8.out (Nat.le_refl _) hg9; have HW9 : Hid (w9.heap[PB]? = some (.cells #[.int .i64 (z : Int), .slice rak len cap, .int .i64 Vk] 47 (0, 0))) := HB8.out.other hg9 HW8.out (by decide); clear hB9 hg9)
              clear HB8 HG8 HW8 HS0
              go_loopg [4, 9, 10] len (fun gk v4 own i wr => ∃ j : Nat, j ≤ len ∧ gk = len - j ∧ i = .int .i64 j ∧ own = .int .i64 (levT ts ((R k).take j)) ∧ BRowAt wr X0.heap.size v4 (DK ++ ruleTo ts ns (z : Int) (R k) j) ∧ X0.grownBy wr none ∧ wr.heap[PB]? = some (.cells #[.int .i64 (z : Int), .slice rak len cap, .int .i64 Vk] 47 (0, 0)))
              case atStart => exact ⟨0, Nat.zero_le _, rfl, rfl, rfl, HB9.out, HG9.out, HW9.out⟩
              case round =>
                obtain ⟨j, hj, hgj, rfl, rfl, hB, hG, hW⟩ := hrel
                have HGJ : Hid (gk = len - j) := hgj
                have HB : Hid (BRowAt wr X0.heap.size u4 (DK ++ ruleTo ts ns (z : Int) (R k) j)) := hB
                have HG4 : Hid (X0.grownBy wr none) := hG
                have HW4 : Hid (wr.heap[PB]? = some (.cells #[.int .i64 (z : Int), .slice rak len cap, .int .i64 Vk] 47 (0, 0))) := hW
                obtain ⟨⟨m0, m1, m2, m3, m4⟩, m5, m6, m7⟩ := HKB.out wr hG hW
                clear hgj hB hG hW HB9 HG9 HW9
                by_cases hjl : j < len
                · obtain ⟨sb, so, rfl, hc⟩ : ∃ sb so, rak = some ⟨sb, so, none⟩ ∧ ∀ i, i < (R k).length → w.cell? ⟨sb, so + i, none⟩ = some (.int .i64 ((R k).getD i 0)) := by
                    rcases HI.out with h | h
                    · have h9 := HLEN.out; rw [h] at h9; simp at h9; omega
                    · exact h
                  have c0 := hc j (by rw [HLEN.out]; exact hjl)
                  have hmem : (R k).getD j 0 ∈ R k := by rw [List.getD, List.getElem?_eq_getElem (by rw [HLEN.out]; exact hjl)]; exact List.getElem_mem _
                  have hok := HSY.out _ hmem
                  obtain ⟨y, hy⟩ : ∃ y : Nat, (R k).getD j 0 = (y : Int) := ⟨((R k).getD j 0).toNat, by omega⟩
                  rw [hy] at c0 hok
                  have hyn : y < tn + nn := by omega
                  obtain ⟨ry, hry⟩ : ∃ x, x = strOf (symT ts ns y) := ⟨_, rfl⟩
                  have hrys : ry.size ≤ 18 := by rw [hry, strOf_size]; exact HSYL.out y hyn
                  have HRY : Hid (∀ Y, w.grownBy Y none → Calls Try.prog 32 #[.agg #[.slice ta tn tc, .slice na nn nc, .slice la ln lc, .int .i64 (sn : Int), .slice (some ⟨bp, op, none⟩) n pc], .int .i64 (y : Int)] Y fun e w' => e = .returned (.string ry) ∧ Y.grownBy w' none) := fun Y hY => by rw [hry]; exact HS.out y hyn Y hY
                  have HSTR : Hid ({ data := #[32] } ++ ry = strOf ([32] ++ symT ts ns y)) := by show _ = _; rw [hry, ← strOf_append]; rfl
                  have hadd : ∀ u, (Op.stringOp .add { data := #[32] } ry).run Try.prog u = .ok (.string ({ data := #[32] } ++ ry)) u := fun u => run_string_add_sum u _ _ (by have e : (⟨#[32]⟩ : ByteArray).size = 1 := rfl; omega)
                  have HTO : Hid (ruleTo ts ns (z : Int) (R k) (j + 1) = ruleTo ts ns (z : Int) (R k) j ++ ([32] ++ symT ts ns y)) := by
                    show _ = _
                    rw [ruleTo, ruleTo, take_succ_getD (by rw [HLEN.out]; exact hjl), symsT_append, hy]
                    simp [symsT, sp]
                  have HLEVS : Hid (levT ts ((R k).take (j + 1)) = if (y : Int) < (tn : Int) then (ts.getD y (⟨#[]⟩, 0)).2 else levT ts ((R k).take j)) := by
                    show _ = _
                    rw [take_succ_getD (by rw [HLEN.out]; exact hjl), levT_snoc, hy, HLN.out.1, Int.toNat_natCast]
                  have HKS : Hid (∀ Y, X0.grownBy Y none → Y.heap[PB]? = some (.cells #[.int .i64 (z : Int), .slice (some ⟨sb, so, none⟩) len cap, .int .i64 Vk] 47 (0, 0)) → Y.cell? ⟨w.heap.size, 0, none⟩ = some (.slice ta tn tc) ∧ Y.cell? ⟨w.heap.size, 1, none⟩ = some (.slice na nn nc) ∧ Y.cell? ⟨w.heap.size, 2, none⟩ = some (.slice la ln lc) ∧ Y.cell? ⟨w.heap.size, 3, none⟩ = some (.int .i64 (sn : Int)) ∧ Y.cell? ⟨w.heap.size, 4, none⟩ = some (.slice (some ⟨bp, op, none⟩) n pc) ∧ Y.cell? ⟨PB, 1, none⟩ = some (.slice (some ⟨sb, so, none⟩) len cap) ∧ Y.cell? ⟨sb, so + j, none⟩ = some (.int .i64 (y : Int))) := fun Y hY hb => by
                    obtain ⟨⟨q0, q1, q2, q3, q4⟩, q5, q6, q7⟩ := HKB.out Y hY hb
                    exact ⟨q0, q1, q2, q3, q4, q6, (grown_trans HWX.out hY).cell c0 (by simp)⟩
                  have HYL : Hid ((symT ts ns y).length ≤ 18) := HSYL.out y hyn
                  have hj0 : (0 : Int) ≤ (j : Int) := by omega
                  have hj1 : (j : Int) < (len : Int) := by omega
                  clear hc hy hry c0 hok hyn hmem
                  have HGc : Hid (X0.grownBy wr.drew none ∧ wr.drew.heap[PB]? = some (.cells #[.int .i64 (z : Int), .slice (some ⟨sb, so, none⟩) len cap, .int .i64 Vk] 47 (0, 0))) := ⟨grown_trans HG4.out (grown_drewN _ 1), HW4.out⟩
                  have HBc : Hid (BRowAt wr.drew X0.heap.size u4 (DK ++ ruleTo ts ns (z : Int) (R k) j)) := HB.out.kept (grown_drewN _ 1)
                  have HLB : Hid ((DK ++ ruleTo ts ns (z : Int) (R k) j).length + ([32] ++ symT ts ns y).length ≤ 140737488355328) := by
                    show _ ≤ _
                    have h1 := HDL.out
                    have h2 := HRT.out j
                    have h3 := HYL.out
                    simp only [List.length_append, List.length_cons, List.length_nil] at h1 h2 ⊢
                    omega
                  go_wp2_with fail
                  go_region_held3 (fun w' => w'.cell? ⟨w.heap.size, 0, none⟩ = some (.slice ta tn tc) ∧ w'.cell? ⟨w.heap.size, 1, none⟩ = some (.slice na nn nc) ∧ w'.cell? ⟨w.heap.size, 2, none⟩ = some (.slice la ln lc) ∧ w'.cell? ⟨w.heap.size, 3, none⟩ = some (.int .i64 (sn : Int)) ∧ w'.cell? ⟨w.heap.size, 4, none⟩ = some (.slice (some ⟨bp, op, none⟩) n pc) ∧ w'.cell? ⟨PB, 1, none⟩ = some (.slice (some ⟨sb, so, none⟩) len cap) ∧ w'.cell? ⟨sb, so + j, none⟩ = some (.int .i64 (y : Int))) (first | exact HKS.out _ HGc.out.1 HGc.out.2 | go_keep)
                    ((first
                      | (go_at_call 32; refine Calls.mono (HRY.out _ (grown_trans HWX.out HGc.out.1)) ?_; rintro e w5 ⟨rfl, hg5⟩; have HBc : Hid (BRowAt w5 X0.heap.size u4 (DK ++ ruleTo ts ns (z : Int) (R k) j)) := HBc.out.kept hg5; have HGc : Hid (X0.grownBy w5 none ∧ w5.heap[PB]? = some (.cells #[.int .i64 (z : Int), .slice (some ⟨sb, so, none⟩) len cap, .int .i64 Vk] 47 (0, 0))) := ⟨grown_trans HGc.out.1 hg5, (hg5.block _ (Array.getElem?_eq_some_iff.1 HGc.out.2).1 (by simp)).trans HGc.out.2⟩)
                      | (refine step_append_B rfl (.tmp 89) (.tmp 97) rfl X0.heap.size u4 (DK ++ ruleTo ts ns (z : Int) (R k) j) ([32] ++ symT ts ns y) ({ data := #[32] } ++ ry) HSTR.out (by simp [Act.eval]) (by simp [Act.eval]) HBc.out HLB.out HGc.out.1.size ?_; intro v6 w6 hB6 hg6; have HB6 : Hid (BRowAt w6 X0.heap.size v6 (DK ++ ruleTo ts ns (z : Int) (R k) j ++ ([32] ++ symT ts ns y))) := hB6; have HGc : Hid (X0.grownBy w6 none ∧ w6.heap[PB]? = some (.cells #[.int .i64 (z : Int), .slice (some ⟨sb, so, none⟩) len cap, .int .i64 Vk] 47 (0, 0))) := ⟨HBc.out.grown HGc.out.1 (Nat.le_refl _) hg6, HBc.out.other hg6 HGc.out.2 (by decide)⟩)))
                  have HG6 : Hid (X0.grownBy w6 none) := HGc.out.1
                  have HW6 : Hid (w6.heap[PB]? = some (.cells #[.int .i64 (z : Int), .slice (some ⟨sb, so, none⟩) len cap, .int .i64 Vk] 47 (0, 0))) := HGc.out.2
                  obtain ⟨f0, f1, f2, f3, f4, f5, f6⟩ := HKS.out w6 HG6.out HW6.out
                  clear HGc HBc m0 m1 m2 m3 m4 m5 m6 m7 hB6 hg6
                  by_cases hyt : y < tn
                  · have hyi : (y : Int) < (tn : Int) := by omega
                    have dyt : decide (y < tn) = true := decide_eq_true hyt
                    obtain ⟨tb, tf, rfl, ht⟩ : ∃ tb tf, ta = some ⟨tb, tf, none⟩ ∧ ∀ i, i < ts.length → w.cell? ⟨tb, tf + i * 2, none⟩ = some (.string (ts.getD i (ByteArray.empty, 0)).1) ∧ w.cell? ⟨tb, tf + i * 2 + 1, none⟩ = some (.int .i64 (ts.getD i (ByteArray.empty, 0)).2) := by
                      rcases HG.out.terms with h | h
                      · have := HLN.out.1; rw [h] at this; simp at this; omega
                      · exact h
                    have g1 := (grown_trans HWX.out HG6.out).cell (ht y (by rw [HLN.out.1]; exact hyt)).2 (by simp)
                    obtain ⟨lz, hlz⟩ : ∃ x, x = (ts.getD y (ByteArray.empty, 0)).2 := ⟨_, rfl⟩
                    rw [← hlz] at g1
                    have HLZ : Hid (levT ts ((R k).take (j + 1)) = lz) := by
                      show _ = _
                      rw [HLEVS.out, if_pos hyi, hlz]
                      rfl
                    have hy0 : (0 : Int) ≤ (y : Int) := by omega
                    clear ht hlz
                    go_wp2_with fail
                    go_quiet (fail)
                    go_wp2_with fail
                    go_quiet (fail)
                    go_wp2_with fail
                    go_roundg (len - (j + 1))
                    case measure => have := HGJ.out; omega
                    case rel => exact ⟨j + 1, by omega, rfl, by go_num, by rw [HLZ.out], by rw [HTO.out, ← List.append_assoc]; first | exact HB6.out.kept (grown_drewN _ _) | exact (HB6.out.kept (grown_drewN _ _)).kept (grown_drewN _ _), by first | exact grown_trans HG6.out (grown_drewN _ _) | exact grown_trans (grown_trans HG6.out (grown_drewN _ _)) (grown_drewN _ _), HW6.out⟩
                  · have hyi : ¬ ((y : Int) < (tn : Int)) := by omega
                    have dyt : decide (y < tn) = false := decide_eq_false hyt
                    have HLZ : Hid (levT ts ((R k).take (j + 1)) = levT ts ((R k).take j)) := by
                      show _ = _
                      rw [HLEVS.out, if_neg hyi]
                    go_wp2_with fail
                    go_quiet (fail)
                    go_wp2_with fail
                    go_roundg (len - (j + 1))
                    case measure => have := HGJ.out; omega
                    case rel => exact ⟨j + 1, by omega, rfl, by go_num, by rw [HLZ.out], by rw [HTO.out, ← List.append_assoc]; exact HB6.out.kept (grown_drewN _ _), grown_trans HG6.out (grown_drewN _ _), HW6.out⟩
                · obtain rfl : len = j := by omega
                  have HTK : Hid ((R k).take len = R k) := List.take_of_length_le (by rw [HLEN.out]; exact Nat.le_refl _)
                  obtain ⟨ow, how⟩ : ∃ x, x = levT ts ((R k).take len) := ⟨_, rfl⟩
                  rw [← how]
                  have HOW : Hid (ow = levT ts (R k)) := by show _ = _; rw [how, HTK.out]
                  clear how
                  obtain ⟨tl9, htl9⟩ : ∃ x, x = (D2 ++ rulesT ts ns L R V (k + 1)).length := ⟨_, rfl⟩
                  have HTL9 : Hid (tl9 = (D2 ++ rulesT ts ns L R V (k + 1)).length) := htl9
                  clear htl9
                  have HRN : Hid (∀ g : List UInt8, (if Vk = levT ts (R k) then [] else gradeT ts ns Vk) = g → DK ++ ruleTo ts ns (z : Int) (R k) len ++ g ++ [32, 59, 10] = D2 ++ rulesT ts ns L R V (k + 1)) := fun g hg => by
                    rw [HNX.out, HDK.out, ruleT, hg, ruleTo, HTK.out]
                    simp
                  have HDR : Hid ((DK ++ ruleTo ts ns (z : Int) (R k) len).length ≤ 2200000000) := by
                    show _ ≤ _
                    have h1 := HDL.out
                    have h2 := HRT.out len
                    rw [List.length_append]
                    omega
                  by_cases hvl : Vk = ow
                  · have dvl : (Vk == ow) = true := by simp [hvl]
                    have HTOT : Hid (DK ++ ruleTo ts ns (z : Int) (R k) len ++ [32, 59, 10] = D2 ++ rulesT ts ns L R V (k + 1)) := by
                      have h9 := HRN.out [] (by rw [← HOW.out, if_pos hvl])
                      rw [List.append_nil] at h9
                      exact h9
                    have HLX : Hid ((DK ++ ruleTo ts ns (z : Int) (R k) len).length + [32, 59, 10].length ≤ 140737488355328) := by show _ ≤ _; have := HDR.out; simp only [List.length_cons, List.length_nil]; omega
                    clear hvl
                    by_cases hbig : tl9 ≤ 8192
                    · have hbi : ¬ ((8192 : Int) < (tl9 : Int)) := by omega
                      go_wp2_with (at_builtin; refine wpList_append_B rfl (.tmp 153) (.const (.string ⟨#[32, 59, 10]⟩)) rfl X0.heap.size u4 (DK ++ ruleTo ts ns (z : Int) (R k) len) [32, 59, 10] ⟨#[32, 59, 10]⟩ rfl rfl rfl HB.out HLX.out HG4.out.size ?_; intro v9 w9 hB9 hg9; have HG9 : Hid (X0.grownBy w9 none) := HB.out.grown HG4.out (Nat.le_refl _) hg9; rw [HTOT.out] at hB9; obtain ⟨a9, c9, rfl⟩ := hB9.slice; have HB9 : Hid (BRowAt w9 X0.heap.size (.slice a9 (D2 ++ rulesT ts ns L R V (k + 1)).length c9) (D2 ++ rulesT ts ns L R V (k + 1))) := hB9; clear hB9 hg9; rw [← HTL9.out])
                      go_roundg (n - (k + 1))
                      case measure => have := HGK.out; omega
                      case rel => exact ⟨k + 1, by omega, rfl, by go_num, by rw [HTL9.out]; exact HB9.out, HG9.out, .inr (by rw [← HTL9.out]; exact hbig)⟩
                    · have hbi : (8192 : Int) < (tl9 : Int) := by omega
                      have HBIG : Hid (¬ (textT ts ns lv (sn : Int) n L R V).length ≤ 8192) := by
                        show ¬ _
                        intro h9
                        rw [HTXT.out] at h9
                        have h8 := rulesT_mono ts ns L R V (k := k + 1) (n := n) (by omega)
                        have h7 := HTL9.out
                        rw [List.length_append] at h9 h7
                        omega
                      go_wp2_with (at_builtin; refine wpList_append_B rfl (.tmp 153) (.const (.string ⟨#[32, 59, 10]⟩)) rfl X0.heap.size u4 (DK ++ ruleTo ts ns (z : Int) (R k) len) [32, 59, 10] ⟨#[32, 59, 10]⟩ rfl rfl rfl HB.out HLX.out HG4.out.size ?_; intro v9 w9 hB9 hg9; have HG9 : Hid (X0.grownBy w9 none) := HB.out.grown HG4.out (Nat.le_refl _) hg9; rw [HTOT.out] at hB9; obtain ⟨a9, c9, rfl⟩ := hB9.slice; have HB9 : Hid (BRowAt w9 X0.heap.size (.slice a9 (D2 ++ rulesT ts ns L R V (k + 1)).length c9) (D2 ++ rulesT ts ns L R V (k + 1))) := hB9; clear hB9 hg9; rw [← HTL9.out])
                      go_ret2
                      exact ⟨by (try rw [if_neg HBIG.out, if_neg HBIG.out]); rfl, grown_trans HWX.out HG9.out⟩
                  · have dvl : (Vk == ow) = false := by simp [hvl]
                    by_cases hv0 : Vk = 0
                    · have dv0 : (Vk == 0) = true := by simp [hv0]
                      have HTOT : Hid (DK ++ ruleTo ts ns (z : Int) (R k) len ++ [32, 37, 110, 111, 110, 101] ++ [32, 59, 10] = D2 ++ rulesT ts ns L R V (k + 1)) := HRN.out _ (by rw [← HOW.out, if_neg hvl, gradeT, if_pos hv0])
                      have HLW : Hid ((DK ++ ruleTo ts ns (z : Int) (R k) len).length + [32, 37, 110, 111, 110, 101].length ≤ 140737488355328) := by show _ ≤ _; have := HDR.out; simp only [List.length_cons, List.length_nil]; omega
                      have HLX : Hid ((DK ++ ruleTo ts ns (z : Int) (R k) len ++ [32, 37, 110, 111, 110, 101]).length + [32, 59, 10].length ≤ 140737488355328) := by show _ ≤ _; have h9 := HDR.out; rw [List.length_append]; simp only [List.length_cons, List.length_nil]; omega
                      clear hvl hv0
                      by_cases hbig : tl9 ≤ 8192
                      · have hbi : ¬ ((8192 : Int) < (tl9 : Int)) := by omega
                        go_wp2_with (first | (at_builtin; refine wpList_append_B rfl (.tmp 151) (.const (.string ⟨#[32, 37, 110, 111, 110, 101]⟩)) rfl X0.heap.size u4 (DK ++ ruleTo ts ns (z : Int) (R k) len) [32, 37, 110, 111, 110, 101] ⟨#[32, 37, 110, 111, 110, 101]⟩ rfl rfl rfl HB.out HLW.out HG4.out.size ?_; intro v7 w7 hB7 hg7; have HB7 : Hid (BRowAt w7 X0.heap.size v7 (DK ++ ruleTo ts ns (z : Int) (R k) len ++ [32, 37, 110, 111, 110, 101])) := hB7; have HG7 : Hid (X0.grownBy w7 none) := HB.out.grown HG4.out (Nat.le_refl _) hg7; clear hB7 hg7) | (at_builtin; refine wpList_append_B rfl (.tmp 153) (.const (.string ⟨#[32, 59, 10]⟩)) rfl X0.heap.size v7 (DK ++ ruleTo ts ns (z : Int) (R k) len ++ [32, 37, 110, 111, 110, 101]) [32, 59, 10] ⟨#[32, 59, 10]⟩ rfl rfl rfl HB7.out HLX.out HG7.out.size ?_; intro v9 w9 hB9 hg9; have HG9 : Hid (X0.grownBy w9 none) := HB7.out.grown HG7.out (Nat.le_refl _) hg9; rw [HTOT.out] at hB9; obtain ⟨a9, c9, rfl⟩ := hB9.slice; have HB9 : Hid (BRowAt w9 X0.heap.size (.slice a9 (D2 ++ rulesT ts ns L R V (k + 1)).length c9) (D2 ++ rulesT ts ns L R V (k + 1))) := hB9; clear hB9 hg9; rw [← HTL9.out]))
                        go_roundg (n - (k + 1))
                        case measure => have := HGK.out; omega
                        case rel => exact ⟨k + 1, by omega, rfl, by go_num, by rw [HTL9.out]; exact HB9.out, HG9.out, .inr (by rw [← HTL9.out]; exact hbig)⟩
                      · have hbi : (8192 : Int) < (tl9 : Int) := by omega
                        have HBIG : Hid (¬ (textT ts ns lv (sn : Int) n L R V).length ≤ 8192) := by
                          show ¬ _
                          intro h9
                          rw [HTXT.out] at h9
                          have h8 := rulesT_mono ts ns L R V (k := k + 1) (n := n) (by omega)
                          have h7 := HTL9.out
                          rw [List.length_append] at h9 h7
                          omega
                        go_wp2_with (first | (at_builtin; refine wpList_append_B rfl (.tmp 151) (.const (.string ⟨#[32, 37, 110, 111, 110, 101]⟩)) rfl X0.heap.size u4 (DK ++ ruleTo ts ns (z : Int) (R k) len) [32, 37, 110, 111, 110, 101] ⟨#[32, 37, 110, 111, 110, 101]⟩ rfl rfl rfl HB.out HLW.out HG4.out.size ?_; intro v7 w7 hB7 hg7; have HB7 : Hid (BRowAt w7 X0.heap.size v7 (DK ++ ruleTo ts ns (z : Int) (R k) len ++ [32, 37, 110, 111, 110, 101])) := hB7; have HG7 : Hid (X0.grownBy w7 none) := HB.out.grown HG4.out (Nat.le_refl _) hg7; clear hB7 hg7) | (at_builtin; refine wpList_append_B rfl (.tmp 153) (.const (.string ⟨#[32, 59, 10]⟩)) rfl X0.heap.size v7 (DK ++ ruleTo ts ns (z : Int) (R k) len ++ [32, 37, 110, 111, 110, 101]) [32, 59, 10] ⟨#[32, 59, 10]⟩ rfl rfl rfl HB7.out HLX.out HG7.out.size ?_; intro v9 w9 hB9 hg9; have HG9 : Hid (X0.grownBy w9 none) := HB7.out.grown HG7.out (Nat.le_refl _) hg9; rw [HTOT.out] at hB9; obtain ⟨a9, c9, rfl⟩ := hB9.slice; have HB9 : Hid (BRowAt w9 X0.heap.size (.slice a9 (D2 ++ rulesT ts ns L R V (k + 1)).length c9) (D2 ++ rulesT ts ns L R V (k + 1))) := hB9; clear hB9 hg9; rw [← HTL9.out]))
                        go_ret2
                        exact ⟨by (try rw [if_neg HBIG.out, if_neg HBIG.out]); rfl, grown_trans HWX.out HG9.out⟩
                    · have dv0 : (Vk == 0) = false := by simp [hv0]
                      obtain ⟨ls, hls⟩ : ∃ x, x = leastFrom ts Vk (tn - 1) 0 := ⟨_, rfl⟩
                      have hls2 : ls = ((ofLev ts Vk (upTo (ts.length - 1))).getD 0 0).toNat := by
                        rw [hls, least_first, HLN.out.1]
                        cases ofLev ts Vk (upTo (tn - 1)) <;> simp
                      have hlsn : ls < tn + nn := by
                        rw [hls2, HLN.out.1]
                        cases hc : ofLev ts Vk (upTo (tn - 1)) with
                        | nil => simp; omega
                        | cons a b =>
                          have := ofLev_mem (ts := ts) (lev := Vk) (z := a) (m := tn - 1) (by rw [hc]; exact List.mem_cons_self ..)
                          simp
                          omega
                      obtain ⟨sl, hsl⟩ : ∃ x, x = strOf (symT ts ns ls) := ⟨_, rfl⟩
                      have hsls : sl.size ≤ 18 := by rw [hsl, strOf_size]; exact HSYL.out ls hlsn
                      have HSL : Hid (∀ Y, w.grownBy Y none → Calls Try.prog 32 #[.agg #[.slice ta tn tc, .slice na nn nc, .slice la ln lc, .int .i64 (sn : Int), .slice (some ⟨bp, op, none⟩) n pc], .int .i64 (ls : Int)] Y fun e w' => e = .returned (.string sl) ∧ Y.grownBy w' none) := fun Y hY => by rw [hsl]; exact HS.out ls hlsn Y hY
                      have HSTR : Hid ({ data := #[32, 37, 112, 114, 101, 99, 32] } ++ sl = strOf (gradeT ts ns Vk)) := by
                        show _ = _
                        rw [hsl, show ({ data := #[32, 37, 112, 114, 101, 99, 32] } : ByteArray) = strOf [32, 37, 112, 114, 101, 99, 32] from rfl, strOf_append, gradeT, if_neg hv0, ← hls2]
                        rfl
                      have HGRL : Hid ((gradeT ts ns Vk).length ≤ 25) := gradeT_le HV.out Vk
                      have HTOT : Hid (DK ++ ruleTo ts ns (z : Int) (R k) len ++ gradeT ts ns Vk ++ [32, 59, 10] = D2 ++ rulesT ts ns L R V (k + 1)) := HRN.out _ (by rw [← HOW.out, if_neg hvl])
                      have HLW : Hid ((DK ++ ruleTo ts ns (z : Int) (R k) len).length + (gradeT ts ns Vk).length ≤ 140737488355328) := by show _ ≤ _; have := HDR.out; have := HGRL.out; omega
                      have HLX : Hid ((DK ++ ruleTo ts ns (z : Int) (R k) len ++ gradeT ts ns Vk).length + [32, 59, 10].length ≤ 140737488355328) := by show _ ≤ _; have h9 := HDR.out; have := HGRL.out; rw [List.length_append]; simp only [List.length_cons, List.length_nil]; omega
                      have HLS : Hid (ls = leastFrom ts Vk (tn - 1) 0) := hls
                      clear hvl hv0 hls hls2 hsl hlsn
                      have hwt : IntKind.i64.wrap ((tn : Int) - 1) = (tn : Int) - 1 := by simp [IntKind.wrap, IntKind.signed, IntKind.bits]; omega
                      generalize wr = XL at *
                      go_wp2_with fail
                      go_loopg [11, 12] (tn - 1) (fun gk v11 v12 wr => ∃ (q b : Nat), q ≤ tn - 1 ∧ gk = q ∧ v12 = .int .i64 (q : Int) ∧ v11 = .int .i64 (b : Int) ∧ ls = leastFrom ts Vk q b ∧ XL.grownBy wr none)
                      case atStart => exact ⟨tn - 1, 0, Nat.le_refl _, rfl, by congr 1; omega, rfl, HLS.out, grown_refl _ _⟩
                      case round =>
                        obtain ⟨q, b, hq, hgq, rfl, rfl, hlq, hgx⟩ := hrel
                        have HGQ : Hid (gk = q) := hgq
                        have HLQ : Hid (ls = leastFrom ts Vk q b) := hlq
                        have HXL : Hid (XL.grownBy wr none) := hgx
                        have hG5 : X0.grownBy wr none := grown_trans HG4.out hgx
                        have hW5 : wr.heap[PB]? = some (.cells #[.int .i64 (z : Int), .slice rak len cap, .int .i64 Vk] 47 (0, 0)) := (hgx.block _ (Array.getElem?_eq_some_iff.1 HW4.out).1 (by simp)).trans HW4.out
                        obtain ⟨⟨m0, m1, m2, m3, m4⟩, m5, m6, m7⟩ := HKB.out wr hG5 hW5
                        have HG5 : Hid (X0.grownBy wr none) := hG5
                        have HB5 : Hid (BRowAt wr X0.heap.size u4 (DK ++ ruleTo ts ns (z : Int) (R k) len)) := HB.out.kept hgx
                        clear hgq hlq hgx hG5 hW5
                        by_cases hq0 : 0 < q
                        · obtain ⟨tb, tf, rfl, ht⟩ : ∃ tb tf, ta = some ⟨tb, tf, none⟩ ∧ ∀ i, i < ts.length → w.cell? ⟨tb, tf + i * 2, none⟩ = some (.string (ts.getD i (ByteArray.empty, 0)).1) ∧ w.cell? ⟨tb, tf + i * 2 + 1, none⟩ = some (.int .i64 (ts.getD i (ByteArray.empty, 0)).2) := by
                            rcases HG.out.terms with h | h
                            · have := HLN.out.1; rw [h] at this; simp at this; omega
                            · exact h
                          have g1 := (grown_trans HWX.out HG5.out).cell (ht q (by rw [HLN.out.1]; omega)).2 (by simp)
                          obtain ⟨lz, hlz⟩ : ∃ x, x = (ts.getD q (ByteArray.empty, 0)).2 := ⟨_, rfl⟩
                          rw [← hlz] at g1
                          have HNQ : Hid (ls = leastFrom ts Vk (q - 1) (if lz = Vk then q else b)) := by
                            show _ = _
                            have h9 := HLQ.out
                            obtain ⟨q', rfl⟩ : ∃ q', q = q' + 1 := ⟨q - 1, by omega⟩
                            rw [leastFrom] at h9
                            rw [h9, hlz]
                            rfl
                          have hqi : (0 : Int) < (q : Int) := by omega
                          have hq1 : (0 : Int) ≤ (q : Int) := by omega
                          have hq2 : (q : Int) < (tn : Int) := by omega
                          clear ht hlz
                          by_cases hle : lz = Vk
                          · have dle : (lz == Vk) = true := by simp [hle]
                            have HN2 : Hid (ls = leastFrom ts Vk (q - 1) q) := by have h9 := HNQ.out; rw [if_pos hle] at h9; exact h9
                            clear hle
                            go_wp2_with fail
                            go_quiet (fail)
                            go_wp2_with fail
                            go_roundg (q - 1)
                            case measure => have := HGQ.out; omega
                            case rel => exact ⟨q - 1, q, by omega, rfl, by congr 1; omega, rfl, HN2.out, grown_trans HXL.out (grown_drewN _ _)⟩
                          · have dle : (lz == Vk) = false := by simp [hle]
                            have HN2 : Hid (ls = leastFrom ts Vk (q - 1) b) := by have h9 := HNQ.out; rw [if_neg hle] at h9; exact h9
                            clear hle
                            go_wp2_with fail
                            go_quiet (fail)
                            go_wp2_with fail
                            go_roundg (q - 1)
                            case measure => have := HGQ.out; omega
                            case rel => exact ⟨q - 1, b, by omega, rfl, by congr 1; omega, rfl, HN2.out, grown_trans HXL.out (grown_drewN _ _)⟩
                        · obtain rfl : q = 0 := by omega
                          have hbl : b = ls := HLQ.out.symm
                          subst hbl
                          go_wp2_with fail
                          refine Calls.mono (HSL.out _ (grown_trans HWX.out HG5.out)) ?_
                          rintro e w6 ⟨rfl, hg6⟩
                          have HG6 : Hid (X0.grownBy w6 none) := grown_trans HG5.out hg6
                          have HB6 : Hid (BRowAt w6 X0.heap.size u4 (DK ++ ruleTo ts ns (z : Int) (R k) len)) := HB5.out.kept hg6
                          clear hg6 m0 m1 m2 m3 m4 m5 m6 m7
                          by_cases hbig : tl9 ≤ 8192
                          · have hbi : ¬ ((8192 : Int) < (tl9 : Int)) := by omega
                            go_wp2_with (first | (at_builtin; refine wpList_append_B rfl (.tmp 136) (.tmp 140) rfl X0.heap.size u4 (DK ++ ruleTo ts ns (z : Int) (R k) len) (gradeT ts ns Vk) _ HSTR.out rfl rfl HB6.out HLW.out HG6.out.size ?_; intro v7 w7 hB7 hg7; have HB7 : Hid (BRowAt w7 X0.heap.size v7 (DK ++ ruleTo ts ns (z : Int) (R k) len ++ gradeT ts ns Vk)) := hB7; have HG7 : Hid (X0.grownBy w7 none) := HB6.out.grown HG6.out (Nat.le_refl _) hg7; clear hB7 hg7) | (at_builtin; refine wpList_append_B rfl (.tmp 153) (.const (.string ⟨#[32, 59, 10]⟩)) rfl X0.heap.size v7 (DK ++ ruleTo ts ns (z : Int) (R k) len ++ gradeT ts ns Vk) [32, 59, 10] ⟨#[32, 59, 10]⟩ rfl rfl rfl HB7.out HLX.out HG7.out.size ?_; intro v9 w9 hB9 hg9; have HG9 : Hid (X0.grownBy w9 none) := HB7.out.grown HG7.out (Nat.le_refl _) hg9; rw [HTOT.out] at hB9; obtain ⟨a9, c9, rfl⟩ := hB9.slice; have HB9 : Hid (BRowAt w9 X0.heap.size (.slice a9 (D2 ++ rulesT ts ns L R V (k + 1)).length c9) (D2 ++ rulesT ts ns L R V (k + 1))) := hB9; clear hB9 hg9; rw [← HTL9.out]))
                            go_roundg (n - (k + 1))
                            case measure => have := HGK.out; omega
                            case rel => exact ⟨k + 1, by omega, rfl, by go_num, by rw [HTL9.out]; exact HB9.out, HG9.out, .inr (by rw [← HTL9.out]; exact hbig)⟩
                          · have hbi : (8192 : Int) < (tl9 : Int) := by omega
                            have HBIG : Hid (¬ (textT ts ns lv (sn : Int) n L R V).length ≤ 8192) := by
                              show ¬ _
                              intro h9
                              rw [HTXT.out] at h9
                              have h8 := rulesT_mono ts ns L R V (k := k + 1) (n := n) (by omega)
                              have h7 := HTL9.out
                              rw [List.length_append] at h9 h7
                              omega
                            go_wp2_with (first | (at_builtin; refine wpList_append_B rfl (.tmp 136) (.tmp 140) rfl X0.heap.size u4 (DK ++ ruleTo ts ns (z : Int) (R k) len) (gradeT ts ns Vk) _ HSTR.out rfl rfl HB6.out HLW.out HG6.out.size ?_; intro v7 w7 hB7 hg7; have HB7 : Hid (BRowAt w7 X0.heap.size v7 (DK ++ ruleTo ts ns (z : Int) (R k) len ++ gradeT ts ns Vk)) := hB7; have HG7 : Hid (X0.grownBy w7 none) := HB6.out.grown HG6.out (Nat.le_refl _) hg7; clear hB7 hg7) | (at_builtin; refine wpList_append_B rfl (.tmp 153) (.const (.string ⟨#[32, 59, 10]⟩)) rfl X0.heap.size v7 (DK ++ ruleTo ts ns (z : Int) (R k) len ++ gradeT ts ns Vk) [32, 59, 10] ⟨#[32, 59, 10]⟩ rfl rfl rfl HB7.out HLX.out HG7.out.size ?_; intro v9 w9 hB9 hg9; have HG9 : Hid (X0.grownBy w9 none) := HB7.out.grown HG7.out (Nat.le_refl _) hg9; rw [HTOT.out] at hB9; obtain ⟨a9, c9, rfl⟩ := hB9.slice; have HB9 : Hid (BRowAt w9 X0.heap.size (.slice a9 (D2 ++ rulesT ts ns L R V (k + 1)).length c9) (D2 ++ rulesT ts ns L R V (k + 1))) := hB9; clear hB9 hg9; rw [← HTL9.out]))
                            go_ret2
                            exact ⟨by (try rw [if_neg HBIG.out, if_neg HBIG.out]); rfl, grown_trans HWX.out HG9.out⟩
          · obtain rfl : n = k := by omega
            have hcs := conv_string HB.out
            have hle : (textT ts ns lv (sn : Int) n L R V).length ≤ 8192 := by
              rw [HTXT.out]
              rcases HLE.out with h | h
              · omega
              · exact h
            have HLE2 : Hid ((textT ts ns lv (sn : Int) n L R V).length ≤ 8192) := hle
            clear hle
            go_wp2_with fail
            go_ret2
            exact ⟨by (try rw [if_pos HLE2.out, if_pos HLE2.out]); rw [HTXT.out]; rfl, grown_trans HWX.out HG2.out⟩

end Go.Proofs.Ytkhmhcinepfemaa
