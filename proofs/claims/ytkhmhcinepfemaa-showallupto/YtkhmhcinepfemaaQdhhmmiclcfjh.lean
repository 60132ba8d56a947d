/-
  ShowAll, walked.
-/
import Derived.Test.YtkhmhcinepfemaaQddgfjledmfpi
namespace Go.Proofs.Ytkhmhcinepfemaa
open Go.RowKit Go.Maps Go.Shelf

attribute [local go_sem] Oper.semAt_some

set_option maxRecDepth 100000 in
theorem hpick_any (c : Int) (hlo : -9223372036854775808 ≤ c) (hhi : c ≤ 9223372036854775807) (n : Nat) (hn : 0 < n) (hn2 : n ≤ 1048577) (w : World) : Calls Try.prog 23 #[.int .i64 c, .int .i64 n] w fun e w' => (∃ r : Nat, r < n ∧ e = .returned (.int .i64 r)) ∧ w' = w := by
  by_cases h : c < 0
  · have hd : decide (c < 0) = true := decide_eq_true h
    go_enter Try.func23, Try.ntmps23
    go_wp2_with fail
    go_ret
    have e : -((c + 1).tmod (n : Int)) = (-(c + 1)) % (n : Int) := by rw [← Int.neg_tmod, Int.tmod_eq_emod_of_nonneg (by omega)]
    refine ⟨⟨((-(c + 1)) % (n : Int)).toNat, ?_, ?_⟩, rfl⟩
    · have h1 := Int.emod_lt_of_pos (-(c + 1)) (show (0 : Int) < n by omega)
      have h2 := Int.emod_nonneg (-(c + 1)) (show (n : Int) ≠ 0 by omega)
      omega
    · have h2 := Int.emod_nonneg (-(c + 1)) (show (n : Int) ≠ 0 by omega)
      rw [Int.toNat_of_nonneg h2, ← e]
      rfl
  · have hd : decide (c < 0) = false := decide_eq_false h
    go_enter Try.func23, Try.ntmps23
    go_wp2_with fail
    go_ret
    refine ⟨⟨(c % (n : Int)).toNat, ?_, ?_⟩, rfl⟩
    · have h1 := Int.emod_lt_of_pos c (show (0 : Int) < n by omega)
      have h2 := Int.emod_nonneg c (show (n : Int) ≠ 0 by omega)
      omega
    · have h2 := Int.emod_nonneg c (show (n : Int) ≠ 0 by omega)
      rw [Int.toNat_of_nonneg h2]
      rfl

theorem symsT_true (ts : List (ByteArray × Int)) (ns : List ByteArray) (l : List Int) : symsT ts ns true l = if l = [] then [] else 32 :: symsT ts ns false l := by
  cases l with
  | nil => rfl
  | cons z r => simp [symsT, sp]

set_option maxRecDepth 100000 in
set_option maxHeartbeats 8000000 in
theorem all_core (ta na la pa : Option Addr) (tc nc lc pc : Nat) (ts : List (ByteArray × Int)) (ns : List ByteArray) (lv : List Int) (n : Nat) (L : Nat → Int) (R : Nat → List Int) (ra : Nat → Option Addr) (rc : Nat → Nat) (V : Nat → Int) (st : Int) (w : World) (tn nn ln : Nat) (hlen : ts.length = tn ∧ ns.length = nn ∧ lv.length = ln) (hG : GAt w ta na la pa tc nc lc pc ts ns lv n L R ra rc V)
    (h4 : n ≤ 1048576) (h5 : ∀ i, i < n → (R i).length ≤ 1048576) (hrc : ∀ i, i < n → (R i).length ≤ rc i) (hts : ∀ t ∈ ts, t.1.size ≤ 140737488355328) (hns : ∀ s ∈ ns, s.size ≤ 140737488355328)
    (pr dt : Int) (hp : -9223372036854775808 ≤ pr ∧ pr ≤ 9223372036854775807) (hd : -9223372036854775808 ≤ dt ∧ dt ≤ 9223372036854775807) :
    Calls Try.prog 5 #[.agg #[.slice ta tn tc, .slice na nn nc, .slice la ln lc, .int .i64 st, .slice pa n pc], .int .i64 pr, .int .i64 dt] w fun e w' => e = .returned (.bool true) ∧ w.grownBy w' none := by
  obtain ⟨r, hr⟩ := boolOf (validOK ts ns lv st n L R V ∨ closedOK ts ns lv st n L R V)
  have HX0 : Hid (PhAt w (w.alloc (.cells #[.slice ta tn tc, .slice na nn nc, .slice la ln lc, .int .i64 st, .slice pa n pc] 27)) w.heap.size #[.slice ta tn tc, .slice na nn nc, .slice la ln lc, .int .i64 st, .slice pa n pc]) := ⟨World.grownBy_alloc _ _ none, heap_alloc_last w _⟩
  have HE : Hid (∀ Y, w.grownBy Y none → Calls Try.prog 22 #[.agg #[.slice ta tn tc, .slice na nn nc, .slice la ln lc, .int .i64 st, .slice pa n pc]] Y fun e w' => e = .returned (.bool r) ∧ Y.grownBy w' none) := fun Y hY => rEither_any ta na la pa tc nc lc pc ts ns lv n L R ra rc V st Y tn nn ln hlen (hG.kept hY) hts hns r hr
  have KA : Hid (∀ Y, Calls Try.prog 11 #[] Y fun e w' => e = .returned (.bool true) ∧ Y.grownBy w' none) := hawake_any
  cases r with
  | false =>
    have HT : Hid (∀ Y, w.grownBy Y none → Calls Try.prog 8 #[.agg #[.slice ta tn tc, .slice na nn nc, .slice la ln lc, .int .i64 st, .slice pa n pc]] Y fun e w' => e = .returned (.tuple #[.string ⟨#[]⟩, .int .i64 1]) ∧ Y.grownBy w' none) := fun Y hY => by
      have h9 := text_core ta na la pa tc nc lc pc ts ns lv n L R ra rc V st Y tn nn ln hlen (hG.kept hY) false hr (fun h => by cases h) (fun h => by cases h)
      exact h9
    clear hG hlen hr h5 hrc hts hns hp hd
    go_enter Try.func5, Try.ntmps5
    go_wp2_with fail
    refine Calls.mono (HE.out _ HX0.out.grown) ?_
    rintro e w1 ⟨rfl, hg1⟩
    have HX1 : Hid (PhAt w w1 w.heap.size #[.slice ta tn tc, .slice na nn nc, .slice la ln lc, .int .i64 st, .slice pa n pc]) := HX0.out.kept hg1
    obtain ⟨k0, k1, k2, k3, k4⟩ := HX1.out.cells
    clear hg1 HX0
    go_wp2_with fail
    refine Calls.mono (HT.out _ HX1.out.grown) ?_
    rintro e w2 ⟨rfl, hg2⟩
    have HG2 : Hid (w.grownBy w2 none) := grown_trans HX1.out.grown hg2
    clear hg2 HX1 k0 k1 k2 k3 k4
    go_wp2_with fail
    refine Calls.mono (KA.out _) ?_
    rintro e w3 ⟨rfl, hg3⟩
    have HG3 : Hid (w.grownBy w3 none) := grown_trans HG2.out hg3
    clear hg3
    go_wp2_with fail
    go_ret
    exact ⟨rfl, HG3.out⟩
  | true =>
    have hv := hr.1 rfl
    have hn1 : 0 < n := by
      obtain ⟨ad, had, hf, _⟩ := either_fits hv
      have := hf.p1
      omega
    obtain ⟨bp, op, hpa, hps⟩ : ∃ b off, pa = some ⟨b, off, none⟩ ∧ ∀ k, k < n → w.cell? ⟨b, off + k * 3, none⟩ = some (.int .i64 (L k)) ∧ w.cell? ⟨b, off + k * 3 + 1, none⟩ = some (.slice (ra k) (R k).length (rc k)) ∧ w.cell? ⟨b, off + k * 3 + 2, none⟩ = some (.int .i64 (V k)) ∧ IntsAt w (ra k) (R k) ∧ (ra k = none → rc k = 0) ∧ (R k).length ≤ 17592186044416 := by
      rcases hG.prods with h | h
      · omega
      · exact h
    subst hpa
    have HPS := show Hid _ from hps
    have HV : Hid (validOK ts ns lv st n L R V ∨ closedOK ts ns lv st n L R V) := hv
    have HG : Hid (GAt w ta na la (some ⟨bp, op, none⟩) tc nc lc pc ts ns lv n L R ra rc V) := hG
    have HLN : Hid (ts.length = tn ∧ ns.length = nn ∧ lv.length = ln) := hlen
    have H5 : Hid (∀ i, i < n → (R i).length ≤ 1048576) := h5
    have HRC : Hid (∀ i, i < n → (R i).length ≤ rc i) := hrc
    have HPK : Hid (∀ Y, Calls Try.prog 23 #[.int .i64 pr, .int .i64 n] Y fun e w' => (∃ r : Nat, r < n ∧ e = .returned (.int .i64 r)) ∧ w' = Y) := fun Y => hpick_any pr hp.1 hp.2 n hn1 (by omega) Y
    have HPD : Hid (∀ m : Nat, m ≤ 1048576 → ∀ Y, Calls Try.prog 23 #[.int .i64 dt, .int .i64 ((m : Int) + 1)] Y fun e w' => (∃ r : Nat, r < m + 1 ∧ e = .returned (.int .i64 r)) ∧ w' = Y) := fun m hm Y => by
      have h9 := hpick_any dt hd.1 hd.2 (m + 1) (by omega) (by omega) Y
      rw [Int.natCast_add] at h9
      exact h9
    clear hG hlen hr h5 hrc hts hns hp hd hps hv
    go_enter Try.func5, Try.ntmps5
    go_wp2_with fail
    refine Calls.mono (HE.out _ HX0.out.grown) ?_
    rintro e w1 ⟨rfl, hg1⟩
    have HX1 : Hid (PhAt w w1 w.heap.size #[.slice ta tn tc, .slice na nn nc, .slice la ln lc, .int .i64 st, .slice (some ⟨bp, op, none⟩) n pc]) := HX0.out.kept hg1
    obtain ⟨k0, k1, k2, k3, k4⟩ := HX1.out.cells
    clear hg1 HX0
    go_wp2_with fail
    refine Calls.mono (HPK.out _) ?_
    rintro e w2 ⟨⟨k, hkn, rfl⟩, rfl⟩
    obtain ⟨p0, p1, p2, hI, hrn, hRl⟩ := HPS.out k hkn
    have q0 := HX1.out.grown.cell p0 (by simp)
    have q1 := HX1.out.grown.cell p1 (by simp)
    have q2 := HX1.out.grown.cell p2 (by simp)
    have HE2 := either_prods HV.out k hkn
    rw [HLN.out.1, HLN.out.2.1] at HE2
    obtain ⟨z, hz⟩ : ∃ z : Nat, L k = (z : Int) := ⟨(L k).toNat, by omega⟩
    have hzn : z < tn + nn := by have := HE2.1; rw [hz] at this; omega
    obtain ⟨len, hlen⟩ : ∃ m, m = (R k).length := ⟨_, rfl⟩
    obtain ⟨cap, hcap⟩ : ∃ m, m = rc k := ⟨_, rfl⟩
    obtain ⟨rak, hrak⟩ : ∃ m, m = ra k := ⟨_, rfl⟩
    obtain ⟨Vk, hVk⟩ : ∃ m, m = V k := ⟨_, rfl⟩
    have hlc := HRC.out k hkn
    have hl5 := H5.out k hkn
    rw [← hlen, ← hcap] at hlc
    rw [← hlen] at hl5
    rw [hz] at q0
    rw [← hlen, ← hcap, ← hrak] at q1
    rw [← hVk] at q2
    have hk0 : (0 : Int) ≤ (k : Int) := by omega
    have hk1 : (k : Int) < (n : Int) := by omega
    have HI : Hid (IntsAt w rak (R k)) := by rw [hrak]; exact hI
    have HLE : Hid (len = (R k).length) := hlen
    have HLz : Hid (L k = (z : Int)) := hz
    have HSY : Hid (∀ y ∈ R k, 0 ≤ y ∧ y < (tn : Int) + nn) := HE2.2
    clear p0 p1 p2 hI hrn hRl HE2 hz hlen hcap hrak hVk
    obtain ⟨PB, hPB⟩ : ∃ B, B = w2.heap.size := ⟨_, rfl⟩
    obtain ⟨X1, hX1⟩ : ∃ X, X = w2.alloc (.cells #[.int .i64 (z : Int), .slice rak len cap, .int .i64 Vk] 47) := ⟨_, rfl⟩
    have hXg : w2.grownBy X1 none := by rw [hX1]; exact World.grownBy_alloc _ _ none
    have hXb : X1.heap[PB]? = some (.cells #[.int .i64 (z : Int), .slice rak len cap, .int .i64 Vk] 47 (0, 0)) := by rw [hX1, hPB]; exact heap_alloc_last w2 _
    have HXW : Hid (w.grownBy X1 none) := grown_trans HX1.out.grown hXg
    have HKP : Hid (∀ Y, X1.grownBy Y none → (Y.cell? ⟨w.heap.size, 0, none⟩ = some (.slice ta tn tc) ∧ Y.cell? ⟨w.heap.size, 1, none⟩ = some (.slice na nn nc) ∧ Y.cell? ⟨w.heap.size, 2, none⟩ = some (.slice la ln lc) ∧ Y.cell? ⟨w.heap.size, 3, none⟩ = some (.int .i64 st) ∧ Y.cell? ⟨w.heap.size, 4, none⟩ = some (.slice (some ⟨bp, op, none⟩) n pc) ∧ Y.cell? ⟨PB, 1, none⟩ = some (.slice rak len cap)) ∧ Y.cell? ⟨PB, 0, none⟩ = some (.int .i64 (z : Int))) := fun Y hY => by
      obtain ⟨a0, a1, a2, a3, a4⟩ := (HX1.out.kept (grown_trans hXg hY)).cells
      have hb := (hY.block _ (Array.getElem?_eq_some_iff.1 hXb).1 (by simp)).trans hXb
      exact ⟨⟨a0, a1, a2, a3, a4, by rw [cell_of_row _ _ _ _ _ _ hb]; rfl⟩, by rw [cell_of_row _ _ _ _ _ _ hb]; rfl⟩
    obtain ⟨x0, x1⟩ := HKP.out X1 (grown_refl _ _)
    obtain ⟨x00, x01, x02, x03, x04, x05⟩ := x0
    rw [hX1] at x00 x01 x02 x03 x04 x05 x1
    rw [hPB] at x05 x1
    go_wp2_with fail
    rw [← hX1, ← hPB]
    clear hX1 hPB hXg hXb x00 x01 x02 x03 x04 x05 x1 q0 q1 q2 k0 k1 k2 k3 k4
    refine Calls.mono (HPD.out len hl5 _) ?_
    rintro e w3 ⟨⟨dn, hdn, rfl⟩, rfl⟩
    generalize w3 = X1 at *
    have hdl : dn ≤ len := by omega
    -- the texts
    obtain ⟨lf, hlf⟩ : ∃ x, x = strOf (symT ts ns z) := ⟨_, rfl⟩
    obtain ⟨rt, hrt⟩ : ∃ x, x = strOf (symsT ts ns false (R k)) := ⟨_, rfl⟩
    obtain ⟨at1, hat⟩ : ∃ x, x = strOf (symsT ts ns false ((R k).take dn)) := ⟨_, rfl⟩
    obtain ⟨bt1, hbt⟩ : ∃ x, x = strOf (symsT ts ns false ((R k).drop dn)) := ⟨_, rfl⟩
    have hsy := symT_le HV.out z (by rw [HLN.out.1, HLN.out.2.1]; exact hzn)
    have hlfs : lf.size ≤ 18 := by rw [hlf, strOf_size]; exact hsy
    have hshort : ∀ l : List Int, (∀ y ∈ l, y ∈ R k) → l.length ≤ 1048576 → (symsT ts ns true l).length ≤ 19922944 := fun l hl hl2 => by
      have h9 := symsT_short HV.out l (fun y hy => by rw [HLN.out.1, HLN.out.2.1]; exact HSY.out y (hl y hy))
      omega
    have hfl : ∀ l : List Int, (symsT ts ns false l).length ≤ (symsT ts ns true l).length := symsT_le ts ns false
    have hlR : (R k).length ≤ 1048576 := by rw [← HLE.out]; exact hl5
    have s1 := hshort (R k) (fun y hy => hy) hlR
    have s2 := hshort ((R k).take dn) (fun y hy => List.mem_of_mem_take hy) (by rw [List.length_take]; omega)
    have s3 := hshort ((R k).drop dn) (fun y hy => List.mem_of_mem_drop hy) (by rw [List.length_drop]; omega)
    have hrts : rt.size ≤ 19922944 := by rw [hrt, strOf_size]; have := hfl (R k); omega
    have hats : at1.size ≤ 19922944 := by rw [hat, strOf_size]; have := hfl ((R k).take dn); omega
    have hbts : bt1.size ≤ 19922944 := by rw [hbt, strOf_size]; have := hfl ((R k).drop dn); omega
    have hz1 : (symsT ts ns true [(z : Int)]).length ≤ 140737488355328 := by
      simp [symsT, sp]
      omega
    have KSy : Hid (∀ Y, X1.grownBy Y none → Calls Try.prog 16 #[.agg #[.slice ta tn tc, .slice na nn nc, .slice la ln lc, .int .i64 st, .slice (some ⟨bp, op, none⟩) n pc], .int .i64 (z : Int)] Y fun e w' => e = .returned (.tuple #[.string lf, .int .i64 0]) ∧ Y.grownBy w' none) := fun Y hY => by
      have h9 := hsymbol_any ta na la (some ⟨bp, op, none⟩) tc nc lc pc ts ns lv n L R ra rc V st Y tn nn ln HLN.out (HG.out.kept (grown_trans HXW.out hY)) true ⟨fun _ => HV.out, fun _ => rfl⟩ (z : Int) true ⟨fun _ => ⟨by omega, by omega⟩, fun _ => rfl⟩ (fun _ _ => hz1)
      rw [hlf]
      exact h9
    have row : ∀ (Y : World), X1.grownBy Y none → ∀ (a : Option Addr) (m c : Nat) (l : List Int), l.length = m → IntsAt Y a l → (∀ y ∈ l, y ∈ R k) → m ≤ 1048576 → Calls Try.prog 13 #[.agg #[.slice ta tn tc, .slice na nn nc, .slice la ln lc, .int .i64 st, .slice (some ⟨bp, op, none⟩) n pc], .slice a m c] Y fun e w' => e = .returned (.tuple #[.string (strOf (symsT ts ns false l)), .int .i64 0]) ∧ Y.grownBy w' none := fun Y hY a m c l hl hI hm hb => by
      have h9 := row_any ta na la (some ⟨bp, op, none⟩) tc nc lc pc ts ns lv n L R ra rc V st Y tn nn ln HLN.out (HG.out.kept (grown_trans HXW.out hY)) true ⟨fun _ => HV.out, fun _ => rfl⟩ a m c l hl hI (by omega) true ⟨fun _ i hi => HSY.out _ (hm _ (by rw [List.getD, List.getElem?_eq_getElem (by omega)]; exact List.getElem_mem _)), fun _ => rfl⟩ (fun _ _ => by have := hshort l hm (by omega); omega)
      exact h9
    have KRw : Hid (∀ Y, X1.grownBy Y none → Calls Try.prog 13 #[.agg #[.slice ta tn tc, .slice na nn nc, .slice la ln lc, .int .i64 st, .slice (some ⟨bp, op, none⟩) n pc], .slice rak len cap] Y fun e w' => e = .returned (.tuple #[.string rt, .int .i64 0]) ∧ Y.grownBy w' none) := fun Y hY => by
      rw [hrt]
      exact row Y hY rak len cap (R k) HLE.out.symm (HI.out.kept (grown_trans HXW.out hY)) (fun y hy => hy) (by omega)
    have KRa : Hid (∀ Y, X1.grownBy Y none → Calls Try.prog 13 #[.agg #[.slice ta tn tc, .slice na nn nc, .slice la ln lc, .int .i64 st, .slice (some ⟨bp, op, none⟩) n pc], .slice rak dn cap] Y fun e w' => e = .returned (.tuple #[.string at1, .int .i64 0]) ∧ Y.grownBy w' none) := fun Y hY => by
      rw [hat]
      exact row Y hY rak dn cap ((R k).take dn) (by rw [List.length_take, ← HLE.out]; omega) (ints_take dn (HI.out.kept (grown_trans HXW.out hY))) (fun y hy => List.mem_of_mem_take hy) (by omega)
    have KRb : Hid (∀ a c, (a = rak.map (fun x => x.add dn) ∨ len = dn) → ∀ Y, X1.grownBy Y none → Calls Try.prog 13 #[.agg #[.slice ta tn tc, .slice na nn nc, .slice la ln lc, .int .i64 st, .slice (some ⟨bp, op, none⟩) n pc], .slice a (len - dn) c] Y fun e w' => e = .returned (.tuple #[.string bt1, .int .i64 0]) ∧ Y.grownBy w' none) := fun a c ha Y hY => by
      rw [hbt]
      refine row Y hY a (len - dn) c ((R k).drop dn) (by rw [List.length_drop, ← HLE.out]) ?_ (fun y hy => List.mem_of_mem_drop hy) (by omega)
      rcases ha with ha | ha
      · rw [ha]; exact ints_drop dn (HI.out.kept (grown_trans HXW.out hY))
      · exact .inl (List.eq_nil_of_length_eq_zero (by rw [List.length_drop, ← HLE.out]; omega))
    have eP : strOf (prodT ts ns (L k) (R k)) = if len = 0 then lf ++ { data := #[32, 45, 62] } else lf ++ { data := #[32, 45, 62] } ++ { data := #[32] } ++ rt := by
      rw [hlf, hrt, show ({ data := #[32, 45, 62] } : ByteArray) = strOf [32, 45, 62] from rfl, show ({ data := #[32] } : ByteArray) = strOf [32] from rfl, strOf_append, strOf_append, strOf_append, prodT, HLz.out, symsT_true]
      by_cases h : len = 0
      · have : R k = [] := List.eq_nil_of_length_eq_zero (by rw [← HLE.out]; exact h)
        simp [h, this]
      · have : ¬ R k = [] := fun e => h (by rw [HLE.out, e]; rfl)
        simp [h, this]
    have eI : strOf (itemT ts ns (L k) (R k) dn) = (if dn = len then (if dn = 0 then lf ++ { data := #[32, 45, 62] } ++ { data := #[32, 46] } else lf ++ { data := #[32, 45, 62] } ++ { data := #[32] } ++ at1 ++ { data := #[32, 46] }) else (if dn = 0 then lf ++ { data := #[32, 45, 62] } ++ { data := #[32, 46] } ++ { data := #[32] } ++ bt1 else lf ++ { data := #[32, 45, 62] } ++ { data := #[32] } ++ at1 ++ { data := #[32, 46] } ++ { data := #[32] } ++ bt1)) := by
      have e1 : symsT ts ns true ((R k).take dn) = if dn = 0 then [] else 32 :: symsT ts ns false ((R k).take dn) := by
        rw [symsT_true]
        have h8 : ((R k).take dn = []) ↔ dn = 0 := by
          rw [← List.length_eq_zero_iff, List.length_take, ← HLE.out]
          omega
        simp only [h8]
      have e2 : symsT ts ns true ((R k).drop dn) = if dn = len then [] else 32 :: symsT ts ns false ((R k).drop dn) := by
        rw [symsT_true]
        have h8 : ((R k).drop dn = []) ↔ dn = len := by
          rw [← List.length_eq_zero_iff, List.length_drop, ← HLE.out]
          omega
        simp only [h8]
      rw [hlf, hat, hbt, show ({ data := #[32, 45, 62] } : ByteArray) = strOf [32, 45, 62] from rfl, show ({ data := #[32, 46] } : ByteArray) = strOf [32, 46] from rfl, show ({ data := #[32] } : ByteArray) = strOf [32] from rfl, itemT, HLz.out, e1, e2, Int.toNat_natCast]
      by_cases h1 : dn = len
      · by_cases h2 : dn = 0
        · rw [if_pos h1, if_pos h2, if_pos h1, if_pos h2]; simp only [strOf_append]; simp
        · rw [if_pos h1, if_neg h2, if_pos h1, if_neg h2]; simp only [strOf_append]; simp
      · by_cases h2 : dn = 0
        · rw [if_neg h1, if_pos h2, if_neg h1, if_pos h2]; simp only [strOf_append]; simp
        · rw [if_neg h1, if_neg h2, if_neg h1, if_neg h2]; simp only [strOf_append]; simp
    obtain ⟨sW, hsW⟩ : ∃ x, x = strOf (prodT ts ns (L k) (R k)) := ⟨_, rfl⟩
    obtain ⟨sI, hsI⟩ : ∃ x, x = strOf (itemT ts ns (L k) (R k) dn) := ⟨_, rfl⟩
    have KP : Hid (∀ Y, X1.grownBy Y none → Calls Try.prog 18 #[.agg #[.slice ta tn tc, .slice na nn nc, .slice la ln lc, .int .i64 st, .slice (some ⟨bp, op, none⟩) n pc], .int .i64 (k : Int)] Y fun e w' => e = .returned (.tuple #[.string sW, .int .i64 0]) ∧ Y.grownBy w' none) := fun Y hY => by
      have h9 := prod_any ta na la (some ⟨bp, op, none⟩) tc nc lc pc ts ns lv n L R ra rc V st Y tn nn ln HLN.out (HG.out.kept (grown_trans HXW.out hY)) true ⟨fun _ => HV.out, fun _ => rfl⟩ (k : Int) (fun _ j hj => by have := prodT_short HV.out H5.out j hj; omega)
      have hd1 : decide (0 ≤ (k : Int) ∧ (k : Int) < (n : Int)) = true := decide_eq_true ⟨by omega, by omega⟩
      rw [hd1] at h9
      rw [hsW]
      exact h9
    have KI : Hid (∀ Y, X1.grownBy Y none → Calls Try.prog 20 #[.agg #[.slice ta tn tc, .slice na nn nc, .slice la ln lc, .int .i64 st, .slice (some ⟨bp, op, none⟩) n pc], .agg #[.int .i64 (k : Int), .int .i64 (dn : Int)]] Y fun e w' => e = .returned (.tuple #[.string sI, .int .i64 0]) ∧ Y.grownBy w' none) := fun Y hY => by
      have h9 := item_any ta na la (some ⟨bp, op, none⟩) tc nc lc pc ts ns lv n L R ra rc V st Y tn nn ln HLN.out (HG.out.kept (grown_trans HXW.out hY)) HRC.out true ⟨fun _ => HV.out, fun _ => rfl⟩ (k : Int) (dn : Int) (fun _ => prodT_short HV.out H5.out) true (by
        refine (decide_eq_true ?_).symm
        rw [Int.toNat_natCast, ← HLE.out]
        exact ⟨⟨by omega, by omega⟩, by omega, by omega⟩)
      rw [hsI]
      exact h9
    rw [← hsW] at eP
    rw [← hsI] at eI
    have HEP := show Hid _ from eP
    have HEI := show Hid _ from eI
    clear hlf hrt hat hbt hsW hsI eP eI row hshort hfl hlR s1 s2 s3 hsy HE HPK HPD HPS HV HG HLN H5 HRC HI HSY HLz hz1
    obtain ⟨⟨x00, x01, x02, x03, x04, x05⟩, x1⟩ := HKP.out X1 (grown_refl _ _)
    go_wp2_with fail
    refine Calls.mono (KSy.out _ (grown_refl _ _)) ?_
    rintro e w4 ⟨rfl, hg4⟩
    have HG4 : Hid (X1.grownBy w4 none) := hg4
    clear hg4 x00 x01 x02 x03 x04 x05 x1
    obtain ⟨⟨x00, x01, x02, x03, x04, x05⟩, x1⟩ := HKP.out w4 HG4.out
    go_wp2_with fail
    refine Calls.mono (KRw.out _ HG4.out) ?_
    rintro e w5 ⟨rfl, hg5⟩
    have HG5 : Hid (X1.grownBy w5 none) := grown_trans HG4.out hg5
    clear hg5 x00 x01 x02 x03 x04 x05 x1 HG4
    have HKS : Hid (∀ Y, X1.grownBy Y none → (Y.cell? ⟨w.heap.size, 0, none⟩ = some (.slice ta tn tc) ∧ Y.cell? ⟨w.heap.size, 1, none⟩ = some (.slice na nn nc) ∧ Y.cell? ⟨w.heap.size, 2, none⟩ = some (.slice la ln lc) ∧ Y.cell? ⟨w.heap.size, 3, none⟩ = some (.int .i64 st) ∧ Y.cell? ⟨w.heap.size, 4, none⟩ = some (.slice (some ⟨bp, op, none⟩) n pc) ∧ Y.cell? ⟨PB, 1, none⟩ = some (.slice rak len cap))) := fun Y hY => (HKP.out Y hY).1
    have HGc : Hid (X1.grownBy w5.drew none) := grown_trans HG5.out (grown_drewN _ 1)
    have hd0 : (0 : Int) ≤ (dn : Int) := by omega
    have hd1 : (dn : Int) ≤ (len : Int) := by omega
    have hd2 : (len : Int) ≤ (cap : Int) := by omega
    have hd3 : (dn : Int) ≤ (cap : Int) := by omega
    go_wp2_with fail
    go_region_held3 (fun w' => w'.cell? ⟨w.heap.size, 0, none⟩ = some (.slice ta tn tc) ∧ w'.cell? ⟨w.heap.size, 1, none⟩ = some (.slice na nn nc) ∧ w'.cell? ⟨w.heap.size, 2, none⟩ = some (.slice la ln lc) ∧ w'.cell? ⟨w.heap.size, 3, none⟩ = some (.int .i64 st) ∧ w'.cell? ⟨w.heap.size, 4, none⟩ = some (.slice (some ⟨bp, op, none⟩) n pc) ∧ w'.cell? ⟨PB, 1, none⟩ = some (.slice rak len cap)) (first | exact HKS.out _ HGc.out | go_keep)
      ((go_at_call 13; refine Calls.mono (KRa.out _ HGc.out) ?_; rintro e w6 ⟨rfl, hg6⟩; have HGc : Hid (X1.grownBy w6 none) := grown_trans HGc.out hg6))
    have HG6 : Hid (X1.grownBy w6 none) := HGc.out
    clear hg6 HGc HG5
    have HGc : Hid (X1.grownBy w6.drew none) := grown_trans HG6.out (grown_drewN _ 1)
    have hcase : dn < cap ∨ (cap = dn ∧ len = dn) := by omega
    rcases hcase with hcd | ⟨hcd, hld⟩
    · have hne : ¬ cap = dn := by omega
      have hci : (dn : Int) < (cap : Int) := by omega
      go_wp2_with fail
      go_region_held3 (fun w' => w'.cell? ⟨w.heap.size, 0, none⟩ = some (.slice ta tn tc) ∧ w'.cell? ⟨w.heap.size, 1, none⟩ = some (.slice na nn nc) ∧ w'.cell? ⟨w.heap.size, 2, none⟩ = some (.slice la ln lc) ∧ w'.cell? ⟨w.heap.size, 3, none⟩ = some (.int .i64 st) ∧ w'.cell? ⟨w.heap.size, 4, none⟩ = some (.slice (some ⟨bp, op, none⟩) n pc) ∧ w'.cell? ⟨PB, 1, none⟩ = some (.slice rak len cap)) (first | exact HKS.out _ HGc.out | go_keep)
        ((go_at_call 13; refine Calls.mono (KRb.out _ _ (.inl rfl) _ HGc.out) ?_; rintro e w7 ⟨rfl, hg7⟩; have HGc : Hid (X1.grownBy w7 none) := grown_trans HGc.out hg7))
      have HG7 : Hid (X1.grownBy w7 none) := HGc.out
      clear hg7 HGc HG6
      obtain ⟨⟨x00, x01, x02, x03, x04, x05⟩, x1⟩ := HKP.out w7 HG7.out
      go_wp2_with fail
      refine Calls.mono (KP.out _ HG7.out) ?_
      rintro e w8 ⟨rfl, hg8⟩
      have HG8 : Hid (X1.grownBy w8 none) := grown_trans HG7.out hg8
      clear hg8 x00 x01 x02 x03 x04 x05 x1 HG7
      obtain ⟨⟨x00, x01, x02, x03, x04, x05⟩, x1⟩ := HKP.out w8 HG8.out
      go_wp2_with fail
      refine Calls.mono (KI.out _ HG8.out) ?_
      rintro e w9 ⟨rfl, hg9⟩
      have HG9 : Hid (X1.grownBy w9 none) := grown_trans HG8.out hg9
      clear hg9 x00 x01 x02 x03 x04 x05 x1 HG8
      obtain ⟨⟨x00, x01, x02, x03, x04, x05⟩, x1⟩ := HKP.out w9 HG9.out
      by_cases hdl2 : dn = len
      · by_cases hd00 : dn = 0
        · -- nothing at all
          have hl0 : len = 0 := by omega
          have hw1 : sW = lf ++ { data := #[32, 45, 62] } := by rw [HEP.out, if_pos hl0]
          have hi1 : sI = lf ++ { data := #[32, 45, 62] } ++ { data := #[32, 46] } := by rw [HEI.out, if_pos hdl2, if_pos hd00]
          have HCC : Hid (dn = len ∧ dn = 0) := ⟨hdl2, hd00⟩
          have t1 : ¬ ((0 : Int) < (len : Int)) := by omega
          have t2 : ¬ ((0 : Int) < (dn : Int)) := by omega
          have t3 : ¬ ((dn : Int) < (len : Int)) := by omega
          subst hw1 hi1
          clear HEP HEI hdl2 hd00 hl0
          go_wp2_with fail
          refine Calls.mono (KA.out _) ?_
          rintro e w10 ⟨rfl, hg10⟩
          have HG10 : Hid (X1.grownBy w10 none) := grown_trans HG9.out hg10
          clear hg10
          go_wp2_with fail
          go_ret
          exact ⟨rfl, grown_trans HXW.out HG10.out⟩
        · have hl0 : ¬ len = 0 := by omega
          have hw1 : sW = lf ++ { data := #[32, 45, 62] } ++ { data := #[32] } ++ rt := by rw [HEP.out, if_neg hl0]
          have hi1 : sI = lf ++ { data := #[32, 45, 62] } ++ { data := #[32] } ++ at1 ++ { data := #[32, 46] } := by rw [HEI.out, if_pos hdl2, if_neg hd00]
          have t1 : (0 : Int) < (len : Int) := by omega
          have t2 : (0 : Int) < (dn : Int) := by omega
          have t3 : ¬ ((dn : Int) < (len : Int)) := by omega
          subst hw1 hi1
          clear HEP HEI hdl2 hd00 hl0
          go_wp2_with fail
          refine Calls.mono (KA.out _) ?_
          rintro e w10 ⟨rfl, hg10⟩
          have HG10 : Hid (X1.grownBy w10 none) := grown_trans HG9.out hg10
          clear hg10
          go_wp2_with fail
          go_ret
          exact ⟨rfl, grown_trans HXW.out HG10.out⟩
      · have hl0 : ¬ len = 0 := by omega
        have t1 : (0 : Int) < (len : Int) := by omega
        have t3 : (dn : Int) < (len : Int) := by omega
        by_cases hd00 : dn = 0
        · have hw1 : sW = lf ++ { data := #[32, 45, 62] } ++ { data := #[32] } ++ rt := by rw [HEP.out, if_neg hl0]
          have hi1 : sI = lf ++ { data := #[32, 45, 62] } ++ { data := #[32, 46] } ++ { data := #[32] } ++ bt1 := by rw [HEI.out, if_neg hdl2, if_pos hd00]
          have t2 : ¬ ((0 : Int) < (dn : Int)) := by omega
          subst hw1 hi1
          clear HEP HEI hdl2 hd00 hl0
          go_wp2_with fail
          refine Calls.mono (KA.out _) ?_
          rintro e w10 ⟨rfl, hg10⟩
          have HG10 : Hid (X1.grownBy w10 none) := grown_trans HG9.out hg10
          clear hg10
          go_wp2_with fail
          go_ret
          exact ⟨rfl, grown_trans HXW.out HG10.out⟩
        · have hw1 : sW = lf ++ { data := #[32, 45, 62] } ++ { data := #[32] } ++ rt := by rw [HEP.out, if_neg hl0]
          have hi1 : sI = lf ++ { data := #[32, 45, 62] } ++ { data := #[32] } ++ at1 ++ { data := #[32, 46] } ++ { data := #[32] } ++ bt1 := by rw [HEI.out, if_neg hdl2, if_neg hd00]
          have t2 : (0 : Int) < (dn : Int) := by omega
          subst hw1 hi1
          clear HEP HEI hdl2 hd00 hl0
          go_wp2_with fail
          refine Calls.mono (KA.out _) ?_
          rintro e w10 ⟨rfl, hg10⟩
          have HG10 : Hid (X1.grownBy w10 none) := grown_trans HG9.out hg10
          clear hg10
          go_wp2_with fail
          go_ret
          exact ⟨rfl, grown_trans HXW.out HG10.out⟩
    · subst hcd hld
      have KRb0 : Hid (∀ Y, X1.grownBy Y none → Calls Try.prog 13 #[.agg #[.slice ta tn tc, .slice na nn nc, .slice la ln lc, .int .i64 st, .slice (some ⟨bp, op, none⟩) n pc], .slice rak 0 0] Y fun e w' => e = .returned (.tuple #[.string bt1, .int .i64 0]) ∧ Y.grownBy w' none) := fun Y hY => by
        have h9 := KRb.out rak 0 (.inr rfl) Y hY
        rw [Nat.sub_self] at h9
        exact h9
      go_wp2_with fail
      go_region_held3 (fun w' => w'.cell? ⟨w.heap.size, 0, none⟩ = some (.slice ta tn tc) ∧ w'.cell? ⟨w.heap.size, 1, none⟩ = some (.slice na nn nc) ∧ w'.cell? ⟨w.heap.size, 2, none⟩ = some (.slice la ln lc) ∧ w'.cell? ⟨w.heap.size, 3, none⟩ = some (.int .i64 st) ∧ w'.cell? ⟨w.heap.size, 4, none⟩ = some (.slice (some ⟨bp, op, none⟩) n pc) ∧ w'.cell? ⟨PB, 1, none⟩ = some (.slice rak len len)) (first | exact HKS.out _ HGc.out | go_keep)
        ((go_at_call 13; refine Calls.mono (KRb0.out _ HGc.out) ?_; rintro e w7 ⟨rfl, hg7⟩; have HGc : Hid (X1.grownBy w7 none) := grown_trans HGc.out hg7))
      have HG7 : Hid (X1.grownBy w7 none) := HGc.out
      clear hg7 HGc HG6
      obtain ⟨⟨x00, x01, x02, x03, x04, x05⟩, x1⟩ := HKP.out w7 HG7.out
      go_wp2_with fail
      refine Calls.mono (KP.out _ HG7.out) ?_
      rintro e w8 ⟨rfl, hg8⟩
      have HG8 : Hid (X1.grownBy w8 none) := grown_trans HG7.out hg8
      clear hg8 x00 x01 x02 x03 x04 x05 x1 HG7
      obtain ⟨⟨x00, x01, x02, x03, x04, x05⟩, x1⟩ := HKP.out w8 HG8.out
      go_wp2_with fail
      refine Calls.mono (KI.out _ HG8.out) ?_
      rintro e w9 ⟨rfl, hg9⟩
      have HG9 : Hid (X1.grownBy w9 none) := grown_trans HG8.out hg9
      clear hg9 x00 x01 x02 x03 x04 x05 x1 HG8
      obtain ⟨⟨x00, x01, x02, x03, x04, x05⟩, x1⟩ := HKP.out w9 HG9.out
      by_cases hd00 : len = 0
      · have hw1 : sW = lf ++ { data := #[32, 45, 62] } := by rw [HEP.out, if_pos hd00]
        have hi1 : sI = lf ++ { data := #[32, 45, 62] } ++ { data := #[32, 46] } := by rw [HEI.out, if_pos trivial, if_pos hd00]
        have t2 : ¬ ((0 : Int) < (len : Int)) := by omega
        subst hw1 hi1
        clear HEP HEI hd00
        go_wp2_with fail
        refine Calls.mono (KA.out _) ?_
        rintro e w10 ⟨rfl, hg10⟩
        have HG10 : Hid (X1.grownBy w10 none) := grown_trans HG9.out hg10
        clear hg10
        go_wp2_with fail
        go_ret
        exact ⟨rfl, grown_trans HXW.out HG10.out⟩
      · have hw1 : sW = lf ++ { data := #[32, 45, 62] } ++ { data := #[32] } ++ rt := by rw [HEP.out, if_neg hd00]
        have hi1 : sI = lf ++ { data := #[32, 45, 62] } ++ { data := #[32] } ++ at1 ++ { data := #[32, 46] } := by rw [HEI.out, if_pos trivial, if_neg hd00]
        have t2 : (0 : Int) < (len : Int) := by omega
        subst hw1 hi1
        clear HEP HEI hd00
        go_wp2_with fail
        refine Calls.mono (KA.out _) ?_
        rintro e w10 ⟨rfl, hg10⟩
        have HG10 : Hid (X1.grownBy w10 none) := grown_trans HG9.out hg10
        clear hg10
        go_wp2_with fail
        go_ret
        exact ⟨rfl, grown_trans HXW.out HG10.out⟩

end Go.Proofs.Ytkhmhcinepfemaa
