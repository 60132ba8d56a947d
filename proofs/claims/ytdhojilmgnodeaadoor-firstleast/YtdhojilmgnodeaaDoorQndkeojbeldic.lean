import Derived.Test.YtdhojilmgnodeaaDoorQkpmjpampekgo
import Derived.BigQuiet

/-
  FirstProds, walked: of a closed grammar, and of any.
-/
namespace Go.Proofs.YtdhojilmgnodeaaDoor
open Go.RowKit Go.Maps Go.Shelf

attribute [local go_sem] Oper.semAt_some

theorem name_ne {s : ByteArray} (h : isNameB s = true) : s ≠ ⟨#[]⟩ := by
  rintro rfl
  exact absurd h (by decide)
/-- A grammar isn't both; the first name says which. -/
theorem valid_name {ts : List (ByteArray × Int)} {ns : List ByteArray} {lv : List Int} {st : Int} {n : Nat} {L : Nat → Int} {R : Nat → List Int} {V : Nat → Int} (h : validOK ts ns lv st n L R V) : ns.getD 0 ⟨#[]⟩ ≠ ⟨#[]⟩ := by
  have hf := (fits_holds ts ns lv st n L R V).2 h.1
  have hm := mayOK_valid h
  exact name_ne (hf.nons 0 (Nat.le_refl _) hm.n0).1

set_option maxRecDepth 100000 in
set_option maxHeartbeats 3000000 in
theorem prods_closed (ta na la pa : Option Addr) (tc nc lc pc : Nat) (ts : List (ByteArray × Int)) (ns : List ByteArray) (lv : List Int) (n : Nat) (L : Nat → Int) (R : Nat → List Int) (ra : Nat → Option Addr) (rc : Nat → Nat) (V : Nat → Int) (st : Int) (w : World) (tn nn ln : Nat) (hlen : ts.length = tn ∧ ns.length = nn ∧ lv.length = ln) (hG : GAt w ta na la pa tc nc lc pc ts ns lv n L R ra rc V) (hts : ∀ t ∈ ts, t.1.size ≤ 140737488355328) (hns : ∀ s ∈ ns, s.size ≤ 140737488355328) (hT : B.Tab w) (h0 : 0 < w.heap.size) (hV : false = true ↔ validOK ts ns lv st n L R V) (hC : true = true ↔ closedOK ts ns lv st n L R V) : Calls Tryd.prog 5 #[.agg #[.slice ta tn tc, .slice na nn nc, .slice la ln lc, .int .i64 st, .slice pa n pc]] w fun e y => e = .returned (.bool true) ∧ w.grownBy y none := by
  have hok : validOK ts ns lv st n L R V ∨ closedOK ts ns lv st n L R V := .inr (hC.1 rfl)
  have hM : MayOK tn nn n st L R true := may_of hlen hV hC rfl
  obtain ⟨F, Mk, hF⟩ := FOf.exists tn n L R
  obtain ⟨b, q, hQ⟩ := QOf.exists hM.tmax n L R
  have HAW : Hid (∀ X, w.grownBy X none → Calls Tryd.prog 8 #[] X fun e w' => e = .returned (.bool true) ∧ X.grownBy w' none) := fun X hX => kawake_any X (Tab_kept hT hX h0) (Nat.lt_of_lt_of_le h0 hX.size)
  obtain ⟨Q, hQd⟩ : ∃ Q : Nat → List Int, ∀ i, Q i = B.mems 1024 (Mk i) := ⟨_, fun _ => rfl⟩
  have HSE : Hid (∀ X, w.grownBy X none → Calls Tryd.prog 13 #[.agg #[.slice ta tn tc, .slice na nn nc, .slice la ln lc, .int .i64 st, .slice pa n pc]] X fun e y => SetsTold nn Q X e y) := fun X hX => sets_ok ta na la pa tc nc lc pc ts ns lv n L R ra rc V st X tn nn ln hlen (hG.kept hX) hok hM F Mk hF (Tab_kept hT hX h0) (Nat.lt_of_lt_of_le h0 hX.size) Q hQd
  have HNU : Hid (∀ X, w.grownBy X none → Calls Tryd.prog 10 #[.agg #[.slice ta tn tc, .slice na nn nc, .slice la ln lc, .int .i64 st, .slice pa n pc]] X fun e y => ∃ k, e = .returned (.tuple #[.slice (some ⟨k, 0, none⟩) nn nn, .int .i64 0]) ∧ X.heap.size ≤ k ∧ ValAt y k nn 4 (fun i => .bool (F i)) ∧ X.grownBy y none) := fun X hX => nullable_ok ta na la pa tc nc lc pc ts ns lv n L R ra rc V st X tn nn ln hlen (hG.kept hX) hok hM F hF.nul
  have HVL : Hid (∀ X, w.grownBy X none → Calls Tryd.prog 23 #[.agg #[.slice ta tn tc, .slice na nn nc, .slice la ln lc, .int .i64 st, .slice pa n pc]] X fun e w' => e = .returned (.bool false) ∧ X.grownBy w' none) := fun X hX => by
    have := rvalid_any ta na la pa tc nc lc pc st ts ns lv n L R ra rc V X (hG.kept hX) hts hns false hV
    rwa [hlen.1, hlen.2.1, hlen.2.2] at this
  have HCL : Hid (∀ X, w.grownBy X none → Calls Tryd.prog 24 #[.agg #[.slice ta tn tc, .slice na nn nc, .slice la ln lc, .int .i64 st, .slice pa n pc]] X fun e w' => e = .returned (.bool true) ∧ X.grownBy w' none) := fun X hX => by
    have := rclosed_any ta na la pa tc nc lc pc st ts ns lv n L R ra rc V X (hG.kept hX) hts hns true hC
    rwa [hlen.1, hlen.2.1, hlen.2.2] at this
  obtain ⟨bp, op, rfl, hp⟩ : ∃ b off, pa = some ⟨b, off, none⟩ ∧ ∀ k, k < n → w.cell? ⟨b, off + k * 3, none⟩ = some (.int .i64 (L k)) ∧ w.cell? ⟨b, off + k * 3 + 1, none⟩ = some (.slice (ra k) (R k).length (rc k)) ∧ w.cell? ⟨b, off + k * 3 + 2, none⟩ = some (.int .i64 (V k)) ∧ IntsAt w (ra k) (R k) ∧ (ra k = none → rc k = 0) ∧ (R k).length ≤ 17592186044416 := by
    have := hM.p0
    rcases hG.prods with h | h
    · omega
    · exact h
  have HRW : Hid (∀ k, k < n → ∀ X, w.grownBy X none → Calls Tryd.prog 17 #[.agg #[.slice ta tn tc, .slice na nn nc, .slice la ln lc, .int .i64 st, .slice (some ⟨bp, op, none⟩) n pc], .slice (ra k) (R k).length (rc k)] X fun e y => RowTold (q k) (b k) X e y) := fun k hk X hX => row_ok ta na la (some ⟨bp, op, none⟩) tc nc lc pc ts ns lv n L R ra rc V st X tn nn ln hlen (hG.kept hX) (ra k) (rc k) (R k) ((hp k hk).2.2.2.1.kept hX) (hp k hk).2.2.2.2.2 hok hM (fun x hx => ⟨by have := hM.right k hk x hx; omega, (hM.right k hk x hx).2⟩) (Tab_kept hT hX h0) (Nat.lt_of_lt_of_le h0 hX.size) (b k) (q k) (hQ.row k) (hQ.set k)
  have HPC : Hid (∀ k, k < n → ∀ X, w.grownBy X none → X.cell? ⟨bp, op + k * 3, none⟩ = some (.int .i64 (L k)) ∧ X.cell? ⟨bp, op + k * 3 + 1, none⟩ = some (.slice (ra k) (R k).length (rc k))) := fun k hk X hX => ⟨hX.cell (hp k hk).1 (by simp), hX.cell (hp k hk).2.1 (by simp)⟩
  have HALL : Hid (∀ i, accB L b ((tn + i : Nat) : Int) n = F i ∧ accQ L q ((tn + i : Nat) : Int) n = Mk i) := fun i => acc_all hF hQ i
  have HQL : Hid (∀ k, q k < 2 ^ 65) := hQ.lt
  have HQD : Hid (∀ i, Q i = B.mems 1024 (Mk i)) := hQd
  have hnn : nn ≤ 65 := hM.nmax
  have htn : tn ≤ 65 := hM.tmax
  have hpn : n ≤ 97 := hM.pmax
  have HX0 : Hid (PhAt w (w.alloc (.cells #[.slice ta tn tc, .slice na nn nc, .slice la ln lc, .int .i64 st, .slice (some ⟨bp, op, none⟩) n pc] 27)) w.heap.size #[.slice ta tn tc, .slice na nn nc, .slice la ln lc, .int .i64 st, .slice (some ⟨bp, op, none⟩) n pc]) := ⟨World.grownBy_alloc _ _ none, heap_alloc_last w _⟩
  clear hG hlen hts hns hT h0 hV hC hok hM hF hQ hQd hp
  go_enter Tryd.func5, Tryd.ntmps5
  go_wp2_with fail
  refine Calls.mono (HAW.out _ HX0.out.grown) ?_
  rintro e w1 ⟨rfl, hg1⟩
  have HX1 : Hid (PhAt w w1 w.heap.size #[.slice ta tn tc, .slice na nn nc, .slice la ln lc, .int .i64 st, .slice (some ⟨bp, op, none⟩) n pc]) := HX0.out.kept hg1
  clear hg1 HX0
  obtain ⟨k0, k1, k2, k3, k4⟩ := HX1.out.cells
  go_wp2_with fail
  refine Calls.mono (HSE.out _ HX1.out.grown) ?_
  rintro e w2 ⟨ks, ua, uc, rfl, _, hV2, hR2, hg2⟩
  have HX2 : Hid (PhAt w w2 w.heap.size #[.slice ta tn tc, .slice na nn nc, .slice la ln lc, .int .i64 st, .slice (some ⟨bp, op, none⟩) n pc]) := HX1.out.kept hg2
  have HS2 : Hid (ValAt w2 ks nn 24 (fun i => .slice (ua i) (Q i).length (uc i)) ∧ ∀ i, i < nn → IntsAt w2 (ua i) (Q i)) := ⟨hV2, fun i hi => (hR2 i hi).ints⟩
  clear hg2 HX1 k0 k1 k2 k3 k4 hV2 hR2
  obtain ⟨k0, k1, k2, k3, k4⟩ := HX2.out.cells
  go_wp2_with fail
  refine Calls.mono (HNU.out _ HX2.out.grown) ?_
  rintro e w3 ⟨kn, rfl, _, hV3, hg3⟩
  have HP3 : Hid (PsAt w w3 #[.slice ta tn tc, .slice na nn nc, .slice la ln lc, .int .i64 st, .slice (some ⟨bp, op, none⟩) n pc] ks kn nn Q F ua uc) := ⟨grown_trans HX2.out.grown hg3, (HX2.out.kept hg3).box, HS2.out.1.kept hg3, fun i hi => (HS2.out.2 i hi).kept hg3, hV3⟩
  clear hg3 HX2 HS2 k0 k1 k2 k3 k4 hV3
  obtain ⟨k0, k1, k2, k3, k4⟩ := HP3.out.ph.cells
  go_wp2_with fail
  refine Calls.mono (HVL.out _ HP3.out.grown) ?_
  rintro e w4 ⟨rfl, hg4⟩
  have HP4 : Hid (PsAt w w4 #[.slice ta tn tc, .slice na nn nc, .slice la ln lc, .int .i64 st, .slice (some ⟨bp, op, none⟩) n pc] ks kn nn Q F ua uc) := HP3.out.kept hg4
  clear hg4 HP3 k0 k1 k2 k3 k4
  obtain ⟨k0, k1, k2, k3, k4⟩ := HP4.out.ph.cells
  go_wp2_with fail
  refine Calls.mono (HCL.out _ HP4.out.grown) ?_
  rintro e w5 ⟨rfl, hg5⟩
  have HP5 : Hid (PsAt w w5 #[.slice ta tn tc, .slice na nn nc, .slice la ln lc, .int .i64 st, .slice (some ⟨bp, op, none⟩) n pc] ks kn nn Q F ua uc) := HP4.out.kept hg5
  clear hg5 HP4 k0 k1 k2 k3 k4 HVL HCL HSE HNU HAW
  obtain ⟨k0, k1, k2, k3, k4⟩ := HP5.out.ph.cells
  have hnne : ((nn : Int) != (nn : Int)) = false := bne_self_eq_false _
  go_wp2_with fail
  clear k0 k1 k2 k3 k4 hnne
  go_loopg [10] nn (fun gk v10 wr => ∃ i : Nat, i ≤ nn ∧ gk = nn - i ∧ v10 = .int .i64 i ∧ PsAt w wr #[.slice ta tn tc, .slice na nn nc, .slice la ln lc, .int .i64 st, .slice (some ⟨bp, op, none⟩) n pc] ks kn nn Q F ua uc)
  case atStart => exact ⟨0, Nat.zero_le _, rfl, rfl, HP5.out⟩
  case round =>
    obtain ⟨i, hi, hgi, rfl, hP⟩ := hrel
    have HGI : Hid (gk = nn - i) := hgi
    have HP : Hid (PsAt w wr #[.slice ta tn tc, .slice na nn nc, .slice la ln lc, .int .i64 st, .slice (some ⟨bp, op, none⟩) n pc] ks kn nn Q F ua uc) := hP
    clear hgi hP HP5
    obtain ⟨k0, k1, k2, k3, k4⟩ := HP.out.ph.cells
    by_cases hlt : i < nn
    · have hi0 : (0 : Int) ≤ (i : Int) := by omega
      have hi1 : (i : Int) < (nn : Int) := by omega
      have hid : decide (i < nn) = true := decide_eq_true hlt
      obtain ⟨sx, hsx⟩ : ∃ s : Int, s = ((tn + i : Nat) : Int) := ⟨_, rfl⟩
      have HSX : Hid (sx = (tn : Int) + (i : Int)) := by show _ = _; rw [hsx]; omega
      have HAL : Hid (accB L b sx n = F i ∧ accQ L q sx n = Mk i) := by
        have := HALL.out i
        rw [← hsx] at this
        exact this
      clear hsx
      generalize wr = w6 at *
      go_wp2_with fail
      clear k0 k1 k2 k3 k4
      go_loopg [11, 12, 13] n (fun gk v11 v12 v13 wr => ∃ (k : Nat) (a' : Option Addr) (c' : Nat), k ≤ n ∧ gk = n - k ∧ v11 = .slice a' (B.mems 1024 (accQ L q sx k)).length c' ∧ v12 = .bool (accB L b sx k) ∧ v13 = .int .i64 k ∧ IntsAt wr a' (B.mems 1024 (accQ L q sx k)) ∧ PsAt w wr #[.slice ta tn tc, .slice na nn nc, .slice la ln lc, .int .i64 st, .slice (some ⟨bp, op, none⟩) n pc] ks kn nn Q F ua uc)
      case atStart => exact ⟨0, none, 0, Nat.zero_le _, rfl, by rw [show accQ L q sx 0 = 0 from rfl, mems_zero]; rfl, rfl, rfl, .inl (by rw [show accQ L q sx 0 = 0 from rfl, mems_zero]), HP.out⟩
      case round =>
        obtain ⟨k, a', c', hk, hgk, rfl, rfl, rfl, hI, hP⟩ := hrel
        have HGK : Hid (gk = n - k) := hgk
        have HPK : Hid (PsAt w wr #[.slice ta tn tc, .slice na nn nc, .slice la ln lc, .int .i64 st, .slice (some ⟨bp, op, none⟩) n pc] ks kn nn Q F ua uc) := hP
        obtain ⟨A, hA⟩ : ∃ A, A = accQ L q sx k := ⟨_, rfl⟩
        have HA : Hid (A = accQ L q sx k) := hA
        rw [← hA] at hI
        rw [← hA]
        obtain ⟨Z, hZ⟩ : ∃ Z, Z = B.mems 1024 A := ⟨_, rfl⟩
        have HZ : Hid (Z = B.mems 1024 A) := hZ
        rw [← hZ] at hI
        rw [← hZ]
        obtain ⟨zl, hzl⟩ : ∃ z, z = Z.length := ⟨_, rfl⟩
        have HZL : Hid (zl = Z.length) := hzl
        rw [← hzl]
        obtain ⟨bi, hbi⟩ : ∃ c, c = accB L b sx k := ⟨_, rfl⟩
        have HBI : Hid (bi = accB L b sx k) := hbi
        rw [← hbi]
        have HI : Hid (∀ X, wr.grownBy X none → IntsAt X a' Z) := fun X hX => hI.kept hX
        clear hgk hP hI hA hZ hzl hbi HP
        obtain ⟨k0, k1, k2, k3, k4⟩ := HPK.out.ph.cells
        by_cases hkn : k < n
        · have hk0 : (0 : Int) ≤ (k : Int) := by omega
          have hk1 : (k : Int) < (n : Int) := by omega
          have hkd : decide (k < n) = true := decide_eq_true hkn
          obtain ⟨p0, p1⟩ := HPC.out k hkn wr HPK.out.grown
          obtain ⟨lk, hlk⟩ : ∃ l, l = L k := ⟨_, rfl⟩
          rw [← hlk] at p0
          obtain ⟨rl, hrl⟩ : ∃ r, r = (R k).length := ⟨_, rfl⟩
          rw [← hrl] at p1
          have HRK : Hid (∀ X, w.grownBy X none → Calls Tryd.prog 17 #[.agg #[.slice ta tn tc, .slice na nn nc, .slice la ln lc, .int .i64 st, .slice (some ⟨bp, op, none⟩) n pc], .slice (ra k) rl (rc k)] X fun e y => RowTold (q k) (b k) X e y) := fun X hX => by rw [hrl]; exact HRW.out k hkn X hX
          have HKS : Hid (∀ x, wr.grownBy x none → (x.cell? ⟨w.heap.size, 0, none⟩ = some (.slice ta tn tc) ∧ x.cell? ⟨w.heap.size, 1, none⟩ = some (.slice na nn nc) ∧ x.cell? ⟨w.heap.size, 2, none⟩ = some (.slice la ln lc) ∧ x.cell? ⟨w.heap.size, 3, none⟩ = some (.int .i64 st) ∧ x.cell? ⟨w.heap.size, 4, none⟩ = some (.slice (some ⟨bp, op, none⟩) n pc)) ∧ x.cell? ⟨bp, op + k * 3 + 1, none⟩ = some (.slice (ra k) rl (rc k))) := fun x hx => ⟨(HPK.out.kept hx).ph.cells, hx.cell p1 (by simp)⟩
          by_cases he : lk = sx
          · have hne : (lk != ((tn : Int) + (i : Int))) = false := by rw [he, HSX.out]; exact bne_self_eq_false _
            have HAQ : Hid (accQ L q sx (k + 1) = A ||| q k ∧ accB L b sx (k + 1) = (bi || b k)) := by
              rw [HA.out, HBI.out]
              exact ⟨if_pos (by rw [← hlk, he]), if_pos (by rw [← hlk, he])⟩
            clear hlk hrl he
            have HUP : Hid (∀ j, w.grownBy (wr.drewN j).drew none ∧ wr.grownBy (wr.drewN j).drew none) := fun j => ⟨grown_trans HPK.out.grown (grown_trans (grown_drewN _ _) (grown_drewN _ 1)), grown_trans (grown_drewN _ _) (grown_drewN _ 1)⟩
            go_wp2_with fail
            go_quiet (fail)
            go_wp2_with fail
            go_region_held3 (fun x => (x.cell? ⟨w.heap.size, 0, none⟩ = some (.slice ta tn tc) ∧ x.cell? ⟨w.heap.size, 1, none⟩ = some (.slice na nn nc) ∧ x.cell? ⟨w.heap.size, 2, none⟩ = some (.slice la ln lc) ∧ x.cell? ⟨w.heap.size, 3, none⟩ = some (.int .i64 st) ∧ x.cell? ⟨w.heap.size, 4, none⟩ = some (.slice (some ⟨bp, op, none⟩) n pc)) ∧ x.cell? ⟨bp, op + k * 3 + 1, none⟩ = some (.slice (ra k) rl (rc k))) (first | exact HKS.out _ (HUP.out _).2 | exact HKS.out _ HG7.out | go_keep)
              ((first
                | (go_at_call 17; refine Calls.mono (HRK.out _ (HUP.out _).1) ?_; rintro e w7 ⟨a7, c7, rfl, ho7, hg7⟩; have HG7 : Hid (wr.grownBy w7 none) := grown_trans (HUP.out _).2 hg7; have HI7 : Hid (IntsAt w7 a7 (B.mems 1024 (q k))) := (RowIn.of ho7 (Nat.zero_le _)).ints; clear ho7 hg7)
                | fail))
            have HBO : Hid (Calls Tryd.prog 22 #[.slice a' zl c', .slice a7 (B.mems 1024 (q k)).length c7] w7 fun e y => ∃ (a8 : Option Addr) (c8 : Nat), e = .returned (.slice a8 (B.mems 1024 (A ||| q k)).length c8) ∧ IntsAt y a8 (B.mems 1024 (A ||| q k)) ∧ w7.grownBy y none) := by
              have hA65 : A < 2 ^ 65 := by rw [HA.out]; exact accQ_lt HQL.out k
              have h8 := both_any a' a7 c' c7 Z (B.mems 1024 (q k)) w7 (HI.out _ HG7.out) HI7.out (by rw [HZ.out]; exact Nat.le_trans (mems_short _) (by decide)) (Nat.le_trans (mems_short _) (by decide))
              rw [HZL.out]
              refine h8.mono ?_
              rintro e y ⟨a8, c8, rfl, ho8, hg8⟩
              have h9 : bothTo Z (B.mems 1024 (q k)) 65 = B.mems 1024 (A ||| q k) := by rw [HZ.out]; exact both_mems hA65 (HQL.out k)
              rw [h9] at ho8
              exact ⟨a8, c8, by rw [h9], (RowIn.of ho8 (Nat.zero_le _)).ints, hg8⟩
            obtain ⟨l7, hl7⟩ : ∃ l, l = (B.mems 1024 (q k)).length := ⟨_, rfl⟩
            rw [← hl7] at HBO
            rw [← hl7]
            obtain ⟨l8, hl8⟩ : ∃ l, l = (B.mems 1024 (A ||| q k)).length := ⟨_, rfl⟩
            have HL8 : Hid (l8 = (B.mems 1024 (A ||| q k)).length) := hl8
            rw [← hl8] at HBO
            obtain ⟨bk, hbk⟩ : ∃ c, c = b k := ⟨_, rfl⟩
            have HBK : Hid (bk = b k) := hbk
            rw [← hbk]
            clear hl7 hl8 hbk k0 k1 k2 k3 k4 p0 p1
            go_wp2_with fail
            refine Calls.mono HBO.out ?_
            rintro e w8 ⟨a8, c8, rfl, hI8, hg8⟩
            have HI8 : Hid (IntsAt w8 a8 (B.mems 1024 (A ||| q k))) := hI8
            have HP8 : Hid (PsAt w w8 #[.slice ta tn tc, .slice na nn nc, .slice la ln lc, .int .i64 st, .slice (some ⟨bp, op, none⟩) n pc] ks kn nn Q F ua uc) := HPK.out.kept (grown_trans HG7.out hg8)
            clear hI8 hg8 HBO
            cases bi with
            | true =>
              go_wp2_with fail
              go_roundg (n - (k + 1))
              case measure => have := HGK.out; omega
              case rel => exact ⟨k + 1, a8, c8, by omega, rfl, by rw [HAQ.out.1, ← HL8.out], by rw [HAQ.out.2]; rfl, by go_num, by rw [HAQ.out.1]; exact HI8.out, HP8.out⟩
            | false =>
              go_wp2_with fail
              go_roundg (n - (k + 1))
              case measure => have := HGK.out; omega
              case rel => exact ⟨k + 1, a8, c8, by omega, rfl, by rw [HAQ.out.1, ← HL8.out], by rw [HAQ.out.2, ← HBK.out]; rfl, by go_num, by rw [HAQ.out.1]; exact HI8.out, HP8.out⟩
          · have hne : (lk != ((tn : Int) + (i : Int))) = true := bne_iff_ne.2 (by rw [← HSX.out]; exact he)
            have HAQ : Hid (accQ L q sx (k + 1) = A ∧ accB L b sx (k + 1) = bi) := by
              rw [HA.out, HBI.out]
              exact ⟨if_neg (by rw [← hlk]; exact he), if_neg (by rw [← hlk]; exact he)⟩
            clear hlk hrl he
            go_wp2_with fail
            go_quiet (fail)
            go_wp2_with fail
            go_roundg (n - (k + 1))
            case measure => have := HGK.out; omega
            case rel => exact ⟨k + 1, a', c', by omega, rfl, by rw [HAQ.out.1, ← HZ.out, ← HZL.out], by rw [HAQ.out.2], by go_num, by rw [HAQ.out.1, ← HZ.out]; exact HI.out _ (grown_drewN _ _), HPK.out.kept (grown_drewN _ _)⟩
        · have hkk : n = k := by omega
          subst hkk
          have hkd : decide (n < n) = false := decide_eq_false (by omega)
          have hzq : Z = Q i := by rw [HZ.out, HQD.out, HA.out, HAL.out.2]
          have hbf : bi = F i := by rw [HBI.out, HAL.out.1]
          have s0 := HPK.out.row.cell i hlt
          have n0 := HPK.out.nul.cell i hlt
          rw [← hzq, ← HZL.out] at s0
          rw [← hbf] at n0
          have HIN : Hid (Calls Tryd.prog 19 #[.slice (ua i) zl (uc i), .slice a' zl c'] wr fun e y => e = .returned (.bool true) ∧ wr.grownBy y none) := by
            have h7 := HPK.out.rows i hlt
            rw [← hzq] at h7
            rw [HZL.out]
            exact ints_same _ _ _ _ Z wr h7 (HI.out _ (grown_refl _ _)) (by rw [HZ.out]; exact Nat.le_trans (mems_short _) (by decide))
          clear hzq hbf HALL HRW
          go_wp2_with fail
          refine Calls.mono HIN.out ?_
          rintro e w9 ⟨rfl, hg9⟩
          have HP9 : Hid (PsAt w w9 #[.slice ta tn tc, .slice na nn nc, .slice la ln lc, .int .i64 st, .slice (some ⟨bp, op, none⟩) n pc] ks kn nn Q F ua uc) := HPK.out.kept hg9
          have n9 := hg9.cell n0 (by simp)
          clear hg9 HIN s0 n0 k0 k1 k2 k3 k4
          cases bi with
          | true =>
            go_wp2_with fail
            go_roundg (nn - (i + 1))
            case measure => have := HGI.out; omega
            case rel => exact ⟨i + 1, by omega, rfl, by go_num, HP9.out⟩
          | false =>
            go_wp2_with fail
            go_roundg (nn - (i + 1))
            case measure => have := HGI.out; omega
            case rel => exact ⟨i + 1, by omega, rfl, by go_num, HP9.out⟩
    · have hin : nn = i := by omega
      subst hin
      have hid : decide (nn < nn) = false := decide_eq_false (by omega)
      go_wp2_with fail
      go_ret
      exact ⟨rfl, HP.out.grown⟩

theorem prods_core (ta na la pa : Option Addr) (tc nc lc pc : Nat) (ts : List (ByteArray × Int)) (ns : List ByteArray) (lv : List Int) (n : Nat) (L : Nat → Int) (R : Nat → List Int) (ra : Nat → Option Addr) (rc : Nat → Nat) (V : Nat → Int) (st : Int) (w : World) (tn nn ln : Nat) (hlen : ts.length = tn ∧ ns.length = nn ∧ lv.length = ln) (hG : GAt w ta na la pa tc nc lc pc ts ns lv n L R ra rc V) (hts : ∀ t ∈ ts, t.1.size ≤ 140737488355328) (hns : ∀ s ∈ ns, s.size ≤ 140737488355328) (hT : B.Tab w) (h0 : 0 < w.heap.size) : Calls Tryd.prog 5 #[.agg #[.slice ta tn tc, .slice na nn nc, .slice la ln lc, .int .i64 st, .slice pa n pc]] w fun e y => e = .returned (.bool true) ∧ w.grownBy y none := by
  by_cases hv : validOK ts ns lv st n L R V
  · exact prods_valid ta na la pa tc nc lc pc ts ns lv n L R ra rc V st w tn nn ln hlen hG hts hns hT h0 ⟨fun _ => hv, fun _ => rfl⟩ ⟨fun h => (by cases h), fun h => absurd h.1.name (valid_name hv)⟩
  · by_cases hc : closedOK ts ns lv st n L R V
    · exact prods_closed ta na la pa tc nc lc pc ts ns lv n L R ra rc V st w tn nn ln hlen hG hts hns hT h0 ⟨fun h => (by cases h), fun h => absurd h hv⟩ ⟨fun _ => hc, fun _ => rfl⟩
    · exact prods_bad ta na la pa tc nc lc pc ts ns lv n L R ra rc V st w tn nn ln hlen hG hts hns hT h0 hv hc

end Go.Proofs.YtdhojilmgnodeaaDoor

/-
  first: the document's vanishes and Null.
-/
namespace Go.Proofs.YtdhojilmgnodeaaDoor
open Go.RowKit Go.Maps Go.Shelf

attribute [local go_sem] Oper.semAt_some

/-- Do all symbols of a row vanish, by the document's marks? -/
def vanB (tn : Nat) (f : Nat → Bool) (l : List Int) : Bool := l.all fun x => decide ((tn : Int) ≤ x) && f (x - tn).toNat
theorem vanB_take {tn : Nat} {f : Nat → Bool} {l : List Int} {k : Nat} (hk : k < l.length) : vanB tn f (l.take (k + 1)) = (vanB tn f (l.take k) && (decide ((tn : Int) ≤ l.getD k 0) && f (l.getD k 0 - tn).toNat)) := by
  have e : l.getD k 0 = l[k] := by rw [List.getD_eq_getElem?_getD, List.getElem?_eq_getElem hk]; rfl
  rw [List.take_succ_eq_append_getElem hk, e]
  unfold vanB
  rw [List.all_append]
  simp
theorem vanB_stop {tn : Nat} {f : Nat → Bool} {l : List Int} {k : Nat} (hk : k < l.length) (h : (decide ((tn : Int) ≤ l.getD k 0) && f (l.getD k 0 - tn).toNat) = false) : vanB tn f l = false := by
  have h1 : vanB tn f (l.take (k + 1)) = false := by rw [vanB_take hk, h, Bool.and_false]
  rw [← List.take_append_drop (k + 1) l]
  unfold vanB at h1 ⊢
  rw [List.all_append, h1, Bool.false_and]

set_option maxRecDepth 100000 in
set_option maxHeartbeats 1000000 in
theorem rvan_any (ta na la pa a : Option Addr) (tn nn ln n tc nc lc pc cap kb : Nat) (st : Int) (f : Nat → Bool) (l : List Int) (w : World) (hl : IntsAt w a l) (hlen : l.length ≤ 17592186044416) (hin : ∀ x ∈ l, (0 : Int) ≤ x ∧ x < ((tn + nn : Nat) : Int)) (hB : ValAt w kb nn 4 (fun i => .bool (f i))) (hz : tn + nn ≤ 1024) :
    Calls Tryd.prog 50 #[.agg #[.slice ta tn tc, .slice na nn nc, .slice la ln lc, .int .i64 st, .slice pa n pc], .slice (some ⟨kb, 0, none⟩) nn nn, .slice a l.length cap] w fun e y => e = .returned (.bool (vanB tn f l)) ∧ w.grownBy y none := by
  have HL : Hid (∀ X, w.grownBy X none → IntsAt X a l) := fun X hX => hl.kept hX
  have HB : Hid (∀ X, w.grownBy X none → ValAt X kb nn 4 (fun i => .bool (f i))) := fun X hX => hB.kept hX
  have HIN : Hid (∀ k, k < l.length → (0 : Int) ≤ l.getD k 0 ∧ l.getD k 0 < ((tn + nn : Nat) : Int)) := fun k hk => by
    rw [List.getD_eq_getElem?_getD, List.getElem?_eq_getElem hk]; exact hin _ (List.getElem_mem hk)
  obtain ⟨m, hm⟩ : ∃ m, m = l.length := ⟨_, rfl⟩
  have HM : Hid (m = l.length) := hm
  rw [← hm] at hlen
  rw [← hm]
  have HX0 : Hid (PhAt w (w.alloc (.cells #[.slice ta tn tc, .slice na nn nc, .slice la ln lc, .int .i64 st, .slice pa n pc] 27)) w.heap.size #[.slice ta tn tc, .slice na nn nc, .slice la ln lc, .int .i64 st, .slice pa n pc]) := ⟨World.grownBy_alloc _ _ none, heap_alloc_last w _⟩
  clear hl hin hB hm
  go_enter Tryd.func50, Tryd.ntmps50
  go_wp2_with fail
  go_loopg [7] m (fun gk v7 wr => ∃ k : Nat, k ≤ m ∧ gk = m - k ∧ v7 = .int .i64 k ∧ vanB tn f (l.take k) = true ∧ PhAt w wr w.heap.size #[.slice ta tn tc, .slice na nn nc, .slice la ln lc, .int .i64 st, .slice pa n pc])
  case atStart => exact ⟨0, Nat.zero_le _, rfl, rfl, rfl, HX0.out⟩
  case round =>
    obtain ⟨k, hk, hgk, rfl, hv, hP⟩ := hrel
    have HGK : Hid (gk = m - k) := hgk
    have HV : Hid (vanB tn f (l.take k) = true) := hv
    have HP : Hid (PhAt w wr w.heap.size #[.slice ta tn tc, .slice na nn nc, .slice la ln lc, .int .i64 st, .slice pa n pc]) := hP
    clear hgk hv hP HX0
    obtain ⟨k0, k1, k2, k3, k4⟩ := HP.out.cells
    by_cases hlt : k < m
    · have hkl : k < l.length := by rw [← HM.out]; exact hlt
      obtain ⟨ab, ao, rfl, hc⟩ : ∃ ab ao, a = some ⟨ab, ao, none⟩ ∧ wr.cell? ⟨ab, ao + k, none⟩ = some (.int .i64 (l.getD k 0)) := by
        rcases HL.out wr HP.out.grown with h | ⟨ab, ao, e, h⟩
        · rw [h] at hkl; cases hkl
        · exact ⟨ab, ao, e, h k hkl⟩
      have hx := HIN.out k hkl
      have HTK := show Hid _ from vanB_take (tn := tn) (f := f) hkl
      have HST := show Hid _ from vanB_stop (tn := tn) (f := f) hkl
      obtain ⟨x, hxe⟩ : ∃ x, x = l.getD k 0 := ⟨_, rfl⟩
      rw [← hxe] at hc hx HTK HST
      have hk0 : (0 : Int) ≤ (k : Int) := by omega
      have hk1 : (k : Int) < (m : Int) := by omega
      have hkd : decide (k < m) = true := decide_eq_true hlt
      by_cases hxt : x < (tn : Int)
      · have hd : decide (x < (tn : Int)) = true := decide_eq_true hxt
        have hno : vanB tn f l = false := HST.out (by rw [decide_eq_false (by omega : ¬ (tn : Int) ≤ x), Bool.false_and])
        have HNO : Hid (vanB tn f l = false) := hno
        clear hxe hx hno hxt HTK HST
        go_wp2_with fail
        go_quiet (fail)
        go_wp2_with fail
        go_ret
        exact ⟨by rw [HNO.out]; rfl, grown_trans HP.out.grown (grown_drewN _ _)⟩
      · have hd : decide (x < (tn : Int)) = false := decide_eq_false hxt
        obtain ⟨s, rfl⟩ : ∃ s : Nat, x = (tn : Int) + (s : Int) := ⟨(x - tn).toNat, by omega⟩
        have hsn : s < nn := by omega
        have b0 := (HB.out wr HP.out.grown).cell s hsn
        have e1 : ((tn : Int) + (s : Int) - (tn : Int)).toNat = s := by omega
        have e2 : decide ((tn : Int) ≤ (tn : Int) + (s : Int)) = true := decide_eq_true (by omega)
        rw [e1, e2, Bool.true_and] at HTK HST
        have d1 : (tn : Int) + (s : Int) - (tn : Int) = (s : Int) := by omega
        have d3 : IntKind.i64.wrap (s : Int) = (s : Int) := by rw [IntKind.wrap_i64]; omega
        have d5 : (0 : Int) ≤ (s : Int) := by omega
        have d7 : (s : Int) < (nn : Int) := by omega
        obtain ⟨fs, hfs⟩ : ∃ c, c = f s := ⟨_, rfl⟩
        rw [← hfs] at b0 HTK HST
        clear hxe hx hxt e1 e2 hfs
        cases fs with
        | false =>
          have HNO : Hid (vanB tn f l = false) := HST.out rfl
          clear HTK HST
          go_wp2_with fail
          go_quiet (fail)
          go_wp2_with fail
          go_ret
          exact ⟨by rw [HNO.out]; rfl, grown_trans HP.out.grown (grown_drewN _ _)⟩
        | true =>
          have HNX : Hid (vanB tn f (l.take (k + 1)) = true) := by show _ = _; rw [HTK.out, HV.out]; rfl
          clear HTK HST
          go_wp2_with fail
          go_quiet (fail)
          go_wp2_with fail
          go_roundg (m - (k + 1))
          case measure => have := HGK.out; omega
          case rel => exact ⟨k + 1, by omega, rfl, by go_num, HNX.out, HP.out.kept (grown_drewN _ _)⟩
    · have hkn : m = k := by omega
      subst hkn
      have hkd : decide (m < m) = false := decide_eq_false (by omega)
      have et : l.take m = l := by rw [HM.out]; exact List.take_length
      rw [et] at HV
      go_wp2_with fail
      go_ret
      exact ⟨by rw [HV.out]; rfl, HP.out.grown⟩

end Go.Proofs.YtdhojilmgnodeaaDoor

/-
  first: the document's Null.
-/
namespace Go.Proofs.YtdhojilmgnodeaaDoor
open Go.RowKit Go.Maps Go.Shelf

attribute [local go_sem] Oper.semAt_some

/-- One mark more. -/
def markT (f : Nat → Bool) (x : Nat) : Nat → Bool := fun i => if i = x then true else f i
/-- How many of the first n are not marked. -/
def unm : Nat → (Nat → Bool) → Nat
  | 0, _ => 0
  | n + 1, f => unm n f + (if f n then 0 else 1)
theorem unm_out (f : Nat → Bool) (x : Nat) : ∀ n, n ≤ x → unm n (markT f x) = unm n f
  | 0, _ => rfl
  | n + 1, h => by
    have e : markT f x n = f n := by unfold markT; rw [if_neg (by omega)]
    simp only [unm, unm_out f x n (by omega), e]
theorem unm_mark (f : Nat → Bool) (x : Nat) (hf : f x = false) : ∀ n, x < n → unm n (markT f x) + 1 = unm n f
  | 0, h => by omega
  | n + 1, h => by
    by_cases e : x = n
    · subst e
      have e1 : markT f x x = true := by simp [markT]
      simp [unm, unm_out f x x (Nat.le_refl _), e1, hf]
    · have e1 : markT f x n = f n := by unfold markT; rw [if_neg (fun h => e h.symm)]
      have ih := unm_mark f x hf n (by omega)
      simp only [unm, e1]
      omega

section
variable {tn n : Nat} {L : Nat → Int} {R : Nat → List Int} {f : Nat → Bool}
/-- What is marked vanishes. -/
def SoundN (tn n : Nat) (L : Nat → Int) (R : Nat → List Int) (f : Nat → Bool) : Prop := ∀ i : Nat, f i = true → Nul n L R ((tn + i : Nat) : Int)
/-- A production marks nothing more. -/
def ClosedN (tn : Nat) (L : Nat → Int) (R : Nat → List Int) (f : Nat → Bool) (k : Nat) : Prop := vanB tn f (R k) = true → f (L k - tn).toNat = true
theorem soundN_step (h : SoundN tn n L R f) {k : Nat} (hk : k < n) (hL : (tn : Int) ≤ L k) (hv : vanB tn f (R k) = true) : SoundN tn n L R (markT f (L k - tn).toNat) := fun i hi => by
  unfold markT at hi
  by_cases e : i = (L k - tn).toNat
  · have e2 : ((tn + i : Nat) : Int) = L k := by omega
    rw [e2]
    refine .prod k hk fun x hx => ?_
    have h1 := List.all_eq_true.1 hv x hx
    simp only [Bool.and_eq_true, decide_eq_true_eq] at h1
    have h2 := h _ h1.2
    rwa [show ((tn + (x - tn).toNat : Nat) : Int) = x by omega] at h2
  · rw [if_neg e] at hi
    exact h i hi
theorem foundN (h : SoundN tn n L R f) (hc : ∀ k, k < n → ClosedN tn L R f k) (hL : ∀ k, k < n → (tn : Int) ≤ L k) : ∀ i : Nat, f i = true ↔ Nul n L R ((tn + i : Nat) : Int) := by
  have key : ∀ x, Nul n L R x → (tn : Int) ≤ x ∧ f (x - tn).toNat = true := by
    intro x hx
    induction hx with
    | prod k hk _ ih => exact ⟨hL k hk, hc k hk (List.all_eq_true.2 fun y hy => by have := ih y hy; rw [decide_eq_true this.1, this.2]; rfl)⟩
  intro i
  refine ⟨h i, fun hi => ?_⟩
  have := (key _ hi).2
  rwa [show (((tn + i : Nat) : Int) - tn).toNat = i by omega] at this
end

set_option maxRecDepth 100000 in
set_option maxHeartbeats 2000000 in
theorem rnull_any (ta na la : Option Addr) (tn nn ln n tc nc lc pc bp op : Nat) (st : Int) (L : Nat → Int) (R : Nat → List Int) (ra : Nat → Option Addr) (rc : Nat → Nat) (w : World) (hz : tn + nn ≤ 1024) (hn : n ≤ 1000)
    (hP : ∀ k, k < n → w.cell? ⟨bp, op + k * 3, none⟩ = some (.int .i64 (L k)) ∧ w.cell? ⟨bp, op + k * 3 + 1, none⟩ = some (.slice (ra k) (R k).length (rc k)) ∧ IntsAt w (ra k) (R k) ∧ (R k).length ≤ 17592186044416)
    (hL : ∀ k, k < n → (tn : Int) ≤ L k ∧ L k < ((tn + nn : Nat) : Int)) (hR : ∀ k, k < n → ∀ x ∈ R k, (0 : Int) ≤ x ∧ x < ((tn + nn : Nat) : Int)) (F : Nat → Bool) (hF : ∀ i : Nat, F i = true ↔ Nul n L R ((tn + i : Nat) : Int)) :
    Calls Tryd.prog 31 #[.agg #[.slice ta tn tc, .slice na nn nc, .slice la ln lc, .int .i64 st, .slice (some ⟨bp, op, none⟩) n pc]] w fun e y => ∃ k, e = .returned (.slice (some ⟨k, 0, none⟩) nn nn) ∧ w.heap.size ≤ k ∧ ValAt y k nn 4 (fun i => .bool (F i)) ∧ w.grownBy y none := by
  have HVA : Hid (∀ k, k < n → ∀ X kb f, w.grownBy X none → ValAt X kb nn 4 (fun i => .bool (f i)) → Calls Tryd.prog 50 #[.agg #[.slice ta tn tc, .slice na nn nc, .slice la ln lc, .int .i64 st, .slice (some ⟨bp, op, none⟩) n pc], .slice (some ⟨kb, 0, none⟩) nn nn, .slice (ra k) (R k).length (rc k)] X fun e y => e = .returned (.bool (vanB tn f (R k))) ∧ X.grownBy y none) := fun k hk X kb f hX hB => rvan_any ta na la (some ⟨bp, op, none⟩) (ra k) tn nn ln n tc nc lc pc (rc k) kb st f (R k) X ((hP k hk).2.2.1.kept hX) (hP k hk).2.2.2 (hR k hk) hB hz
  have HPC : Hid (∀ k, k < n → ∀ X, w.grownBy X none → X.cell? ⟨bp, op + k * 3, none⟩ = some (.int .i64 (L k)) ∧ X.cell? ⟨bp, op + k * 3 + 1, none⟩ = some (.slice (ra k) (R k).length (rc k))) := fun k hk X hX => ⟨hX.cell (hP k hk).1 (by simp), hX.cell (hP k hk).2.1 (by simp)⟩
  have HL : Hid (∀ k, k < n → (tn : Int) ≤ L k ∧ L k < ((tn + nn : Nat) : Int)) := hL
  have HEND : Hid (∀ f, SoundN tn n L R f → (∀ k, k < n → ClosedN tn L R f k) → f = F) := fun f h1 h2 => by
    funext i
    have h3 := (foundN h1 h2 (fun k hk => (hL k hk).1) i).trans (hF i).symm
    cases ha : f i <;> cases hb : F i <;> simp_all
  have HX0 : Hid (PhAt w (w.alloc (.cells #[.slice ta tn tc, .slice na nn nc, .slice la ln lc, .int .i64 st, .slice (some ⟨bp, op, none⟩) n pc] 27)) w.heap.size #[.slice ta tn tc, .slice na nn nc, .slice la ln lc, .int .i64 st, .slice (some ⟨bp, op, none⟩) n pc]) := ⟨World.grownBy_alloc _ _ none, heap_alloc_last w _⟩
  obtain ⟨i0, hi0, hz0, hz1, hz2⟩ := info_parts infoBoolK
  obtain ⟨k0, k1, k2, k3, k4⟩ := HX0.out.cells
  clear hP hL hR hF
  go_enter Tryd.func31, Tryd.ntmps31
  go_wp2_with (at_make; refine wpList_make_full _ rfl _ _ 30 rfl (w.heap.size + 1) 4 i0 (.bool false) 1 Tryd.underlying30 hi0 hz0 hz1 .i64 .i64 _ _ nn rfl rfl (by simp) (by simp) (by rw [hz2]; omega) (by unfold maxLen; omega) (by simp) ?_)
  intro w1 hown hgrow
  have hval : ValAt w1 (w.heap.size + 1) nn 4 (fun _ => .bool false) := made_rowK (B := w.heap.size + 1) rfl (by simpa [Value.cells] using hown)
  have HN1 : Hid (PhAt w w1 w.heap.size #[.slice ta tn tc, .slice na nn nc, .slice la ln lc, .int .i64 st, .slice (some ⟨bp, op, none⟩) n pc] ∧ ValAt w1 (w.heap.size + 1) nn 4 (fun i => .bool ((fun _ => false : Nat → Bool) i))) := ⟨HX0.out.kept hgrow, hval⟩
  obtain ⟨rb, hrb⟩ : ∃ rb, rb = w.heap.size + 1 := ⟨_, rfl⟩
  rw [← hrb] at HN1
  rw [← hrb]
  have HRB : Hid (rb = w.heap.size + 1) := hrb
  clear hown hgrow hval hrb k0 k1 k2 k3 k4 hi0 hz0 hz1 hz2 HX0
  go_wp2_with fail
  go_loopg [4] (2 * unm nn (fun _ => false) + 1) (fun gk v4 wr => ∃ (b : Bool) (f : Nat → Bool), v4 = .bool b ∧ gk = 2 * unm nn f + (if b = true then 1 else 0) ∧ SoundN tn n L R f ∧ (b = false → ∀ k, k < n → ClosedN tn L R f k) ∧ PhAt w wr w.heap.size #[.slice ta tn tc, .slice na nn nc, .slice la ln lc, .int .i64 st, .slice (some ⟨bp, op, none⟩) n pc] ∧ ValAt wr rb nn 4 (fun i => .bool (f i)))
  case atStart => exact ⟨true, fun _ => false, rfl, rfl, fun i hi => (by cases hi), fun h => (by cases h), HN1.out.1, HN1.out.2⟩
  case round =>
    obtain ⟨b, f, rfl, hgk, hso, hcl, hP, hV⟩ := hrel
    have HGK : Hid (gk = 2 * unm nn f + (if b = true then 1 else 0)) := hgk
    have HSO : Hid (SoundN tn n L R f) := hso
    have HCL : Hid (b = false → ∀ k, k < n → ClosedN tn L R f k) := hcl
    have HPV : Hid (PhAt w wr w.heap.size #[.slice ta tn tc, .slice na nn nc, .slice la ln lc, .int .i64 st, .slice (some ⟨bp, op, none⟩) n pc] ∧ ValAt wr rb nn 4 (fun i => .bool (f i))) := ⟨hP, hV⟩
    clear hgk hso hcl hP hV HN1
    cases b with
    | false =>
      have hfF := HEND.out f HSO.out (HCL.out rfl)
      rw [hfF] at HPV
      clear hfF HCL
      go_wp2_with fail
      go_ret
      exact ⟨rb, rfl, by have := HRB.out; omega, HPV.out.2, HPV.out.1.grown⟩
    | true =>
      clear HCL
      generalize wr = w4 at *
      obtain ⟨k0, k1, k2, k3, k4⟩ := HPV.out.1.cells
      go_wp2_with fail
      clear k0 k1 k2 k3 k4
      go_loopg [4, 5] n (fun gk v4 v5 wr => ∃ (k : Nat) (b' : Bool) (f' : Nat → Bool), k ≤ n ∧ gk = n - k ∧ v4 = .bool b' ∧ v5 = .int .i64 k ∧ SoundN tn n L R f' ∧ (b' = false → f' = f ∧ ∀ j, j < k → ClosedN tn L R f j) ∧ (b' = true → unm nn f' < unm nn f) ∧ PhAt w wr w.heap.size #[.slice ta tn tc, .slice na nn nc, .slice la ln lc, .int .i64 st, .slice (some ⟨bp, op, none⟩) n pc] ∧ ValAt wr rb nn 4 (fun i => .bool (f' i)))
      case atStart => exact ⟨0, false, f, Nat.zero_le _, rfl, rfl, rfl, HSO.out, fun _ => ⟨rfl, fun j hj => absurd hj (Nat.not_lt_zero _)⟩, fun h => (by cases h), HPV.out.1, HPV.out.2⟩
      case round =>
        obtain ⟨k, b', f', hk, hgi, rfl, rfl, hso, hcl, hun, hP, hV⟩ := hrel
        have HGI : Hid (gk = n - k) := hgi
        have HSI : Hid (SoundN tn n L R f') := hso
        have HCI : Hid (b' = false → f' = f ∧ ∀ j, j < k → ClosedN tn L R f j) := hcl
        have HUI : Hid (b' = true → unm nn f' < unm nn f) := hun
        have HPI : Hid (PhAt w wr w.heap.size #[.slice ta tn tc, .slice na nn nc, .slice la ln lc, .int .i64 st, .slice (some ⟨bp, op, none⟩) n pc] ∧ ValAt wr rb nn 4 (fun i => .bool (f' i))) := ⟨hP, hV⟩
        clear hgi hso hcl hun hP hV
        obtain ⟨k0, k1, k2, k3, k4⟩ := HPI.out.1.cells
        by_cases hlt : k < n
        · have hk0 : (0 : Int) ≤ (k : Int) := by omega
          have hk1 : (k : Int) < (n : Int) := by omega
          have hkd : decide (k < n) = true := decide_eq_true hlt
          obtain ⟨p0, p1⟩ := HPC.out k hlt wr HPI.out.1.grown
          have hLk := HL.out k hlt
          obtain ⟨s, hs⟩ : ∃ s : Nat, L k = (tn : Int) + (s : Int) := ⟨(L k - tn).toNat, by omega⟩
          have HSK : Hid (L k = (tn : Int) + (s : Int) ∧ (L k - tn).toNat = s) := ⟨hs, by omega⟩
          rw [hs] at p0 hLk
          have hsn : s < nn := by omega
          obtain ⟨rl, hrl⟩ : ∃ r, r = (R k).length := ⟨_, rfl⟩
          rw [← hrl] at p1
          have d1 : (tn : Int) + (s : Int) - (tn : Int) = (s : Int) := by omega
          have d3 : IntKind.i64.wrap (s : Int) = (s : Int) := by rw [IntKind.wrap_i64]; omega
          have d5 : (0 : Int) ≤ (s : Int) := by omega
          have d7 : (s : Int) < (nn : Int) := by omega
          have b0 := fun j => (HPI.out.2.kept (grown_drewN wr j)).cell s hsn
          obtain ⟨fs, hfs⟩ : ∃ c, c = f' s := ⟨_, rfl⟩
          have HFS : Hid (fs = f' s) := hfs
          simp only [← hfs] at b0
          have HVK : Hid (∀ X, wr.grownBy X none → Calls Tryd.prog 50 #[.agg #[.slice ta tn tc, .slice na nn nc, .slice la ln lc, .int .i64 st, .slice (some ⟨bp, op, none⟩) n pc], .slice (some ⟨rb, 0, none⟩) nn nn, .slice (ra k) rl (rc k)] X fun e y => e = .returned (.bool (vanB tn f' (R k))) ∧ X.grownBy y none) := fun X hX => by
            rw [hrl]
            exact HVA.out k hlt X rb f' (grown_trans HPI.out.1.grown hX) (HPI.out.2.kept hX)
          have HKS : Hid (∀ x, wr.grownBy x none → (x.cell? ⟨w.heap.size, 0, none⟩ = some (.slice ta tn tc) ∧ x.cell? ⟨w.heap.size, 1, none⟩ = some (.slice na nn nc) ∧ x.cell? ⟨w.heap.size, 2, none⟩ = some (.slice la ln lc) ∧ x.cell? ⟨w.heap.size, 3, none⟩ = some (.int .i64 st) ∧ x.cell? ⟨w.heap.size, 4, none⟩ = some (.slice (some ⟨bp, op, none⟩) n pc)) ∧ x.cell? ⟨bp, op + k * 3 + 1, none⟩ = some (.slice (ra k) rl (rc k))) := fun x hx => ⟨(HPI.out.1.kept hx).cells, hx.cell p1 (by simp)⟩
          have HUP : Hid (∀ j, wr.grownBy (wr.drewN j).drew none) := fun j => grown_trans (grown_drewN _ _) (grown_drewN _ 1)
          clear hs hLk hrl hfs
          cases fs with
          | true =>
            go_wp2_with fail
            go_quiet (fail)
            go_wp2_with fail
            go_roundg (n - (k + 1))
            case measure => have := HGI.out; omega
            case rel => exact ⟨k + 1, b', f', by omega, rfl, rfl, by go_num, HSI.out, fun h => by
              obtain ⟨h1, h2⟩ := HCI.out h
              refine ⟨h1, fun j hj => ?_⟩
              by_cases e : j = k
              · rw [e]
                intro _
                rw [HSK.out.2, ← h1, ← HFS.out]
              · exact h2 j (by omega), HUI.out, HPI.out.1.kept (grown_drewN _ _), HPI.out.2.kept (grown_drewN _ _)⟩
          | false =>
            obtain ⟨vb, hvb⟩ : ∃ c, c = vanB tn f' (R k) := ⟨_, rfl⟩
            have HVB : Hid (vb = vanB tn f' (R k)) := hvb
            rw [← hvb] at HVK
            clear hvb
            go_wp2_with fail
            go_quiet (fail)
            go_wp2_with fail
            go_region_held3 (fun x => (x.cell? ⟨w.heap.size, 0, none⟩ = some (.slice ta tn tc) ∧ x.cell? ⟨w.heap.size, 1, none⟩ = some (.slice na nn nc) ∧ x.cell? ⟨w.heap.size, 2, none⟩ = some (.slice la ln lc) ∧ x.cell? ⟨w.heap.size, 3, none⟩ = some (.int .i64 st) ∧ x.cell? ⟨w.heap.size, 4, none⟩ = some (.slice (some ⟨bp, op, none⟩) n pc)) ∧ x.cell? ⟨bp, op + k * 3 + 1, none⟩ = some (.slice (ra k) rl (rc k))) (first | exact HKS.out _ (HUP.out _) | exact HKS.out _ HG7.out | go_keep)
              ((first
                | (go_at_call 50; refine Calls.mono (HVK.out _ (HUP.out _)) ?_; rintro e w7 ⟨rfl, hg7⟩; have HG7 : Hid (wr.grownBy w7 none) := grown_trans (HUP.out _) hg7; clear hg7)
                | fail))
            have HP7 : Hid (PhAt w w7 w.heap.size #[.slice ta tn tc, .slice na nn nc, .slice la ln lc, .int .i64 st, .slice (some ⟨bp, op, none⟩) n pc] ∧ ValAt w7 rb nn 4 (fun i => .bool (f' i))) := ⟨HPI.out.1.kept HG7.out, HPI.out.2.kept HG7.out⟩
            have y0 := HP7.out.2.cell s hsn
            have y1 := HP7.out.2.free s
            clear k0 k1 k2 k3 k4 p0 p1 b0 HKS HUP HVK HPI
            cases vb with
            | false =>
              go_wp2_with fail
              go_roundg (n - (k + 1))
              case measure => have := HGI.out; omega
              case rel => exact ⟨k + 1, b', f', by omega, rfl, rfl, by go_num, HSI.out, fun h => by
                obtain ⟨h1, h2⟩ := HCI.out h
                refine ⟨h1, fun j hj => ?_⟩
                by_cases e : j = k
                · rw [e]
                  intro h3
                  rw [← h1, ← HVB.out] at h3
                  cases h3
                · exact h2 j (by omega), HUI.out, HP7.out.1, HP7.out.2⟩
            | true =>
              go_wp2_with fail
              go_roundg (n - (k + 1))
              case measure => have := HGI.out; omega
              case rel =>
                have hs2 := soundN_step HSI.out hlt (HL.out k hlt).1 HVB.out.symm
                rw [HSK.out.2] at hs2
                have hu := unm_mark f' s HFS.out.symm nn hsn
                have G : w7.grownBy (w7.setCell ⟨rb, s, none⟩ (.bool true)) (some rb) := grown_setCell _ _ _
                refine ⟨k + 1, true, markT f' s, by omega, rfl, rfl, by go_num, hs2, fun h => (by cases h), fun _ => ?_, HP7.out.1.keptRow G (by have := HRB.out; omega), (HP7.out.2.set s (.bool true)).ext fun i _ => ?_⟩
                · cases b' with
                  | true => have := HUI.out rfl; omega
                  | false => have := (HCI.out rfl).1; rw [← this]; omega
                · unfold put markT
                  by_cases e : i = s
                  · rw [if_pos e, if_pos e]
                  · rw [if_neg e, if_neg e]
        · have hkn : n = k := by omega
          subst hkn
          have hkd : decide (n < n) = false := decide_eq_false (by omega)
          clear k0 k1 k2 k3
          go_wp2_with fail
          go_roundg (2 * unm nn f' + (if b' = true then 1 else 0))
          case measure =>
            have h1 := HGK.out
            first | rw [if_pos rfl] at h1 | simp only [if_true] at h1
            cases b' with
            | true => have := HUI.out rfl; rw [if_pos rfl]; omega
            | false => rw [if_neg (by decide), (HCI.out rfl).1]; omega
          case rel => exact ⟨b', f', rfl, rfl, HSI.out, fun h => by
            obtain ⟨h1, h2⟩ := HCI.out h
            rw [h1]; exact h2, HPI.out.1, HPI.out.2⟩

end Go.Proofs.YtdhojilmgnodeaaDoor
