/-
  BitsUnions, walked: it answers true, and nothing that was there turns.
-/
import Derived.Test.YtkmocjdjdlpphaaDoorUnionsMath
namespace Go.Proofs.YtkmocjdjdlpphaaDoor
open Go.RowKit Go.Shelf

theorem sets_drop {w W : World} {S : List (Nat × Nat)} {n b m : Nat} (h : SetsAt w W ((b, m) :: S) n) (a : Option Addr) (cap : Nat) (l : List Int) (hlen : l.length < 1152921504606846976)
    (hl : (a = none ∧ l = []) ∨ ∃ g, a = some ⟨g, 0, none⟩ ∧ g ≠ b ∧ ∀ i, i < l.length → W.cell? ⟨g, 0 + i, none⟩ = some (.int .i64 (l.getD i 0))) :
    Calls Tryd.prog 16 #[.pointer (some ⟨b, 0, none⟩), .slice a l.length cap] W fun e w' => e = .returned (.int .i64 ((dropS m l).2 : Nat)) ∧ SetsAt w w' ((b, (dropS m l).1) :: S) n := by
  have hS := (h.set b m (List.mem_cons_self ..)).2
  rcases hl with ⟨rfl, rfl⟩ | ⟨g, rfl, hne, hc⟩
  · refine (drop_none none cap _ W).mono ?_
    rintro e w' ⟨rfl, rfl⟩
    exact ⟨rfl, h⟩
  · refine (drop_row b n m g 0 cap l W hS.1 hS.2.1 hS.row hne hlen hc).mono ?_
    rintro e w' ⟨rfl, hr, hlt, hb⟩
    exact ⟨rfl, h.turn hb hr hlt⟩

theorem okL_nil (b : Nat) (S : List (Nat × Nat)) : OkL b S [] := fun e he => by cases he
theorem okL_other {b b' m' : Nat} {S : List (Nat × Nat)} {L : List (Option Addr × Nat)} (h : (b', m') ∈ S) (hL : OkL b S L) : OkL b S ((some ⟨b', 0, none⟩, m') :: L) := fun e he => by
  rcases List.mem_cons.1 he with rfl | he
  · exact .inr (.inl ⟨b', m', rfl, h⟩)
  · exact hL e he
theorem okL_self {b : Nat} {S : List (Nat × Nat)} {L : List (Option Addr × Nat)} (hL : OkL b S L) : OkL b S ((some ⟨b, 0, none⟩, 0) :: L) := fun e he => by
  rcases List.mem_cons.1 he with rfl | he
  · exact .inl rfl
  · exact hL e he
theorem okL_none {b : Nat} {S : List (Nat × Nat)} {L : List (Option Addr × Nat)} (hL : OkL b S L) : OkL b S ((none, 0) :: L) := fun e he => by
  rcases List.mem_cons.1 he with rfl | he
  · exact .inr (.inr rfl)
  · exact hL e he
theorem in_nil (S : List (Nat × Nat)) : ∀ e ∈ ([] : List (Option Addr × Nat)), ∃ b' m', e = (some ⟨b', 0, none⟩, m') ∧ (b', m') ∈ S := fun e he => by cases he
theorem in_cons {b' m' : Nat} {S : List (Nat × Nat)} {L : List (Option Addr × Nat)} (h : (b', m') ∈ S) (hL : ∀ e ∈ L, ∃ b' m', e = (some ⟨b', 0, none⟩, m') ∧ (b', m') ∈ S) : ∀ e ∈ ((some ⟨b', 0, none⟩, m') :: L : List (Option Addr × Nat)), ∃ b' m', e = (some ⟨b', 0, none⟩, m') ∧ (b', m') ∈ S := fun e he => by
  rcases List.mem_cons.1 he with rfl | he
  · exact ⟨b', m', rfl, h⟩
  · exact hL e he

theorem or_again {X Y Z ONE : Nat} (h : X ||| Y ||| Z = ONE) : Z ||| Y ||| X ||| X ||| 0 = ONE ∧ ONE ||| Y ||| 0 ||| Z ||| X = ONE ∧ X &&& X &&& ONE = X := by
  subst h
  refine ⟨?_, ?_, ?_⟩ <;> (apply Nat.eq_of_testBit_eq; intro j; simp only [Nat.testBit_or, Nat.testBit_and, Nat.zero_testBit]; cases X.testBit j <;> cases Y.testBit j <;> cases Z.testBit j <;> rfl)
theorem or_has {X Y Z ONE : Nat} (h : X ||| Y ||| Z = ONE) : ∀ j, X.testBit j = true → ONE.testBit j = true := fun j hj => by
  subst h; rw [Nat.testBit_or, Nat.testBit_or, hj]; rfl

set_option maxRecDepth 100000 in
set_option maxHeartbeats 4000000 in
theorem unions_core (c : Nat → Nat) (hC : CountIs c) (hle : ∀ x, c x ≤ 1024) (h10 : c 10 = 2) (h11 : c 11 = 3)
    (z : Int) (a1 a2 a3 : Option Addr) (c1 c2 c3 : Nat) (l1 l2 l3 : List Int) (w : World) (hl1 : IntsAt w a1 l1) (hl2 : IntsAt w a2 l2) (hl3 : IntsAt w a3 l3)
    (hlen1 : l1.length < 1152921504606846976) (hlen2 : l2.length < 1152921504606846976) (hlen3 : l3.length < 1152921504606846976) (hT : Tab w) (hw0 : 0 < w.heap.size)
    (n X Y Z ONE D : Nat) (hn : clampN z = n) (hX : (addS n 0 l1).1 = X) (hY : (addS n 0 l2).1 = Y) (hZ : (addS n 0 l3).1 = Z) (hX2 : X < 2 ^ n) (hY2 : Y < 2 ^ n) (hZ2 : Z < 2 ^ n)
    (hONE : X ||| Y ||| Z = ONE) (hD : dropS X (mems 1024 Y) = (D, c (X &&& Y))) (hD0 : D &&& Y = 0) (hc0 : c 0 = 0) (hDY : D ||| Y = X ||| Y) (hDc : c D + c (X &&& Y) = c X) :
    Calls Tryd.prog 5 #[.int .i64 z, .slice a1 l1.length c1, .slice a2 l2.length c2, .slice a3 l3.length c3] w fun e w' => e = .returned (.bool true) ∧ Below w.heap.size w w' := by
  have HC : Hid (CountIs c) := hC
  have HLE : Hid (∀ x, c x ≤ 1024) := hle
  have HAW : Hid (∀ w, Calls Tryd.prog 7 #[] w fun e w' => e = .returned (.bool true) ∧ Below w.heap.size w w') := fun w => awake_any c hC h10 h11 w
  have HO1 : Hid (∀ W S, SetsAt w W S n → Calls Tryd.prog 10 #[.int .i64 z, .slice a1 l1.length c1] W fun e w' => ∃ b, e = .returned (.pointer (some ⟨b, 0, none⟩)) ∧ SetsAt w w' ((b, X) :: S) n) := fun W S h => by
    subst hn; rw [← hX]; exact sets_of z a1 c1 l1 h hl1 hlen1
  have HO2 : Hid (∀ W S, SetsAt w W S n → Calls Tryd.prog 10 #[.int .i64 z, .slice a2 l2.length c2] W fun e w' => ∃ b, e = .returned (.pointer (some ⟨b, 0, none⟩)) ∧ SetsAt w w' ((b, Y) :: S) n) := fun W S h => by
    subst hn; rw [← hY]; exact sets_of z a2 c2 l2 h hl2 hlen2
  have HO3 : Hid (∀ W S, SetsAt w W S n → Calls Tryd.prog 10 #[.int .i64 z, .slice a3 l3.length c3] W fun e w' => ∃ b, e = .returned (.pointer (some ⟨b, 0, none⟩)) ∧ SetsAt w w' ((b, Z) :: S) n) := fun W S h => by
    subst hn; rw [← hZ]; exact sets_of z a3 c3 l3 h hl3 hlen3
  have HT : Hid (Tab w) := hT
  have HX2 : Hid (X < 2 ^ n) := hX2
  have HY2 : Hid (Y < 2 ^ n) := hY2
  have HZ2 : Hid (Z < 2 ^ n) := hZ2
  have HONE : Hid (X ||| Y ||| Z = ONE) := hONE
  have HD : Hid (dropS X (mems 1024 Y) = (D, c (X &&& Y))) := hD
  have HD0 : Hid (D &&& Y = 0) := hD0
  have HC0 : Hid (c 0 = 0) := hc0
  have HDY : Hid (D ||| Y = X ||| Y) := hDY
  have HDC : Hid (c D + c (X &&& Y) = c X) := hDc
  have lX := hle X
  have lONE := hle ONE
  clear hC hle h10 h11 hl1 hl2 hl3 hT hn hX hY hZ hX2 hY2 hZ2 hONE hD hD0 hc0 hDY hDc
  go_enter Tryd.func5, Tryd.ntmps5
  go_wp2_with fail
  refine (HAW.out _).mono ?_
  rintro e w1 ⟨rfl, hb1⟩
  have HI : Hid (SetsAt w w1 [] n) := ⟨hb1, fun b m h => (by cases h), List.nodup_nil⟩
  clear hb1
  go_wp2_with fail
  refine (HO1.out _ _ HI.out).mono ?_
  rintro e w2 ⟨bx, rfl, hI⟩
  have HI2 : Hid (SetsAt w w2 [(bx, X)] n) := hI
  clear HI hI
  go_wp2_with fail
  refine (HO2.out _ _ HI2.out).mono ?_
  rintro e w3 ⟨bY, rfl, hI⟩
  have HI3 : Hid (SetsAt w w3 [(bY, Y), (bx, X)] n) := hI
  clear HI2 hI
  go_wp2_with fail
  refine (HO3.out _ _ HI3.out).mono ?_
  rintro e w4 ⟨bz, rfl, hI⟩
  have HI4 : Hid (SetsAt w w4 [(bz, Z), (bY, Y), (bx, X)] n) := hI
  clear HI3 hI
  go_wp2_with fail
  refine (sets_copy (b := bx) (m := X) HI4.out (by simp)).mono ?_
  rintro e w5 ⟨b1, rfl, hI⟩
  have HI5 : Hid (SetsAt w w5 [(b1, X), (bz, Z), (bY, Y), (bx, X)] n) := hI
  clear HI4 hI
  go_wp2_with fail
  refine (sets_copy (b := bz) (m := Z) HI5.out (by simp)).mono ?_
  rintro e w6 ⟨b2, rfl, hI⟩
  have HI6 : Hid (SetsAt w w6 [(b1, X), (b2, Z), (bz, Z), (bY, Y), (bx, X)] n) := hI.perm (List.Perm.swap _ _ _)
  clear HI5 hI
  go_wp2_with fail
  have hU := sets_union HC.out HLE.out HI6.out [(some ⟨bY, 0, none⟩, Y), (some ⟨bz, 0, none⟩, Z)] (fun e he => by
    rcases List.mem_cons.1 he with rfl | he
    · exact .inr (.inl ⟨bY, Y, rfl, by simp⟩)
    · rcases List.mem_cons.1 he with rfl | he
      · exact .inr (.inl ⟨bz, Z, rfl, by simp⟩)
      · cases he) (len := 2) rfl (by decide)
  rw [uS_cons _ _ HY2.out, uS_cons _ _ HZ2.out, uS_nil, HONE.out] at hU
  refine hU.mono ?_
  clear hU
  rintro e w7 ⟨rfl, hI⟩
  have HI7 : Hid (SetsAt w w7 [(b2, Z), (b1, ONE), (bz, Z), (bY, Y), (bx, X)] n) := hI.perm (List.Perm.swap _ _ _)
  clear HI6 hI
  go_wp2_with fail
  obtain ⟨ha1, ha2, ha3⟩ := or_again HONE.out
  have hU := sets_union HC.out HLE.out HI7.out [(some ⟨bY, 0, none⟩, Y)] (okL_other (by simp) (okL_nil _ _)) (len := 1) rfl (by decide)
  rw [uS_cons _ _ HY2.out, uS_nil] at hU
  refine hU.mono ?_
  clear hU
  rintro e w8 ⟨rfl, hI⟩
  have HI8 : Hid (SetsAt w w8 [(b2, Z ||| Y), (b1, ONE), (bz, Z), (bY, Y), (bx, X)] n) := hI
  have HA1 : Hid (Z ||| Y ||| X ||| X ||| 0 = ONE) := ha1
  have HA2 : Hid (ONE ||| Y ||| 0 ||| Z ||| X = ONE) := ha2
  have HA3 : Hid (X &&& X &&& ONE = X) := ha3
  clear HI7 hI ha1 ha2 ha3
  go_wp2_with fail
  have hU := sets_union HC.out HLE.out HI8.out [(some ⟨bx, 0, none⟩, X), (some ⟨bx, 0, none⟩, X), (none, 0)] (okL_other (by simp) (okL_other (by simp) (okL_none (okL_nil _ _)))) (len := 3) rfl (by decide)
  rw [uS_cons _ _ HX2.out, uS_cons _ _ HX2.out, uS_cons _ _ (Nat.two_pow_pos n), uS_nil, HA1.out] at hU
  refine hU.mono ?_
  clear hU
  rintro e w9 ⟨rfl, hI⟩
  have HI9 : Hid (SetsAt w w9 [(b1, ONE), (b2, ONE), (bz, Z), (bY, Y), (bx, X)] n) := hI.perm (List.Perm.swap _ _ _)
  clear HI8 hI
  go_wp2_with fail
  have hU := sets_equal (b := b1) (m := ONE) (b' := b2) (m' := ONE) HI9.out (by simp) (by simp)
  rw [decide_eq_true rfl] at hU
  refine hU.mono ?_
  clear hU
  rintro e w10 ⟨rfl, hI⟩
  have HI10 : Hid (SetsAt w w10 [(b1, ONE), (b2, ONE), (bz, Z), (bY, Y), (bx, X)] n) := hI
  clear HI9 hI
  go_wp2_with fail
  have hU := sets_equal (b := b2) (m := ONE) (b' := b1) (m' := ONE) HI10.out (by simp) (by simp)
  rw [decide_eq_true rfl] at hU
  refine hU.mono ?_
  clear hU
  rintro e w11 ⟨rfl, hI⟩
  have HI11 : Hid (SetsAt w w11 [(b1, ONE), (b2, ONE), (bz, Z), (bY, Y), (bx, X)] n) := hI
  clear HI10 hI
  go_wp2_with fail
  have hU := sets_union HC.out HLE.out HI11.out [(some ⟨bY, 0, none⟩, Y), (some ⟨b1, 0, none⟩, 0), (some ⟨bz, 0, none⟩, Z), (some ⟨bx, 0, none⟩, X)] (okL_other (by simp) (okL_self (okL_other (by simp) (okL_other (by simp) (okL_nil _ _))))) (len := 4) rfl (by decide)
  rw [uS_cons _ _ HY2.out, uS_cons _ _ (Nat.two_pow_pos n), uS_cons _ _ HZ2.out, uS_cons _ _ HX2.out, uS_nil, HA2.out, Int.sub_self] at hU
  refine hU.mono ?_
  clear hU
  rintro e w12 ⟨rfl, hI⟩
  have HI12 : Hid (SetsAt w w12 [(b1, ONE), (b2, ONE), (bz, Z), (bY, Y), (bx, X)] n) := hI
  clear HI11 hI
  go_wp2_with fail
  refine (sets_count (b := b1) (m := ONE) HC.out HI12.out (by simp)).mono ?_
  rintro e w13 ⟨rfl, hI⟩
  have HI13 : Hid (SetsAt w w13 [(b1, ONE), (b2, ONE), (bz, Z), (bY, Y), (bx, X)] n) := hI
  clear HI12 hI
  go_wp2_with fail
  refine (sets_count (b := bx) (m := X) HC.out HI13.out (by simp)).mono ?_
  rintro e w14 ⟨rfl, hI⟩
  have HI14 : Hid (SetsAt w w14 [(b1, ONE), (b2, ONE), (bz, Z), (bY, Y), (bx, X)] n) := hI
  clear HI13 hI
  go_wp2_with fail
  have hML := mems_length 1024 X
  have hM1 : ∀ i, i < (mems 1024 X).length → hasB ONE ((mems 1024 X).getD i 0) = true ∧ hasB X ((mems 1024 X).getD i 0) = true := fun i hi => ⟨has_member (or_has HONE.out) hi, has_member (fun _ h => h) hi⟩
  have hpl := pc_le 1024 X
  rw [← hML] at hpl
  clear hML
  have hU := sets_members (b := bx) (m := X) HC.out HLE.out HT.out hw0 HI14.out (by simp)
  generalize mems 1024 X = M at *
  refine hU.mono ?_
  clear hU
  rintro e w15 ⟨aM, capM, rfl, hcM, hI⟩
  have HI15 : Hid (SetsAt w w15 [(b1, ONE), (b2, ONE), (bz, Z), (bY, Y), (bx, X)] n) := hI
  have HCM : Hid ((aM = none ∧ M = []) ∨ ∃ g, aM = some ⟨g, 0, none⟩ ∧ w14.heap.size ≤ g ∧ g < w15.heap.size ∧ ∀ i, i < M.length → w15.cell? ⟨g, 0 + i, none⟩ = some (.int .i64 (M.getD i 0))) := hcM
  have HM1 : Hid (∀ i, i < M.length → hasB ONE (M.getD i 0) = true ∧ hasB X (M.getD i 0) = true) := hM1
  clear HI14 hI hcM hM1
  go_wp2_with fail
  go_loopw [97] (fun i wr => ∃ k : Nat, k ≤ M.length ∧ i = .int .i64 k ∧ SetsAt w wr [(b1, ONE), (b2, ONE), (bz, Z), (bY, Y), (bx, X)] n ∧ Below w15.heap.size w15 wr) (fun i _ => M.length - (intOf i).toNat)
  case atStart => exact ⟨0, Nat.zero_le _, rfl, HI15.out, Below.refl _ _⟩
  case round =>
    obtain ⟨k, hk, rfl, hI, hbel⟩ := hrel
    have HI16 : Hid (SetsAt w wr [(b1, ONE), (b2, ONE), (bz, Z), (bY, Y), (bx, X)] n) := hI
    have HBEL : Hid (Below w15.heap.size w15 wr) := hbel
    clear hI hbel
    by_cases hlt : k < M.length
    · rcases HCM.out with ⟨_, hnil⟩ | ⟨g, rfl, _, hglt, hcM⟩
      · rw [hnil] at hlt; simp at hlt
      · have hcell : wr.cell? ⟨g, k, none⟩ = some (.int .i64 (M.getD k 0)) := by
          rw [HBEL.out.cell (p := ⟨g, k, none⟩) hglt]
          simpa using hcM k hlt
        obtain ⟨hh1, hh2⟩ := HM1.out k hlt
        generalize M.getD k 0 = v at hcell hh1 hh2
        have HH1 : Hid (hasB ONE v = true) := hh1
        have HH2 : Hid (hasB X v = true) := hh2
        clear hh1 hh2 hcM
        go_wp2_with fail
        have hU := sets_has (b := b1) (m := ONE) v HI16.out (by simp)
        rw [HH1.out] at hU
        refine hU.mono ?_
        clear hU
        rintro e w17 ⟨rfl, hb, hI⟩
        have HI17 : Hid (SetsAt w w17 [(b1, ONE), (b2, ONE), (bz, Z), (bY, Y), (bx, X)] n) := hI
        have HB17 : Hid (Below w15.heap.size w15 w17) := HBEL.out.trans (hb.mono HBEL.out.size)
        clear hI hb
        go_wp2_with fail
        have hU := sets_has (b := bx) (m := X) v HI17.out (by simp)
        rw [HH2.out] at hU
        refine hU.mono ?_
        clear hU
        rintro e w18 ⟨rfl, hb, hI⟩
        have HI18 : Hid (SetsAt w w18 [(b1, ONE), (b2, ONE), (bz, Z), (bY, Y), (bx, X)] n) := hI
        have HB18 : Hid (Below w15.heap.size w15 w18) := HB17.out.trans (hb.mono HB17.out.size)
        clear hI hb
        go_wp2_with fail
        go_roundw
        case rel => exact ⟨k + 1, by omega, by go_num, HI18.out, HB18.out⟩
        case measure => simp [intOf]; omega
    · clear HBEL HCM HM1 HI15
      go_wp2_with fail
      refine (sets_copy (b := bx) (m := X) HI16.out (by simp)).mono ?_
      rintro e w17 ⟨bl, rfl, hI⟩
      have HI17 : Hid (SetsAt w w17 [(bl, X), (b1, ONE), (b2, ONE), (bz, Z), (bY, Y), (bx, X)] n) := hI
      clear HI16 hI
      go_wp2_with fail
      have hbl := HI17.out.lt (b := bl) (m := X) (by simp)
      have hML2 := mems_length 1024 Y
      have hpl2 := pc_le 1024 Y
      rw [← hML2] at hpl2
      clear hML2
      have hDD := HD.out
      have hU := sets_members (b := bY) (m := Y) HC.out HLE.out HT.out hw0 HI17.out (by simp)
      generalize mems 1024 Y = MY at hU hpl2 hDD
      refine hU.mono ?_
      clear hU
      rintro e w19 ⟨aM2, capM2, rfl, hcM2, hI⟩
      have HDD : Hid (dropS X MY = (D, c (X &&& Y))) := hDD
      have hdr := sets_drop hI aM2 capM2 MY (by omega) (by
        rcases hcM2 with h | ⟨g, hg, hge, _, hc⟩
        · exact .inl h
        · exact .inr ⟨g, hg, by omega, hc⟩)
      rw [HDD.out] at hdr
      clear HI17 hI hcM2 hDD
      go_wp2_with fail
      refine hdr.mono ?_
      clear hdr
      rintro e w20 ⟨rfl, hI⟩
      have HI20 : Hid (SetsAt w w20 [(bl, D), (b1, ONE), (b2, ONE), (bz, Z), (bY, Y), (bx, X)] n) := hI
      clear hI
      obtain ⟨G, hG⟩ : ∃ G, G = c (X &&& Y) := ⟨_, rfl⟩
      obtain ⟨q, hq0⟩ : ∃ q, q = decide (0 < G) := ⟨_, rfl⟩
      obtain ⟨r, hr0⟩ : ∃ r, r = decide (0 < c X) := ⟨_, rfl⟩
      have hq : decide (0 < G) = q := hq0.symm
      have hr : decide (0 < c X) = r := hr0.symm
      have HQ : Hid (decide (0 < c (X &&& Y)) = q) := by show _ = _; rw [hq0, ← hG]
      have HR : Hid (decide (0 < c X) = r) := hr
      have hdc : c D + G = c X := by rw [hG]; exact HDC.out
      have lD : c D ≤ 1024 := HLE.out D
      have lG : G ≤ 1024 := by rw [hG]; exact HLE.out _
      rw [← hG]
      clear hG hq0 hr0
      go_wp2_with fail
      have hU := sets_meets (b := bx) (m := X) HC.out HI20.out (by simp) [(some ⟨bY, 0, none⟩, Y)] (in_cons (by simp) (in_nil _)) (len := 1) rfl (by decide)
      rw [iS_cons, iS_nil, HQ.out] at hU
      refine hU.mono ?_
      clear hU
      rintro e w21 ⟨rfl, hI⟩
      have HI21 : Hid (SetsAt w w21 [(bl, D), (b1, ONE), (b2, ONE), (bz, Z), (bY, Y), (bx, X)] n) := hI
      clear HI20 hI
      go_wp2_with fail
      have hU := sets_meets (b := bY) (m := Y) HC.out HI21.out (by simp) [(some ⟨bx, 0, none⟩, X)] (in_cons (by simp) (in_nil _)) (len := 1) rfl (by decide)
      rw [iS_cons, iS_nil, Nat.and_comm, HQ.out] at hU
      refine hU.mono ?_
      clear hU
      rintro e w22 ⟨rfl, hI⟩
      have HI22 : Hid (SetsAt w w22 [(bl, D), (b1, ONE), (b2, ONE), (bz, Z), (bY, Y), (bx, X)] n) := hI
      clear HI21 hI
      go_wp2_with fail
      have hU := sets_meets (b := bx) (m := X) HC.out HI22.out (by simp) [(some ⟨bY, 0, none⟩, Y)] (in_cons (by simp) (in_nil _)) (len := 1) rfl (by decide)
      rw [iS_cons, iS_nil, HQ.out] at hU
      refine hU.mono ?_
      clear hU
      rintro e w23 ⟨rfl, hI⟩
      have HI23 : Hid (SetsAt w w23 [(bl, D), (b1, ONE), (b2, ONE), (bz, Z), (bY, Y), (bx, X)] n) := hI
      clear HI22 hI
      go_wp2_with fail
      have hU := sets_meets (b := bl) (m := D) HC.out HI23.out (by simp) [(some ⟨bY, 0, none⟩, Y)] (in_cons (by simp) (in_nil _)) (len := 1) rfl (by decide)
      rw [iS_cons, iS_nil, HD0.out, HC0.out, decide_eq_false (Nat.lt_irrefl 0)] at hU
      refine hU.mono ?_
      clear hU
      rintro e w24 ⟨rfl, hI⟩
      have HI24 : Hid (SetsAt w w24 [(bl, D), (b1, ONE), (b2, ONE), (bz, Z), (bY, Y), (bx, X)] n) := hI
      clear HI23 hI
      go_wp2_with fail
      refine (sets_count (b := bl) (m := D) HC.out HI24.out (by simp)).mono ?_
      rintro e w25 ⟨rfl, hI⟩
      have HI25 : Hid (SetsAt w w25 [(bl, D), (b1, ONE), (b2, ONE), (bz, Z), (bY, Y), (bx, X)] n) := hI
      clear HI24 hI
      go_wp2_with fail
      refine (sets_count (b := bx) (m := X) HC.out HI25.out (by simp)).mono ?_
      rintro e w26 ⟨rfl, hI⟩
      have HI26 : Hid (SetsAt w w26 [(bl, D), (b1, ONE), (b2, ONE), (bz, Z), (bY, Y), (bx, X)] n) := hI
      clear HI25 hI
      go_wp2_with fail
      have hU := sets_union HC.out HLE.out HI26.out [(some ⟨bY, 0, none⟩, Y)] (okL_other (by simp) (okL_nil _ _)) (len := 1) rfl (by decide)
      rw [uS_cons _ _ HY2.out, uS_nil, HDY.out] at hU
      refine hU.mono ?_
      clear hU
      rintro e w27 ⟨rfl, hI⟩
      have HI27 : Hid (SetsAt w w27 [(bl, X ||| Y), (b1, ONE), (b2, ONE), (bz, Z), (bY, Y), (bx, X)] n) := hI
      clear HI26 hI
      go_wp2_with fail
      refine (sets_copy (b := bx) (m := X) HI27.out (by simp)).mono ?_
      rintro e w28 ⟨bb, rfl, hI⟩
      have HI28 : Hid (SetsAt w w28 [(bb, X), (bl, X ||| Y), (b1, ONE), (b2, ONE), (bz, Z), (bY, Y), (bx, X)] n) := hI
      clear HI27 hI
      go_wp2_with fail
      have hU := sets_union HC.out HLE.out HI28.out [(some ⟨bY, 0, none⟩, Y)] (okL_other (by simp) (okL_nil _ _)) (len := 1) rfl (by decide)
      rw [uS_cons _ _ HY2.out, uS_nil] at hU
      refine hU.mono ?_
      clear hU
      rintro e w29 ⟨rfl, hI⟩
      have HI29 : Hid (SetsAt w w29 [(bb, X ||| Y), (bl, X ||| Y), (b1, ONE), (b2, ONE), (bz, Z), (bY, Y), (bx, X)] n) := hI
      clear HI28 hI
      go_wp2_with fail
      have hU := sets_equal (b := bl) (m := X ||| Y) (b' := bb) (m' := X ||| Y) HI29.out (by simp) (by simp)
      rw [decide_eq_true rfl] at hU
      refine hU.mono ?_
      clear hU
      rintro e w30 ⟨rfl, hI⟩
      have HI30 : Hid (SetsAt w w30 [(bb, X ||| Y), (bl, X ||| Y), (b1, ONE), (b2, ONE), (bz, Z), (bY, Y), (bx, X)] n) := hI
      clear HI29 hI
      go_wp2_with fail
      have hU := sets_meets0 (b := bx) (m := X) HC.out HI30.out (by simp)
      rw [HR.out] at hU
      refine hU.mono ?_
      clear hU
      rintro e w31 ⟨rfl, hI⟩
      have HI31 : Hid (SetsAt w w31 [(bb, X ||| Y), (bl, X ||| Y), (b1, ONE), (b2, ONE), (bz, Z), (bY, Y), (bx, X)] n) := hI
      clear HI30 hI
      go_wp2_with fail
      refine (sets_count (b := bx) (m := X) HC.out HI31.out (by simp)).mono ?_
      rintro e w32 ⟨rfl, hI⟩
      have HI32 : Hid (SetsAt w w32 [(bb, X ||| Y), (bl, X ||| Y), (b1, ONE), (b2, ONE), (bz, Z), (bY, Y), (bx, X)] n) := hI
      clear HI31 hI
      go_wp2_with fail
      have hU := sets_meets (b := bx) (m := X) HC.out HI32.out (by simp) [(some ⟨bx, 0, none⟩, X), (some ⟨b1, 0, none⟩, ONE)] (in_cons (by simp) (in_cons (by simp) (in_nil _))) (len := 2) rfl (by decide)
      rw [iS_cons, iS_cons, iS_nil, HA3.out, HR.out] at hU
      refine hU.mono ?_
      clear hU
      rintro e w33 ⟨rfl, hI⟩
      have HI33 : Hid (SetsAt w w33 [(bb, X ||| Y), (bl, X ||| Y), (b1, ONE), (b2, ONE), (bz, Z), (bY, Y), (bx, X)] n) := hI
      clear HI32 hI
      go_wp2_with fail
      have hU := sets_meets0 (b := bx) (m := X) HC.out HI33.out (by simp)
      rw [HR.out] at hU
      refine hU.mono ?_
      clear hU
      rintro e w34 ⟨rfl, hI⟩
      have HB34 : Hid (Below w.heap.size w w34) := hI.bel
      clear HI33 hI
      go_wp2_with fail
      go_ret
      exact ⟨rfl, HB34.out⟩

end Go.Proofs.YtkmocjdjdlpphaaDoor
