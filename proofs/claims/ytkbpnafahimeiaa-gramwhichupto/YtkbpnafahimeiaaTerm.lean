/-
  Term and Non of a builder; whether a handle is a terminal's or a nonterminal's.
-/
import Derived.Test.YtkbpnafahimeiaaAdd
namespace Go.Proofs.Ytkbpnafahimeiaa
open Go.RowKit Go.Maps

theorem grown_drewN (w : World) (k : Nat) : w.grownBy (w.drewN k) none := ⟨rfl, rfl, rfl, Nat.le_refl _, fun _ _ _ => rfl⟩
theorem BRow.drewN {w : World} {b : Nat} {c : Nat → Value} (h : BRow w b c) (k : Nat) : BRow (w.drewN k) b c := h
theorem Added.of {w w1 w' : World} {b o : Nat} {c : Nat → Value} {l : List ByteArray} {s : ByteArray} (hg : w.grownBy w1 none) (h : Added w1 w' b o c l s) : Added w w' b o c l s := by
  obtain ⟨m, v, h1, h2, h3, h4, h5⟩ := h
  exact ⟨m, v, h1, h2, h3, grown_trans (grown_but _ hg) h4, fun g hv => Nat.le_trans hg.size (h5 g hv)⟩

theorem size_quiet {b o n cap : Nat} {a : Option Addr} {w : World} (k : Nat) (hc : w.cell? ⟨b, o + 1, none⟩ = some (.slice a n cap)) :
    Calls Try.prog 44 #[.pointer (some ⟨b, o, none⟩)] (w.drewN k) fun e w' => e = .returned (.int .i64 n) ∧ w' = w.drewN k := size_any b o n cap a _ hc

theorem number_found (b o : Nat) (m : Value) (l : List ByteArray) (s : ByteArray) (w : World) (hc : w.cell? ⟨b, o, none⟩ = some m) (hm : MapIs w m l) (hsz : s.size ≤ 16) (hs : s ∈ l) (_hl : l.length ≤ 64) :
    Calls Try.prog 49 #[.pointer (some ⟨b, 0, none⟩), .pointer (some ⟨b, o, none⟩), .string s] w fun e w' => e = .returned (.tuple #[.int .i64 (numOf l s), .int .i64 0]) ∧ w' = w := by
  have hf := find_any b o m l s w hc hm (by unfold maxLen; omega)
  have h0 := numOf_pos hs
  have h1 := numOf_le l s
  generalize numOf l s = r at *
  clear hm hc hs
  go_enter Try.func49, Try.ntmps49
  go_wp2_with (go_at_call 80; refine hf.mono ?_; rintro e w' ⟨rfl, rfl⟩)
  go_ret2
  exact ⟨rfl, rfl⟩

theorem number_full (b o : Nat) (m : Value) (l : List ByteArray) (s : ByteArray) (w : World) (hc : w.cell? ⟨b, o, none⟩ = some m) (hm : MapIs w m l) (hsz : s.size ≤ 16) (hs : s ∉ l)
    (n1 n2 c1 c2 : Nat) (a1 a2 : Option Addr) (h1 : w.cell? ⟨b, 1, none⟩ = some (.slice a1 n1 c1)) (h2 : w.cell? ⟨b, 3, none⟩ = some (.slice a2 n2 c2)) (hb : n1 + n2 ≤ 64) (hfull : 64 ≤ n1 + n2) :
    Calls Try.prog 49 #[.pointer (some ⟨b, 0, none⟩), .pointer (some ⟨b, o, none⟩), .string s] w fun e w' => e = .returned (.tuple #[.int .i64 0, .int .i64 11]) ∧ ∃ k, w' = w.drewN k := by
  have hf := find_any b o m l s w hc hm (by unfold maxLen; omega)
  rw [numOf_zero hs] at hf
  have hd : decide (64 ≤ ((n1 : Int) + n2)) = true := decide_eq_true (by omega)
  have HA : Hid (∀ k, Calls Try.prog 44 #[.pointer (some ⟨b, 0, none⟩)] (w.drewN k) fun e w' => e = .returned (.int .i64 n1) ∧ w' = w.drewN k) := fun k => size_quiet (o := 0) k h1
  have HB : Hid (∀ k, Calls Try.prog 44 #[.pointer (some ⟨b, 2, none⟩)] (w.drewN k) fun e w' => e = .returned (.int .i64 n2) ∧ w' = w.drewN k) := fun k => size_quiet (o := 2) k h2
  clear hm hc hs h1 h2
  go_enter Try.func49, Try.ntmps49
  go_wp2_with (go_at_call 80; refine hf.mono ?_; rintro e w' ⟨rfl, rfl⟩)
  go_quiet (first | (go_at_call 44; with_reducible exact Calls.quiet_of_same (HA.out _)) | (go_at_call 44; with_reducible exact Calls.quiet_of_same (HB.out _)))
  go_wp2
  go_ret2
  exact ⟨rfl, _, rfl⟩

theorem number_new (b o : Nat) (c : Nat → Value) (l : List ByteArray) (s : ByteArray) (w : World) (hr : BRow w b c) (ho : o + 1 < 72) (hm : MapIs w (c o) l) (hl : StrsIn w (c (o + 1)) l) (hsz : s.size ≤ 16) (hs : s ∉ l) (hlen : l.length < 64)
    (n1 n2 c1 c2 : Nat) (a1 a2 : Option Addr) (h1 : w.cell? ⟨b, 1, none⟩ = some (.slice a1 n1 c1)) (h2 : w.cell? ⟨b, 3, none⟩ = some (.slice a2 n2 c2)) (hfull : n1 + n2 < 64) :
    Calls Try.prog 49 #[.pointer (some ⟨b, 0, none⟩), .pointer (some ⟨b, o, none⟩), .string s] w fun e w' => e = .returned (.tuple #[.int .i64 (l.length + 1), .int .i64 0]) ∧ Added w w' b o c l s := by
  have hf := find_any b o (c o) l s w (hr.cell o (by omega)) hm (by unfold maxLen; omega)
  rw [numOf_zero hs] at hf
  have hd : decide (64 ≤ ((n1 : Int) + n2)) = false := decide_eq_false (by omega)
  have HA : Hid (∀ k, Calls Try.prog 44 #[.pointer (some ⟨b, 0, none⟩)] (w.drewN k) fun e w' => e = .returned (.int .i64 n1) ∧ w' = w.drewN k) := fun k => size_quiet (o := 0) k h1
  have HB : Hid (∀ k, Calls Try.prog 44 #[.pointer (some ⟨b, 2, none⟩)] (w.drewN k) fun e w' => e = .returned (.int .i64 n2) ∧ w' = w.drewN k) := fun k => size_quiet (o := 2) k h2
  have HADD : Hid (∀ k, Calls Try.prog 81 #[.pointer (some ⟨b, o, none⟩), .string s] (w.drewN k) fun e w' => e = .returned (.int .i64 (l.length + 1)) ∧ Added w w' b o c l s) := fun k =>
    (add_any b o c l s (w.drewN k) (hr.drewN k) ho (hm.kept (grown_drewN w k) (Apart.none _)) (hl.kept (grown_drewN w k) (Apart.none _)) hs hlen hsz).mono fun e w' ⟨he, ha⟩ => ⟨he, ha.of (grown_drewN w k)⟩
  clear hm hs h1 h2 hl hr
  go_enter Try.func49, Try.ntmps49
  go_wp2_with (go_at_call 80; refine hf.mono ?_; rintro e w' ⟨rfl, rfl⟩)
  go_quiet (first | (go_at_call 44; with_reducible exact Calls.quiet_of_same (HA.out _)) | (go_at_call 44; with_reducible exact Calls.quiet_of_same (HB.out _)))
  go_wp2_with fail
  refine (HADD.out _).mono ?_
  rintro e w2 ⟨rfl, ha⟩
  go_wp2_with fail
  go_ret2
  exact ⟨rfl, ha⟩

/-! ### Term, Non -/
def BS.addT (S : BS) (s : ByteArray) : BS := { S with terms := S.terms ++ [s] }
def BS.addN (S : BS) (s : ByteArray) : BS := { S with nons := S.nons ++ [s] }
/-- A name's number, or 0 and the error; the builder behind it. -/
def numbered (full : Bool) (l : List ByteArray) (s : ByteArray) : Nat × Int :=
  if numOf l s = 0 then (if full then (0, 11) else (l.length + 1, 0)) else (numOf l s, 0)
def BS.full (S : BS) : Bool := decide (64 ≤ S.terms.length + S.nons.length)
def BS.term (S : BS) (s : ByteArray) : Int × Int × BS :=
  if isTextB s then (((numbered S.full S.terms s).1 : Int), (numbered S.full S.terms s).2, if numOf S.terms s = 0 ∧ S.full = false then S.addT s else S) else (0, 1, S)
def BS.non (S : BS) (s : ByteArray) : Int × Int × BS :=
  if isNameB s then (-((numbered S.full S.nons s).1 : Int), (numbered S.full S.nons s).2, if numOf S.nons s = 0 ∧ S.full = false then S.addN s else S) else (0, 1, S)

theorem BS.OK.addT {S : BS} (h : S.OK) {s : ByteArray} (hs : isTextB s = true) (hni : s ∉ S.terms) (hf : S.full = false) : (S.addT s).OK := by
  have hf' : S.terms.length + S.nons.length < 64 := by simpa [BS.full] using hf
  have hl : (S.addT s).terms.length = S.terms.length + 1 := by simp [BS.addT]
  refine ⟨by rw [hl]; show S.terms.length + 1 + S.nons.length ≤ 64; omega, fun x hx => ?_, h.nnames, ?_, h.nnd, h.sides, h.sdv, h.prods, h.lev, h.lev0, fun k hk => h.levT k (by omega), fun i hi => ?_, h.pl, fun p hp k hk => ?_, h.plen, h.pv, h.st⟩
  · rcases List.mem_append.1 hx with hx | hx
    · exact h.tnames x hx
    · simp at hx; subst hx; exact hs
  · exact List.nodup_append.2 ⟨h.tnd, by simp, fun a ha b hb => by simp at hb; subst hb; exact fun e => hni (e ▸ ha)⟩
  · obtain ⟨k, h1, h2, h3⟩ := h.has i hi
    exact ⟨k, h1, by omega, h3⟩
  · rcases h.pr p hp k hk with h' | h'
    · left; rw [hl]; omega
    · exact .inr h'
theorem BS.OK.addN {S : BS} (h : S.OK) {s : ByteArray} (hs : isNameB s = true) (hni : s ∉ S.nons) (hf : S.full = false) : (S.addN s).OK := by
  have hf' : S.terms.length + S.nons.length < 64 := by simpa [BS.full] using hf
  have hl : (S.addN s).nons.length = S.nons.length + 1 := by simp [BS.addN]
  refine ⟨by rw [hl]; show S.terms.length + (S.nons.length + 1) ≤ 64; omega, h.tnames, fun x hx => ?_, h.tnd, ?_, h.sides, h.sdv, h.prods, h.lev, h.lev0, h.levT, h.has, fun p hp => ?_, fun p hp k hk => ?_, h.plen, h.pv, ?_⟩
  · rcases List.mem_append.1 hx with hx | hx
    · exact h.nnames x hx
    · simp at hx; subst hx; exact hs
  · exact List.nodup_append.2 ⟨h.nnd, by simp, fun a ha b hb => by simp at hb; subst hb; exact fun e => hni (e ▸ ha)⟩
  · have := h.pl p hp; rw [hl]; omega
  · rcases h.pr p hp k hk with h' | h'
    · exact .inl h'
    · right; rw [hl]; omega
  · have hst : (S.addN s).start = S.start := rfl
    rw [hl, hst]
    rcases h.st with h' | h'
    · exact .inl h'
    · right; omega

theorem Added.term {w w' : World} {b : Nat} {c : Nat → Value} {S : BS} {s : ByteArray} (h : Added w w' b 0 c S.terms s) (hr : BRow w b c) (hc : BCells w S c) (hok : (S.addT s).OK) : BAt w' b (S.addT s) ∧ w.grownBy w' (some b) := by
  obtain ⟨m, v, h1, h2, h3, h4, h5⟩ := h
  have hk := hc.kept h4 hr.apart
  refine ⟨⟨hok, _, h1, ?_⟩, h4⟩
  exact ⟨by rw [putC_same]; exact h2, by rw [putC_other _ _ (by omega), putC_same]; exact h3, by rw [putC_other _ _ (by omega), putC_other _ _ (by omega)]; exact hk.nm, by rw [putC_other _ _ (by omega), putC_other _ _ (by omega)]; exact hk.nl,
    fun i hi => by rw [putC_other _ _ (by omega), putC_other _ _ (by omega)]; exact hk.lv i hi, by rw [putC_other _ _ (by omega), putC_other _ _ (by omega)]; exact hk.sd, by rw [putC_other _ _ (by omega), putC_other _ _ (by omega)]; exact hk.pr, by rw [putC_other _ _ (by omega), putC_other _ _ (by omega)]; exact hk.st, foot_of hc.ft hc.pr h4 hr.apart rfl rfl (by rw [putC_other _ _ (by omega), putC_other _ _ (by omega)]) (fun i hi => by
      by_cases e : i = 1
      · right; rw [e, putC_other _ _ (by omega), putC_same]; exact h5
      · left; rw [putC_other _ _ (by omega), putC_other _ _ (by omega)])⟩
theorem Added.non {w w' : World} {b : Nat} {c : Nat → Value} {S : BS} {s : ByteArray} (h : Added w w' b 2 c S.nons s) (hr : BRow w b c) (hc : BCells w S c) (hok : (S.addN s).OK) : BAt w' b (S.addN s) ∧ w.grownBy w' (some b) := by
  obtain ⟨m, v, h1, h2, h3, h4, h5⟩ := h
  have hk := hc.kept h4 hr.apart
  refine ⟨⟨hok, _, h1, ?_⟩, h4⟩
  exact ⟨by rw [putC_other _ _ (by omega), putC_other _ _ (by omega)]; exact hk.tm, by rw [putC_other _ _ (by omega), putC_other _ _ (by omega)]; exact hk.tl, by rw [putC_same]; exact h2, by rw [putC_other _ _ (by omega), putC_same]; exact h3,
    fun i hi => by rw [putC_other _ _ (by omega), putC_other _ _ (by omega)]; exact hk.lv i hi, by rw [putC_other _ _ (by omega), putC_other _ _ (by omega)]; exact hk.sd, by rw [putC_other _ _ (by omega), putC_other _ _ (by omega)]; exact hk.pr, by rw [putC_other _ _ (by omega), putC_other _ _ (by omega)]; exact hk.st, foot_of hc.ft hc.pr h4 hr.apart rfl rfl (by rw [putC_other _ _ (by omega), putC_other _ _ (by omega)]) (fun i hi => by
      by_cases e : i = 3
      · right; rw [e, putC_other _ _ (by omega), putC_same]; exact h5
      · left; rw [putC_other _ _ (by omega), putC_other _ _ (by omega)])⟩

theorem isTextB_size {s : ByteArray} (h : isTextB s = true) : s.size ≤ 16 := by simp [isTextB, lenOK] at h; omega
theorem isNameB_size {s : ByteArray} (h : isNameB s = true) : s.size ≤ 16 := by simp [isNameB, lenOK] at h; omega

/-- number, told at once. -/
theorem number_term (b : Nat) (S : BS) (s : ByteArray) (w : World) (hB : BAt w b S) (hnm : isTextB s = true) :
    Calls Try.prog 49 #[.pointer (some ⟨b, 0, none⟩), .pointer (some ⟨b, 0, none⟩), .string s] w fun e w' =>
      e = .returned (.tuple #[.int .i64 ((numbered S.full S.terms s).1 : Int), .int .i64 (numbered S.full S.terms s).2]) ∧ BAt w' b (if numOf S.terms s = 0 ∧ S.full = false then S.addT s else S) ∧ w.grownBy w' (some b) := by
  have hsz := isTextB_size hnm
  have hB' := hB
  obtain ⟨hok, c, hr, hc⟩ := hB
  have hsy := hok.syms
  obtain ⟨a1, c1, hv1, _⟩ := hc.tl.form
  obtain ⟨a2, c2, hv2, _⟩ := hc.nl.form
  have hc1 := hr.cell 1 (by omega)
  have hc3 := hr.cell 3 (by omega)
  rw [hv1] at hc1
  rw [hv2] at hc3
  by_cases hs : s ∈ S.terms
  · have h0 := numOf_pos hs
    have e1 : numbered S.full S.terms s = (numOf S.terms s, 0) := by simp [numbered]; omega
    rw [e1, if_neg (by omega)]
    refine (number_found b 0 (c 0) S.terms s w (hr.cell 0 (by omega)) hc.tm hsz hs (by omega)).mono ?_
    rintro e w' ⟨rfl, rfl⟩
    exact ⟨rfl, hB', grown_refl _ _⟩
  · have h0 := numOf_zero hs
    cases hf : S.full with
    | true =>
      have hf' : 64 ≤ S.terms.length + S.nons.length := by simpa [BS.full] using hf
      have e1 : numbered true S.terms s = (0, 11) := by simp [numbered, h0]
      rw [e1, if_neg (by simp)]
      refine (number_full b 0 (c 0) S.terms s w (hr.cell 0 (by omega)) hc.tm hsz hs _ _ c1 c2 a1 a2 hc1 hc3 hsy hf').mono ?_
      rintro e w' ⟨rfl, k, rfl⟩
      exact ⟨rfl, hB'.kept (grown_drewN w k), grown_but _ (grown_drewN w k)⟩
    | false =>
      have hf' : S.terms.length + S.nons.length < 64 := by simpa [BS.full] using hf
      have e1 : numbered false S.terms s = (S.terms.length + 1, 0) := by simp [numbered, h0]
      rw [e1, if_pos ⟨h0, rfl⟩]
      refine (number_new b 0 c S.terms s w hr (by omega) hc.tm hc.tl hsz hs (by omega) _ _ c1 c2 a1 a2 hc1 hc3 hf').mono ?_
      rintro e w' ⟨rfl, ha⟩
      exact ⟨by simp, ha.term hr hc (hok.addT hnm hs hf)⟩

theorem number_non (b : Nat) (S : BS) (s : ByteArray) (w : World) (hB : BAt w b S) (hnm : isNameB s = true) :
    Calls Try.prog 49 #[.pointer (some ⟨b, 0, none⟩), .pointer (some ⟨b, 2, none⟩), .string s] w fun e w' =>
      e = .returned (.tuple #[.int .i64 ((numbered S.full S.nons s).1 : Int), .int .i64 (numbered S.full S.nons s).2]) ∧ BAt w' b (if numOf S.nons s = 0 ∧ S.full = false then S.addN s else S) ∧ w.grownBy w' (some b) := by
  have hsz := isNameB_size hnm
  have hB' := hB
  obtain ⟨hok, c, hr, hc⟩ := hB
  have hsy := hok.syms
  obtain ⟨a1, c1, hv1, _⟩ := hc.tl.form
  obtain ⟨a2, c2, hv2, _⟩ := hc.nl.form
  have hc1 := hr.cell 1 (by omega)
  have hc3 := hr.cell 3 (by omega)
  rw [hv1] at hc1
  rw [hv2] at hc3
  by_cases hs : s ∈ S.nons
  · have h0 := numOf_pos hs
    have e1 : numbered S.full S.nons s = (numOf S.nons s, 0) := by simp [numbered]; omega
    rw [e1, if_neg (by omega)]
    refine (number_found b 2 (c 2) S.nons s w (hr.cell 2 (by omega)) hc.nm hsz hs (by omega)).mono ?_
    rintro e w' ⟨rfl, rfl⟩
    exact ⟨rfl, hB', grown_refl _ _⟩
  · have h0 := numOf_zero hs
    cases hf : S.full with
    | true =>
      have hf' : 64 ≤ S.terms.length + S.nons.length := by simpa [BS.full] using hf
      have e1 : numbered true S.nons s = (0, 11) := by simp [numbered, h0]
      rw [e1, if_neg (by simp)]
      refine (number_full b 2 (c 2) S.nons s w (hr.cell 2 (by omega)) hc.nm hsz hs _ _ c1 c2 a1 a2 hc1 hc3 hsy hf').mono ?_
      rintro e w' ⟨rfl, k, rfl⟩
      exact ⟨rfl, hB'.kept (grown_drewN w k), grown_but _ (grown_drewN w k)⟩
    | false =>
      have hf' : S.terms.length + S.nons.length < 64 := by simpa [BS.full] using hf
      have e1 : numbered false S.nons s = (S.nons.length + 1, 0) := by simp [numbered, h0]
      rw [e1, if_pos ⟨h0, rfl⟩]
      refine (number_new b 2 c S.nons s w hr (by omega) hc.nm hc.nl hsz hs (by omega) _ _ c1 c2 a1 a2 hc1 hc3 hf').mono ?_
      rintro e w' ⟨rfl, ha⟩
      exact ⟨by simp, ha.non hr hc (hok.addN hnm hs hf)⟩

theorem term_nil (s : ByteArray) (w : World) : Calls Try.prog 21 #[.pointer none, .string s] w fun e w' => e = .returned (.tuple #[.int .i64 0, .int .i64 1]) ∧ w' = w := by
  go_enter Try.func21, Try.ntmps21
  go_wp2_with fail
  go_ret2
  exact ⟨rfl, rfl⟩
theorem non_nil (s : ByteArray) (w : World) : Calls Try.prog 22 #[.pointer none, .string s] w fun e w' => e = .returned (.tuple #[.int .i64 0, .int .i64 1]) ∧ w' = w := by
  go_enter Try.func22, Try.ntmps22
  go_wp2_with fail
  go_ret2
  exact ⟨rfl, rfl⟩

theorem term_any (b : Nat) (S : BS) (s : ByteArray) (w : World) (hB : BAt w b S) :
    Calls Try.prog 21 #[.pointer (some ⟨b, 0, none⟩), .string s] w fun e w' => e = .returned (.tuple #[.int .i64 (S.term s).1, .int .i64 (S.term s).2.1]) ∧ BAt w' b (S.term s).2.2 ∧ w.grownBy w' (some b) := by
  have ht := isText_any s w
  cases h : isTextB s with
  | false =>
    rw [h] at ht
    have e1 : S.term s = (0, 1, S) := by simp [BS.term, h]
    rw [e1]
    have HB : Hid (BAt w b S) := hB
    clear hB e1
    go_enter Try.func21, Try.ntmps21
    go_wp2_with (go_at_call 48; refine ht.mono ?_; rintro e w' ⟨rfl, rfl⟩)
    go_ret2
    exact ⟨rfl, HB.out, grown_refl _ _⟩
  | true =>
    rw [h] at ht
    have hn := number_term b S s w hB h
    have e1 : S.term s = (((numbered S.full S.terms s).1 : Int), (numbered S.full S.terms s).2, if numOf S.terms s = 0 ∧ S.full = false then S.addT s else S) := by simp [BS.term, h]
    rw [e1]
    generalize (if numOf S.terms s = 0 ∧ S.full = false then S.addT s else S) = S' at *
    generalize ((numbered S.full S.terms s).1 : Int) = r1 at *
    generalize (numbered S.full S.terms s).2 = r2 at *
    clear hB e1
    go_enter Try.func21, Try.ntmps21
    go_wp2_with (first | (go_at_call 48; refine ht.mono ?_; rintro e w' ⟨rfl, rfl⟩) | (go_at_call 49; refine hn.mono ?_; rintro e w' ⟨rfl, h1, h2⟩))
    go_ret2
    exact ⟨rfl, h1, h2⟩

theorem non_any (b : Nat) (S : BS) (s : ByteArray) (w : World) (hB : BAt w b S) :
    Calls Try.prog 22 #[.pointer (some ⟨b, 0, none⟩), .string s] w fun e w' => e = .returned (.tuple #[.int .i64 (S.non s).1, .int .i64 (S.non s).2.1]) ∧ BAt w' b (S.non s).2.2 ∧ w.grownBy w' (some b) := by
  have ht := isName_any s w
  cases h : isNameB s with
  | false =>
    rw [h] at ht
    have e1 : S.non s = (0, 1, S) := by simp [BS.non, h]
    rw [e1]
    have HB : Hid (BAt w b S) := hB
    clear hB e1
    go_enter Try.func22, Try.ntmps22
    go_wp2_with (go_at_call 50; refine ht.mono ?_; rintro e w' ⟨rfl, rfl⟩)
    go_ret2
    exact ⟨rfl, HB.out, grown_refl _ _⟩
  | true =>
    rw [h] at ht
    have hn := number_non b S s w hB h
    have e1 : S.non s = (-((numbered S.full S.nons s).1 : Int), (numbered S.full S.nons s).2, if numOf S.nons s = 0 ∧ S.full = false then S.addN s else S) := by simp [BS.non, h]
    rw [e1]
    have hb : (numbered S.full S.nons s).1 ≤ 65 := by
      have := numOf_le S.nons s
      have := hB.1.syms
      unfold numbered
      split
      · split
        · exact Nat.zero_le _
        · show S.nons.length + 1 ≤ 65; omega
      · show numOf S.nons s ≤ 65; omega
    generalize (if numOf S.nons s = 0 ∧ S.full = false then S.addN s else S) = S' at *
    generalize (numbered S.full S.nons s).1 = r1 at *
    generalize (numbered S.full S.nons s).2 = r2 at *
    clear hB e1
    go_enter Try.func22, Try.ntmps22
    go_wp2_with (first | (go_at_call 50; refine ht.mono ?_; rintro e w' ⟨rfl, rfl⟩) | (go_at_call 49; refine hn.mono ?_; rintro e w' ⟨rfl, h1, h2⟩))
    go_ret2
    exact ⟨rfl, h1, h2⟩

end Go.Proofs.Ytkbpnafahimeiaa
