/-
  Letters out of raw bytes, walked.
-/
import Derived.Test.YtpjckjggmcijjabDoorSSprMath
import Derived.Test.YtpjckjggmcijjabDoorSPick
import Derived.Deep.CutRange
import Derived.Laws.IdiomStrings
namespace Go.Proofs.YtpjckjggmcijjabDoor
open Go.RowKit

attribute [local go_sem] Oper.semAt_some

theorem infoU8 : (Tryd.prog.info? 5).map (fun i => (i.zero, i.size, i.bytes)) = some (some (.int .u8 0), 1, 1) := by kernel_rfl

def letterSet : ByteArray := ⟨#[97, 98, 99, 120, 121, 122, 65, 66, 90, 95, 48, 49, 57]⟩
/-- Bytes of a text of the kind asked for. -/
def LetOK (any : Bool) (l : List Nat) : Prop := (any = true → ∀ c ∈ l, termB c = true) ∧ (any = false → (∀ c ∈ l, innerB c = true) ∧ (l ≠ [] → startB (l.getD 0 0) = true)) ∧ ∀ c ∈ l, c < 256
theorem LetOK.term {l : List Nat} {d : Nat} (h : LetOK true l) (hd : termB d = true) (h2 : d < 256) : LetOK true (l ++ [d]) := by
  refine ⟨fun _ c hc => ?_, fun h => (by cases h), fun c hc => ?_⟩
  · rcases List.mem_append.1 hc with hc | hc
    · exact h.1 rfl c hc
    · rw [List.mem_singleton.1 hc]; exact hd
  · rcases List.mem_append.1 hc with hc | hc
    · exact h.2.2 c hc
    · rw [List.mem_singleton.1 hc]; exact h2
theorem LetOK.name {l : List Nat} {d : Nat} (h : LetOK false l) (hd : innerB d = true) (hs : l = [] → startB d = true) (h2 : d < 256) : LetOK false (l ++ [d]) := by
  refine ⟨fun h => (by cases h), fun _ => ⟨fun c hc => ?_, fun _ => ?_⟩, fun c hc => ?_⟩
  · rcases List.mem_append.1 hc with hc | hc
    · exact (h.2.1 rfl).1 c hc
    · rw [List.mem_singleton.1 hc]; exact hd
  · cases l with
    | nil => exact hs rfl
    | cons a l => exact (h.2.1 rfl).2 (by simp)
  · rcases List.mem_append.1 hc with hc | hc
    · exact h.2.2 c hc
    · rw [List.mem_singleton.1 hc]; exact h2
theorem let_set : ∀ r, r < 13 → innerB (chr letterSet r) = true ∧ (65 ≤ chr letterSet r → startB (chr letterSet r) = true) ∧ chr letterSet r < 256 := by decide +kernel
theorem let_term : ∀ r, r < 95 → 32 + r ≠ 39 → termB (32 + r) = true := by decide +kernel
def textOf (l : List Nat) : ByteArray := ⟨(l.map UInt8.ofNat).toArray⟩
theorem textOf_bs {l : List Nat} (h : ∀ c ∈ l, c < 256) : bs (textOf l) = l := by
  unfold bs textOf
  simp only [List.map_map]
  refine (List.map_congr_left (fun c hc => ?_)).trans (List.map_id l)
  simp [Nat.mod_eq_of_lt (h c hc)]
theorem textOf_ok {any : Bool} {l : List Nat} (h : LetOK any l) (h0 : l ≠ []) (h16 : l.length ≤ 16) : (any = true → termOK (textOf l) = true) ∧ (any = false → nameOK (textOf l) = true) := by
  have hb := textOf_bs h.2.2
  have hsz : (textOf l).size = l.length := by rw [← bs_length, hb]
  have h1 : 1 ≤ l.length := by cases l with | nil => exact absurd rfl h0 | cons a l => simp
  refine ⟨fun ha => ?_, fun ha => ?_⟩
  · have hr := runL_app (p := termB) l [] (h.1 ha) (.inl rfl)
    rw [List.append_nil] at hr
    simp [termOK, hsz, hb, hr]
    omega
  · have hr := runL_app (p := innerB) l [] ((h.2.1 ha).1) (.inl rfl)
    rw [List.append_nil] at hr
    have hs : startB (chr (textOf l) 0) = true := by unfold chr; rw [hb]; exact (h.2.1 ha).2 h0
    simp [nameOK, hsz, hb, hr, hs]
    omega

set_option maxRecDepth 100000 in
set_option maxHeartbeats 1000000 in
theorem letters_any (s : ByteArray) (any : Bool) (w : World) : Calls Tryd.prog 30 #[.string s, .bool any] w fun e w' => (∃ t : ByteArray, e = .returned (.string t) ∧ (any = true → termOK t = true) ∧ (any = false → nameOK t = true)) ∧ w.grownBy w' none := by
  obtain ⟨i0, hi, hz0, hz1, hz2⟩ := info_parts infoU8
  go_enter Tryd.func30, Tryd.ntmps30
  go_wp2_with fail
  go_loopw [5, 6] (fun v5 v6 wr => ∃ l : List Nat, l.length ≤ 16 ∧ l.length ≤ s.size ∧ v6 = .int .i64 l.length ∧ w.grownBy wr none ∧ wr.ownsRow w.heap.size 5 1 v5 l.length (l.map fun c : Nat => Value.int .u8 (c : Int)) ∧ LetOK any l) (fun _ v6 _ => 16 - (intOf v6).toNat)
  case atStart => exact ⟨[], by simp, by simp, rfl, grown_refl _ _, World.ownsRow_nil _ _ _ _, fun _ c hc => (by cases hc), fun _ => ⟨fun c hc => (by cases hc), fun h => absurd rfl h⟩, fun c hc => (by cases hc)⟩
  case round =>
    obtain ⟨l, hl1, hl2, rfl, hg, hrow, hok⟩ := hrel
    have HG : Hid (w.grownBy wr none) := hg
    have HROW : Hid (wr.ownsRow w.heap.size 5 1 u5 l.length (l.map fun c : Nat => Value.int .u8 (c : Int))) := hrow
    have HOK : Hid (LetOK any l) := hok
    have hwz := hg.size
    clear hg hrow hok
    by_cases hlt : l.length < s.size ∧ l.length < 16
    · obtain ⟨h1, h2⟩ := hlt
      have hix := fun W => index_at s l.length h1 W
      have hcl := chr_lt s l.length
      have hd16 : decide ((l.length : Int) < 16) = true := decide_eq_true (by omega)
      have hwk := wrap_fits (x := (l.length : Int) + 1) (by omega) (by omega)
      generalize chr s l.length = c at *
      cases any with
      | true =>
        cases hh : ((32 + (c : Int) % 95) == 39) with
        | true =>
          go_upto_region 12 with fail
          have HLET : Hid (LetOK true (l ++ [126])) := HOK.out.term rfl (by decide)
          go_wp2_with (at_builtin; refine wpList_append_own_at _ rfl _ _ 64 rfl w.heap.size 5 i0 _ 1 1 Tryd.underlying64 hi hz0 hz1 hz2 rfl (by decide) _ _ _ rfl (HROW.out.alloc _) ⟨wr.heap.size, 0, none⟩ 1 1 [Value.int .u8 126] rfl rfl (fun j u hu => World.news_of_block (heap_alloc_new wr _) j u hu) (by simp [Value.oneCell']) (by unfold maxLen; omega) (by omega) (by simp; omega) ?_)
          intro v' w3 hown3 hg3 _ _
          have hga := World.grownBy_alloc wr (.cells #[Value.int .u8 126] 5) none
          have HG3 : Hid (w.grownBy w3 none) := grown_own (grown_trans HG.out hga) (owns_kept HROW.out hga) hg3
          have HROW3 : Hid (w3.ownsRow w.heap.size 5 1 v' (l.length + 1) (l.map (fun c : Nat => Value.int .u8 (c : Int)) ++ [Value.int .u8 126])) := hown3
          clear hown3 hg3 hga
          go_wp2_with fail
          go_roundw
          case rel => exact ⟨l ++ [126], by simp; omega, by simp; omega, by simp, HG3.out, by simpa using HROW3.out, HLET.out⟩
          case measure => simp [intOf]; omega
        | false =>
          have hne : 32 + c % 95 ≠ 39 := by intro e; simp at hh; omega
          go_upto_region 12 with fail
          have hcast : (32 + (c : Int) % 95) = ((32 + c % 95 : Nat) : Int) := by omega
          have HT : Hid (termB (32 + c % 95) = true ∧ 32 + c % 95 < 256) := ⟨let_term _ (by omega) hne, by omega⟩
          rw [hcast] at hh ⊢
          clear hcast hne
          generalize 32 + c % 95 = d at *
          have HLET : Hid (LetOK true (l ++ [d])) := HOK.out.term HT.out.1 HT.out.2
          go_wp2_with (at_builtin; refine wpList_append_own_at _ rfl _ _ 64 rfl w.heap.size 5 i0 _ 1 1 Tryd.underlying64 hi hz0 hz1 hz2 rfl (by decide) _ _ _ rfl (HROW.out.alloc _) ⟨wr.heap.size, 0, none⟩ 1 1 [Value.int .u8 (d : Int)] rfl rfl (fun j u hu => World.news_of_block (heap_alloc_new wr _) j u hu) (by simp [Value.oneCell']) (by unfold maxLen; omega) (by omega) (by simp; omega) ?_)
          intro v' w3 hown3 hg3 _ _
          have hga := World.grownBy_alloc wr (.cells #[Value.int .u8 (d : Int)] 5) none
          have HG3 : Hid (w.grownBy w3 none) := grown_own (grown_trans HG.out hga) (owns_kept HROW.out hga) hg3
          have HROW3 : Hid (w3.ownsRow w.heap.size 5 1 v' (l.length + 1) (l.map (fun c : Nat => Value.int .u8 (c : Int)) ++ [Value.int .u8 (d : Int)])) := hown3
          clear hown3 hg3 hga
          go_wp2_with fail
          go_roundw
          case rel => exact ⟨l ++ [d], by simp; omega, by simp; omega, by simp, HG3.out, by simpa using HROW3.out, HLET.out⟩
          case measure => simp [intOf]; omega
      | false =>
        obtain ⟨hs1, hs2, hs3⟩ := let_set (c % 13) (by omega)
        have HS : Hid (innerB (chr letterSet (c % 13)) = true ∧ (65 ≤ chr letterSet (c % 13) → startB (chr letterSet (c % 13)) = true) ∧ chr letterSet (c % 13) < 256) := ⟨hs1, hs2, hs3⟩
        have hi13 : ∀ W : World, (Instr.index 9 (.string ⟨#[97, 98, 99, 120, 121, 122, 65, 66, 90, 95, 48, 49, 57]⟩) (.int .i64 ((c : Int) % 13))).run Tryd.prog W = .ok (.int .u8 (chr letterSet (c % 13))) W := fun W => by
          rw [show ((c : Int) % 13) = ((c % 13 : Nat) : Int) by omega]
          exact index_at letterSet (c % 13) (show c % 13 < 13 by omega) W
        clear hs1 hs2 hs3
        generalize chr letterSet (c % 13) = d at *
        cases hh : ((32 + (c : Int) % 95) == 39)
        all_goals
          go_upto_region 10 with fail
          clear hi13
          by_cases hl0 : l = []
          · have b0 : ((l.length : Int) == 0) = true := by rw [hl0]; rfl
            by_cases h65 : d < 65
            · have b1 : decide ((d : Int) < 65) = true := decide_eq_true (by omega)
              clear hl0
              go_upto_region 12 with fail
              have HLET : Hid (LetOK false (l ++ [113])) := HOK.out.name rfl (fun _ => rfl) (by decide)
              go_wp2_with (at_builtin; refine wpList_append_own_at _ rfl _ _ 64 rfl w.heap.size 5 i0 _ 1 1 Tryd.underlying64 hi hz0 hz1 hz2 rfl (by decide) _ _ _ rfl (HROW.out.alloc _) ⟨wr.heap.size, 0, none⟩ 1 1 [Value.int .u8 113] rfl rfl (fun j u hu => World.news_of_block (heap_alloc_new wr _) j u hu) (by simp [Value.oneCell']) (by unfold maxLen; omega) (by omega) (by simp; omega) ?_)
              intro v' w3 hown3 hg3 _ _
              have hga := World.grownBy_alloc wr (.cells #[Value.int .u8 113] 5) none
              have HG3 : Hid (w.grownBy w3 none) := grown_own (grown_trans HG.out hga) (owns_kept HROW.out hga) hg3
              have HROW3 : Hid (w3.ownsRow w.heap.size 5 1 v' (l.length + 1) (l.map (fun c : Nat => Value.int .u8 (c : Int)) ++ [Value.int .u8 113])) := hown3
              clear hown3 hg3 hga
              go_wp2_with fail
              go_roundw
              case rel => exact ⟨l ++ [113], by simp; omega, by simp; omega, by simp, HG3.out, by simpa using HROW3.out, HLET.out⟩
              case measure => simp [intOf]; omega
            · have b1 : decide ((d : Int) < 65) = false := decide_eq_false (by omega)
              have HST : Hid (startB d = true) := HS.out.2.1 (by omega)
              clear hl0 h65
              go_upto_region 12 with fail
              have HLET : Hid (LetOK false (l ++ [d])) := HOK.out.name HS.out.1 (fun _ => HST.out) HS.out.2.2
              go_wp2_with (at_builtin; refine wpList_append_own_at _ rfl _ _ 64 rfl w.heap.size 5 i0 _ 1 1 Tryd.underlying64 hi hz0 hz1 hz2 rfl (by decide) _ _ _ rfl (HROW.out.alloc _) ⟨wr.heap.size, 0, none⟩ 1 1 [Value.int .u8 (d : Int)] rfl rfl (fun j u hu => World.news_of_block (heap_alloc_new wr _) j u hu) (by simp [Value.oneCell']) (by unfold maxLen; omega) (by omega) (by simp; omega) ?_)
              intro v' w3 hown3 hg3 _ _
              have hga := World.grownBy_alloc wr (.cells #[Value.int .u8 (d : Int)] 5) none
              have HG3 : Hid (w.grownBy w3 none) := grown_own (grown_trans HG.out hga) (owns_kept HROW.out hga) hg3
              have HROW3 : Hid (w3.ownsRow w.heap.size 5 1 v' (l.length + 1) (l.map (fun c : Nat => Value.int .u8 (c : Int)) ++ [Value.int .u8 (d : Int)])) := hown3
              clear hown3 hg3 hga
              go_wp2_with fail
              go_roundw
              case rel => exact ⟨l ++ [d], by simp; omega, by simp; omega, by simp, HG3.out, by simpa using HROW3.out, HLET.out⟩
              case measure => simp [intOf]; omega
          · have b0 : ((l.length : Int) == 0) = false := by have := List.length_pos_iff.2 hl0; simp; omega
            have HNE : Hid (l ≠ []) := hl0
            clear hl0
            go_upto_region 12 with fail
            have HLET : Hid (LetOK false (l ++ [d])) := HOK.out.name HS.out.1 (fun e => absurd e HNE.out) HS.out.2.2
            go_wp2_with (at_builtin; refine wpList_append_own_at _ rfl _ _ 64 rfl w.heap.size 5 i0 _ 1 1 Tryd.underlying64 hi hz0 hz1 hz2 rfl (by decide) _ _ _ rfl (HROW.out.alloc _) ⟨wr.heap.size, 0, none⟩ 1 1 [Value.int .u8 (d : Int)] rfl rfl (fun j u hu => World.news_of_block (heap_alloc_new wr _) j u hu) (by simp [Value.oneCell']) (by unfold maxLen; omega) (by omega) (by simp; omega) ?_)
            intro v' w3 hown3 hg3 _ _
            have hga := World.grownBy_alloc wr (.cells #[Value.int .u8 (d : Int)] 5) none
            have HG3 : Hid (w.grownBy w3 none) := grown_own (grown_trans HG.out hga) (owns_kept HROW.out hga) hg3
            have HROW3 : Hid (w3.ownsRow w.heap.size 5 1 v' (l.length + 1) (l.map (fun c : Nat => Value.int .u8 (c : Int)) ++ [Value.int .u8 (d : Int)])) := hown3
            clear hown3 hg3 hga
            go_wp2_with fail
            go_roundw
            case rel => exact ⟨l ++ [d], by simp; omega, by simp; omega, by simp, HG3.out, by simpa using HROW3.out, HLET.out⟩
            case measure => simp [intOf]; omega
    · have hex : (decide ((l.length : Int) < (s.size : Int)) && decide ((l.length : Int) < 16)) = false := by
        rw [Bool.and_eq_false_iff]
        by_cases h1 : l.length < s.size
        · exact .inr (decide_eq_false (by omega))
        · exact .inl (decide_eq_false (by omega))
      by_cases hl0 : l = []
      · subst hl0
        have hs0 : s.size = 0 := by have h' : ¬ (0 < s.size ∧ 0 < 16) := hlt; omega
        obtain ⟨a, cc, hf⟩ := owns_form HROW.out
        subst hf
        clear hlt hex
        go_wp2_with fail
        go_ret
        exact ⟨⟨⟨#[110]⟩, rfl, fun _ => by decide +kernel, fun _ => by decide +kernel⟩, HG.out⟩
      · have b0 : ((l.length : Int) == 0) = false := by have := List.length_pos_iff.2 hl0; simp; omega
        have HT := textOf_ok HOK.out hl0 hl1
        have HT' : Hid ((any = true → termOK (textOf l) = true) ∧ (any = false → nameOK (textOf l) = true)) := HT
        rcases HROW.out.2 with ⟨_, h0⟩ | ⟨g, cap, cur, rfl, hge, hgb, _⟩
        · exact absurd (List.eq_nil_of_length_eq_zero h0) hl0
        · have hcs := World.ownsRow.cells HROW.out rfl
          have hconv : (convert 64 9 (.slice (some ⟨g, 0, none⟩) l.length cap)).run Tryd.prog wr = .ok (.string (textOf l)) wr := by
            have := run_convert_bytes_back (P := Tryd.prog) wr 64 9 5 ⟨g, 0, none⟩ cap (l.map UInt8.ofNat) Tryd.underlying64 Tryd.underlying5 Tryd.underlying9 (fun j hj => by
              have hj' : j < l.length := by simpa using hj
              refine hcs j _ ?_
              have h256 := HOK.out.2.2 l[j] (List.getElem_mem hj')
              simp [hj', Nat.mod_eq_of_lt h256])
            rw [List.length_map] at this
            exact this
          clear hl0 hcs hgb HT
          generalize textOf l = t at *
          by_cases h1 : l.length < s.size
          · have d1 : decide ((l.length : Int) < 16) = false := decide_eq_false (by omega)
            go_wp2_with fail
            go_ret
            exact ⟨⟨t, rfl, HT'.out⟩, HG.out⟩
          · go_wp2_with fail
            go_ret
            exact ⟨⟨t, rfl, HT'.out⟩, HG.out⟩

end Go.Proofs.YtpjckjggmcijjabDoor
