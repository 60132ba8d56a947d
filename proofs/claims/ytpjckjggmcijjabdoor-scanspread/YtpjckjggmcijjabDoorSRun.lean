/-
  Texts as rows of bytes; with how many bytes of a kind a text begins; with how many bytes two begin alike.
-/
import Derived.Test.YtpjckjggmcijjabDoorSLeaf
namespace Go.Proofs.YtpjckjggmcijjabDoor
open Go.RowKit

attribute [local go_sem] Oper.semAt_some

def bs (s : ByteArray) : List Nat := s.data.toList.map (·.toNat)
theorem bs_length (s : ByteArray) : (bs s).length = s.size := by simp [bs]
def chr (s : ByteArray) (i : Nat) : Nat := (bs s).getD i 0
theorem chr_lt (s : ByteArray) (i : Nat) : chr s i < 256 := by
  unfold chr
  by_cases h : i < (bs s).length
  · have : (bs s).getD i 0 = (bs s)[i] := by simp [List.getD, h]
    rw [this]
    have : (bs s)[i] ∈ bs s := List.getElem_mem h
    obtain ⟨x, _, e⟩ := List.mem_map.1 this
    rw [← e]
    exact UInt8.toNat_lt x
  · have : (bs s).getD i 0 = 0 := by simp [List.getD, Nat.le_of_not_lt h]
    omega
theorem chr_at (s : ByteArray) (i : Nat) (h : i < s.size) : (s[i]'h).toNat = chr s i := by
  have h' : i < s.data.toList.length := by simpa using h
  unfold chr bs
  rw [List.getD, List.getElem?_map, List.getElem?_eq_getElem h']
  rfl
theorem index_at (s : ByteArray) (i : Nat) (h : i < s.size) (w : World) : (Instr.index 9 (.string s) (.int .i64 i)).run Tryd.prog w = .ok (.int .u8 (chr s i)) w := by
  rw [run_index_string w 9 s .i64 i Tryd.underlying9, dif_pos ⟨by omega, by omega⟩]
  congr 3
  exact chr_at s i h
theorem bytes_ext {x s : ByteArray} (h : x.data.toList = s.data.toList) : x = s := by
  cases x; cases s; congr 1; exact Array.ext' h
theorem bs_inj {x y : ByteArray} (h : bs x = bs y) : x = y := by
  apply bytes_ext
  unfold bs at h
  exact (List.map_inj_right (fun a b e => UInt8.toNat_inj.1 e)).1 h
theorem bytes_toList (s t : ByteArray) : (s.toList = t.toList) ↔ s = t := by
  rw [ByteArray.toList_eq, ByteArray.toList_eq]
  exact ⟨bytes_ext, fun h => by rw [h]⟩
theorem bs_extract (s : ByteArray) (i j : Nat) : bs (s.extract i j) = ((bs s).take j).drop i := by
  unfold bs
  rw [ByteArray.data_extract, Array.toList_extract, List.map_take, List.map_drop]
  simp [List.drop_take]

/-- With how many bytes of a kind a row begins. -/
def runL (p : Nat → Bool) (l : List Nat) : Nat := (l.takeWhile p).length
theorem runL_le (p : Nat → Bool) (l : List Nat) : runL p l ≤ l.length := (List.takeWhile_sublist p).length_le
theorem runL_cons (p : Nat → Bool) (c : Nat) (l : List Nat) : runL p (c :: l) = if p c then runL p l + 1 else 0 := by
  unfold runL
  rw [List.takeWhile_cons]
  split <;> simp
theorem runL_nil (p : Nat → Bool) : runL p [] = 0 := rfl
theorem runL_eq (p : Nat → Bool) : ∀ (l : List Nat) (k : Nat), k ≤ l.length → (∀ j, j < k → p (l.getD j 0) = true) → (k = l.length ∨ p (l.getD k 0) = false) → runL p l = k
  | [], k, h1, _, _ => by simp at h1; rw [h1]; rfl
  | c :: l, 0, _, _, h3 => by
    rw [runL_cons]
    rcases h3 with h | h
    · simp at h
    · rw [if_neg (by simpa using h)]
  | c :: l, k + 1, h1, h2, h3 => by
    rw [runL_cons, if_pos (by simpa using h2 0 (by omega)), runL_eq p l k (by simpa using h1) (fun j hj => by simpa using h2 (j + 1) (by omega)) (by simpa using h3)]
theorem runL_all (p : Nat → Bool) : ∀ (l : List Nat) (j : Nat), j < runL p l → p (l.getD j 0) = true
  | [], j, h => by simp [runL] at h
  | c :: l, j, h => by
    rw [runL_cons] at h
    split at h
    · next hc =>
      cases j with
      | zero => simpa using hc
      | succ j => simpa using runL_all p l j (by omega)
    · omega
theorem runL_stop (p : Nat → Bool) : ∀ (l : List Nat), runL p l < l.length → p (l.getD (runL p l) 0) = false
  | [], h => by simp [runL] at h
  | c :: l, h => by
    rw [runL_cons] at h ⊢
    split at h
    · next hc =>
      rw [if_pos hc]
      simpa using runL_stop p l (by simpa using h)
    · next hc =>
      rw [if_neg hc]
      simpa using hc

set_option maxRecDepth 100000 in
theorem run_blank (s : ByteArray) (w : World) (hs : s.size ≤ 10000) : Calls Tryd.prog 35 #[.string s, .func (.func 39) #[] #[]] w fun e w' => e = .returned (.int .i64 (runL blankB (bs s))) ∧ w' = w := by
  have hl := bs_length s
  obtain ⟨r, hr⟩ : ∃ r, r = runL blankB (bs s) := ⟨_, rfl⟩
  have HR : Hid (∀ k, k ≤ s.size → (∀ j, j < k → blankB (chr s j) = true) → (k = s.size ∨ blankB (chr s k) = false) → r = k) := fun k h1 h2 h3 => by
    rw [hr]
    exact runL_eq blankB (bs s) k (by omega) h2 (by rw [hl]; exact h3)
  rw [← hr]
  clear hr hl
  go_enter Tryd.func35, Tryd.ntmps35
  go_wp2_with fail
  go_loopw [5] (fun i wr => ∃ k : Nat, k ≤ s.size ∧ i = .int .i64 k ∧ wr = w ∧ ∀ j, j < k → blankB (chr s j) = true) (fun i _ => s.size - (intOf i).toNat)
  case atStart => exact ⟨0, Nat.zero_le _, rfl, rfl, fun j hj => by omega⟩
  case round =>
    obtain ⟨k, hk, rfl, rfl, hall⟩ := hrel
    have HA : Hid (∀ j, j < k → blankB (chr s j) = true) := hall
    clear hall
    by_cases hlt : k < s.size
    · have hix := fun w => index_at s k hlt w
      have hP := isBlank_any (chr s k) wr
      have HK : Hid (blankB (chr s k) = true → ∀ j, j < k + 1 → blankB (chr s j) = true) := fun h j hj => by
        by_cases e : j = k
        · rw [e]; exact h
        · exact HA.out j (by omega)
      have HF : Hid (blankB (chr s k) = false → r = k) := fun h => HR.out k hk HA.out (.inr h)
      have hd : decide ((k : Int) < s.size) = true := decide_eq_true (by omega)
      generalize chr s k = c at *
      cases hb : blankB c with
      | true =>
        rw [hb] at hP
        have HK2 : Hid (∀ j, j < k + 1 → blankB (chr s j) = true) := HK.out hb
        clear HK HF hb
        go_wp2_with fail
        refine hP.mono ?_
        rintro e w' ⟨rfl, rfl⟩
        go_wp2_with fail
        go_roundw
        case rel => exact ⟨k + 1, by omega, by go_num, trivial, HK2.out⟩
        case measure => simp [intOf]; omega
      | false =>
        rw [hb] at hP
        have hrk := HF.out hb
        clear HK HF hb
        go_wp2_with fail
        refine hP.mono ?_
        rintro e w' ⟨rfl, rfl⟩
        go_wp2_with fail
        go_ret
        exact ⟨by rw [hrk]; rfl, rfl⟩
    · have hrk := HR.out k hk HA.out (.inl (by omega))
      have hd : decide ((k : Int) < s.size) = false := decide_eq_false (by omega)
      go_wp2_with fail
      go_ret
      exact ⟨by rw [hrk]; rfl, rfl⟩

set_option maxRecDepth 100000 in
theorem run_inLine (s : ByteArray) (w : World) (hs : s.size ≤ 10000) : Calls Tryd.prog 35 #[.string s, .func (.func 42) #[] #[]] w fun e w' => e = .returned (.int .i64 (runL inLineB (bs s))) ∧ w' = w := by
  have hl := bs_length s
  obtain ⟨r, hr⟩ : ∃ r, r = runL inLineB (bs s) := ⟨_, rfl⟩
  have HR : Hid (∀ k, k ≤ s.size → (∀ j, j < k → inLineB (chr s j) = true) → (k = s.size ∨ inLineB (chr s k) = false) → r = k) := fun k h1 h2 h3 => by
    rw [hr]
    exact runL_eq inLineB (bs s) k (by omega) h2 (by rw [hl]; exact h3)
  rw [← hr]
  clear hr hl
  go_enter Tryd.func35, Tryd.ntmps35
  go_wp2_with fail
  go_loopw [5] (fun i wr => ∃ k : Nat, k ≤ s.size ∧ i = .int .i64 k ∧ wr = w ∧ ∀ j, j < k → inLineB (chr s j) = true) (fun i _ => s.size - (intOf i).toNat)
  case atStart => exact ⟨0, Nat.zero_le _, rfl, rfl, fun j hj => by omega⟩
  case round =>
    obtain ⟨k, hk, rfl, rfl, hall⟩ := hrel
    have HA : Hid (∀ j, j < k → inLineB (chr s j) = true) := hall
    clear hall
    by_cases hlt : k < s.size
    · have hix := fun w => index_at s k hlt w
      have hP := isInLine_any (chr s k) wr
      have HK : Hid (inLineB (chr s k) = true → ∀ j, j < k + 1 → inLineB (chr s j) = true) := fun h j hj => by
        by_cases e : j = k
        · rw [e]; exact h
        · exact HA.out j (by omega)
      have HF : Hid (inLineB (chr s k) = false → r = k) := fun h => HR.out k hk HA.out (.inr h)
      have hd : decide ((k : Int) < s.size) = true := decide_eq_true (by omega)
      generalize chr s k = c at *
      cases hb : inLineB c with
      | true =>
        rw [hb] at hP
        have HK2 : Hid (∀ j, j < k + 1 → inLineB (chr s j) = true) := HK.out hb
        clear HK HF hb
        go_wp2_with fail
        refine hP.mono ?_
        rintro e w' ⟨rfl, rfl⟩
        go_wp2_with fail
        go_roundw
        case rel => exact ⟨k + 1, by omega, by go_num, trivial, HK2.out⟩
        case measure => simp [intOf]; omega
      | false =>
        rw [hb] at hP
        have hrk := HF.out hb
        clear HK HF hb
        go_wp2_with fail
        refine hP.mono ?_
        rintro e w' ⟨rfl, rfl⟩
        go_wp2_with fail
        go_ret
        exact ⟨by rw [hrk]; rfl, rfl⟩
    · have hrk := HR.out k hk HA.out (.inl (by omega))
      have hd : decide ((k : Int) < s.size) = false := decide_eq_false (by omega)
      go_wp2_with fail
      go_ret
      exact ⟨by rw [hrk]; rfl, rfl⟩

set_option maxRecDepth 100000 in
theorem run_inner (s : ByteArray) (w : World) (hs : s.size ≤ 10000) : Calls Tryd.prog 35 #[.string s, .func (.func 26) #[] #[]] w fun e w' => e = .returned (.int .i64 (runL innerB (bs s))) ∧ w' = w := by
  have hl := bs_length s
  obtain ⟨r, hr⟩ : ∃ r, r = runL innerB (bs s) := ⟨_, rfl⟩
  have HR : Hid (∀ k, k ≤ s.size → (∀ j, j < k → innerB (chr s j) = true) → (k = s.size ∨ innerB (chr s k) = false) → r = k) := fun k h1 h2 h3 => by
    rw [hr]
    exact runL_eq innerB (bs s) k (by omega) h2 (by rw [hl]; exact h3)
  rw [← hr]
  clear hr hl
  go_enter Tryd.func35, Tryd.ntmps35
  go_wp2_with fail
  go_loopw [5] (fun i wr => ∃ k : Nat, k ≤ s.size ∧ i = .int .i64 k ∧ wr = w ∧ ∀ j, j < k → innerB (chr s j) = true) (fun i _ => s.size - (intOf i).toNat)
  case atStart => exact ⟨0, Nat.zero_le _, rfl, rfl, fun j hj => by omega⟩
  case round =>
    obtain ⟨k, hk, rfl, rfl, hall⟩ := hrel
    have HA : Hid (∀ j, j < k → innerB (chr s j) = true) := hall
    clear hall
    by_cases hlt : k < s.size
    · have hix := fun w => index_at s k hlt w
      have hP := isNameByte_any (chr s k) wr
      have HK : Hid (innerB (chr s k) = true → ∀ j, j < k + 1 → innerB (chr s j) = true) := fun h j hj => by
        by_cases e : j = k
        · rw [e]; exact h
        · exact HA.out j (by omega)
      have HF : Hid (innerB (chr s k) = false → r = k) := fun h => HR.out k hk HA.out (.inr h)
      have hd : decide ((k : Int) < s.size) = true := decide_eq_true (by omega)
      generalize chr s k = c at *
      cases hb : innerB c with
      | true =>
        rw [hb] at hP
        have HK2 : Hid (∀ j, j < k + 1 → innerB (chr s j) = true) := HK.out hb
        clear HK HF hb
        go_wp2_with fail
        refine hP.mono ?_
        rintro e w' ⟨rfl, rfl⟩
        go_wp2_with fail
        go_roundw
        case rel => exact ⟨k + 1, by omega, by go_num, trivial, HK2.out⟩
        case measure => simp [intOf]; omega
      | false =>
        rw [hb] at hP
        have hrk := HF.out hb
        clear HK HF hb
        go_wp2_with fail
        refine hP.mono ?_
        rintro e w' ⟨rfl, rfl⟩
        go_wp2_with fail
        go_ret
        exact ⟨by rw [hrk]; rfl, rfl⟩
    · have hrk := HR.out k hk HA.out (.inl (by omega))
      have hd : decide ((k : Int) < s.size) = false := decide_eq_false (by omega)
      go_wp2_with fail
      go_ret
      exact ⟨by rw [hrk]; rfl, rfl⟩

set_option maxRecDepth 100000 in
theorem run_term (s : ByteArray) (w : World) (hs : s.size ≤ 10000) : Calls Tryd.prog 35 #[.string s, .func (.func 27) #[] #[]] w fun e w' => e = .returned (.int .i64 (runL termB (bs s))) ∧ w' = w := by
  have hl := bs_length s
  obtain ⟨r, hr⟩ : ∃ r, r = runL termB (bs s) := ⟨_, rfl⟩
  have HR : Hid (∀ k, k ≤ s.size → (∀ j, j < k → termB (chr s j) = true) → (k = s.size ∨ termB (chr s k) = false) → r = k) := fun k h1 h2 h3 => by
    rw [hr]
    exact runL_eq termB (bs s) k (by omega) h2 (by rw [hl]; exact h3)
  rw [← hr]
  clear hr hl
  go_enter Tryd.func35, Tryd.ntmps35
  go_wp2_with fail
  go_loopw [5] (fun i wr => ∃ k : Nat, k ≤ s.size ∧ i = .int .i64 k ∧ wr = w ∧ ∀ j, j < k → termB (chr s j) = true) (fun i _ => s.size - (intOf i).toNat)
  case atStart => exact ⟨0, Nat.zero_le _, rfl, rfl, fun j hj => by omega⟩
  case round =>
    obtain ⟨k, hk, rfl, rfl, hall⟩ := hrel
    have HA : Hid (∀ j, j < k → termB (chr s j) = true) := hall
    clear hall
    by_cases hlt : k < s.size
    · have hix := fun w => index_at s k hlt w
      have hP := isTermByte_any (chr s k) wr
      have HK : Hid (termB (chr s k) = true → ∀ j, j < k + 1 → termB (chr s j) = true) := fun h j hj => by
        by_cases e : j = k
        · rw [e]; exact h
        · exact HA.out j (by omega)
      have HF : Hid (termB (chr s k) = false → r = k) := fun h => HR.out k hk HA.out (.inr h)
      have hd : decide ((k : Int) < s.size) = true := decide_eq_true (by omega)
      generalize chr s k = c at *
      cases hb : termB c with
      | true =>
        rw [hb] at hP
        have HK2 : Hid (∀ j, j < k + 1 → termB (chr s j) = true) := HK.out hb
        clear HK HF hb
        go_wp2_with fail
        refine hP.mono ?_
        rintro e w' ⟨rfl, rfl⟩
        go_wp2_with fail
        go_roundw
        case rel => exact ⟨k + 1, by omega, by go_num, trivial, HK2.out⟩
        case measure => simp [intOf]; omega
      | false =>
        rw [hb] at hP
        have hrk := HF.out hb
        clear HK HF hb
        go_wp2_with fail
        refine hP.mono ?_
        rintro e w' ⟨rfl, rfl⟩
        go_wp2_with fail
        go_ret
        exact ⟨by rw [hrk]; rfl, rfl⟩
    · have hrk := HR.out k hk HA.out (.inl (by omega))
      have hd : decide ((k : Int) < s.size) = false := decide_eq_false (by omega)
      go_wp2_with fail
      go_ret
      exact ⟨by rw [hrk]; rfl, rfl⟩

/-- With how many bytes two rows begin alike. -/
def comL : List Nat → List Nat → Nat
  | a :: l, b :: m => if a = b then comL l m + 1 else 0
  | _, _ => 0
theorem comL_eq : ∀ (l m : List Nat) (k : Nat), k ≤ l.length → k ≤ m.length → (∀ j, j < k → l.getD j 0 = m.getD j 0) → (k = l.length ∨ k = m.length ∨ l.getD k 0 ≠ m.getD k 0) → comL l m = k
  | [], m, k, h1, _, _, _ => by simp at h1; rw [h1]; cases m <;> rfl
  | a :: l, [], k, _, h1, _, _ => by simp at h1; rw [h1]; rfl
  | a :: l, b :: m, 0, _, _, _, h => by
    unfold comL
    rcases h with h | h | h
    · simp at h
    · simp at h
    · rw [if_neg (by simpa using h)]
  | a :: l, b :: m, k + 1, h1, h2, h3, h4 => by
    unfold comL
    have h0 := h3 0 (by omega)
    rw [if_pos (by simpa using h0), comL_eq l m k (by simpa using h1) (by simpa using h2) (fun j hj => by simpa using h3 (j + 1) (by omega)) (by simpa using h4)]

set_option maxRecDepth 100000 in
theorem common_any (s t : ByteArray) (w : World) (hs : s.size ≤ 10000) : Calls Tryd.prog 48 #[.string s, .string t] w fun e w' => e = .returned (.int .i64 (comL (bs s) (bs t))) ∧ ∃ q, w' = w.drewN q := by
  obtain ⟨r, hr⟩ : ∃ r, r = comL (bs s) (bs t) := ⟨_, rfl⟩
  have HR : Hid (∀ k, k ≤ s.size → k ≤ t.size → (∀ j, j < k → chr s j = chr t j) → (k = s.size ∨ k = t.size ∨ chr s k ≠ chr t k) → r = k) := fun k h1 h2 h3 h4 => by
    rw [hr]
    exact comL_eq (bs s) (bs t) k (by rw [bs_length]; exact h1) (by rw [bs_length]; exact h2) h3 (by rw [bs_length, bs_length]; exact h4)
  rw [← hr]
  clear hr
  go_enter Tryd.func48, Tryd.ntmps48
  go_wp2_with fail
  go_loopw [5] (fun i wr => ∃ k : Nat, k ≤ s.size ∧ k ≤ t.size ∧ i = .int .i64 k ∧ (∃ q, wr = w.drewN q) ∧ ∀ j, j < k → chr s j = chr t j) (fun i _ => s.size - (intOf i).toNat)
  case atStart => exact ⟨0, Nat.zero_le _, Nat.zero_le _, rfl, ⟨0, rfl⟩, fun j hj => by omega⟩
  case round =>
    obtain ⟨k, hk, hk2, rfl, ⟨q, rfl⟩, hall⟩ := hrel
    have HA : Hid (∀ j, j < k → chr s j = chr t j) := hall
    clear hall
    by_cases hlt : k < s.size
    · have hd : decide ((k : Int) < s.size) = true := decide_eq_true (by omega)
      by_cases hlt2 : k < t.size
      · have hd2 : decide ((k : Int) < t.size) = true := decide_eq_true (by omega)
        have hix := fun w => index_at s k hlt w
        have hiy := fun w => index_at t k hlt2 w
        have HK : Hid (chr s k = chr t k → ∀ j, j < k + 1 → chr s j = chr t j) := fun h j hj => by
          by_cases e : j = k
          · rw [e]; exact h
          · exact HA.out j (by omega)
        have HF : Hid (chr s k ≠ chr t k → r = k) := fun h => HR.out k hk hk2 HA.out (.inr (.inr h))
        generalize chr s k = x at *
        generalize chr t k = y at *
        by_cases hxy : x = y
        · have hd3 : ((x : Int) == (y : Int)) = true := by simp [hxy]
          have HK2 : Hid (∀ j, j < k + 1 → chr s j = chr t j) := HK.out hxy
          clear HK HF hxy
          go_wp2_with fail
          go_quiet (fail)
          go_wp2
          go_roundw
          case rel => exact ⟨k + 1, by omega, by omega, by go_num, ⟨_, rfl⟩, HK2.out⟩
          case measure => simp [intOf]; omega
        · have hd3 : ((x : Int) == (y : Int)) = false := by simp; omega
          have hrk := HF.out hxy
          clear HK HF hxy
          go_wp2_with fail
          go_quiet (fail)
          go_wp2
          go_ret
          exact ⟨by rw [hrk]; rfl, q + nq, by simp⟩
      · have hd2 : decide ((k : Int) < t.size) = false := decide_eq_false (by omega)
        have hrk := HR.out k hk hk2 HA.out (.inr (.inl (by omega)))
        go_wp2_with fail
        go_quiet (fail)
        go_wp2
        go_ret
        exact ⟨by rw [hrk]; rfl, q + nq, by simp⟩
    · have hrk := HR.out k hk hk2 HA.out (.inl (by omega))
      have hd : decide ((k : Int) < s.size) = false := decide_eq_false (by omega)
      go_wp2_with fail
      go_quiet (fail)
      go_wp2
      go_ret
      exact ⟨by rw [hrk]; rfl, q + nq, by simp⟩

end Go.Proofs.YtpjckjggmcijjabDoor
