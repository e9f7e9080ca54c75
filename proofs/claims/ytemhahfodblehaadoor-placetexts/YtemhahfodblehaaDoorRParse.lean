/-
  The contract of Parse (the document's).
-/
import Derived.Test.YtemhahfodblehaaDoorParse2
import Derived.Test.YtemhahfodblehaaDoorRText
namespace Go.Proofs.YtemhahfodblehaaDoor
open Go.RowKit

/-- One character, as the document reads it. -/
def stP (a : Int × Int) (c : UInt8) : Int × Int := if c = 46 then ((a.1 * 256 % 4294967296 + a.2) % 4294967296, 0) else (a.1, (a.2 * 10 % 4294967296 + ((c.toNat : Int) - 48)) % 4294967296)
def digs (p : Int) (l : List UInt8) : Int := l.foldl (fun p c => (p * 10 % 4294967296 + ((c.toNat : Int) - 48)) % 4294967296) p
theorem fold_digs : ∀ (l : List UInt8) (n p : Int), (46 : UInt8) ∉ l → l.foldl stP (n, p) = (n, digs p l)
  | [], _, _, _ => rfl
  | c :: r, n, p, h => by
    have hc : c ≠ 46 := fun e => h (by simp [e])
    rw [List.foldl_cons, stP, if_neg hc, fold_digs r _ _ (fun e => h (by simp [e]))]
    rfl
theorem digs_dec : ∀ n, n < 256 → digs 0 (dec3 n) = n := by decide +kernel
theorem dec3_chars : ∀ n, n < 256 → ∀ c ∈ dec3 n, 48 ≤ c.toNat ∧ c.toNat ≤ 57 := by decide +kernel
theorem fold_app (n : Int) (b : Nat) (hb : b < 256) (r : List UInt8) : (dec3 b ++ 46 :: r).foldl stP (n, 0) = r.foldl stP ((n * 256 % 4294967296 + b) % 4294967296, 0) := by
  rw [List.foldl_append, fold_digs _ _ _ (dec3_all b hb).1, digs_dec b hb, List.foldl_cons]
  rfl
theorem fold_text {n : Nat} (hn : n < 4294967296) : (textL n).foldl stP (0, 0) = (((n / 256 : Nat) : Int), ((n % 256 : Nat) : Int)) := by
  unfold textL
  rw [fold_app _ _ (by omega), fold_app _ _ (by omega), fold_app _ _ (by omega), fold_digs _ _ _ (dec3_all _ (by omega)).1, digs_dec _ (by omega)]
  congr 1
  omega
theorem text_chars {n : Nat} (hn : n < 4294967296) : ∀ c ∈ textL n, c = 46 ∨ (48 ≤ c.toNat ∧ c.toNat ≤ 57) := by
  intro c hc
  simp only [textL, List.mem_append, List.mem_cons] at hc
  rcases hc with h | h | h | h | h | h | h
  · exact .inr (dec3_chars _ (by omega) c h)
  · exact .inl h
  · exact .inr (dec3_chars _ (by omega) c h)
  · exact .inl h
  · exact .inr (dec3_chars _ (by omega) c h)
  · exact .inl h
  · exact .inr (dec3_chars _ (by omega) c h)
theorem text_short (n : Nat) : (textL n).length ≤ 15 := by
  have h1 := (dec3_len (n / 16777216)).2
  have h2 := (dec3_len (n / 65536 % 256)).2
  have h3 := (dec3_len (n / 256 % 256)).2
  have h4 := (dec3_len (n % 256)).2
  simp [textL]
  omega
theorem run_char (W : World) (s : List UInt8) (k : Nat) (hk : k < s.length) : (Instr.index 9 (strV s) (.int .i64 (k : Int))).run Tryd.prog W = .ok (.int .u8 ((s[k]'hk).toNat : Int)) W := by
  rw [run_index_string W 9 _ .i64 k Tryd.underlying9, dif_pos ⟨by omega, by show (k : Int) < ((s.toArray.size : Nat) : Int); simp; omega⟩]
  simp only [Int.toNat_natCast]
  rfl
theorem stP_dot {n p : Int} {c : UInt8} (h : ((c.toNat : Int) == 46) = true) : stP (n, p) c = ((n * 256 % 4294967296 + p) % 4294967296, 0) := by
  have : c = 46 := UInt8.toNat_inj.1 (by simp at h; show c.toNat = 46; omega)
  rw [stP, if_pos this]
theorem stP_dig {n p : Int} {c : UInt8} (h : ((c.toNat : Int) == 46) = false) : stP (n, p) c = (n, (p * 10 % 4294967296 + ((c.toNat : Int) - 48)) % 4294967296) := by
  have : c ≠ 46 := fun e => by rw [e] at h; simp at h
  rw [stP, if_neg this]
theorem char_bad {s : List UInt8} {c : UInt8} (hm : c ∈ s) (h : ((c.toNat : Int) == 46) = false) (hd : ¬ (48 ≤ (c.toNat : Int) ∧ (c.toNat : Int) ≤ 57)) : parseV s = (0, 10) := by
  apply parse_none
  rintro ⟨n, hn, rfl⟩
  rcases text_chars hn c hm with e | e
  · rw [e] at h; simp at h
  · omega
/-- What stands at the end. -/
theorem end_bad {s : List UInt8} {k : Nat} {n p : Int} (hk : k = s.length ∨ k = 15) (h : (s.take k).foldl stP (0, 0) = (n, p)) (q : Nat) (hq : (n * 256 + p) % 4294967296 = q) (hne : textL q ≠ s) : parseV s = (0, 10) := by
  apply parse_none
  rintro ⟨m, hm, rfl⟩
  have hl := text_short m
  have e : (textL m).take k = textL m := List.take_of_length_le (by omega)
  rw [e, fold_text hm] at h
  injection h with h1 h2
  have : q = m := by omega
  rw [this] at hne
  exact hne rfl
set_option maxRecDepth 100000 in
set_option maxHeartbeats 1000000 in
theorem refParse_any (s : List UInt8) (hs : s.length ≤ 1000) (w : World) : Calls Tryd.prog 26 #[strV s] w fun e w' => e = .returned (.tuple #[.int .u32 (parseV s).1, .int .i64 (parseV s).2]) ∧ Below w.heap.size w w' := by
  have hsz : ((⟨s.toArray⟩ : ByteArray).size : Int) = s.length := by show ((s.toArray.size : Nat) : Int) = _; simp
  go_enter Tryd.func26, Tryd.ntmps26
  go_wp2
  go_loop [4, 5, 6] (fun vn vp vi => ∃ (k : Nat) (n p : Int), vn = .int .u32 n ∧ vp = .int .u32 p ∧ vi = .int .i64 k ∧ k ≤ s.length ∧ k ≤ 15 ∧ (W32 n ∧ W32 p) ∧ Hid ((s.take k).foldl stP (0, 0) = (n, p))) (fun _ _ vi => 15 - (intOf vi).toNat)
  case atStart => exact ⟨0, 0, 0, rfl, rfl, rfl, by omega, by omega, by unfold W32; omega, Lib.hid rfl⟩
  case round =>
    obtain ⟨k, n, p, rfl, rfl, rfl, hk, hk15, hw, hh⟩ := hrel
    unfold W32 at hw
    by_cases hlt : k < s.length ∧ k < 15
    · obtain ⟨h1, h2⟩ := hlt
      have hch := fun W => run_char W s k h1
      have htk : s.take (k + 1) = s.take k ++ [s[k]'h1] := List.take_succ_eq_append_getElem h1
      have hmem : s[k]'h1 ∈ s := List.getElem_mem _
      generalize s[k]'h1 = c at hch htk hmem
      have HH : Hid ((s.take (k + 1)).foldl stP (0, 0) = stP (n, p) c) := Lib.hid (by rw [htk, List.foldl_append, hh.out]; rfl)
      have hc256 : c.toNat < 256 := c.toNat_lt
      clear htk
      go_wp2
      all_goals first
        | (go_ret2
           have hps := char_bad hmem (by assumption) (by omega)
           exact ⟨by rw [hps] <;> rfl, Below.refl _ _⟩)
        | exact ⟨⟨k + 1, _, _, rfl, rfl, (by first | rfl | (congr 1; omega)), by omega, by omega, by unfold W32; omega, Lib.hid (HH.out.trans (stP_dot (by assumption)))⟩, by simp [intOf]; omega⟩
        | exact ⟨⟨k + 1, _, _, rfl, rfl, (by first | rfl | (congr 1; omega)), by omega, by omega, by unfold W32; omega, Lib.hid (HH.out.trans (stP_dig (by assumption)))⟩, by simp [intOf]; omega⟩
        | go_show
    · by_cases h1 : k < s.length
      · obtain ⟨q, hq⟩ : ∃ q : Nat, (n * 256 + p) % 4294967296 = q := Int.eq_ofNat_of_zero_le (by omega)
        have hq32 : q < 4294967296 := by omega
        have hb := fun hne => end_bad (s := s) (.inr (by omega)) hh.out q hq hne
        have hc := refText_any q hq32 w
        go_wp2_with fail
        (try simp only [hq])
        with_reducible refine hc.mono ?_
        rintro e w2 ⟨rfl, hb2⟩
        by_cases htx : textL q = s
        · have hps := parse_some (s := s) (n := q) ⟨hq32, htx⟩
          have hse := str_eq s
          rw [htx]
          clear htx
          go_wp2
          go_ret2
          exact ⟨by rw [hps] <;> rfl, hb2⟩
        · have hps := hb htx
          have hsn : (textL q == s) = false := by simpa using htx
          go_wp2
          go_ret2
          exact ⟨by rw [hps] <;> rfl, hb2⟩
      · obtain ⟨q, hq⟩ : ∃ q : Nat, (n * 256 + p) % 4294967296 = q := Int.eq_ofNat_of_zero_le (by omega)
        have hq32 : q < 4294967296 := by omega
        have hb := fun hne => end_bad (s := s) (.inl (by omega)) hh.out q hq hne
        have hc := refText_any q hq32 w
        go_wp2_with fail
        (try simp only [hq])
        with_reducible refine hc.mono ?_
        rintro e w2 ⟨rfl, hb2⟩
        by_cases htx : textL q = s
        · have hps := parse_some (s := s) (n := q) ⟨hq32, htx⟩
          have hse := str_eq s
          rw [htx]
          clear htx
          go_wp2
          go_ret2
          exact ⟨by rw [hps] <;> rfl, hb2⟩
        · have hps := hb htx
          have hsn : (textL q == s) = false := by simpa using htx
          go_wp2
          go_ret2
          exact ⟨by rw [hps] <;> rfl, hb2⟩
end Go.Proofs.YtemhahfodblehaaDoor
