/-
  Texts in plain words: digits, parts, the texts of Ips and Macs, and the way back. Nothing of the program.
-/
import Derived.Lib.IndexMore
import Derived.Lib.IndexBytes
import Derived.Lib.IndexLaws
import Derived.Lib.Join
import Derived.Lib.ParseIntB
import Derived.Lib.ItoaNum
import Derived.Laws.BitsAllLaws
import Derived.Test.YtemhahfodblehaaDoorBase
namespace Go.Proofs.YtemhahfodblehaaDoor
open Go.RowKit

/-- A number below 1000 in as few decimal digits as it takes. -/
def dec3 (n : Nat) : List UInt8 :=
  if 100 ≤ n then [UInt8.ofNat (48 + n / 100), UInt8.ofNat (48 + n / 10 % 10), UInt8.ofNat (48 + n % 10)]
  else if 10 ≤ n then [UInt8.ofNat (48 + n / 10), UInt8.ofNat (48 + n % 10)] else [UInt8.ofNat (48 + n)]
theorem dec3_eq {n : Nat} (h : n < 1000) : Lib.decDigits n = dec3 n := by
  unfold dec3
  split
  · rw [Lib.decDigits, dif_neg (by omega), Lib.decDigits, dif_neg (by omega), Lib.decDigits, dif_pos (by omega)]
    have e : n / 10 / 10 = n / 100 := by omega
    rw [e]
    simp
  · split
    · rw [Lib.decDigits, dif_neg (by omega), Lib.decDigits, dif_pos (by omega)]
      simp
    · rw [Lib.decDigits, dif_pos (by omega)]
/-- A byte in two hexadecimal digits. -/
def hexC (d : Nat) : UInt8 := if d < 10 then UInt8.ofNat (48 + d) else UInt8.ofNat (87 + d)
def hexL (b : Nat) : List UInt8 := [hexC (b / 16), hexC (b % 16)]

/-- What lies between the marks m. -/
def partsF (m : UInt8) : Nat → List UInt8 → List (List UInt8)
  | 0, _ => []
  | n + 1, l => (Lib.cut l [m]).1 :: (if (Lib.cut l [m]).2.2 then partsF m n (Lib.cut l [m]).2.1 else [])
def partsV (m : UInt8) (l : List UInt8) : List (List UInt8) := partsF m (l.length + 1) l

theorem index_none' {a : List UInt8} {m : UInt8} (h : m ∉ a) : Lib.index a [m] = -1 := by
  rw [Lib.index_one]
  rcases Int.lt_or_le (Lib.indexByte a m) 0 with h1 | h1
  · have := Lib.indexByte_ge a m
    omega
  · obtain ⟨o, ho⟩ := Int.eq_ofNat_of_zero_le h1
    have := (Lib.indexByte_some ho).1
    exact absurd (List.mem_of_getElem? this) h
theorem index_app {a r : List UInt8} {m : UInt8} (h : m ∉ a) : Lib.index (a ++ m :: r) [m] = a.length := by
  rw [Lib.index_one]
  have key : ∀ (k : Nat), k < a.length → (a ++ m :: r)[k]? ≠ some m := by
    intro k hk e
    rw [List.getElem?_append_left hk] at e
    exact h (List.mem_of_getElem? e)
  rcases Int.lt_or_le (Lib.indexByte (a ++ m :: r) m) 0 with h1 | h1
  · have h2 : Lib.indexByte (a ++ m :: r) m = -1 := by have := Lib.indexByte_ge (a ++ m :: r) m; omega
    exact absurd (by simp) (Lib.indexByte_none h2 a.length)
  · obtain ⟨o, ho⟩ := Int.eq_ofNat_of_zero_le h1
    obtain ⟨h3, h4⟩ := Lib.indexByte_some ho
    rw [ho]
    have h5 : ¬ o < a.length := fun hh => key o hh h3
    have h6 : ¬ a.length < o := fun hh => h4 a.length hh (by simp)
    omega
theorem cut_none {a : List UInt8} {m : UInt8} (h : m ∉ a) : Lib.cut a [m] = (a, [], false) := by
  unfold Lib.cut
  rw [index_none' h]
  simp
theorem cut_app {a r : List UInt8} {m : UInt8} (h : m ∉ a) : Lib.cut (a ++ m :: r) [m] = (a, r, true) := by
  unfold Lib.cut
  rw [index_app h]
  simp
theorem cut_rest {l : List UInt8} {m : UInt8} (h : (Lib.cut l [m]).2.2 = true) : (Lib.cut l [m]).2.1.length < l.length := by
  unfold Lib.cut at *
  split at h
  · rename_i h0
    have := Lib.index_room l [m] h0
    rw [if_pos h0]
    simp at this ⊢
    omega
  · cases h
theorem cut_fst {l : List UInt8} {m : UInt8} : (Lib.cut l [m]).1.length ≤ l.length := by
  unfold Lib.cut
  split
  · simp only [List.length_take]
    omega
  · simp
theorem partsF_app {m : UInt8} {n : Nat} {a r : List UInt8} (h : m ∉ a) : partsF m (n + 1) (a ++ m :: r) = a :: partsF m n r := by
  rw [partsF, cut_app h]
  simp
theorem partsF_one {m : UInt8} {n : Nat} {a : List UInt8} (h : m ∉ a) : partsF m (n + 1) a = [a] := by
  rw [partsF, cut_none h]
  simp

/-- An Ip's text. -/
def textL (n : Nat) : List UInt8 := dec3 (n / 16777216) ++ 46 :: (dec3 (n / 65536 % 256) ++ 46 :: (dec3 (n / 256 % 256) ++ 46 :: dec3 (n % 256)))
/-- A Mac's text. -/
def macL (a b c d e f : Nat) : List UInt8 := hexL a ++ 58 :: (hexL b ++ 58 :: (hexL c ++ 58 :: (hexL d ++ 58 :: (hexL e ++ 58 :: hexL f))))

theorem dec3_all : ∀ n, n < 256 → (46 : UInt8) ∉ dec3 n ∧ Lib.parseUintB 8 (dec3 n) = .ok n := by decide +kernel
theorem hexL_all : ∀ n, n < 256 → (58 : UInt8) ∉ hexL n := by decide +kernel
theorem dec3_len (n : Nat) : 1 ≤ (dec3 n).length ∧ (dec3 n).length ≤ 3 := by unfold dec3; split <;> (try split) <;> simp
theorem text_parts {n : Nat} (h : n < 4294967296) : partsV 46 (textL n) = [dec3 (n / 16777216), dec3 (n / 65536 % 256), dec3 (n / 256 % 256), dec3 (n % 256)] := by
  have h1 := (dec3_all (n / 16777216) (by omega)).1
  have h2 := (dec3_all (n / 65536 % 256) (by omega)).1
  have h3 := (dec3_all (n / 256 % 256) (by omega)).1
  have h4 := (dec3_all (n % 256) (by omega)).1
  unfold partsV
  obtain ⟨k, hk⟩ : ∃ k, (textL n).length + 1 = k + 4 := by
    refine ⟨(textL n).length - 3, ?_⟩
    unfold textL
    simp
    omega
  rw [hk]
  unfold textL
  rw [partsF_app h1, partsF_app h2, partsF_app h3, partsF_one h4]
theorem mac_parts {a b c d e f : Nat} (ha : a < 256) (hb : b < 256) (hc : c < 256) (hd : d < 256) (he : e < 256) (hf : f < 256) : partsV 58 (macL a b c d e f) = [hexL a, hexL b, hexL c, hexL d, hexL e, hexL f] := by
  unfold partsV
  have hk : (macL a b c d e f).length + 1 = 12 + 6 := by simp [macL, hexL]
  rw [hk]
  unfold macL
  rw [partsF_app (hexL_all a ha), partsF_app (hexL_all b hb), partsF_app (hexL_all c hc), partsF_app (hexL_all d hd), partsF_app (hexL_all e he), partsF_one (hexL_all f hf)]
theorem text_join (n : Nat) : Lib.join [dec3 (n / 16777216), dec3 (n / 65536 % 256), dec3 (n / 256 % 256), dec3 (n % 256)] [46] = textL n := by
  simp [Lib.join, List.intercalate, textL]
theorem mac_join (a b c d e f : Nat) : Lib.join [hexL a, hexL b, hexL c, hexL d, hexL e, hexL f] [58] = macL a b c d e f := by
  simp [Lib.join, List.intercalate, macL]

/-- The digit of a character in base 16, as the library has it. -/
def dig16 (c : Int) : Option Int :=
  if 48 ≤ c ∧ c ≤ 57 then some (c - 48) else if 97 ≤ bits .or .u8 c 32 ∧ bits .or .u8 c 32 ≤ 122 then (if bits .or .u8 c 32 - 87 < 16 then some (bits .or .u8 c 32 - 87) else none) else none
def p16 (acc : Int) : List UInt8 → Option Int
  | [] => some acc
  | c :: r => match dig16 c.toNat with
    | none => none
    | some d => if 255 < acc * 16 + d then none else p16 (acc * 16 + d) r
def parse16 (l : List UInt8) : Option Int := if l = [] then none else p16 0 l
theorem hex_parse : ∀ n, n < 256 → parse16 (hexL n) = some (n : Int) := by decide +kernel
end Go.Proofs.YtemhahfodblehaaDoor
