/-
  Macs and their texts, both ways, in plain words; the program's ParseMac, walked.
-/
import Derived.Test.YtemhahfodblehaaDoorParse2
import Derived.Test.YtemhahfodblehaaDoorHex16b
import Derived.Test.YtemhahfodblehaaDoorRMac
namespace Go.Proofs.YtemhahfodblehaaDoor
open Go.RowKit Go.Shelf
attribute [local go_sem] Oper.semAt_some

def IsMac (s : List UInt8) (ms : List Nat) : Prop := ms.length = 6 ∧ (∀ x ∈ ms, x < 256) ∧ macI ms 6 = s
theorem six {ms : List Nat} (h : ms.length = 6) : ∃ a b c d e f, ms = [a, b, c, d, e, f] := by
  match ms, h with
  | [a, b, c, d, e, f], _ => exact ⟨a, b, c, d, e, f, rfl⟩
theorem mac_map {s : List UInt8} {ms : List Nat} (h : IsMac s ms) : partsV 58 s = ms.map hexL := by
  obtain ⟨h1, h2, h3⟩ := h
  obtain ⟨a, b, c, d, e, f, rfl⟩ := six h1
  simp only [List.mem_cons, List.not_mem_nil, or_false, forall_eq_or_imp, forall_eq] at h2
  rw [← h3, macI_six, mac_parts h2.1 h2.2.1 h2.2.2.1 h2.2.2.2.1 h2.2.2.2.2.1 h2.2.2.2.2.2]
  rfl
theorem hexL_inj {a b : Nat} (ha : a < 256) (hb : b < 256) (h : hexL a = hexL b) : a = b := by
  have h1 := hex_parse a ha
  rw [h, hex_parse b hb] at h1
  simp at h1
  omega
theorem mac_uniq {s : List UInt8} {ms ms' : List Nat} (h : IsMac s ms) (h' : IsMac s ms') : ms = ms' := by
  have e := (mac_map h).symm.trans (mac_map h')
  have h1 := h.2.1
  have h2 := h'.2.1
  clear h h'
  induction ms generalizing ms' with
  | nil => cases ms' with
    | nil => rfl
    | cons b r => simp at e
  | cons a r ih => cases ms' with
    | nil => simp at e
    | cons b r' =>
      simp only [List.map_cons, List.cons.injEq] at e
      rw [hexL_inj (h1 a (by simp)) (h2 b (by simp)) e.1, ih e.2 (fun x hx => h1 x (by simp [hx])) (fun x hx => h2 x (by simp [hx]))]
theorem mac_at {s : List UInt8} {ms : List Nat} (h : IsMac s ms) {pre : List (List UInt8)} {x : List UInt8} (hp : pre ++ [x] <+: partsV 58 s) : pre.length < 6 ∧ ms.getD pre.length 0 < 256 ∧ x = hexL (ms.getD pre.length 0) := by
  rw [mac_map h] at hp
  have hl := hp.length_le
  have hx := hp.getElem (i := pre.length) (by simp)
  simp [h.1] at hl hx
  have hlt : pre.length < ms.length := by rw [h.1]; omega
  have e : ms.getD pre.length 0 = ms[pre.length] := by simp [List.getD, List.getElem?_eq_getElem hlt]
  exact ⟨by omega, by rw [e]; exact h.2.1 _ (List.getElem_mem _), by rw [e]; exact hx⟩
open Classical in
noncomputable def macP (s : List UInt8) : List Nat × Int := if h : ∃ ms, IsMac s ms then (h.choose, 0) else ([0, 0, 0, 0, 0, 0], 10)
theorem macP_none {s : List UInt8} (h : ¬ ∃ ms, IsMac s ms) : macP s = ([0, 0, 0, 0, 0, 0], 10) := by unfold macP; rw [dif_neg h]
theorem macP_some {s : List UInt8} {ms : List Nat} (h : IsMac s ms) : macP s = (ms, 0) := by
  have hex : ∃ ms, IsMac s ms := ⟨ms, h⟩
  unfold macP
  rw [dif_pos hex, mac_uniq hex.choose_spec h]
theorem macP_six (s : List UInt8) : (macP s).1.length = 6 ∧ ∀ x ∈ (macP s).1, x < 256 := by
  by_cases h : ∃ ms, IsMac s ms
  · obtain ⟨ms, h⟩ := h
    rw [macP_some h]
    exact ⟨h.1, h.2.1⟩
  · rw [macP_none h]
    simp
/-- Cells and value of a Mac. -/
def macC (ms : List Nat) : Array Value := (ms.map fun (x : Nat) => Value.int .u8 (x : Int)).toArray
/-- What is filled in so far. -/
def Fill (s : List UInt8) (k : Nat) (ys : List Nat) : Prop := ys.length = 6 ∧ (∀ y ∈ ys, y < 256) ∧ ∀ ms, IsMac s ms → ∀ i, i < k → ys.getD i 0 = ms.getD i 0
theorem Fill.step {s : List UInt8} {pre : List (List UInt8)} {x : List UInt8} {ys : List Nat} {u : Nat} (h : Fill s pre.length ys) (hp : pre ++ [x] <+: partsV 58 s) (hk : pre.length < 6) (hu : parse16 x = some (u : Int)) (hb : u < 256) : Fill s (pre ++ [x]).length (ys.set pre.length u) := by
  refine ⟨by simp [h.1], fun y hy => ?_, fun ms hm i hi => ?_⟩
  · rcases List.mem_or_eq_of_mem_set hy with hy | rfl
    · exact h.2.1 y hy
    · exact hb
  · simp at hi
    obtain ⟨_, h2, h3⟩ := mac_at hm hp
    by_cases he : i = pre.length
    · subst he
      rw [h3, hex_parse _ h2] at hu
      have : pre.length < ys.length := by rw [h.1]; exact hk
      simp [List.getD, this] at hu ⊢
      omega
    · rw [← h.2.2 ms hm i (by omega)]
      simp only [List.getD, List.getElem?_set_ne (Ne.symm he)]
theorem mac_bad {s : List UInt8} {pre : List (List UInt8)} {x : List UInt8} (hp : pre ++ [x] <+: partsV 58 s) (hu : parse16 x = none ∨ 6 ≤ pre.length) : ¬ ∃ ms, IsMac s ms := by
  rintro ⟨ms, h⟩
  obtain ⟨h1, h2, h3⟩ := mac_at h hp
  rcases hu with hu | hu
  · rw [h3, hex_parse _ h2] at hu
    cases hu
  · omega
theorem Fill.last {s : List UInt8} {ys : List Nat} (h : Fill s (partsV 58 s).length ys) (hne : macI ys 6 ≠ s) : ¬ ∃ ms, IsMac s ms := by
  rintro ⟨ms, hm⟩
  have hl : (partsV 58 s).length = 6 := by rw [mac_map hm]; simpa using hm.1
  rw [hl] at h
  have e : ys = ms := by
    apply List.ext_getElem?
    intro i
    by_cases hi : i < 6
    · have := h.2.2 ms hm i hi
      have h1 : i < ys.length := by rw [h.1]; exact hi
      have h2 : i < ms.length := by rw [hm.1]; exact hi
      simp only [List.getD, List.getElem?_eq_getElem h1, List.getElem?_eq_getElem h2, Option.getD_some] at this ⊢
      rw [this]
    · rw [List.getElem?_eq_none (by rw [h.1]; omega), List.getElem?_eq_none (by rw [hm.1]; omega)]
  rw [e] at hne
  exact hne hm.2.2
end Go.Proofs.YtemhahfodblehaaDoor
