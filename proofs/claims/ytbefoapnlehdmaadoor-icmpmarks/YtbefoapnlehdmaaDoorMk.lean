/-
  Messages as plain numbers, and as values; messages compared; what bytes are as a message, in plain words.
-/
import Derived.Test.YtbefoapnlehdmaaDoorPl
import Derived.Test.YtbefoapnlehdmaaDoorReadE
import Derived.Test.YtbefoapnlehdmaaDoorSTotal
import Derived.Test.YtbefoapnlehdmaaDoorRApp
namespace Go.Proofs.YtbefoapnlehdmaaDoor
open Go.RowKit

/-- What a message has besides its body. -/
structure Ms where
  ty : Int
  cd : Int
  r0 : Int
  r1 : Int
  r2 : Int
  r3 : Int
/-- All are bytes. -/
structure Ms.ok (h : Ms) : Prop where
  ty : 0 ≤ h.ty ∧ h.ty ≤ 255
  cd : 0 ≤ h.cd ∧ h.cd ≤ 255
  r0 : 0 ≤ h.r0 ∧ h.r0 ≤ 255
  r1 : 0 ≤ h.r1 ∧ h.r1 ≤ 255
  r2 : 0 ≤ h.r2 ∧ h.r2 ≤ 255
  r3 : 0 ≤ h.r3 ∧ h.r3 ≤ 255
@[reducible] def zeroS : Ms := ⟨0, 0, 0, 0, 0, 0⟩
/-- A message. -/
@[reducible] def msV (h : Ms) (A : Option Addr) (n c : Nat) : Value := .agg #[.int .u8 h.ty, .int .u8 h.cd, .int .u8 h.r0, .int .u8 h.r1, .int .u8 h.r2, .int .u8 h.r3, .slice A n c]
/-- A message's block. -/
@[reducible] def msC (h : Ms) (A : Option Addr) (n c : Nat) : Array Value := #[.int .u8 h.ty, .int .u8 h.cd, .int .u8 h.r0, .int .u8 h.r1, .int .u8 h.r2, .int .u8 h.r3, .slice A n c]
theorem msC_one (h : Ms) (A : Option Addr) (n c : Nat) : (msC h A n c).all (·.oneCell') = true := by simp [Value.oneCell']
@[reducible] def zeroMV : Value := msV zeroS none 0 0
/-- What stands ahead of a body, with noughts in the sum's place. -/
def ahL (h : Ms) : List Int := [h.ty, h.cd, 0, 0, h.r0, h.r1, h.r2, h.r3]
@[reducible] def ahV (h : Ms) : Value := .agg #[.int .u8 h.ty, .int .u8 h.cd, .int .u8 0, .int .u8 0, .int .u8 h.r0, .int .u8 h.r1, .int .u8 h.r2, .int .u8 h.r3]
@[reducible] def ahC (h : Ms) : Array Value := #[.int .u8 h.ty, .int .u8 h.cd, .int .u8 0, .int .u8 0, .int .u8 h.r0, .int .u8 h.r1, .int .u8 h.r2, .int .u8 h.r3]
@[reducible] def r4V (h : Ms) : Value := .agg #[.int .u8 h.r0, .int .u8 h.r1, .int .u8 h.r2, .int .u8 h.r3]
/-- Are they the same? -/
def r4B (h k : Ms) : Bool := (h.r0 == k.r0) && ((h.r1 == k.r1) && ((h.r2 == k.r2) && (h.r3 == k.r3)))
def hmB (h k : Ms) : Bool := (h.ty == k.ty) && ((h.cd == k.cd) && r4B h k)
theorem hmB_iff {h k : Ms} : hmB h k = true ↔ h = k := by
  cases h; cases k
  simp [hmB, r4B]
theorem hmB_self (h : Ms) : hmB h h = true := hmB_iff.2 rfl
/-- Are two messages the same? -/
def mmB (h k : Ms) (xs ys : List Int) : Bool := hmB h k && bEq xs ys
theorem mmB_self (h : Ms) (xs : List Int) : mmB h h xs xs = true := by simp [mmB, hmB_self, bEq_self]
theorem r4B_of {a b : Ms} (h0 : a.r0 = b.r0) (h1 : a.r1 = b.r1) (h2 : a.r2 = b.r2) (h3 : a.r3 = b.r3) : r4B a b = true := by simp [r4B, h0, h1, h2, h3]

set_option maxHeartbeats 1000000 in
theorem eqm83 (h k : Ms) (w : World) : (Op.equalIn 10000 83 (ahV h) (ahV k)).run Tryd.prog w = .ok (hmB h k) w := by
  obtain ⟨a, b, c, d, e, f⟩ := h
  obtain ⟨a', b', c', d', e', f'⟩ := k
  have u5 := Tryd.underlying5
  have a5 := Tryd.isAgg5
  have z5 := Tryd.sizeOf5
  rw [show (10000 : Nat) = 9999 + 1 from rfl, Op.equalIn]
  simp only [Sem.run_bind, run_underlying Tryd.underlying83, Result.andThen_ok]
  simp only [Std.Legacy.Range.forIn_eq_forIn_range', Std.Legacy.Range.size, Nat.sub_zero, Nat.add_sub_cancel, Nat.div_one, List.range'_succ, List.range'_zero, List.forIn_cons, List.forIn_nil]
  unfold hmB r4B
  dsimp only
  by_cases h0 : a = a'
  · by_cases h1 : b = b'
    · by_cases h2 : c = c'
      · by_cases h3 : d = d'
        · by_cases h4 : e = e'
          · by_cases h5 : f = f'
            · subst h0 h1 h2 h3 h4 h5
              go_simp
            · go_simp
          · go_simp
        · go_simp
      · go_simp
    · go_simp
  · go_simp
set_option maxHeartbeats 1000000 in
theorem eqm25 (h k : Ms) (w : World) : (Op.equalIn 10000 25 (r4V h) (r4V k)).run Tryd.prog w = .ok (r4B h k) w := by
  obtain ⟨a, b, c, d, e, f⟩ := h
  obtain ⟨a', b', c', d', e', f'⟩ := k
  have u5 := Tryd.underlying5
  have a5 := Tryd.isAgg5
  have z5 := Tryd.sizeOf5
  rw [show (10000 : Nat) = 9999 + 1 from rfl, Op.equalIn]
  simp only [Sem.run_bind, run_underlying Tryd.underlying25, Result.andThen_ok]
  simp only [Std.Legacy.Range.forIn_eq_forIn_range', Std.Legacy.Range.size, Nat.sub_zero, Nat.add_sub_cancel, Nat.div_one, List.range'_succ, List.range'_zero, List.forIn_cons, List.forIn_nil]
  unfold r4B
  dsimp only
  by_cases h2 : c = c'
  · by_cases h3 : d = d'
    · by_cases h4 : e = e'
      · by_cases h5 : f = f'
        · subst h2 h3 h4 h5
          go_simp
        · go_simp
      · go_simp
    · go_simp
  · go_simp

/-- The cells of a message's block. -/
def MsAt (w : World) (g : Nat) (T : TypeId) (h : Ms) (A : Option Addr) (n c : Nat) : Prop := w.heap[g]? = some (.cells (msC h A n c) T (0, 0))
section
variable {w w' : World} {g B : Nat} {T : TypeId} {h : Ms} {A : Option Addr} {n c : Nat}
theorem MsAt.lt (q : MsAt w g T h A n c) : g < w.heap.size := blk_lt q
theorem MsAt.below (q : MsAt w g T h A n c) (hb : Below B w w') (hg : g < B) : MsAt w' g T h A n c := (hb.block g hg).trans q
theorem MsAt.step (q : MsAt w g T h A n c) (hb : Below w.heap.size w w') : MsAt w' g T h A n c := q.below hb q.lt
theorem MsAt.drew (q : MsAt w g T h A n c) : MsAt w.drew g T h A n c := q
theorem MsAt.new (w : World) (T : TypeId) (h : Ms) (A : Option Addr) (n c : Nat) : MsAt (w.alloc (.cells (msC h A n c) T)) w.heap.size T h A n c := heap_alloc_new w _
theorem MsAt.cells (q : MsAt w g T h A n c) : w.cell? ⟨g, 0, none⟩ = some (.int .u8 h.ty) ∧ w.cell? ⟨g, 1, none⟩ = some (.int .u8 h.cd) ∧ w.cell? ⟨g, 2, none⟩ = some (.int .u8 h.r0) ∧ w.cell? ⟨g, 3, none⟩ = some (.int .u8 h.r1) ∧ w.cell? ⟨g, 4, none⟩ = some (.int .u8 h.r2) ∧ w.cell? ⟨g, 5, none⟩ = some (.int .u8 h.r3) ∧ w.cell? ⟨g, 6, none⟩ = some (.slice A n c) :=
  ⟨blk_cell q rfl, blk_cell q rfl, blk_cell q rfl, blk_cell q rfl, blk_cell q rfl, blk_cell q rfl, blk_cell q rfl⟩
theorem MsAt.frozen (q : MsAt w g T h A n c) (i : Nat) : w.frozen? ⟨g, i, none⟩ = false := blk_frozen q
end
/-- The cells of the block of what stands ahead. -/
def AhAt (w : World) (g : Nat) (T : TypeId) (h : Ms) : Prop := w.heap[g]? = some (.cells (ahC h) T (0, 0))

/-- Why bytes are no message; noughts where they are one. -/
def mE (xs : List Int) : Int × Int := if xs.length < 8 then (1, 12) else if 1480 < xs.length then (1, 11) else if ¬ totV xs = 65535 then (2, 13) else (0, 0)
/-- The message's head. -/
def mOf (xs : List Int) : Ms := ⟨xs.getD 0 0, xs.getD 1 0, xs.getD 4 0, xs.getD 5 0, xs.getD 6 0, xs.getD 7 0⟩
theorem mE_cases (xs : List Int) : (xs.length < 8 ∧ mE xs = (1, 12)) ∨ (8 ≤ xs.length ∧ 1480 < xs.length ∧ mE xs = (1, 11)) ∨ (8 ≤ xs.length ∧ xs.length ≤ 1480 ∧ ¬ totV xs = 65535 ∧ mE xs = (2, 13)) ∨ (8 ≤ xs.length ∧ xs.length ≤ 1480 ∧ totV xs = 65535 ∧ mE xs = (0, 0)) := by
  unfold mE
  by_cases h1 : xs.length < 8
  · exact .inl ⟨h1, by rw [if_pos h1]⟩
  by_cases h2 : 1480 < xs.length
  · exact .inr (.inl ⟨by omega, h2, by rw [if_neg h1, if_pos h2]⟩)
  by_cases h3 : totV xs = 65535
  · exact .inr (.inr (.inr ⟨by omega, by omega, h3, by rw [if_neg h1, if_neg h2, if_neg (fun q => q h3)]⟩))
  · exact .inr (.inr (.inl ⟨by omega, by omega, h3, by rw [if_neg h1, if_neg h2, if_pos h3]⟩))
/-- A message's bytes, with this sum. -/
def mhP (h : Ms) (s : Int) : List Int := [h.ty, h.cd, s / 256, s % 256, h.r0, h.r1, h.r2, h.r3]
/-- A message's sum. -/
def mS (h : Ms) (xs : List Int) : Int := 65535 - totV (ahL h ++ xs)
/-- A message's bytes. -/
def mR (h : Ms) (xs : List Int) : List Int := mhP h (mS h xs) ++ xs
/-- A message's class, its mark; it with another mark. -/
def clsV (h : Ms) : Int := if h.ty = 3 ∨ h.ty = 4 ∨ h.ty = 11 ∨ h.ty = 12 then 1 else if h.ty = 0 ∨ h.ty = 8 then 2 else 0
def mkN (h : Ms) : Int := h.r0 * 256 + h.r1
@[reducible] def mkS (h : Ms) (k : Int) : Ms := ⟨h.ty, h.cd, k / 256, k % 256, h.r2, h.r3⟩
/-- Why a message embeds no packet; noughts where it does. -/
def iE (h : Ms) (xs : List Int) : Int × Int := if ¬ clsV h = 1 then (16, 14) else if ¬ (pE false xs).2 = 0 then pE false xs else if (bodyOf xs).length < 8 then (1, 12) else (0, 0)
theorem mE_ok {xs : List Int} (h : (mE xs).2 = 0) : 8 ≤ xs.length ∧ xs.length ≤ 1480 ∧ totV xs = 65535 ∧ mE xs = (0, 0) := by
  rcases mE_cases xs with ⟨_, e⟩ | ⟨_, _, e⟩ | ⟨_, _, _, e⟩ | q
  · rw [e] at h; simp at h
  · rw [e] at h; simp at h
  · rw [e] at h; simp at h
  · exact q
theorem mOf_ok {w : World} {B : Nat} {A : Option Addr} {n c : Nat} {xs : List Int} (h : Rd .u8 w B A n c xs) (hn : 8 ≤ n) : (mOf xs).ok :=
  ⟨u8_bd (h.wf (i := 0) (by omega)), u8_bd (h.wf (i := 1) (by omega)), u8_bd (h.wf (i := 4) (by omega)), u8_bd (h.wf (i := 5) (by omega)), u8_bd (h.wf (i := 6) (by omega)), u8_bd (h.wf (i := 7) (by omega))⟩
theorem mkS_ok {h : Ms} (hk : h.ok) {k : Int} (hb : 0 ≤ k ∧ k ≤ 65535) : (mkS h k).ok := ⟨hk.ty, hk.cd, by dsimp only; omega, by dsimp only; omega, hk.r2, hk.r3⟩
theorem mkN_bd {h : Ms} (hk : h.ok) : 0 ≤ mkN h ∧ mkN h ≤ 65535 := by
  have := hk.r0; have := hk.r1
  unfold mkN
  omega
theorem bytes_of4 {p q r s : Int} (hp : 0 ≤ p ∧ p ≤ 255) (hq : 0 ≤ q ∧ q ≤ 255) (hr : 0 ≤ r ∧ r ≤ 255) (hs : 0 ≤ s ∧ s ≤ 255) : ∀ x ∈ [p, q, r, s], (Lit.int .u8 x).wf = true := by
  intro x hx
  simp only [List.mem_cons, List.not_mem_nil, or_false] at hx
  rcases hx with rfl | rfl | rfl | rfl
  · exact u8_mk hp
  · exact u8_mk hq
  · exact u8_mk hr
  · exact u8_mk hs
theorem mhP_wf {h : Ms} (hk : h.ok) {s : Int} (hs : 0 ≤ s ∧ s ≤ 65535) : ∀ x ∈ mhP h s, (Lit.int .u8 x).wf = true := by
  rw [show mhP h s = [h.ty, h.cd, s / 256, s % 256] ++ [h.r0, h.r1, h.r2, h.r3] from rfl]
  exact fun x hx => (List.mem_append.1 hx).elim (bytes_of4 hk.ty hk.cd (by omega) (by omega) x) (bytes_of4 hk.r0 hk.r1 hk.r2 hk.r3 x)
theorem ahL_wf {h : Ms} (hk : h.ok) : ∀ x ∈ ahL h, (Lit.int .u8 x).wf = true := mhP_wf hk (s := 0) (by omega)
theorem ahL_len (h : Ms) : (ahL h).length = 8 := rfl
theorem mhP_len (h : Ms) (s : Int) : (mhP h s).length = 8 := rfl
theorem mR_len (h : Ms) (xs : List Int) : (mR h xs).length = 8 + xs.length := by unfold mR; rw [List.length_append, mhP_len]
theorem mS_bd {h : Ms} (hk : h.ok) {xs : List Int} (hx : ∀ x ∈ xs, (Lit.int .u8 x).wf = true) : 0 ≤ mS h xs ∧ mS h xs ≤ 65535 := by
  have := totV_bd (byts_of (fun x q => (List.mem_append.1 q).elim (ahL_wf hk x) (hx x)) : Byts (ahL h ++ xs))
  unfold W16 at this
  unfold mS
  omega
theorem mR_wf {h : Ms} (hk : h.ok) {xs : List Int} (hx : ∀ x ∈ xs, (Lit.int .u8 x).wf = true) : ∀ x ∈ mR h xs, (Lit.int .u8 x).wf = true :=
  fun x q => (List.mem_append.1 q).elim (mhP_wf hk (mS_bd hk hx) x) (hx x)
theorem mR_hd {h : Ms} (xs : List Int) : mOf (mR h xs) = h := by cases h; rfl
theorem mR_body (h : Ms) (xs : List Int) : (mR h xs).drop 8 = xs := rfl
end Go.Proofs.YtbefoapnlehdmaaDoor
