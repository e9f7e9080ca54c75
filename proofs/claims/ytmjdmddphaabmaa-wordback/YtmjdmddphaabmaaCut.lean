/-
  Contracts of Own, fresh, Cut (both).
-/
import Derived.Test.YtmjdmddphaabmaaSame
import Derived.Test.YtmjdmddphaabmaaMem
namespace Go.Proofs.Ytmjdmddphaabmaa
open Go.RowKit
theorem info5 : (Try.prog.info? 5).map (fun i => (i.zero, i.size, i.bytes)) = some (some (.int .u8 0), 1, 1) := by kernel_rfl

/-- A call that answers a row of bytes of its own making. -/
def Gives (w : World) (L : List Int) (e : Ending) (w' : World) : Prop :=
  ∃ A n c, e = .returned (.slice A n c) ∧ Out w' w.heap.size A n c L ∧ Below w.heap.size w w'
/-- A call that answers a row of bytes of its own making, and an error's number. -/
def Gives2 (w : World) (L : List Int) (er : Int) (e : Ending) (w' : World) : Prop :=
  ∃ A n c, e = .returned (.tuple #[.slice A n c, .int .i64 er]) ∧ Out w' w.heap.size A n c L ∧ Below w.heap.size w w'

set_option maxHeartbeats 400000 in
theorem own_any (A : Option Addr) (n c : Nat) (xs : List Int) (B : Nat) (w : World) (hr : Rd .u8 w B A n c xs) (hB : B ≤ w.heap.size) (hn : n ≤ 3000) :
    Calls Try.prog 9 #[.slice A n c] w (Gives w xs) := by
  have hmax := hr.max
  have hcap := hr.cap
  have hr1 : Rd .u8 (w.alloc (.cells #[] 5)) B A n c xs := hr.below ((Below.refl w.heap.size w).alloc (Nat.le_refl _) _) hB
  go_enter Try.func9, Try.ntmps9
  go_wp2_with (at_builtin; refine wpList_app rfl _ _ 22 rfl w.heap.size Try.underlying22 info5 _ _ _ [] rfl (Out.lit0 w _ (Nat.le_refl _)) A n c B xs rfl hr1 (by omega) (by simp) ?_; intro A' n' c' w' hout hg)
  go_ret
  refine ⟨A', n', c', rfl, hout, ?_⟩
  exact ((Below.refl w.heap.size w).alloc (Nat.le_refl _) _).grown hg (by simp) (by intro k hk; simp [Value.ownBlock] at hk; omega)

theorem splice_all (xs ys : List Int) (h : xs.length = ys.length) : splice xs 0 ys = ys := by
  simp [splice, ← h]

set_option maxHeartbeats 400000 in
theorem fresh_any (A : Option Addr) (n c : Nat) (xs : List Int) (B : Nat) (w : World) (hr : Rd .u8 w B A n c xs) (hB : B ≤ w.heap.size) (hn : n ≤ 3000) :
    Calls Try.prog 23 #[.slice A n c] w fun e w' => e = .returned (.slice (some ⟨w.heap.size, 0, none⟩) n n) ∧ Row w' w.heap.size xs ∧ Below w.heap.size w w' := by
  have hmax := hr.max
  have hcap := hr.cap
  have hl := Lib.hid hr.len
  go_enter Try.func23, Try.ntmps23
  go_wp2_with (first
    | (at_make; refine wpList_mk rfl _ _ 22 rfl Try.underlying22 info5 n _ _ rfl rfl rfl rfl (by omega) ?_; intro w1 hrow hsz hb)
    | (with_reducible refine wpList_cp rfl (.tmp 7) (.tmp 8) 22 22 rfl Try.underlying22 info5 w.heap.size 0 (List.replicate n 0) hrow _ n n rfl A n c B xs rfl (hr.below hb hB) (by simp) (Nat.le_refl _) (fun _ => rfl) ?_; intro w2 hrow2 hb2))
  go_ret
  refine ⟨rfl, ?_, hb.trans hb2⟩
  rw [splice_all _ _ (by simp [hl.out])] at hrow2
  exact hrow2

def cutE (n : Nat) (f t : Int) : Int := if f < 0 ∨ t < f then 11 else if (n : Int) < t then 12 else 0
def cutL (xs : List Int) (f t : Int) : List Int := if cutE xs.length f t = 0 then (xs.drop f.toNat).take (t.toNat - f.toNat) else []
theorem cut_cases (xs : List Int) (f t : Int) :
    ((f < 0 ∨ t < f) ∧ cutE xs.length f t = 11 ∧ cutL xs f t = []) ∨
    (0 ≤ f ∧ f ≤ t ∧ (xs.length : Int) < t ∧ cutE xs.length f t = 12 ∧ cutL xs f t = []) ∨
    (∃ i j : Nat, f = i ∧ t = j ∧ i ≤ j ∧ j ≤ xs.length ∧ cutE xs.length f t = 0 ∧ cutL xs f t = (xs.drop i).take (j - i)) := by
  by_cases h1 : f < 0 ∨ t < f
  · have e : cutE xs.length f t = 11 := by simp only [cutE, if_pos h1]
    exact .inl ⟨h1, e, by simp only [cutL, e]; rfl⟩
  · by_cases h2 : (xs.length : Int) < t
    · have e : cutE xs.length f t = 12 := by simp only [cutE, if_neg h1, if_pos h2]
      exact .inr (.inl ⟨by omega, by omega, h2, e, by simp only [cutL, e]; rfl⟩)
    · have e : cutE xs.length f t = 0 := by simp only [cutE, if_neg h1, if_neg h2]
      obtain ⟨i, rfl⟩ := Int.eq_ofNat_of_zero_le (show 0 ≤ f by omega)
      obtain ⟨z, rfl⟩ := Int.eq_ofNat_of_zero_le (show 0 ≤ t by omega)
      exact .inr (.inr ⟨i, z, rfl, rfl, by omega, by omega, e, by simp only [cutL, e, if_pos, Int.toNat_natCast]⟩)

/-- How Go's cut is spelt, in its two cases. -/
theorem Rd.cut' {k : IntKind} {w : World} {B : Nat} {A : Option Addr} {n c : Nat} {xs : List Int} (h : Rd k w B A n c xs) {f t : Nat} (hf : f ≤ t) (ht : t ≤ n) :
    (c = f ∧ n = f ∧ t = f ∧ Rd k w B A 0 0 ((xs.drop f).take (t - f))) ∨ (¬ c = f ∧ Rd k w B (A.map (·.add f)) (t - f) (c - f) ((xs.drop f).take (t - f))) := by
  have hc := h.cap
  have h1 := h.cut hf ht
  by_cases e : c = f
  · rw [if_pos e] at h1
    obtain rfl : t = f := by omega
    refine .inl ⟨e, by omega, rfl, ?_⟩
    have e1 : t - t = 0 := by omega
    have e2 : c - t = 0 := by omega
    simpa only [e1, e2] using h1
  · rw [if_neg e] at h1
    exact .inr ⟨e, h1⟩

set_option maxHeartbeats 400000 in
theorem cut_ok (A : Option Addr) (n c : Nat) (xs : List Int) (B f t : Nat) (w : World) (hr : Rd .u8 w B A n c xs) (hB : B ≤ w.heap.size) (hn : n ≤ 3000) (hf : f ≤ t) (ht : t ≤ n) :
    Calls Try.prog 12 #[.slice A n c, .int .i64 f, .int .i64 t] w (Gives2 w ((xs.drop f).take (t - f)) 0) := by
  have hmax := hr.max
  have hcap := hr.cap
  have hwf : ∀ x ∈ (xs.drop f).take (t - f), (Lit.int .u8 x).wf = true := fun x hx => hr.2.2.2.1 x (List.mem_of_mem_drop (List.mem_of_mem_take hx))
  have hlen : ((xs.drop f).take (t - f)).length = t - f := by have := hr.len; simp; omega
  have Hlen := Lib.hid hlen
  have Hwf := Lib.hid hwf
  have hcut := hr.cut' hf ht
  clear hlen hwf
  generalize (xs.drop f).take (t - f) = L at *
  rcases hcut with ⟨rfl, rfl, rfl, hcut⟩ | ⟨hcf, hcut⟩
  · go_enter Try.func12, Try.ntmps12
    go_wp2_with (go_at_call 23; refine (fresh_any _ _ _ L B _ (by simpa using hcut) hB (by omega)).mono ?_; rintro e w1 ⟨rfl, hrow, hb⟩)
    go_ret2
    exact ⟨_, _, _, rfl, hrow.out (Nat.le_refl _) (by simpa using Hlen.out) (by unfold maxLen; omega) Hwf.out, hb⟩
  · have g2 : decide ((t : Int) < (f : Int)) = false := by simp; omega
    have g3 : decide ((n : Int) < (t : Int)) = false := by simp; omega
    go_enter Try.func12, Try.ntmps12
    go_wp2_with (go_at_call 23; refine (fresh_any _ _ _ L B _ hcut hB (by omega)).mono ?_; rintro e w1 ⟨rfl, hrow, hb⟩)
    go_ret2
    exact ⟨_, _, _, rfl, hrow.out (Nat.le_refl _) Hlen.out (by unfold maxLen; omega) Hwf.out, hb⟩

set_option maxHeartbeats 400000 in
theorem cut_range (A : Option Addr) (n c : Nat) (f t : Int) (w : World) (h : f < 0 ∨ t < f) :
    Calls Try.prog 12 #[.slice A n c, .int .i64 f, .int .i64 t] w (Gives2 w [] 11) := by
  by_cases h1 : f < 0
  · go_enter Try.func12, Try.ntmps12
    go_wp2
    go_ret2
    exact ⟨_, _, _, rfl, Out.nil, Below.refl _ _⟩
  · have h2 : t < f := by omega
    go_enter Try.func12, Try.ntmps12
    go_wp2
    go_ret2
    exact ⟨_, _, _, rfl, Out.nil, Below.refl _ _⟩

set_option maxHeartbeats 400000 in
theorem cut_end (A : Option Addr) (n c : Nat) (f t : Int) (w : World) (h0 : 0 ≤ f) (h1 : f ≤ t) (h2 : (n : Int) < t) :
    Calls Try.prog 12 #[.slice A n c, .int .i64 f, .int .i64 t] w (Gives2 w [] 12) := by
  go_enter Try.func12, Try.ntmps12
  go_wp2
  go_ret2
  exact ⟨_, _, _, rfl, Out.nil, Below.refl _ _⟩

theorem cut_any (A : Option Addr) (n c : Nat) (xs : List Int) (B : Nat) (f t : Int) (w : World) (hr : Rd .u8 w B A n c xs) (hB : B ≤ w.heap.size) (hn : n ≤ 3000) :
    Calls Try.prog 12 #[.slice A n c, .int .i64 f, .int .i64 t] w (Gives2 w (cutL xs f t) (cutE xs.length f t)) := by
  have hlen := hr.len
  rcases cut_cases xs f t with ⟨h, e1, e2⟩ | ⟨h0, h1, h2, e1, e2⟩ | ⟨i, j, rfl, rfl, h1, h2, e1, e2⟩
  · rw [e1, e2]; exact cut_range A n c f t w h
  · rw [e1, e2]; exact cut_end A n c f t w h0 h1 (by omega)
  · rw [e1, e2]; exact cut_ok A n c xs B i j w hr hB hn h1 (by omega)

/-! The document's Cut. -/
set_option maxHeartbeats 400000 in
theorem rcut_ok (A : Option Addr) (n c : Nat) (xs : List Int) (B f t : Nat) (w : World) (hr : Rd .u8 w B A n c xs) (hB : B ≤ w.heap.size) (hn : n ≤ 3000) (hf : f ≤ t) (ht : t ≤ n) :
    Calls Try.prog 13 #[.slice A n c, .int .i64 f, .int .i64 t] w (Gives2 w ((xs.drop f).take (t - f)) 0) := by
  have hmax := hr.max
  have hcap := hr.cap
  have hr1 : Rd .u8 (w.alloc (.cells #[] 5)) B A n c xs := hr.below ((Below.refl w.heap.size w).alloc (Nat.le_refl _) _) hB
  have hcut := hr1.cut' hf ht
  generalize (xs.drop f).take (t - f) = L at *
  rcases hcut with ⟨rfl, rfl, rfl, hcut⟩ | ⟨hcf, hcut⟩
  · go_enter Try.func13, Try.ntmps13
    go_wp2_with (at_builtin; refine wpList_app rfl _ _ 22 rfl w.heap.size Try.underlying22 info5 _ _ _ [] rfl (Out.lit0 w _ (Nat.le_refl _)) _ _ _ B L rfl (by simpa using hcut) (by omega) (by simp) ?_; intro A' n' c' w' hout hg)
    go_ret2
    exact ⟨A', n', c', rfl, hout, ((Below.refl w.heap.size w).alloc (Nat.le_refl _) _).grown hg (by simp) (by intro k hk; simp [Value.ownBlock] at hk; omega)⟩
  · have g2 : decide ((t : Int) < (f : Int)) = false := by simp; omega
    have g3 : decide ((n : Int) < (t : Int)) = false := by simp; omega
    go_enter Try.func13, Try.ntmps13
    go_wp2_with (at_builtin; refine wpList_app rfl _ _ 22 rfl w.heap.size Try.underlying22 info5 _ _ _ [] rfl (Out.lit0 w _ (Nat.le_refl _)) _ _ _ B L rfl hcut (by omega) (by simp) ?_; intro A' n' c' w' hout hg)
    go_ret2
    exact ⟨A', n', c', rfl, hout, ((Below.refl w.heap.size w).alloc (Nat.le_refl _) _).grown hg (by simp) (by intro k hk; simp [Value.ownBlock] at hk; omega)⟩

set_option maxHeartbeats 400000 in
theorem rcut_range (A : Option Addr) (n c : Nat) (f t : Int) (w : World) (h : f < 0 ∨ t < f) :
    Calls Try.prog 13 #[.slice A n c, .int .i64 f, .int .i64 t] w (Gives2 w [] 11) := by
  by_cases h1 : f < 0
  · go_enter Try.func13, Try.ntmps13
    go_wp2
    go_ret2
    exact ⟨_, _, _, rfl, Out.nil, Below.refl _ _⟩
  · have h2 : t < f := by omega
    go_enter Try.func13, Try.ntmps13
    go_wp2
    go_ret2
    exact ⟨_, _, _, rfl, Out.nil, Below.refl _ _⟩

set_option maxHeartbeats 400000 in
theorem rcut_end (A : Option Addr) (n c : Nat) (f t : Int) (w : World) (h0 : 0 ≤ f) (h1 : f ≤ t) (h2 : (n : Int) < t) :
    Calls Try.prog 13 #[.slice A n c, .int .i64 f, .int .i64 t] w (Gives2 w [] 12) := by
  go_enter Try.func13, Try.ntmps13
  go_wp2
  go_ret2
  exact ⟨_, _, _, rfl, Out.nil, Below.refl _ _⟩

theorem rcut_any (A : Option Addr) (n c : Nat) (xs : List Int) (B : Nat) (f t : Int) (w : World) (hr : Rd .u8 w B A n c xs) (hB : B ≤ w.heap.size) (hn : n ≤ 3000) :
    Calls Try.prog 13 #[.slice A n c, .int .i64 f, .int .i64 t] w (Gives2 w (cutL xs f t) (cutE xs.length f t)) := by
  have hlen := hr.len
  rcases cut_cases xs f t with ⟨h, e1, e2⟩ | ⟨h0, h1, h2, e1, e2⟩ | ⟨i, j, rfl, rfl, h1, h2, e1, e2⟩
  · rw [e1, e2]; exact rcut_range A n c f t w h
  · rw [e1, e2]; exact rcut_end A n c f t w h0 h1 (by omega)
  · rw [e1, e2]; exact rcut_ok A n c xs B i j w hr hB hn h1 (by omega)
end Go.Proofs.Ytmjdmddphaabmaa
