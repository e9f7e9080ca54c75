/-
  Contract of read, where there is no packet.
-/
import Derived.Test.YtbefoapnlehdmaaDoorPl
import Derived.Test.YtbefoapnlehdmaaDoorForce
import Derived.Deep.CutRange
namespace Go.Proofs.YtbefoapnlehdmaaDoor
open Go.RowKit

@[reducible] def zeroP : Value := pkV zeroH none 0 0
theorem below_drew (w : World) : Below w.heap.size w w.drew := ⟨rfl, rfl, rfl, Nat.le_refl _, fun _ _ => rfl⟩
theorem splice_all (m : Nat) (ys : List Int) (h : ys.length = m) : splice (List.replicate m (0 : Int)) 0 ys = ys := by simp [splice, h]
theorem Rd.cutS {k : IntKind} {w : World} {B b o : Nat} {n c : Nat} {xs : List Int} (h : Rd k w B (some ⟨b, o, none⟩) n c xs) (f : Nat) (hf : f ≤ n) (hc : ¬ c = f) : Rd k w B (some ⟨b, o + f, none⟩) (n - f) (c - f) (xs.drop f) := by
  have := h.cutFrom f hf
  rw [cutA_ne hc] at this
  have e : (some (⟨b, o, none⟩ : Addr)).map (·.add f) = some ⟨b, o + f, none⟩ := by
    simp only [Option.map_some, Addr.add]
    split <;> simp_all
  rw [e] at this
  exact this
theorem Rd.cellAt {w : World} {B b o : Nat} {n c : Nat} {xs : List Int} (h : Rd .u8 w B (some ⟨b, o, none⟩) n c xs) {i : Nat} (hi : i < n) : w.cell? ⟨b, o + i, none⟩ = some (.int .u8 (xs.getD i 0)) := by
  obtain ⟨b', o', e, -, hc⟩ := h.at_ hi
  injection e with e
  injection e with e1 e2
  subst e1 e2
  exact hc
/-- What read answers. -/
def GivesR (w : World) (hd n : Nat) (xs : List Int) (ev : Ending) (w' : World) : Prop :=
  Below w.heap.size w w' ∧ ((¬ (rE hd xs).2 = 0 ∧ ev = .returned (.tuple #[zeroP, errV (rE hd xs).1 (rE hd xs).2])) ∨
    ((rE hd xs).2 = 0 ∧ ∃ g, ev = .returned (.tuple #[pkV (hdOf xs) (some ⟨g, 0, none⟩) (n - 20) (n - 20), .nilIface]) ∧ Row w' g (xs.drop 20) ∧ w.heap.size ≤ g))
/-- What read's walk knows ahead of the packet: the answer's block, the bytes. -/
structure KR (w : World) (A : Option Addr) (n c : Nat) (xs : List Int) (W : World) : Prop where
  z : PkAt W w.heap.size 60 zeroH none 0 0
  rd : Rd .u8 W w.heap.size A n c xs
  below : Below w.heap.size w W
/-- And behind it: the packet's block (g2), its body's (g1). -/
structure PR (w : World) (A : Option Addr) (n c : Nat) (xs : List Int) (g1 g2 : Nat) (ys : List Int) (W : World) : Prop where
  z : PkAt W w.heap.size 60 zeroH none 0 0
  pk : PkAt W g2 60 (hdOf xs) (some ⟨g1, 0, none⟩) (n - 20) (n - 20)
  row : Row W g1 ys
  rd : Rd .u8 W w.heap.size A n c xs
  below : Below w.heap.size w W
  n1 : w.heap.size < g1
  n2 : w.heap.size < g2
  ne : g1 ≠ g2
section
variable {w W V : World} {A : Option Addr} {n c g1 g2 : Nat} {xs ys ys' : List Int}
theorem KR.step (h : KR w A n c xs W) (hb : Below W.heap.size W V) : KR w A n c xs V := ⟨h.z.step hb, h.rd.below hb h.below.size, h.below.trans (hb.mono h.below.size)⟩
theorem PR.step (h : PR w A n c xs g1 g2 ys W) (hb : Below W.heap.size W V) : PR w A n c xs g1 g2 ys V :=
  ⟨h.z.step hb, h.pk.step hb, h.row.below hb h.row.lt, h.rd.below hb h.below.size, h.below.trans (hb.mono h.below.size), h.n1, h.n2, h.ne⟩
theorem PR.only1 (h : PR w A n c xs g1 g2 ys W) (ho : Only g1 W V) (hf : Row V g1 ys') : PR w A n c xs g1 g2 ys' V :=
  ⟨h.z.below ho.below h.n1, (ho.other _ (Ne.symm h.ne)).trans h.pk, hf, ho.rd h.rd (Nat.le_of_lt h.n1), h.below.trans (ho.below.mono (Nat.le_of_lt h.n1)), h.n1, h.n2, h.ne⟩
end
theorem rE_cases (hd : Nat) (xs : List Int) (h : 20 ≤ hd) : (20 < hd ∧ rE hd xs = (4, 21)) ∨ (hd = 20 ∧ ¬ (flg xs = 0 ∨ flg xs = 16384) ∧ rE hd xs = (5, 20)) ∨ (hd = 20 ∧ (flg xs = 0 ∨ flg xs = 16384) ∧ rE hd xs = (0, 0)) := by
  unfold rE
  by_cases h1 : 20 < hd
  · exact .inl ⟨h1, by rw [if_pos h1]⟩
  · by_cases h2 : flg xs = 0 ∨ flg xs = 16384
    · refine .inr (.inr ⟨by omega, h2, ?_⟩)
      rw [if_neg h1, if_neg (by omega)]
    · refine .inr (.inl ⟨by omega, h2, ?_⟩)
      rw [if_neg h1, if_pos (by omega)]
set_option maxHeartbeats 1000000 in
theorem read_opt (hd : Nat) (A : Option Addr) (n c : Nat) (w : World) (h : 20 < hd) (hm : hd ≤ 1000) :
    Calls Tryd.prog 64 #[.int .i64 hd, .slice A n c] w fun e w' => e = .returned (.tuple #[zeroP, errV 4 21]) ∧ Below w.heap.size w w' := by
  have h' : (20 : Int) < (hd : Int) := by omega
  have hm' : (hd : Int) ≤ 1000 := by omega
  go_enter Tryd.func64, Tryd.ntmps64
  go_wp2_with (go_at_call 36; refine (fault_any 4 21 _ (by decide) (by decide)).mono ?_; rintro e w1 ⟨rfl, rfl⟩)
  refine bodyPost_ret (v := .tuple #[zeroP, errV 4 21]) (by simp [results, Tryd.results64, go_sem]) rfl ⟨rfl, ?_⟩
  exact alloc_below _ _
set_option maxHeartbeats 2000000 in
theorem read_frag (b o n c : Nat) (xs : List Int) (w : World) (hr : Rd .u8 w w.heap.size (some ⟨b, o, none⟩) n c xs) (hn : 20 ≤ n) (hf : ¬ (flg xs = 0 ∨ flg xs = 16384)) :
    Calls Tryd.prog 64 #[.int .i64 20, .slice (some ⟨b, o, none⟩) n c] w fun e w' => e = .returned (.tuple #[zeroP, errV 5 20]) ∧ Below w.heap.size w w' := by
  have hcap := hr.cap
  have hmax := hr.max
  have k6 : ¬ c = 6 := by omega
  have j6 : (6 : Int) ≤ (n : Int) := by omega
  have t1 : ∀ W, Rd .u8 W w.heap.size (some ⟨b, o, none⟩) n c xs → Calls Tryd.prog 78 #[.slice (some ⟨b, o + 6, none⟩) (n - 6) (c - 6)] W fun e w' => e = .returned (.int .u16 (flg xs)) ∧ ∃ m', w' = W.drewN m' := fun W h => two_any _ (n - 6) (c - 6) w.heap.size (xs.drop 6) W (h.cutS 6 (by omega) k6) (by omega)
  have hz : ¬ bits .andNot .u16 (flg xs) 16384 = 0 := fun h => hf ((cut_bits _ (num2_bd rfl (hr.cutS 6 (by omega) k6) (by omega))).1 h)
  clear hf
  generalize flg xs = f at *
  obtain ⟨q, hq⟩ : ∃ q, bits .andNot .u16 f 16384 = q := ⟨_, rfl⟩
  rw [hq] at hz
  go_enter Tryd.func64, Tryd.ntmps64
  go_wp2_with (go_at_call 78; with_reducible refine (t1 _ (hr.below (alloc_below _ _) (Nat.le_refl _))).mono ?_; rintro e w1 ⟨rfl, m, rfl⟩)
  have K0 : KR w (some ⟨b, o, none⟩) n c xs ((w.alloc (.cells (pkC zeroH none 0 0) 60)).drewN m) := KR.step (W := w.alloc (.cells (pkC zeroH none 0 0) 60)) ⟨PkAt.new w 60 zeroH none 0 0, hr.below (alloc_below _ _) (Nat.le_refl _), alloc_below _ _⟩ (Still.drewN _ _).below
  clear t1 hr
  with_reducible refine (fault_any 5 20 _ (by decide) (by decide)).mono ?_
  rintro e w1 ⟨rfl, hw⟩
  have K1 : KR w (some ⟨b, o, none⟩) n c xs w1 := by rw [← hw]; exact K0
  clear K0 hw
  go_wp2_with (refine wpList_stF rfl rfl 60 _ _ rfl w.heap.size (pkC zeroH none 0 0) rfl rfl 60 _ K1.z (by kernel_rfl) rfl (pkC_one ..) ?_; intro w7 h7 hb7 ho7 hs7)
  have h7' : PkAt w7 w.heap.size 60 zeroH none 0 0 := h7
  obtain ⟨c0, c1, c2, c3, c4, c5, c6, c7⟩ := h7'.cells
  refine bodyPost_ret (v := .tuple #[zeroP, errV 5 20]) (by simp [results, Tryd.results64, go_sem, *]) rfl ⟨rfl, K1.below.trans hb7⟩
end Go.Proofs.YtbefoapnlehdmaaDoor
