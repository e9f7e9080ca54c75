/-
  The iterator 'parts': its value, and what it hands over.
-/
import Derived.Test.YtemhahfodblehaaDoorKnow
import Derived.Test.YtemhahfodblehaaDoorLaw2
import Derived.Shelf.Abstract
import Derived.Shelf.RegionOpen
import Derived.OwnWalkIn
import Derived.TacticsInMore
import Derived.LoopNIn
import Derived.LoopIn
namespace Go.Proofs.YtemhahfodblehaaDoor
open Go.RowKit Go.Shelf

/-- The first six blocks are as they were. -/
theorem Kn.same {W V : World} (k : Kn W) (hs : W.heap.size ≤ V.heap.size) (h : ∀ i, i < 6 → V.heap[i]? = W.heap[i]?) : Kn V := by
  have hv : ∀ (n : String) (g : Nat), Tryd.prog.globalNamed n = some g → g < 6 → V.var? Tryd.prog n = W.var? Tryd.prog n := by
    intro n g hg h6
    simp only [World.var?, hg, Option.bind_some, h g h6]
  obtain ⟨m, hm⟩ := k.maxlen
  obtain ⟨t1, p1, h1⟩ := k.syn
  obtain ⟨t2, p2, h2⟩ := k.rng
  exact ⟨⟨m, (World.cell?_of_block (w := W) (h 2 (by omega))).trans hm⟩, (hv _ _ g3_ (by omega)).trans k.tab, ⟨t1, p1, (hv _ _ g0_ (by omega)).trans h1⟩, ⟨t2, p2, (hv _ _ g1_ (by omega)).trans h2⟩, Nat.le_trans k.big hs⟩
theorem Kn.away {W V : World} {X : Nat → Prop} (k : Kn W) (h : Away X W V) (hX : ∀ i, i < 6 → ¬ X i) : Kn V :=
  k.same h.size (fun i hi => h.block i (by have := k.big; omega) (hX i hi))

theorem parts_any (s : Value) (m : UInt8) (w : World) (hs : ∃ l, s = strV l) : CallsIn Fence.wide 0 Tryd.prog 38 #[s, .string ⟨#[m]⟩] w fun e w' => e = .returned (.func (.func 45) #[] #[.pointer (some ⟨w.heap.size, 0, none⟩), .pointer (some ⟨w.heap.size + 1, 0, none⟩)]) ∧ w' = (w.alloc (.cells #[s] 9)).alloc (.cells #[.string ⟨#[m]⟩] 9) := by
  obtain ⟨l, rfl⟩ := hs
  refine callsIn_of_wp Tryd.func38 rfl trivial ?_ rfl
  simp only [Tryd.ntmps38, List.size_toArray, List.length_cons, List.length_nil, Nat.reduceAdd, Nat.reduceSub, Array.replicate_succ, Array.replicate_zero, List.push_toArray, List.append_toArray, List.nil_append, List.cons_append]
  gi_wp2
  go_ret
  exact ⟨rfl, rfl⟩

theorem cut_nil {l : List UInt8} {m : UInt8} (h : (Lib.cut l [m]).2.2 = false) : (Lib.cut l [m]).2.1 = [] := by
  unfold Lib.cut at *
  split at h
  · cases h
  · rename_i h0
    rw [if_neg h0]
def encS (l : List UInt8) : Array Value := #[strV l]
/-- How much is left to cut. -/
def leftOf : Value → Value → Nat
  | .string s, .bool true => s.size + 1
  | _, _ => 0
theorem leftOf_t (l : List UInt8) : leftOf (strV l) (.bool true) = l.length + 1 := by
  show l.toArray.size + 1 = _
  simp
theorem leftOf_f (v : Value) : leftOf v (.bool false) = 0 := by unfold leftOf; split <;> simp_all
/-- What the iterator knows between two steps. -/
structure It (gm : Nat) (m : UInt8) (s : List UInt8) (J : List (List UInt8) → World → Prop) (W : World) (pre todo : List (List UInt8)) (wr : World) : Prop where
  j : J pre wr
  kn : Kn wr
  mark : wr.cell? ⟨gm, 0, none⟩ = some (.string ⟨#[m]⟩)
  size : W.heap.size ≤ wr.heap.size
  all : partsV m s = pre ++ todo

set_option maxRecDepth 100000 in
set_option maxHeartbeats 1000000 in
theorem parts1_in (l gs gm B : Nat) (X : Nat → Prop) (m : UInt8) (s : List UInt8) (hlen : s.length ≤ 1000) (J Jx : List (List UInt8) → World → Prop) (W : World)
    (hgm : gm < B) (hB : 6 ≤ B) (hl1 : B ≤ l) (hl2 : l < W.heap.size) (hX : ∀ k, X k → 6 ≤ k ∧ k < B ∧ k ≠ gm) (hJ : ∀ s V V', J s V → Below W.heap.size V V' → J s V')
    (hY : ∀ pre x V, pre ++ [x] <+: partsV m s → J pre V → YieldAt Fence.wide 0 Tryd.prog l (encS x) V fun e V' => Away (fun k => k = l ∨ X k) V V' ∧ ((e = .returned (.bool true) ∧ J (pre ++ [x]) V') ∨ (e = .returned (.bool false) ∧ Jx (pre ++ [x]) V')))
    (hs : W.cell? ⟨gs, 0, none⟩ = some (strV s)) (hm : W.cell? ⟨gm, 0, none⟩ = some (.string ⟨#[m]⟩)) (kn : Kn W) (h0 : J [] W) :
    CallsIn Fence.wide 0 Tryd.prog 45 #[.func (.yield l) #[] #[], .pointer (some ⟨gs, 0, none⟩), .pointer (some ⟨gm, 0, none⟩)] W fun e W' => (∃ v, e = .returned v) ∧ (J (partsV m s) W' ∨ ∃ pre, pre <+: partsV m s ∧ Jx pre W') := by
  refine callsIn_of_wp Tryd.func45 rfl trivial ?_ rfl
  simp only [Tryd.ntmps45, List.size_toArray, List.length_cons, List.length_nil, Nat.reduceAdd, Nat.reduceSub, Array.replicate_succ, Array.replicate_zero, List.push_toArray, List.append_toArray, List.nil_append, List.cons_append]
  gi_wp2
  gi_loopw [4, 5] (fun r b wr => ∃ (pre : List (List UInt8)) (rest : List UInt8) (more : Bool) (n : Nat), r = strV rest ∧ b = .bool more ∧ rest.length < n ∧ rest.length ≤ 1000 ∧ It gm m s J W pre (if more then partsF m n rest else []) wr) (fun r b _ => leftOf r b)
  case atStart => exact ⟨[], s, true, s.length + 1, rfl, rfl, by omega, hlen, h0, kn, hm, Nat.le_refl _, rfl⟩
  case round =>
    obtain ⟨pre, rest, more, n, rfl, rfl, hn, hr, hI⟩ := hrel
    cases more with
    | false =>
      gi_wp2
      go_end0
      have := hI.all
      simp at this
      exact ⟨⟨_, rfl⟩, .inl (by rw [this]; exact hI.j)⟩
    | true =>
      match n, hn with
      | n + 1, hn =>
        have hall := hI.all
        simp only [if_true] at hall
        rw [partsF] at hall
        have hmk := hI.mark
        have hcut := cut_any rest m wr hI.kn hr
        have hlt := fun h => cut_rest (l := rest) (m := m) h
        have hnil := fun h => cut_nil (l := rest) (m := m) h
        generalize (Lib.cut rest [m]).1 = x at hall hcut
        generalize (Lib.cut rest [m]).2.1 = rest' at hall hcut hlt hnil
        generalize (Lib.cut rest [m]).2.2 = more' at hall hcut hlt hnil
        have HA := Lib.hid hall
        clear hall
        gi_wp2_with (refine ⟨trivial, rfl, ?_⟩; gi_at_call 46; refine (callsIn_wide.2 hcut).mono ?_; rintro e w2 ⟨rfl, hb2⟩; refine Hid.out ?_)
        refine Lib.hid ?_
        have hb2' := hb2.mono hI.size
        have hJ2 := hJ _ _ _ hI.j hb2'
        have kn2 := hI.kn.step hb2
        have hm2 := (hb2.cell (p := ⟨gm, 0, none⟩) (by have := hI.size; show gm < _; omega)).trans hmk
        have hs2 := Nat.le_trans hI.size hb2.size
        obtain ⟨fn, tmps, assign, body, hy, hRd⟩ := hY pre x w2 (by rw [HA.out]; exact ⟨_, by simp; rfl⟩) hJ2
        dsimp only [encS] at hy
        clear hI hmk hcut hb2 hb2' hJ2
        gi_wp2
        refine ⟨rfl, hRd.mono ?_⟩
        rintro e w3 ⟨haw, ⟨rfl, hJ3⟩ | ⟨rfl, hx3⟩⟩
        · have kn3 := kn2.away haw (fun i hi h => by
            rcases h with h | h
            · omega
            · have := hX _ h; omega)
          have hm3 := (haw.cell (p := ⟨gm, 0, none⟩) (by show gm < _; omega) (fun h => by
            rcases h with h | h
            · have : gm = l := h; omega
            · exact (hX _ h).2.2 rfl)).trans hm2
          have hs3 := Nat.le_trans hs2 haw.size
          have HB : Hid (partsV m s = (pre ++ [x]) ++ (if more' = true then partsF m n rest' else [])) := Lib.hid (by rw [HA.out]; simp)
          gi_wp2
          go_roundw
          case rel =>
            cases more' with
            | true => exact ⟨pre ++ [x], rest', true, n, rfl, rfl, by have := hlt rfl; omega, by have := hlt rfl; omega, hJ3, kn3, hm3, hs3, HB.out⟩
            | false =>
              have := hnil rfl
              subst this
              exact ⟨pre ++ [x], [], false, 1, rfl, rfl, by simp, by simp, hJ3, kn3, hm3, hs3, HB.out⟩
          case measure =>
            cases more' with
            | true => rw [leftOf_t, leftOf_t]; have := hlt rfl; omega
            | false => rw [leftOf_f, leftOf_t]; omega
        · gi_wp2
          (try simp only [Exit.inBlock, Exit.then])
          refine bodyPost_ret (results_none rfl _ _ _) rfl ?_
          exact ⟨⟨_, rfl⟩, .inr ⟨pre ++ [x], by rw [HA.out]; exact ⟨_, by simp; rfl⟩, hx3⟩⟩
/-- The iterator, as a loop meets it. -/
theorem parts_seqs {w : World} (gs gm : Nat) (X : Nat → Prop) (m : UInt8) (s : List UInt8) (hlen : s.length ≤ 1000) (hgs : gs < w.heap.size) (hgm : gm < w.heap.size) (hX : ∀ k, X k → 6 ≤ k ∧ k < w.heap.size ∧ k ≠ gm)
    (hs : w.cell? ⟨gs, 0, none⟩ = some (strV s)) (hm : w.cell? ⟨gm, 0, none⟩ = some (.string ⟨#[m]⟩)) (kn : Kn w) : Seqs2 Tryd.prog 45 #[.pointer (some ⟨gs, 0, none⟩), .pointer (some ⟨gm, 0, none⟩)] encS X (partsV m s) w := by
  intro l J Jx W hb hl1 hl2 hJ _ hY h0
  exact parts1_in l gs gm w.heap.size X m s hlen J Jx W hgm kn.big hl1 hl2 hX hJ hY ((hb.cell (p := ⟨gs, 0, none⟩) hgs).trans hs) ((hb.cell (p := ⟨gm, 0, none⟩) hgm).trans hm) (kn.step hb) h0
end Go.Proofs.YtemhahfodblehaaDoor
