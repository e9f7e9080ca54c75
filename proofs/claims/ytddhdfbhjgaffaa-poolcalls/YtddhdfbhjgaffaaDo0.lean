/-
  The contract of Do: a call on both pools.
-/
import Derived.Test.YtddhdfbhjgaffaaRefs2
import Derived.Laws.OwnMore
namespace Go.Proofs.Ytddhdfbhjgaffaa
open Go.RowKit
set_option linter.unusedVariables false

theorem Kept.thenNew {S T : Nat → Prop} {w w' w'' : World} (h : Kept S w w') (h' : Kept T w' w'') (hT : ∀ k, T k → w.heap.size ≤ k) : Kept S w w'' :=
  ⟨h'.os.trans h.os, h'.tape.trans h.tape, h'.output.trans h.output, Nat.le_trans h.size h'.size, fun k hk hs => (h'.block k (Nat.lt_of_lt_of_le hk h.size) (fun q => by have := hT k q; omega)).trans (h.block k hk hs)⟩
theorem Out.at_ {w : World} {base n c : Nat} {A : Option Addr} {ys : List Int} (h : Out .u8 5 w base A n c ys) {i : Nat} (hi : i < n) : ∃ x, A = some ⟨x, 0, none⟩ ∧ w.cell? ⟨x, i, none⟩ = some (.int .u8 (ys.getD i 0)) ∧ w.frozen? ⟨x, i, none⟩ = false := by
  rcases h.form with ⟨_, h1, _⟩ | ⟨x, cur, rfl, _, hh, _⟩
  · omega
  · obtain ⟨b, o', e, _, hc⟩ := h.rd.at_ hi
    injection e with e
    injection e with e1 e2
    subst e1 e2
    rw [Nat.zero_add] at hc
    exact ⟨x, rfl, hc, by simp [World.frozen?, hh]⟩
theorem Out.set {w : World} {base g n c : Nat} {xs : List Int} (h : Out .u8 5 w base (some ⟨g, 0, none⟩) n c xs) (j : Nat) (x : Int) (hx : (Lit.int .u8 x).wf = true) :
    Out .u8 5 (w.setCell ⟨g, j, none⟩ (.int .u8 x)) base (some ⟨g, 0, none⟩) n c (xs.set j x) := by
  obtain ⟨h1, h2⟩ := h.1.stored j (.int .u8 x)
  refine ⟨by rw [List.map_set]; exact h1, fun y hy => ?_⟩
  rcases List.mem_or_eq_of_mem_set hy with hy | rfl
  · exact h.2 y hy
  · exact hx

/-- What a pool is behind a call. -/
def stepL (L : Slots) (wh bu o t : Int) (xs : List Int) : Slots := if wh = 0 then tkL L o xs else if wh = 1 then hdL L bu o t else if wh = 2 then frL L bu o else L
theorem stepL_len (L : Slots) (wh bu o t : Int) (xs : List Int) : (stepL L wh bu o t xs).length = L.length := by
  unfold stepL; split; exact tkL_len ..; split; exact hdL_len ..; split; exact frL_len ..; rfl
/-- Do two pools answer alike? -/
def doB (L M : Slots) (wh bu o t : Int) (n : Nat) : Bool := if wh = 0 then decide (tkN L o n = tkN M o n) && decide (tkE L o n = tkE M o n) else if wh = 1 then decide (hdE L bu o t = hdE M bu o t) else if wh = 2 then decide (chE L bu o = chE M bu o) else true
theorem doB_self (L : Slots) (wh bu o t : Int) (n : Nat) : doB L L wh bu o t n = true := by unfold doB; simp
/-- The two pools lie apart. -/
structure Apart (p g r gr : Nat) : Prop where
  h1 : p ≠ r
  h2 : p ≠ gr
  h3 : g ≠ r
  h4 : g ≠ gr
theorem apart_of {w : World} {p g cp r gr cr : Nat} {L M : Slots} {F F' : Nat → Prop} (hp : Pp w p g cp L F) (hr : Rp w r gr cr M F') (hL : 0 < L.length) (hM : gr = r ∨ 0 < M.length) : Apart p g r gr := by
  obtain ⟨G, a1, _⟩ := hp.ptr
  obtain ⟨cur, a2, _⟩ := hp.rows hL
  obtain ⟨G', a3, _⟩ := hr.ptr
  have e1 : p ≠ r := by rintro rfl; rw [a1] at a3; injection a3 with a3; injection a3 with _ a3; exact absurd a3 (by decide)
  have e3 : g ≠ r := by rintro rfl; rw [a2] at a3; injection a3 with a3; injection a3 with _ a3; exact absurd a3 (by decide)
  rcases hM with rfl | hM
  · exact ⟨e1, e1, e3, e3⟩
  · obtain ⟨cur', a4, _⟩ := hr.rows hM
    exact ⟨e1, by rintro rfl; rw [a1] at a4; injection a4 with a4; injection a4 with _ a4; exact absurd a4 (by decide), e3, by rintro rfl; rw [a2] at a4; injection a4 with a4; injection a4 with _ a4; exact absurd a4 (by decide)⟩
/-- Bytes do not lie in a block of other things. -/
theorem not5 {w : World} {k : Nat} {cur : Array Value} {t : TypeId} (h : w.heap[k]? = some (.cells cur t (0, 0))) (ht : ¬ t = 5) : ∀ c, w.heap[k]? ≠ some (.cells c 5 (0, 0)) := by
  intro c hc
  rw [h] at hc
  injection hc with hc
  injection hc with _ hc
  exact ht hc

/-- What Do's walk knows. -/
structure KD (gb g p gr r cp cr : Nat) (L M : Slots) (wh bu o t : Int) (A : Option Addr) (n c B : Nat) (xs : List Int) (A1 : Option Addr) (c1 base : Nat) (W : World) : Prop where
  pp : Pp W p g cp L (fun b => ∀ ad, A1 = some ad → ad.block ≠ b)
  rp : Rp W r gr cr M (fun b => ∀ ad, A1 = some ad → ad.block ≠ b)
  ow : Out .u8 5 W base A1 n c1 xs
  rd : Rd .u8 W B A n c xs
  bx : W.heap[gb]? = some (.cells #[.int .i64 wh, .int .i64 bu, .int .i64 o, .int .i64 t, .slice A n c] 25 (0, 0))
  ap : Apart p g r gr
  hL : 0 < L.length
  hM : gr = r ∨ 0 < M.length
  hB : B ≤ g ∧ B ≤ gr
  lt : g < base ∧ gr < base ∧ gb < base ∧ gb ≠ g ∧ gb ≠ gr ∧ base ≤ W.heap.size ∧ p < base ∧ r < base
section
variable {W V : World} {gb g p gr r cp cr : Nat} {L M : Slots} {wh bu o t : Int} {A : Option Addr} {n c B : Nat} {xs : List Int} {A1 : Option Addr} {c1 base : Nat}
theorem KD.step (q : KD gb g p gr r cp cr L M wh bu o t A n c B xs A1 c1 base W) (hb : Below W.heap.size W V) : KD gb g p gr r cp cr L M wh bu o t A n c B xs A1 c1 base V :=
  ⟨q.pp.below hb, q.rp.below hb, q.ow.below hb (Nat.le_refl _), q.rd.below hb (by have := q.lt; have := q.hB; omega), (hb.block gb (by have := q.lt; omega)).trans q.bx, q.ap, q.hL, q.hM, q.hB, by have := q.lt; have := hb.size; omega⟩
theorem KD.turnP {L' : Slots} (q : KD gb g p gr r cp cr L M wh bu o t A n c B xs A1 c1 base W) (hp : Pp V p g cp L' (fun b => ∀ ad, A1 = some ad → ad.block ≠ b)) (hk : Kept (· = g) W V) (hl : L'.length = L.length) : KD gb g p gr r cp cr L' M wh bu o t A n c B xs A1 c1 base V := by
  obtain ⟨cur, a2, _⟩ := q.pp.rows q.hL
  have hlt := q.lt
  refine ⟨hp, q.rp.kept hk (fun e => q.ap.h3 e.symm) (fun e => q.ap.h4 e.symm) (fun k e => .inr (by rw [e]; exact not5 a2 (by decide))), q.ow.kept hk (fun ad e h => by have := (q.ow.block ad e).1; have h2 : ad.block = g := h; omega), q.rd.kept hk (by have := q.hB; omega) (fun k e => by rw [e]; exact q.hB.1), (hk.block gb (by omega) (fun e => hlt.2.2.2.1 e)).trans q.bx, q.ap, by rw [hl]; exact q.hL, q.hM, q.hB, by have := hk.size; omega⟩
theorem KD.turnR {M' : Slots} (q : KD gb g p gr r cp cr L M wh bu o t A n c B xs A1 c1 base W) (hp : Rp V r gr cr M' (fun b => ∀ ad, A1 = some ad → ad.block ≠ b)) (hk : Kept (· = gr) W V) (hl : M'.length = M.length) : KD gb g p gr r cp cr L M' wh bu o t A n c B xs A1 c1 base V := by
  have hne : ∀ cur, W.heap[gr]? ≠ some (.cells cur 5 (0, 0)) := by
    rcases q.hM with e | hM
    · obtain ⟨G, a1, _⟩ := q.rp.ptr
      rw [e]
      exact not5 a1 (by decide)
    · obtain ⟨cur, a2, _⟩ := q.rp.rows hM
      exact not5 a2 (by decide)
  have hlt := q.lt
  refine ⟨q.pp.kept hk (fun e => q.ap.h2 e) (fun e => q.ap.h4 e) (fun k e => .inr (by rw [e]; exact hne)), hp, q.ow.kept hk (fun ad e h => by have := (q.ow.block ad e).1; have h2 : ad.block = gr := h; omega), q.rd.kept hk (by have := q.hB; omega) (fun k e => by rw [e]; exact q.hB.2), (hk.block gb (by omega) (fun e => hlt.2.2.2.2.1 e)).trans q.bx, q.ap, q.hL, by rw [hl]; exact q.hM, q.hB, by have := hk.size; omega⟩
theorem KD.cells (q : KD gb g p gr r cp cr L M wh bu o t A n c B xs A1 c1 base W) : W.cell? ⟨gb, 0, none⟩ = some (.int .i64 wh) ∧ W.cell? ⟨gb, 1, none⟩ = some (.int .i64 bu) ∧ W.cell? ⟨gb, 2, none⟩ = some (.int .i64 o) ∧ W.cell? ⟨gb, 3, none⟩ = some (.int .i64 t) ∧ W.cell? ⟨gb, 4, none⟩ = some (.slice A n c) :=
  ⟨cell_of_row W gb 0 _ 25 (0, 0) q.bx, cell_of_row W gb 1 _ 25 (0, 0) q.bx, cell_of_row W gb 2 _ 25 (0, 0) q.bx, cell_of_row W gb 3 _ 25 (0, 0) q.bx, cell_of_row W gb 4 _ 25 (0, 0) q.bx⟩
end
/-- What Do gives. -/
def GivesDo (w : World) (p g cp r gr cr : Nat) (L M : Slots) (wh bu o t : Int) (n : Nat) (xs : List Int) : Ending → World → Prop := fun e w' =>
  e = .returned (.bool (doB L M wh bu o t n)) ∧ Pp w' p g cp (stepL L wh bu o t xs) (fun _ => True) ∧ Rp w' r gr cr (stepL M wh bu o t xs) (fun _ => True) ∧ Kept (fun k => k = g ∨ k = gr) w w'
theorem GivesDo.of {w W V : World} {gb g p gr r cp cr : Nat} {L M : Slots} {wh bu o t : Int} {A : Option Addr} {n c B : Nat} {xs : List Int} {A1 : Option Addr} {c1 base : Nat} {L' M' : Slots} {x : Bool} (hx : doB L M wh bu o t n = x) (h1 : stepL L wh bu o t xs = L') (h2 : stepL M wh bu o t xs = M') (q : KD gb g p gr r cp cr L' M' wh bu o t A n c B xs A1 c1 base W) (hk : Kept (fun k => k = g ∨ k = gr) w W) (hb : w.heap.size ≤ base) (hT : Kept (fun k => ∃ ad, A1 = some ad ∧ ad.block = k) W V) :
    GivesDo w p g cp r gr cr L M wh bu o t n xs (.returned (.bool x)) V := by
  subst hx h1 h2
  have hge : ∀ k, (∃ ad, A1 = some ad ∧ ad.block = k) → base ≤ k := fun k ⟨ad, e, h⟩ => by have := (q.ow.block ad e).1; omega
  have hlt := q.lt
  have pl := q.pp
  have rl := q.rp
  refine ⟨rfl, ?_, ?_, hk.thenNew hT (fun k h => by have := hge k h; omega)⟩
  · exact (q.pp.kept hT (fun h => by have := hge _ h; omega) (fun h => by have := hge _ h; omega) (fun b ⟨ad, e, h⟩ => .inl (fun z => z ad e h))).any
  · exact (q.rp.kept hT (fun h => by have := hge _ h; omega) (fun h => by have := hge _ h; omega) (fun b ⟨ad, e, h⟩ => .inl (fun z => z ad e h))).any
end Go.Proofs.Ytddhdfbhjgaffaa
