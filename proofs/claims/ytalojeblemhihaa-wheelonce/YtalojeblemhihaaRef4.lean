/-
  The contract of the document's wheel's Go.
-/
import Derived.Test.YtalojeblemhihaaRef3
namespace Go.Proofs.Ytalojeblemhihaa
open Go.RowKit
set_option linter.unusedVariables false

theorem slice1_run (x n c : Nat) (hn : 0 < n) (hc : n ≤ c) (hm : c ≤ 9223372036854775807) (W : World) : (Instr.slice 67 (.slice (some ⟨x, 0, none⟩) n c) (some (.int .i64 1)) none none).run Try.prog W = .ok (.slice (cutT (some ⟨x, 0, none⟩) c 1) (n - 1) (c - 1)) W := by
  have h1 : (1 : Int) ≤ (n : Int) := by omega
  have h2 : 1 ≤ n := by omega
  have h3 : (n : Int) ≤ (c : Int) := by omega
  by_cases hq : c = 1
  · rw [cutT_eq hq]
    subst hq
    go_simp
  · rw [cutT_ne hq]
    go_simp
theorem RwB.kept2 {S : Nat → Prop} {w w' : World} {q base now : Nat} {R : List Tm} {A : Option Addr} {n c : Nat} (h : RwB w q base now R A n c) (hk : Kept S w w') (hq : ¬ S q) (hs : ∀ ad, A = some ad → ¬ S ad.block) : RwB w' q base now R A n c :=
  ⟨(hk.block q h.lt hq).trans h.blk, h.rows.kept hk hs, h.low, h.le, h.ok, h.len⟩
section
variable {w : World} {q base now : Nat} {R : List Tm}
set_option maxRecDepth 100000 in
set_option maxHeartbeats 2000000 in
theorem rgoErr_any (h : RwAt w q base now R) (n : Nat) (hE : goE now n ≠ 0) :
    Calls Try.prog 26 #[ptr q, .int .u64 n] w fun e w' => e = .returned (.tuple #[.slice none 0 0, .int .i64 (goE now n)]) ∧ w' = w := by
  obtain ⟨A, m, c, h⟩ := h
  have c0 := h.c0
  by_cases h1 : 4611686018427387904 < n
  · have e : goE now n = 11 := by unfold goE; rw [if_pos h1]
    rw [e]
    have h1i : (4611686018427387904 : Int) < (n : Int) := by omega
    clear h hE e
    go_enter Try.func26, Try.ntmps26
    go_wp2
    go_ret2
    exact ⟨rfl, rfl⟩
  · by_cases h2 : n < now
    · have e : goE now n = 22 := by unfold goE; rw [if_neg h1, if_pos h2]
      rw [e]
      have h1i : ¬ (4611686018427387904 : Int) < (n : Int) := by omega
      have h2i : (n : Int) < (now : Int) := by omega
      clear h hE e
      go_enter Try.func26, Try.ntmps26
      go_wp2
      go_ret2
      exact ⟨rfl, rfl⟩
    · exact absurd (by unfold goE; rw [if_neg h1, if_neg h2]) hE
set_option maxRecDepth 100000 in
set_option maxHeartbeats 4000000 in
theorem rgoOk_any (h : RwAt w q base now R) (n : Nat) (hE : goE now n = 0) :
    Calls Try.prog 26 #[ptr q, .int .u64 n] w fun e w' => ∃ A m c, e = .returned (.tuple #[.slice A m c, .int .i64 0]) ∧ Out .i64 3 w' w.heap.size A m c (goT n R) ∧ RwAt w' q base n (goR n R) ∧ Kept (· = q) w w' := by
  obtain ⟨A0, m0, c00, h⟩ := h
  obtain ⟨hn, hnow⟩ := goE_ok hE
  have c0 := h.c0
  have f0 := h.fr 0
  have h1i : ¬ (4611686018427387904 : Int) < (n : Int) := by omega
  have h2i : ¬ (n : Int) < (now : Int) := by omega
  have hO := h.ok
  have hlen := h.len
  have hq := h.lt
  have h3 := h.setNow hn
  have k3 : Kept (· = q) w (w.setCell ⟨q, 0, none⟩ (.int .u64 (n : Nat))) := Kept.setCell w _ _ rfl
  have hlow := h.low
  have hs3 : (w.setCell ⟨q, 0, none⟩ (.int .u64 (n : Nat))).heap.size = w.heap.size := by simp
  clear h
  go_enter Try.func26, Try.ntmps26
  go_wp2
  generalize w.setCell ⟨q, 0, none⟩ (.int .u64 (n : Nat)) = w3 at *
  have bo := alloc_below w3 (.cells #[] 3)
  have o0 : Out .i64 3 (w3.alloc (.cells #[] 3)) w.heap.size (some ⟨w3.heap.size, 0, none⟩) 0 0 [] := Out.lit0 .i64 3 w3 w.heap.size (by omega)
  rw [hs3] at o0
  have h4 := h3.new bo
  have k4 : Kept (· = q) w (w3.alloc (.cells #[] 3)) := k3.then bo
  clear h3 k3 bo c0 f0 hs3
  go_loopw [6] (fun v wr => ∃ (D S : List Tm) (A m c A1 n1 c1 : _), D ++ S = R ∧ v = .slice A m c ∧ Out .i64 3 wr w.heap.size A m c (D.map fun x => x.1) ∧ (∀ x ∈ D, x.2 ≤ n) ∧ RwB wr q base n S A1 n1 c1 ∧ Kept (· = q) w wr) (fun _ wr => match wr.cell? ⟨q, 1, none⟩ with | some (.slice _ n _) => n | _ => 0)
  case atStart => exact ⟨[], R, _, 0, 0, _, _, _, rfl, rfl, o0, by simp, h4, k4⟩
  case round =>
    obtain ⟨D, S, A, m, c, A1, n1, c1, hDS, rfl, ho, hD, hW, hK⟩ := hrel
    clear o0 h4 k4
    have q0 := hW.c0
    have q1 := hW.c1
    have f1 := hW.fr 1
    have hn1 := hW.rows.len
    have hm := ho.len
    have hDl : D.length + S.length = R.length := by rw [← hDS, List.length_append]
    cases S with
    | nil =>
      have hp := Ok.part (n := n) (D := D) (S := []) (by rw [hDS]; exact hO) hD (by simp)
      rw [hDS] at hp
      obtain rfl : n1 = 0 := by simpa using hn1.symm
      have hF : RwAt wr q base n (goR n R) := by rw [hp.2]; exact ⟨_, _, _, hW⟩
      have oF : Out .i64 3 wr w.heap.size A m c (goT n R) := by rw [hp.1]; exact ho
      clear hW ho hp hD
      go_wp2
      go_ret2
      exact ⟨A, m, c, rfl, oF, hF, hK⟩
    | cons y S =>
      obtain ⟨a, b⟩ := y
      have hn0 : 0 < n1 := by rw [← hn1]; simp
      obtain ⟨x, rfl, hxb, hxl, x0, x1⟩ := hW.rows.at0 hn0
      replace x0 : wr.cell? ⟨x, 0, none⟩ = some (.int .i64 a) := by simpa using x0
      replace x1 : wr.cell? ⟨x, 1, none⟩ = some (.int .u64 (b : Nat)) := by simpa using x1
      have hn0i : (0 : Int) < (n1 : Int) := by omega
      by_cases hb : b ≤ n
      · have hbi : (b : Int) ≤ (n : Int) := by omega
        have hcap := hW.rows.rd.cap
        have hmax : c1 ≤ 9223372036854775807 := by have := hW.rows.rd.max; unfold maxLen at this; omega
        have sl := slice1_run x n1 c1 hn0 hcap hmax
        have hwa : wfI a := by
          have : (a, b) ∈ R := by rw [← hDS]; simp
          exact (hO.wf _ this).1
        have ba := alloc_below wr (.cells #[.int .i64 a] 3)
        have ho1 := ho.below ba (Nat.le_refl _)
        have rdI : Rd .i64 (wr.alloc (.cells #[.int .i64 a] 3)) (wr.heap.size + 1) (some ⟨wr.heap.size, 0, none⟩) 1 1 [a] := rd_lit .i64 3 wr [a] 1 rfl (by omega) (by intro z hz; simp at hz; subst hz; exact hwa)
        have hml : m ≤ 16384 := by simp at hm hDl; omega
        have hsz := hK.size
        go_wp2_with (first | (at_builtin; refine wpList_app rfl (.tmp 37) (.tmp 45) 47 rfl w.heap.size Try.underlying47 info3 (by omega) A m c _ rfl ho1 (some ⟨wr.heap.size, 0, none⟩) 1 1 (wr.heap.size + 1) [a] rfl rdI (by omega) (by simp; omega) ?_))
        intro A2 m2 c2 w2 o2 g2
        have o2ge : ∀ j, (Value.slice A m c).ownBlock = some j → w.heap.size ≤ j ∧ j ≠ x := fun j hj => by
          refine ⟨ho1.own_ge j hj, ?_⟩
          rintro rfl
          cases A with
          | none => simp [Value.ownBlock] at hj
          | some ad =>
            have e : ad.block = j := by simpa [Value.ownBlock] using hj
            obtain ⟨_, cur, hh⟩ := ho.block ad rfl
            obtain ⟨_, cur2, hh2⟩ := hW.rows.block _ rfl
            simp only at hh2
            rw [e, hh2] at hh
            injection hh with hh
            injection hh with _ hh
            cases hh
        have kA : Kept (fun j => w.heap.size ≤ j ∧ j ≠ x) wr w2 := (Kept.of_below ba).trans (Kept.grown g2 o2ge)
        have h5 : RwB w2 q base n ((a, b) :: S) (some ⟨x, 0, none⟩) n1 c1 := hW.kept2 kA (by omega) (fun ad e => by cases e; simp)
        have k5 : Kept (· = q) w w2 := by
          refine ⟨kA.os.trans hK.os, kA.tape.trans hK.tape, kA.output.trans hK.output, Nat.le_trans hsz kA.size, fun k hk hs => (kA.block k (by omega) (by omega)).trans (hK.block k hk hs)⟩
        have hs2 := k5.size
        have bl := alloc_below w2 (.cells #[] 71)
        have oL := OutT.lit0 w2 w.heap.size k5.size
        have h6 := h5.new bl
        have rd := h6.rows.rd.tail (show 1 ≤ n1 by omega)
        have o6 := o2.below bl (Nat.le_refl _)
        have k6 : Kept (· = q) w (w2.alloc (.cells #[] 71)) := k5.then bl
        have q15 := h6.c1
        have q15' := h5.c1
        have hok := hW.ok.sub (List.sublist_cons_self (a, b) S)
        have hlS : S.length ≤ 16384 := by simp at hDl; omega
        have hDb : ∀ z ∈ D ++ [(a, b)], z.2 ≤ n := fun z hz => by
          rcases List.mem_append.1 hz with h9 | h9
          · exact hD z h9
          · obtain rfl := List.mem_singleton.1 h9
            exact hb
        have hDS' : (D ++ [(a, b)]) ++ S = R := by rw [← hDS]; simp
        have hmap : (D.map fun x => x.1) ++ [a] = (D ++ [(a, b)]).map fun x => x.1 := by simp
        rw [hmap] at o6
        have q1' := q1
        have hS1 : S.length = n1 - 1 := by have := hn1; simp at this; omega
        clear hD hDS hW ho ho1 rdI ba g2 o2ge kA h5 hK k5 o2 hmap q1 q0 f1 bl
        go_wp2_with (first | (at_builtin; refine wpList_appT (some 54) rfl rfl (.tmp 48) (.tmp 53) rfl w.heap.size (some ⟨w2.heap.size, 0, none⟩) 0 0 [] rfl oL (cutT (some ⟨x, 0, none⟩) c1 1) (n1 - 1) (c1 - 1) _ S rfl rd (by omega) k6.size ?_))
        intro A7 n7 c7 w7 o7 g7
        rw [List.nil_append] at o7
        have kB : Kept (fun j => j = w2.heap.size) (w2.alloc (.cells #[] 71)) w7 := Kept.grown g7 (fun j hj => by simp [Value.ownBlock] at hj; omega)
        have hxs := (Array.getElem?_eq_some_iff.1 h6.blk).1
        have hq2 : q ≠ w2.heap.size := by
          have := World.block_lt_of_cell? _ _ q15'
          simp only at this
          omega
        have hx2 : x ≠ w2.heap.size := by
          rintro rfl
          obtain ⟨_, cur2, hh2⟩ := h6.rows.block _ rfl
          simp only at hh2
          rw [heap_alloc_new] at hh2
          injection hh2 with hh2
          injection hh2 with hh2
          have hz := h6.rows.form
          rcases hz with ⟨e, _⟩ | ⟨gg, cur, e, _, hh3, h8, _, h10, _⟩
          · cases e
          · injection e with e
            injection e with e
            subst e
            rw [heap_alloc_new] at hh3
            injection hh3 with hh3
            injection hh3 with hh3
            subst hh3
            simp at h10
            omega
        have h7 := h6.kept2 kB hq2 (fun ad e => by cases e; exact hx2)
        have oA := o6.kept kB (fun ad e => by
          rintro e2
          obtain ⟨_, cur, hh⟩ := o6.block ad e
          rw [e2, heap_alloc_new] at hh
          injection hh with hh
          injection hh with _ hh
          cases hh)
        have q17 := h7.c1
        have f17 := h7.fr 1
        have k7 : Kept (· = q) w w7 := by
          refine ⟨kB.os.trans k6.os, kB.tape.trans k6.tape, kB.output.trans k6.output, Nat.le_trans k6.size kB.size, fun k hk hs => (kB.block k (by have := k6.size; omega) (by omega)).trans (k6.block k hk hs)⟩
        have h8 := h7.setRows (o7.lower (by omega)) hok hlS
        have k8 := k7.trans (Kept.setCell (S := (· = q)) w7 ⟨q, 1, none⟩ (.slice A7 n7 c7) rfl)
        have o8 := oA.kept (S := (· = q)) (Kept.setCell w7 ⟨q, 1, none⟩ (.slice A7 n7 c7) rfl) (fun ad e => by have := (oA.block ad e).1; omega)
        have q18 := h8.c1
        have hn7 := o7.len
        have qr := hn1
        clear h7 o7 oA k7 kB h6 oL rd g7 o6 k6 hx2 hq2 hxs
        go_wp2
        go_roundw
        case rel => exact ⟨D ++ [(a, b)], S, A2, m2, c2, A7, n7, c7, hDS', rfl, o8, hDb, h8, k8⟩
        case measure =>
          have hq1 := q1'
          simp only [q18, hq1]
          omega
      · have hbi : ¬ (b : Int) ≤ (n : Int) := by omega
        have hp := Ok.part (n := n) (D := D) (S := (a, b) :: S) (by rw [hDS]; exact hO) hD (by intro z hz; simp at hz; subst hz; simp; omega)
        rw [hDS] at hp
        have hF : RwAt wr q base n (goR n R) := by rw [hp.2]; exact ⟨_, _, _, hW⟩
        have oF : Out .i64 3 wr w.heap.size A m c (goT n R) := by rw [hp.1]; exact ho
        clear hW ho hp hD
        go_wp2
        go_ret2
        exact ⟨A, m, c, rfl, oF, hF, hK⟩
theorem rgo_any (h : RwAt w q base now R) (n : Nat) :
    Calls Try.prog 26 #[ptr q, .int .u64 n] w fun e w' => ∃ A m c, e = .returned (.tuple #[.slice A m c, .int .i64 (goE now n)]) ∧ Out .i64 3 w' w.heap.size A m c (goL now n R) ∧ RwAt w' q base (goN now n) (goRR now n R) ∧ Kept (· = q) w w' := by
  by_cases hE : goE now n = 0
  · have e1 : goL now n R = goT n R := by unfold goL; rw [if_pos hE]
    have e2 : goN now n = n := by unfold goN; rw [if_pos hE]
    have e3 : goRR now n R = goR n R := by unfold goRR; rw [if_pos hE]
    rw [e1, e2, e3, hE]
    exact rgoOk_any h n hE
  · have e1 : goL now n R = [] := by unfold goL; rw [if_neg hE]
    have e2 : goN now n = now := by unfold goN; rw [if_neg hE]
    have e3 : goRR now n R = R := by unfold goRR; rw [if_neg hE]
    rw [e1, e2, e3]
    refine (rgoErr_any h n hE).mono ?_
    rintro e w' ⟨rfl, rfl⟩
    exact ⟨none, 0, 0, rfl, Out.nil, h, Kept.refl _ _⟩
end
end Go.Proofs.Ytalojeblemhihaa
