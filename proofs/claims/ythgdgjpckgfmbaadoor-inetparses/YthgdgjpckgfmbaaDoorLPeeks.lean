/-
  The law InetPeeks: what is parsed whole is peeked the same; what isn't peeked isn't parsed.
-/
import Derived.Test.YthgdgjpckgfmbaaDoorAlive
namespace Go.Proofs.YthgdgjpckgfmbaaDoor
open Go.RowKit

theorem parse_no {A : Option Addr} {n c : Nat} {xs : List Int} {W : World} {r e : Int} (hr : Rd .u8 W W.heap.size A n c xs) (hE : pE true xs = (r, e)) (he : ¬ e = 0) :
    Calls Tryd.prog 11 #[.slice A n c] W fun ev w' => ev = .returned (.tuple #[zeroP, errV r e]) ∧ Below W.heap.size W w' := by
  refine (parse_any A n c xs W hr).mono ?_
  rintro ev w' ⟨hb, ⟨_, rfl⟩ | ⟨h1, _⟩⟩
  · rw [hE]
    exact ⟨rfl, hb⟩
  · rw [hE] at h1
    exact absurd h1 he
theorem parse_yes {A : Option Addr} {n c : Nat} {xs : List Int} {W : World} {h : Hd} {ys : List Int} {m : Nat} (hr : Rd .u8 W W.heap.size A n c xs) (hE : (pE true xs).2 = 0) (hh : hdOf xs = h) (hy : bodyOf xs = ys) (hm : ys.length = m) :
    Calls Tryd.prog 11 #[.slice A n c] W fun ev w' => ∃ g, ev = .returned (.tuple #[pkV h (some ⟨g, 0, none⟩) m m, .nilIface]) ∧ Row w' g ys ∧ W.heap.size ≤ g ∧ Below W.heap.size W w' := by
  subst hh hy hm
  refine (parse_any A n c xs W hr).mono ?_
  rintro ev w' ⟨hb, ⟨h1, _⟩ | ⟨_, g, m, rfl, row, hg, hl⟩⟩
  · exact absurd hE h1
  · subst hl
    exact ⟨g, rfl, row, hg, hb⟩
theorem peek_no {A : Option Addr} {n c : Nat} {xs : List Int} {W : World} {r e : Int} (hr : Rd .u8 W W.heap.size A n c xs) (hE : pE false xs = (r, e)) (he : ¬ e = 0) :
    Calls Tryd.prog 13 #[.slice A n c] W fun ev w' => ev = .returned (.tuple #[zeroP, errV r e]) ∧ Below W.heap.size W w' := by
  refine (peek_any A n c xs W hr).mono ?_
  rintro ev w' ⟨hb, ⟨_, rfl⟩ | ⟨h1, _⟩⟩
  · rw [hE]
    exact ⟨rfl, hb⟩
  · rw [hE] at h1
    exact absurd h1 he
theorem peek_yes {A : Option Addr} {n c : Nat} {xs : List Int} {W : World} {h : Hd} {ys : List Int} {m : Nat} (hr : Rd .u8 W W.heap.size A n c xs) (hE : (pE false xs).2 = 0) (hh : hdOf xs = h) (hy : bodyOf xs = ys) (hm : ys.length = m) :
    Calls Tryd.prog 13 #[.slice A n c] W fun ev w' => ∃ g, ev = .returned (.tuple #[pkV h (some ⟨g, 0, none⟩) m m, .nilIface]) ∧ Row w' g ys ∧ W.heap.size ≤ g ∧ Below W.heap.size W w' := by
  subst hh hy hm
  refine (peek_any A n c xs W hr).mono ?_
  rintro ev w' ⟨hb, ⟨h1, _⟩ | ⟨_, g, m, rfl, row, hg, hl⟩⟩
  · exact absurd hE h1
  · subst hl
    exact ⟨g, rfl, row, hg, hb⟩
theorem bE_two {xs : List Int} (h : (bE true xs).2 = 0) : (bE false xs).2 = 0 := by
  obtain ⟨h1, h2, h3, h4, h5, _⟩ := bE_ok h
  rcases bE_cases false xs with ⟨q, e⟩ | ⟨_, q, e⟩ | ⟨_, _, q, e⟩ | ⟨_, _, _, q, e⟩ | ⟨_, _, _, _, q, e⟩ | ⟨_, _, _, _, _, e⟩
  · omega
  · exact absurd h2 q
  · omega
  · rcases q with q | q
    · omega
    · exact absurd q.1 (by decide)
  · omega
  · rw [e]
theorem pE_ok {b : Bool} {xs : List Int} (h : (pE b xs).2 = 0) : (bE b xs).2 = 0 ∧ (b = true → totV (xs.take (hdL xs)) = 65535) ∧ pE b xs = rE (hdL xs) xs := by
  by_cases hb : (bE b xs).2 = 0
  · by_cases hs : b = true → totV (xs.take (hdL xs)) = 65535
    · exact ⟨hb, hs, pE_read hb hs⟩
    · have hbt : b = true := by cases b <;> simp_all
      subst hbt
      rw [pE_sum hb (fun q => hs (fun _ => q))] at h
      exact absurd h (by decide)
  · rw [pE_bad hb] at h
    exact absurd h hb
theorem pE_peek {xs : List Int} (h : (pE true xs).2 = 0) : (pE false xs).2 = 0 := by
  obtain ⟨h1, _, h3⟩ := pE_ok h
  rw [pE_read (bE_two h1) (fun q => absurd q (by decide)), ← h3]
  exact h
theorem pE_part {xs : List Int} (h : ¬ (pE true xs).2 = 0) : ¬ (pE false xs).2 = 0 ∨ (pE true xs).2 = 13 ∨ (pE true xs).2 = 12 := by
  by_cases hb : (bE true xs).2 = 0
  · by_cases hs : totV (xs.take (hdL xs)) = 65535
    · left
      rw [pE_read (bE_two hb) (fun q => absurd q (by decide)), ← pE_read hb (fun _ => hs)]
      exact h
    · rw [pE_sum hb hs]
      exact .inr (.inl rfl)
  · rw [pE_bad hb]
    have key : ∀ r e, bE false xs = (r, e) → ¬ e = 0 → ¬ (pE false xs).2 = 0 := fun r e q he => by
      have hb' : ¬ (bE false xs).2 = 0 := by rw [q]; exact he
      rw [pE_bad hb', q]
      exact he
    rcases bE_cases true xs with ⟨q, e⟩ | ⟨q1, q2, e⟩ | ⟨q1, q2, q3, e⟩ | ⟨_, _, _, q, e⟩ | ⟨q1, q2, q3, q4, q5, e⟩ | ⟨_, _, _, _, _, e⟩
    · rw [e]; exact .inr (.inr rfl)
    · left
      refine key 3 15 ?_ (by decide)
      unfold bE
      rw [if_neg (by omega), if_pos q2]
    · left
      refine key 1 10 ?_ (by decide)
      unfold bE
      rw [if_neg (by omega), if_neg (fun q => q q2), if_pos q3]
    · rw [e]; exact .inr (.inr rfl)
    · left
      refine key 1 10 ?_ (by decide)
      unfold bE
      rw [if_neg (by omega), if_neg (fun q => q q2), if_neg (by omega), if_neg (by
        rintro (q | q)
        · omega
        · exact absurd q.1 (by decide)), if_pos q5]
    · rw [e] at hb; exact absurd rfl hb
theorem body_len {b : Bool} {xs : List Int} (h : (pE b xs).2 = 0) : (bodyOf xs).length + 20 = min (told xs) xs.length := by
  obtain ⟨h1, h2, h3, h4, h5, _⟩ := bE_ok (pE_ok h).1
  unfold bodyOf
  rw [List.length_drop, List.length_take]
  omega
theorem pE_pair (b : Bool) (xs : List Int) (h : ¬ (pE b xs).2 = 0) : ∃ r e, pE b xs = (r, e) ∧ ¬ e = 0 := ⟨(pE b xs).1, (pE b xs).2, rfl, h⟩
theorem body_wf {xs : List Int} (h : ∀ x ∈ xs, (Lit.int .u8 x).wf = true) : ∀ x ∈ bodyOf xs, (Lit.int .u8 x).wf = true := fun x hx => h x (List.mem_of_mem_take (List.mem_of_mem_drop hx))

theorem peeks_far (A : Option Addr) (n c : Nat) (w : World) (hg : Laid w) (hn : 3000 < n) (hmax : n ≤ 9223372036854775807) : Calls Tryd.prog 8 #[.slice A n c] w fun e w' => e = .returned (.bool true) ∧ Below w.heap.size w w' := by
  go_enter Tryd.func8, Tryd.ntmps8
  go_wp2_with (go_at_call 9; refine (alive_any _ hg).mono ?_; rintro ev w1 ⟨rfl, hb⟩)
  go_ret
  exact ⟨rfl, hb⟩

set_option maxRecDepth 100000 in
set_option maxHeartbeats 4000000 in
theorem peeks_good (A : Option Addr) (n c : Nat) (xs : List Int) (w : World) (hg : Laid w) (hr : Rd .u8 w w.heap.size A n c xs) (hn : n ≤ 3000) (hE : (pE true xs).2 = 0) : Calls Tryd.prog 8 #[.slice A n c] w fun e w' => e = .returned (.bool true) ∧ Below w.heap.size w w' := by
  have hl := body_len hE
  have HL := Lib.hid hr.len
  obtain ⟨h, hh⟩ : ∃ h, hdOf xs = h := ⟨_, rfl⟩
  obtain ⟨ys, hy⟩ : ∃ ys, bodyOf xs = ys := ⟨_, rfl⟩
  obtain ⟨m, hm⟩ : ∃ m, ys.length = m := ⟨_, rfl⟩
  have hmn : (m : Int) ≤ (n : Int) - 20 := by rw [← hm, ← hy, ← HL.out]; omega
  have Hw : Hid (∀ x ∈ ys, (Lit.int .u8 x).wf = true) := Lib.hid (by rw [← hy]; exact body_wf hr.2.2.2.1)
  have Hm := Lib.hid hm
  have c1 := Lib.hid (fun W (q : Rd .u8 W W.heap.size A n c xs) => parse_yes q hE hh hy hm)
  have c2 := Lib.hid (fun W (q : Rd .u8 W W.heap.size A n c xs) => peek_yes q (pE_peek hE) hh hy hm)
  clear hl hE hh hy hm HL
  have k := Kn.start hg
  have hcap := hr.cap
  have hmax := hr.max
  go_enter Tryd.func8, Tryd.ntmps8
  go_wp2_with fail
  refine (alive_any _ k.laid).mono ?_
  rintro ev w1 ⟨rfl, hb⟩
  have r0 := hr.below hb (Nat.le_refl _)
  replace k := k.step hb
  clear hr hb hg
  go_wp2_with fail
  refine (c1.out _ (r0.more k.below.size)).mono ?_
  rintro ev w2 ⟨g1, rfl, row1, -, hb⟩
  replace hb := hb.trans ((alloc_below w2 (.cells (pkC h (some ⟨g1, 0, none⟩) m m) 28)).mono hb.size)
  replace r0 := r0.below hb k.below.size
  replace k := k.step hb
  replace row1 := row1.below (alloc_below w2 (.cells (pkC h (some ⟨g1, 0, none⟩) m m) 28)) row1.lt
  have p := PkAt.new w2 28 h (some ⟨g1, 0, none⟩) m m
  clear hb
  go_wp2_with fail
  refine (c2.out _ (r0.more k.below.size)).mono ?_
  rintro ev w3 ⟨g2, rfl, row2, -, hb⟩
  replace hb := hb.trans ((alloc_below w3 (.cells (pkC h (some ⟨g2, 0, none⟩) m m) 28)).mono hb.size)
  replace r0 := r0.below hb k.below.size
  replace k := k.step hb
  replace row1 := row1.below hb row1.lt
  replace row2 := row2.below (alloc_below w3 (.cells (pkC h (some ⟨g2, 0, none⟩) m m) 28)) row2.lt
  replace p := p.step hb
  have p' := PkAt.new w3 28 h (some ⟨g2, 0, none⟩) m m
  clear hb c1 c2
  generalize w2.heap.size = gp at *
  obtain ⟨a0, a1, a2, a3, a4, a5, a6, a7⟩ := p.cells
  obtain ⟨b0, b1, b2, b3, b4, b5, b6, b7⟩ := p'.cells
  go_wp2_with fail
  have sm := same_pk h h _ _ m m m m ys ys _ (row1.rdW Hm.out (by omega) Hw.out) (row2.rdW Hm.out (by omega) Hw.out)
  rw [smB_self] at sm
  refine sm.mono ?_
  rintro ev w4 ⟨rfl, hb⟩
  replace k := k.step hb
  replace p := p.step hb
  clear a0 a1 a2 a3 a4 a5 a6 a7
  clear b0 b1 b2 b3 b4 b5 b6 b7
  clear hb sm p' row1 row2
  obtain ⟨a0, a1, a2, a3, a4, a5, a6, a7⟩ := p.cells
  go_wp2
  go_ret
  exact ⟨rfl, k.below⟩

set_option maxRecDepth 100000 in
set_option maxHeartbeats 4000000 in
theorem peeks_bad (A : Option Addr) (n c : Nat) (xs : List Int) (w : World) (hg : Laid w) (hr : Rd .u8 w w.heap.size A n c xs) (hn : n ≤ 3000) (r e : Int) (hE : pE true xs = (r, e)) (he : ¬ e = 0) (r' e' : Int) (hE' : pE false xs = (r', e')) (he' : ¬ e' = 0) : Calls Tryd.prog 8 #[.slice A n c] w fun e w' => e = .returned (.bool true) ∧ Below w.heap.size w w' := by
  have c1 := Lib.hid (fun W (q : Rd .u8 W W.heap.size A n c xs) => parse_no q hE he)
  have c2 := Lib.hid (fun W (q : Rd .u8 W W.heap.size A n c xs) => peek_no q hE' he')
  clear hE hE'
  have k := Kn.start hg
  have hcap := hr.cap
  have hmax := hr.max
  go_enter Tryd.func8, Tryd.ntmps8
  go_wp2_with fail
  refine (alive_any _ k.laid).mono ?_
  rintro ev w1 ⟨rfl, hb⟩
  have r0 := hr.below hb (Nat.le_refl _)
  replace k := k.step hb
  clear hr hb hg
  go_wp2_with fail
  refine (c1.out _ (r0.more k.below.size)).mono ?_
  rintro ev w2 ⟨rfl, hb⟩
  replace hb := hb.trans ((alloc_below w2 (.cells (pkC zeroH none 0 0) 28)).mono hb.size)
  replace r0 := r0.below hb k.below.size
  replace k := k.step hb
  clear hb
  go_wp2_with fail
  refine (c2.out _ (r0.more k.below.size)).mono ?_
  rintro ev w3 ⟨rfl, hb⟩
  replace hb := hb.trans ((alloc_below w3 (.cells (pkC zeroH none 0 0) 28)).mono hb.size)
  replace r0 := r0.below hb k.below.size
  replace k := k.step hb
  clear hb
  go_wp2
  go_ret
  exact ⟨rfl, k.below⟩

set_option maxRecDepth 100000 in
set_option maxHeartbeats 4000000 in
theorem peeks_part (A : Option Addr) (n c : Nat) (xs : List Int) (w : World) (hg : Laid w) (hr : Rd .u8 w w.heap.size A n c xs) (hn : n ≤ 3000) (r e : Int) (hE : pE true xs = (r, e)) (he : e = 13 ∨ e = 12) (hE' : (pE false xs).2 = 0) : Calls Tryd.prog 8 #[.slice A n c] w fun e w' => e = .returned (.bool true) ∧ Below w.heap.size w w' := by
  have hl := body_len hE'
  have HL := Lib.hid hr.len
  obtain ⟨h, hh⟩ : ∃ h, hdOf xs = h := ⟨_, rfl⟩
  obtain ⟨ys, hy⟩ : ∃ ys, bodyOf xs = ys := ⟨_, rfl⟩
  obtain ⟨m, hm⟩ : ∃ m, ys.length = m := ⟨_, rfl⟩
  have c1 := Lib.hid (fun W (q : Rd .u8 W W.heap.size A n c xs) => parse_no q hE (by omega))
  have c2 := Lib.hid (fun W (q : Rd .u8 W W.heap.size A n c xs) => peek_yes q hE' hh hy hm)
  have hee : ¬ e = 13 → e = 12 := by omega
  clear hl hE hE' hh hy hm HL he
  have k := Kn.start hg
  have hcap := hr.cap
  have hmax := hr.max
  go_enter Tryd.func8, Tryd.ntmps8
  go_wp2_with fail
  refine (alive_any _ k.laid).mono ?_
  rintro ev w1 ⟨rfl, hb⟩
  have r0 := hr.below hb (Nat.le_refl _)
  replace k := k.step hb
  clear hr hb hg
  go_wp2_with fail
  refine (c1.out _ (r0.more k.below.size)).mono ?_
  rintro ev w2 ⟨rfl, hb⟩
  replace hb := hb.trans ((alloc_below w2 (.cells (pkC zeroH none 0 0) 28)).mono hb.size)
  replace r0 := r0.below hb k.below.size
  replace k := k.step hb
  clear hb
  go_wp2_with fail
  refine (c2.out _ (r0.more k.below.size)).mono ?_
  rintro ev w3 ⟨g2, rfl, -, -, hb⟩
  replace hb := hb.trans ((alloc_below w3 (.cells (pkC h (some ⟨g2, 0, none⟩) m m) 28)).mono hb.size)
  replace r0 := r0.below hb k.below.size
  replace k := k.step hb
  clear hb
  go_wp2_with fail
  refine (whyIs_err r e 13 _).mono ?_
  rintro ev w4 ⟨rfl, hb⟩
  replace k := k.step hb
  clear hb
  by_cases h13 : e = 13
  · have q : (e == 13) = true := by simpa using h13
    rw [q]
    clear h13 hee
    go_wp2
    go_ret
    exact ⟨rfl, k.below⟩
  · have q : (e == 13) = false := by simpa using h13
    have q' : (e == 12) = true := by simpa using hee h13
    rw [q]
    have cw := whyIs_err r e 12
    rw [q'] at cw
    clear h13 hee q q'
    go_wp2_with fail
    refine (cw _).mono ?_
    rintro ev w5 ⟨rfl, hb⟩
    replace k := k.step hb
    clear hb cw
    go_wp2
    go_ret
    exact ⟨rfl, k.below⟩
theorem peeks_law (A : Option Addr) (n c : Nat) (xs : List Int) (w : World) (hg : Laid w) (hr : Rd .u8 w w.heap.size A n c xs) : Calls Tryd.prog 8 #[.slice A n c] w fun e w' => e = .returned (.bool true) ∧ Below w.heap.size w w' := by
  by_cases hn : 3000 < n
  · exact peeks_far A n c w hg hn (Nat.le_trans hr.cap hr.max)
  · have hn' : n ≤ 3000 := by omega
    by_cases h : (pE true xs).2 = 0
    · exact peeks_good A n c xs w hg hr hn' h
    · obtain ⟨r, e, hE, he⟩ := pE_pair true xs h
      by_cases h' : (pE false xs).2 = 0
      · refine peeks_part A n c xs w hg hr hn' r e hE ?_ h'
        have := pE_part h
        rw [hE] at this
        rcases this with q | q
        · exact absurd h' q
        · exact q
      · obtain ⟨r', e', hE', he'⟩ := pE_pair false xs h'
        exact peeks_bad A n c xs w hg hr hn' r e hE he r' e' hE' he'
end Go.Proofs.YthgdgjpckgfmbaaDoor
