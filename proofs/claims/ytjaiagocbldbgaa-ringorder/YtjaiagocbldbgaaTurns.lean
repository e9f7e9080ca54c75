/-
  Contracts of the program's Take, Hand, Free.
-/
import Derived.Test.YtjaiagocbldbgaaIndex
import Derived.Test.YtjaiagocbldbgaaForce
namespace Go.Proofs.Ytjaiagocbldbgaa
open Go.RowKit
set_option linter.unusedVariables false

theorem tk_owner {L : Slots} {o : Int} {n : Nat} (h : ¬ isOwn o) : tkE L o n = 11 := by unfold tkE; rw [if_neg (fun q => h q.1)]
theorem tk_long {L : Slots} {o : Int} {n : Nat} (h : 1514 < n) : tkE L o n = 11 := by unfold tkE; rw [if_neg (fun q => by omega)]
theorem tk_full {L : Slots} {o : Int} {n : Nat} (h : isOwn o) (hn : n ≤ 1514) (hf : ¬ free1 L < L.length) : tkE L o n = 18 := by unfold tkE; rw [if_pos ⟨h, hn⟩, if_neg hf]
theorem tk_ok {L : Slots} {o : Int} {n : Nat} (h : isOwn o) (hn : n ≤ 1514) (hf : free1 L < L.length) : tkE L o n = 0 := by unfold tkE; rw [if_pos ⟨h, hn⟩, if_pos hf]
theorem tkE_of {L : Slots} {o : Int} {n : Nat} (h : tkE L o n = 0) : isOwn o ∧ n ≤ 1514 ∧ free1 L < L.length := by
  by_cases h1 : isOwn o ∧ n ≤ 1514
  · by_cases h2 : free1 L < L.length
    · exact ⟨h1.1, h1.2, h2⟩
    · rw [tk_full h1.1 h1.2 h2] at h; omega
  · unfold tkE at h; rw [if_neg h1] at h; omega
theorem tkN_no {L : Slots} {o : Int} {n : Nat} (h : ¬ tkE L o n = 0) : tkN L o n = -1 := by unfold tkN; rw [if_neg h]
theorem tkN_yes {L : Slots} {o : Int} {n : Nat} (h : tkE L o n = 0) : tkN L o n = free1 L := by unfold tkN; rw [if_pos h]
theorem tkL_no {L : Slots} {o : Int} {b : List Int} (h : ¬ tkE L o b.length = 0) : tkL L o b = L := by unfold tkL; rw [if_neg h]
theorem tkL_yes {L : Slots} {o : Int} {b : List Int} (h : tkE L o b.length = 0) : tkL L o b = L.set (free1 L) (o, b) := by unfold tkL; rw [if_pos h]
theorem tkL_len (L : Slots) (o : Int) (b : List Int) : (tkL L o b).length = L.length := by unfold tkL; split <;> simp
theorem hdL_len (L : Slots) (b f t : Int) : (hdL L b f t).length = L.length := by unfold hdL; split <;> simp
theorem frL_len (L : Slots) (b o : Int) : (frL L b o).length = L.length := by unfold frL; split <;> simp
theorem RowOk.own {o : Int} {b : List Int} (h : isOwn o) (hb : b.length ≤ 1514) : RowOk o b := ⟨⟨by have := h.1; omega, h.2⟩, fun e => by have := h.1; omega, hb⟩
theorem RowOk.free : RowOk 0 [] := ⟨by omega, fun _ => rfl, by simp⟩

theorem slot_one (o : Int) (A : Option Addr) (m c : Nat) : (#[Value.int .i64 o, .slice A m c] : Array Value).all (·.oneCell') = true := by simp [Value.oneCell']
/-- What Take gives. -/
def GivesT (tp ts : TypeId) (w : World) (p g cp : Nat) (L : Slots) (F : Nat → Prop) (o : Int) (n : Nat) (xs : List Int) : Ending → World → Prop := fun e w' =>
  e = .returned (.tuple #[.int .i64 (tkN L o n), .int .i64 (tkE L o n)]) ∧ PlAt tp ts w' p g cp (tkL L o xs) F ∧ Kept (· = g) w w'
theorem GivesT.no {tp ts : TypeId} {w w' : World} {p g cp : Nat} {L : Slots} {F : Nat → Prop} {o : Int} {n : Nat} {xs : List Int} {E : Int} (h : PlAt tp ts w p g cp L F) (hl : xs.length = n) (hE : tkE L o n = E) (h0 : ¬ E = 0) (hb : Below w.heap.size w w') :
    GivesT tp ts w p g cp L F o n xs (.returned (.tuple #[.int .i64 (-1), .int .i64 E])) w' := by
  subst hE
  refine ⟨by rw [tkN_no h0], ?_, Kept.of_below hb⟩
  rw [tkL_no (by rw [hl]; exact h0)]
  exact h.below hb

set_option maxRecDepth 100000 in
set_option maxHeartbeats 2000000 in
theorem take_owner (p g cp : Nat) (L : Slots) (F : Nat → Prop) (o : Int) (A : Option Addr) (n c B : Nat) (xs : List Int) (w : World) (h : Pp w p g cp L F) (hr : Rd .u8 w B A n c xs) (ho : ¬ isOwn o) :
    Calls Try.prog 29 #[ptr p, .int .i64 o, .slice A n c] w (GivesT 67 77 w p g cp L F o n xs) := by
  have I := Lib.hid (isOwner_any o w)
  rw [isOw_no ho] at I
  have R := Lib.hid (fun w' (hb : Below w.heap.size w w') => GivesT.no (o := o) h hr.len (tk_owner ho) (by decide) hb)
  have hm := hr.max
  clear h ho hr
  go_enter Try.func29, Try.ntmps29
  go_wp2_with fail
  refine I.out.mono ?_
  rintro ev w1 ⟨rfl, rfl⟩
  go_wp2
  go_ret2
  exact R.out _ (Below.refl _ _)
set_option maxRecDepth 100000 in
set_option maxHeartbeats 2000000 in
theorem take_long (p g cp : Nat) (L : Slots) (F : Nat → Prop) (o : Int) (A : Option Addr) (n c B : Nat) (xs : List Int) (w : World) (h : Pp w p g cp L F) (hr : Rd .u8 w B A n c xs) (ho : isOwn o) (hn : 1514 < n) :
    Calls Try.prog 29 #[ptr p, .int .i64 o, .slice A n c] w (GivesT 67 77 w p g cp L F o n xs) := by
  have I := Lib.hid (isOwner_any o w)
  rw [isOw_yes ho] at I
  have R := Lib.hid (fun w' (hb : Below w.heap.size w w') => GivesT.no (o := o) h hr.len (tk_long hn) (by decide) hb)
  have hm := hr.max
  have n1 : (1514 : Int) < (n : Int) := by omega
  clear h ho hr
  go_enter Try.func29, Try.ntmps29
  go_wp2_with fail
  refine I.out.mono ?_
  rintro ev w1 ⟨rfl, rfl⟩
  go_wp2
  go_ret2
  exact R.out _ (Below.refl _ _)
set_option maxRecDepth 100000 in
set_option maxHeartbeats 2000000 in
theorem take_full (p g cp : Nat) (L : Slots) (F : Nat → Prop) (o : Int) (A : Option Addr) (n c B : Nat) (xs : List Int) (w : World) (h : Pp w p g cp L F) (hr : Rd .u8 w B A n c xs) (hL : 0 < L.length) (ho : isOwn o) (hn : n ≤ 1514) (hf : ¬ free1 L < L.length) :
    Calls Try.prog 29 #[ptr p, .int .i64 o, .slice A n c] w (GivesT 67 77 w p g cp L F o n xs) := by
  have I := Lib.hid (isOwner_any o w)
  rw [isOw_yes ho] at I
  have hm := hr.max
  have hlx := Lib.hid hr.len
  have n1 : ¬ (1514 : Int) < (n : Int) := by omega
  obtain ⟨N, hN⟩ : ∃ N, L.length = N := ⟨_, rfl⟩
  have hn0 : 0 < N := by omega
  have hNl : N ≤ 1024 := by have := h.len; omega
  have HN := Lib.hid hN
  have R := Lib.hid (fun w' (hb : Below w.heap.size w w') => GivesT.no (o := o) h hr.len (tk_full ho hn hf) (by decide) hb)
  have cI : Hid (∀ b W (q : Pp W p g cp L F) (hc : W.cell? ⟨b, 0, none⟩ = some (.int .i64 0)), Calls Try.prog 49 #[.slice (some ⟨g, 0, none⟩) N cp, clo b] W fun e w' => e = .returned (.int .i64 (-1)) ∧ Below W.heap.size W w') := Lib.hid (fun b W q hc => by
    have := index_any p g cp b L F W q hL hc
    rwa [idx1_no hf, hN] at this)
  clear ho hr hf hN hL hlx
  go_enter Try.func29, Try.ntmps29
  go_wp2_with fail
  refine I.out.mono ?_
  rintro ev w1 ⟨rfl, rfl⟩
  clear I
  go_wp2
  refine wp_region_held_drew (S := fun w' => Pp w' p g cp L F) (by kernel_rfl) (h.below (below_drew _)) (fun hHeld => ?_)
  have q := h.below (below_drew w)
  have b := below_drew w
  change wpAnyH _ _ _ _ _ _ _ _ (World.drew _)
  generalize World.drew w = W0 at *
  refine wpAnyH_at (i := 0) (some 17) (v := ?v0z1) rfl rfl (by kernel_rfl) (by kernel_rfl) (by kernel_rfl) (fun _ _ _ h => h) (Or.inl ⟨by rfl, ?y0z1⟩) (by assumption) ?r0z1
  case y0z1 =>
    intro w9 hSw
    have a0 := PlAt.ptr0 hSw HN.out hn0; clear hSw
    go_simp
    all_goals with_reducible rfl
  simp only [Act.put, List.setIfInBounds_toArray, List.set_cons_zero, List.set_cons_succ]
  refine wpAnyH_at (i := 1) (some 18) (v := ?v1z2) rfl rfl (by kernel_rfl) (by kernel_rfl) (by kernel_rfl) (fun _ _ _ h => h) (Or.inl ⟨by rfl, ?y1z2⟩) (by assumption) ?r1z2
  case y1z2 =>
    intro w9 hSw
    have a0 := PlAt.ptr0 hSw HN.out hn0; clear hSw
    go_simp
    all_goals with_reducible rfl
  simp only [Act.put, List.setIfInBounds_toArray, List.set_cons_zero, List.set_cons_succ]
  refine wpAnyH_at (i := 2) (some 19) (v := ?v2z3) rfl rfl (by kernel_rfl) (by kernel_rfl) (by kernel_rfl) (fun _ _ _ h => h) (Or.inl ⟨by rfl, ?y2z3⟩) (by assumption) ?r2z3
  case y2z3 =>
    intro w9 hSw
    have a0 := PlAt.ptr0 hSw HN.out hn0; clear hSw
    go_simp
    all_goals with_reducible rfl
  simp only [Act.put, List.setIfInBounds_toArray, List.set_cons_zero, List.set_cons_succ]
  refine wpAnyH_at (i := 3) (some 20) (v := ?v3z4) rfl rfl (by kernel_rfl) (by kernel_rfl) (by kernel_rfl) (fun _ _ _ h => h) (Or.inl ⟨by rfl, ?y3z4⟩) (by assumption) ?r3z4
  case y3z4 =>
    intro w9 hSw
    have a0 := PlAt.ptr0 hSw HN.out hn0; clear hSw
    go_simp
    all_goals with_reducible rfl
  simp only [Act.put, List.setIfInBounds_toArray, List.set_cons_zero, List.set_cons_succ]
  refine wpAnyH_one (i := 4) (by kernel_rfl) rfl ?_
  go_wp2_with fail
  refine (isOf_any 0 _).mono ?_
  rintro ev w2 ⟨bc, rfl, hbc, -, hb2⟩
  go_wp2
  replace q := q.below hb2
  replace b := b.trans (hb2.mono b.size)
  clear hb2 hHeld
  have hHeld := q
  refine ⟨hHeld, ?_⟩
  try simp only [Act.put, List.setIfInBounds_toArray, List.set_cons_zero, List.set_cons_succ]
  refine wpAnyH_one (i := 5) (by kernel_rfl) rfl ?_
  go_wp2_with fail
  refine (cI.out _ _ q hbc).mono ?_
  rintro ev w3 ⟨rfl, hb3⟩
  go_wp2
  replace q := q.below hb3
  replace b := b.trans (hb3.mono b.size)
  clear hb3 hHeld hbc
  have hHeld := q
  refine ⟨hHeld, ?_⟩
  try simp only [Act.put, List.setIfInBounds_toArray, List.set_cons_zero, List.set_cons_succ]
  refine wpAnyH_at (i := 6) (some 8) (v := ?v6z5) rfl rfl (by kernel_rfl) (by kernel_rfl) (by kernel_rfl) (fun _ _ _ h => h) (Or.inl ⟨by rfl, ?y6z5⟩) (by assumption) ?r6z5
  case y6z5 =>
    intro w9 hSw
    clear hSw
    go_simp
    all_goals with_reducible rfl
  simp only [Act.put, List.setIfInBounds_toArray, List.set_cons_zero, List.set_cons_succ]
  refine wpAnyH_done (by kernel_rfl) ?_ _
  go_wp2_with fail
  go_wp2
  go_ret2
  exact R.out _ b
set_option maxRecDepth 100000 in
set_option maxHeartbeats 2000000 in
theorem take_ok (p g cp : Nat) (L : Slots) (F : Nat → Prop) (o : Int) (A : Option Addr) (n c B : Nat) (xs : List Int) (w : World) (h : Pp w p g cp L F) (hr : Rd .u8 w B A n c xs) (hL : 0 < L.length) (hB : B ≤ w.heap.size) (hF : ∀ b, w.heap.size ≤ b → F b) (ho : isOwn o) (hn : n ≤ 1514) (hf : free1 L < L.length) :
    Calls Try.prog 29 #[ptr p, .int .i64 o, .slice A n c] w (GivesT 67 77 w p g cp L F o n xs) := by
  have I := Lib.hid (isOwner_any o w)
  rw [isOw_yes ho] at I
  have hm := hr.max
  have hlx := Lib.hid hr.len
  have n1 : ¬ (1514 : Int) < (n : Int) := by omega
  obtain ⟨N, hN⟩ : ∃ N, L.length = N := ⟨_, rfl⟩
  have hn0 : 0 < N := by omega
  have hNl : N ≤ 1024 := by have := h.len; omega
  have HN := Lib.hid hN
  obtain ⟨k, hk⟩ : ∃ k, free1 L = k := ⟨_, rfl⟩
  have hE := tk_ok ho hn hf
  have hkL : k < L.length := by omega
  have hkN : k < N := by omega
  have R : Hid (∀ w' W A m c, Below w.heap.size w W → Pp W p g cp L F → Out .u8 5 W w.heap.size A m c xs → w' = W.setCells g (k * 2) [.int .i64 o, .slice A m c] → GivesT 67 77 w p g cp L F o n xs (.returned (.tuple #[.int .i64 (k : Int), .int .i64 0])) w') := Lib.hid (fun w' W A m c hb q ho' e => by
    subst e
    obtain ⟨q1, q2⟩ := q.set (by decide) hkL (RowOk.own ho (by rw [hlx.out]; exact hn)) (ho'.lower (Nat.zero_le _)) (fun ad e => hF _ (ho'.block ad e).1)
    refine ⟨by rw [tkN_yes hE, hE, hk], ?_, Kept.ahead hb q2⟩
    rw [tkL_yes (by rw [hlx.out]; exact hE), hk]
    exact q1)
  have cI : Hid (∀ b W (q : Pp W p g cp L F) (hc : W.cell? ⟨b, 0, none⟩ = some (.int .i64 0)), Calls Try.prog 49 #[.slice (some ⟨g, 0, none⟩) N cp, clo b] W fun e w' => e = .returned (.int .i64 (k : Int)) ∧ Below W.heap.size W w') := Lib.hid (fun b W q hc => by
    have := index_any p g cp b L F W q hL hc
    rwa [idx1_yes hk hkL, hN] at this)
  have HL := Lib.hid hkL
  have ho' := Lib.hid ho
  have hF' := Lib.hid hF
  have hlx' := hlx
  clear ho hf hN hL hE hk hkL hF hlx
  go_enter Try.func29, Try.ntmps29
  go_wp2_with fail
  refine I.out.mono ?_
  rintro ev w1 ⟨rfl, rfl⟩
  clear I
  go_wp2
  refine wp_region_held_drew (S := fun w' => Pp w' p g cp L F) (by kernel_rfl) (h.below (below_drew _)) (fun hHeld => ?_)
  have q := h.below (below_drew w)
  have b := below_drew w
  change wpAnyH _ _ _ _ _ _ _ _ (World.drew _)
  generalize World.drew w = W0 at *
  refine wpAnyH_at (i := 0) (some 17) (v := ?v0z6) rfl rfl (by kernel_rfl) (by kernel_rfl) (by kernel_rfl) (fun _ _ _ h => h) (Or.inl ⟨by rfl, ?y0z6⟩) (by assumption) ?r0z6
  case y0z6 =>
    intro w9 hSw
    have a0 := PlAt.ptr0 hSw HN.out hn0; clear hSw
    go_simp
    all_goals with_reducible rfl
  simp only [Act.put, List.setIfInBounds_toArray, List.set_cons_zero, List.set_cons_succ]
  refine wpAnyH_at (i := 1) (some 18) (v := ?v1z7) rfl rfl (by kernel_rfl) (by kernel_rfl) (by kernel_rfl) (fun _ _ _ h => h) (Or.inl ⟨by rfl, ?y1z7⟩) (by assumption) ?r1z7
  case y1z7 =>
    intro w9 hSw
    have a0 := PlAt.ptr0 hSw HN.out hn0; clear hSw
    go_simp
    all_goals with_reducible rfl
  simp only [Act.put, List.setIfInBounds_toArray, List.set_cons_zero, List.set_cons_succ]
  refine wpAnyH_at (i := 2) (some 19) (v := ?v2z8) rfl rfl (by kernel_rfl) (by kernel_rfl) (by kernel_rfl) (fun _ _ _ h => h) (Or.inl ⟨by rfl, ?y2z8⟩) (by assumption) ?r2z8
  case y2z8 =>
    intro w9 hSw
    have a0 := PlAt.ptr0 hSw HN.out hn0; clear hSw
    go_simp
    all_goals with_reducible rfl
  simp only [Act.put, List.setIfInBounds_toArray, List.set_cons_zero, List.set_cons_succ]
  refine wpAnyH_at (i := 3) (some 20) (v := ?v3z9) rfl rfl (by kernel_rfl) (by kernel_rfl) (by kernel_rfl) (fun _ _ _ h => h) (Or.inl ⟨by rfl, ?y3z9⟩) (by assumption) ?r3z9
  case y3z9 =>
    intro w9 hSw
    have a0 := PlAt.ptr0 hSw HN.out hn0; clear hSw
    go_simp
    all_goals with_reducible rfl
  simp only [Act.put, List.setIfInBounds_toArray, List.set_cons_zero, List.set_cons_succ]
  refine wpAnyH_one (i := 4) (by kernel_rfl) rfl ?_
  go_wp2_with fail
  refine (isOf_any 0 _).mono ?_
  rintro ev w2 ⟨bc, rfl, hbc, -, hb2⟩
  go_wp2
  replace q := q.below hb2
  replace b := b.trans (hb2.mono b.size)
  clear hb2 hHeld
  have hHeld := q
  refine ⟨hHeld, ?_⟩
  try simp only [Act.put, List.setIfInBounds_toArray, List.set_cons_zero, List.set_cons_succ]
  refine wpAnyH_one (i := 5) (by kernel_rfl) rfl ?_
  go_wp2_with fail
  refine (cI.out _ _ q hbc).mono ?_
  rintro ev w3 ⟨rfl, hb3⟩
  go_wp2
  replace q := q.below hb3
  replace b := b.trans (hb3.mono b.size)
  clear hb3 hHeld hbc
  have hHeld := q
  refine ⟨hHeld, ?_⟩
  try simp only [Act.put, List.setIfInBounds_toArray, List.set_cons_zero, List.set_cons_succ]
  refine wpAnyH_at (i := 6) (some 8) (v := ?v6z10) rfl rfl (by kernel_rfl) (by kernel_rfl) (by kernel_rfl) (fun _ _ _ h => h) (Or.inl ⟨by rfl, ?y6z10⟩) (by assumption) ?r6z10
  case y6z10 =>
    intro w9 hSw
    clear hSw
    go_simp
    all_goals with_reducible rfl
  simp only [Act.put, List.setIfInBounds_toArray, List.set_cons_zero, List.set_cons_succ]
  refine wpAnyH_done (by kernel_rfl) ?_ _
  go_wp2_with fail
  refine wp_region_held_drew (S := fun w' => w'.cell? ⟨p, 0, none⟩ = some (.slice (some ⟨g, 0, none⟩) N cp)) (by kernel_rfl) ((q.below (below_drew _)).ptr0 HN.out hn0) (fun hHeld => ?_)
  replace b := b.trans ((below_drew w3).mono b.size)
  replace q := q.below (below_drew w3)
  have r := hr.below b hB
  replace r := r.more (Nat.le_trans hB b.size)
  change wpAnyH _ _ _ _ _ _ _ _ (World.drew _)
  generalize World.drew w3 = W1 at *
  clear hr
  refine wpAnyH_at (i := 0) (some 25) (v := ?v0z11) rfl rfl (by kernel_rfl) (by kernel_rfl) (by kernel_rfl) (fun _ _ _ h => h) (Or.inl ⟨by rfl, ?y0z11⟩) (by assumption) ?r0z11
  case y0z11 =>
    intro w9 hSw
    have a0 : w9.cell? ⟨p, 0, none⟩ = some (.slice (some ⟨g, 0, none⟩) N cp) := hSw; clear hSw
    go_simp
    all_goals with_reducible rfl
  simp only [Act.put, List.setIfInBounds_toArray, List.set_cons_zero, List.set_cons_succ]
  refine wpAnyH_at (i := 1) (some 26) (v := ?v1z12) rfl rfl (by kernel_rfl) (by kernel_rfl) (by kernel_rfl) (fun _ _ _ h => h) (Or.inl ⟨by rfl, ?y1z12⟩) (by assumption) ?r1z12
  case y1z12 =>
    intro w9 hSw
    have a0 : w9.cell? ⟨p, 0, none⟩ = some (.slice (some ⟨g, 0, none⟩) N cp) := hSw; clear hSw
    go_simp
    all_goals with_reducible rfl
  simp only [Act.put, List.setIfInBounds_toArray, List.set_cons_zero, List.set_cons_succ]
  refine wpAnyH_at (i := 2) (some 27) (v := ?v2z13) rfl rfl (by kernel_rfl) (by kernel_rfl) (by kernel_rfl) (fun _ _ _ h => h) (Or.inl ⟨by rfl, ?y2z13⟩) (by assumption) ?r2z13
  case y2z13 =>
    intro w9 hSw
    have a0 : w9.cell? ⟨p, 0, none⟩ = some (.slice (some ⟨g, 0, none⟩) N cp) := hSw; clear hSw
    go_simp
    all_goals with_reducible rfl
  simp only [Act.put, List.setIfInBounds_toArray, List.set_cons_zero, List.set_cons_succ]
  refine wpAnyH_at (i := 3) (some 28) (v := ?v3z14) rfl rfl (by kernel_rfl) (by kernel_rfl) (by kernel_rfl) (fun _ _ _ h => h) (Or.inl ⟨by rfl, ?y3z14⟩) (by assumption) ?r3z14
  case y3z14 =>
    intro w9 hSw
    have a0 : w9.cell? ⟨p, 0, none⟩ = some (.slice (some ⟨g, 0, none⟩) N cp) := hSw; clear hSw
    go_simp
    all_goals with_reducible rfl
  simp only [Act.put, List.setIfInBounds_toArray, List.set_cons_zero, List.set_cons_succ]
  refine wpAnyH_at (i := 4) (some 29) (v := ?v4z15) rfl rfl (by kernel_rfl) (by kernel_rfl) (by kernel_rfl) (fun _ _ _ h => h) (Or.inl ⟨by rfl, ?y4z15⟩) (by assumption) ?r4z15
  case y4z15 =>
    intro w9 hSw
    clear hSw
    go_simp
    all_goals with_reducible rfl
  simp only [Act.put, List.setIfInBounds_toArray, List.set_cons_zero, List.set_cons_succ]
  refine wpAnyH_at (i := 5) (some 30) (v := ?v5z16) rfl rfl (by kernel_rfl) (by kernel_rfl) (by kernel_rfl) (fun _ _ _ h => h) (Or.inl ⟨by rfl, ?y5z16⟩) (by assumption) ?r5z16
  case y5z16 =>
    intro w9 hSw
    clear hSw
    go_simp
    all_goals with_reducible rfl
  simp only [Act.put, List.setIfInBounds_toArray, List.set_cons_zero, List.set_cons_succ]
  refine wpAnyH_at (i := 6) (some 31) (v := ?v6z17) rfl rfl (by kernel_rfl) (by kernel_rfl) (by kernel_rfl) (fun _ _ _ h => h) (Or.inl ⟨by rfl, ?y6z17⟩) (by assumption) ?r6z17
  case y6z17 =>
    intro w9 hSw
    clear hSw
    go_simp
    all_goals with_reducible rfl
  simp only [Act.put, List.setIfInBounds_toArray, List.set_cons_zero, List.set_cons_succ]
  refine wpAnyH_one (i := 7) (by kernel_rfl) rfl ?_
  go_wp2_with fail
  refine (clone_any A n c _ xs _ r (Nat.le_refl _) (by omega)).mono ?_
  rintro ev w4 ⟨A2, m2, c2, rfl, o2, hb4⟩
  go_wp2
  replace q := q.below hb4
  have bs := b.size
  replace b := b.trans (hb4.mono b.size)
  replace o2 := o2.lower bs
  clear hb4 hHeld r bs
  have hHeld := q.ptr0 HN.out hn0
  refine ⟨hHeld, ?_⟩
  try simp only [Act.put, List.setIfInBounds_toArray, List.set_cons_zero, List.set_cons_succ]
  refine wpAnyH_at (i := 8) (some 33) (v := ?v8z18) rfl rfl (by kernel_rfl) (by kernel_rfl) (by kernel_rfl) (fun _ _ _ h => h) (Or.inl ⟨by rfl, ?y8z18⟩) (by assumption) ?r8z18
  case y8z18 =>
    intro w9 hSw
    clear hSw
    go_simp
    all_goals with_reducible rfl
  simp only [Act.put, List.setIfInBounds_toArray, List.set_cons_zero, List.set_cons_succ]
  refine wpAnyH_at (i := 9) (some 34) (v := ?v9z19) rfl rfl (by kernel_rfl) (by kernel_rfl) (by kernel_rfl) (fun _ _ _ h => h) (Or.inl ⟨by rfl, ?y9z19⟩) (by assumption) ?r9z19
  case y9z19 =>
    intro w9 hSw
    clear hSw
    go_simp
    all_goals with_reducible rfl
  simp only [Act.put, List.setIfInBounds_toArray, List.set_cons_zero, List.set_cons_succ]
  refine wpAnyH_one (i := 10) (by kernel_rfl) rfl ?_
  refine wpList_store_mid rfl 77 (.tmp 34) (.tmp 33) rfl g (k * 2) #[.int .i64 o, .slice A2 m2 c2] rfl rfl (q.there HL.out) (by kernel_rfl) (slot_one _ _ _ _) ?_
  have q9 := (q.set (by decide) HL.out (RowOk.own ho'.out (by rw [hlx'.out]; exact hn)) (o2.lower (Nat.zero_le _)) (fun ad e => hF'.out _ (o2.block ad e).1)).1
  have R9 := R.out _ _ _ _ _ b q o2 rfl
  change wpList _ _ _ _ _ (World.setCells _ _ _ [.int .i64 o, .slice A2 m2 c2])
  generalize World.setCells _ _ _ [.int .i64 o, .slice A2 m2 c2] = w9 at *
  clear hHeld q o2 R
  have hHeld := q9.ptr0 (n := N) (by rw [List.length_set]; exact HN.out) hn0
  clear q9
  go_wp2
  refine ⟨hHeld, ?_⟩
  refine wpAnyH_done (by kernel_rfl) ?_ _
  go_wp2
  go_ret2
  exact R9
theorem take_any (p g cp : Nat) (L : Slots) (F : Nat → Prop) (o : Int) (A : Option Addr) (n c B : Nat) (xs : List Int) (w : World) (h : Pp w p g cp L F) (hr : Rd .u8 w B A n c xs) (hL : 0 < L.length) (hB : B ≤ w.heap.size) (hF : ∀ b, w.heap.size ≤ b → F b) :
    Calls Try.prog 29 #[ptr p, .int .i64 o, .slice A n c] w (GivesT 67 77 w p g cp L F o n xs) := by
  by_cases ho : isOwn o
  · by_cases hn : n ≤ 1514
    · by_cases hf : free1 L < L.length
      · exact take_ok p g cp L F o A n c B xs w h hr hL hB hF ho hn hf
      · exact take_full p g cp L F o A n c B xs w h hr hL ho hn hf
    · exact take_long p g cp L F o A n c B xs w h hr ho (by omega)
  · exact take_owner p g cp L F o A n c B xs w h hr ho

/-- What Hand and Free give. -/
def GivesE (tp ts : TypeId) (w : World) (p g cp : Nat) (L' : Slots) (F : Nat → Prop) (E : Int) : Ending → World → Prop := fun e w' =>
  e = .returned (.int .i64 E) ∧ PlAt tp ts w' p g cp L' F ∧ Kept (· = g) w w'
theorem hdE_own {L : Slots} {b f t : Int} (h : ¬ isOwn t) : hdE L b f t = 11 := by unfold hdE; rw [if_neg h]
theorem hdE_to {L : Slots} {b f t : Int} (h : isOwn t) : hdE L b f t = chE L b f := by unfold hdE; rw [if_pos h]
theorem hdL_no {L : Slots} {b f t : Int} (h : ¬ hdE L b f t = 0) : hdL L b f t = L := by unfold hdL; rw [if_neg h]
theorem hdL_yes {L : Slots} {k : Nat} {f t : Int} (h : hdE L (k : Int) f t = 0) : hdL L (k : Int) f t = L.set k (t, byt L k) := by unfold hdL; rw [if_pos h]; simp
theorem frL_no {L : Slots} {b o : Int} (h : ¬ chE L b o = 0) : frL L b o = L := by unfold frL; rw [if_neg h]
theorem frL_yes {L : Slots} {k : Nat} {o : Int} (h : chE L (k : Int) o = 0) : frL L (k : Int) o = L.set k (0, []) := by unfold frL; rw [if_pos h]; simp
set_option maxHeartbeats 1000000 in
theorem hand_any (p g cp : Nat) (L : Slots) (F : Nat → Prop) (b f t : Int) (w : World) (h : Pp w p g cp L F) :
    Calls Try.prog 52 #[ptr p, .int .i64 b, .int .i64 f, .int .i64 t] w (GivesE 67 77 w p g cp (hdL L b f t) F (hdE L b f t)) := by
  have I := Lib.hid (isOwner_any t w)
  have C := Lib.hid (owned_any p g cp L F b f w h)
  by_cases ho : isOwn t
  · rw [isOw_yes ho] at I
    by_cases he : chE L b f = 0
    · obtain ⟨k, rfl, hk, hw, hf⟩ := chE_zero he
      have hE : hdE L (k : Int) f t = 0 := by rw [hdE_to ho, he]
      have R : Hid (GivesE 67 77 w p g cp (hdL L (k : Int) f t) F (hdE L (k : Int) f t) (.returned (.int .i64 0)) (w.setCell ⟨g, k * 2, none⟩ (.int .i64 t))) := Lib.hid (by
        rw [hE, hdL_yes hE]
        obtain ⟨q1, q2⟩ := h.own (by decide) hk (RowOk.own (b := byt L k) ho (h.good.2 k).2.2)
        exact ⟨rfl, q1, q2⟩)
      have a0 := h.cell0 hk
      have f0 := h.frozen (by omega) (k * 2)
      obtain ⟨n, G, hn, hl, hp, hG⟩ := h.cells
      rw [hn] at hk
      obtain rfl := hG (by omega)
      rw [he] at C
      clear he h hn hG ho hE hw hf
      go_enter Try.func52, Try.ntmps52
      go_wp2_with fail
      refine I.out.mono ?_
      rintro ev w1 ⟨rfl, rfl⟩
      go_wp2_with fail
      refine C.out.mono ?_
      rintro ev w1 ⟨rfl, rfl⟩
      go_wp2
      go_ret
      exact R.out
    · have hE : ¬ hdE L b f t = 0 := by rw [hdE_to ho]; exact he
      have R : Hid (GivesE 67 77 w p g cp (hdL L b f t) F (hdE L b f t) (.returned (.int .i64 (chE L b f))) w) := Lib.hid (by
        rw [hdL_no hE, hdE_to ho]
        exact ⟨rfl, h, Kept.refl _ _⟩)
      generalize chE L b f = E at *
      have he' : (E == 0) = false := by simpa using he
      clear h ho hE
      go_enter Try.func52, Try.ntmps52
      go_wp2_with fail
      refine I.out.mono ?_
      rintro ev w1 ⟨rfl, rfl⟩
      go_wp2_with fail
      refine C.out.mono ?_
      rintro ev w1 ⟨rfl, rfl⟩
      go_wp2
      go_ret
      exact R.out
  · rw [isOw_no ho] at I
    have R : Hid (GivesE 67 77 w p g cp (hdL L b f t) F (hdE L b f t) (.returned (.int .i64 11)) w) := Lib.hid (by
      rw [hdL_no (by rw [hdE_own ho]; decide), hdE_own ho]
      exact ⟨rfl, h, Kept.refl _ _⟩)
    clear h ho C
    go_enter Try.func52, Try.ntmps52
    go_wp2_with fail
    refine I.out.mono ?_
    rintro ev w1 ⟨rfl, rfl⟩
    go_wp2
    go_ret
    exact R.out
set_option maxHeartbeats 1000000 in
theorem free_any (p g cp : Nat) (L : Slots) (F : Nat → Prop) (b o : Int) (w : World) (h : Pp w p g cp L F) :
    Calls Try.prog 31 #[ptr p, .int .i64 b, .int .i64 o] w (GivesE 67 77 w p g cp (frL L b o) F (chE L b o)) := by
  have C := Lib.hid (owned_any p g cp L F b o w h)
  by_cases he : chE L b o = 0
  · obtain ⟨k, rfl, hk, hw, hf⟩ := chE_zero he
    have R : Hid (GivesE 67 77 w p g cp (frL L (k : Int) o) F (chE L (k : Int) o) (.returned (.int .i64 0)) (w.setCells g (k * 2) [.int .i64 0, .slice none 0 0])) := Lib.hid (by
      rw [frL_yes he, he]
      obtain ⟨q1, q2⟩ := h.set (by decide) hk (o := 0) (b := []) (A := none) (m := 0) (c := 0) RowOk.free Out.nil (fun _ e => by cases e)
      exact ⟨rfl, q1, q2⟩)
    have t0 := Lib.hid (h.there hk)
    obtain ⟨n, G, hn, hl, hp, hG⟩ := h.cells
    rw [hn] at hk
    obtain rfl := hG (by omega)
    rw [he] at C
    clear he h hn hG hw hf
    go_enter Try.func31, Try.ntmps31
    go_wp2_with fail
    refine C.out.mono ?_
    rintro ev w1 ⟨rfl, rfl⟩
    go_wp2_with (refine wpList_store_mid rfl 77 (.tmp 21) (.tmp 20) rfl g (k * 2) #[.int .i64 0, .slice none 0 0] rfl rfl t0.out (by kernel_rfl) (slot_one _ _ _ _) ?_)
    go_ret
    exact R.out
  · have R : Hid (GivesE 67 77 w p g cp (frL L b o) F (chE L b o) (.returned (.int .i64 (chE L b o))) w) := Lib.hid (by
      rw [frL_no he]
      exact ⟨rfl, h, Kept.refl _ _⟩)
    generalize chE L b o = E at *
    have he' : (E == 0) = false := by simpa using he
    clear h
    go_enter Try.func31, Try.ntmps31
    go_wp2_with fail
    refine C.out.mono ?_
    rintro ev w1 ⟨rfl, rfl⟩
    go_wp2
    go_ret
    exact R.out
end Go.Proofs.Ytjaiagocbldbgaa
