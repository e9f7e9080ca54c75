/-
  Contract of the law's Is: an error against the document's fault.
-/
import Derived.Test.YtbefoapnlehdmaaDoorSmall
import Derived.Test.YtbefoapnlehdmaaDoorRefF
import Derived.Test.YtbefoapnlehdmaaDoorRError
namespace Go.Proofs.YtbefoapnlehdmaaDoor
open Go.RowKit

theorem is_nil (A : Option Addr) (n c : Nat) (w : World) : Calls Tryd.prog 12 #[.nilIface, .agg #[.slice A n c, .int .i64 0]] w fun e w' => e = .returned (.bool true) ∧ Below w.heap.size w w' := by
  go_enter Tryd.func12, Tryd.ntmps12
  go_wp2
  go_ret
  exact ⟨rfl, alloc_below _ _⟩
theorem errno_err (r e : Int) (w : World) (hg : Laid w) : Calls Tryd.prog 40 #[errV r e] w fun ev w' => ev = .returned (.int .i64 e) ∧ Below w.heap.size w w' := errno_chain e [r] w hg
theorem reason_err (r e : Int) (w : World) (hg : Laid w) : Calls Tryd.prog 33 #[errV r e] w fun ev w' => ev = .returned (.int .i64 r) ∧ Below w.heap.size w w' := reason_fault e r [] w hg
theorem whyIs_err (r e o : Int) (w : World) : Calls Tryd.prog 32 #[errV r e, .int .i64 o] w fun ev w' => ev = .returned (.bool (e == o)) ∧ Below w.heap.size w w' := whyIs_chain e o [r] w
theorem refReason_one (A : Option Addr) (n c : Nat) (r e : Int) (w : World) (hr : Rd .i64 w w.heap.size A n c [r]) : Calls Tryd.prog 41 #[.agg #[.slice A n c, .int .i64 e]] w fun ev w' => ev = .returned (.int .i64 r) ∧ Below w.heap.size w w' := refReason_any A n c [r] e w hr
/-- What Is's walk knows. -/
structure KIs (w : World) (A : Option Addr) (n c : Nat) (r e : Int) (W : World) : Prop where
  c0 : W.cell? ⟨w.heap.size, 0, none⟩ = some (.slice A n c)
  c1 : W.cell? ⟨w.heap.size, 1, none⟩ = some (.int .i64 e)
  rd : Rd .i64 W W.heap.size A n c [r]
  kn : Kn w W
  lt : w.heap.size < W.heap.size
section
variable {w W V : World} {A : Option Addr} {n c : Nat} {r e : Int}
theorem KIs.step (h : KIs w A n c r e W) (hb : Below W.heap.size W V) : KIs w A n c r e V := ⟨(hb.cell h.lt).trans h.c0, (hb.cell h.lt).trans h.c1, (h.rd.below hb (Nat.le_refl _)).more hb.size, h.kn.step hb, Nat.lt_of_lt_of_le h.lt hb.size⟩
theorem KIs.drew (h : KIs w A n c r e W) : KIs w A n c r e W.drew := h.step ⟨rfl, rfl, rfl, Nat.le_refl _, fun _ _ => rfl⟩
theorem KIs.parts (h : KIs w A n c r e W) : W.cell? ⟨w.heap.size, 0, none⟩ = some (.slice A n c) ∧ W.cell? ⟨w.heap.size, 1, none⟩ = some (.int .i64 e) ∧ KIs w A n c r e W := ⟨h.c0, h.c1, h⟩
end
set_option maxHeartbeats 1000000 in
theorem is_err (A : Option Addr) (n c : Nat) (r e : Int) (w : World) (hg : Laid w) (hr : Rd .i64 w w.heap.size A n c [r]) (he : ¬ e = 0) :
    Calls Tryd.prog 12 #[errV r e, .agg #[.slice A n c, .int .i64 e]] w fun ev w' => ev = .returned (.bool true) ∧ Below w.heap.size w w' := by
  have K0 : KIs w A n c r e (w.alloc (.cells #[.slice A n c, .int .i64 e] 36)) :=
    ⟨by simp [go_sem], by simp [go_sem], (hr.below (alloc_below _ _) (Nat.le_refl _)).more (by simp), (Kn.start hg).alloc _, by simp⟩
  have he' : (e != 0) = true := by simpa using he
  clear hg hr he
  go_enter Tryd.func12, Tryd.ntmps12
  go_wp2_with fail
  revert K0
  generalize w.alloc (.cells #[.slice A n c, .int .i64 e] 36) = W0
  intro K0
  go_region_held3 (fun w' => w'.cell? ⟨w.heap.size, 0, none⟩ = some (.slice A n c) ∧ w'.cell? ⟨w.heap.size, 1, none⟩ = some (.int .i64 e) ∧ KIs w A n c r e w')
    (first
      | assumption
      | (exact KIs.parts (KIs.drew K0))
      | (go_split_ands; exact KIs.parts (KIs.step (by assumption) hb1)))
    (first
      | (go_at_call 40; go_split_ands; with_reducible refine (errno_err r e _ (KIs.kn (by assumption)).laid).mono ?_; rintro ev w3 ⟨rfl, hb1⟩)
      | (go_at_call 33; go_split_ands; with_reducible refine (reason_err r e _ (KIs.kn (by assumption)).laid).mono ?_; rintro ev w3 ⟨rfl, hb1⟩)
      | (go_at_call 41; go_split_ands; with_reducible refine (refReason_one _ _ _ _ _ _ (KIs.rd (by assumption))).mono ?_; rintro ev w3 ⟨rfl, hb1⟩))
  all_goals
    go_split_ands
    go_wp2
    go_ret
    exact ⟨rfl, (show KIs w A n c r e _ by assumption).kn.below⟩
end Go.Proofs.YtbefoapnlehdmaaDoor

namespace Go.Proofs.YtbefoapnlehdmaaDoor
open Go.RowKit

@[reducible] def mA : Ms := ⟨8, 0, 18, 52, 0, 1⟩
@[reducible] def mL : Ms := ⟨11, 0, 0, 0, 0, 0⟩
@[reducible] def hP : Hd := ⟨0, 0, false, 1, 0, 1, 2⟩
theorem mA_ok : mA.ok := ⟨by decide, by decide, by decide, by decide, by decide, by decide⟩
theorem mL_ok : mL.ok := ⟨by decide, by decide, by decide, by decide, by decide, by decide⟩
theorem hP_ok : hP.ok := ⟨by decide, by decide, by decide, by decide, by decide, by decide⟩
def aB : List Int := [8, 0, 220, 202, 18, 52, 0, 1, 9]
def aE : List Int := [69, 0, 0, 29, 0, 0, 0, 0, 1, 0, 185, 223, 0, 0, 0, 1, 0, 0, 0, 2, 1, 2, 3, 4, 5, 6, 7, 8]
@[reducible] def nineC : Array Value := #[.int .u8 9]
@[reducible] def p9C : Array Value := #[.int .u8 1, .int .u8 2, .int .u8 3, .int .u8 4, .int .u8 5, .int .u8 6, .int .u8 7, .int .u8 8, .int .u8 9]
def p9 : List Int := [1, 2, 3, 4, 5, 6, 7, 8, 9]
def p8 : List Int := [1, 2, 3, 4, 5, 6, 7, 8]
theorem nine_wf : ∀ x ∈ [(9 : Int)], (Lit.int .u8 x).wf = true := by decide
theorem aB_wf : ∀ x ∈ aB, (Lit.int .u8 x).wf = true := by decide
theorem aE_wf : ∀ x ∈ aE, (Lit.int .u8 x).wf = true := by decide
theorem p9_wf : ∀ x ∈ p9, (Lit.int .u8 x).wf = true := by decide
theorem p8_wf : ∀ x ∈ p8, (Lit.int .u8 x).wf = true := by decide
theorem z8_wf : ∀ x ∈ List.replicate 8 (0 : Int), (Lit.int .u8 x).wf = true := by decide
theorem aB_bytes : mR mA [9] = aB := by decide
theorem aB_good : mE aB = (0, 0) := by decide
theorem aB_hd : mOf aB = mA := rfl
theorem aB_end : mE (aB.take 7) = (1, 12) := by decide
theorem z8_sum : mE (List.replicate 8 0) = (2, 13) := by decide
theorem aB_tot : (totV aB == 65535) = true := by decide
theorem aI_kind : iE mA [9] = (16, 14) := by decide
theorem hP_sum : hdS hP 9 = 47583 := by decide
theorem aE_bytes : hdR hP 9 ++ p9.take 8 = aE := by unfold hdR; rw [hP_sum]; decide
theorem aE_peek : pE false aE = (0, 0) := by decide
theorem aE_body : bodyOf aE = p8 := by decide
theorem hdE_eq {h k : Hd} (h1 : h.tos = k.tos) (h2 : h.id = k.id) (h3 : h.keep = k.keep) (h4 : h.ttl = k.ttl) (h5 : h.proto = k.proto) (h6 : h.src = k.src) (h7 : h.dst = k.dst) : h = k := by
  cases h
  cases k
  simp_all
theorem aE_hd : hdOf aE = hP := hdE_eq (by decide) (by decide) (by decide) (by decide) (by decide) (by decide) (by decide)
theorem aE_in : iE mL aE = (0, 0) := by
  refine iE_good (by decide) (by rw [aE_peek]) ?_
  rw [aE_body]
  decide
theorem aBytes {W : World} {g : Nat} (h : Row W g [9]) : Calls Tryd.prog 16 #[msV mA (some ⟨g, 0, none⟩) 1 1] W (GivesMB W aB 9) := by
  rw [← aB_bytes]
  exact mbytes_ok mA _ 1 1 [9] W mA_ok (h.rdW (n := 1) rfl (by omega) nine_wf) (by omega)
theorem aParse {W : World} {g : Nat} (h : Row W g aB) : Calls Tryd.prog 10 #[.slice (some ⟨g, 0, none⟩) 9 9] W fun ev w' => ∃ g1, ev = .returned (.tuple #[msV mA (some ⟨g1, 0, none⟩) 1 1, .nilIface]) ∧ Row w' g1 [9] ∧ Below W.heap.size W w' := by
  refine (mparse_any _ 9 9 aB W (h.rdW (n := 9) rfl (by omega) aB_wf)).mono ?_
  rintro ev w' ⟨hb, ⟨h1, _⟩ | ⟨_, g1, rfl, row, _⟩⟩
  · rw [aB_good] at h1
    exact absurd rfl h1
  · rw [aB_hd]
    exact ⟨g1, rfl, row, hb⟩
theorem aShort {W : World} {g : Nat} (h : Row W g aB) : Calls Tryd.prog 10 #[.slice (some ⟨g, 0, none⟩) 7 9] W fun ev w' => ev = .returned (.tuple #[zeroMV, errV 1 12]) ∧ Below W.heap.size W w' := by
  refine (mparse_any _ 7 9 (aB.take 7) W ((h.rdW (n := 9) rfl (by omega) aB_wf).cutTo 7 (by omega))).mono ?_
  rintro ev w' ⟨hb, ⟨_, rfl⟩ | ⟨h1, _⟩⟩
  · rw [aB_end]
    exact ⟨rfl, hb⟩
  · rw [aB_end] at h1
    exact absurd h1 (by decide)
theorem aZero {W : World} {g : Nat} (h : Row W g (List.replicate 8 0)) : Calls Tryd.prog 10 #[.slice (some ⟨g, 0, none⟩) 8 8] W fun ev w' => ev = .returned (.tuple #[zeroMV, errV 2 13]) ∧ Below W.heap.size W w' := by
  refine (mparse_any _ 8 8 _ W (h.rdW (n := 8) rfl (by omega) z8_wf)).mono ?_
  rintro ev w' ⟨hb, ⟨_, rfl⟩ | ⟨h1, _⟩⟩
  · rw [z8_sum]
    exact ⟨rfl, hb⟩
  · rw [z8_sum] at h1
    exact absurd h1 (by decide)
theorem aInner {W : World} {g : Nat} (h : Row W g [9]) : Calls Tryd.prog 26 #[msV mA (some ⟨g, 0, none⟩) 1 1] W fun ev w' => ev = .returned (.tuple #[zeroP, errV 16 14]) ∧ Below W.heap.size W w' := by
  refine (inner_any mA _ 1 1 [9] W (h.rdW (n := 1) rfl (by omega) nine_wf)).mono ?_
  rintro ev w' ⟨hb, ⟨_, rfl⟩ | ⟨h1, _⟩⟩
  · rw [aI_kind]
    exact ⟨rfl, hb⟩
  · rw [aI_kind] at h1
    exact absurd h1 (by decide)
theorem aErr {W : World} {g : Nat} (h : Row W g p9) : Calls Tryd.prog 30 #[.int .u8 11, .int .u8 0, pkV hP (some ⟨g, 0, none⟩) 9 9] W (GivesK W mL aE 28) := by
  rw [← aE_bytes]
  exact merror_ok 11 0 hP _ 9 9 p9 W hP_ok (h.rdW (n := 9) rfl (by omega) p9_wf) (by omega)
theorem aIn {W : World} {g : Nat} (h : Row W g aE) : Calls Tryd.prog 26 #[msV mL (some ⟨g, 0, none⟩) 28 28] W fun ev w' => ∃ g1, ev = .returned (.tuple #[pkV hP (some ⟨g1, 0, none⟩) 8 8, .nilIface]) ∧ Row w' g1 p8 ∧ Below W.heap.size W w' := by
  refine (inner_any mL _ 28 28 aE W (h.rdW (n := 28) rfl (by omega) aE_wf)).mono ?_
  rintro ev w' ⟨hb, ⟨h1, _⟩ | ⟨_, g1, m, rfl, row, _, hl⟩⟩
  · rw [aE_in] at h1
    exact absurd rfl h1
  · rw [aE_body] at row hl
    obtain rfl : 8 = m := hl
    rw [aE_hd]
    exact ⟨g1, rfl, row, hb⟩
theorem aClass2 (A : Option Addr) (W : World) : Calls Tryd.prog 19 #[msV mA A 1 1] W fun ev w' => ev = .returned (.int .i64 2) ∧ Below W.heap.size W w' := class_any mA A 1 1 W
theorem aClass1 (A : Option Addr) (W : World) : Calls Tryd.prog 19 #[msV mL A 28 28] W fun ev w' => ev = .returned (.int .i64 1) ∧ Below W.heap.size W w' := class_any mL A 28 28 W
theorem aMark (A : Option Addr) (W : World) : Calls Tryd.prog 21 #[msV mA A 1 1] W fun ev w' => ev = .returned (.int .u16 4660) ∧ Below W.heap.size W w' := mark_any mA A 1 1 W mA_ok
@[reducible] def mA5 : Ms := ⟨8, 0, 0, 5, 0, 1⟩
theorem aMark5 (A : Option Addr) (W : World) : Calls Tryd.prog 21 #[msV mA5 A 1 1] W fun ev w' => ev = .returned (.int .u16 5) ∧ Below W.heap.size W w' := mark_any mA5 A 1 1 W (mkS_ok mA_ok (k := 5) (by omega))
theorem aMarked {W : World} {g : Nat} (h : Row W g [9]) : Calls Tryd.prog 23 #[msV mA (some ⟨g, 0, none⟩) 1 1, .int .u16 5] W fun ev w' => ∃ gM, ev = .returned (msV mA5 (some ⟨gM, 0, none⟩) 1 1) ∧ Row w' gM [9] ∧ W.heap.size ≤ gM ∧ Below W.heap.size W w' := marked_any mA _ 1 1 [9] 5 W (h.rdW (n := 1) rfl (by omega) nine_wf) (by omega) (by omega)
theorem aSame {W : World} {g g' : Nat} (h : Row W g [9]) (h' : Row W g' [9]) : Calls Tryd.prog 25 #[msV mA (some ⟨g, 0, none⟩) 1 1, msV mA (some ⟨g', 0, none⟩) 1 1] W fun ev w' => ev = .returned (.bool true) ∧ Below W.heap.size W w' := by
  have := same_ms mA mA _ _ 1 1 1 1 [9] [9] W (h.rdW (n := 1) rfl (by omega) nine_wf) (h'.rdW (n := 1) rfl (by omega) nine_wf) mA_ok mA_ok
  rwa [mmB_self] at this
theorem aOther {W : World} {g g' : Nat} (h : Row W g [9]) (h' : Row W g' aE) : Calls Tryd.prog 25 #[msV mA (some ⟨g, 0, none⟩) 1 1, msV mL (some ⟨g', 0, none⟩) 28 28] W fun ev w' => ev = .returned (.bool false) ∧ Below W.heap.size W w' := by
  have := same_ms mA mL _ _ 1 1 28 28 [9] aE W (h.rdW (n := 1) rfl (by omega) nine_wf) (h'.rdW (n := 28) rfl (by omega) aE_wf) mA_ok mL_ok
  rwa [show mmB mA mL [9] aE = false by decide] at this
theorem aRight {W : World} {g : Nat} (h : Row W g aB) : Calls Tryd.prog 34 #[.slice (some ⟨W.heap.size, 0, none⟩) 1 1] (W.alloc (.cells #[.slice (some ⟨g, 0, none⟩) 9 9] 22)) fun e w' => e = .returned (.bool true) ∧ Below W.heap.size W w' := by
  have := right_any _ 1 1 [aB] _ (rows_one (h.rdW (n := 9) rfl (by omega) aB_wf))
  rw [List.flatten_singleton, aB_tot] at this
  exact this.mono fun ev w' ⟨h1, h2⟩ => ⟨h1, (alloc_below W _).trans (h2.mono (alloc_below W _).size)⟩
/-- What alive's walk knows. -/
structure KA (w : World) (gm g9 gb gx g1 ge gE gq g8 : Nat) (W : World) : Prop where
  kn : Kn w W
  m : MsAt W gm 27 mA (some ⟨g9, 0, none⟩) 1 1
  r9 : Row W g9 [9]
  rb : Row W gb aB
  x : MsAt W gx 27 mA (some ⟨g1, 0, none⟩) 1 1
  r1 : Row W g1 [9]
  e : MsAt W ge 27 mL (some ⟨gE, 0, none⟩) 28 28
  rE : Row W gE aE
  q : PkAt W gq 60 hP (some ⟨g8, 0, none⟩) 8 8
  r8 : Row W g8 p8
theorem KA.step {w W V : World} {gm g9 gb gx g1 ge gE gq g8 : Nat} (h : KA w gm g9 gb gx g1 ge gE gq g8 W) (hb : Below W.heap.size W V) : KA w gm g9 gb gx g1 ge gE gq g8 V :=
  ⟨h.kn.step hb, h.m.step hb, h.r9.below hb h.r9.lt, h.rb.below hb h.rb.lt, h.x.step hb, h.r1.below hb h.r1.lt, h.e.step hb, h.rE.below hb h.rE.lt, h.q.step hb, h.r8.below hb h.r8.lt⟩
set_option maxRecDepth 100000 in
set_option maxHeartbeats 4000000 in
theorem alive_any (w : World) (hg : Laid w) : Calls Tryd.prog 8 #[] w fun e w' => e = .returned (.bool true) ∧ Below w.heap.size w w' := by
  have kn := ((Kn.start hg).alloc (.cells nineC 5)).alloc (.cells (msC mA (some ⟨w.heap.size, 0, none⟩) 1 1) 27)
  have r9 : Row ((w.alloc (.cells nineC 5)).alloc (.cells (msC mA (some ⟨w.heap.size, 0, none⟩) 1 1) 27)) w.heap.size [9] := (show Row (w.alloc (.cells nineC 5)) w.heap.size [9] from heap_alloc_new w (.cells nineC 5)).below (alloc_below _ _) (by simp)
  have m : MsAt ((w.alloc (.cells nineC 5)).alloc (.cells (msC mA (some ⟨w.heap.size, 0, none⟩) 1 1) 27)) (w.heap.size + 1) 27 mA (some ⟨w.heap.size, 0, none⟩) 1 1 := by simpa using MsAt.new (w.alloc (.cells nineC 5)) 27 mA (some ⟨w.heap.size, 0, none⟩) 1 1
  clear hg
  obtain ⟨a0, a1, a2, a3, a4, a5, a6⟩ := m.cells
  go_enter Tryd.func8, Tryd.ntmps8
  go_wp2_with fail
  refine (aBytes r9).mono ?_
  rintro ev w1 ⟨gb, rfl, rb, -, hb⟩
  replace kn := kn.step hb
  replace r9 := r9.below hb r9.lt
  replace m := m.step hb
  clear hb
  clear a0 a1 a2 a3 a4 a5 a6
  go_wp2_with fail
  refine (aParse rb).mono ?_
  rintro ev w2 ⟨g1, rfl, r1, hb⟩
  have ba := alloc_below w2 (.cells (msC mA (some ⟨g1, 0, none⟩) 1 1) 27)
  have x := MsAt.new w2 27 mA (some ⟨g1, 0, none⟩) 1 1
  replace r1 := r1.below ba r1.lt
  replace hb := hb.trans (ba.mono hb.size)
  replace kn := kn.step hb
  replace r9 := r9.below hb r9.lt
  replace m := m.step hb
  replace rb := rb.below hb rb.lt
  clear hb
  clear ba
  go_wp2_with fail
  refine (aShort rb).mono ?_
  rintro ev w3 ⟨rfl, hb⟩
  replace hb := hb.trans ((alloc_below w3 (.cells (msC zeroS none 0 0) 27)).mono hb.size)
  replace kn := kn.step hb
  replace r9 := r9.below hb r9.lt
  replace m := m.step hb
  replace rb := rb.below hb rb.lt
  replace x := x.step hb
  replace r1 := r1.below hb r1.lt
  clear hb
  go_wp2_with (at_make; refine wpList_mk (some 41) rfl rfl _ _ 22 rfl Tryd.underlying22 info5 8 _ _ rfl rfl rfl rfl (by omega) ?_; intro w4 rz hs hb; clear hs; rw [World.size_alloc] at rz; replace kn := kn.step hb; replace r9 := r9.below hb r9.lt; replace m := m.step hb; replace rb := rb.below hb rb.lt; replace x := x.step hb; replace r1 := r1.below hb r1.lt; clear hb)
  refine (aZero rz).mono ?_
  rintro ev w5 ⟨rfl, hb⟩
  replace hb := hb.trans ((alloc_below w5 (.cells (msC zeroS none 0 0) 27)).mono hb.size)
  replace kn := kn.step hb
  replace r9 := r9.below hb r9.lt
  replace m := m.step hb
  replace rb := rb.below hb rb.lt
  replace x := x.step hb
  replace r1 := r1.below hb r1.lt
  clear hb
  clear rz
  obtain ⟨a0, a1, a2, a3, a4, a5, a6⟩ := m.cells
  go_wp2_with fail
  refine (aInner r9).mono ?_
  rintro ev w6 ⟨rfl, hb⟩
  replace hb := hb.trans ((alloc_below w6 (.cells (pkC zeroH none 0 0) 60)).mono hb.size)
  replace kn := kn.step hb
  replace r9 := r9.below hb r9.lt
  replace m := m.step hb
  replace rb := rb.below hb rb.lt
  replace x := x.step hb
  replace r1 := r1.below hb r1.lt
  clear hb
  clear a0 a1 a2 a3 a4 a5 a6
  have s6 : (w6.alloc (.cells (pkC zeroH none 0 0) 60)).heap.size = w6.heap.size + 1 := by simp
  have hb := (alloc_below (w6.alloc (.cells (pkC zeroH none 0 0) 60)) (.cells p9C 5)).trans ((alloc_below ((w6.alloc (.cells (pkC zeroH none 0 0) 60)).alloc (.cells p9C 5)) (.cells (pkC hP (some ⟨w6.heap.size + 1, 0, none⟩) 9 9) 60)).mono (by simp))
  have r7 : Row (((w6.alloc (.cells (pkC zeroH none 0 0) 60)).alloc (.cells p9C 5)).alloc (.cells (pkC hP (some ⟨w6.heap.size + 1, 0, none⟩) 9 9) 60)) (w6.heap.size + 1) p9 := by
    rw [← s6]
    exact (show Row ((w6.alloc (.cells (pkC zeroH none 0 0) 60)).alloc (.cells p9C 5)) (w6.alloc (.cells (pkC zeroH none 0 0) 60)).heap.size p9 from heap_alloc_new (w6.alloc (.cells (pkC zeroH none 0 0) 60)) (.cells p9C 5)).below (alloc_below _ _) (by simp)
  have p := PkAt.new ((w6.alloc (.cells (pkC zeroH none 0 0) 60)).alloc (.cells p9C 5)) 60 hP (some ⟨w6.heap.size + 1, 0, none⟩) 9 9
  rw [show ((w6.alloc (.cells (pkC zeroH none 0 0) 60)).alloc (.cells p9C 5)).heap.size = w6.heap.size + 1 + 1 by simp] at p
  replace kn := kn.step hb
  replace r9 := r9.below hb r9.lt
  replace m := m.step hb
  replace rb := rb.below hb rb.lt
  replace x := x.step hb
  replace r1 := r1.below hb r1.lt
  clear hb
  clear s6
  obtain ⟨b0, b1, b2, b3, b4, b5, b6, b7⟩ := p.cells
  go_wp2_with fail
  refine (aErr r7).mono ?_
  rintro ev w8 ⟨gE, rfl, rE, -, hb⟩
  have ba := alloc_below w8 (.cells (msC mL (some ⟨gE, 0, none⟩) 28 28) 27)
  have e := MsAt.new w8 27 mL (some ⟨gE, 0, none⟩) 28 28
  replace rE := rE.below ba rE.lt
  replace hb := hb.trans (ba.mono hb.size)
  replace kn := kn.step hb
  replace r9 := r9.below hb r9.lt
  replace m := m.step hb
  replace rb := rb.below hb rb.lt
  replace x := x.step hb
  replace r1 := r1.below hb r1.lt
  clear hb
  clear ba r7 p b0 b1 b2 b3 b4 b5 b6 b7
  obtain ⟨a0, a1, a2, a3, a4, a5, a6⟩ := e.cells
  go_wp2_with fail
  refine (aIn rE).mono ?_
  rintro ev w9 ⟨g8, rfl, r8, hb⟩
  have ba := alloc_below w9 (.cells (pkC hP (some ⟨g8, 0, none⟩) 8 8) 60)
  have q := PkAt.new w9 60 hP (some ⟨g8, 0, none⟩) 8 8
  replace r8 := r8.below ba r8.lt
  replace hb := hb.trans (ba.mono hb.size)
  replace kn := kn.step hb
  replace r9 := r9.below hb r9.lt
  replace m := m.step hb
  replace rb := rb.below hb rb.lt
  replace x := x.step hb
  replace r1 := r1.below hb r1.lt
  replace e := e.step hb
  replace rE := rE.below hb rE.lt
  clear hb
  clear ba a0 a1 a2 a3 a4 a5 a6
  have k : KA w (w.heap.size + 1) w.heap.size gb w2.heap.size g1 w8.heap.size gE w9.heap.size g8 _ := ⟨kn, m, r9, rb, x, r1, e, rE, q, r8⟩
  clear kn m r9 rb x r1 e rE q r8
  go_wp2_with (at_make; refine wpList_mk (some 60) rfl rfl _ _ 22 rfl Tryd.underlying22 info5 1473 _ _ rfl rfl rfl rfl (by omega) ?_; intro w10 r10 hs hb; replace k := k.step hb; clear r10 hs hb)
  refine (mbytes_far zeroS _ 1473 1473 _ (by omega) (by omega)).mono ?_
  rintro ev w11 ⟨rfl, hb⟩
  replace k := k.step hb
  clear hb
  obtain ⟨a0, a1, a2, a3, a4, a5, a6⟩ := k.m.cells
  obtain ⟨x0, x1, x2, x3, x4, x5, x6⟩ := k.x.cells
  obtain ⟨e0, e1, e2, e3, e4, e5, e6⟩ := k.e.cells
  obtain ⟨q0, q1, q2, q3, q4, q5, q6, q7⟩ := k.q.cells
  go_wp2_with (first
    | (go_at_call 32; with_reducible refine (whyIs_err 1 12 12 _).mono ?_; rintro ev w12 ⟨rfl, hb⟩; replace k := k.step hb; clear hb a0 a1 a2 a3 a4 a5 a6 x0 x1 x2 x3 x4 x5 x6 e0 e1 e2 e3 e4 e5 e6 q0 q1 q2 q3 q4 q5 q6 q7; obtain ⟨a0, a1, a2, a3, a4, a5, a6⟩ := k.m.cells; obtain ⟨x0, x1, x2, x3, x4, x5, x6⟩ := k.x.cells; obtain ⟨e0, e1, e2, e3, e4, e5, e6⟩ := k.e.cells; obtain ⟨q0, q1, q2, q3, q4, q5, q6, q7⟩ := k.q.cells)
    | (go_at_call 32; with_reducible refine (whyIs_err 2 13 13 _).mono ?_; rintro ev w12 ⟨rfl, hb⟩; replace k := k.step hb; clear hb a0 a1 a2 a3 a4 a5 a6 x0 x1 x2 x3 x4 x5 x6 e0 e1 e2 e3 e4 e5 e6 q0 q1 q2 q3 q4 q5 q6 q7; obtain ⟨a0, a1, a2, a3, a4, a5, a6⟩ := k.m.cells; obtain ⟨x0, x1, x2, x3, x4, x5, x6⟩ := k.x.cells; obtain ⟨e0, e1, e2, e3, e4, e5, e6⟩ := k.e.cells; obtain ⟨q0, q1, q2, q3, q4, q5, q6, q7⟩ := k.q.cells)
    | (go_at_call 32; with_reducible refine (whyIs_err 1 11 11 _).mono ?_; rintro ev w12 ⟨rfl, hb⟩; replace k := k.step hb; clear hb a0 a1 a2 a3 a4 a5 a6 x0 x1 x2 x3 x4 x5 x6 e0 e1 e2 e3 e4 e5 e6 q0 q1 q2 q3 q4 q5 q6 q7; obtain ⟨a0, a1, a2, a3, a4, a5, a6⟩ := k.m.cells; obtain ⟨x0, x1, x2, x3, x4, x5, x6⟩ := k.x.cells; obtain ⟨e0, e1, e2, e3, e4, e5, e6⟩ := k.e.cells; obtain ⟨q0, q1, q2, q3, q4, q5, q6, q7⟩ := k.q.cells)
    | (go_at_call 33; with_reducible refine (reason_err 16 14 _ k.kn.laid).mono ?_; rintro ev w12 ⟨rfl, hb⟩; replace k := k.step hb; clear hb a0 a1 a2 a3 a4 a5 a6 x0 x1 x2 x3 x4 x5 x6 e0 e1 e2 e3 e4 e5 e6 q0 q1 q2 q3 q4 q5 q6 q7; obtain ⟨a0, a1, a2, a3, a4, a5, a6⟩ := k.m.cells; obtain ⟨x0, x1, x2, x3, x4, x5, x6⟩ := k.x.cells; obtain ⟨e0, e1, e2, e3, e4, e5, e6⟩ := k.e.cells; obtain ⟨q0, q1, q2, q3, q4, q5, q6, q7⟩ := k.q.cells)
    | (go_at_call 25; with_reducible refine (aSame k.r1 k.r9).mono ?_; rintro ev w12 ⟨rfl, hb⟩; replace k := k.step hb; clear hb a0 a1 a2 a3 a4 a5 a6 x0 x1 x2 x3 x4 x5 x6 e0 e1 e2 e3 e4 e5 e6 q0 q1 q2 q3 q4 q5 q6 q7; obtain ⟨a0, a1, a2, a3, a4, a5, a6⟩ := k.m.cells; obtain ⟨x0, x1, x2, x3, x4, x5, x6⟩ := k.x.cells; obtain ⟨e0, e1, e2, e3, e4, e5, e6⟩ := k.e.cells; obtain ⟨q0, q1, q2, q3, q4, q5, q6, q7⟩ := k.q.cells)
    | (go_at_call 25; with_reducible refine (aOther k.r9 k.rE).mono ?_; rintro ev w12 ⟨rfl, hb⟩; replace k := k.step hb; clear hb a0 a1 a2 a3 a4 a5 a6 x0 x1 x2 x3 x4 x5 x6 e0 e1 e2 e3 e4 e5 e6 q0 q1 q2 q3 q4 q5 q6 q7; obtain ⟨a0, a1, a2, a3, a4, a5, a6⟩ := k.m.cells; obtain ⟨x0, x1, x2, x3, x4, x5, x6⟩ := k.x.cells; obtain ⟨e0, e1, e2, e3, e4, e5, e6⟩ := k.e.cells; obtain ⟨q0, q1, q2, q3, q4, q5, q6, q7⟩ := k.q.cells)
    | (go_at_call 21; with_reducible refine (aMark _ _).mono ?_; rintro ev w12 ⟨rfl, hb⟩; replace k := k.step hb; clear hb a0 a1 a2 a3 a4 a5 a6 x0 x1 x2 x3 x4 x5 x6 e0 e1 e2 e3 e4 e5 e6 q0 q1 q2 q3 q4 q5 q6 q7; obtain ⟨a0, a1, a2, a3, a4, a5, a6⟩ := k.m.cells; obtain ⟨x0, x1, x2, x3, x4, x5, x6⟩ := k.x.cells; obtain ⟨e0, e1, e2, e3, e4, e5, e6⟩ := k.e.cells; obtain ⟨q0, q1, q2, q3, q4, q5, q6, q7⟩ := k.q.cells)
    | (go_at_call 21; with_reducible refine (aMark5 _ _).mono ?_; rintro ev w12 ⟨rfl, hb⟩; replace k := k.step hb; clear hb a0 a1 a2 a3 a4 a5 a6 x0 x1 x2 x3 x4 x5 x6 e0 e1 e2 e3 e4 e5 e6 q0 q1 q2 q3 q4 q5 q6 q7; obtain ⟨a0, a1, a2, a3, a4, a5, a6⟩ := k.m.cells; obtain ⟨x0, x1, x2, x3, x4, x5, x6⟩ := k.x.cells; obtain ⟨e0, e1, e2, e3, e4, e5, e6⟩ := k.e.cells; obtain ⟨q0, q1, q2, q3, q4, q5, q6, q7⟩ := k.q.cells)
    | (go_at_call 19; with_reducible refine (aClass2 _ _).mono ?_; rintro ev w12 ⟨rfl, hb⟩; replace k := k.step hb; clear hb a0 a1 a2 a3 a4 a5 a6 x0 x1 x2 x3 x4 x5 x6 e0 e1 e2 e3 e4 e5 e6 q0 q1 q2 q3 q4 q5 q6 q7; obtain ⟨a0, a1, a2, a3, a4, a5, a6⟩ := k.m.cells; obtain ⟨x0, x1, x2, x3, x4, x5, x6⟩ := k.x.cells; obtain ⟨e0, e1, e2, e3, e4, e5, e6⟩ := k.e.cells; obtain ⟨q0, q1, q2, q3, q4, q5, q6, q7⟩ := k.q.cells)
    | (go_at_call 19; with_reducible refine (aClass1 _ _).mono ?_; rintro ev w12 ⟨rfl, hb⟩; replace k := k.step hb; clear hb a0 a1 a2 a3 a4 a5 a6 x0 x1 x2 x3 x4 x5 x6 e0 e1 e2 e3 e4 e5 e6 q0 q1 q2 q3 q4 q5 q6 q7; obtain ⟨a0, a1, a2, a3, a4, a5, a6⟩ := k.m.cells; obtain ⟨x0, x1, x2, x3, x4, x5, x6⟩ := k.x.cells; obtain ⟨e0, e1, e2, e3, e4, e5, e6⟩ := k.e.cells; obtain ⟨q0, q1, q2, q3, q4, q5, q6, q7⟩ := k.q.cells)
    | (go_at_call 23; with_reducible refine (aMarked k.r9).mono ?_; rintro ev w12 ⟨gM, rfl, -, -, hb⟩; replace k := k.step hb; clear hb a0 a1 a2 a3 a4 a5 a6 x0 x1 x2 x3 x4 x5 x6 e0 e1 e2 e3 e4 e5 e6 q0 q1 q2 q3 q4 q5 q6 q7; obtain ⟨a0, a1, a2, a3, a4, a5, a6⟩ := k.m.cells; obtain ⟨x0, x1, x2, x3, x4, x5, x6⟩ := k.x.cells; obtain ⟨e0, e1, e2, e3, e4, e5, e6⟩ := k.e.cells; obtain ⟨q0, q1, q2, q3, q4, q5, q6, q7⟩ := k.q.cells)
    | (go_at_call 34; refine (aRight k.rb).mono ?_; rintro ev w12 ⟨rfl, hb⟩; replace k := k.step hb; clear hb a0 a1 a2 a3 a4 a5 a6 x0 x1 x2 x3 x4 x5 x6 e0 e1 e2 e3 e4 e5 e6 q0 q1 q2 q3 q4 q5 q6 q7; obtain ⟨a0, a1, a2, a3, a4, a5, a6⟩ := k.m.cells; obtain ⟨x0, x1, x2, x3, x4, x5, x6⟩ := k.x.cells; obtain ⟨e0, e1, e2, e3, e4, e5, e6⟩ := k.e.cells; obtain ⟨q0, q1, q2, q3, q4, q5, q6, q7⟩ := k.q.cells))
  go_ret
  exact ⟨rfl, k.kn.below⟩
end Go.Proofs.YtbefoapnlehdmaaDoor
