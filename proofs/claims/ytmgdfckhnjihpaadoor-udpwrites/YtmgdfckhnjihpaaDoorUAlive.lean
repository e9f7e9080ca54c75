/-
  alive answers true.
-/
import Derived.Test.YtmgdfckhnjihpaaDoorUParse
import Derived.Test.YtmgdfckhnjihpaaDoorUBytes
import Derived.Test.YtmgdfckhnjihpaaDoorUSame
import Derived.Test.YtmgdfckhnjihpaaDoorIsL
import Derived.Test.YtmgdfckhnjihpaaDoorRApp
namespace Go.Proofs.YtmgdfckhnjihpaaDoor
open Go.RowKit

@[reducible] def hA : Hd := ⟨68, 67, false⟩
@[reducible] def hC : Hd := ⟨68, 67, true⟩
theorem hA_ok : hA.ok := ⟨by decide, by decide⟩
theorem hC_ok : hC.ok := ⟨by decide, by decide⟩
def aX : List Int := [1, 2, 3]
def aB : List Int := [0, 68, 0, 67, 0, 11, 251, 76, 1, 2, 3]
def aC : List Int := [0, 68, 0, 67, 0, 8, 0, 0]
@[reducible] def xC : Array Value := #[.int .u8 1, .int .u8 2, .int .u8 3]
@[reducible] def cC : Array Value := #[.int .u8 0, .int .u8 68, .int .u8 0, .int .u8 67, .int .u8 0, .int .u8 8, .int .u8 0, .int .u8 0]
theorem ip_of {a : Int} (h : 0 ≤ a ∧ a ≤ 9) : Ip a := ⟨h.1, by omega⟩
theorem aX_wf : ∀ x ∈ aX, (Lit.int .u8 x).wf = true := by decide
theorem aB_wf : ∀ x ∈ aB, (Lit.int .u8 x).wf = true := by decide
theorem aB9_wf : ∀ x ∈ aB ++ [9], (Lit.int .u8 x).wf = true := by decide
theorem aC_wf : ∀ x ∈ aC, (Lit.int .u8 x).wf = true := by decide
theorem aB_bytes : byR hA 1 2 aX = aB := by decide
theorem aC_bytes : byR hC 1 2 [] = aC := by decide
theorem aB_good : pE 1 2 (aB ++ [9]) = (0, 0) := by decide
theorem aB_hd : hdOf (aB ++ [9]) = hA := hd_eq (by decide) (by decide) (by decide)
theorem aB_body : bodyOf (aB ++ [9]) = aX := by decide
theorem aB_bad : pE 1 3 aB = (2, 13) := by decide
theorem aB_end : pE 1 2 (aB.take 7) = (1, 12) := by decide
theorem aC_good : pE 5 6 aC = (0, 0) := by decide
theorem aC_hd : hdOf aC = hC := hd_eq (by decide) (by decide) (by decide)
theorem aC_body : bodyOf aC = [] := by decide
theorem aSm : smB hA hA aX aX = true := smB_self _ _
theorem aSn : smB hA hC aX [] = false := by decide
theorem aParse {W : World} {A : Option Addr} {c : Nat} (h : Rd .u8 W W.heap.size A 12 c (aB ++ [9])) : Calls Tryd.prog 9 #[.slice A 12 c, .int .u32 1, .int .u32 2] W fun ev w' => ∃ g1, ev = .returned (.tuple #[pkV hA (some ⟨g1, 0, none⟩) 3 3, .nilIface]) ∧ Row w' g1 aX ∧ Below W.heap.size W w' := by
  refine (parse_any _ 12 c _ 1 2 W h (ip_of (by omega)) (ip_of (by omega))).mono ?_
  rintro ev w' ⟨hb, ⟨h1, _⟩ | ⟨_, g1, m, rfl, row, _, hl⟩⟩
  · rw [aB_good] at h1
    exact absurd rfl h1
  · rw [aB_body] at row hl
    obtain rfl : 3 = m := hl
    rw [aB_hd]
    exact ⟨g1, rfl, row, hb⟩
theorem aBad {W : World} {g : Nat} (h : Row W g aB) : Calls Tryd.prog 9 #[.slice (some ⟨g, 0, none⟩) 11 11, .int .u32 1, .int .u32 3] W fun ev w' => ev = .returned (.tuple #[zeroP, errV 2 13]) ∧ Below W.heap.size W w' := by
  refine (parse_any _ 11 11 aB 1 3 W (h.rdW (n := 11) rfl (by omega) aB_wf) (ip_of (by omega)) (ip_of (by omega))).mono ?_
  rintro ev w' ⟨hb, ⟨_, rfl⟩ | ⟨h1, _⟩⟩
  · rw [aB_bad]
    exact ⟨rfl, hb⟩
  · rw [aB_bad] at h1
    exact absurd h1 (by decide)
theorem aEnd {W : World} {g : Nat} (h : Row W g aB) : Calls Tryd.prog 9 #[.slice (some ⟨g, 0, none⟩) 7 11, .int .u32 1, .int .u32 2] W fun ev w' => ev = .returned (.tuple #[zeroP, errV 1 12]) ∧ Below W.heap.size W w' := by
  refine (parse_any _ 7 11 (aB.take 7) 1 2 W ((h.rdW (n := 11) rfl (by omega) aB_wf).cutTo 7 (by omega)) (ip_of (by omega)) (ip_of (by omega))).mono ?_
  rintro ev w' ⟨hb, ⟨_, rfl⟩ | ⟨h1, _⟩⟩
  · rw [aB_end]
    exact ⟨rfl, hb⟩
  · rw [aB_end] at h1
    exact absurd h1 (by decide)
theorem aBare {W : World} {g : Nat} (h : Row W g aC) : Calls Tryd.prog 9 #[.slice (some ⟨g, 0, none⟩) 8 8, .int .u32 5, .int .u32 6] W fun ev w' => ∃ g1, ev = .returned (.tuple #[pkV hC (some ⟨g1, 0, none⟩) 0 0, .nilIface]) ∧ Row w' g1 [] ∧ Below W.heap.size W w' := by
  refine (parse_any _ 8 8 aC 5 6 W (h.rdW (n := 8) rfl (by omega) aC_wf) (ip_of (by omega)) (ip_of (by omega))).mono ?_
  rintro ev w' ⟨hb, ⟨h1, _⟩ | ⟨_, g1, m, rfl, row, _, hl⟩⟩
  · rw [aC_good] at h1
    exact absurd rfl h1
  · rw [aC_body] at row hl
    obtain rfl : 0 = m := hl
    rw [aC_hd]
    exact ⟨g1, rfl, row, hb⟩
theorem aBytes {W : World} {g : Nat} (h : Row W g aX) : Calls Tryd.prog 15 #[pkV hA (some ⟨g, 0, none⟩) 3 3, .int .u32 1, .int .u32 2] W (GivesBy W aB 11) := by
  rw [← aB_bytes]
  exact bytes_ok hA _ 3 3 aX 1 2 W hA_ok (h.rdW (n := 3) rfl (by omega) aX_wf) (ip_of (by omega)) (ip_of (by omega)) (by omega)
theorem aBytesC (W : World) : Calls Tryd.prog 15 #[pkV hC none 0 0, .int .u32 1, .int .u32 2] W (GivesBy W aC 8) := by
  rw [← aC_bytes]
  exact bytes_ok hC _ 0 0 [] 1 2 W hC_ok Rd.nil (ip_of (by omega)) (ip_of (by omega)) (by omega)
theorem aSame {W : World} {g g' : Nat} (h : Row W g aX) (h' : Row W g' aX) : Calls Tryd.prog 17 #[pkV hA (some ⟨g, 0, none⟩) 3 3, pkV hA (some ⟨g', 0, none⟩) 3 3] W fun ev w' => ev = .returned (.bool true) ∧ Below W.heap.size W w' := by
  have := same_pk hA hA _ _ 3 3 3 3 aX aX W (h.rdW (n := 3) rfl (by omega) aX_wf) (h'.rdW (n := 3) rfl (by omega) aX_wf)
  rwa [aSm] at this
theorem aOther {W : World} {g g' : Nat} (h : Row W g aX) (h' : Row W g' []) : Calls Tryd.prog 17 #[pkV hA (some ⟨g, 0, none⟩) 3 3, pkV hC (some ⟨g', 0, none⟩) 0 0] W fun ev w' => ev = .returned (.bool false) ∧ Below W.heap.size W w' := by
  have := same_pk hA hC _ _ 3 3 0 0 aX [] W (h.rdW (n := 3) rfl (by omega) aX_wf) (h'.rdW (n := 0) rfl (by omega) (by simp))
  rwa [aSn] at this
/-- What alive's walk knows. -/
structure KA (w : World) (ga gd gb gx g1 gc gy g2 : Nat) (W : World) : Prop where
  kn : Kn w W
  row : Row W ga aX
  d : PkAt W gd 28 hA (some ⟨ga, 0, none⟩) 3 3
  b : Row W gb aB
  x : PkAt W gx 28 hA (some ⟨g1, 0, none⟩) 3 3
  r1 : Row W g1 aX
  c : Row W gc aC
  y : PkAt W gy 28 hC (some ⟨g2, 0, none⟩) 0 0
  r2 : Row W g2 []
theorem KA.step {w W V : World} {ga gd gb gx g1 gc gy g2 : Nat} (h : KA w ga gd gb gx g1 gc gy g2 W) (hb : Below W.heap.size W V) : KA w ga gd gb gx g1 gc gy g2 V := ⟨h.kn.step hb, h.row.below hb h.row.lt, h.d.step hb, h.b.below hb h.b.lt, h.x.step hb, h.r1.below hb h.r1.lt, h.c.below hb h.c.lt, h.y.step hb, h.r2.below hb h.r2.lt⟩
set_option maxRecDepth 100000 in
set_option maxHeartbeats 4000000 in
theorem alive_any (w : World) (hg : Laid w) : Calls Tryd.prog 7 #[] w fun e w' => e = .returned (.bool true) ∧ Below w.heap.size w w' := by
  have k0 := ((Kn.start hg).alloc (.cells xC 5)).alloc (.cells (pkC hA (some ⟨w.heap.size, 0, none⟩) 3 3) 28)
  have row : Row ((w.alloc (.cells xC 5)).alloc (.cells (pkC hA (some ⟨w.heap.size, 0, none⟩) 3 3) 28)) w.heap.size aX := Row.below (heap_alloc_new w (.cells xC 5)) (alloc_below (w.alloc (.cells xC 5)) (.cells (pkC hA (some ⟨w.heap.size, 0, none⟩) 3 3) 28)) (by simp)
  have d := PkAt.new (w.alloc (.cells xC 5)) 28 hA (some ⟨w.heap.size, 0, none⟩) 3 3
  have hd : (w.alloc (.cells xC 5)).heap.size = w.heap.size + 1 := by simp
  rw [hd] at d
  clear hd
  obtain ⟨a0, a1, a2, a3⟩ := d.cells
  go_enter Tryd.func7, Tryd.ntmps7
  go_wp2_with fail
  refine (aBytes row).mono ?_
  rintro ev w1 ⟨gb, rfl, b, -, hb⟩
  clear a0 a1 a2 a3
  replace k0 := k0.step hb
  replace row := row.below hb row.lt
  replace d := d.step hb
  clear hb
  generalize w.heap.size + 1 = gd at d ⊢
  generalize w.heap.size = ga at row d ⊢
  go_wp2_with fail
  refine (own_any _ 11 11 w1.heap.size aB _ (b.rdW (n := 11) rfl (by omega) aB_wf) (Nat.le_refl _) (by omega)).mono ?_
  rintro ev w2 ⟨A2, n2, c2, rfl, o2, hb⟩
  obtain rfl : 11 = n2 := o2.len
  have ba := alloc_below w2 (.cells #[.int .u8 9] 5)
  have o3 := o2.below ba (Nat.le_refl _)
  have r9 : Row (w2.alloc (.cells #[.int .u8 9] 5)) w2.heap.size [9] := heap_alloc_new w2 _
  have rd9 := r9.rdW (n := 1) rfl (by omega) (by decide)
  replace hb := hb.trans (ba.mono hb.size)
  have hw2 := hb.size
  clear o2 r9 ba
  go_wp2_with (at_builtin; refine wpList_app rfl (.tmp 25) (.tmp 26) 22 rfl w1.heap.size Tryd.underlying22 info5 (by omega) A2 11 c2 aB rfl o3 (some ⟨w2.heap.size, 0, none⟩) 1 1 _ [9] rfl rd9 (by omega) hw2 ?_; intro A3 n3 c3 w3 o4 hgr; replace hb := hb.trans (grown_low o3 hgr hw2))
  obtain rfl : 12 = n3 := o4.len
  replace k0 := k0.step hb
  replace row := row.below hb row.lt
  replace d := d.step hb
  replace b := b.below hb b.lt
  clear hb hgr o3 rd9 hw2
  refine (aParse o4.rd).mono ?_
  rintro ev w4 ⟨g1, rfl, r1, hb⟩
  have ba := alloc_below w4 (.cells (pkC hA (some ⟨g1, 0, none⟩) 3 3) 28)
  have x := PkAt.new w4 28 hA (some ⟨g1, 0, none⟩) 3 3
  replace hb := hb.trans (ba.mono hb.size)
  replace k0 := k0.step hb
  replace row := row.below hb row.lt
  replace d := d.step hb
  replace b := b.below hb b.lt
  replace r1 := r1.below ba r1.lt
  clear hb ba o4
  go_wp2_with fail
  refine (aBad b).mono ?_
  rintro ev w5 ⟨rfl, hb⟩
  replace hb := hb.trans ((alloc_below w5 (.cells (pkC zeroH none 0 0) 28)).mono hb.size)
  replace k0 := k0.step hb
  replace row := row.below hb row.lt
  replace d := d.step hb
  replace b := b.below hb b.lt
  replace x := x.step hb
  replace r1 := r1.below hb r1.lt
  clear hb
  generalize w4.heap.size = gx at x ⊢
  go_wp2_with fail
  refine (aBytesC _).mono ?_
  rintro ev w6 ⟨gc, rfl, rc, -, hb⟩
  replace k0 := k0.step hb
  replace row := row.below hb row.lt
  replace d := d.step hb
  replace b := b.below hb b.lt
  replace x := x.step hb
  replace r1 := r1.below hb r1.lt
  clear hb
  go_wp2_with fail
  refine (aBare rc).mono ?_
  rintro ev w7 ⟨g2, rfl, r2, hb⟩
  have ba := alloc_below w7 (.cells (pkC hC (some ⟨g2, 0, none⟩) 0 0) 28)
  have y := PkAt.new w7 28 hC (some ⟨g2, 0, none⟩) 0 0
  replace hb := hb.trans (ba.mono hb.size)
  have k : KA w ga gd gb gx g1 gc w7.heap.size g2 (w7.alloc (.cells (pkC hC (some ⟨g2, 0, none⟩) 0 0) 28)) := ⟨k0.step hb, row.below hb row.lt, d.step hb, b.below hb b.lt, x.step hb, r1.below hb r1.lt, rc.below hb rc.lt, y, r2.below ba r2.lt⟩
  clear hb ba k0 row d b x r1 rc r2 y
  go_wp2_with fail
  refine (aEnd k.b).mono ?_
  rintro ev w8 ⟨rfl, hb⟩
  replace hb := hb.trans ((alloc_below w8 (.cells (pkC zeroH none 0 0) 28)).mono hb.size)
  replace k := k.step hb
  clear hb
  generalize w7.heap.size = gy at k ⊢
  go_wp2_with (at_make; refine wpList_mk (some 56) rfl rfl _ _ 22 rfl Tryd.underlying22 info5 1473 _ _ rfl rfl rfl rfl (by omega) ?_; intro w9 r9 hs9 hb9; replace k := k.step hb9; clear r9 hs9 hb9)
  refine (bytes_far zeroH _ 1473 1473 1 2 _ (by omega) (by omega)).mono ?_
  rintro ev w10 ⟨rfl, hb⟩
  replace k := k.step hb
  clear hb
  obtain ⟨a0, a1, a2, a3⟩ := k.d.cells
  obtain ⟨x0, x1, x2, x3⟩ := k.x.cells
  obtain ⟨y0, y1, y2, y3⟩ := k.y.cells
  have lit := fun W : World => (show Row (W.alloc (.cells cC 5)) W.heap.size aC from heap_alloc_new W _)
  go_wp2_with (first
    | (go_at_call 18; with_reducible refine (whyIs_err 2 13 13 _).mono ?_; rintro ev w11 ⟨rfl, hb⟩; replace k := k.step hb; clear hb a0 a1 a2 a3 x0 x1 x2 x3 y0 y1 y2 y3; obtain ⟨a0, a1, a2, a3⟩ := k.d.cells; obtain ⟨x0, x1, x2, x3⟩ := k.x.cells; obtain ⟨y0, y1, y2, y3⟩ := k.y.cells)
    | (go_at_call 18; with_reducible refine (whyIs_err 1 12 12 _).mono ?_; rintro ev w11 ⟨rfl, hb⟩; replace k := k.step hb; clear hb a0 a1 a2 a3 x0 x1 x2 x3 y0 y1 y2 y3; obtain ⟨a0, a1, a2, a3⟩ := k.d.cells; obtain ⟨x0, x1, x2, x3⟩ := k.x.cells; obtain ⟨y0, y1, y2, y3⟩ := k.y.cells)
    | (go_at_call 18; with_reducible refine (whyIs_err 1 11 11 _).mono ?_; rintro ev w11 ⟨rfl, hb⟩; replace k := k.step hb; clear hb a0 a1 a2 a3 x0 x1 x2 x3 y0 y1 y2 y3; obtain ⟨a0, a1, a2, a3⟩ := k.d.cells; obtain ⟨x0, x1, x2, x3⟩ := k.x.cells; obtain ⟨y0, y1, y2, y3⟩ := k.y.cells)
    | (go_at_call 19; with_reducible refine (reason_err 2 13 _ k.kn.laid).mono ?_; rintro ev w11 ⟨rfl, hb⟩; replace k := k.step hb; clear hb a0 a1 a2 a3 x0 x1 x2 x3 y0 y1 y2 y3; obtain ⟨a0, a1, a2, a3⟩ := k.d.cells; obtain ⟨x0, x1, x2, x3⟩ := k.x.cells; obtain ⟨y0, y1, y2, y3⟩ := k.y.cells)
    | (go_at_call 17; with_reducible refine (aSame k.r1 k.row).mono ?_; rintro ev w11 ⟨rfl, hb⟩; replace k := k.step hb; clear hb a0 a1 a2 a3 x0 x1 x2 x3 y0 y1 y2 y3; obtain ⟨a0, a1, a2, a3⟩ := k.d.cells; obtain ⟨x0, x1, x2, x3⟩ := k.x.cells; obtain ⟨y0, y1, y2, y3⟩ := k.y.cells)
    | (go_at_call 17; with_reducible refine (aOther k.r1 k.r2).mono ?_; rintro ev w11 ⟨rfl, hb⟩; replace k := k.step hb; clear hb a0 a1 a2 a3 x0 x1 x2 x3 y0 y1 y2 y3; obtain ⟨a0, a1, a2, a3⟩ := k.d.cells; obtain ⟨x0, x1, x2, x3⟩ := k.x.cells; obtain ⟨y0, y1, y2, y3⟩ := k.y.cells)
    | (go_at_call 14; replace k := k.step (alloc_below _ (.cells cC 5)); refine (same_any _ _ _ _ _ _ aC _ _ _ (k.c.rdW (n := 8) rfl (by omega) aC_wf) ((lit _).rdW (n := 8) rfl (by omega) aC_wf)).mono ?_; rintro ev w11 ⟨rfl, hb⟩; replace k := k.step hb; clear hb a0 a1 a2 a3 x0 x1 x2 x3 y0 y1 y2 y3; obtain ⟨a0, a1, a2, a3⟩ := k.d.cells; obtain ⟨x0, x1, x2, x3⟩ := k.x.cells; obtain ⟨y0, y1, y2, y3⟩ := k.y.cells))
  go_ret
  exact ⟨rfl, k.kn.below⟩
end Go.Proofs.YtmgdfckhnjihpaaDoor
