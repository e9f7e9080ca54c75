/-
  Contract of Bytes.
-/
import Derived.Test.YtgjfhgipgcdddaaDoorNums
import Derived.Test.YtgjfhgipgcdddaaDoorForce
namespace Go.Proofs.YtgjfhgipgcdddaaDoor
open Go.RowKit

/-- A packet's bytes. -/
def pkB (op : Int) (m : Mac6) (ip : Int) (t : Mac6) (ti : Int) : List Int := [0, 1, 8, 0, 6, 4, op / 256 % 256, op % 256, m.a, m.b, m.c, m.d, m.e, m.f, ip / 16777216, ip / 65536 % 256, ip / 256 % 256, ip % 256, t.a, t.b, t.c, t.d, t.e, t.f, ti / 16777216, ti / 65536 % 256, ti / 256 % 256, ti % 256]
theorem l_wf {t : Mac6} (h : t.ok) : ∀ x ∈ t.l, (Lit.int .u8 x).wf = true := by
  obtain ⟨h1, h2, h3, h4, h5, h6⟩ := h
  intro x hx
  simp [Mac6.l] at hx
  rcases hx with rfl | rfl | rfl | rfl | rfl | rfl <;> exact u8_mk (by assumption)
theorem pkB_parts (op : Int) (m : Mac6) (ip : Int) (t : Mac6) (ti : Int) : pkB op m ip t ti = head6 ++ ([op / 256 % 256, op % 256] ++ (m.l ++ (four ip ++ (t.l ++ four ti)))) := rfl
theorem pkB_wf {op : Int} {m : Mac6} {ip : Int} {t : Mac6} {ti : Int} (hm : m.ok) (hi : 0 ≤ ip ∧ ip < 4294967296) (ht : t.ok) (hti : 0 ≤ ti ∧ ti < 4294967296) : ∀ x ∈ pkB op m ip t ti, (Lit.int .u8 x).wf = true := by
  intro x h
  rw [pkB_parts] at h
  rcases List.mem_append.1 h with h | h
  · exact head6_wf x h
  rcases List.mem_append.1 h with h | h
  · simp at h
    rcases h with rfl | rfl <;> exact u8_mk (by omega)
  rcases List.mem_append.1 h with h | h
  · exact l_wf hm x h
  rcases List.mem_append.1 h with h | h
  · exact four_wf hi x h
  rcases List.mem_append.1 h with h | h
  · exact l_wf ht x h
  · exact four_wf hti x h
theorem PkAt.rdMac {w : World} {g : Nat} {T : TypeId} {op : Int} {m : Mac6} {ip : Int} {t : Mac6} {ti : Int} (h : PkAt w g T op m ip t ti) (hm : m.ok) : Rd .u8 w (g + 1) (some ⟨g, 1, none⟩) 6 6 m.l := by
  refine ⟨rfl, Nat.le_refl _, ⟨by unfold maxLen; omega, fun e => by cases e⟩, l_wf hm, fun i hi => ⟨g, 1, rfl, by omega, ?_⟩⟩
  obtain ⟨-, a0, a1, a2, a3, a4, a5, -⟩ := h.cells
  have : i = 0 ∨ i = 1 ∨ i = 2 ∨ i = 3 ∨ i = 4 ∨ i = 5 := by omega
  rcases this with rfl | rfl | rfl | rfl | rfl | rfl <;> assumption
theorem PkAt.rdTo {w : World} {g : Nat} {T : TypeId} {op : Int} {m : Mac6} {ip : Int} {t : Mac6} {ti : Int} (h : PkAt w g T op m ip t ti) (ht : t.ok) : Rd .u8 w (g + 1) (some ⟨g, 8, none⟩) 6 6 t.l := by
  refine ⟨rfl, Nat.le_refl _, ⟨by unfold maxLen; omega, fun e => by cases e⟩, l_wf ht, fun i hi => ⟨g, 8, rfl, by omega, ?_⟩⟩
  obtain ⟨-, -, -, -, -, -, -, -, a0, a1, a2, a3, a4, a5, -⟩ := h.cells
  have : i = 0 ∨ i = 1 ∨ i = 2 ∨ i = 3 ∨ i = 4 ∨ i = 5 := by omega
  rcases this with rfl | rfl | rfl | rfl | rfl | rfl <;> assumption
theorem below_drew (w : World) : Below w.heap.size w w.drew := ⟨rfl, rfl, rfl, Nat.le_refl _, fun _ _ => rfl⟩
theorem sz5 : (Tryd.prog.info? 5).map (·.size) = some 1 := by kernel_rfl
/-- What Bytes's walk knows: the packet's box, the bytes' block. -/
structure BK (w : World) (op : Int) (m : Mac6) (ip : Int) (t : Mac6) (ti : Int) (ys : List Int) (W : World) : Prop where
  pk : PkAt W w.heap.size 29 op m ip t ti
  row : Row W (w.heap.size + 1) ys
  below : Below w.heap.size w W
section
variable {w W V : World} {op : Int} {m : Mac6} {ip : Int} {t : Mac6} {ti : Int} {ys ys' : List Int}
theorem BK.step (h : BK w op m ip t ti ys W) (hb : Below W.heap.size W V) : BK w op m ip t ti ys V := ⟨h.pk.step hb, h.row.below hb h.row.lt, h.below.trans (hb.mono h.below.size)⟩
theorem BK.only (h : BK w op m ip t ti ys W) (ho : Only (w.heap.size + 1) W V) (hr : Row V (w.heap.size + 1) ys') : BK w op m ip t ti ys' V :=
  ⟨h.pk.below ho.below (by omega), hr, h.below.trans (ho.below.mono (by omega))⟩
theorem BK.set (h : BK w op m ip t ti ys W) (i : Nat) (x : Int) : BK w op m ip t ti (ys.set i x) (W.setCell ⟨w.heap.size + 1, i, none⟩ (.int .u8 x)) :=
  h.only (Only.setCell _ _ _ _) (h.row.set i x)
end
theorem BK.start (op : Int) (m : Mac6) (ip : Int) (t : Mac6) (ti : Int) (w : World) (w2 : World) (ys : List Int) (row2 : Row w2 (w.alloc (.cells (pkC op m ip t ti) 29)).heap.size ys)
    (hb2 : Below (w.alloc (.cells (pkC op m ip t ti) 29)).heap.size (w.alloc (.cells (pkC op m ip t ti) 29)) w2) : BK w op m ip t ti ys w2 := by
  have hbl := alloc_below w (.cells (pkC op m ip t ti) 29)
  have hsz : (w.alloc (.cells (pkC op m ip t ti) 29)).heap.size = w.heap.size + 1 := by simp
  have hfr := PkAt.new w 29 op m ip t ti
  generalize w.alloc (.cells (pkC op m ip t ti) 29) = W at *
  rw [hsz] at row2
  exact ⟨hfr.step hb2, row2, hbl.trans (hb2.mono (by omega))⟩
theorem head_cells : Lib.byteCells (⟨#[0, 1, 8, 0, 6, 4]⟩ : ByteArray).data.toList = head6.map (Value.int .u8) := rfl
theorem head_size : (⟨#[0, 1, 8, 0, 6, 4]⟩ : ByteArray).size = head6.length := rfl
theorem head_fit : head6.length ≤ 28 := by decide
def row1 : List Int := [0, 1, 8, 0, 6, 4, 0, 0, 0, 0, 0, 0, 0, 0, 0, 0, 0, 0, 0, 0, 0, 0, 0, 0, 0, 0, 0, 0]
def row2 (op : Int) : List Int := [0, 1, 8, 0, 6, 4, op / 256 % 256, op % 256, 0, 0, 0, 0, 0, 0, 0, 0, 0, 0, 0, 0, 0, 0, 0, 0, 0, 0, 0, 0]
def row3 (op : Int) (m : Mac6) : List Int := [0, 1, 8, 0, 6, 4, op / 256 % 256, op % 256, m.a, m.b, m.c, m.d, m.e, m.f, 0, 0, 0, 0, 0, 0, 0, 0, 0, 0, 0, 0, 0, 0]
def row4 (op : Int) (m : Mac6) (ip : Int) : List Int := [0, 1, 8, 0, 6, 4, op / 256 % 256, op % 256, m.a, m.b, m.c, m.d, m.e, m.f, ip / 16777216, ip / 65536 % 256, ip / 256 % 256, ip % 256, 0, 0, 0, 0, 0, 0, 0, 0, 0, 0]
def row5 (op : Int) (m : Mac6) (ip : Int) (t : Mac6) : List Int := [0, 1, 8, 0, 6, 4, op / 256 % 256, op % 256, m.a, m.b, m.c, m.d, m.e, m.f, ip / 16777216, ip / 65536 % 256, ip / 256 % 256, ip % 256, t.a, t.b, t.c, t.d, t.e, t.f, 0, 0, 0, 0]

set_option maxRecDepth 100000 in
set_option maxHeartbeats 4000000 in
theorem bytes_any (op : Int) (m : Mac6) (ip : Int) (t : Mac6) (ti : Int) (w : World) (hm : m.ok) (hi : 0 ≤ ip ∧ ip < 4294967296) (ht : t.ok) (hti : 0 ≤ ti ∧ ti < 4294967296) :
    Calls Tryd.prog 14 #[pkV op m ip t ti] w (GivesRow w (pkB op m ip t ti) 28) := by
  have start := BK.start op m ip t ti w
  go_enter Tryd.func14, Tryd.ntmps14
  go_wp2_with (first
    | (at_make; refine wpList_mk (some 4) rfl rfl _ _ 22 rfl Tryd.underlying22 info5 28 _ _ rfl rfl rfl rfl (by omega) ?_; intro w2 row2 hs2 hb2; have bk := start w2 _ row2 hb2; clear start row2 hs2 hb2)
    | (refine wpList_cpStr (some 6) rfl rfl (.tmp 5) (.const (.string ⟨#[0, 1, 8, 0, 6, 4]⟩)) 22 9 rfl Tryd.underlying22 sz5 (w.heap.size + 1) (List.replicate 28 0) bk.row 28 28 rfl ⟨#[0, 1, 8, 0, 6, 4]⟩ head6 rfl head_cells head_size (by rw [List.length_replicate]; exact head_fit) head_fit ?_; intro w3 r3 ho3; replace bk : BK w op m ip t ti row1 w3 := bk.only ho3 r3; clear r3 ho3; obtain ⟨a0, a1, a2, a3, a4, a5, a6, a7, a8, a9, a10, a11, a12, a13, a14⟩ := bk.pk.cells; have c6 := bk.row.cell (i := 6) (by decide); have c7 := bk.row.cell (i := 7) (by decide); have z6 := bk.row.frozen 6; have z7 := bk.row.frozen 7))
  replace bk : BK w op m ip t ti (row2 op) ((w3.setCell ⟨w.heap.size + 1, 6, none⟩ (.int .u8 (op / 256 % 256))).setCell ⟨w.heap.size + 1, 7, none⟩ (.int .u8 (op % 256))) := (bk.set 6 _).set 7 _
  clear a0 a1 a2 a3 a4 a5 a6 a7 a8 a9 a10 a11 a12 a13 a14 c6 c7 z6 z7
  generalize (w3.setCell ⟨w.heap.size + 1, 6, none⟩ (.int .u8 (op / 256 % 256))).setCell ⟨w.heap.size + 1, 7, none⟩ (.int .u8 (op % 256)) = W3 at bk ⊢
  refine wp_region_held_drew (S := fun w' => PkAt w' w.heap.size 29 op m ip t ti) (by kernel_rfl) bk.pk.drew (fun hHeld => ?_)
  replace bk := bk.step (below_drew _)
  generalize W3.drew = W4 at *
  refine wpAnyH_at (i := 0) (some 18) (v := ?v0z1) rfl rfl (by kernel_rfl) (by kernel_rfl) (by kernel_rfl) (fun _ _ _ h => h) (Or.inl ⟨by rfl, ?y0z1⟩) (by assumption) ?r0z1
  case y0z1 =>
    intro w9 hSw
    clear hSw
    go_simp
    all_goals with_reducible rfl
  simp only [Act.put, List.setIfInBounds_toArray, List.set_cons_zero, List.set_cons_succ]
  refine wpAnyH_at (i := 1) (some 19) (v := ?v1z2) rfl rfl (by kernel_rfl) (by kernel_rfl) (by kernel_rfl) (fun _ _ _ h => h) (Or.inl ⟨by rfl, ?y1z2⟩) (by assumption) ?r1z2
  case y1z2 =>
    intro w9 hSw
    clear hSw
    go_simp
    all_goals with_reducible rfl
  simp only [Act.put, List.setIfInBounds_toArray, List.set_cons_zero, List.set_cons_succ]
  refine wpAnyH_at (i := 2) (some 20) (v := ?v2z3) rfl rfl (by kernel_rfl) (by kernel_rfl) (by kernel_rfl) (fun _ _ _ h => h) (Or.inl ⟨by rfl, ?y2z3⟩) (by assumption) ?r2z3
  case y2z3 =>
    intro w9 hSw
    clear hSw
    go_simp
    all_goals with_reducible rfl
  simp only [Act.put, List.setIfInBounds_toArray, List.set_cons_zero, List.set_cons_succ]
  refine wpAnyH_at (i := 3) (some 21) (v := ?v3z4) rfl rfl (by kernel_rfl) (by kernel_rfl) (by kernel_rfl) (fun _ _ _ h => h) (Or.inl ⟨by rfl, ?y3z4⟩) (by assumption) ?r3z4
  case y3z4 =>
    intro w9 hSw
    clear hSw
    go_simp
    all_goals with_reducible rfl
  simp only [Act.put, List.setIfInBounds_toArray, List.set_cons_zero, List.set_cons_succ]
  refine wpAnyH_one (i := 4) (by kernel_rfl) rfl ?_
  refine wpList_cpRow (some 22) rfl rfl (.tmp 19) (.tmp 21) 22 22 rfl Tryd.underlying22 sz5 (w.heap.size + 1) 8 (row2 op) bk.row _ 20 20 rfl (some ⟨w.heap.size, 1, none⟩) 6 6 (w.heap.size + 1) m.l rfl (bk.pk.rdMac hm) (show 8 + 6 ≤ 28 by decide) (by decide) (fun _ => rfl) ?_
  intro w5 r9 ho9
  replace bk : BK w op m ip t ti (row3 op m) w5 := bk.only ho9 r9
  clear r9 ho9 hHeld
  go_wp2
  refine ⟨bk.pk, ?_⟩
  refine wpAnyH_done (by kernel_rfl) ?_ _
  go_wp2_with fail
  refine wp_region_held_drew (S := fun w' => PkAt w' w.heap.size 29 op m ip t ti) (by kernel_rfl) bk.pk.drew (fun hHeld => ?_)
  replace bk := bk.step (below_drew _)
  generalize w5.drew = W6 at *
  refine wpAnyH_at (i := 0) (some 23) (v := ?v0z5) rfl rfl (by kernel_rfl) (by kernel_rfl) (by kernel_rfl) (fun _ _ _ h => h) (Or.inl ⟨by rfl, ?y0z5⟩) (by assumption) ?r0z5
  case y0z5 =>
    intro w9 hSw
    clear hSw
    go_simp
    all_goals with_reducible rfl
  simp only [Act.put, List.setIfInBounds_toArray, List.set_cons_zero, List.set_cons_succ]
  refine wpAnyH_at (i := 1) (some 24) (v := ?v1z6) rfl rfl (by kernel_rfl) (by kernel_rfl) (by kernel_rfl) (fun _ _ _ h => h) (Or.inl ⟨by rfl, ?y1z6⟩) (by assumption) ?r1z6
  case y1z6 =>
    intro w9 hSw
    clear hSw
    go_simp
    all_goals with_reducible rfl
  simp only [Act.put, List.setIfInBounds_toArray, List.set_cons_zero, List.set_cons_succ]
  refine wpAnyH_at (i := 2) (some 25) (v := ?v2z7) rfl rfl (by kernel_rfl) (by kernel_rfl) (by kernel_rfl) (fun _ _ _ h => h) (Or.inl ⟨by rfl, ?y2z7⟩) (by assumption) ?r2z7
  case y2z7 =>
    intro w9 hSw
    clear hSw
    go_simp
    all_goals with_reducible rfl
  simp only [Act.put, List.setIfInBounds_toArray, List.set_cons_zero, List.set_cons_succ]
  refine wpAnyH_at (i := 3) (some 26) (v := ?v3z8) rfl rfl (by kernel_rfl) (by kernel_rfl) (by kernel_rfl) (fun _ _ _ h => h) (Or.inl ⟨by rfl, ?y3z8⟩) (by assumption) ?r3z8
  case y3z8 =>
    intro w9 hSw
    (obtain ⟨a0, a1, a2, a3, a4, a5, a6, a7, a8, a9, a10, a11, a12, a13, a14⟩ := PkAt.cells hSw); clear hSw
    go_simp
    all_goals with_reducible rfl
  simp only [Act.put, List.setIfInBounds_toArray, List.set_cons_zero, List.set_cons_succ]
  refine wpAnyH_one (i := 4) (by kernel_rfl) rfl ?_
  go_wp2_with (go_at_call 31; refine (layIp_any (w.heap.size + 1) 14 14 14 (row3 op m) ip _ bk.row (show 14 + 4 ≤ 28 by decide) (by decide) hi).mono ?_; rintro e w7 ⟨rfl, r9, ho9⟩)
  replace bk : BK w op m ip t ti (row4 op m ip) w7 := bk.only ho9 r9
  clear r9 ho9 hHeld
  refine ⟨bk.pk, ?_⟩
  refine wpAnyH_done (by kernel_rfl) ?_ _
  go_wp2_with fail
  refine wp_region_held_drew (S := fun w' => PkAt w' w.heap.size 29 op m ip t ti) (by kernel_rfl) bk.pk.drew (fun hHeld => ?_)
  replace bk := bk.step (below_drew _)
  generalize w7.drew = W8 at *
  refine wpAnyH_at (i := 0) (some 28) (v := ?v0z9) rfl rfl (by kernel_rfl) (by kernel_rfl) (by kernel_rfl) (fun _ _ _ h => h) (Or.inl ⟨by rfl, ?y0z9⟩) (by assumption) ?r0z9
  case y0z9 =>
    intro w9 hSw
    clear hSw
    go_simp
    all_goals with_reducible rfl
  simp only [Act.put, List.setIfInBounds_toArray, List.set_cons_zero, List.set_cons_succ]
  refine wpAnyH_at (i := 1) (some 29) (v := ?v1z10) rfl rfl (by kernel_rfl) (by kernel_rfl) (by kernel_rfl) (fun _ _ _ h => h) (Or.inl ⟨by rfl, ?y1z10⟩) (by assumption) ?r1z10
  case y1z10 =>
    intro w9 hSw
    clear hSw
    go_simp
    all_goals with_reducible rfl
  simp only [Act.put, List.setIfInBounds_toArray, List.set_cons_zero, List.set_cons_succ]
  refine wpAnyH_at (i := 2) (some 30) (v := ?v2z11) rfl rfl (by kernel_rfl) (by kernel_rfl) (by kernel_rfl) (fun _ _ _ h => h) (Or.inl ⟨by rfl, ?y2z11⟩) (by assumption) ?r2z11
  case y2z11 =>
    intro w9 hSw
    clear hSw
    go_simp
    all_goals with_reducible rfl
  simp only [Act.put, List.setIfInBounds_toArray, List.set_cons_zero, List.set_cons_succ]
  refine wpAnyH_at (i := 3) (some 31) (v := ?v3z12) rfl rfl (by kernel_rfl) (by kernel_rfl) (by kernel_rfl) (fun _ _ _ h => h) (Or.inl ⟨by rfl, ?y3z12⟩) (by assumption) ?r3z12
  case y3z12 =>
    intro w9 hSw
    clear hSw
    go_simp
    all_goals with_reducible rfl
  simp only [Act.put, List.setIfInBounds_toArray, List.set_cons_zero, List.set_cons_succ]
  refine wpAnyH_one (i := 4) (by kernel_rfl) rfl ?_
  refine wpList_cpRow (some 32) rfl rfl (.tmp 29) (.tmp 31) 22 22 rfl Tryd.underlying22 sz5 (w.heap.size + 1) 18 (row4 op m ip) bk.row _ 10 10 rfl (some ⟨w.heap.size, 8, none⟩) 6 6 (w.heap.size + 1) t.l rfl (bk.pk.rdTo ht) (show 18 + 6 ≤ 28 by decide) (by decide) (fun _ => rfl) ?_
  intro w9 r9 ho9
  replace bk : BK w op m ip t ti (row5 op m ip t) w9 := bk.only ho9 r9
  clear r9 ho9 hHeld
  go_wp2
  refine ⟨bk.pk, ?_⟩
  refine wpAnyH_done (by kernel_rfl) ?_ _
  go_wp2_with fail
  refine wp_region_held_drew (S := fun w' => PkAt w' w.heap.size 29 op m ip t ti) (by kernel_rfl) bk.pk.drew (fun hHeld => ?_)
  replace bk := bk.step (below_drew _)
  generalize w9.drew = W10 at *
  refine wpAnyH_at (i := 0) (some 33) (v := ?v0z13) rfl rfl (by kernel_rfl) (by kernel_rfl) (by kernel_rfl) (fun _ _ _ h => h) (Or.inl ⟨by rfl, ?y0z13⟩) (by assumption) ?r0z13
  case y0z13 =>
    intro w9 hSw
    clear hSw
    go_simp
    all_goals with_reducible rfl
  simp only [Act.put, List.setIfInBounds_toArray, List.set_cons_zero, List.set_cons_succ]
  refine wpAnyH_at (i := 1) (some 34) (v := ?v1z14) rfl rfl (by kernel_rfl) (by kernel_rfl) (by kernel_rfl) (fun _ _ _ h => h) (Or.inl ⟨by rfl, ?y1z14⟩) (by assumption) ?r1z14
  case y1z14 =>
    intro w9 hSw
    clear hSw
    go_simp
    all_goals with_reducible rfl
  simp only [Act.put, List.setIfInBounds_toArray, List.set_cons_zero, List.set_cons_succ]
  refine wpAnyH_at (i := 2) (some 35) (v := ?v2z15) rfl rfl (by kernel_rfl) (by kernel_rfl) (by kernel_rfl) (fun _ _ _ h => h) (Or.inl ⟨by rfl, ?y2z15⟩) (by assumption) ?r2z15
  case y2z15 =>
    intro w9 hSw
    clear hSw
    go_simp
    all_goals with_reducible rfl
  simp only [Act.put, List.setIfInBounds_toArray, List.set_cons_zero, List.set_cons_succ]
  refine wpAnyH_at (i := 3) (some 36) (v := ?v3z16) rfl rfl (by kernel_rfl) (by kernel_rfl) (by kernel_rfl) (fun _ _ _ h => h) (Or.inl ⟨by rfl, ?y3z16⟩) (by assumption) ?r3z16
  case y3z16 =>
    intro w9 hSw
    (obtain ⟨a0, a1, a2, a3, a4, a5, a6, a7, a8, a9, a10, a11, a12, a13, a14⟩ := PkAt.cells hSw); clear hSw
    go_simp
    all_goals with_reducible rfl
  simp only [Act.put, List.setIfInBounds_toArray, List.set_cons_zero, List.set_cons_succ]
  refine wpAnyH_one (i := 4) (by kernel_rfl) rfl ?_
  go_wp2_with (go_at_call 31; refine (layIp_any (w.heap.size + 1) 24 4 4 (row5 op m ip t) ti _ bk.row (show 24 + 4 ≤ 28 by decide) (by decide) hti).mono ?_; rintro e w11 ⟨rfl, r9, ho9⟩)
  replace bk : BK w op m ip t ti (pkB op m ip t ti) w11 := bk.only ho9 r9
  clear r9 ho9 hHeld
  refine ⟨bk.pk, ?_⟩
  refine wpAnyH_done (by kernel_rfl) ?_ _
  go_wp2_with fail
  go_ret
  exact ⟨_, rfl, bk.row, Nat.le_succ _, bk.below⟩
end Go.Proofs.YtgjfhgipgcdddaaDoor
