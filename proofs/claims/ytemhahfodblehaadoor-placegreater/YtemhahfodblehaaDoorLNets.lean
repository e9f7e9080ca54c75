/-
  The law PlaceNets, walked.
-/
import Derived.Test.YtemhahfodblehaaDoorAlive
namespace Go.Proofs.YtemhahfodblehaaDoor
open Go.RowKit

/-- Three boxes of subnets. -/
structure K3 (w : World) (g : Nat) (ip b : Int) (h : Nat) (jp c : Int) (j : Nat) (kp d : Int) (W : World) : Prop where
  x : KB w g ip b W
  y : KB w h jp c W
  z : KB w j kp d W
section
variable {w W V : World} {g h j : Nat} {ip b jp c kp d : Int}
theorem K3.step (k : K3 w g ip b h jp c j kp d W) (hb : Below W.heap.size W V) : K3 w g ip b h jp c j kp d V := ⟨k.x.step hb, k.y.step hb, k.z.step hb⟩
theorem K3.drew (k : K3 w g ip b h jp c j kp d W) : K3 w g ip b h jp c j kp d W.drew := ⟨k.x.drew, k.y.drew, k.z.drew⟩
theorem K3.parts (k : K3 w g ip b h jp c j kp d W) : W.cell? ⟨g, 0, none⟩ = some (.int .u32 ip) ∧ W.cell? ⟨g, 1, none⟩ = some (.int .i64 b) ∧ W.cell? ⟨h, 0, none⟩ = some (.int .u32 jp) ∧ W.cell? ⟨h, 1, none⟩ = some (.int .i64 c) ∧ W.cell? ⟨j, 0, none⟩ = some (.int .u32 kp) ∧ W.cell? ⟨j, 1, none⟩ = some (.int .i64 d) ∧ K3 w g ip b h jp c j kp d W :=
  ⟨k.x.c0, k.x.c1, k.y.c0, k.y.c1, k.z.c0, k.z.c1, k⟩
end
theorem KB.new' {w V : World} (hb : Below w.heap.size w V) (ip b : Int) (t : TypeId) : KB w V.heap.size ip b (V.alloc (.cells #[.int .u32 ip, .int .i64 b] t)) :=
  have k := KB.new V ip b t
  ⟨k.c0, k.c1, k.lt, hb.trans (k.below.mono hb.size)⟩
set_option maxRecDepth 100000 in
set_option maxHeartbeats 8000000 in
theorem nets_law (ip b jp c x : Int) (w : World) (kn : Kn w) (hip : W32 ip) (hjp : W32 jp) (hx : W32 x) :
    Calls Tryd.prog 3 #[.agg #[.int .u32 ip, .int .i64 b], .agg #[.int .u32 jp, .int .i64 c], .int .u32 x] w fun e w' => e = .returned (.bool true) ∧ Below w.heap.size w w' := by
  have k := KB2.new w ip b jp c 24
  have kn2 := (kn.alloc (.cells #[.int .u32 ip, .int .i64 b] 24)).alloc (.cells #[.int .u32 jp, .int .i64 c] 24)
  go_enter Tryd.func3, Tryd.ntmps3
  go_wp2_with fail
  with_reducible refine (alive_any _ kn2).mono ?_
  rintro e w1 ⟨rfl, hb⟩
  replace k := k.step hb
  clear hb
  obtain ⟨c0, c1, d0, d1, -⟩ := k.parts
  go_wp2_with fail
  with_reducible refine (of_any _ _ _).mono ?_
  rintro e w2 ⟨rfl, hb⟩
  replace k := k.step hb
  clear hb c0 c1 d0 d1
  have k3 : K3 w w.heap.size ip b (w.heap.size + 1) jp c w2.heap.size ip b (w2.alloc (.cells #[.int .u32 ip, .int .i64 b] 26)) := ⟨k.x.alloc _, k.y.alloc _, KB.new' k.x.below ip b 26⟩
  clear k
  go_wp2_with fail
  generalize hW : w2.alloc (.cells #[.int .u32 ip, .int .i64 b] 26) = W at k3 ⊢
  generalize hj : w2.heap.size = j at k3 ⊢
  generalize hg : w.heap.size = g at k3 ⊢
  generalize hh : g + 1 = h at k3 ⊢
  go_region_held3 (fun w' => w'.cell? ⟨g, 0, none⟩ = some (.int .u32 ip) ∧ w'.cell? ⟨g, 1, none⟩ = some (.int .i64 b) ∧ w'.cell? ⟨h, 0, none⟩ = some (.int .u32 jp) ∧ w'.cell? ⟨h, 1, none⟩ = some (.int .i64 c) ∧ w'.cell? ⟨j, 0, none⟩ = some (.int .u32 ip) ∧ w'.cell? ⟨j, 1, none⟩ = some (.int .i64 b) ∧ K3 w g ip b h jp c j ip b w')
    (first
      | assumption
      | (exact K3.parts (K3.drew k3))
      | (go_split_ands; exact K3.parts (K3.step (by assumption) hb1)))
    (first
      | (go_at_call 9; go_split_ands; with_reducible refine (right_any _ _ _ hip).mono ?_; rintro e w3 ⟨rfl, hb1⟩)
      | (go_at_call 10; go_split_ands; with_reducible refine (refRight_any _ _ _ hip).mono ?_; rintro e w3 ⟨rfl, hb1⟩)
      | (go_at_call 11; go_split_ands; with_reducible refine (base_any _ _ _ hip).mono ?_; rintro e w3 ⟨rfl, hb1⟩)
      | (go_at_call 12; go_split_ands; with_reducible refine (refBase_any _ _ _ hip).mono ?_; rintro e w3 ⟨rfl, hb1⟩)
      | (go_at_call 13; go_split_ands; with_reducible refine (last_any _ _ _ hip).mono ?_; rintro e w3 ⟨rfl, hb1⟩)
      | (go_at_call 14; go_split_ands; with_reducible refine (refLast_any _ _ _ hip).mono ?_; rintro e w3 ⟨rfl, hb1⟩)
      | (go_at_call 15; go_split_ands; with_reducible refine (has_any _ _ _ _ hip hx).mono ?_; rintro e w3 ⟨rfl, hb1⟩)
      | (go_at_call 16; go_split_ands; with_reducible refine (refHas_any _ _ _ _ hip).mono ?_; rintro e w3 ⟨rfl, hb1⟩)
      | (go_at_call 17; go_split_ands; with_reducible refine (host_any _ _ _ _ hip hx).mono ?_; rintro e w3 ⟨rfl, hb1⟩)
      | (go_at_call 18; go_split_ands; with_reducible refine (refHost_any _ _ _ _ hip).mono ?_; rintro e w3 ⟨rfl, hb1⟩)
      | (go_at_call 19; go_split_ands; with_reducible refine (mask_any _ _ _).mono ?_; rintro e w3 ⟨rfl, hb1⟩)
      | (go_at_call 20; go_split_ands; with_reducible refine (refMask_any _ _ _).mono ?_; rintro e w3 ⟨rfl, hb1⟩)
      | (go_at_call 21; go_split_ands; with_reducible refine (apart_any _ _ _ _ _ hip hjp).mono ?_; rintro e w3 ⟨rfl, hb1⟩)
      | (go_at_call 8; go_split_ands; with_reducible refine (of_any _ _ _).mono ?_; rintro e w3 ⟨rfl, hb1⟩)
      | (go_at_call 22; go_split_ands; with_reducible refine (refApart_any _ _ _ _ _ hip hjp).mono ?_; rintro e w3 ⟨rfl, hb1⟩)
      | (go_at_call 23; go_split_ands; with_reducible refine (single_any _ _).mono ?_; rintro e w3 ⟨rfl, rfl⟩)
      | (go_at_call 24; go_split_ands; with_reducible refine (refSingle_any _ _ hx).mono ?_; rintro e w3 ⟨rfl, rfl⟩))
  all_goals
    go_split_ands
    go_wp2
    subst hh
    subst hg
    go_ret
    exact ⟨rfl, (show K3 w w.heap.size ip b (w.heap.size + 1) jp c j ip b _ by assumption).x.below⟩
end Go.Proofs.YtemhahfodblehaaDoor
