/-
  (Value).Set at a fault.
-/
import Derived.Test.YtbefoapnlehdmaaDoorSet
namespace Go.Proofs.YtbefoapnlehdmaaDoor
open Go.RowKit Go.Extern.Stop Go.Stop Go.Extern
theorem set53 (tb bb : Nat) (r : Int) (t : TypeId) (v : Value) (o1 o2 : Value) (W : World) (hb1 : W.cell? ⟨bb, 0, none⟩ = some (.int .i64 r)) (hb2 : W.cell? ⟨bb, 1, none⟩ = some (.iface t v))
    (ht1 : W.cell? ⟨tb, 0, none⟩ = some o1) (ht2 : W.cell? ⟨tb, 1, none⟩ = some o2) (hf1 : W.frozen? ⟨tb, 0, none⟩ = false) (hf2 : W.frozen? ⟨tb, 1, none⟩ = false) :
    (ReflectliteValue.set #[.agg #[.pointer (some ⟨1, 100, none⟩), .pointer (some ⟨tb, 0, none⟩), .int .u64 409], .agg #[.pointer (some ⟨1, 100, none⟩), .pointer (some ⟨bb, 0, none⟩), .int .u64 153]]).run Tryd.prog W
      = .ok (.tuple #[]) ((W.setCell ⟨tb, 0, none⟩ (.int .i64 r)).setCell ⟨tb, 1, none⟩ (.iface t v)) := by
  change Sem.run _ (ReflectliteValue.parts (.agg #[.pointer (some ⟨1, 100, none⟩), .pointer (some ⟨tb, 0, none⟩), .int .u64 409]) >>= fun p => ReflectliteValue.parts (.agg #[.pointer (some ⟨1, 100, none⟩), .pointer (some ⟨bb, 0, none⟩), .int .u64 153]) >>= _) _ = _
  simp only [Sem.run_bind, parts53a, parts53, Result.andThen]
  simp [ReflectliteValue.flagAddr, loadVar, isAgg, underlying, Tryd.underlying100, Result.andThen, direct53, storeVar, Value.cells, storeCells, Addr.add]
  have hl : (loadCells ⟨bb, 0, none⟩ 2).run Tryd.prog W = .ok #[.int .i64 r, .iface t v] W := by
    refine run_loadCells_list (P := Tryd.prog) W ⟨bb, 0, none⟩ [.int .i64 r, .iface t v] ?_
    intro j u hj
    match j, hj with
    | 0, hj => simp at hj; subst hj; simpa [Addr.add] using hb1
    | 1, hj => simp at hj; subst hj; simpa [Addr.add] using hb2
    | j + 2, hj => simp at hj
  have ht2' : (W.setCell ⟨tb, 0, none⟩ (.int .i64 r)).cell? ⟨tb, 1, none⟩ = some o2 := by
    rw [World.cell?_setCell_other _ _ _ _ (by simp)]; exact ht2
  simp only [hl]
  simp [storeCells, Addr.add]
  rw [run_store Tryd.prog W ⟨tb, 0, none⟩ _ _ (by rfl)]
  simp only [ht1, hf1]
  simp
  rw [run_store Tryd.prog _ ⟨tb, 1, none⟩ _ _ (by rfl)]
  simp [ht2', hf2]
end Go.Proofs.YtbefoapnlehdmaaDoor
