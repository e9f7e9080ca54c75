/-
  A wheel in memory: its maps, its levels. What a map of times and a set of timers are.
-/
import Derived.Test.YtalojeblemhihaaTm
import Derived.Test.YtalojeblemhihaaKp
import Derived.Test.YtalojeblemhihaaProg
import Derived.Maps.RangeWalk
namespace Go.Proofs.Ytalojeblemhihaa
open Go.RowKit
open Go.Maps (Keyed IsMap Tidy)
set_option linter.unusedVariables false

theorem k3 : Keyed Try.prog 3 := Go.Maps.int_keyed Try.underlying3
theorem key3 {t : Int} (h : wfI t) : keyOf Try.prog 3 (.int .i64 t) = some (.int .i64 t) := Go.Maps.keyOf_int_mk Try.underlying3 h
theorem isKey {t : Int} (h : wfI t) : WideAt.IsKeyLit (.int .i64 t) := k3.key (key3 h)
theorem litne {t s : Int} (h : t ≠ s) : (Lit.int .i64 t) ≠ .int .i64 s := fun e => h (by injection e)

noncomputable abbrev elU := plainElem (H := Unit) Try.prog 22
noncomputable abbrev elS := unitElem (H := Unit)

/-- The datum D holds of each timer of R when it is due. -/
structure DuD (D : DataW Unit) (R : List Tm) : Prop where
  size : Maps.size D = R.length
  has : ∀ t, wfI t → Maps.has D (.int .i64 t) = hasT t R
  at_ : ∀ x ∈ R, ∀ z, D.atKey (.int .i64 x.1) z = .lit (.int .u64 x.2)
/-- The datum D is the set of the timers of L. -/
structure LvD (D : DataW Unit) (L : List Int) : Prop where
  nodup : L.Nodup
  wf : ∀ t ∈ L, wfI t
  size : Maps.size D = L.length
  has : ∀ t, wfI t → Maps.has D (.int .i64 t) = decide (t ∈ L)
def DuAt (w : World) (b : Nat) (R : List Tm) : Prop := ∃ D, w.ownsMap Try.prog 3 elU b R.length D ∧ DuD D R
def LvAt (w : World) (b : Nat) (L : List Int) : Prop := ∃ D, w.ownsMap Try.prog 3 elS b L.length D ∧ LvD D L

section
variable {D : DataW Unit} {R : List Tm} {L : List Int} {t : Int} {d : Nat}
theorem DuD.empty : DuD (.map []) [] := ⟨rfl, fun _ _ => rfl, by simp⟩
theorem LvD.empty : LvD (.map []) [] := ⟨List.nodup_nil, by simp, rfl, fun _ _ => rfl⟩
theorem DuD.put (h : DuD D R) (hT : Tidy D) (hO : Ok R) (hw : wfI t) (hno : hasT t R = false) : DuD (D.put (.int .i64 t) (.lit (.int .u64 d))) (insT (t, d) R) := by
  have h0 := h.has t hw
  rw [hno] at h0
  refine ⟨?_, fun s hs => ?_, fun x hx z => ?_⟩
  · rw [Maps.size_put hT, h0, len_ins, h.size]; rfl
  · rw [hasT_ins]
    by_cases e : s = t
    · subst e
      rw [Maps.has_put_same hT.isMap (isKey hw)]
      simp
    · rw [Maps.has_put_other (litne e), h.has s hs]
      have : (s == t) = false := by simpa using e
      simp [this]
  · rcases mem_insT.1 hx with rfl | hx
    · exact Maps.atKey_put_same hT.isMap (isKey hw) _ _
    · have e : x.1 ≠ t := fun e => hasT_false.1 hno x.2 (by rw [← e]; exact hx)
      rw [Maps.atKey_put_other (litne e)]
      exact h.at_ x hx z
theorem DuD.del (h : DuD D R) (hT : Tidy D) (hO : Ok R) (hw : wfI t) : DuD (D.del (.int .i64 t)) (delT t R) := by
  refine ⟨?_, fun s hs => ?_, fun x hx z => ?_⟩
  · have h1 := Maps.size_del (k := .int .i64 t) hT
    have h2 := hO.len_del t
    rw [h.has t hw, h.size] at h1
    omega
  · rw [hasT_del]
    by_cases e : s = t
    · subst e
      rw [Maps.has_del_same]
      simp
    · rw [Maps.has_del_other (litne e), h.has s hs]
      have : (s != t) = true := by simpa using e
      simp [this]
  · obtain ⟨h1, h2⟩ := mem_delT.1 hx
    rw [Maps.atKey_del_other (litne h2)]
    exact h.at_ x h1 z
/-- A timer is laid into a level. -/
def addL (t : Int) (L : List Int) : List Int := if t ∈ L then L else L ++ [t]
theorem mem_addL {s : Int} : s ∈ addL t L ↔ s ∈ L ∨ s = t := by
  unfold addL
  split
  · rename_i h
    constructor
    · exact .inl
    · rintro (h1 | rfl)
      · exact h1
      · exact h
  · simp
theorem addL_nodup (h : L.Nodup) : (addL t L).Nodup := by
  unfold addL
  split
  · exact h
  · rename_i hn
    refine List.nodup_append.2 ⟨h, by simp, fun a ha b hb => ?_⟩
    have : b = t := by simpa using hb
    subst this
    exact fun e => hn (e ▸ ha)
theorem LvD.put (h : LvD D L) (hT : Tidy D) (hw : wfI t) (u : DataW Unit) : LvD (D.put (.int .i64 t) u) (addL t L) := by
  refine ⟨addL_nodup h.nodup, fun s hs => ?_, ?_, fun s hs => ?_⟩
  · rcases mem_addL.1 hs with h1 | rfl
    · exact h.wf s h1
    · exact hw
  · rw [Maps.size_put hT, h.has t hw, h.size]
    unfold addL
    by_cases e : t ∈ L <;> simp [e]
  · by_cases e : s = t
    · subst e
      rw [Maps.has_put_same hT.isMap (isKey hw)]
      simp [mem_addL]
    · rw [Maps.has_put_other (litne e), h.has s hs]
      simp [mem_addL, e]
theorem LvD.del (h : LvD D L) (hT : Tidy D) (hw : wfI t) : LvD (D.del (.int .i64 t)) (L.filter (· != t)) := by
  refine ⟨h.nodup.filter _, fun s hs => h.wf s (List.mem_filter.1 hs).1, ?_, fun s hs => ?_⟩
  · have h1 := Maps.size_del (k := .int .i64 t) hT
    rw [h.has t hw, h.size] at h1
    have key : ∀ l : List Int, l.Nodup → (l.filter (· != t)).length + (if decide (t ∈ l) = true then 1 else 0) = l.length := by
      intro l
      induction l with
      | nil => intro _; rfl
      | cons a r ih =>
        intro hp
        obtain ⟨p1, p2⟩ := List.nodup_cons.1 hp
        have hi := ih p2
        by_cases e : a = t
        · subst e
          have : (r.filter (· != a)) = r := List.filter_eq_self.2 fun x hx => by
            have : x ≠ a := by rintro rfl; exact p1 hx
            simpa using this
          simp [this]
        · have e1 : (a != t) = true := by simpa using e
          have e2 : t ≠ a := fun e' => e e'.symm
          simp only [List.filter_cons, e1, if_true, List.length_cons, List.mem_cons, e2, false_or] at hi ⊢
          omega
    have h2 := key L h.nodup
    omega
  · by_cases e : s = t
    · subst e
      rw [Maps.has_del_same]
      simp
    · rw [Maps.has_del_other (litne e), h.has s hs]
      simp [e]
end

theorem _root_.Go.World.ownsMap.tight {H : Type} {P : Program} {k : TypeId} {R : Value → Option (DataW H × List MemPlace)} {w : World} {b n : Nat} {D : DataW H} (h : w.ownsMap P k R b n D) : w.ownsMap P k R b (Maps.size D) D := by
  obtain ⟨es, clock, hb, F, hs, rfl⟩ := h
  refine ⟨es, clock, hb, F, ?_, rfl⟩
  simp [Maps.size, length_sorted]

section
variable {S : Nat → Prop} {w w' : World} {b : Nat} {R : List Tm} {L : List Int} {t : Int} {d : Nat}
theorem ownsMap_kept {H : Type} {P : Program} {k : TypeId} {E : Value → Option (DataW H × List MemPlace)} {n : Nat} {D : DataW H} (h : w.ownsMap P k E b n D) (hk : Kept S w w') (hb : ¬ S b) : w'.ownsMap P k E b n D := by
  have hl := h.lt
  obtain ⟨es, clock, hb', r⟩ := h
  exact ⟨es, clock, (hk.block b hl hb).trans hb', r⟩
theorem DuAt.kept (h : DuAt w b R) (hk : Kept S w w') (hb : ¬ S b) : DuAt w' b R := let ⟨D, h1, h2⟩ := h; ⟨D, ownsMap_kept h1 hk hb, h2⟩
theorem LvAt.kept (h : LvAt w b L) (hk : Kept S w w') (hb : ¬ S b) : LvAt w' b L := let ⟨D, h1, h2⟩ := h; ⟨D, ownsMap_kept h1 hk hb, h2⟩
theorem DuAt.lt (h : DuAt w b R) : b < w.heap.size := let ⟨_, h1, _⟩ := h; h1.lt
theorem LvAt.lt (h : LvAt w b L) : b < w.heap.size := let ⟨_, h1, _⟩ := h; h1.lt
theorem LvAt.nodup (h : LvAt w b L) : L.Nodup := let ⟨_, _, h2⟩ := h; h2.nodup
theorem LvAt.wf (h : LvAt w b L) : ∀ t ∈ L, wfI t := let ⟨_, _, h2⟩ := h; h2.wf
theorem DuAt.blk (h : DuAt w b R) : ∃ es clock, w.heap[b]? = some (.map es clock) := let ⟨_, ⟨es, clock, hb, _⟩, _⟩ := h; ⟨es, clock, hb⟩
theorem LvAt.blk (h : LvAt w b L) : ∃ es clock, w.heap[b]? = some (.map es clock) := let ⟨_, ⟨es, clock, hb, _⟩, _⟩ := h; ⟨es, clock, hb⟩
theorem DuAt.new (w : World) : DuAt (w.alloc (.map #[] 0)) w.heap.size [] := ⟨_, World.ownsMap_made w _ _ _, DuD.empty⟩
theorem LvAt.new (w : World) : LvAt (w.alloc (.map #[] 0)) w.heap.size [] := ⟨_, World.ownsMap_made w _ _ _, LvD.empty⟩
theorem LvAt.perm {L' : List Int} (h : LvAt w b L) (hn : L'.Nodup) (hm : ∀ t, t ∈ L' ↔ t ∈ L) : LvAt w b L' := by
  obtain ⟨D, h1, h2⟩ := h
  have hl : L'.length = L.length := ((List.perm_ext_iff_of_nodup hn h2.nodup).2 hm).length_eq
  refine ⟨D, by rw [hl]; exact h1, hn, fun t ht => h2.wf t ((hm t).1 ht), by rw [hl]; exact h2.size, fun t ht => ?_⟩
  rw [h2.has t ht]
  simp [hm]

theorem zero22 (w : World) : (zeroValue 22).run Try.prog w = .ok (.int .u64 0) w := by kernel_rfl
theorem zero74 (w : World) : (zeroValue 74).run Try.prog w = .ok (.agg #[]) w := by kernel_rfl

theorem lit_u64 {a b : Int} (h : (DataW.lit (.int .u64 a) : DataW Unit) = .lit (.int .u64 b)) : a = b := by cases h; rfl
theorem look_value {D : DataW Unit} (h2 : DuD D R) (hO : Ok R) (hw : wfI t) {v : Value} {ps : List MemPlace} (hv : elU v = some (D.atKey (.int .i64 t) (.lit (.int .u64 0)), ps)) : v = .int .u64 (dueT t R : Nat) := by
  obtain ⟨a, rfl, he, _⟩ := plainElem_int_inv Try.underlying22 hv
  have he' := congrArg Prod.fst he
  simp only at he'
  cases e : hasT t R
  · rw [Maps.atKey_of_not_has (by rw [h2.has t hw, e])] at he'
    rw [dueT_no e]
    rw [← lit_u64 he']
    rfl
  · have hm := due_mem hO e
    have := h2.at_ _ hm (.lit (.int .u64 0))
    simp only at this
    rw [this] at he'
    rw [← lit_u64 he']
theorem DuAt.look (h : DuAt w b R) (hO : Ok R) (hw : wfI t) : (Instr.lookup 56 (.map (some b)) (.int .i64 t) true).run Try.prog w = .ok (.tuple #[.int .u64 (dueT t R : Nat), .bool (hasT t R)]) w := by
  obtain ⟨D, h1, h2⟩ := h
  obtain ⟨v, ps, hr, hv⟩ := h1.look_ok k3 Try.underlying56 (zero22 w) (plainElem_int Try.underlying22 (by decide)) (key3 hw)
  rw [hr, h2.has t hw, look_value h2 hO hw hv]
theorem DuAt.look1 (h : DuAt w b R) (hO : Ok R) (hw : wfI t) : (Instr.lookup 56 (.map (some b)) (.int .i64 t) false).run Try.prog w = .ok (.int .u64 (dueT t R : Nat)) w := by
  obtain ⟨D, h1, h2⟩ := h
  obtain ⟨c, hr, hat, hwc⟩ := h1.lookup_int k3 Try.underlying56 Try.underlying22 (zero22 w) (key3 hw)
  rw [hr]
  have := look_value (v := .int .u64 c) (ps := []) h2 hO hw (by show plainElem Try.prog 22 _ = _; rw [plainElem_int Try.underlying22 hwc, hat])
  rw [this]
theorem DuAt.len (h : DuAt w b R) (ty : TypeId) : (Builtin.len_ #[56] ty #[.map (some b)]).run Try.prog w = .ok (.int .i64 R.length) w := by
  obtain ⟨D, h1, h2⟩ := h
  rw [h1.len Try.underlying56 ty, h2.size]
theorem LvAt.len (h : LvAt w b L) (ty : TypeId) : (Builtin.len_ #[63] ty #[.map (some b)]).run Try.prog w = .ok (.int .i64 L.length) w := by
  obtain ⟨D, h1, h2⟩ := h
  rw [h1.len Try.underlying63 ty, h2.size]
theorem kept_turned {b : Nat} (h : w.mapTurned w' b) (hS : S b) : Kept S w w' := Kept.grown h.grown (fun k hk => by cases hk; exact hS)
theorem DuAt.put (h : DuAt w b R) (hO : Ok R) (hw : wfI t) (hno : hasT t R = false) (hl : R.length ≤ 100000) (hd : d ≤ 4611686018427387904) : ∃ w', (Instr.mapUpdate 56 (.map (some b)) (.int .i64 t) (.int .u64 d)).run Try.prog w = .ok () w' ∧ DuAt w' b (insT (t, d) R) ∧ w.mapTurned w' b := by
  obtain ⟨D, h1, h2⟩ := h
  obtain ⟨w', hr, h3, h4⟩ := h1.store k3 Try.underlying56 (by unfold maxLen; omega) (key3 hw) (plainElem_int Try.underlying22 (a := (d : Int)) (by simp [Lit.wf, IntKind.min, IntKind.max, IntKind.signed, IntKind.bits]; omega))
  refine ⟨w', hr, ⟨_, ?_, h2.put (h1.tidy k3) hO hw hno⟩, h4⟩
  rw [len_ins]
  exact h3
theorem LvAt.put (h : LvAt w b L) (hw : wfI t) (hl : L.length ≤ 100000) : ∃ w', (Instr.mapUpdate 63 (.map (some b)) (.int .i64 t) (.agg #[])).run Try.prog w = .ok () w' ∧ LvAt w' b (addL t L) ∧ w.mapTurned w' b := by
  obtain ⟨D, h1, h2⟩ := h
  obtain ⟨w', hr, h3, h4⟩ := h1.store k3 Try.underlying63 (by unfold maxLen; omega) (key3 hw) unitElem_mk
  have h5 := h2.put (h1.tidy k3) hw (.agg [])
  refine ⟨w', hr, ⟨_, ?_, h5⟩, h4⟩
  rw [← h5.size]
  exact h3.tight
theorem DuAt.del (h : DuAt w b R) (hO : Ok R) (hw : wfI t) (ty : TypeId) : ∃ w', (Builtin.delete_ #[56, 3] ty #[.map (some b), .int .i64 t]).run Try.prog w = .ok (.tuple #[]) w' ∧ DuAt w' b (delT t R) ∧ w.mapTurned w' b := by
  obtain ⟨D, h1, h2⟩ := h
  obtain ⟨w', hr, h3, h4⟩ := h1.drop k3 Try.underlying56 (key3 hw) ty
  have h5 := h2.del (h1.tidy k3) hO hw
  exact ⟨w', hr, ⟨_, by rw [← h5.size]; exact h3.tight, h5⟩, h4⟩
theorem LvAt.del (h : LvAt w b L) (hw : wfI t) (ty : TypeId) : ∃ w', (Builtin.delete_ #[63, 3] ty #[.map (some b), .int .i64 t]).run Try.prog w = .ok (.tuple #[]) w' ∧ LvAt w' b (L.filter (· != t)) ∧ w.mapTurned w' b := by
  obtain ⟨D, h1, h2⟩ := h
  obtain ⟨w', hr, h3, h4⟩ := h1.drop k3 Try.underlying63 (key3 hw) ty
  have h5 := h2.del (h1.tidy k3) hw
  exact ⟨w', hr, ⟨_, by rw [← h5.size]; exact h3.tight, h5⟩, h4⟩
open Go.ChangeMaps Go.MapKept Go.WideShapes in
theorem LvAt.clear (h : LvAt w b L) (ty : TypeId) : ∃ w', (Builtin.clear_ #[63] ty #[.map (some b)]).run Try.prog w = .ok (.tuple #[]) w' ∧ LvAt w' b [] ∧ w.mapTurned w' b := by
  obtain ⟨D, ⟨es, clock, hb, F, hs, hD⟩, h2⟩ := h
  refine ⟨setBlock w b (.map #[] clock), ?_, ⟨_, ⟨#[], clock, heap_setBlock_same hb _, ⟨by simp, stamped_empty clock, by simp⟩, Nat.le_refl _, rfl⟩, LvD.empty⟩, ⟨es, clock, #[], clock, hb, rfl⟩⟩
  simp [Builtin.clear_, run_underlying Try.underlying63, MapKept.run_getObj_map hb, MapKept.run_setObj_map _ hb, Result.andThen, setBlock]
end
end Go.Proofs.Ytalojeblemhihaa
