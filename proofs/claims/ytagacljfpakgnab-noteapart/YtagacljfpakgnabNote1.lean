/-
  Events in a row; a map from numbers to numbers; where a worker's event stands that didn't end.
-/
import Derived.Test.YtagacljfpakgnabGen2
import Derived.Maps.OwnOps
import Derived.Maps.OwnSet
import Derived.Maps.Views
import Derived.DeepKeys4
namespace Go.Proofs.Ytagacljfpakgnab
open Go.RowKit Go.Sort Go.Maps

structure Ev where
  w : Int
  k : Int
  n : Int
  c : Int
  a : Int
  s : Int
  b : Int
  p : Int
  e : Int
def evE (x : Ev) : List Value := [.int .i64 x.w, .int .i64 x.k, .int .i64 x.n, .int .i64 x.c, .int .i64 x.a, .int .i64 x.s, .int .i64 x.b, .int .i64 x.p, .int .i64 x.e]
theorem evEnc : Enc 9 evE := ⟨fun _ => rfl, fun x v hv => by
  simp [evE] at hv
  rcases hv with rfl | rfl | rfl | rfl | rfl | rfl | rfl | rfl | rfl <;> rfl⟩
def EvRow (w : World) (v : Value) (l : List Ev) : Prop := ORow 38 9 evE w v l
theorem infoEv : (Try.prog.info? 38).map (fun i => (i.zero, i.size, i.bytes)) = some (some (.agg #[.int .i64 0, .int .i64 0, .int .i64 0, .int .i64 0, .int .i64 0, .int .i64 0, .int .i64 0, .int .i64 0, .int .i64 0]), 9, 72) := by kernel_rfl
theorem EvRow.app {w : World} {vb : Nat} {x : Ev} {v : Value} {l : List Ev} (h : EvRow w v l) (hv : w.heap[vb]? = some (.cells (evE x).toArray 38 (0, 0))) (few : l.length ≤ 1048576) (ty : TypeId) :
    ∃ v' w', (Builtin.append_ #[24, 24] ty #[v, .slice (some ⟨vb, 0, none⟩) 1 1]).run Try.prog w = .ok v' w' ∧ EvRow w' v' (l ++ [x]) ∧ w.grownBy w' v.ownBlock ∧ (v'.ownBlock = v.ownBlock ∨ v'.ownBlock = some w.heap.size) ∧ ∃ b c, v' = .slice (some ⟨b, 0, none⟩) (l.length + 1) c := by
  obtain ⟨i, hi, hz, hs, hb⟩ := info_parts' infoEv
  exact ORow.app evEnc (by decide) Try.underlying24 hi hz hs hb rfl h hv (by omega) (by unfold maxLen; omega) ty
theorem EvRow.cat {w : World} {v u : Value} {l : List Ev} (hv : EvRow w v []) (h : EvRow w u l) (few : l.length ≤ 1048576) (ty : TypeId) :
    ∃ v' w', (Builtin.append_ #[24, 24] ty #[v, u]).run Try.prog w = .ok v' w' ∧ EvRow w' v' l ∧ w.grownBy w' v.ownBlock ∧ (v'.ownBlock = v.ownBlock ∨ v'.ownBlock = some w.heap.size) := by
  obtain ⟨i, hi, hz, hs, hb⟩ := info_parts' infoEv
  have h2 := ORow.cat evEnc (by decide) Try.underlying24 hi hz hs hb rfl hv h (by simp; omega) (by unfold maxLen; simp; omega) ty
  rw [List.nil_append] at h2
  exact h2
theorem EvRow.empty (w : World) : EvRow (w.alloc (.cells #[] 38)) (.slice (some ⟨w.heap.size, 0, none⟩) 0 0) [] :=
  ⟨by simp, .inr ⟨w.heap.size, 0, #[], rfl, Nat.zero_le _, heap_new w _, Nat.le_refl _, by simp [maxLen], by simp, by simp⟩⟩
theorem EvRow.obj {w : World} {v : Value} {l : List Ev} (h : EvRow w v l) {b : Nat} (hb : v.ownBlock = some b) : ∃ cur, w.heap[b]? = some (.cells cur 38 (0, 0)) := by
  rcases ORow.cases h with ⟨h1, _⟩ | ⟨b', cap, cur, h1, h2, _⟩
  · subst h1; cases hb
  · subst h1
    simp [Value.ownBlock] at hb
    subst hb
    exact ⟨cur, h2⟩
theorem EvRow.lt' {w : World} {v : Value} {l : List Ev} (h : EvRow w v l) {b : Nat} (hb : v.ownBlock = some b) : b < w.heap.size := by
  obtain ⟨cur, hc⟩ := h.obj hb
  exact heap_lt hc

/-! ### A map from numbers to numbers -/
theorem nt_law : Keyed Try.prog 3 := int_keyed Try.underlying3
theorem zeroNt (w : World) : (zeroValue 3).run Try.prog w = .ok (.int .i64 0) w := by kernel_rfl
def oN (o : Option Nat) : Int := ((o.getD 0 : Nat) : Int)
/-- Block b is a map of at most n entries that tells of each number which place it has. -/
def MpI (w : World) (b n : Nat) (O : Int → Option Nat) : Prop :=
  ∃ D : DataW Unit, w.ownsMap Try.prog 3 (plainElem Try.prog 3) b n D ∧ IsMap D ∧ (∀ i, has D (.int .i64 i) = (O i).isSome) ∧ ∀ i, D.atKey (.int .i64 i) (.lit (.int .i64 0)) = .lit (.int .i64 (oN (O i)))
section
variable {w w' : World} {b n : Nat} {O : Int → Option Nat}
theorem MpI.made (w : World) : MpI (w.alloc (.map #[] 0)) w.heap.size 0 (fun _ => none) :=
  ⟨.map [], World.ownsMap_made _ _ _ _, isMap_empty, fun _ => rfl, fun _ => rfl⟩
theorem MpI.lt (h : MpI w b n O) : b < w.heap.size := by
  obtain ⟨D, h1, _⟩ := h
  exact h1.lt
theorem MpI.obj (h : MpI w b n O) : ∃ es c, w.heap[b]? = some (.map es c) := by
  obtain ⟨D, ⟨es, clock, hb, _⟩, _⟩ := h
  exact ⟨es, clock, hb⟩
theorem MpI.keep (h : MpI w b n O) (e : w'.heap[b]? = w.heap[b]?) : MpI w' b n O := by
  obtain ⟨D, ⟨es, clock, hb, F⟩, h2⟩ := h
  exact ⟨D, ⟨es, clock, e.trans hb, F⟩, h2⟩
theorem MpI.mono (h : MpI w b n O) {n' : Nat} (hn : n ≤ n') : MpI w b n' O := by
  obtain ⟨D, h1, h2⟩ := h
  exact ⟨D, h1.mono hn, h2⟩
theorem MpI.congr (h : MpI w b n O) {O' : Int → Option Nat} (e : ∀ i, O i = O' i) : MpI w b n O' := by
  obtain rfl : O = O' := funext e
  exact h
theorem MpI.look (h : MpI w b n O) (i : Int) (hi : (Lit.int .i64 i).wf = true) : (Instr.lookup 25 (.map (some b)) (.int .i64 i) true).run Try.prog w = .ok (.tuple #[.int .i64 (oN (O i)), .bool (O i).isSome]) w := by
  obtain ⟨D, h1, _, h3, h4⟩ := h
  obtain ⟨v, ps, hrun, hv⟩ := h1.look_ok nt_law Try.underlying25 (zeroNt w) (plainElem_int Try.underlying3 (by decide)) (keyOf_int_mk Try.underlying3 hi)
  rw [h4 i] at hv
  obtain ⟨c, hc, he, _⟩ := plainElem_int_inv Try.underlying3 hv
  cases he
  rw [hrun, hc, h3 i]
theorem MpI.put (h : MpI w b n O) (i : Int) (x : Nat) (hi : (Lit.int .i64 i).wf = true) (hx : x < 1048576) (hn : n < 1048576) :
    ∃ w', (Instr.mapUpdate 25 (.map (some b)) (.int .i64 i) (.int .i64 (x : Nat))).run Try.prog w = .ok () w' ∧ MpI w' b (n + 1) (fun j => if j = i then some x else O j) ∧ w.grownBy w' (some b) := by
  obtain ⟨D, h1, h2, h3, h4⟩ := h
  obtain ⟨w', hrun, q4, q5⟩ := h1.update nt_law Try.underlying25 (by unfold maxLen; omega) (keyOf_int_mk Try.underlying3 hi) (plainElem_int Try.underlying3 (a := (x : Nat)) (WalkArith.wf_i64 (by omega)))
  have kl : WideAt.IsKeyLit (.int .i64 i) := trivial
  refine ⟨w', hrun, ⟨_, q4, h2.put _ _, fun j => ?_, fun j => ?_⟩, q5⟩
  · by_cases e : j = i
    · subst e; rw [has_put_same h2 kl]; simp
    · rw [has_put_other (fun h => e (by cases h; rfl)), h3 j]; simp [e]
  · by_cases e : j = i
    · subst e; rw [atKey_put_same h2 kl]; simp [oN]
    · rw [atKey_put_other (fun h => e (by cases h; rfl)), h4 j]; simp [e]
theorem MpI.del (h : MpI w b n O) (i : Int) (hi : (Lit.int .i64 i).wf = true) (ty : TypeId) :
    ∃ w', (Builtin.delete_ #[25, 3] ty #[.map (some b), .int .i64 i]).run Try.prog w = .ok (.tuple #[]) w' ∧ MpI w' b n (fun j => if j = i then none else O j) ∧ w.grownBy w' (some b) := by
  obtain ⟨D, h1, h2, h3, h4⟩ := h
  obtain ⟨w', hrun, q4, q5⟩ := h1.drop nt_law Try.underlying25 (keyOf_int_mk Try.underlying3 hi) ty
  refine ⟨w', hrun, ⟨_, q4, h2.del _, fun j => ?_, fun j => ?_⟩, q5.grown⟩
  · by_cases e : j = i
    · subst e; rw [has_del_same]; simp
    · rw [has_del_other (fun h => e (by cases h; rfl)), h3 j]; simp [e]
  · by_cases e : j = i
    · subst e; rw [atKey_del_same]; simp [oN]
    · rw [atKey_del_other (fun h => e (by cases h; rfl)), h4 j]; simp [e]
end

/-! ### Where a worker's event stands that didn't end -/
def findTo (l : List Ev) (i : Int) : Nat → Option Nat
  | 0 => none
  | k + 1 => match l[k]? with
    | some x => if x.w = i then (if x.e = 0 then some k else none) else findTo l i k
    | none => findTo l i k
def findI (l : List Ev) (i : Int) : Option Nat := findTo l i l.length
theorem findTo_some {l : List Ev} {i : Int} : ∀ {k j : Nat}, findTo l i k = some j → ∃ x, l[j]? = some x ∧ x.w = i ∧ x.e = 0 ∧ j < k ∧ ∀ t y, j < t → t < k → l[t]? = some y → y.w ≠ i
  | 0, j, h => by cases h
  | k + 1, j, h => by
    unfold findTo at h
    split at h
    · rename_i x hx
      split at h
      · rename_i hw
        split at h
        · rename_i he
          cases h
          exact ⟨x, hx, hw, he, by omega, fun t y h1 h2 => by omega⟩
        · cases h
      · rename_i hw
        obtain ⟨y, h1, h2, h3, h4, h5⟩ := findTo_some h
        refine ⟨y, h1, h2, h3, by omega, fun t z a b c => ?_⟩
        by_cases e : t = k
        · subst e; rw [hx] at c; cases c; exact hw
        · exact h5 t z a (by omega) c
    · rename_i hx
      obtain ⟨y, h1, h2, h3, h4, h5⟩ := findTo_some h
      refine ⟨y, h1, h2, h3, by omega, fun t z a b c => ?_⟩
      by_cases e : t = k
      · subst e; rw [hx] at c; cases c
      · exact h5 t z a (by omega) c
theorem findI_some {l : List Ev} {i : Int} {j : Nat} (h : findI l i = some j) : ∃ x, l[j]? = some x ∧ x.w = i ∧ x.e = 0 ∧ j < l.length ∧ ∀ t y, j < t → t < l.length → l[t]? = some y → y.w ≠ i := findTo_some h
theorem findTo_app (l m : List Ev) (i : Int) : ∀ k, k ≤ l.length → findTo (l ++ m) i k = findTo l i k
  | 0, _ => rfl
  | k + 1, h => by
    unfold findTo
    rw [List.getElem?_append_left (by omega), findTo_app l m i k (by omega)]
theorem findI_app (l : List Ev) (x : Ev) (i : Int) : findI (l ++ [x]) i = if x.w = i then (if x.e = 0 then some l.length else none) else findI l i := by
  unfold findI
  rw [List.length_append, List.length_singleton]
  show findTo (l ++ [x]) i (l.length + 1) = _
  conv => lhs; unfold findTo
  rw [List.getElem?_append_right (Nat.le_refl _), Nat.sub_self, findTo_app l [x] i _ (Nat.le_refl _)]
  rfl
theorem findTo_same {l m : List Ev} {i : Int} : ∀ {k : Nat}, (∀ t, t < k → (l[t]?.map fun x => (x.w, decide (x.e = 0))) = m[t]?.map fun x => (x.w, decide (x.e = 0))) → findTo l i k = findTo m i k
  | 0, _ => rfl
  | k + 1, h => by
    have hk := h k (by omega)
    have ih := findTo_same (i := i) (k := k) (fun t ht => h t (by omega))
    unfold findTo
    cases e1 : l[k]? with
    | none =>
      rw [e1] at hk
      cases e2 : m[k]? with
      | none => exact ih
      | some y => rw [e2] at hk; simp at hk
    | some x =>
      rw [e1] at hk
      cases e2 : m[k]? with
      | none => rw [e2] at hk; simp at hk
      | some y =>
        rw [e2] at hk
        simp at hk
        simp only [hk.1, ih]
        by_cases a : y.w = i
        · simp only [if_pos a]
          by_cases b : x.e = 0
          · rw [if_pos b, if_pos (hk.2.1 b)]
          · rw [if_neg b, if_neg (fun c => b (hk.2.2 c))]
        · simp only [if_neg a]
/-- An event turns, and neither its worker nor whether it ended. -/
theorem findI_keep {l : List Ev} {j : Nat} {x y : Ev} (h : l[j]? = some x) (h1 : y.w = x.w) (h2 : y.e = 0 ↔ x.e = 0) (i : Int) : findI (l.set j y) i = findI l i := by
  unfold findI
  rw [List.length_set]
  refine findTo_same (fun t _ => ?_)
  rw [List.getElem?_set]
  by_cases e : j = t
  · subst e
    have hl := (List.getElem?_eq_some_iff.1 h).1
    rw [if_pos rfl, if_pos hl, h]
    simp [h1, h2]
  · rw [if_neg e]
/-- It ended. -/
theorem findI_end {l : List Ev} {j : Nat} {y : Ev} {i : Int} (h : findI l i = some j) (h1 : y.w = i) (h2 : y.e ≠ 0) (t : Int) : findI (l.set j y) t = if t = i then none else findI l t := by
  obtain ⟨x, hx, hxw, hxe, hj, hlast⟩ := findI_some h
  unfold findI
  rw [List.length_set]
  by_cases e : t = i
  · subst e
    rw [if_pos rfl]
    have key : ∀ k, j < k → k ≤ l.length → findTo (l.set j y) t k = none := fun k => by
      induction k with
      | zero => intro h; omega
      | succ k ih =>
        intro h0 hk
        unfold findTo
        rw [List.getElem?_set]
        by_cases a : j = k
        · subst a
          rw [if_pos rfl, if_pos hj]
          simp [h1, h2]
        · rw [if_neg a]
          have hlt : k < l.length := by omega
          rw [List.getElem?_eq_getElem hlt]
          have := hlast k l[k] (by omega) hlt (List.getElem?_eq_getElem hlt)
          simp only [if_neg this]
          exact ih (by omega) (by omega)
    exact key _ hj (Nat.le_refl _)
  · rw [if_neg e]
    have key : ∀ k, k ≤ l.length → findTo (l.set j y) t k = findTo l t k := fun k => by
      induction k with
      | zero => intro _; rfl
      | succ k ih =>
        intro hk
        unfold findTo
        rw [List.getElem?_set, ih (by omega)]
        by_cases a : j = k
        · subst a
          rw [if_pos rfl, if_pos hj, hx]
          simp only [h1, hxw, if_neg (show ¬ i = t from fun q => e q.symm)]
        · rw [if_neg a]
    exact key _ (Nat.le_refl _)
end Go.Proofs.Ytagacljfpakgnab
