/-
  A map from addresses to things, of the program's own.
-/
import Derived.Test.YtchkgmknhndccaaDoorLiveW
import Derived.Maps.OwnSet
namespace Go.Proofs.YtchkgmknhndccaaDoor
open Go.RowKit Go.Sort Go.Maps

theorem lawT : Keyed Tryd.prog 3 := int_keyed Tryd.underlying3
theorem zeroT (w : World) : (zeroValue 35).run Tryd.prog w = .ok (.agg #[.int .i64 0, .int .i64 0]) w := by kernel_rfl
/-- How a thing reads. -/
def thD (x y : Int) : DataW Unit := .agg [.lit (.int .i64 x), .lit (.int .i64 y)]
def thR (v : Value) : Option (DataW Unit × List MemPlace) := match v with
  | .agg cs => match cs.toList with
    | [.int .i64 x, .int .i64 y] => some (thD x y, [])
    | _ => none
  | _ => none
theorem thR_mk (x y : Int) : thR (.agg #[.int .i64 x, .int .i64 y]) = some (thD x y, []) := rfl
theorem thR_inv {v : Value} {x y : Int} {ps : List MemPlace} (h : thR v = some (thD x y, ps)) : v = .agg #[.int .i64 x, .int .i64 y] := by
  unfold thR at h
  split at h
  · rename_i cs
    split at h
    · rename_i a b e
      simp [thD] at h
      obtain ⟨⟨rfl, rfl⟩, _⟩ := h
      congr 1
      apply Array.ext'
      rw [e]
    · cases h
  · cases h
/-- Block b is a map of c entries, at most n, that tells of each number which thing is there. -/
def MpT (w : World) (b n : Nat) (M : Int → Option (Int × Int)) (c : Nat) : Prop :=
  ∃ D : DataW Unit, w.ownsMap Tryd.prog 3 thR b n D ∧ IsMap D ∧ (∀ i, has D (.int .i64 i) = obT (M i)) ∧ (∀ i, D.atKey (.int .i64 i) (thD 0 0) = thD (oxT (M i)) (oyT (M i))) ∧ size D = c
section
variable {w w' : World} {b n : Nat} {M : Int → Option (Int × Int)} {c : Nat}
theorem MpT.made (w : World) : MpT (w.alloc (.map #[] 0)) w.heap.size 0 (fun _ => none) 0 :=
  ⟨.map [], World.ownsMap_made _ _ _ _, isMap_empty, fun _ => rfl, fun _ => rfl, rfl⟩
theorem MpT.lt (h : MpT w b n M c) : b < w.heap.size := by
  obtain ⟨D, h1, _⟩ := h
  exact h1.lt
theorem MpT.keep (h : MpT w b n M c) (e : w'.heap[b]? = w.heap[b]?) : MpT w' b n M c := by
  obtain ⟨D, ⟨es, clock, hb, F⟩, h2⟩ := h
  exact ⟨D, ⟨es, clock, e.trans hb, F⟩, h2⟩
theorem MpT.next (h : MpT w b n M c) (hb : Below w.heap.size w w') : MpT w' b n M c := h.keep (hb.block b h.lt)
theorem MpT.stay {q : List Nat} (h : MpT w b n M c) (x : Only q w w') (hq : b ∉ q) : MpT w' b n M c := h.keep (x.block b h.lt hq)
theorem MpT.mono (h : MpT w b n M c) {n' : Nat} (hn : n ≤ n') : MpT w b n' M c := by
  obtain ⟨D, h1, h2⟩ := h
  exact ⟨D, h1.mono hn, h2⟩
theorem MpT.look (h : MpT w b n M c) (i : Int) (hi : (Lit.int .i64 i).wf = true) : (Instr.lookup 33 (.map (some b)) (.int .i64 i) true).run Tryd.prog w = .ok (.tuple #[.agg #[.int .i64 (oxT (M i)), .int .i64 (oyT (M i))], .bool (obT (M i))]) w := by
  obtain ⟨D, h1, _, h3, h4, _⟩ := h
  obtain ⟨v, ps, hrun, hv⟩ := h1.look_ok lawT Tryd.underlying33 (zeroT w) (thR_mk 0 0) (keyOf_int_mk Tryd.underlying3 hi)
  rw [h4 i] at hv
  rw [hrun, thR_inv hv, h3 i]
theorem MpT.put (h : MpT w b n M c) (i x y : Int) (hi : (Lit.int .i64 i).wf = true) (hn : n < 1048576) :
    ∃ w', (Instr.mapUpdate 33 (.map (some b)) (.int .i64 i) (.agg #[.int .i64 x, .int .i64 y])).run Tryd.prog w = .ok () w' ∧ MpT w' b (n + 1) (fun j => if j = i then some (x, y) else M j) (if obT (M i) then c else c + 1) ∧ w.grownBy w' (some b) := by
  obtain ⟨D, h1, h2, h3, h4, h5⟩ := h
  obtain ⟨w', hrun, q4, q5⟩ := h1.update lawT Tryd.underlying33 (by unfold maxLen; omega) (keyOf_int_mk Tryd.underlying3 hi) (thR_mk x y)
  have kl : WideAt.IsKeyLit (.int .i64 i) := trivial
  refine ⟨w', hrun, ⟨_, q4, h2.put _ _, fun j => ?_, fun j => ?_, ?_⟩, q5⟩
  · by_cases e : j = i
    · subst e; rw [has_put_same h2 kl]; simp [obT]
    · rw [has_put_other (fun h => e (by cases h; rfl)), h3 j]; simp [e]
  · by_cases e : j = i
    · subst e; rw [atKey_put_same h2 kl]; simp [oxT, oyT]
    · rw [atKey_put_other (fun h => e (by cases h; rfl)), h4 j]; simp [e]
  · rw [size_put (h1.tidy lawT), h3 i, h5]
theorem MpT.del (h : MpT w b n M c) (i : Int) (hi : (Lit.int .i64 i).wf = true) (ty : TypeId) :
    ∃ w', (Builtin.delete_ #[33, 3] ty #[.map (some b), .int .i64 i]).run Tryd.prog w = .ok (.tuple #[]) w' ∧ MpT w' b n (fun j => if j = i then none else M j) (if obT (M i) then c - 1 else c) ∧ w.grownBy w' (some b) := by
  obtain ⟨D, h1, h2, h3, h4, h5⟩ := h
  obtain ⟨w', hrun, q4, q5⟩ := h1.drop lawT Tryd.underlying33 (keyOf_int_mk Tryd.underlying3 hi) ty
  refine ⟨w', hrun, ⟨_, q4, h2.del _, fun j => ?_, fun j => ?_, ?_⟩, q5.grown⟩
  · by_cases e : j = i
    · subst e; rw [has_del_same]; simp [obT]
    · rw [has_del_other (fun h => e (by cases h; rfl)), h3 j]; simp [e]
  · by_cases e : j = i
    · subst e; rw [atKey_del_same]; simp [oxT, oyT]
    · rw [atKey_del_other (fun h => e (by cases h; rfl)), h4 j]; simp [e]
  · have := size_del (h1.tidy lawT) (k := .int .i64 i)
    rw [h3 i, h5] at this
    split <;> simp_all <;> omega
theorem MpT.len (h : MpT w b n M c) (ty : TypeId) : (Builtin.len_ #[33] ty #[.map (some b)]).run Tryd.prog w = .ok (.int .i64 (c : Int)) w := by
  obtain ⟨D, h1, _, _, _, h5⟩ := h
  rw [h1.len Tryd.underlying33 ty, h5]
end

/-! ### How many are live -/
theorem allL_get {S : Int} {len : Nat} {f : Nat → Int} {L : Nat → Option (Int × Int)} : ∀ {k i : Nat} {p : Int × Int}, (allL S len f L k)[i]? = some p → ∃ j x y, j < k ∧ L j = some (x, y) ∧ p = (65536 + (j : Int) * 16, szT S len f x y)
  | 0, i, p, h => by simp [allL] at h
  | k + 1, i, p, h => by
    rw [allL, List.getElem?_append] at h
    split at h
    · obtain ⟨j, x, y, h1, h2, h3⟩ := allL_get h
      exact ⟨j, x, y, by omega, h2, h3⟩
    · rcases hk : L k with _ | ⟨x, y⟩
      · rw [hk] at h; simp [ivOf] at h
      · rw [hk] at h
        simp only [ivOf] at h
        have hm := List.mem_of_getElem? h
        simp at hm
        exact ⟨k, x, y, by omega, hk, hm⟩
theorem allL_lt {S : Int} {len : Nat} {f : Nat → Int} {L : Nat → Option (Int × Int)} : ∀ {k : Nat} {p : Int × Int}, p ∈ allL S len f L k → p.1 < 65536 + (k : Int) * 16
  | 0, p, h => by simp [allL] at h
  | k + 1, p, h => by
    rw [allL, List.mem_append] at h
    rcases h with h | h
    · have := allL_lt h; omega
    · rcases hk : L k with _ | ⟨x, y⟩
      · rw [hk] at h; simp [ivOf] at h
      · rw [hk] at h; simp [ivOf] at h; subst h; simp; omega
theorem allL_rises {S : Int} {len : Nat} {f : Nat → Int} {L : Nat → Option (Int × Int)} : ∀ {k i : Nat} {p q : Int × Int}, (allL S len f L k)[i]? = some p → (allL S len f L k)[i + 1]? = some q → p.1 < q.1
  | 0, i, p, q, h, _ => by simp [allL] at h
  | k + 1, i, p, q, h, h2 => by
    rw [allL, List.getElem?_append] at h h2
    by_cases e2 : i + 1 < (allL S len f L k).length
    · rw [if_pos (by omega)] at h
      rw [if_pos e2] at h2
      exact allL_rises h h2
    · rw [if_neg e2] at h2
      rcases hk : L k with _ | ⟨x, y⟩
      · rw [hk] at h2; simp [ivOf] at h2
      · rw [hk] at h2 h
        simp only [ivOf] at h2 h
        have hm := List.mem_of_getElem? h2
        simp at hm
        by_cases e1 : i < (allL S len f L k).length
        · rw [if_pos e1] at h
          have := allL_lt (List.mem_of_getElem? h)
          rw [hm]
          exact this
        · have hl : i + 1 - (allL S len f L k).length < 1 := by
            have := (List.getElem?_eq_some_iff.1 h2).1
            simpa using this
          omega
theorem allL_set {S : Int} {len : Nat} {f : Nat → Int} {L : Nat → Option (Int × Int)} {j : Nat} {q : Option (Int × Int)} : ∀ {k : Nat}, (allL S len f (setL L j q) k).length + (if j < k ∧ obT (L j) = true then 1 else 0) = (allL S len f L k).length + (if j < k ∧ obT q = true then 1 else 0)
  | 0 => by simp [allL]
  | k + 1 => by
    have ih := allL_set (S := S) (len := len) (f := f) (L := L) (j := j) (q := q) (k := k)
    have iv : ∀ o : Option (Int × Int), (ivOf S len f k o).length = if obT o = true then 1 else 0 := fun o => by
      rcases o with _ | ⟨x, y⟩ <;> rfl
    simp only [allL, List.length_append, iv]
    by_cases e : k = j
    · subst e
      rw [if_neg (by omega), if_neg (by omega)] at ih
      simp only [setL, if_pos]
      by_cases h1 : obT (L k) = true <;> by_cases h2 : obT q = true <;> simp [h1, h2] <;> omega
    · have e2 : setL L j q k = L k := by simp [setL, e]
      rw [e2]
      have e3 : (j < k + 1) ↔ j < k := by omega
      simp only [e3]
      omega
end Go.Proofs.YtchkgmknhndccaaDoor
