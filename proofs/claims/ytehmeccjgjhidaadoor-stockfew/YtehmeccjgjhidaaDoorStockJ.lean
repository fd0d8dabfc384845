/-
  fullest: the superblock of which a pile has most blocks, the least such.
-/
import Derived.Test.YtehmeccjgjhidaaDoorStockI
import Derived.Maps.RangeWalk
import Derived.Carry
namespace Go.Proofs.YtehmeccjgjhidaaDoor
open Go.RowKit Go.Maps Go.Sort

def nOf (l : List (Int × Int)) (i : Int) : Nat := (goes i l).length
theorem nOf_app (l : List (Int × Int)) (x : Int × Int) (i : Int) : nOf (l ++ [x]) i = if i = x.1 then nOf l i + 1 else nOf l i := by
  unfold nOf
  rw [goes_app]
  by_cases h : i = x.1
  · subst h; simp
  · rw [if_neg h, if_neg]
    simpa using fun e : x.1 = i => h e.symm
theorem nOf_le (l : List (Int × Int)) (i : Int) : nOf l i ≤ l.length := goes_len i l
theorem sp_law : Keyed Tryd.prog 3 := int_keyed Tryd.underlying3
theorem zeroIn (w : World) : (zeroValue 3).run Tryd.prog w = .ok (.int .i64 0) w := by kernel_rfl
/-- Block b is a map that tells of each superblock how many blocks of it are in l. -/
def CnD (w : World) (b n : Nat) (l : List (Int × Int)) (D : DataW Unit) : Prop :=
  w.ownsMap Tryd.prog 3 (plainElem Tryd.prog 3) b n D ∧ IsMap D ∧ (∀ i, (Lit.int .i64 i).wf = true → D.atKey (.int .i64 i) (.lit (.int .i64 0)) = .lit (.int .i64 (nOf l i : Nat))) ∧ ∀ i, has D (.int .i64 i) = decide (0 < nOf l i)
def CnM (w : World) (b n : Nat) (l : List (Int × Int)) : Prop := ∃ D, CnD w b n l D
section
variable {w w' : World} {b n : Nat} {l : List (Int × Int)}
theorem CnM.made (w : World) : CnM (w.alloc (.map #[] 0)) w.heap.size 0 [] :=
  ⟨.map [], World.ownsMap_made _ _ _ _, isMap_empty, fun i _ => by simp [DataW.atKey, nOf, goes], fun i => by simp [nOf, goes]; rfl⟩
theorem CnM.lt (h : CnM w b n l) : b < w.heap.size := by
  obtain ⟨D, h1, _⟩ := h
  exact h1.lt
theorem CnM.keep (h : CnM w b n l) (e : w'.heap[b]? = w.heap[b]?) : CnM w' b n l := by
  obtain ⟨D, ⟨es, clock, hb, F⟩, h2⟩ := h
  exact ⟨D, ⟨es, clock, e.trans hb, F⟩, h2⟩
theorem CnM.next (h : CnM w b n l) (hb : Below w.heap.size w w') : CnM w' b n l := h.keep (hb.block b h.lt)
theorem CnM.look (h : CnM w b n l) {i : Int} (hi : (Lit.int .i64 i).wf = true) : (Instr.lookup 65 (.map (some b)) (.int .i64 i) false).run Tryd.prog w = .ok (.int .i64 (nOf l i : Nat)) w := by
  obtain ⟨D, h1, _, h3, _⟩ := h
  obtain ⟨v, ps, hrun, hv⟩ := h1.lookup sp_law Tryd.underlying65 (zeroIn w) (plainElem_int Tryd.underlying3 (by decide)) (keyOf_int_mk Tryd.underlying3 hi)
  rw [h3 i hi] at hv
  obtain ⟨c, hc, he, _⟩ := plainElem_int_inv Tryd.underlying3 hv
  cases he
  rw [hrun, hc]
theorem CnM.put (h : CnM w b n l) {x : Int × Int} (hi : (Lit.int .i64 x.1).wf = true) (hn : n < 1048576) (hl : l.length < 1048576) :
    ∃ w', (Instr.mapUpdate 65 (.map (some b)) (.int .i64 x.1) (.int .i64 ((nOf l x.1 : Nat) + 1))).run Tryd.prog w = .ok () w' ∧ CnM w' b (n + 1) (l ++ [x]) ∧ w.grownBy w' (some b) := by
  obtain ⟨D, h1, h2, h3, h4⟩ := h
  have hle := nOf_le l x.1
  obtain ⟨w', hrun, q4, q5⟩ := h1.update sp_law Tryd.underlying65 (by unfold maxLen; omega) (keyOf_int_mk Tryd.underlying3 hi) (plainElem_int Tryd.underlying3 (a := (nOf l x.1 : Nat) + 1) (WalkArith.wf_i64 (by omega)))
  have kl : WideAt.IsKeyLit (.int .i64 x.1) := trivial
  refine ⟨w', hrun, ⟨_, q4, h2.put _ _, fun j hj => ?_, fun j => ?_⟩, q5⟩
  · rw [nOf_app]
    by_cases e : j = x.1
    · subst e; rw [atKey_put_same h2 kl, if_pos rfl]; simp
    · rw [atKey_put_other (fun h => e (by cases h; rfl)), h3 j hj, if_neg e]
  · rw [nOf_app]
    by_cases e : j = x.1
    · subst e; rw [has_put_same h2 kl, if_pos rfl]; simp
    · rw [has_put_other (fun h => e (by cases h; rfl)), h4 j, if_neg e]
end
/-- It has most, and is the least such. -/
def Full (l : List (Int × Int)) (s : Int) : Prop := (Lit.int .i64 s).wf = true ∧ 0 < nOf l s ∧ ∀ i, (Lit.int .i64 i).wf = true → nOf l i ≤ nOf l s ∧ (nOf l i = nOf l s → s ≤ i)
/-- What is known behind some. -/
def Seen (l : List (Int × Int)) (left : Lit → Bool) (su mo : Int) : Prop :=
  (su = 0 ∧ mo = 0 ∧ ∀ i, 0 < nOf l i → left (.int .i64 i) = true) ∨
  ((Lit.int .i64 su).wf = true ∧ mo = (nOf l su : Nat) ∧ 0 < nOf l su ∧ ∀ i, (Lit.int .i64 i).wf = true → 0 < nOf l i → left (.int .i64 i) = false → nOf l i ≤ nOf l su ∧ (nOf l i = nOf l su → su ≤ i))
theorem same_int (i x : Int) : (Lit.int .i64 i).sameKey (.int .i64 x) = decide (i = x) := by simp [Lit.sameKey]
theorem seen_yes {l : List (Int × Int)} {left : Lit → Bool} {su mo x : Int} (h : Seen l left su mo) (hx : (Lit.int .i64 x).wf = true) (hc : 0 < nOf l x) (hg : mo < (nOf l x : Nat) ∨ ((nOf l x : Nat) = mo ∧ x < su)) :
    Seen l (fun z => left z && !z.sameKey (.int .i64 x)) x (nOf l x : Nat) := by
  refine .inr ⟨hx, rfl, hc, fun i hi h0 hl => ?_⟩
  simp only [same_int, Bool.and_eq_false_iff, Bool.not_eq_false', decide_eq_true_eq] at hl
  rcases hl with hl | hl
  · rcases h with ⟨_, _, h3⟩ | ⟨_, h2, h3, h4⟩
    · rw [h3 i h0] at hl; cases hl
    · obtain ⟨a1, a2⟩ := h4 i hi h0 hl
      rcases hg with hg | ⟨hg, hg2⟩
      · exact ⟨by omega, fun e => by omega⟩
      · exact ⟨by omega, fun e => by have := a2 (by omega); omega⟩
  · subst hl
    exact ⟨Nat.le_refl _, fun _ => by omega⟩
theorem seen_no {l : List (Int × Int)} {left : Lit → Bool} {su mo x : Int} (h : Seen l left su mo) (hc : 0 < nOf l x) (hg : ¬ (mo < (nOf l x : Nat) ∨ ((nOf l x : Nat) = mo ∧ x < su))) :
    Seen l (fun z => left z && !z.sameKey (.int .i64 x)) su mo := by
  rcases h with ⟨_, h2, _⟩ | ⟨h1, h2, h3, h4⟩
  · exact absurd (.inl (by omega)) hg
  · refine .inr ⟨h1, h2, h3, fun i hi h0 hl => ?_⟩
    simp only [same_int, Bool.and_eq_false_iff, Bool.not_eq_false', decide_eq_true_eq] at hl
    rcases hl with hl | hl
    · exact h4 i hi h0 hl
    · subst hl
      exact ⟨by omega, fun e => by omega⟩
theorem seen_all {l : List (Int × Int)} {left : Lit → Bool} {su mo : Int} (h : Seen l left su mo) (hl : ∀ kl, left kl = false) (hne : l ≠ []) : Full l su := by
  rcases h with ⟨_, _, h3⟩ | ⟨h1, _, h3, h4⟩
  · cases l with
    | nil => exact absurd rfl hne
    | cons x l =>
      have := h3 x.1 (by unfold nOf goes; simp)
      rw [hl] at this
      cases this
  · refine ⟨h1, h3, fun i hi => ?_⟩
    by_cases h0 : 0 < nOf l i
    · exact h4 i hi h0 (hl _)
    · exact ⟨by omega, fun e => by omega⟩
end Go.Proofs.YtehmeccjgjhidaaDoor
