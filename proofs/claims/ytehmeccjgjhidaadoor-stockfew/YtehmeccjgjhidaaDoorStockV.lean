/-
  The superblock of which there are most, as the document finds it; rows of ints; the document's Has.
-/
import Derived.Test.YtehmeccjgjhidaaDoorStockU
import Derived.Test.YtehmeccjgjhidaaDoorRefM
namespace Go.Proofs.YtehmeccjgjhidaaDoor
open Go.RowKit Go.Sort

theorem full_eq {l : List (Int × Int)} {s t : Int} (h : Full l s) (g : Full l t) : s = t := by
  have a := h.2.2 t g.1
  have b := g.2.2 s h.1
  have e : nOf l s = nOf l t := by omega
  have := a.2 e.symm
  have := b.2 e
  omega
/-- The best among the first i superblocks. -/
def Best (l : List (Int × Int)) (i : Nat) (b : Int) : Prop := (0 ≤ b ∧ (b = 0 ∨ b < (i : Int))) ∧ ∀ j : Int, 0 ≤ j → j < (i : Int) → nOf l j ≤ nOf l b ∧ (nOf l j = nOf l b → b ≤ j)
theorem best_one (l : List (Int × Int)) : Best l 1 0 := ⟨⟨by omega, .inl rfl⟩, fun j h0 h1 => by
  obtain rfl : j = 0 := by omega
  exact ⟨Nat.le_refl _, fun _ => by omega⟩⟩
theorem best_yes {l : List (Int × Int)} {i : Nat} {b : Int} (h : Best l i b) (g : nOf l b < nOf l (i : Int)) : Best l (i + 1) (i : Int) := ⟨⟨by omega, .inr (by omega)⟩, fun j h0 h1 => by
  by_cases e : j = (i : Int)
  · subst e; exact ⟨Nat.le_refl _, fun _ => Int.le_refl _⟩
  · have := (h.2 j h0 (by omega)).1
    exact ⟨by omega, fun e2 => by omega⟩⟩
theorem best_no {l : List (Int × Int)} {i : Nat} {b : Int} (h : Best l i b) (g : ¬ nOf l b < nOf l (i : Int)) : Best l (i + 1) b := ⟨⟨h.1.1, by rcases h.1.2 with e | e; exact .inl e; exact .inr (by omega)⟩, fun j h0 h1 => by
  by_cases e : j = (i : Int)
  · subst e
    exact ⟨by omega, fun _ => by rcases h.1.2 with e3 | e3 <;> omega⟩
  · exact h.2 j h0 (by omega)⟩
theorem best_full {l : List (Int × Int)} {n : Nat} {s b : Int} (h : Full l s) (g : Best l n b) (s1 : n ≤ 1000) (hl : ∀ x ∈ l, 0 ≤ x.1 ∧ x.1 < (n : Int)) : s = b := by
  obtain ⟨_, hp, hm⟩ := h
  obtain ⟨x, hx⟩ := List.length_pos_iff_exists_mem.1 hp
  obtain ⟨hx1, hx2⟩ := List.mem_filter.1 hx
  have e : x.1 = s := by simpa using hx2
  obtain ⟨a0, a1⟩ := hl x hx1
  rw [e] at a0 a1
  have q := g.2 s a0 a1
  have hb : (Lit.int .i64 b).wf = true := WalkArith.wf_i64 (by rcases g.1.2 with e3 | e3 <;> have := g.1.1 <;> omega)
  have p := hm b hb
  have e2 : nOf l b = nOf l s := by omega
  have := p.2 e2
  have := q.2 e2.symm
  omega

/-- Ints of the program's own, in a row. -/
def iE (x : Int) : List Value := [.int .i64 x]
theorem iEnc : Enc 1 iE := ⟨fun _ => rfl, fun x v hv => by simp [iE] at hv; subst hv; rfl⟩
def IRow (w : World) (v : Value) (l : List Int) : Prop := ORow 3 1 iE w v l
theorem infoI : (Tryd.prog.info? 3).map (fun i => (i.zero, i.size, i.bytes)) = some (some (.int .i64 0), 1, 8) := by kernel_rfl
theorem IRow.app {w : World} {vb : Nat} {x : Int} {v : Value} {l : List Int} (h : IRow w v l) (hv : w.heap[vb]? = some (.cells (iE x).toArray 3 (0, 0))) (few : l.length ≤ 1048576) (ty : TypeId) :
    ∃ v' w', (Builtin.append_ #[22, 22] ty #[v, .slice (some ⟨vb, 0, none⟩) 1 1]).run Tryd.prog w = .ok v' w' ∧ IRow w' v' (l ++ [x]) ∧ w.grownBy w' v.ownBlock ∧ (v'.ownBlock = v.ownBlock ∨ v'.ownBlock = some w.heap.size) ∧ ∃ b c, v' = .slice (some ⟨b, 0, none⟩) (l.length + 1) c := by
  obtain ⟨i, hi, hz, hs, hb⟩ := info_parts' infoI
  exact ORow.app iEnc (by decide) Tryd.underlying22 hi hz hs hb rfl h hv (by omega) (by unfold maxLen; omega) ty
theorem IRow.empty (w : World) : IRow (w.alloc (.cells #[] 3)) (.slice (some ⟨w.heap.size, 0, none⟩) 0 0) [] := by
  have h := heap_new w (.cells #[] 3)
  exact ⟨rfl, .inr ⟨w.heap.size, 0, #[], rfl, by omega, h, by simp, by unfold maxLen; omega, rfl, rfl⟩⟩

/-- The mask of a superblock's blocks, as the document has it. -/
theorem ofTo_goes (l : List (Int × Int)) (fi : Fine64 l) : ∀ k, k ≤ l.length → ofTo (fun j => (l.getD j (0, 0)).2) k = maskP (l.take k)
  | 0, _ => rfl
  | k + 1, h => by
    have hk : k < l.length := by omega
    have e : l.take (k + 1) = l.take k ++ [l[k]] := by
      rw [List.take_add_one, List.getElem?_eq_getElem hk]; rfl
    have ha := fi l[k] (List.getElem_mem hk)
    rw [e, maskP_app, ← ofTo_goes l fi k (by omega)]
    show addTo _ ((l.getD k (0, 0)).2) = _
    rw [List.getD_eq_getElem?_getD, List.getElem?_eq_getElem hk, Option.getD_some]
    unfold addTo
    rw [if_pos (by omega)]
end Go.Proofs.YtehmeccjgjhidaaDoor
