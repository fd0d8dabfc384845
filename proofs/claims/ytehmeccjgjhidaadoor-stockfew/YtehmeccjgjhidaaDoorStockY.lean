/-
  The document's Push.
-/
import Derived.Test.YtehmeccjgjhidaaDoorStockX
import Derived.Test.YtehmeccjgjhidaaDoorGen2
import Derived.Test.YtehmeccjgjhidaaDoorSteps
namespace Go.Proofs.YtehmeccjgjhidaaDoor
open Go.RowKit Go.Sort
attribute [local go_sem] Oper.semAt_some

theorem BkRow.cat {w : World} {v u : Value} {l : List (Int × Int)} (hv : BkRow w v []) (h : BkRow w u l) (few : l.length ≤ 1048576) (ty : TypeId) :
    ∃ v' w', (Builtin.append_ #[25, 25] ty #[v, u]).run Tryd.prog w = .ok v' w' ∧ BkRow w' v' l ∧ w.grownBy w' v.ownBlock ∧ (v'.ownBlock = v.ownBlock ∨ v'.ownBlock = some w.heap.size) := by
  obtain ⟨i, hi, hz, hs, hb⟩ := info_parts' infoBk
  have h2 := ORow.cat bkEnc (by decide) Tryd.underlying25 hi hz hs hb rfl hv h (by simp; omega) (by unfold maxLen; simp; omega) ty
  rw [List.nil_append] at h2
  exact h2
/-- A row that is made is below nothing that was. -/
theorem fresh_of {w0 w w' : World} {v v' : Value} (hb : Below w0.heap.size w0 w) (hv : ∀ b, v.ownBlock = some b → w0.heap.size ≤ b) (hg : w.grownBy w' v.ownBlock) (ho : v'.ownBlock = v.ownBlock ∨ v'.ownBlock = some w.heap.size) : Below w0.heap.size w0 w' ∧ ∀ b, v'.ownBlock = some b → w0.heap.size ≤ b := by
  have o := Only.of_grown (l := v.ownBlock.toList) hg (fun b hb => by simp [hb])
  refine ⟨hb.trans (o.below (fun b hb => hv b (by simpa using hb)) hb.size), fun b h => ?_⟩
  rcases ho with e | e
  · exact hv b (by rw [← e]; exact h)
  · rw [e] at h; cases h; exact hb.size
theorem BkRow.stay' {w w' : World} {v : Value} {l : List (Int × Int)} {q : Option Nat} (h : BkRow w v l) (hg : w.grownBy w' q) (hn : ∀ b, v.ownBlock = some b → q ≠ some b) : BkRow w' v l :=
  ORow.stay (q := q.toList) h (Only.of_grown hg (fun b hb => by simp [hb])) (fun b hb hm => hn b hb (by simpa using hm))
section
variable (W S B T : Int) (ad : Option Addr) (len cap : Nat) (f : Nat → Int)
end
end Go.Proofs.YtehmeccjgjhidaaDoor
