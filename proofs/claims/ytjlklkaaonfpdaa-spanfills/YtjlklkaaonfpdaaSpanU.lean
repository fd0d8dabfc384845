/-
  Intervals of one address each, below 256 (no program in it).
-/
import Derived.Test.YtjlklkaaonfpdaaSpanM
namespace Go.Proofs.Ytjlklkaaonfpdaa
open Go.RowKit

def UnitL (l : List Iv) : Prop := ∀ y ∈ l, y.2 = 1 ∧ 0 ≤ y.1 ∧ y.1 < 256
theorem unit_nil : UnitL [] := fun _ h => by cases h
theorem unit_put {l : List Iv} (u : UnitL l) {z : Int} (h0 : 0 ≤ z) (h1 : z < 256) : UnitL (putL l (z, 1)) := by
  unfold putL
  split
  · intro y hy
    rcases mem_ins.1 hy with rfl | hy
    · exact ⟨rfl, h0, h1⟩
    · exact u y hy
  · exact u
theorem unit_drop {l : List Iv} (u : UnitL l) (a : Int) : UnitL (dropL l a) := fun y hy => u y (List.mem_filter.1 hy).1
theorem put_no {l : List Iv} (u : UnitL l) {z : Int} (h0 : 0 ≤ z) (h1 : z < 256) (h : putB l (z, 1) = false) : (z, 1) ∈ l := by
  have hm : mayI (z, 1) = true := by simp [mayI]; omega
  simp only [putB, hm, Bool.true_and, Bool.not_eq_false'] at h
  simp only [overB, Bool.and_eq_true, List.any_eq_true] at h
  obtain ⟨_, y, hy, hs⟩ := h
  have uy := u y hy
  simp [shB] at hs
  have : y = (z, 1) := by
    obtain ⟨y1, y2⟩ := y
    simp only at uy hs
    rw [show y1 = z by omega, show y2 = 1 by omega]
  rw [← this]; exact hy
theorem put_in {l : List Iv} (u : UnitL l) {z : Int} (h0 : 0 ≤ z) (h1 : z < 256) : (z, 1) ∈ putL l (z, 1) := by
  unfold putL
  split
  · exact mem_ins.2 (.inl rfl)
  · rename_i h
    exact put_no u h0 h1 (by simpa using h)
theorem put_keeps {l : List Iv} {y x : Iv} (h : y ∈ l) : y ∈ putL l x := by
  unfold putL
  split
  · exact mem_ins.2 (.inr h)
  · exact h
theorem drop_keeps {l : List Iv} {y : Iv} {a : Int} (h : y ∈ l) (hne : y.1 ≠ a) : y ∈ dropL l a := List.mem_filter.2 ⟨h, by simpa using hne⟩
theorem len_from : ∀ (n : Nat) (a : Int) (l : List Iv), a + n = 256 → Good l → (∀ y ∈ l, y.2 = 1 ∧ a ≤ y.1 ∧ y.1 < 256) → l.length ≤ n
  | 0, a, l, hn, _, h => by
    cases l with
    | nil => simp
    | cons y t => have := h y (by simp); omega
  | n + 1, a, l, hn, g, h => by
    cases l with
    | nil => simp
    | cons y t =>
      have hy := h y (by simp)
      have := len_from n (a + 1) t (by omega) g.tail (fun z hz => by have h1 := h z (List.mem_cons_of_mem _ hz); have h2 := g.head z hz; omega)
      simp; omega
theorem unit_len {l : List Iv} (g : Good l) (u : UnitL l) : l.length ≤ 256 := len_from 256 0 l (by omega) g u
theorem full_from : ∀ (n : Nat) (a : Int) (l : List Iv), a + n = 256 → Good l → (∀ y ∈ l, y.2 = 1 ∧ a ≤ y.1 ∧ y.1 < 256) → (∀ z, a ≤ z → z < 256 → (z, 1) ∈ l) → l.length = n ∧ sumL l = n
  | 0, a, l, hn, _, h, _ => by
    cases l with
    | nil => exact ⟨rfl, rfl⟩
    | cons y t => have := h y (by simp); omega
  | n + 1, a, l, hn, g, h, k => by
    cases l with
    | nil => have := k a (by omega) (by omega); cases this
    | cons y t =>
      have hy := h y (by simp)
      have e : y.1 = a := by
        rcases List.mem_cons.1 (k a (by omega) (by omega)) with h1 | h1
        · rw [← h1]
        · have := g.head _ h1; omega
      have ih := full_from n (a + 1) t (by omega) g.tail (fun z hz => by have h1 := h z (List.mem_cons_of_mem _ hz); have h2 := g.head z hz; omega)
        (fun z h1 h2 => by
          rcases List.mem_cons.1 (k z (by omega) h2) with h3 | h3
          · have : z = y.1 := by rw [← h3]
            omega
          · exact h3)
      have es : sumL (y :: t) = y.2 + sumL t := by simp [sumL]
      rw [es]
      simp only [List.length_cons]
      omega
theorem unit_full {l : List Iv} (g : Good l) (u : UnitL l) (k : ∀ z : Int, 0 ≤ z → z < 256 → (z, 1) ∈ l) : l.length = 256 ∧ sumL l = 256 := full_from 256 0 l (by omega) g u k
def askB (x y : Int) : Bool := decide (1 ≤ y) && (decide (x < 256) && (decide (0 ≤ x) || decide (-x < y)))
theorem over_full {l : List Iv} (u : UnitL l) (k : ∀ z : Int, 0 ≤ z → z < 256 → (z, 1) ∈ l) (x y : Int) : overB l (x, y) = askB x y := by
  rw [Bool.eq_iff_iff]
  simp only [overB, askB, Bool.and_eq_true, Bool.or_eq_true, decide_eq_true_eq, List.any_eq_true]
  constructor
  · rintro ⟨h1, z, hz, hs⟩
    have := u z hz
    simp [shB] at hs
    exact ⟨h1, by omega, by omega⟩
  · rintro ⟨h1, h2, h3⟩
    refine ⟨h1, ?_⟩
    by_cases hx : 0 ≤ x
    · exact ⟨(x, 1), k x hx h2, by simp [shB]; omega⟩
    · exact ⟨(0, 1), k 0 (by omega) (by omega), by simp [shB]; omega⟩

end Go.Proofs.Ytjlklkaaonfpdaa
