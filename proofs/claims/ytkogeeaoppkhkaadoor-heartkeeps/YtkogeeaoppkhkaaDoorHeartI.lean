/-
  Each run lies within the row, whatever is asked.
-/
import Derived.Test.YtkogeeaoppkhkaaDoorHeartRM
namespace Go.Proofs.YtkogeeaoppkhkaaDoor

def InR (l : List Sb) : Prop := ∀ i s, l[i]? = some s → s.k = 2 → 1 ≤ s.n ∧ i + s.n ≤ l.length
theorem inR_new (S : Nat) : InR (List.replicate S Sb.none) := fun i s h hk => by
  rw [List.getElem?_replicate] at h
  split at h
  · cases h; cases hk
  · cases h
theorem inR_set {l : List Sb} (h : InR l) {i : Nat} {s : Sb} (hs : s.k ≠ 2) : InR (l.set i s) := fun j t hj hk => by
  rw [set_at] at hj
  rw [List.length_set]
  split at hj
  · cases hj; exact absurd hk hs
  · exact h j t hj hk
theorem inR_clear {l : List Sb} (h : InR l) (a : Nat) : ∀ k, InR (clearP l a k)
  | 0 => h
  | k + 1 => inR_set (inR_clear h a k) (by decide)
theorem inR_run {l : List Sb} (h : InR l) {a n : Nat} (h1 : 1 ≤ n) (h2 : a + n ≤ l.length) (k : Nat) : InR (runP l a n k) := fun j t hj hk => by
  rw [runP_at] at hj
  rw [runP_len]
  split at hj
  case isTrue e => cases hj; exact ⟨h1, by rw [e.2]; exact h2⟩
  case isFalse =>
    split at hj
    · cases hj; cases hk
    · exact h j t hj hk
theorem inR_app {cap : Nat → Nat} {batch : Nat} {l : List Sb} (op : Nat × Nat) (h : InR l) : InR (appP cap batch l op).1 := by
  unfold appP
  split
  · exact h
  · split
    · unfold refillP
      split
      · exact h
      · split
        · exact inR_set h (by simp)
        · exact h
    · split
      · unfold flushP
        split
        · split
          · refine inR_set h ?_
            split <;> simp [Sb.none]
          · exact h
        · exact h
      · split
        · unfold takeP
          split
          · exact h
          case isFalse h0 =>
            split
            case h_1 a e => exact inR_run h (by omega) (freeRow_iff.1 (rowTo_some e).2.1).1 _
            · exact h
        · split
          · unfold giveP
            split
            · split
              · exact inR_clear h _ _
              · exact h
            · exact h
          · exact h
end Go.Proofs.YtkogeeaoppkhkaaDoor
