/-
  A stack's words: how many numbers are in it, these, and 0 behind them.
-/
import Derived.Test.YtmdjhjfmnkileaaObj5
namespace Go.Proofs.Ytmdjhjfmnkileaa
open Go.RowKit Go.Sort

def stkL (R : Nat) (P : List Nat) : List Nat := P.length :: (P ++ List.replicate (R - P.length) 0)
def pileApp (R : Nat) (P : List Nat) (op : Op2) : List Nat × Op2 :=
  if op.1 = 1 ∧ P.length < R then (P ++ [op.2], (1, 0))
  else if op.1 = 2 ∧ 0 < P.length then (P.dropLast, (1, P.getD (P.length - 1) 0))
  else (P, (0, 0))
theorem stkL_len {R : Nat} {P : List Nat} (h : P.length ≤ R) : (stkL R P).length = R + 1 := by simp [stkL]; omega
theorem stkL_zero (R : Nat) (P : List Nat) : (stkL R P).getD 0 0 = P.length := rfl
theorem stkL_succ (R : Nat) (P : List Nat) (j : Nat) : (stkL R P).getD (j + 1) 0 = P.getD j 0 := by
  unfold stkL
  rw [List.getD_cons_succ, List.getD_eq_getElem?_getD, List.getD_eq_getElem?_getD]
  by_cases h : j < P.length
  · rw [List.getElem?_append_left h]
  · rw [List.getElem?_append_right (by omega), List.getElem?_eq_none (by omega : P.length ≤ j)]
    by_cases h2 : j - P.length < R - P.length
    · rw [List.getElem?_replicate, if_pos h2]; rfl
    · rw [List.getElem?_replicate, if_neg h2]
theorem stkL_push {R : Nat} {P : List Nat} (h : P.length < R) (x : Nat) : ((stkL R P).set (P.length + 1) x).set 0 (P.length + 1) = stkL R (P ++ [x]) := by
  unfold stkL
  rw [List.set_cons_succ, List.set_cons_zero, List.set_append_right _ _ (Nat.le_refl _), Nat.sub_self]
  obtain ⟨m, hm⟩ : ∃ m, R - P.length = m + 1 := ⟨R - P.length - 1, by omega⟩
  have hm2 : R - (P ++ [x]).length = m := by simp; omega
  rw [hm, hm2, List.replicate_succ, List.set_cons_zero]
  simp
theorem stkL_pop {R : Nat} {P : List Nat} (h : P.length ≤ R) (h0 : 0 < P.length) : ((stkL R P).set P.length 0).set 0 (P.length - 1) = stkL R P.dropLast := by
  have hne : P ≠ [] := by intro e; rw [e] at h0; simp at h0
  obtain ⟨Q, y, rfl⟩ : ∃ Q y, P = Q ++ [y] := ⟨P.dropLast, P.getLast hne, (List.dropLast_concat_getLast hne).symm⟩
  have e1 : (Q ++ [y]).length = Q.length + 1 := by simp
  rw [e1] at h h0 ⊢
  unfold stkL
  rw [List.dropLast_concat, e1, List.set_cons_succ, List.set_cons_zero, List.append_assoc, List.set_append_right _ _ (Nat.le_refl _), Nat.sub_self]
  obtain ⟨m, hm⟩ : ∃ m, R - Q.length = m + 1 := ⟨R - Q.length - 1, by omega⟩
  rw [show R - (Q.length + 1) = m by omega, hm, List.replicate_succ]
  simp
theorem stk_pile (r : Int) (P : List Nat) (op : Op2) (h : P.length ≤ roomN r) : stkApp r (stkL (roomN r) P) op = (stkL (roomN r) (pileApp (roomN r) P op).1, (pileApp (roomN r) P op).2) := by
  unfold stkApp pileApp
  rw [stkL_zero, if_neg (by omega)]
  by_cases k1 : op.1 = 1 ∧ P.length < roomN r
  · rw [if_pos k1, if_pos k1, stkL_push k1.2]
  · rw [if_neg k1, if_neg k1]
    by_cases k2 : op.1 = 2 ∧ 0 < P.length
    · rw [if_pos k2, if_pos k2, stkL_pop h k2.2]
      obtain ⟨m, hm⟩ : ∃ m, P.length = m + 1 := ⟨P.length - 1, by omega⟩
      rw [hm, stkL_succ]; rfl
    · rw [if_neg k2, if_neg k2]
theorem pile_len {R : Nat} {P : List Nat} (op : Op2) (h : P.length ≤ R) : (pileApp R P op).1.length ≤ R := by
  unfold pileApp
  by_cases k1 : op.1 = 1 ∧ P.length < R
  · rw [if_pos k1]; simp; omega
  · rw [if_neg k1]
    by_cases k2 : op.1 = 2 ∧ 0 < P.length
    · rw [if_pos k2]; simp; omega
    · rw [if_neg k2]; exact h
/-- What is in a stack behind some. -/
def pileN (R : Nat) (l : List Op2) : List Nat := l.foldl (fun P op => (pileApp R P op).1) []
theorem pileN_snoc (R : Nat) (l : List Op2) (x : Op2) : pileN R (l ++ [x]) = (pileApp R (pileN R l) x).1 := by simp [pileN, List.foldl_append]
theorem pileN_len (R : Nat) (l : List Op2) : (pileN R l).length ≤ R := by
  induction l using snoc_ind with
  | h0 => simp [pileN]
  | h1 l x ih => rw [pileN_snoc]; exact pile_len x ih
theorem rep_pile (r : Int) (l : List Op2) : repW (some r) l = stkL (roomN r) (pileN (roomN r) l) := by
  induction l using snoc_ind with
  | h0 =>
    rw [repW_nil]
    show List.replicate (roomN r + 1) 0 = _
    rw [List.replicate_succ]
    simp [stkL, pileN]
  | h1 l x ih => rw [repW_snoc, ih, pileN_snoc]; show (stkApp r _ x).1 = _; rw [stk_pile r _ x (pileN_len _ _)]
theorem rep_pileA (r : Int) (l : List Op2) (x : Op2) : repA (some r) (l ++ [x]) = repA (some r) l ++ [(pileApp (roomN r) (pileN (roomN r) l) x).2] := by
  rw [repA_snoc, rep_pile]; show _ ++ [(stkApp r _ x).2] = _; rw [stk_pile r _ x (pileN_len _ _)]
theorem room_u8 (m : Nat) (h : m < 256) : roomN (m : Int) = m := by unfold roomN; rw [if_neg (by omega), if_neg (by omega)]; omega

end Go.Proofs.Ytmdjhjfmnkileaa
