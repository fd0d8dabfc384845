/-
  What is filled into a Stock without blocks.
-/
import Derived.Test.YtagacljfpakgnaaDoorStockS1
namespace Go.Proofs.YtagacljfpakgnaaDoor
open Go.RowKit

theorem fill_filter {S : Int} {len : Nat} {f : Nat → Int} {k : Nat} {s : Int} (ok : ClsOk len f) (s0 : 0 ≤ s) (s1 : s < S) : ∀ (xs acc : List Nat), (acc ++ xs).Nodup → fillL S len f k (acc.map fun j : Nat => (s, (j : Int))) (xs.map fun j : Nat => (s, (j : Int))) = (acc ++ xs.filter fun j : Nat => decide ((j : Int) < capI len f k)).map fun j : Nat => (s, (j : Int))
  | [], acc, _ => by simp [fillL]
  | x :: xs, acc, hn => by
    have hx : (s, (x : Int)) ∉ acc.map fun j : Nat => (s, (j : Int)) := fun hm => by
      obtain ⟨y, hy, e⟩ := List.mem_map.1 hm
      simp only [Prod.mk.injEq, true_and] at e
      have e2 : y = x := by omega
      subst e2
      rw [List.nodup_append] at hn
      exact hn.2.2 y hy y (by simp) rfl
    have hz := szI_bd (k := (k : Int)) ok
    show fillL S len f k (pushL S len f k _ (s, (x : Int))) (xs.map _) = _
    by_cases hc : (x : Int) < capI len f k
    · have ha : adrI S len f (k : Nat) s (x : Int) ≠ 0 := by
        unfold adrI
        rw [if_neg (by omega)]
        have : 0 ≤ (x : Int) * szI len f k := Int.mul_nonneg (by omega) (by omega)
        omega
      rw [pushL, if_pos ⟨ha, hx⟩]
      have e : (acc.map fun j : Nat => (s, (j : Int))) ++ [(s, (x : Int))] = (acc ++ [x]).map fun j : Nat => (s, (j : Int)) := by simp
      rw [e, fill_filter ok s0 s1 xs (acc ++ [x]) (by simpa using hn), List.filter_cons_of_pos (by simpa using hc)]
      simp
    · have ha : adrI S len f (k : Nat) s (x : Int) = 0 := by
        unfold adrI
        rw [if_pos (by omega)]
      rw [pushL, if_neg (fun h => h.1 ha), fill_filter ok s0 s1 xs acc (by
        refine hn.sublist ?_
        exact List.Sublist.append_left (List.sublist_cons_self x xs) acc), List.filter_cons_of_neg (by simpa using hc)]
/-- The members that there are blocks for, the greatest first. -/
def fillD (len : Nat) (f : Nat → Int) (k m : Nat) : List Nat := (memD m 0).filter fun j : Nat => decide ((j : Int) < capI len f k)
theorem memD_desc (m : Nat) : (memD m 0).Pairwise (· > ·) := by
  rw [memD_all, List.pairwise_reverse]
  exact Ma.mem_sorted m
theorem fillD_desc (len : Nat) (f : Nat → Int) (k m : Nat) : (fillD len f k m).Pairwise (· > ·) := (memD_desc m).filter _
theorem fill_all {S : Int} {len : Nat} {f : Nat → Int} {k m : Nat} {s : Int} (ok : ClsOk len f) (s0 : 0 ≤ s) (s1 : s < S) : fillL S len f k [] (bksD s m 0) = (fillD len f k m).map fun j : Nat => (s, (j : Int)) := by
  have := fill_filter (k := k) ok s0 s1 (memD m 0) [] (by
    rw [List.nil_append]
    exact (memD_desc m).imp (fun h => by omega))
  rw [List.map_nil, List.nil_append] at this
  exact this
theorem fillD_mem {len : Nat} {f : Nat → Int} {k m j : Nat} (h : j ∈ fillD len f k m) : j < 64 ∧ m.testBit j = true := by
  have h1 := (List.mem_filter.1 h).1
  rw [memD_all, List.mem_reverse, Ma.mem_mem] at h1
  exact h1
theorem fillD_len {len : Nat} {f : Nat → Int} {k m c : Nat} (hc : capI len f k = (c : Int)) : (fillD len f k m).length = Ma.popF 64 (m &&& Ma.lowN c) := by
  rw [← Ma.mem_length]
  unfold fillD
  rw [memD_all, List.filter_reverse, List.length_reverse]
  unfold Ma.mem
  rw [List.filter_filter]
  congr 1
  apply List.filter_congr
  intro j _
  rw [Nat.testBit_and, Ma.testBit_lowN, hc, Bool.and_comm]
  congr 1
  simp
end Go.Proofs.YtagacljfpakgnaaDoor
