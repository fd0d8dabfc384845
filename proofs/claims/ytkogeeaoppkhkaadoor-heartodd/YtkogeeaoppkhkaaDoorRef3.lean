/-
  Contracts of the document's own answers of layer 2: Least, Low, Run.
-/
import Derived.Test.YtkogeeaoppkhkaaDoorRef2
namespace Go.Proofs.YtkogeeaoppkhkaaDoor
open Go.RowKit

theorem ofList_snoc (l : List Nat) (a : Nat) : Ma.ofList (l ++ [a]) = Ma.withN (Ma.ofList l) a := by
  apply Nat.eq_of_testBit_eq
  intro i
  rw [Ma.testBit_withN, Ma.testBit_ofList, Ma.testBit_ofList, Bool.eq_iff_iff]
  simp only [List.mem_append, List.mem_singleton, Bool.or_eq_true, decide_eq_true_eq]
  constructor
  · rintro (h | h)
    · exact Or.inl h
    · exact Or.inr h.symm
  · rintro (h | h)
    · exact Or.inl h
    · exact Or.inr h.symm

theorem ofTo_take (l : List Nat) (hl : ∀ a ∈ l, a < 64) : ∀ k, k ≤ l.length → ofTo (fun j => ((l.getD j 0 : Nat) : Int)) k = Ma.ofList (l.take k)
  | 0, _ => rfl
  | k + 1, h => by
    have hk : k < l.length := by omega
    have e : l.take (k + 1) = l.take k ++ [l[k]] := by
      rw [List.take_add_one, List.getElem?_eq_getElem hk]; rfl
    have ha := hl l[k] (List.getElem_mem hk)
    rw [e, ofList_snoc, ← ofTo_take l hl k (by omega)]
    show addTo _ ((l.getD k 0 : Nat) : Int) = _
    rw [List.getD_eq_getElem?_getD, List.getElem?_eq_getElem hk, Option.getD_some]
    unfold addTo
    rw [if_pos (by omega), Int.toNat_natCast]

/-- The cells of a list that was answered. -/
theorem listed_cell {l : List Nat} {B : Nat} {w' : World} {g cap : Nat} (h : w'.ownsRow B 3 1 (.slice (some ⟨g, 0, none⟩) l.length cap) l.length (ints l)) (j : Nat) (hj : j < l.length) :
    w'.cell? ⟨g, 0 + j, none⟩ = some (.int .i64 ((fun j => ((l.getD j 0 : Nat) : Int)) j)) := by
  rw [Nat.zero_add, World.ownsRow.cellAt h j (by omega)]
  simp [ints, List.getD_eq_getElem?_getD, List.getElem?_eq_getElem hj]

/-- A list that was answered is nil and empty, or lies at the head of a block of its own. -/
theorem listed_cases {l : List Nat} {B : Nat} {w' : World} {v : Value} (h : w'.ownsRow B 3 1 v l.length (ints l)) :
    (v = .slice none 0 0 ∧ l = []) ∨ ∃ g cap, v = .slice (some ⟨g, 0, none⟩) l.length cap ∧ l.length ≤ cap ∧ cap ≤ maxLen ∧ B ≤ g := by
  rcases h.2 with ⟨h1, h2⟩ | ⟨g, cap, cur, h1, h2, _, h3, h4, _⟩
  · exact Or.inl ⟨h1, List.length_eq_zero_iff.1 h2⟩
  · exact Or.inr ⟨g, cap, h1, h3, h4, h2⟩

theorem mem_len (m : Nat) : (Ma.mem m).length ≤ 64 := by rw [Ma.mem_length]; exact Ma.popF_le 64 m

theorem least_at (m k : Nat) (hk : k ≤ (Ma.mem m).length) : ofTo (fun j => (((Ma.mem m).getD j 0 : Nat) : Int)) k = Ma.leastN m k := ofTo_take _ (fun _ h => Ma.mem_lt h) k hk

set_option maxHeartbeats 1000000 in
theorem rleast_any (m : Nat) (n : Int) (w : World) (hm : m < 18446744073709551616) :
    Calls Tryd.prog 72 #[.int .u64 m, .int .i64 n] w fun e w' => e = .returned (.int .u64 (Ma.leastN m n.toNat : Nat)) ∧ Below w.heap.size w w' := by
  have hL := mem_len m
  go_enter Tryd.func72, Tryd.ntmps72
  go_wp2_with fail
  refine (rlist_any _ _ hm).mono ?_
  rintro e w1 ⟨v, rfl, hown, hb⟩
  have HB := Lib.hid hb
  clear hb
  have HS := Lib.hid (fun (k : Nat) (h : k = n.toNat ∨ k = (Ma.mem m).length ∧ k ≤ n.toNat) => Ma.leastN_same m k n.toNat h)
  have HA := Lib.hid (least_at m)
  rcases listed_cases hown with ⟨rfl, he⟩ | ⟨g, cap, rfl, hcap, hcap2, _⟩
  · have hz : Hid (Ma.leastN m n.toNat = 0) := by
      show Ma.leastN m n.toNat = 0
      unfold Ma.leastN; rw [he]; simp [Ma.ofList]
    clear hown he HS HA
    by_cases h0 : n < 0
    · go_wp2_with fail
      refine (rof_nil _ _ _).mono ?_
      rintro e w' ⟨rfl, rfl⟩
      go_wp2_with fail
      go_ret
      exact ⟨ret_int (by rw [hz.out]; rfl), HB.out⟩
    · have h1 : decide (n < 0) = false := by simpa using h0
      go_wp2_with fail
      refine (rof_nil _ _ _).mono ?_
      rintro e w' ⟨rfl, rfl⟩
      go_wp2_with fail
      go_ret
      exact ⟨ret_int (by rw [hz.out]; rfl), HB.out⟩
  · have HC := Lib.hid (fun j (h : j < (Ma.mem m).length) => listed_cell hown j h)
    clear hown
    unfold maxLen at hcap2
    generalize hlen : (Ma.mem m).length = L at *
    have HL := Lib.hid hlen
    clear hlen
    by_cases h0 : n < 0
    · by_cases hL0 : 0 < L
      · go_wp2_with fail
        refine (rof_nil _ _ _).mono ?_
        rintro e w' ⟨rfl, rfl⟩
        go_wp2_with fail
        go_ret
        exact ⟨ret_int (by rw [← HS.out 0 (Or.inl (by omega))]; rfl), HB.out⟩
      · obtain rfl : L = 0 := by omega
        go_wp2_with fail
        refine (rof_nil _ _ _).mono ?_
        rintro e w' ⟨rfl, rfl⟩
        go_wp2_with fail
        go_ret
        exact ⟨ret_int (by rw [← HS.out 0 (Or.inl (by omega))]; rfl), HB.out⟩
    · obtain ⟨k, rfl⟩ := Int.eq_ofNat_of_zero_le (show 0 ≤ n by omega)
      by_cases hk : k < L
      · go_wp2_with fail
        refine (rof_any g 0 k cap _ _ (by omega) (show ∀ j, j < k → _ from fun j hj => HC.out j (by omega))).mono ?_
        rintro e w' ⟨rfl, rfl⟩
        rw [HA.out k (by omega)]
        go_wp2_with fail
        go_ret
        exact ⟨rfl, HB.out⟩
      · go_wp2_with fail
        refine (rof_any g 0 L cap _ _ (by omega) HC).mono ?_
        rintro e w' ⟨rfl, rfl⟩
        rw [HA.out L (by omega), HS.out L (Or.inr ⟨rfl, by simp; omega⟩)]
        go_wp2_with fail
        go_ret
        exact ⟨rfl, HB.out⟩

set_option maxHeartbeats 400000 in
theorem rlow_any (n : Int) (w : World) :
    Calls Tryd.prog 57 #[.int .i64 n] w fun e w' => e = .returned (.int .u64 (Ma.leastN 18446744073709551615 n.toNat : Nat)) ∧ Below w.heap.size w w' := by
  go_enter Tryd.func57, Tryd.ntmps57
  go_wp2_with fail
  refine (rleast_any 18446744073709551615 _ _ (by decide)).mono ?_
  rintro e w' ⟨rfl, hb⟩
  have HB := Lib.hid hb
  clear hb
  go_wp2_with fail
  go_ret
  exact ⟨rfl, HB.out⟩

/-! ### Run -/
/-- How many set bits stand in a row just ahead of k. -/
def rowTo (m : Nat) : Nat → Nat
  | 0 => 0
  | k + 1 => if m.testBit k then rowTo m k + 1 else 0
theorem rowTo_le (m : Nat) : ∀ k, rowTo m k ≤ k
  | 0 => Nat.le_refl _
  | k + 1 => by
    have := rowTo_le m k
    simp only [rowTo]; split <;> omega
theorem rowTo_bits (m : Nat) : ∀ k j, k - rowTo m k ≤ j → j < k → m.testBit j = true
  | 0, j, _, h => by omega
  | k + 1, j, h1, h2 => by
    have hle := rowTo_le m k
    simp only [rowTo] at h1
    split at h1
    · rename_i hb
      by_cases e : j = k
      · rw [e]; exact hb
      · exact rowTo_bits m k j (by omega) (by omega)
    · omega
theorem rowTo_stop (m : Nat) : ∀ k, rowTo m k < k → m.testBit (k - rowTo m k - 1) = false
  | 0, h => by omega
  | k + 1, h => by
    have hle := rowTo_le m k
    simp only [rowTo] at h ⊢
    split
    · rename_i hb
      rw [if_pos hb] at h
      rw [show k + 1 - (rowTo m k + 1) - 1 = k - rowTo m k - 1 from by omega]
      exact rowTo_stop m k (by omega)
    · rename_i hb
      rw [show k + 1 - 0 - 1 = k from by omega]
      simpa using hb
/-- No row of n has ended by k, as long as each count stayed below n. -/
theorem rowTo_none (m n k a : Nat) (h : ∀ j, j ≤ k → rowTo m j < n) (ha : a + n ≤ k) : Ma.isRow m a n = false := by
  rcases hb : Ma.isRow m a n with _ | _
  · rfl
  · exfalso
    have hbits := (Ma.isRow_iff m a n).1 hb
    have key : ∀ q, q ≤ n → q ≤ rowTo m (a + q) := by
      intro q
      induction q with
      | zero => intro _; exact Nat.zero_le _
      | succ q ih =>
        intro hq
        have := ih (by omega)
        rw [← Nat.add_assoc]
        simp only [rowTo, hbits q (by omega), if_true]
        omega
    have h1 := key n (Nat.le_refl _)
    have h2 := h (a + n) ha
    omega
theorem rowTo_first (m n k : Nat) (h : ∀ j, j ≤ k → rowTo m j < n) (hk : n ≤ rowTo m (k + 1)) :
    n ≤ k + 1 ∧ Ma.isRow m (k + 1 - n) n = true ∧ ∀ a, a < k + 1 - n → Ma.isRow m a n = false := by
  have hle := rowTo_le m (k + 1)
  refine ⟨by omega, (Ma.isRow_iff _ _ _).2 fun j hj => rowTo_bits m (k + 1) _ (by omega) (by omega), fun a ha => ?_⟩
  exact rowTo_none m n k a h (by omega)

theorem rowTo_zero (m n : Nat) (hn : 1 ≤ n) (j : Nat) (hj : j ≤ 0) : rowTo m j < n := by
  obtain rfl : j = 0 := by omega
  exact hn

/-- What Run answers of n from 1 on: the first row's place, or -1. -/
def RunIs (m n : Nat) (z : Int) : Prop :=
  (∃ a : Nat, z = a ∧ a + n ≤ 64 ∧ Ma.isRow m a n = true ∧ ∀ k, k < a → Ma.isRow m k n = false) ∨ (z = -1 ∧ ∀ k, k + n ≤ 64 → Ma.isRow m k n = false)
def RunSays (m n : Nat) (w : World) (e : Ending) (w' : World) : Prop := ∃ z, e = .returned (.int .i64 z) ∧ RunIs m n z ∧ w = w'

end Go.Proofs.YtkogeeaoppkhkaaDoor
