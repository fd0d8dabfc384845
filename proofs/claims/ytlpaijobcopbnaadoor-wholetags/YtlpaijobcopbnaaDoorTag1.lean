/-
  A set of numbers, kept as a Go map from numbers to bools; the least number that is not in it.
-/
import Derived.Test.YtlpaijobcopbnaaDoorMem5
import Derived.Maps.OwnOps
import Derived.Maps.Views
namespace Go.Proofs.YtlpaijobcopbnaaDoor
open Go.RowKit Go.Maps

theorem pig : ∀ (k : Nat) (S : List Int), (∀ m : Nat, m < k → (m : Int) ∈ S) → k ≤ S.length
  | 0, _, _ => Nat.zero_le _
  | k + 1, S, h => by
    have hk := h k (Nat.lt_succ_self _)
    have := pig k (S.erase (k : Int)) (fun m hm => (List.mem_erase_of_ne (by omega)).2 (h m (by omega)))
    rw [List.length_erase_of_mem hk] at this
    have := List.length_pos_of_mem hk
    omega
def mexFrom (S : List Int) : Nat → Nat → Nat
  | 0, n => n
  | f + 1, n => if (n : Int) ∈ S then mexFrom S f (n + 1) else n
/-- The least number from nought on that is not in it. -/
def mex (S : List Int) : Nat := mexFrom S (S.length + 1) 0
theorem mexFrom_spec (S : List Int) : ∀ f n, (∀ m : Nat, m < n → (m : Int) ∈ S) → (∀ m : Nat, m < mexFrom S f n → (m : Int) ∈ S) ∧ ((mexFrom S f n : Nat) : Int) ∉ S ∨ (∀ m : Nat, m < n + f → (m : Int) ∈ S)
  | 0, n, h => .inr h
  | f + 1, n, h => by
    by_cases hn : (n : Int) ∈ S
    · have h2 : ∀ m : Nat, m < n + 1 → (m : Int) ∈ S := fun m hm => by
        by_cases e : m = n
        · rw [e]; exact hn
        · exact h m (by omega)
      have := mexFrom_spec S f (n + 1) h2
      rw [show mexFrom S (f + 1) n = mexFrom S f (n + 1) from by simp [mexFrom, hn]]
      rcases this with h3 | h3
      · exact .inl h3
      · exact .inr (fun m hm => h3 m (by omega))
    · rw [show mexFrom S (f + 1) n = n from by simp [mexFrom, hn]]
      exact .inl ⟨h, hn⟩
theorem mex_spec (S : List Int) : (∀ m : Nat, m < mex S → (m : Int) ∈ S) ∧ ((mex S : Nat) : Int) ∉ S := by
  rcases mexFrom_spec S (S.length + 1) 0 (fun m hm => absurd hm (by omega)) with h | h
  · exact h
  · have := pig _ S h
    omega
theorem mex_le (S : List Int) : mex S ≤ S.length := pig _ S (mex_spec S).1
theorem mex_eq {S : List Int} {n : Nat} (h : ∀ m : Nat, m < n → (m : Int) ∈ S) (hn : (n : Int) ∉ S) : mex S = n := by
  have := mex_spec S
  rcases Nat.lt_trichotomy (mex S) n with h1 | h1 | h1
  · exact absurd (h _ h1) this.2
  · exact h1
  · exact absurd (this.1 _ h1) hn
theorem mex_congr {S T : List Int} (h : ∀ x, x ∈ S ↔ x ∈ T) : mex S = mex T :=
  mex_eq (fun m hm => (h _).2 ((mex_spec T).1 m hm)) (fun hm => (mex_spec T).2 ((h _).1 hm))

theorem lawI : Keyed Tryd.prog 3 := int_keyed Tryd.underlying3
theorem zeroB (w : World) : (zeroValue 4).run Tryd.prog w = .ok (.bool false) w := by kernel_rfl
theorem plainElem_bool_inv {H : Type} {v : Value} {x : Bool} {ps : List MemPlace} (h : plainElem (H := H) Tryd.prog 4 v = some (.lit (.bool x), ps)) : v = .bool x := by
  unfold plainElem at h
  rw [Tryd.underlying4] at h
  cases v <;> simp at h
  rw [h.1]
/-- Block b is a map of at most n entries that tells of each number whether it is in S. -/
def SetAt (w : World) (b n : Nat) (S : List Int) : Prop :=
  ∃ D : DataW Unit, w.ownsMap Tryd.prog 3 (plainElem Tryd.prog 4) b n D ∧ IsMap D ∧ ∀ i, (Lit.int .i64 i).wf = true → D.atKey (.int .i64 i) (.lit (.bool false)) = .lit (.bool (decide (i ∈ S)))
theorem SetAt.made (w : World) : SetAt (w.alloc (.map #[] 0)) w.heap.size 0 [] :=
  ⟨.map [], World.ownsMap_made _ _ _ _, isMap_empty, fun i _ => by simp [DataW.atKey]⟩
theorem SetAt.lt {w : World} {b n : Nat} {S : List Int} (h : SetAt w b n S) : b < w.heap.size := by
  obtain ⟨D, h1, _⟩ := h
  exact h1.lt
theorem SetAt.keep {w w' : World} {b n : Nat} {S : List Int} (h : SetAt w b n S) (e : w'.heap[b]? = w.heap[b]?) : SetAt w' b n S := by
  obtain ⟨D, ⟨es, clock, hb, F⟩, h2⟩ := h
  exact ⟨D, ⟨es, clock, e.trans hb, F⟩, h2⟩
theorem SetAt.look {w : World} {b n : Nat} {S : List Int} (h : SetAt w b n S) (i : Int) (hi : (Lit.int .i64 i).wf = true) : (Instr.lookup 54 (.map (some b)) (.int .i64 i) false).run Tryd.prog w = .ok (.bool (decide (i ∈ S))) w := by
  obtain ⟨D, h1, _, h3⟩ := h
  obtain ⟨v, ps, hrun, hv⟩ := h1.lookup lawI Tryd.underlying54 (zeroB w) (plainElem_bool Tryd.underlying4 false) (keyOf_int_mk Tryd.underlying3 hi)
  rw [h3 i hi] at hv
  rw [hrun, plainElem_bool_inv hv]
theorem SetAt.put {w : World} {b n : Nat} {S : List Int} (h : SetAt w b n S) (i : Int) (hi : (Lit.int .i64 i).wf = true) (hn : n < 1048576) :
    ∃ w', (Instr.mapUpdate 54 (.map (some b)) (.int .i64 i) (.bool true)).run Tryd.prog w = .ok () w' ∧ SetAt w' b (n + 1) (i :: S) ∧ w.grownBy w' (some b) := by
  obtain ⟨D, h1, h2, h3⟩ := h
  obtain ⟨w', hrun, h4, h5⟩ := h1.update lawI Tryd.underlying54 (by unfold maxLen; omega) (keyOf_int_mk Tryd.underlying3 hi) (plainElem_bool Tryd.underlying4 true)
  refine ⟨w', hrun, ⟨_, h4, h2.put _ _, fun j hj => ?_⟩, h5⟩
  by_cases e : j = i
  · subst e
    rw [atKey_put_same h2 (show WideAt.IsKeyLit (.int .i64 j) from trivial)]; simp
  · rw [atKey_put_other (fun h => e (by cases h; rfl)), h3 j hj]
    simp [e]

set_option maxHeartbeats 1000000 in
theorem least_any (b n : Nat) (S : List Int) (w : World) (h : Hid (SetAt w b n S)) (hS : S.length ≤ 1048576) :
    Calls Tryd.prog 26 #[.map (some b)] w fun e w' => e = .returned (.int .i64 (mex S : Nat)) ∧ w = w' := by
  have hm := mex_le S
  go_enter Tryd.func26, Tryd.ntmps26
  go_wp2_with fail
  go_loop [3] (fun u => ∃ i : Nat, i ≤ mex S ∧ u = .int .i64 i) (fun u => mex S - (intOf u).toNat)
  case atStart => exact ⟨0, Nat.zero_le _, rfl⟩
  case round =>
    obtain ⟨i, hi, rfl⟩ := hrel
    have lk := h.out.look (i : Int) (WalkArith.wf_i64 (by omega))
    by_cases hl : i < mex S
    · rw [decide_eq_true ((mex_spec S).1 i hl)] at lk
      go_wp2_with fail
      go_round
      case rel => exact ⟨i + 1, by omega, by go_num⟩
      case measure => simp [intOf]; omega
    · obtain rfl : i = mex S := by omega
      rw [decide_eq_false (mex_spec S).2] at lk
      go_wp2_with fail
      go_ret
      exact ⟨rfl, rfl⟩

end Go.Proofs.YtlpaijobcopbnaaDoor
