/-
  The walk of the statement MaskSplits: its least numbers, and the others, are all of a set, and apart.
-/
import Derived.Test.YtjddbbkmaifcpaaDoorWMaskTells
import Derived.Deep.RegionHeld3
import Derived.Deep.QuietTactic
import Derived.BigQuiet
import Derived.WalkSmall
namespace Go.Proofs.YtjddbbkmaifcpaaDoor
open Go.RowKit

theorem sorted_ext {l l' : List Nat} (h1 : l.Pairwise (· < ·)) (h2 : l'.Pairwise (· < ·)) (h : ∀ a, a ∈ l ↔ a ∈ l') : l = l' := by
  have nd : ∀ {l : List Nat}, l.Pairwise (· < ·) → l.Nodup := fun h => h.imp (fun hab => by omega)
  have hp : l.Perm l' := (List.perm_ext_iff_of_nodup (nd h1) (nd h2)).2 h
  exact hp.eq_of_pairwise (fun a b _ _ h1 h2 => by omega) h1 h2

theorem mem_least (m k : Nat) : Ma.mem (Ma.leastN m k) = (Ma.mem m).take k := by
  refine sorted_ext (Ma.mem_sorted _) ((Ma.mem_sorted m).take) fun a => ?_
  rw [Ma.mem_mem]
  unfold Ma.leastN
  rw [Ma.testBit_ofList, decide_eq_true_eq]
  exact ⟨fun h => h.2, fun h => ⟨Ma.mem_lt (List.mem_of_mem_take h), h⟩⟩

theorem mem_others (m k : Nat) (hm : m < 18446744073709551616) : Ma.mem (Ma.andNotN m (Ma.leastN m k)) = (Ma.mem m).drop k := by
  refine sorted_ext (Ma.mem_sorted _) ((Ma.mem_sorted m).drop) fun a => ?_
  rw [Ma.mem_mem, Ma.testBit_andNotN hm (Ma.leastN_lt m k)]
  unfold Ma.leastN
  rw [Ma.testBit_ofList, Ma.testBit_mem m a hm]
  have hnd := Ma.nodup_mem m
  rw [← List.take_append_drop k (Ma.mem m)] at hnd
  have hdis := (List.nodup_append.1 hnd).2.2
  have hmem : a ∈ Ma.mem m ↔ a ∈ (Ma.mem m).take k ∨ a ∈ (Ma.mem m).drop k := by
    conv => lhs; rw [← List.take_append_drop k (Ma.mem m)]
    exact List.mem_append
  simp only [Bool.and_eq_true, decide_eq_true_eq, Bool.not_eq_true', decide_eq_false_iff_not, hmem]
  constructor
  · rintro ⟨_, h1 | h1, h2⟩
    · exact absurd h1 h2
    · exact h1
  · intro h
    exact ⟨Ma.mem_lt (List.mem_of_mem_drop h), Or.inr h, fun h2 => hdis a h2 a h rfl⟩

theorem split_or (m k : Nat) (hm : m < 18446744073709551616) : Ma.leastN m k ||| Ma.andNotN m (Ma.leastN m k) = m := by
  apply Nat.eq_of_testBit_eq
  intro i
  rw [Nat.testBit_or, Ma.testBit_andNotN hm (Ma.leastN_lt m k)]
  have hsub : (Ma.leastN m k).testBit i = true → m.testBit i = true := by
    unfold Ma.leastN
    rw [Ma.testBit_ofList, Ma.testBit_mem m i hm]
    simp only [decide_eq_true_eq]
    exact List.mem_of_mem_take
  rcases h1 : (Ma.leastN m k).testBit i with _ | _ <;> rcases h2 : m.testBit i with _ | _ <;> simp_all

theorem split_and (m k : Nat) (hm : m < 18446744073709551616) : Ma.leastN m k &&& Ma.andNotN m (Ma.leastN m k) = 0 := by
  apply Nat.eq_of_testBit_eq
  intro i
  rw [Nat.testBit_and, Ma.testBit_andNotN hm (Ma.leastN_lt m k)]
  rcases (Ma.leastN m k).testBit i with _ | _ <;> simp

theorem split_lt (m k : Nat) (hm : m < 18446744073709551616) (hA : Ma.leastN m k ≠ 0) (hB : Ma.andNotN m (Ma.leastN m k) ≠ 0) :
    0 < (Ma.mem (Ma.leastN m k)).length ∧ (Ma.mem (Ma.leastN m k)).getD ((Ma.mem (Ma.leastN m k)).length - 1) 0 < Go.Lib.ctz 64 (Ma.andNotN m (Ma.leastN m k)) := by
  have a1 := Ma.mem_cons _ (Ma.leastN_lt m k) hA
  have b1 := Ma.mem_cons _ (Ma.andNotN_lt (Ma.leastN m k) hm) hB
  have hl : 0 < (Ma.mem (Ma.leastN m k)).length := by rw [a1]; simp
  refine ⟨hl, ?_⟩
  have hx : (Ma.mem (Ma.leastN m k)).getD ((Ma.mem (Ma.leastN m k)).length - 1) 0 ∈ (Ma.mem m).take k := by
    rw [← mem_least, List.getD_eq_getElem?_getD, List.getElem?_eq_getElem (by omega), Option.getD_some]
    exact List.getElem_mem _
  have hy : Go.Lib.ctz 64 (Ma.andNotN m (Ma.leastN m k)) ∈ (Ma.mem m).drop k := by
    rw [← mem_others m k hm]
    have hc : Go.Lib.ctz 64 (Ma.andNotN m (Ma.leastN m k)) ∈ Go.Lib.ctz 64 (Ma.andNotN m (Ma.leastN m k)) :: Ma.mem (Ma.withoutN (Ma.andNotN m (Ma.leastN m k)) (Go.Lib.ctz 64 (Ma.andNotN m (Ma.leastN m k)))) := List.mem_cons_self ..
    rw [← b1] at hc
    exact hc
  have hs := Ma.mem_sorted m
  rw [← List.take_append_drop k (Ma.mem m)] at hs
  exact (List.pairwise_append.1 hs).2.2 _ hx _ hy

theorem count_least (m : Nat) (n : Int) (w : World) : Calls Tryd.prog 31 #[.int .u64 (Ma.leastN m n.toNat : Nat)] w fun e w' => e = .returned (.int .i64 ((min n.toNat (Ma.mem m).length : Nat) : Int)) ∧ w = w' := by
  have := count_len _ w (Ma.leastN_lt m n.toNat)
  rw [mem_least, List.length_take] at this
  exact this

theorem listed_some {l : List Nat} {B : Nat} {w' : World} {v : Value} (h : w'.ownsRow B 3 1 v l.length (ints l)) (hl : 0 < l.length) : ∃ g cap, v = .slice (some ⟨g, 0, none⟩) l.length cap := by
  rcases listed_cases h with ⟨_, he⟩ | ⟨g, cap, hv, _⟩
  · exfalso; rw [he] at hl; simp at hl
  · exact ⟨g, cap, hv⟩

/-- The end of MaskSplits: what 'a.List()' answered, and what is read of it. -/
theorem last_cell {A : Nat} {w1 w2 : World} {g cap : Nat} (hown : w2.ownsRow w1.heap.size 3 1 (.slice (some ⟨g, 0, none⟩) (Ma.mem A).length cap) (Ma.mem A).length (ints (Ma.mem A))) (h : 0 < (Ma.mem A).length) :
    w2.cell? ⟨g, (Ma.mem A).length - 1, none⟩ = some (.int .i64 ((Ma.mem A).getD ((Ma.mem A).length - 1) 0 : Nat)) := by
  have := listed_cell hown ((Ma.mem A).length - 1) (by omega)
  rw [Nat.zero_add] at this
  exact this

theorem last_cell2 {A : Nat} {w1 w2 : World} {g cap : Nat} {v : Value} (hown : w2.ownsRow w1.heap.size 3 1 v (Ma.mem A).length (ints (Ma.mem A))) (hv : v = .slice (some ⟨g, 0, none⟩) (Ma.mem A).length cap) (h : 0 < (Ma.mem A).length) :
    w2.cell? ⟨g, (Ma.mem A).length - 1, none⟩ = some (.int .i64 ((Ma.mem A).getD ((Ma.mem A).length - 1) 0 : Nat)) := by
  subst hv; exact last_cell hown h

set_option maxHeartbeats 4000000 in
theorem splits_walk (m : Nat) (n : Int) (w : World) (hm : m < 18446744073709551616) (hn : n < 9223372036854775808) (hT : Hid (TabAt w)) :
    Calls Tryd.prog 12 #[.int .u64 m, .int .i64 n] w fun e w' => e = .returned (.bool true) ∧ Below w.heap.size w w' := by
  go_enter Tryd.func12, Tryd.ntmps12
  go_wp2_with fail
  refine (speaks2 _ hT).mono ?_
  rintro e w1 ⟨rfl, hb⟩
  have HB := Lib.hid hb
  have hT1 : Hid (TabAt w1) := hT.out.next hb
  clear hb
  go_wp2_with fail
  refine (least_any _ _ _ hm hn hT1).mono ?_
  rintro e w' ⟨rfl, rfl⟩
  have hA := Ma.leastN_lt m n.toNat
  have hB := Ma.andNotN_lt (Ma.leastN m n.toNat) hm
  have k1 := u64_andNot_nat m (Ma.leastN m n.toNat) hm hA
  have k2 := u64_and_nat _ _ hA hB
  have k3 := u64_or_nat _ _ hA hB
  rw [split_and m n.toNat hm] at k2
  rw [split_or m n.toNat hm] at k3
  have HCM := Lib.hid (count_least m n)
  have HSL := Lib.hid (split_lt m n.toNat hm)
  have HCL := Lib.hid (count_len m)
  have hLen := mem_len m
  change bits BinOp.andNot IntKind.u64 (m : Int) ((Ma.leastN m n.toNat : Nat) : Int) = ((Ma.andNotN m (Ma.leastN m n.toNat) : Nat) : Int) at k1
  generalize Ma.andNotN m (Ma.leastN m n.toNat) = B at *
  generalize Ma.leastN m n.toNat = A at *
  generalize (Ma.mem m).length = L at *
  have hLA := mem_len A
  obtain ⟨z, hz, hcase⟩ : ∃ z : Int, z = ((min n.toNat L : Nat) : Int) ∧ ((n < 0 ∧ ¬ (L : Int) < n ∧ z = 0) ∨ (¬ (L : Int) < n ∧ ¬ n < 0 ∧ z = n) ∨ ((L : Int) < n ∧ ¬ (L : Int) < 0 ∧ z = L)) := ⟨_, rfl, by omega⟩
  rw [← hz] at HCM
  clear hz
  rcases hcase with ⟨q1, q2, rfl⟩ | ⟨q1, q2, rfl⟩ | ⟨q1, q2, rfl⟩
  all_goals go_wp2_with (first | (go_at_call_of 31 (Value.int IntKind.u64 (A : Int)); refine (HCM.out _).mono ?_; rintro e w' ⟨rfl, rfl⟩) | (go_at_call_of 31 (Value.int IntKind.u64 (m : Int)); refine (HCL.out _ hm).mono ?_; rintro e w' ⟨rfl, rfl⟩))
  all_goals
    clear k1 k2 k3
    by_cases hA0 : A = 0
    · have a0 : ((A : Int) == 0) = true := by simp [hA0]
      clear hA0
      go_quiet (fail)
      go_wp2
      go_ret
      exact ⟨rfl, below_drewN HB.out _⟩
    · have a0 : ((A : Int) == 0) = false := by simp; omega
      by_cases hB0 : B = 0
      · have b0 : ((B : Int) == 0) = true := by simp [hB0]
        clear hA0 hB0
        go_quiet (fail)
        go_wp2
        go_ret
        exact ⟨rfl, below_drewN HB.out _⟩
      · have b0 : ((B : Int) == 0) = false := by simp; omega
        obtain ⟨s1, s2⟩ := HSL.out hA0 hB0
        have HCA := Lib.hid (count_len A)
        obtain ⟨c, hc⟩ : ∃ c, (Ma.mem A).length = c + 1 := ⟨(Ma.mem A).length - 1, by omega⟩
        have i1 : IntKind.i64.wrap ((c : Int) + 1 - 1) = (c : Int) := by rw [show (c : Int) + 1 - 1 = c from by omega]; exact IntWalk.i64_in _ (by omega)
        have i2 : IntKind.i64.wrap (c : Int) = (c : Int) := IntWalk.i64_in _ (by omega)
        have i3 : (0 : Int) ≤ c := by omega
        have i4 : (c : Int) < (c : Int) + 1 := by omega
        have HC := Lib.hid hc
        clear hA0 hB0 hc
        refine wp_region_noPanic ?_
        refine wp_region_held_drew (S := fun _ => True) (by kernel_rfl) trivial (fun hHeld => ?_)
        refine wpAnyH_take (i := 0) (v := .int .u64 (A : Int)) rfl (by kernel_rfl) (by kernel_rfl) (by kernel_rfl) (fun _ _ _ h => h) (Or.inl ⟨by rfl, fun w hSw => by go_simp⟩) (by assumption) ?_
        change wpAnyH _ _ _ _ _ _ _ (Act.put _ (some 38) _) _
        simp only [Act.put, List.setIfInBounds_toArray, List.set_cons_zero, List.set_cons_succ]
        refine wpAnyH_take (i := 1) (v := .bool false) rfl (by kernel_rfl) (by kernel_rfl) (by kernel_rfl) (fun _ _ _ h => h) (Or.inl ⟨by rfl, fun w hSw => by go_simp⟩) (by assumption) ?_
        change wpAnyH _ _ _ _ _ _ _ (Act.put _ (some 39) _) _
        simp only [Act.put, List.setIfInBounds_toArray, List.set_cons_zero, List.set_cons_succ]
        refine wpAnyH_take (i := 2) (v := .bool false) rfl (by kernel_rfl) (by kernel_rfl) (by kernel_rfl) (fun _ _ _ h => h) (Or.inl ⟨by rfl, fun w hSw => by go_simp⟩) (by assumption) ?_
        change wpAnyH _ _ _ _ _ _ _ (Act.put _ (some 40) _) _
        simp only [Act.put, List.setIfInBounds_toArray, List.set_cons_zero, List.set_cons_succ]
        refine wpAnyH_take (i := 3) (v := .int .u64 (B : Int)) rfl (by kernel_rfl) (by kernel_rfl) (by kernel_rfl) (fun _ _ _ h => h) (Or.inl ⟨by rfl, fun w hSw => by go_simp⟩) (by assumption) ?_
        change wpAnyH _ _ _ _ _ _ _ (Act.put _ (some 41) _) _
        simp only [Act.put, List.setIfInBounds_toArray, List.set_cons_zero, List.set_cons_succ]
        refine wpAnyH_take (i := 4) (v := .bool false) rfl (by kernel_rfl) (by kernel_rfl) (by kernel_rfl) (fun _ _ _ h => h) (Or.inl ⟨by rfl, fun w hSw => by go_simp⟩) (by assumption) ?_
        change wpAnyH _ _ _ _ _ _ _ (Act.put _ (some 42) _) _
        simp only [Act.put, List.setIfInBounds_toArray, List.set_cons_zero, List.set_cons_succ]
        refine wpAnyH_take (i := 5) (v := .bool false) rfl (by kernel_rfl) (by kernel_rfl) (by kernel_rfl) (fun _ _ _ h => h) (Or.inl ⟨by rfl, fun w hSw => by go_simp⟩) (by assumption) ?_
        change wpAnyH _ _ _ _ _ _ _ (Act.put _ (some 43) _) _
        simp only [Act.put, List.setIfInBounds_toArray, List.set_cons_zero, List.set_cons_succ]
        refine wpAnyH_take (i := 6) (v := .bool false) rfl (by kernel_rfl) (by kernel_rfl) (by kernel_rfl) (fun _ _ _ h => h) (Or.inl ⟨by rfl, fun w hSw => by go_simp⟩) (by assumption) ?_
        change wpAnyH _ _ _ _ _ _ _ (Act.put _ (some 44) _) _
        simp only [Act.put, List.setIfInBounds_toArray, List.set_cons_zero, List.set_cons_succ]
        refine wpAnyH_take (i := 7) (v := .int .u64 (A : Int)) rfl (by kernel_rfl) (by kernel_rfl) (by kernel_rfl) (fun _ _ _ h => h) (Or.inl ⟨by rfl, fun w hSw => by go_simp⟩) (by assumption) ?_
        change wpAnyH _ _ _ _ _ _ _ (Act.put _ (some 45) _) _
        simp only [Act.put, List.setIfInBounds_toArray, List.set_cons_zero, List.set_cons_succ]
        refine wpAnyH_take (i := 9) (v := .int .u64 (A : Int)) rfl (by kernel_rfl) (by kernel_rfl) (by kernel_rfl) (fun _ _ _ h => h) (Or.inl ⟨by rfl, fun w hSw => by go_simp⟩) (by assumption) ?_
        change wpAnyH _ _ _ _ _ _ _ (Act.put _ (some 47) _) _
        simp only [Act.put, List.setIfInBounds_toArray, List.set_cons_zero, List.set_cons_succ]
        refine wpAnyH_take (i := 14) (v := .int .u64 (B : Int)) rfl (by kernel_rfl) (by kernel_rfl) (by kernel_rfl) (fun _ _ _ h => h) (Or.inl ⟨by rfl, fun w hSw => by go_simp⟩) (by assumption) ?_
        change wpAnyH _ _ _ _ _ _ _ (Act.put _ (some 52) _) _
        simp only [Act.put, List.setIfInBounds_toArray, List.set_cons_zero, List.set_cons_succ]
        refine wpAnyH_ready (rs := [8]) (by kernel_rfl) (by simp) ?_
        refine AllReadyH.cons rfl (fun K hK => ?_) AllReadyH.nil
        go_simp
        refine (list_any _ _ hA (show TabAt w1.drew from hT1.out)).mono ?_
        rintro e w2 ⟨v, rfl, hown, hb⟩
        obtain ⟨g, cap, hv⟩ := listed_some hown s1
        have hcell := last_cell2 hown hv s1
        have hTw2 : Hid (TabAt w2) := TabAt.next (w := w1.drew) hT1.out hb
        have HB2 := Lib.hid hb
        clear hb hown
        rw [hv]
        clear hv
        rw [HC.out] at hcell ⊢
        rw [show c + 1 - 1 = c from rfl] at hcell
        have HC2 := Lib.hid HC.out
        have S2 : (Ma.mem A).getD c 0 < Go.Lib.ctz 64 B := by have := s2; rw [HC.out] at this; exact this
        generalize (Ma.mem A).getD c 0 = x at *
        go_wp2_with fail
        refine hK.out _ _ trivial (fun hHeld => ?_)
        clear hK K
        refine wpAnyH_ready (rs := [10]) (by kernel_rfl) (by simp) ?_
        refine AllReadyH.cons rfl (fun K hK => ?_) AllReadyH.nil
        go_simp
        refine (HCA.out _ hA).mono ?_
        rintro e w' ⟨rfl, rfl⟩
        rw [HC.out, show ((c + 1 : Nat) : Int) = (c : Int) + 1 from rfl]
        go_wp2_with fail
        refine hK.out _ _ trivial (fun hHeld => ?_)
        clear hK K
        have S3 : (x : Int) < ((Go.Lib.ctz 64 B : Nat) : Int) := by omega
        have HBF : Hid (Below w.heap.size w w2) := HB.out.drew.trans (HB2.out.mono HB.out.size)
        refine wpAnyH_take (i := 11) (v := .int .i64 (c : Int)) rfl (by kernel_rfl) (by kernel_rfl) (by kernel_rfl) (fun _ _ _ h => h) (Or.inl ⟨by rfl, fun w hSw => by go_simp⟩) (by assumption) ?_
        change wpAnyH _ _ _ _ _ _ _ (Act.put _ (some 49) _) _
        simp only [Act.put, List.setIfInBounds_toArray, List.set_cons_zero, List.set_cons_succ]
        refine wpAnyH_take (i := 12) (v := .pointer (some ⟨g, c, none⟩)) rfl (by kernel_rfl) (by kernel_rfl) (by kernel_rfl) (fun _ _ _ h => h) (Or.inl ⟨by rfl, fun w hSw => by go_simp⟩) (by assumption) ?_
        change wpAnyH _ _ _ _ _ _ _ (Act.put _ (some 50) _) _
        simp only [Act.put, List.setIfInBounds_toArray, List.set_cons_zero, List.set_cons_succ]
        refine wpAnyH_ready (rs := [13, 15]) (by kernel_rfl) (by simp) ?_
        refine AllReadyH.cons rfl (fun K hK => ?_) (AllReadyH.cons rfl (fun K hK => ?_) AllReadyH.nil)
        · go_simp
          refine hK.out _ _ trivial (fun hHeld => ?_)
          clear hK K
          refine wpAnyH_ready (rs := [15]) (by kernel_rfl) (by simp) ?_
          refine AllReadyH.cons rfl (fun K hK => ?_) AllReadyH.nil
          go_simp
          refine (first_any _ _ hB hTw2).mono ?_
          rintro e w' ⟨rfl, rfl⟩
          go_wp2_with fail
          refine hK.out _ _ trivial (fun hHeld => ?_)
          clear hK K
          refine wpAnyH_take (i := 16) (v := .bool true) rfl (by kernel_rfl) (by kernel_rfl) (by kernel_rfl) (fun _ _ _ h => h) (Or.inl ⟨by rfl, fun w hSw => by go_simp⟩) (by assumption) ?_
          change wpAnyH _ _ _ _ _ _ _ (Act.put _ (some 54) _) _
          simp only [Act.put, List.setIfInBounds_toArray, List.set_cons_zero, List.set_cons_succ]
          refine wpAnyH_take (i := 17) (v := .bool true) rfl (by kernel_rfl) (by kernel_rfl) (by kernel_rfl) (fun _ _ _ h => h) (Or.inl ⟨by rfl, fun w hSw => by go_simp⟩) (by assumption) ?_
          change wpAnyH _ _ _ _ _ _ _ (Act.put _ (some 55) _) _
          simp only [Act.put, List.setIfInBounds_toArray, List.set_cons_zero, List.set_cons_succ]
          refine wpAnyH_take (i := 18) (v := .bool true) rfl (by kernel_rfl) (by kernel_rfl) (by kernel_rfl) (fun _ _ _ h => h) (Or.inl ⟨by rfl, fun w hSw => by go_simp⟩) (by assumption) ?_
          change wpAnyH _ _ _ _ _ _ _ (Act.put _ (some 4) _) _
          simp only [Act.put, List.setIfInBounds_toArray, List.set_cons_zero, List.set_cons_succ]
          refine wpAnyH_done (by kernel_rfl) ?_ _
          refine NoPanic.normal ?_
          go_wp2
          go_ret
          exact ⟨rfl, HBF.out⟩
        · go_simp
          refine (first_any _ _ hB hTw2).mono ?_
          rintro e w' ⟨rfl, rfl⟩
          go_wp2_with fail
          refine hK.out _ _ trivial (fun hHeld => ?_)
          clear hK K
          refine wpAnyH_ready (rs := [13]) (by kernel_rfl) (by simp) ?_
          refine AllReadyH.cons rfl (fun K hK => ?_) AllReadyH.nil
          go_simp
          refine hK.out _ _ trivial (fun hHeld => ?_)
          clear hK K
          refine wpAnyH_take (i := 16) (v := .bool true) rfl (by kernel_rfl) (by kernel_rfl) (by kernel_rfl) (fun _ _ _ h => h) (Or.inl ⟨by rfl, fun w hSw => by go_simp⟩) (by assumption) ?_
          change wpAnyH _ _ _ _ _ _ _ (Act.put _ (some 54) _) _
          simp only [Act.put, List.setIfInBounds_toArray, List.set_cons_zero, List.set_cons_succ]
          refine wpAnyH_take (i := 17) (v := .bool true) rfl (by kernel_rfl) (by kernel_rfl) (by kernel_rfl) (fun _ _ _ h => h) (Or.inl ⟨by rfl, fun w hSw => by go_simp⟩) (by assumption) ?_
          change wpAnyH _ _ _ _ _ _ _ (Act.put _ (some 55) _) _
          simp only [Act.put, List.setIfInBounds_toArray, List.set_cons_zero, List.set_cons_succ]
          refine wpAnyH_take (i := 18) (v := .bool true) rfl (by kernel_rfl) (by kernel_rfl) (by kernel_rfl) (fun _ _ _ h => h) (Or.inl ⟨by rfl, fun w hSw => by go_simp⟩) (by assumption) ?_
          change wpAnyH _ _ _ _ _ _ _ (Act.put _ (some 4) _) _
          simp only [Act.put, List.setIfInBounds_toArray, List.set_cons_zero, List.set_cons_succ]
          refine wpAnyH_done (by kernel_rfl) ?_ _
          refine NoPanic.normal ?_
          go_wp2
          go_ret
          exact ⟨rfl, HBF.out⟩

end Go.Proofs.YtjddbbkmaifcpaaDoor
