/-
  slices.Backward over ints: its closure's contract.
-/
import Derived.Test.YtehmeccjgjhidaaDoorStockL
import Derived.RangeFuncNested
import Derived.RangeFuncBound
import Derived.RangeFuncCalls
import Derived.RangeFuncLeaves
import Derived.RangeFuncBox
import Derived.Shelf.Abstract
import Derived.Shelf.RegionOpen
import Derived.OwnWalkIn
import Derived.TacticsInMore
import Derived.LoopNIn
import Derived.LoopIn
namespace Go.Proofs.YtehmeccjgjhidaaDoor
open Go.RowKit Go.Maps Go.Sort Go.Shelf
attribute [local go_sem] Oper.semAt_some

/-- What has come when k rounds are over. -/
def bkw (z : Nat → Nat) (len k : Nat) : List (Nat × Nat) := (List.range k).map fun j => (len - 1 - j, z (len - 1 - j))
theorem bkw_succ (z : Nat → Nat) (len k : Nat) : bkw z len (k + 1) = bkw z len k ++ [(len - 1 - k, z (len - 1 - k))] := by simp [bkw, List.range_succ]
theorem bkw_len (z : Nat → Nat) (len k : Nat) : (bkw z len k).length = k := by simp [bkw]
/-- What a round keeps. -/
def KpQ (Q lb : Nat) (W W' : World) : Prop := W'.heap[Q]? = W.heap[Q]? ∧ W'.heap[lb]? = W.heap[lb]?
set_option maxRecDepth 100000 in
set_option maxHeartbeats 2000000 in
theorem back1_in (F : Fence) (n : Nat) (h89 : F.fn 33) (hro : F.round = none) (hn : 1 ≤ n) (l Q lb len cap : Nat) (ad : Option Addr) (z : Nat → Nat) (hz : ∀ j, z j < 64) (few : len ≤ 1000) (J Jx : List (Nat × Nat) → World → Prop)
    (hY : ∀ pre x W, J pre W → pre.length < len → YieldAt F (n - 1) Tryd.prog l #[.int .i64 (x.1 : Int), .int .i64 ((x.2 % 64 : Nat) : Int)] W fun e W' =>
      (e = .returned (.bool true) ∧ J (pre ++ [x]) W' ∧ KpQ Q lb W W') ∨ (e = .returned (.bool false) ∧ Jx (pre ++ [x]) W'))
    (W : World) (hQ : W.heap[Q]? = some (.cells #[.slice ad len cap] 22 (0, 0))) (hL : 0 < len → ad = some ⟨lb, 0, none⟩ ∧ ∃ cur, W.heap[lb]? = some (.cells cur 3 (0, 0)) ∧ ∀ j, j < len → cur[j]? = some (.int .i64 ((z j : Nat) : Int))) (h0 : J [] W) :
    CallsIn F n Tryd.prog 33 #[.func (.yield l) #[] #[], .pointer (some ⟨Q, 0, none⟩)] W fun e W' => (∃ v, e = .returned v) ∧
      ((∃ ys, ys = bkw z len len ∧ J ys W') ∨ (∃ pre, (∃ k, k ≤ len ∧ pre = bkw z len k) ∧ Jx pre W')) := by
  have q0 : W.cell? ⟨Q, 0, none⟩ = some (.slice ad len cap) := by rw [cell_of hQ]; rfl
  have w1 : IntKind.i64.wrap ((len : Int) - 1) = (len : Int) - 1 := by rw [IntKind.wrap_i64]; omega
  refine callsIn_of_wp Tryd.func33 rfl h89 ?_ hro
  simp only [Tryd.ntmps33, List.size_toArray, List.length_cons, List.length_nil, Nat.reduceAdd, Nat.reduceSub, Array.replicate_succ, Array.replicate_zero, List.push_toArray, List.append_toArray, List.nil_append, List.cons_append]
  gi_wp2
  gi_loopw [3] (fun i wr => ∃ (k : Nat) (ii : Int), k ≤ len ∧ i = .int .i64 ii ∧ ii = (len : Int) - 1 - (k : Int) ∧ J (bkw z len k) wr ∧ KpQ Q lb W wr)
    (fun i _ => (intOf i + 1).toNat)
  case atStart => exact ⟨0, _, Nat.zero_le _, rfl, by omega, h0, rfl, rfl⟩
  case round =>
    obtain ⟨k, ii, hk, rfl, hii, hJs, hkp⟩ := hrel
    by_cases hlt : k < len
    · obtain ⟨p, hp⟩ : ∃ p : Nat, ii = (p : Int) := ⟨len - 1 - k, by omega⟩
      subst hp
      have hp2 : len - 1 - k = p := by omega
      have hQ' : wr.heap[Q]? = _ := hkp.1.trans hQ
      obtain ⟨rfl, cur, hL1, hc⟩ := hL (by omega)
      have hL' : wr.heap[lb]? = _ := hkp.2.trans hL1
      have q1 : wr.cell? ⟨Q, 0, none⟩ = some (.slice (some ⟨lb, 0, none⟩) len cap) := by rw [cell_of hQ']; rfl
      have q2 : wr.cell? ⟨lb, p, none⟩ = some (.int .i64 ((z p : Nat) : Int)) := by rw [cell_of hL']; exact hc p (by omega)
      have g1 : (p : Int) < (len : Int) := by omega
      have w2 : IntKind.i64.wrap ((p : Int) - 1) = (p : Int) - 1 := by rw [IntKind.wrap_i64]; omega
      obtain ⟨fn, tmps, assign, body, hy, hR⟩ := hY _ (p, z p) wr hJs (by rw [bkw_len]; exact hlt)
      dsimp only at hy
      rw [Nat.mod_eq_of_lt (hz p)] at hy
      have HII := Lib.hid hii
      have HP := Lib.hid hp2
      clear hii hp2
      gi_wp2
      refine hR.mono ?_
      rintro e W3 (⟨rfl, hJ3, hk3⟩ | ⟨rfl, hJx3⟩)
      · gi_wp2
        go_roundw
        case rel => exact ⟨k + 1, _, by omega, rfl, by have := HII.out; omega, by rw [bkw_succ, HP.out]; exact hJ3, hk3.1.trans hkp.1, hk3.2.trans hkp.2⟩
        case measure => simp [intOf]
      · gi_wp2
        refine bodyPost_ret (results_none rfl _ _ _) rfl ?_
        exact ⟨⟨_, rfl⟩, .inr ⟨_, ⟨k + 1, by omega, by rw [bkw_succ, HP.out]⟩, hJx3⟩⟩
    · obtain rfl : k = len := by omega
      have hi1 : ii = -1 := by omega
      subst hi1
      gi_wp2
      go_end0
      exact ⟨⟨_, rfl⟩, .inl ⟨_, rfl, hJs⟩⟩
end Go.Proofs.YtehmeccjgjhidaaDoor
