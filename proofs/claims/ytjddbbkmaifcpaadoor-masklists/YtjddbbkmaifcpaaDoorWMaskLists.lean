/-
  The walk of the statement MaskLists: a set is that of the numbers that it lists; as many as it counts, rising.
-/
import Derived.Test.YtjddbbkmaifcpaaDoorWMaskTells
import Derived.OpenShut
namespace Go.Proofs.YtjddbbkmaifcpaaDoor
open Go.RowKit

theorem below_next2 {w w1 w2 : World} (h : Below w.heap.size w w1) (h2 : Below w1.heap.size w1 w2) : Below w.heap.size w w2 := h.trans (h2.mono h.size)
theorem with_add (m : Nat) (z : Int) (w : World) (hm : m < 18446744073709551616) :
    Calls Tryd.prog 39 #[.int .u64 m, .int .i64 z] w fun e w' => e = .returned (.int .u64 (addTo m z : Nat)) ∧ w = w' := by
  unfold addTo
  by_cases h : 0 ≤ z ∧ z ≤ 63
  · rw [if_pos h]; exact with_yes m z w hm h.1 (by omega)
  · rw [if_neg h]; exact with_no m z w (by omega)

def lastTo (F : Nat → Int) : Nat → Int
  | 0 => -1
  | k + 1 => F k
def memF (m : Nat) (j : Nat) : Int := (((Ma.mem m).getD j 0 : Nat) : Int)
theorem memF_get (m j : Nat) (h : j < (Ma.mem m).length) : memF m j = (((Ma.mem m)[j]'h : Nat) : Int) := by
  unfold memF; rw [List.getD_eq_getElem?_getD, List.getElem?_eq_getElem h, Option.getD_some]
theorem memF_rise (m k : Nat) (h : k < (Ma.mem m).length) : lastTo (memF m) k < memF m k := by
  cases k with
  | zero => show (-1 : Int) < (((Ma.mem m).getD 0 0 : Nat) : Int); omega
  | succ k =>
    show memF m k < memF m (k + 1)
    rw [memF_get m k (by omega), memF_get m (k + 1) h]
    have := List.pairwise_iff_getElem.1 (Ma.mem_sorted m) k (k + 1) (by omega) h (by omega)
    omega
theorem memF_all (m : Nat) (hm : m < 18446744073709551616) : ofTo (memF m) (Ma.mem m).length = m := by
  have h := least_at m (Ma.mem m).length (Nat.le_refl _)
  rw [Ma.leastN_all m _ hm (Nat.le_refl _)] at h
  exact h
theorem listed_at {m : Nat} {B : Nat} {w' : World} {a : Option Addr} {cap : Nat} (h : w'.ownsRow B 3 1 (.slice a (Ma.mem m).length cap) (Ma.mem m).length (ints (Ma.mem m))) (h0 : 0 < (Ma.mem m).length) :
    ∃ g, a = some ⟨g, 0, none⟩ ∧ ∀ j, j < (Ma.mem m).length → w'.cell? ⟨g, 0 + j, none⟩ = some (.int .i64 (memF m j)) := by
  rcases listed_cases h with ⟨hv, he⟩ | ⟨g, c, hv, _⟩
  · rw [he] at h0; simp at h0
  · simp only [Value.slice.injEq] at hv
    obtain ⟨rfl, _, rfl⟩ := hv
    exact ⟨g, rfl, fun j hj => listed_cell h j hj⟩

theorem rof_slice (len cap : Nat) (ad : Option Addr) (f : Nat → Int) (w w' : World) (hlen : len ≤ 200)
    (hc : 0 < len → ∃ b off, ad = some ⟨b, off, none⟩ ∧ b < w.heap.size ∧ ∀ j, j < len → w.cell? ⟨b, off + j, none⟩ = some (.int .i64 (f j))) (hb : Below w.heap.size w w') :
    Calls Tryd.prog 41 #[.slice ad len cap] w' fun e w'' => e = .returned (.int .u64 (ofTo f len : Nat)) ∧ w' = w'' := by
  by_cases h : len = 0
  · subst h; exact rof_nil ad cap w'
  · obtain ⟨b, off, rfl, hbk, hcell⟩ := hc (by omega)
    exact rof_any b off len cap f w' (by omega) (show ∀ j, j < len → _ from fun j hj => (hb.cell (p := ⟨b, off + j, none⟩) hbk).trans (hcell j hj))

set_option maxRecDepth 20000 in
set_option maxHeartbeats 2000000 in
theorem lists_few (m len cap : Nat) (ad : Option Addr) (f : Nat → Int) (w : World) (hm : m < 18446744073709551616) (hlen : len ≤ 200)
    (hc : Hid (0 < len → ∃ b off, ad = some ⟨b, off, none⟩ ∧ b < w.heap.size ∧ ∀ j, j < len → w.cell? ⟨b, off + j, none⟩ = some (.int .i64 (f j)))) (hT : Hid (TabAt w)) :
    Calls Tryd.prog 14 #[.int .u64 m, .slice ad len cap] w fun e w' => e = .returned (.bool true) ∧ Below w.heap.size w w' := by
  have hL := mem_len m
  have l1 : (len : Int) ≤ 200 := by omega
  go_enter Tryd.func14, Tryd.ntmps14
  go_wp2_with fail
  refine (speaks2 _ hT).mono ?_
  rintro e w1 ⟨rfl, hb⟩
  have HB := Lib.hid hb
  have hT1 : Hid (TabAt w1) := hT.out.next hb
  clear hb
  go_wp2_with fail
  refine (list_any _ _ hm hT1).mono ?_
  rintro e w2 ⟨v, rfl, hown, hb2⟩
  have HB2 := Lib.hid (below_next2 HB.out hb2)
  have hT2 : Hid (TabAt w2) := hT.out.next HB2.out
  clear hb2
  obtain ⟨a, cp, hv, hcap, hcap2⟩ := Listed.shape hown
  subst hv
  unfold maxLen at hcap2
  have HA := Lib.hid (listed_at hown)
  have HR := Lib.hid (memF_rise m)
  have HM := Lib.hid (memF_all m hm)
  have HCL := Lib.hid (fun w => count_len m w hm)
  have HLS := Lib.hid (fun w hT => list_any m w hm hT)
  clear hown
  generalize hF : memF m = F at HA HR HM
  generalize hLn : (Ma.mem m).length = L at hL hcap HA HR HM HCL ⊢
  have HLn := Lib.hid hLn
  clear hF hLn
  go_wp2_with fail
  go_loop [6, 7, 22] (fun n t u => ∃ k : Nat, k ≤ L ∧ n = .int .u64 (ofTo F k : Nat) ∧ t = .int .i64 (lastTo F k) ∧ u = .int .i64 k) (fun _ _ u => L - (intOf u).toNat)
  case atStart => exact ⟨0, Nat.zero_le _, rfl, rfl, rfl⟩
  case round =>
    obtain ⟨k, hk, rfl, rfl, rfl⟩ := hrel
    have hN := ofTo_lt F k
    by_cases hl : k < L
    · obtain ⟨g, rfl, hcell⟩ := HA.out (by omega)
      have hc1 : w2.cell? ⟨g, k, none⟩ = some (.int .i64 (F k)) := by have := hcell k hl; rwa [Nat.zero_add] at this
      have HR1 := HR.out k hl
      have HE : Hid (ofTo F (k + 1) = addTo (ofTo F k) (F k)) := rfl
      have HE2 : Hid (lastTo F (k + 1) = F k) := rfl
      have l2 : (k : Int) < (L : Int) := by omega
      clear hcell
      generalize F k = z at *
      generalize lastTo F k = y at *
      have l3 : ¬ z ≤ y := by omega
      generalize ofTo F k = N at *
      go_wp2_with fail
      refine (with_add _ _ _ hN).mono ?_
      rintro e w' ⟨rfl, rfl⟩
      go_wp2_with fail
      go_round
      case rel => exact ⟨k + 1, by omega, by rw [HE.out], by rw [HE2.out], by go_num⟩
      case measure => simp [intOf]; omega
    · obtain rfl : k = L := by omega
      rw [HM.out]
      generalize lastTo F k = y at *
      go_wp2_with fail
      go_loop [10, 36] (fun n u => ∃ j : Nat, j ≤ len ∧ n = .int .u64 (ofTo f j : Nat) ∧ u = .int .i64 j) (fun _ u => len - (intOf u).toNat)
      case atStart => exact ⟨0, Nat.zero_le _, rfl, rfl⟩
      case round =>
        obtain ⟨j, hj, rfl, rfl⟩ := hrel
        have hN := ofTo_lt f j
        by_cases hl : j < len
        · obtain ⟨b, off, rfl, hbk, hcell⟩ := hc.out (by omega)
          have hc1 : w2.cell? ⟨b, off + j, none⟩ = some (.int .i64 (f j)) := (HB2.out.cell (p := ⟨b, off + j, none⟩) hbk).trans (hcell j hl)
          have HE : Hid (ofTo f (j + 1) = addTo (ofTo f j) (f j)) := rfl
          have l2 : (j : Int) < (len : Int) := by omega
          clear hcell
          generalize f j = z at *
          generalize ofTo f j = N at *
          go_wp2_with fail
          refine (with_add _ _ _ hN).mono ?_
          rintro e w' ⟨rfl, rfl⟩
          go_wp2_with fail
          go_round
          case rel => exact ⟨j + 1, by omega, by rw [HE.out], by go_num⟩
          case measure => simp [intOf]; omega
        · obtain rfl : j = len := by omega
          have HOf := Lib.hid (fun w' hb => rof_slice j cap ad f w w' hlen hc.out hb)
          go_wp2_with fail
          refine (HLS.out _ hT2).mono ?_
          rintro e w3 ⟨v, rfl, hown, hb3⟩
          have HB3 := Lib.hid (below_next2 HB2.out hb3)
          clear hb3
          obtain ⟨a', cp', hv, hcap', hcap2'⟩ := Listed.shape hown
          rw [HLn.out] at hv hcap'
          subst hv
          unfold maxLen at hcap2'
          clear hown
          go_wp2_with fail
          refine (HCL.out _).mono ?_
          rintro e w' ⟨rfl, rfl⟩
          go_wp2_with fail
          refine (HOf.out _ HB3.out).mono ?_
          rintro e w' ⟨rfl, rfl⟩
          go_wp2_with fail
          go_ret
          exact ⟨rfl, HB3.out⟩

set_option maxHeartbeats 1000000 in
theorem lists_many (m len cap : Nat) (ad : Option Addr) (w : World) (hlen : ¬ len ≤ 200) (hlen2 : len < 9223372036854775808) (hT : Hid (TabAt w)) :
    Calls Tryd.prog 14 #[.int .u64 m, .slice ad len cap] w fun e w' => e = .returned (.bool true) ∧ Below w.heap.size w w' := by
  have l1 : (200 : Int) < (len : Int) := by omega
  go_enter Tryd.func14, Tryd.ntmps14
  go_wp2_with fail
  refine (speaks2 _ hT).mono ?_
  rintro e w1 ⟨rfl, hb⟩
  have HB := Lib.hid hb
  clear hb
  go_wp2_with fail
  go_ret
  exact ⟨rfl, HB.out⟩

/-- Where the list lies: nowhere, or in a row of cells. -/
def IsRow (k : IntKind) (w : World) (a : Option Addr) (len cap : Nat) (zs : List Int) : Prop :=
  (a = none ∧ len = 0 ∧ cap = 0 ∧ zs = []) ∨
  ∃ x, a = some x ∧ len ≤ cap ∧ cap ≤ maxLen ∧ zs.length = cap ∧ (∀ i, i < zs.length → w.cell? (x.add i) = some (.int k (zs.getD i 0))) ∧ ∀ n ∈ zs, (Lit.int k n).wf = true

theorem lists_walk (m : Nat) (a : Option Addr) (len cap : Nat) (zs : List Int) (w : World) (hm : m < 18446744073709551616) (hz : IsRow .i64 w a len cap zs) (hT : TabAt w) :
    Calls Tryd.prog 14 #[.int .u64 m, .slice a len cap] w fun e w' => e = .returned (.bool true) ∧ Below w.heap.size w w' := by
  rcases hz with ⟨rfl, rfl, rfl, _⟩ | ⟨x, rfl, hlc, hcm, hzl, hcell, hwf⟩
  · exact lists_few m 0 0 none (fun _ => 0) w hm (by omega) (show 0 < 0 → _ from fun h => absurd h (by omega)) hT
  · unfold maxLen at hcm
    by_cases h2 : len ≤ 200
    · refine lists_few m len cap _ (fun j => zs.getD j 0) w hm h2 (show 0 < len → _ from fun h0 => ?_) hT
      obtain ⟨b, off, rfl, hc⟩ := ints_at hcell (by omega)
      exact ⟨b, off, rfl, World.block_lt_of_cell? w ⟨b, off + 0, none⟩ (hc 0 (by omega)), fun j hj => hc j (by omega)⟩
    · exact lists_many m len cap _ w h2 (by omega) hT

end Go.Proofs.YtjddbbkmaifcpaaDoor
