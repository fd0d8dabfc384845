/-
  The walk of the statement MaskTells: which numbers are in any set, how many, and which is the least.
-/
import Derived.Test.YtjddbbkmaifcpaaDoorRef3
namespace Go.Proofs.YtjddbbkmaifcpaaDoor
open Go.RowKit

def hasB (m : Nat) (n : Int) : Bool := if 0 ≤ n ∧ n < 64 then m.testBit n.toNat else false
theorem has_any (m : Nat) (n : Int) (w : World) (hm : m < 18446744073709551616) :
    Calls Tryd.prog 29 #[.int .u64 m, .int .i64 n] w fun e w' => e = .returned (.bool (hasB m n)) ∧ w = w' := by
  unfold hasB
  by_cases h : 0 ≤ n ∧ n < 64
  · rw [if_pos h]; exact has_yes m n w hm h.1 h.2
  · rw [if_neg h]; exact has_no m n w (by omega)
theorem rhas_any (m : Nat) (n : Int) (w : World) (hm : m < 18446744073709551616) :
    Calls Tryd.prog 30 #[.int .u64 m, .int .i64 n] w fun e w' => e = .returned (.bool (hasB m n)) ∧ w = w' := by
  unfold hasB
  by_cases h : 0 ≤ n ∧ n < 64
  · rw [if_pos h]; exact rhas_yes m n w hm h.1 h.2
  · rw [if_neg h]; exact rhas_no m n w (by omega)
theorem count_len (m : Nat) (w : World) (hm : m < 18446744073709551616) :
    Calls Tryd.prog 31 #[.int .u64 m] w fun e w' => e = .returned (.int .i64 ((Ma.mem m).length : Nat)) ∧ w = w' := by
  rw [Ma.mem_length]; exact count_any m w hm

set_option maxHeartbeats 1000000 in
theorem tells_empty (n : Int) (w : World) (hT : Hid (TabAt w)) :
    Calls Tryd.prog 9 #[.int .u64 0, .int .i64 n] w fun e w' => e = .returned (.bool true) ∧ Below w.heap.size w w' := by
  have z64 : (0 : Nat) < 18446744073709551616 := by decide
  go_enter Tryd.func9, Tryd.ntmps9
  go_wp2_with fail
  refine (speaks2 _ hT).mono ?_
  rintro e w1 ⟨rfl, hb⟩
  have HB := Lib.hid hb
  have hT1 : Hid (TabAt w1) := hT.out.next hb
  clear hb
  go_wp2_with fail
  refine (rlist_any 0 _ z64).mono ?_
  rintro e w2 ⟨v, rfl, hown, hb2⟩
  have HB2 := Lib.hid hb2
  have hT2 : Hid (TabAt w2) := hT1.out.next hb2
  clear hb2
  obtain ⟨a, cap, hv, _, _⟩ := Listed.shape hown
  rw [Ma.mem_zero] at hv
  simp only [List.length_nil] at hv
  subst hv
  clear hown
  go_wp2_with fail
  refine (list_any 0 _ z64 hT2).mono ?_
  rintro e w3 ⟨v, rfl, hown, hb3⟩
  have HB3 := Lib.hid hb3
  have hT3 : Hid (TabAt w3) := hT2.out.next hb3
  clear hb3
  obtain ⟨a', cap', hv, _, _⟩ := Listed.shape hown
  rw [Ma.mem_zero] at hv
  simp only [List.length_nil] at hv
  subst hv
  clear hown
  go_wp2_with fail
  go_loop [26] (fun t => t = .int .i64 0) (fun _ => 0)
  case atStart => rfl
  case round =>
    subst hrel
    go_wp2_with fail
    refine (has_any 0 _ _ z64).mono ?_
    rintro e w' ⟨rfl, rfl⟩
    go_wp2_with fail
    refine (rhas_any 0 _ _ z64).mono ?_
    rintro e w' ⟨rfl, rfl⟩
    go_wp2_with fail
    refine (count_any 0 _ z64).mono ?_
    rintro e w' ⟨rfl, rfl⟩
    rw [show Ma.popF 64 0 = 0 from rfl]
    go_wp2_with fail
    refine (first_any 0 _ z64 hT3).mono ?_
    rintro e w' ⟨rfl, rfl⟩
    rw [Ma.ctz_zero]
    go_wp2_with fail
    go_ret
    exact ⟨rfl, (HB.out.trans (HB2.out.mono HB.out.size)).trans (HB3.out.mono (Nat.le_trans HB.out.size HB2.out.size))⟩

theorem mem_head (m : Nat) (hm : m < 18446744073709551616) (h0 : m ≠ 0) : (Ma.mem m).getD 0 0 = Go.Lib.ctz 64 m := by rw [Ma.mem_cons m hm h0]; rfl

set_option maxHeartbeats 1000000 in
theorem tells_some (m : Nat) (n : Int) (w : World) (hm : m < 18446744073709551616) (h0 : m ≠ 0) (hT : Hid (TabAt w)) :
    Calls Tryd.prog 9 #[.int .u64 m, .int .i64 n] w fun e w' => e = .returned (.bool true) ∧ Below w.heap.size w w' := by
  have hL := mem_len m
  have HH := Lib.hid (mem_head m hm h0)
  have hL0 : 0 < (Ma.mem m).length := by rw [Ma.mem_cons m hm h0]; simp
  clear h0
  go_enter Tryd.func9, Tryd.ntmps9
  go_wp2_with fail
  refine (speaks2 _ hT).mono ?_
  rintro e w1 ⟨rfl, hb⟩
  have HB := Lib.hid hb
  have hT1 : Hid (TabAt w1) := hT.out.next hb
  clear hb
  go_wp2_with fail
  refine (rlist_any _ _ hm).mono ?_
  rintro e w2 ⟨v, rfl, hown, hb2⟩
  have HB2 := Lib.hid hb2
  have hT2 : Hid (TabAt w2) := hT1.out.next hb2
  clear hb2
  rcases listed_cases hown with ⟨rfl, he⟩ | ⟨g, cap, rfl, hcap, hcap2, _⟩
  · exfalso; rw [he] at hL0; simp at hL0
  unfold maxLen at hcap2
  have HC := Lib.hid (fun j (h : j < (Ma.mem m).length) => listed_cell hown j h)
  have hg : g < w2.heap.size := (World.ownsRow.lt hown g rfl).2
  clear hown
  have hc0 : w2.cell? ⟨g, 0, none⟩ = some (.int .i64 (Go.Lib.ctz 64 m : Nat)) := by
    have := HC.out 0 hL0
    simp only [HH.out] at this
    exact this
  go_wp2_with fail
  refine (list_any _ _ hm hT2).mono ?_
  rintro e w3 ⟨v, rfl, hown, hb3⟩
  have HB3 := Lib.hid hb3
  have hT3 : Hid (TabAt w3) := hT2.out.next hb3
  have HC1 := Lib.hid (fun j (h : j < (Ma.mem m).length) => (hb3.cell (p := ⟨g, 0 + j, none⟩) hg).trans (HC.out j h))
  clear hb3 hc0
  rcases listed_cases hown with ⟨rfl, he⟩ | ⟨g', cap', rfl, hcap', hcap2', _⟩
  · exfalso; rw [he] at hL0; simp at hL0
  unfold maxLen at hcap2'
  have HC2 := Lib.hid (fun j (h : j < (Ma.mem m).length) => listed_cell hown j h)
  clear hown
  have HL := Lib.hid (count_len m)
  generalize hlen : (Ma.mem m).length = L at *
  have HLen := Lib.hid hlen
  clear hlen
  go_wp2_with fail
  go_loop [26] (fun t => ∃ k : Nat, k ≤ L ∧ t = .int .i64 k) (fun t => L - (intOf t).toNat)
  case atStart => exact ⟨0, Nat.zero_le _, rfl⟩
  case round =>
    obtain ⟨k, hk, rfl⟩ := hrel
    by_cases hlt : k < L
    · have hc1 := HC1.out k hlt
      have hc2 := HC2.out k hlt
      rw [Nat.zero_add] at hc1 hc2
      generalize (Ma.mem m).getD k 0 = x at *
      go_wp2_with fail
      go_round
      case rel => exact ⟨k + 1, by omega, by go_num⟩
      case measure => simp [intOf]; omega
    · have hge : ¬ (k : Int) < L := by omega
      go_wp2_with fail
      refine (has_any _ _ _ hm).mono ?_
      rintro e w' ⟨rfl, rfl⟩
      go_wp2_with fail
      refine (rhas_any _ _ _ hm).mono ?_
      rintro e w' ⟨rfl, rfl⟩
      go_wp2_with fail
      refine (HL.out _ hm).mono ?_
      rintro e w' ⟨rfl, rfl⟩
      go_wp2_with fail
      refine (first_any _ _ hm hT3).mono ?_
      rintro e w' ⟨rfl, rfl⟩
      go_wp2_with fail
      go_ret
      exact ⟨rfl, (HB.out.trans (HB2.out.mono HB.out.size)).trans (HB3.out.mono (Nat.le_trans HB.out.size HB2.out.size))⟩

theorem tells_walk (m : Nat) (n : Int) (w : World) (hm : m < 18446744073709551616) (hT : TabAt w) :
    Calls Tryd.prog 9 #[.int .u64 m, .int .i64 n] w fun e w' => e = .returned (.bool true) ∧ Below w.heap.size w w' := by
  by_cases h : m = 0
  · subst h; exact tells_empty n w hT
  · exact tells_some m n w hm h hT

end Go.Proofs.YtjddbbkmaifcpaaDoor
