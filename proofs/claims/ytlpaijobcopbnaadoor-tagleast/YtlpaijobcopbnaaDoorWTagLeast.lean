/-
  The walk of the statement TagLeast: the least number that isn't used isn't, and all below it are; it is no greater than how many are used.
-/
import Derived.Test.YtlpaijobcopbnaaDoorTag4
namespace Go.Proofs.YtlpaijobcopbnaaDoor
open Go.RowKit Go.Sort Go.Maps

theorem IsRow.rowz {w : World} {a : Option Addr} {len cap : Nat} {zs : List Int} (h : IsRow .i64 w a len cap zs) : ∃ f, RowZ w a len f := by
  rcases h with ⟨rfl, rfl, rfl, _⟩ | ⟨x, rfl, hlc, hcm, hzl, hcell, hwf⟩
  · exact ⟨fun _ => 0, fun _ h => absurd h (by omega), fun h => absurd h (by omega)⟩
  · refine ⟨fun j => zs.getD j 0, fun j hj => ?_, fun h0 => ?_⟩
    · have hm2 : zs.getD j 0 ∈ zs := by
        rw [List.getD_eq_getElem?_getD, List.getElem?_eq_getElem (by omega), Option.getD_some]
        exact List.getElem_mem _
      exact hwf _ hm2
    · obtain ⟨b, off, rfl, hc⟩ := ints_at hcell (by omega)
      exact ⟨b, off, rfl, World.block_lt_of_cell? w ⟨b, off + 0, none⟩ (hc 0 (by omega)), fun j hj => hc j (by omega)⟩

set_option maxRecDepth 20000 in
set_option maxHeartbeats 1000000 in
theorem least_few (ad : Option Addr) (len cap : Nat) (f : Nat → Int) (w : World) (hlen : len ≤ 300) (hr : Hid (RowZ w ad len f)) (hR : Hid (RefAt w)) :
    Calls Tryd.prog 3 #[.slice ad len cap] w fun e w' => e = .returned (.bool true) ∧ Below w.heap.size w w' := by
  have l1 : (len : Int) ≤ 300 := by omega
  have hm := mex_le (pre f len)
  rw [pre_len] at hm
  have MS := Lib.hid (mex_spec (pre f len))
  go_enter Tryd.func3, Tryd.ntmps3
  go_wp2_with fail
  refine (speaks7 _ hR).mono ?_
  rintro e w1 ⟨rfl, hb⟩
  have B1 := Lib.hid hb
  clear hb
  have LS := Lib.hid fun w1 h1 => leastl_any ad len cap f w1 h1 (by omega)
  generalize hM : mex (pre f len) = M at *
  clear hM
  go_wp2_with fail
  refine (LS.out _ (hr.out.next B1.out)).mono ?_
  rintro e w2 ⟨rfl, hb⟩
  have B2 := Lib.hid (below_two B1.out hb)
  clear hb B1 LS
  have l2 : (M : Int) ≤ (len : Int) := by omega
  go_wp2_with fail
  go_loop [4] (fun u => ∃ i : Nat, i ≤ M + 1 ∧ u = .int .i64 i) (fun u => M + 1 - (intOf u).toNat)
  case atStart => exact ⟨0, Nat.zero_le _, rfl⟩
  case round =>
    obtain ⟨i, hi, rfl⟩ := hrel
    by_cases hl : i ≤ M
    · have l3 : (i : Int) ≤ (M : Int) := by omega
      go_wp2_with fail
      go_loop [5, 30] (fun u v => ∃ q : Nat, q ≤ len ∧ u = .bool (decide ((i : Int) ∈ pre f q)) ∧ v = .int .i64 q) (fun _ v => len - (intOf v).toNat)
      case atStart => exact ⟨0, Nat.zero_le _, by simp [pre], rfl⟩
      case round =>
        obtain ⟨q, hq, rfl, rfl⟩ := hrel
        by_cases hl2 : q < len
        · obtain ⟨b, off, rfl, hcell⟩ := (hr.out.next B2.out).at hl2
          have l4 : (q : Int) < (len : Int) := by omega
          have HP : Hid (decide ((i : Int) ∈ pre f (q + 1)) = (decide ((i : Int) ∈ pre f q) || (f q == (i : Int)))) := by
            show _ = _
            rw [Bool.eq_iff_iff]; simp [pre]
            constructor
            · rintro (h | h)
              · exact .inr h.symm
              · exact .inl h
            · rintro (h | h)
              · exact .inr h
              · exact .inl h.symm
          rcases hd : decide ((i : Int) ∈ pre f q) with _ | _
          · rw [hd] at HP
            generalize f q = x at *
            go_wp2_with fail
            go_round
            case rel => exact ⟨q + 1, by omega, by rw [HP.out]; simp, by go_num⟩
            case measure => simp [intOf]; omega
          · rw [hd] at HP
            generalize f q = x at *
            go_wp2_with fail
            go_round
            case rel => exact ⟨q + 1, by omega, by rw [HP.out]; simp, by go_num⟩
            case measure => simp [intOf]; omega
        · obtain rfl : q = len := by omega
          by_cases hlt : i < M
          · rw [decide_eq_true (MS.out.1 i hlt)]
            have l5 : (i : Int) < (M : Int) := by omega
            go_wp2_with fail
            go_round
            case rel => exact ⟨i + 1, by omega, by go_num⟩
            case measure => simp [intOf]; omega
          · obtain rfl : i = M := by omega
            rw [decide_eq_false MS.out.2]
            go_wp2_with fail
            go_round
            case rel => exact ⟨i + 1, by omega, by go_num⟩
            case measure => simp [intOf]
    · obtain rfl : i = M + 1 := by omega
      have l3 : (((M + 1 : Nat) : Int) ≤ (M : Int)) = False := by simp; omega
      go_wp2_with fail
      go_ret
      exact ⟨rfl, B2.out⟩

set_option maxHeartbeats 1000000 in
theorem least_many (ad : Option Addr) (len cap : Nat) (w : World) (hlen : ¬ len ≤ 300) (hlen2 : len < 9223372036854775808) (hR : Hid (RefAt w)) :
    Calls Tryd.prog 3 #[.slice ad len cap] w fun e w' => e = .returned (.bool true) ∧ Below w.heap.size w w' := by
  have l1 : (300 : Int) < (len : Int) := by omega
  go_enter Tryd.func3, Tryd.ntmps3
  go_wp2_with fail
  refine (speaks7 _ hR).mono ?_
  rintro e w1 ⟨rfl, hb⟩
  have HB := Lib.hid hb
  clear hb
  go_wp2_with fail
  go_ret
  exact ⟨rfl, HB.out⟩

theorem tleast_walk (a : Option Addr) (len cap : Nat) (zs : List Int) (w : World) (hz : IsRow .i64 w a len cap zs) (hR : RefAt w) :
    Calls Tryd.prog 3 #[.slice a len cap] w fun e w' => e = .returned (.bool true) ∧ Below w.heap.size w w' := by
  obtain ⟨f, hf⟩ := hz.rowz
  have hl := hz.len
  unfold maxLen at hl
  by_cases h2 : len ≤ 300
  · exact least_few a len cap f w h2 hf hR
  · exact least_many a len cap w h2 (by omega) hR

end Go.Proofs.YtlpaijobcopbnaaDoor
