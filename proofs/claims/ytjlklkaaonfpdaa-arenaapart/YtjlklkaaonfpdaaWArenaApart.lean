/-
  The walk of the statement ArenaApart: blocks of one class lie apart, within all addresses, each at a multiple of sixteen.
-/
import Derived.Test.YtjlklkaaonfpdaaArena6
import Derived.Test.YtjlklkaaonfpdaaMayNums
namespace Go.Proofs.Ytjlklkaaonfpdaa
open Go.RowKit

theorem cap_mul {len : Nat} {f : Nat → Int} {k : Int} (ok : ClsOk len f) : capI len f k * szI len f k ≤ 1024 := by
  unfold capI
  rcases szI_bd (k := k) ok with h | h
  · rw [h]; simp
  · rw [if_neg (by omega)]; exact Int.ediv_mul_le _ (by omega)
set_option maxHeartbeats 1000000 in
theorem apart5_no (W S B T : Int) (ad : Option Addr) (len cap : Nat) (f : Nat → Int) (k : Int) (w : World) (hr : Hid (RowI w ad len f)) (hl : len < 9223372036854775808)  (hm : Hid (mayB W S B T len f = false)) :
    Calls Try.prog 5 #[.agg #[.int .i64 W, .int .i64 S, .int .i64 B, .int .i64 T, .slice ad len cap], .int .i64 k] w fun e w' => e = .returned (.bool true) ∧ Below w.heap.size w w' := by
  have K0 : Hid (Ar w (w.alloc (.cells #[.int .i64 W, .int .i64 S, .int .i64 B, .int .i64 T, .slice ad len cap] 24)) w.heap.size W S B T ad len cap f) := Ar.start hr.out
  go_enter Try.func5, Try.ntmps5
  go_wp2_with fail
  generalize w.alloc (.cells #[.int .i64 W, .int .i64 S, .int .i64 B, .int .i64 T, .slice ad len cap] 24) = w0 at *
  generalize hN : w.heap.size = N at *
  refine (speaks5 _).mono ?_
  rintro e wa ⟨rfl, hb⟩
  have K1 := Lib.hid (K0.out.next hb)
  clear hb K0
  obtain ⟨c0, c1, c2, c3, c4⟩ := cfg_cells K1.out.c
  go_wp2_with fail
  refine (rmay_any W S B T ad len cap f _ K1.out.r hl).mono ?_
  rintro e wb ⟨he, hb⟩
  obtain rfl : e = .returned (.bool false) := by rw [he, hm.out]
  have K2 := Lib.hid (K1.out.next hb)
  clear hb K1 c0 c1 c2 c3 c4 he
  go_wp2_with fail
  go_ret
  exact ⟨rfl, by first | exact K2.out.b | (rw [hN]; exact K2.out.b)⟩

set_option maxHeartbeats 2000000 in
theorem apart5_out (W S B T : Int) (ad : Option Addr) (len cap : Nat) (f : Nat → Int) (k : Int) (w : World) (hr : Hid (RowI w ad len f)) (hl : len < 9223372036854775808) (hk : k < 0 ∨ (len : Int) ≤ k ∨ 8 < S) (hm : Hid (mayB W S B T len f = true)) :
    Calls Try.prog 5 #[.agg #[.int .i64 W, .int .i64 S, .int .i64 B, .int .i64 T, .slice ad len cap], .int .i64 k] w fun e w' => e = .returned (.bool true) ∧ Below w.heap.size w w' := by
  have K0 : Hid (Ar w (w.alloc (.cells #[.int .i64 W, .int .i64 S, .int .i64 B, .int .i64 T, .slice ad len cap] 24)) w.heap.size W S B T ad len cap f) := Ar.start hr.out
  go_enter Try.func5, Try.ntmps5
  go_wp2_with fail
  generalize w.alloc (.cells #[.int .i64 W, .int .i64 S, .int .i64 B, .int .i64 T, .slice ad len cap] 24) = w0 at *
  generalize hN : w.heap.size = N at *
  refine (speaks5 _).mono ?_
  rintro e wa ⟨rfl, hb⟩
  have K1 := Lib.hid (K0.out.next hb)
  clear hb K0
  obtain ⟨c0, c1, c2, c3, c4⟩ := cfg_cells K1.out.c
  go_wp2_with fail
  refine (rmay_any W S B T ad len cap f _ K1.out.r hl).mono ?_
  rintro e wb ⟨he, hb⟩
  obtain rfl : e = .returned (.bool true) := by rw [he, hm.out]
  have K2 := Lib.hid (K1.out.next hb)
  clear hb K1 c0 c1 c2 c3 c4 he
  obtain ⟨⟨w1, w2⟩, ⟨s1, s2⟩, ⟨b1, b2⟩, ⟨t1, t2⟩, ⟨l1, l2⟩, hcls⟩ := may_nums hm.out
  have OK := Lib.hid (cls_ok hcls)
  clear hcls w1 w2 b1 b2 t1 t2
  obtain ⟨c0, c1, c2, c3, c4⟩ := cfg_cells K2.out.c
  have HK := Lib.hid hk
  clear hk
  by_cases h0 : k < 0
  · have d0 : decide (k < 0) = true := by simpa using h0
    go_wp2_with fail
    go_ret
    exact ⟨rfl, by first | exact K2.out.b | (rw [hN]; exact K2.out.b)⟩
  · have d0 : decide (k < 0) = false := by simpa using h0
    by_cases h1 : (len : Int) ≤ k
    · have d1 : decide ((len : Int) ≤ k) = true := by simpa using h1
      go_wp2_with fail
      go_ret
      exact ⟨rfl, by first | exact K2.out.b | (rw [hN]; exact K2.out.b)⟩
    · have d1 : decide ((len : Int) ≤ k) = false := by simpa using h1
      have d2 : decide (8 < S) = true := by have := HK.out; simp; omega
      go_wp2_with fail
      go_ret
      exact ⟨rfl, by first | exact K2.out.b | (rw [hN]; exact K2.out.b)⟩

set_option maxRecDepth 20000 in
set_option maxHeartbeats 4000000 in
theorem apart5_yes (W S B T : Int) (ad : Option Addr) (len cap : Nat) (f : Nat → Int) (n : Nat) (w : World) (hr : Hid (RowI w ad len f)) (hl : len < 9223372036854775808) (hn : n < len) (s8 : S ≤ 8) (hm : Hid (mayB W S B T len f = true)) :
    Calls Try.prog 5 #[.agg #[.int .i64 W, .int .i64 S, .int .i64 B, .int .i64 T, .slice ad len cap], .int .i64 n] w fun e w' => e = .returned (.bool true) ∧ Below w.heap.size w w' := by
  have K0 : Hid (Ar w (w.alloc (.cells #[.int .i64 W, .int .i64 S, .int .i64 B, .int .i64 T, .slice ad len cap] 24)) w.heap.size W S B T ad len cap f) := Ar.start hr.out
  go_enter Try.func5, Try.ntmps5
  go_wp2_with fail
  generalize w.alloc (.cells #[.int .i64 W, .int .i64 S, .int .i64 B, .int .i64 T, .slice ad len cap] 24) = w0 at *
  generalize hN : w.heap.size = N at *
  refine (speaks5 _).mono ?_
  rintro e wa ⟨rfl, hb⟩
  have K1 := Lib.hid (K0.out.next hb)
  clear hb K0
  obtain ⟨c0, c1, c2, c3, c4⟩ := cfg_cells K1.out.c
  go_wp2_with fail
  refine (rmay_any W S B T ad len cap f _ K1.out.r hl).mono ?_
  rintro e wb ⟨he, hb⟩
  obtain rfl : e = .returned (.bool true) := by rw [he, hm.out]
  have K2 := Lib.hid (K1.out.next hb)
  clear hb K1 c0 c1 c2 c3 c4 he
  obtain ⟨⟨w1, w2⟩, ⟨s1, s2⟩, ⟨b1, b2⟩, ⟨t1, t2⟩, ⟨l1, l2⟩, hcls⟩ := may_nums hm.out
  have OK := Lib.hid (cls_ok hcls)
  clear hcls w1 w2 b1 b2 t1 t2
  obtain ⟨c0, c1, c2, c3, c4⟩ := cfg_cells K2.out.c
  have d0 : decide ((n : Int) < 0) = false := by simp
  have d1 : decide (len ≤ n) = false := by simp; omega
  have d2 : decide (8 < S) = false := by simp; omega
  have HZ := Lib.hid (szI_nat (f := f) hn)
  have z1 := OK.out.lo n hn
  have z2 := OK.out.hi n hn
  have HZ16 := Lib.hid (OK.out.md n hn)
  have q0 := capI_bd (k := (n : Int)) OK.out
  have HM := cap_mul (k := (n : Int)) OK.out
  rw [HZ.out] at HM
  have HCP := Lib.hid (fun w hr => cap_any W S B T ad len cap f (n : Int) w hr OK)
  have HAD := Lib.hid (fun w hr s i => address_any W S B T ad len cap f (n : Int) s i w hr OK (by omega) (by omega))
  have HBK := Lib.hid (fun w hr a => block_any W S B T ad len cap f (n : Int) a w hr OK (by omega) (by omega))
  have HAT := Lib.hid (fun a s i (a0 : 0 ≤ s) (a1 : s < S) (a2 : 0 ≤ i) (a3 : i < capI len f (n : Int)) => adr_at (a := a) (k := (n : Int)) (s := s) (i := i) OK.out a0 a1 a2 a3)
  have HAF : Hid (∀ s i, 0 ≤ s → s < S → 0 ≤ i → i < capI len f (n : Int) → adrI S len f (n : Int) s i = 65536 + 1024 * s + i * f n) := fun s i h1 h2 h3 h4 => by unfold adrI; rw [if_neg (by omega), HZ.out]
  have l3 : (n : Int) < (len : Int) := by omega
  rw [HZ.out] at HBK HAT
  generalize capI len f (n : Int) = R at *
  generalize hfz : f n = z at *
  have HFZ := Lib.hid hfz
  clear hfz HZ
  go_wp2_with fail
  go_loopw [5, 37] (fun v u wr => ∃ (s l : Int), 0 ≤ s ∧ s ≤ S ∧ l ≤ 65536 + 1024 * s ∧ v = .int .i64 l ∧ u = .int .i64 s ∧ Ar w wr N W S B T ad len cap f) (fun _ u _ => (S - intOf u).toNat)
  case atStart => exact ⟨0, 65536, by omega, by omega, by omega, rfl, rfl, K2.out⟩
  case round =>
    obtain ⟨s, l, a0, a1, hl1, rfl, rfl, kk⟩ := hrel
    have K3 := Lib.hid kk
    clear kk K2 c0 c1 c2 c3 c4
    obtain ⟨c0, c1, c2, c3, c4⟩ := cfg_cells K3.out.c
    by_cases h4 : s < S
    · have d4 : decide (s < S) = true := by simpa using h4
      go_wp2_with fail
      refine (HCP.out _ K3.out.r).mono ?_
      rintro e w3 ⟨rfl, hb⟩
      have K4 := Lib.hid (K3.out.next hb)
      clear hb K3 c0 c1 c2 c3 c4
      go_wp2_with fail
      go_loopw [5, 43] (fun v u wr => ∃ (i l p : Int), 0 ≤ i ∧ i ≤ R ∧ 0 ≤ p ∧ p ≤ 1024 ∧ Hid (p = i * z) ∧ l ≤ 65536 + 1024 * s + p ∧ v = .int .i64 l ∧ u = .int .i64 i ∧ Ar w wr N W S B T ad len cap f) (fun _ u _ => (R - intOf u).toNat)
      case atStart => exact ⟨0, l, 0, by omega, by omega, by omega, by omega, by show (0 : Int) = 0 * z; omega, by omega, rfl, rfl, K4.out⟩
      case round =>
        obtain ⟨i, l, p, i0, i1, p0, p1, HP, hlp, rfl, rfl, kk⟩ := hrel
        have K5 := Lib.hid kk
        clear kk K4
        obtain ⟨c0, c1, c2, c3, c4⟩ := cfg_cells K5.out.c
        by_cases h5 : i < R
        · have d5 : decide (i < R) = true := by simpa using h5
          have HP2 : Hid (p + z = (i + 1) * z) := by show _ = _; rw [Int.add_mul, Int.one_mul, HP.out]
          have p2 : p + z ≤ 1024 := by
            have : (i + 1) * z ≤ R * z := Int.mul_le_mul_of_nonneg_right (by omega) (by omega)
            have := HP2.out; omega
          have HA := Lib.hid (HAF.out s i a0 h4 i0 h5)
          have HA2 : Hid (adrI S len f (n : Int) s i = 65536 + 1024 * s + p) := by show _ = _; rw [HA.out, HP.out]
          have HB2 := Lib.hid ((HAT.out (65536 + 1024 * s + p) s i a0 h4 i0 h5).1 HA2.out)
          have HA16 : Hid ((65536 + 1024 * s + p) % 16 = 0) := by
            show _ = _
            have h6 : (i * z) % 16 = 0 := by rw [Int.mul_emod, HZ16.out]; simp
            have := HP.out; omega
          go_wp2_with fail
          refine (HAD.out _ K5.out.r _ _).mono ?_
          rintro e w5 ⟨he, hb⟩
          obtain rfl : e = .returned (.int .i64 (65536 + 1024 * s + p)) := by rw [he, HA2.out]
          have K6 := Lib.hid (K5.out.next hb)
          clear hb he K5 c0 c1 c2 c3 c4
          obtain ⟨c0, c1, c2, c3, c4⟩ := cfg_cells K6.out.c
          have HV : Hid (blkV z (65536 + 1024 * s + p) (blkB S len f (n : Int) (65536 + 1024 * s + p)) = .tuple #[.agg #[.int .i64 s, .int .i64 i], .bool true]) := by
            show _ = _
            rw [HB2.out.1]
            show Value.tuple #[.agg #[.int .i64 ((65536 + 1024 * s + p - 65536) / 1024), .int .i64 ((65536 + 1024 * s + p - 65536) % 1024 / z)], .bool true] = _
            rw [← HB2.out.2.1, ← HB2.out.2.2]
          have g0 : 65536 ≤ 65536 + 1024 * s + p := by omega
          have g1 : 65536 + 1024 * s + p < 65536 + 1024 * S := by omega
          have G2 : Hid ((65536 + 1024 * s + p - 65536) / 16 / 64 = s) := by show _ = _; omega
          have G3 : Hid (65536 + 1024 * s + 16 * ((65536 + 1024 * s + p - 65536) / 16 % 64) = 65536 + 1024 * s + p) := by show _ = _; have := HA16.out; omega
          have g4 : 0 ≤ (65536 + 1024 * s + p - 65536) / 16 % 64 := by omega
          have g5 : (65536 + 1024 * s + p - 65536) / 16 % 64 < 64 := by omega
          have g6 : l ≤ 65536 + 1024 * s + p := hlp
          have g7 : 65536 + 1024 * s + p + z ≤ 66560 + 1024 * s := by omega
          have HAZ := Lib.hid (show (65536 + 1024 * s + p) + z ≤ 65536 + 1024 * s + (p + z) by omega)
          clear HA HA2 HB2
          generalize 65536 + 1024 * s + p = a at *
          go_wp2_with fail
          refine (HBK.out _ K6.out.r a).mono ?_
          rintro e w6 ⟨he, hb⟩
          obtain rfl : e = .returned (.tuple #[.agg #[.int .i64 s, .int .i64 i], .bool true]) := by rw [he, HV.out]
          have K7 := Lib.hid (K6.out.next hb)
          clear hb he HV K6 c0 c1 c2 c3 c4
          have lN := K7.out.lt
          have lN' : ¬ N = w6.heap.size := by omega
          have hba := below_alloc w6 (.cells #[.int .i64 s, .int .i64 i] 34)
          have E8 := Lib.hid (Two5.new w6 34 s i)
          have K8 := Lib.hid (K7.out.next hba)
          clear hba
          obtain ⟨c0, c1, c2, c3, c4⟩ := cfg_cells K7.out.c
          go_wp2_with fail
          generalize w6.alloc (.cells #[.int .i64 s, .int .i64 i] 34) = w7 at *
          generalize hM : w6.heap.size = M at *
          refine (place_yes W S B T _ a _ (by omega) (by omega) g0 g1 HA16.out).mono ?_
          rintro e w8 ⟨he, hb⟩
          rw [G2.out] at he
          have K9 := Lib.hid (K8.out.next hb)
          have E9 := Lib.hid (E8.out.next hb)
          clear hb K8 E8 K7 c0 c1 c2 c3 c4 G2
          generalize (a - 65536) / 16 % 64 = g at *
          subst he
          obtain ⟨c0, c1, c2, c3, c4⟩ := cfg_cells K9.out.c
          obtain ⟨e0, e1⟩ := E9.out.cells
          have k1 : decide (a < l) = false := by simp; omega
          have k2 : (a % 16 != 0) = false := by have := HA16.out; simpa using this
          have k3 : (65536 + 1024 * s + 16 * g != a) = false := by have := G3.out; simpa using this
          have k4 : (s != s) = false := by simp
          have k5 : (i != i) = false := by simp
          have s64 : s < 64 := by omega
          clear G3 HA16
          obtain ⟨b, off, rfl, hcl⟩ := K9.out.r.at hn
          rw [HFZ.out] at hcl
          go_wp2_with fail
          go_roundw
          case rel => exact ⟨i + 1, a + z, p + z, by omega, by omega, by omega, p2, HP2, HAZ.out, rfl, rfl, K9.out⟩
          case measure => simp [intOf]; omega
        · have d5 : decide (i < R) = false := by simpa using h5
          have p3 : p ≤ 1024 := p1
          go_wp2_with fail
          go_roundw
          case rel => exact ⟨s + 1, l, by omega, by omega, by omega, rfl, rfl, K5.out⟩
          case measure => simp [intOf]; omega
    · have d4 : decide (s < S) = false := by simpa using h4
      obtain rfl : s = S := by omega
      go_wp2_with fail
      refine (end_any _ _ _ _ _ _ (by omega) (by omega)).mono ?_
      rintro e w4 ⟨rfl, hb⟩
      have K4 := Lib.hid (K3.out.next hb)
      clear hb K3 c0 c1 c2 c3 c4
      have k1 : decide (l ≤ 65536 + 1024 * s) = true := by simpa using hl1
      go_wp2_with fail
      go_ret
      exact ⟨rfl, by first | exact K4.out.b | (rw [hN]; exact K4.out.b)⟩

theorem apart5_walk (W S B T : Int) (ad : Option Addr) (len cap : Nat) (f : Nat → Int) (k : Int) (w : World) (hr : RowI w ad len f) (hl : len < 9223372036854775808) :
    Calls Try.prog 5 #[.agg #[.int .i64 W, .int .i64 S, .int .i64 B, .int .i64 T, .slice ad len cap], .int .i64 k] w fun e w' => e = .returned (.bool true) ∧ Below w.heap.size w w' := by
  rcases h : mayB W S B T len f with _ | _
  · exact apart5_no W S B T ad len cap f k w hr hl h
  · by_cases hk : k < 0 ∨ (len : Int) ≤ k ∨ 8 < S
    · exact apart5_out W S B T ad len cap f k w hr hl hk h
    · obtain ⟨n, rfl⟩ := Int.eq_ofNat_of_zero_le (show 0 ≤ k by omega)
      exact apart5_yes W S B T ad len cap f n w hr hl (by omega) (by omega) h

end Go.Proofs.Ytjlklkaaonfpdaa
