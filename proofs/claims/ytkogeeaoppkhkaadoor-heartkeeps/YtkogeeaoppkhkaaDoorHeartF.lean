/-
  The document's Refill over rows of superblocks. (Printed by mkheartf.py.)
-/
import Derived.Test.YtkogeeaoppkhkaaDoorHeartG
import Derived.Test.YtkogeeaoppkhkaaDoorRefM
namespace Go.Proofs.YtkogeeaoppkhkaaDoor
open Go.RowKit Go.Sort Go.Shelf

theorem or_add {a b : Nat} (ha : a < 18446744073709551616) (hb : b < 18446744073709551616) (h : a &&& b = 0) : a ||| b = a + b := by
  have h1 := BitVec.add_eq_or_of_and_eq_zero (BitVec.ofNat 65 a) (BitVec.ofNat 65 b) (by rw [← BitVec.ofNat_and, h])
  have h2 := congrArg BitVec.toNat h1
  rw [BitVec.toNat_add, BitVec.toNat_or, BitVec.toNat_ofNat, BitVec.toNat_ofNat, Nat.mod_eq_of_lt (by omega), Nat.mod_eq_of_lt (by omega), Nat.mod_eq_of_lt (by omega)] at h2
  exact h2.symm
theorem hsplit_or (m k : Nat) (hm : m < 18446744073709551616) : Ma.leastN m k ||| Ma.andNotN m (Ma.leastN m k) = m := by
  apply Nat.eq_of_testBit_eq
  intro i
  rw [Nat.testBit_or, Ma.testBit_andNotN hm (Ma.leastN_lt m k)]
  have hsub : (Ma.leastN m k).testBit i = true → m.testBit i = true := by
    unfold Ma.leastN
    rw [Ma.testBit_ofList, Ma.testBit_mem m i hm]
    simp only [decide_eq_true_eq]
    exact List.mem_of_mem_take
  rcases h1 : (Ma.leastN m k).testBit i with _ | _ <;> rcases h2 : m.testBit i with _ | _ <;> simp_all
theorem hsplit_and (m k : Nat) (hm : m < 18446744073709551616) : Ma.leastN m k &&& Ma.andNotN m (Ma.leastN m k) = 0 := by
  apply Nat.eq_of_testBit_eq
  intro i
  rw [Nat.testBit_and, Ma.testBit_andNotN hm (Ma.leastN_lt m k)]
  rcases (Ma.leastN m k).testBit i with _ | _ <;> simp
theorem sub_least (m k : Nat) (hm : m < 18446744073709551616) : IntKind.u64.wrap ((m : Int) - (Ma.leastN m k : Nat)) = ((Ma.andNotN m (Ma.leastN m k) : Nat) : Int) := by
  have h1 := or_add (Ma.leastN_lt m k) (Ma.andNotN_lt (Ma.leastN m k) hm) (hsplit_and m k hm)
  rw [hsplit_or m k hm] at h1
  rw [IntKind.wrap_u64]
  omega
theorem hmem_all : Ma.mem 18446744073709551615 = List.range 64 := by decide +kernel
theorem hleast_all (k : Nat) : Ma.leastN 18446744073709551615 k = Ma.lowN (min k 64) := by
  apply Nat.eq_of_testBit_eq
  intro i
  unfold Ma.leastN
  rw [Ma.testBit_lowN, Ma.testBit_ofList, hmem_all, List.take_range]
  simp
theorem rlowH (n : Nat) (hn : n ≤ 64) (w : World) : Calls Tryd.prog 57 #[.int .i64 (n : Nat)] w fun e w' => e = .returned (.int .u64 (Ma.lowN n : Nat)) ∧ Below w.heap.size w w' := by
  have := rlow_any (n : Nat) w
  rw [hleast_all, Int.toNat_natCast, Nat.min_eq_left hn] at this
  exact this
theorem capN_out {len : Nat} {f : Nat → Int} {C : Nat} (h : len ≤ C) : capN len f C = 0 := by
  unfold capN capI; rw [szI_out (.inr (by omega))]; rfl
theorem capN_in {len : Nat} {f : Nat → Int} {C : Nat} (ok : ClsOk len f) (h : C < len) : capN len f C ≠ 0 := by
  have h1 := ok.lo C h
  have h2 := ok.hi C h
  unfold capN capI
  rw [szI_nat h, if_neg (by omega)]
  have := Int.le_ediv_of_mul_le (a := 1) (b := 1024) (c := f C) (by omega) (by omega)
  omega
def atV : Option Nat → Int
  | some i => (i : Int)
  | none => -1
def bksV (l : List Sb) : Option Nat → Nat
  | some i => (l.getD i Sb.none).m
  | none => 0
def blk2 (K : Nat) : Option Nat → Nat
  | some _ => Ma.lowN K
  | none => 0
set_option maxRecDepth 20000 in
set_option maxHeartbeats 8000000 in
theorem rrefill_any (W T : Int) (S B : Nat) (ad : Option Addr) (len cap : Nat) (f : Nat → Int) (v : Value) (l : List Sb) (C : Nat) (w : World) (hR : Hid (RS w v l)) (hr : Hid (RowI w ad len f)) (ok : Hid (ClsOk len f)) (hO : Hid (OkL l)) (few : l.length ≤ 64) (hC : C < 4294967296) :
    Calls Tryd.prog 46 #[.agg #[.int .i64 W, .int .i64 (S : Nat), .int .i64 (B : Nat), .int .i64 T, .slice ad len cap], v, .int .i64 (C : Nat)] w (RPost w (refillP (capN len f) B l C)) := by
  obtain ⟨q1, q2, q3, q4⟩ := two_fresh w (.cells #[.int .i64 W, .int .i64 (S : Nat), .int .i64 (B : Nat), .int .i64 T, .slice ad len cap] 24) (.cells #[.int .u64 0, .int .u64 0] 37)
  have C1 : Hid (Cfg5 _ w.heap.size W (S : Nat) (B : Nat) T (.slice ad len cap)) := q1
  have M1 : Hid (OpBox _ (w.heap.size + 1) 0 0) := q2
  have B1 := Lib.hid q3
  have R1 := Lib.hid (hR.out.next q3)
  have I1 := Lib.hid (hr.out.next q3)
  have hPN : Hid (w.heap.size ≤ w.heap.size + 1) := by show _ ≤ _; omega
  clear q1 q2 q3 q4
  obtain ⟨c0, c1, c2, c3, c4⟩ := cfg_cells C1.out
  have f0 := frozen_of (j := 0) M1.out
  have f1 := frozen_of (j := 1) M1.out
  have z0 := M1.out.z0
  have z1 := M1.out.z1
  obtain ⟨ra, rc, rfl⟩ := ORow.form R1.out
  have gC : decide ((C : Int) < 0) = false := by simp
  have gC2 : ¬ (C : Int) < 0 := by omega
  by_cases hin : C < len
  · have gL : ¬ (len : Int) ≤ (C : Int) := by omega
    have gL2 : decide ((len : Int) ≤ (C : Int)) = false := by simpa using gL
    have hcap := capN_in ok.out hin
    have hcle := capN_le ok.out C
    have CI := capN_int ok.out C
    have YES : Hid (∀ a m, srcP (capN len f C) l C = some (a, m) → refillP (capN len f) B l C = (l.set a ⟨1, C, Ma.andNotN m (Ma.leastN m B)⟩, (a + 1, Ma.leastN m B))) := fun a m h => by
      unfold refillP; rw [if_neg hcap, h]
    have NOX : Hid (srcP (capN len f C) l C = none → refillP (capN len f) B l C = (l, (0, 0))) := fun h => by
      unfold refillP; rw [if_neg hcap, h]
    have CC : Hid (∀ y, RowI y ad len f → Calls Tryd.prog 28 #[.agg #[.int .i64 W, .int .i64 (S : Nat), .int .i64 (B : Nat), .int .i64 T, .slice ad len cap], .int .i64 (C : Nat)] y fun e y' => e = .returned (.int .i64 ((capN len f C : Nat) : Int)) ∧ Below y.heap.size y y') := fun y h => by
      have := rcap_any W (S : Nat) (B : Nat) T ad len cap f (C : Nat) y (Lib.hid h) ok
      rw [CI] at this
      exact this
    clear CI hcap
    generalize refillP (capN len f) B l C = V at *
    generalize capN len f C = K at *
    go_enter Tryd.func46, Tryd.ntmps46
    go_wp2_with fail
    generalize (w.alloc (.cells #[.int .i64 W, .int .i64 (S : Nat), .int .i64 (B : Nat), .int .i64 T, .slice ad len cap] 24)).alloc (.cells #[.int .u64 0, .int .u64 0] 37) = w1 at *
    generalize w.heap.size + 1 = N at *
    go_loop [8, 9, 10] (fun u8 u9 u10 => ∃ k : Nat, k ≤ l.length ∧ u10 = .int .i64 (k : Nat) ∧ u8 = .int .i64 (atV (firstTo (isOf C) l k)) ∧ u9 = .int .u64 (bksV l (firstTo (isOf C) l k) : Nat)) (fun _ _ u10 => l.length - (intOf u10).toNat)
    case atStart => exact ⟨0, by omega, rfl, rfl, rfl⟩
    case round =>
      obtain ⟨k, hk, rfl, rfl, rfl⟩ := hrel
      by_cases hk1 : k < l.length
      · have g3 : (k : Int) < (l.length : Int) := by omega
        have wk : IntKind.i64.wrap ((k : Int) + 1) = (k : Int) + 1 := by rw [IntKind.wrap_i64]; omega
        have hs := Lib.hid (at_of hk1)
        have E1 : Hid (firstTo (isOf C) l (k + 1) = match firstTo (isOf C) l k with | some i => some i | none => if isOf C (l.getD k Sb.none) then some k else none) := rfl
        obtain ⟨rb, rc', hv, hrb, k0, k1, k2⟩ := R1.out.cells hs.out
        cases hv
        cases hf : firstTo (isOf C) l k with
        | some a =>
          rw [hf] at E1
          have E2 : Hid (firstTo (isOf C) l (k + 1) = some a) := E1.out
          have ga : ¬ ((a : Nat) : Int) < 0 := by omega
          have ga2 : decide (((a : Nat) : Int) < 0) = false := by simp
          have hA : atV (some a) = (a : Int) := rfl
          rw [hA]
          generalize hbv : bksV l (some a) = bv at *
          go_wp2_with fail
          go_round
          case rel => exact ⟨k + 1, by omega, by push_cast; rfl, by rw [E2.out]; rfl, by rw [E2.out, hbv]⟩
          case measure => simp [intOf]; omega
        | none =>
          rw [hf] at E1
          have hA : atV none = -1 := rfl
          have hB0 : ((bksV l none : Nat) : Int) = 0 := rfl
          rw [hA, hB0]
          have HI : Hid (isOf C (l.getD k Sb.none) = ((l.getD k Sb.none).k == 1 && ((l.getD k Sb.none).n == C && (l.getD k Sb.none).m != 0))) := rfl
          have hGM : Hid (bksV l (some k) = (l.getD k Sb.none).m) := rfl
          generalize l.getD k Sb.none = s at *
          by_cases hi : isOf C s = true
          · have hi2 := hi
            rw [HI.out] at hi2
            simp at hi2
            obtain ⟨i1, i2, i3⟩ := hi2
            rw [i1] at k0
            rw [i2] at k1
            have j3 : ¬ ((s.m : Nat) : Int) = 0 := by omega
            have E2 : Hid (firstTo (isOf C) l (k + 1) = some k) := by rw [if_pos hi] at E1; exact E1
            have k0' : w1.cell? ⟨rb, k * 3, none⟩ = some (.int .i64 1) := k0
            go_wp2_with fail
            go_round
            case rel => exact ⟨k + 1, by omega, by push_cast; rfl, by rw [E2.out]; rfl, by rw [E2.out, hGM.out]⟩
            case measure => simp [intOf]; omega
          · have E2 : Hid (firstTo (isOf C) l (k + 1) = none) := by rw [if_neg hi] at E1; exact E1
            rw [HI.out] at hi
            by_cases i1 : s.k = 1
            · rw [i1] at k0
              have k0' : w1.cell? ⟨rb, k * 3, none⟩ = some (.int .i64 1) := k0
              by_cases i2 : s.n = C
              · rw [i2] at k1
                have i3 : s.m = 0 := by simp [i1, i2] at hi; exact hi
                rw [i3] at k2
                have k2' : w1.cell? ⟨rb, k * 3 + 2, none⟩ = some (.int .u64 0) := k2
                go_wp2_with fail
                go_round
                case rel => exact ⟨k + 1, by omega, by push_cast; rfl, by rw [E2.out]; rfl, by rw [E2.out]; rfl⟩
                case measure => simp [intOf]; omega
              · have j2 : ¬ ((s.n : Nat) : Int) = (C : Int) := by omega
                go_wp2_with fail
                go_round
                case rel => exact ⟨k + 1, by omega, by push_cast; rfl, by rw [E2.out]; rfl, by rw [E2.out]; rfl⟩
                case measure => simp [intOf]; omega
            · have j1 : ¬ ((s.k : Nat) : Int) = 1 := by omega
              go_wp2_with fail
              go_round
              case rel => exact ⟨k + 1, by omega, by push_cast; rfl, by rw [E2.out]; rfl, by rw [E2.out]; rfl⟩
              case measure => simp [intOf]; omega
      · obtain rfl : k = l.length := by omega
        have g3 : ¬ (l.length : Int) < (l.length : Int) := by omega
        cases hf : firstTo (isOf C) l l.length with
        | some a =>
          have ha := (firstTo_some hf).1
          have EV := Lib.hid (YES.out a _ (src_of hf))
          have hm64 : (l.getD a Sb.none).m < 18446744073709551616 := (hO.out.at (at_of ha)).2.2
          have hA : atV (some a) = (a : Int) := rfl
          have hBB : bksV l (some a) = (l.getD a Sb.none).m := rfl
          rw [hA, hBB]
          generalize (l.getD a Sb.none).m = m at *
          go_wp2_with fail
          go_loop [8, 9, 11] (fun u8 u9 u11 => ∃ k : Nat, k ≤ l.length ∧ u11 = .int .i64 (k : Nat) ∧ u8 = .int .i64 (a : Nat) ∧ u9 = .int .u64 (m : Nat)) (fun _ _ u11 => l.length - (intOf u11).toNat)
          case atStart => exact ⟨0, by omega, rfl, rfl, rfl⟩
          case round =>
            obtain ⟨k, hk, rfl, rfl, rfl⟩ := hrel
            have ga : ¬ ((a : Nat) : Int) < 0 := by omega
            have ga2 : decide (((a : Nat) : Int) < 0) = false := by simp
            by_cases hk1 : k < l.length
            · have g3 : (k : Int) < (l.length : Int) := by omega
              have wk : IntKind.i64.wrap ((k : Int) + 1) = (k : Int) + 1 := by rw [IntKind.wrap_i64]; omega
              go_wp2_with fail
              go_round
              case rel => exact ⟨k + 1, by omega, by push_cast; rfl, rfl, rfl⟩
              case measure => simp [intOf]; omega
            · obtain rfl : k = l.length := by omega
              have gA : ¬ (((a : Nat) : Int) < 0) := by omega
              have gA2 : decide (((a : Nat) : Int) < 0) = false := by simp
              have LE : Hid (∀ y, Calls Tryd.prog 72 #[.int .u64 (m : Nat), .int .i64 (B : Nat)] y fun e y' => e = .returned (.int .u64 (Ma.leastN m B : Nat)) ∧ Below y.heap.size y y') := fun y => by
                have := rleast_any m (B : Nat) y hm64
                rw [Int.toNat_natCast] at this
                exact this
              go_wp2_with fail
              refine (LE.out _).mono ?_
              rintro e y1 ⟨rfl, hb⟩
              have Y1 := Lib.hid (R1.out.next hb)
              have O1 := Lib.hid (M1.out.next hb)
              have E1 := Lib.hid (B1.out.trans (hb.mono B1.out.size))
              clear hb LE
              have ws := Lib.hid (sub_least m B hm64)
              have WI := Lib.hid (rwith_any (.slice ra l.length rc) l a ⟨1, C, Ma.andNotN m (Ma.leastN m B)⟩ y1 Y1 (by omega) (by omega))
              generalize Ma.leastN m B = so at *
              generalize Ma.andNotN m so = re at *
              have ws2 := ws.out
              have e1 : IntKind.i64.wrap (((a : Nat) : Int) + 1) = ((a : Nat) : Int) + 1 := by rw [IntKind.wrap_i64]; omega
              have e2 : IntKind.u64.wrap (((a : Nat) : Int) + 1) = ((a : Nat) : Int) + 1 := by rw [IntKind.wrap_u64]; omega
              go_wp2_with fail
              refine WI.out.mono ?_
              rintro e y2 ⟨v2, rfl, H5, O5⟩
              have Y2 := Lib.hid H5
              have O2 := Lib.hid (O1.out.next O5)
              have E2 := Lib.hid (E1.out.trans (O5.mono E1.out.size))
              clear H5 O5 WI
              have z0 := O2.out.z0
              have z1 := O2.out.z1
              have f0 := frozen_of (j := 0) O2.out
              have f1 := frozen_of (j := 1) O2.out
              go_wp2_with fail
              have R := O2.out.set (a + 1) so
              have r0 := R.c0
              have r1 := R.c1
              rw [show ((a + 1 : Nat) : Int) = ((a : Nat) : Int) + 1 from by omega] at r0 r1
              have BZ := below_set (j := 1) (v := .int .u64 (so : Nat)) (below_set (j := 0) (v := .int .u64 (((a : Nat) : Int) + 1)) E2.out hPN.out) hPN.out
              exact bodyPost_ret (v := .tuple #[v2, .agg #[.int .u64 (((a : Nat) : Int) + 1), .int .u64 (so : Nat)]]) (by simp [results, Tryd.results46, go_sem, r0, r1]) rfl ⟨v2, by rw [EV.out]; rfl, by rw [EV.out]; exact Y2.out.op O2.out (only_op _ _), BZ⟩
        | none =>
          have hA : atV none = -1 := rfl
          have hB0 : ((bksV l none : Nat) : Int) = 0 := rfl
          rw [hA, hB0]
          go_wp2_with fail
          go_loopw [8, 9, 11] (fun u8 u9 u11 wr => ∃ k : Nat, k ≤ l.length ∧ u11 = .int .i64 (k : Nat) ∧ u8 = .int .i64 (atV (firstTo isFree l k)) ∧ u9 = .int .u64 (blk2 K (firstTo isFree l k) : Nat) ∧ Hid (Below w1.heap.size w1 wr)) (fun _ _ u11 _ => l.length - (intOf u11).toNat)
          case atStart => exact ⟨0, by omega, rfl, rfl, rfl, Lib.hid (Below.refl _ _)⟩
          case round =>
            obtain ⟨k, hk, rfl, rfl, rfl, Bk⟩ := hrel
            have Rk := Lib.hid (R1.out.next Bk.out)
            have Mk := Lib.hid (M1.out.next Bk.out)
            have Ck := Lib.hid (cfg_next C1.out Bk.out)
            have Ik := Lib.hid (I1.out.next Bk.out)
            have Bw : Hid (Below w.heap.size w wr) := B1.out.trans (Bk.out.mono B1.out.size)
            obtain ⟨c0, c1, c2, c3, c4⟩ := cfg_cells Ck.out
            have f0 := frozen_of (j := 0) Mk.out
            have f1 := frozen_of (j := 1) Mk.out
            have z0 := Mk.out.z0
            have z1 := Mk.out.z1
            by_cases hk1 : k < l.length
            · have g3 : (k : Int) < (l.length : Int) := by omega
              have wk : IntKind.i64.wrap ((k : Int) + 1) = (k : Int) + 1 := by rw [IntKind.wrap_i64]; omega
              have hs := Lib.hid (at_of hk1)
              have E1 : Hid (firstTo isFree l (k + 1) = match firstTo isFree l k with | some i => some i | none => if isFree (l.getD k Sb.none) then some k else none) := rfl
              obtain ⟨rb, rc', hv, hrb, k0, k1, k2⟩ := Rk.out.cells hs.out
              cases hv
              cases hg : firstTo isFree l k with
              | some a =>
                rw [hg] at E1
                have E2 : Hid (firstTo isFree l (k + 1) = some a) := E1.out
                have ga : ¬ ((a : Nat) : Int) < 0 := by omega
                have ga2 : decide (((a : Nat) : Int) < 0) = false := by simp
                have hA : atV (some a) = (a : Int) := rfl
                rw [hA]
                generalize hbv : blk2 K (some a) = bv at *
                go_wp2_with fail
                go_roundw
                case rel => exact ⟨k + 1, by omega, by push_cast; rfl, by rw [E2.out]; rfl, by rw [E2.out, hbv], Bk⟩
                case measure => simp [intOf]; omega
              | none =>
                rw [hg] at E1
                have hA : atV none = -1 := rfl
                have hB0 : ((blk2 K none : Nat) : Int) = 0 := rfl
                rw [hA, hB0]
                have HI : Hid (isFree (l.getD k Sb.none) = ((l.getD k Sb.none).k == 0)) := rfl
                generalize l.getD k Sb.none = s at *
                by_cases i1 : s.k = 0
                · have E2 : Hid (firstTo isFree l (k + 1) = some k) := by
                    rw [if_pos (by rw [HI.out, i1]; rfl)] at E1; exact E1
                  rw [i1] at k0
                  have k0' : wr.cell? ⟨rb, k * 3, none⟩ = some (.int .i64 0) := k0
                  go_wp2_with fail
                  refine (CC.out _ Ik.out).mono ?_
                  rintro e y1 ⟨rfl, hb⟩
                  have Bk1 : Hid (Below w1.heap.size w1 y1) := Bk.out.trans (hb.mono Bk.out.size)
                  clear hb
                  have LO := Lib.hid fun y => rlowH K hcle y
                  go_wp2_with fail
                  refine (LO.out _).mono ?_
                  rintro e y2 ⟨rfl, hb⟩
                  have Bk2 : Hid (Below w1.heap.size w1 y2) := Bk1.out.trans (hb.mono Bk1.out.size)
                  clear hb
                  go_wp2_with fail
                  go_roundw
                  case rel => exact ⟨k + 1, by omega, by push_cast; rfl, by rw [E2.out]; rfl, by rw [E2.out]; rfl, Bk2⟩
                  case measure => simp [intOf]; omega
                · have E2 : Hid (firstTo isFree l (k + 1) = none) := by
                    rw [if_neg (by rw [HI.out]; simpa using i1)] at E1; exact E1
                  have j1 : ¬ ((s.k : Nat) : Int) = 0 := by omega
                  go_wp2_with fail
                  go_roundw
                  case rel => exact ⟨k + 1, by omega, by push_cast; rfl, by rw [E2.out]; rfl, by rw [E2.out]; rfl, Bk⟩
                  case measure => simp [intOf]; omega
            · obtain rfl : k = l.length := by omega
              cases hg : firstTo isFree l l.length with
              | some a =>
                have ha := (firstTo_some hg).1
                have EV := Lib.hid (YES.out a _ (src_free hf hg))
                have hm64 : Ma.lowN K < 18446744073709551616 := Ma.lowN_lt hcle
                have hA : atV (some a) = (a : Int) := rfl
                have hBB : blk2 K (some a) = Ma.lowN K := rfl
                rw [hA, hBB]
                generalize Ma.lowN K = m at *
                have gA : ¬ (((a : Nat) : Int) < 0) := by omega
                have gA2 : decide (((a : Nat) : Int) < 0) = false := by simp
                have LE : Hid (∀ y, Calls Tryd.prog 72 #[.int .u64 (m : Nat), .int .i64 (B : Nat)] y fun e y' => e = .returned (.int .u64 (Ma.leastN m B : Nat)) ∧ Below y.heap.size y y') := fun y => by
                  have := rleast_any m (B : Nat) y hm64
                  rw [Int.toNat_natCast] at this
                  exact this
                go_wp2_with fail
                refine (LE.out _).mono ?_
                rintro e y1 ⟨rfl, hb⟩
                have Y1 := Lib.hid (Rk.out.next hb)
                have O1 := Lib.hid (Mk.out.next hb)
                have E1 := Lib.hid (Bw.out.trans (hb.mono Bw.out.size))
                clear hb LE
                have ws := Lib.hid (sub_least m B hm64)
                have WI := Lib.hid (rwith_any (.slice ra l.length rc) l a ⟨1, C, Ma.andNotN m (Ma.leastN m B)⟩ y1 Y1 (by omega) (by omega))
                generalize Ma.leastN m B = so at *
                generalize Ma.andNotN m so = re at *
                have ws2 := ws.out
                have e1 : IntKind.i64.wrap (((a : Nat) : Int) + 1) = ((a : Nat) : Int) + 1 := by rw [IntKind.wrap_i64]; omega
                have e2 : IntKind.u64.wrap (((a : Nat) : Int) + 1) = ((a : Nat) : Int) + 1 := by rw [IntKind.wrap_u64]; omega
                go_wp2_with fail
                refine WI.out.mono ?_
                rintro e y2 ⟨v2, rfl, H5, O5⟩
                have Y2 := Lib.hid H5
                have O2 := Lib.hid (O1.out.next O5)
                have E2 := Lib.hid (E1.out.trans (O5.mono E1.out.size))
                clear H5 O5 WI
                have z0 := O2.out.z0
                have z1 := O2.out.z1
                have f0 := frozen_of (j := 0) O2.out
                have f1 := frozen_of (j := 1) O2.out
                go_wp2_with fail
                have R := O2.out.set (a + 1) so
                have r0 := R.c0
                have r1 := R.c1
                rw [show ((a + 1 : Nat) : Int) = ((a : Nat) : Int) + 1 from by omega] at r0 r1
                have BZ := below_set (j := 1) (v := .int .u64 (so : Nat)) (below_set (j := 0) (v := .int .u64 (((a : Nat) : Int) + 1)) E2.out hPN.out) hPN.out
                exact bodyPost_ret (v := .tuple #[v2, .agg #[.int .u64 (((a : Nat) : Int) + 1), .int .u64 (so : Nat)]]) (by simp [results, Tryd.results46, go_sem, r0, r1]) rfl ⟨v2, by rw [EV.out]; rfl, by rw [EV.out]; exact Y2.out.op O2.out (only_op _ _), BZ⟩
              | none =>
                have EV := Lib.hid (NOX.out (src_none hf hg))
                have hA : atV none = -1 := rfl
                have hB0 : ((blk2 K none : Nat) : Int) = 0 := rfl
                rw [hA, hB0]
                have Rz := Mk.out.zero
                have BZ := below_set (j := 1) (v := .int .u64 0) (below_set (j := 0) (v := .int .u64 0) Bw.out hPN.out) hPN.out
                go_wp2_with fail
                exact bodyPost_ret (v := .tuple #[.slice ra l.length rc, .agg #[.int .u64 0, .int .u64 0]]) (by simp [results, Tryd.results46, go_sem, Rz.z0, Rz.z1]) rfl ⟨_, by rw [EV.out]; rfl, by rw [EV.out]; exact Rk.out.op Mk.out (only_op _ _), BZ⟩
  · have EV : Hid (refillP (capN len f) B l C = (l, (0, 0))) := by show _ = _; unfold refillP; rw [if_pos (capN_out (by omega))]
    have gL : (len : Int) ≤ (C : Int) := by omega
    have gL2 : decide ((len : Int) ≤ (C : Int)) = true := by simpa using gL
    generalize refillP (capN len f) B l C = V at *
    go_enter Tryd.func46, Tryd.ntmps46
    go_wp2_with fail
    exact bodyPost_ret (v := .tuple #[.slice ra l.length rc, .agg #[.int .u64 0, .int .u64 0]]) (by simp [results, Tryd.results46, go_sem, z0, z1]) rfl ⟨_, by rw [EV.out]; rfl, by rw [EV.out]; exact R1.out, B1.out⟩
end Go.Proofs.YtkogeeaoppkhkaaDoor
