/-
  Package heart: Refill, Flush, Take, Give: what is asked is done.
-/
import Derived.Test.YtkogeeaoppkhkaaDoorHeart3
namespace Go.Proofs.YtkogeeaoppkhkaaDoor
open Go.RowKit Go.Sort Go.Shelf

theorem andNot_nat (a b : Nat) (ha : a < 18446744073709551616) (hb : b < 18446744073709551616) : bits BinOp.andNot IntKind.u64 (a : Int) (b : Int) = ((Ma.andNotN a b : Nat) : Int) := u64_andNot_nat a b ha hb
theorem or_nat (a b : Nat) (ha : a < 18446744073709551616) (hb : b < 18446744073709551616) : bits BinOp.or IntKind.u64 (a : Int) (b : Int) = ((a ||| b : Nat) : Int) := u64_or_nat a b ha hb
theorem and_nat (a b : Nat) (ha : a < 18446744073709551616) (hb : b < 18446744073709551616) : bits BinOp.and IntKind.u64 (a : Int) (b : Int) = ((a &&& b : Nat) : Int) := u64_and_nat a b ha hb
def capN (len : Nat) (f : Nat → Int) (c : Nat) : Nat := (capI len f (c : Nat)).toNat
theorem capN_le {len : Nat} {f : Nat → Int} (ok : ClsOk len f) (c : Nat) : capN len f c ≤ 64 := by have := capI_bd (k := (c : Nat)) ok; unfold capN; omega
theorem capN_int {len : Nat} {f : Nat → Int} (ok : ClsOk len f) (c : Nat) : capI len f (c : Nat) = ((capN len f c : Nat) : Int) := by have := capI_bd (k := (c : Nat)) ok; unfold capN; omega
/-- Nothing is done, and the answer is zero: the box of the answer is as it was made. -/
theorem only_two {w w1 : World} {b N : Nat} {u v : Value} (h : Only [b] w w1) (hN : w.heap.size ≤ N) : Only [b] w ((w1.setCell ⟨N, 0, none⟩ u).setCell ⟨N, 1, none⟩ v) :=
  h.trans' ((Only.of_set (l := [N]) (by simp) _).trans (Only.of_set (by simp) _)) (by intro k hk; simp at hk; right; omega)
theorem HW.two {w : World} {b N : Nat} {l : List Sb} {r : List Nat} {u v : Value} (h : HW w b l r) (hN : b ≠ N) : HW ((w.setCell ⟨N, 0, none⟩ u).setCell ⟨N, 1, none⟩ v) b l r := ⟨by rw [set_other hN, set_other hN]; exact h.at_, h.ok, h.few⟩
def opV (x : Nat × Nat) : Value := .agg #[.int .u64 (x.1 : Nat), .int .u64 (x.2 : Nat)]

set_option maxRecDepth 20000 in
set_option maxHeartbeats 4000000 in
theorem refill_any (W S T : Int) (B : Nat) (ad : Option Addr) (len cap : Nat) (f : Nat → Int) (C b n c : Nat) (l : List Sb) (r : List Nat) (w : World) (hW : Hid (HW w b l r)) (hn : n = 2 * l.length) (hF : Hid (FldAt w)) (hr : Hid (RowI w ad len f)) (ok : Hid (ClsOk len f)) (hC : C < 4294967296) (hB : B ≤ 64) :
    Calls Tryd.prog 51 #[.agg #[.int .i64 W, .int .i64 S, .int .i64 (B : Nat), .int .i64 T, .slice ad len cap], .slice (some ⟨b, 0, none⟩) n c, .int .i64 (C : Nat)] w fun e w' => e = .returned (opV (refillP (capN len f) B l C).2) ∧ HW w' b (refillP (capN len f) B l C).1 r ∧ Only [b] w w' := by
  subst hn
  obtain ⟨q1, q2, q3, q4⟩ := two_fresh w (.cells #[.int .i64 W, .int .i64 S, .int .i64 (B : Nat), .int .i64 T, .slice ad len cap] 29) (.cells #[.int .u64 0, .int .u64 0] 37)
  have N0 : Hid (HBox _ w.heap.size W S (B : Nat) T (.slice ad len cap)) := q1
  have N1 : Hid (OpBox _ (w.heap.size + 1) 0 0) := q2
  have B0 := Lib.hid q3
  have SZ := Lib.hid q4
  have H1 := Lib.hid (hW.out.next q3)
  have F1 := Lib.hid (hF.out.next q3)
  have R1 := Lib.hid (hr.out.next q3)
  have lb := hW.out.lt
  clear q1 q2 q3 q4
  have hcap := capN_le ok.out C
  have CI := capN_int ok.out C
  have SR := Lib.hid fun w h1 h2 h3 => source_any W S (B : Nat) T ad len cap f C b (2 * l.length) c l r w h1 rfl h2 h3 ok
  have CP := Lib.hid fun w h => cap_any W S (B : Nat) T ad len cap f (C : Nat) w h ok
  rw [CI] at CP
  rw [show (capI len f (C : Nat)).toNat = capN len f C from rfl] at SR
  have HV : Hid (∀ V, V = refillP (capN len f) B l C → V = if capN len f C = 0 then (l, (0, 0)) else match srcP (capN len f C) l C with
    | some (i, m) => (l.set i ⟨1, C, Ma.andNotN m (Ma.leastN m B)⟩, (i + 1, Ma.leastN m B))
    | none => (l, (0, 0))) := fun V h => h
  generalize hVV : refillP (capN len f) B l C = V at *
  have EV := Lib.hid (HV.out V rfl)
  clear HV CI
  have SM : Hid (∀ i m, srcP (capN len f C) l C = some (i, m) → i < l.length ∧ m < 18446744073709551616) := by
    intro i m h
    unfold srcP at h
    split at h
    case h_1 j ej => simp at h; obtain ⟨rfl, rfl⟩ := h; obtain ⟨h3, _⟩ := firstTo_some ej; exact ⟨h3, (hW.out.ok.at (at_of h3)).2.2⟩
    case h_2 =>
      split at h
      case h_1 j ej => simp at h; obtain ⟨rfl, rfl⟩ := h; obtain ⟨h3, _⟩ := firstTo_some ej; exact ⟨h3, Ma.lowN_lt hcap⟩
      · cases h
  have hf := hW.out.few
  generalize capN len f C = K at *
  clear hVV
  go_enter Tryd.func51, Tryd.ntmps51
  have c0 := N0.out.c0
  have c1 := N0.out.c1
  have c2 := N0.out.c2
  have c3 := N0.out.c3
  have c4 := N0.out.c4
  go_wp2_with fail
  generalize (w.alloc (.cells #[.int .i64 W, .int .i64 S, .int .i64 (B : Nat), .int .i64 T, .slice ad len cap] 29)).alloc (.cells #[.int .u64 0, .int .u64 0] 37) = w1 at *
  generalize hN : w.heap.size = N at *
  refine (CP.out _ R1).mono ?_
  rintro e w2 ⟨rfl, hb⟩
  have B2 := Lib.hid (B0.out.trans (hb.mono (by have := SZ.out; omega)))
  have H2 := Lib.hid (H1.out.next hb)
  have F2 := Lib.hid (F1.out.next hb)
  have R2 := Lib.hid (R1.out.next hb)
  have N2 := Lib.hid (N0.out.next hb)
  have M2 := Lib.hid (N1.out.next hb)
  have S2 : Hid (N + 1 < w2.heap.size) := by have := hb.size; have := SZ.out; show _ < _; omega
  clear hb CP N0 N1 H1 F1 R1 B0 SZ c0 c1 c2 c3 c4
  have bN : b ≠ N + 1 := by omega
  by_cases k0 : K = 0
  · have E1 : Hid (V = (l, (0, 0))) := by show _ = _; rw [EV.out, if_pos k0]
    subst k0
    have c0 := M2.out.z0
    have c1 := M2.out.z1
    have f0 := frozen_of (j := 0) M2.out
    have f1 := frozen_of (j := 1) M2.out
    go_wp2_with fail
    have R := M2.out.zero
    refine bodyPost_ret (v := .agg #[.int .u64 0, .int .u64 0]) (by simp [results, Tryd.results51, go_sem, R.z0, R.z1]) rfl ⟨by rw [E1.out]; rfl, by rw [E1.out]; exact H2.out.two bN, only_two (Only.of_below (by rw [hN]; exact B2.out)) (by omega)⟩
  · have EV2 := Lib.hid (EV.out.trans (if_neg k0))
    clear EV
    have k1 : ((K : Int) == 0) = false := by simp; omega
    have c0 := N2.out.c0
    have c1 := N2.out.c1
    have c2 := N2.out.c2
    have c3 := N2.out.c3
    have c4 := N2.out.c4
    go_wp2_with fail
    refine (SR.out _ H2 F2 R2).mono ?_
    rintro e w3 ⟨rfl, hb⟩
    have B3 := Lib.hid (B2.out.trans (hb.mono (by have := S2.out; omega)))
    have H3 := Lib.hid (H2.out.next hb)
    have F3 := Lib.hid (F2.out.next hb)
    have N3 := Lib.hid (N2.out.next hb)
    have M3 := Lib.hid (M2.out.next hb)
    clear hb SR H2 F2 R2 N2 M2 B2 c0 c1 c2 c3 c4
    cases hs : srcP K l C with
    | none =>
      have E1 : Hid (V = (l, (0, 0))) := by show _ = _; rw [EV2.out, hs]
      have sv : srcV none = .tuple #[.int .i64 0, .int .u64 0, .bool false] := rfl
      have c0 := M3.out.z0
      have c1 := M3.out.z1
      have f0 := frozen_of (j := 0) M3.out
      have f1 := frozen_of (j := 1) M3.out
      go_wp2_with fail
      have R := M3.out.zero
      refine bodyPost_ret (v := .agg #[.int .u64 0, .int .u64 0]) (by simp [results, Tryd.results51, go_sem, R.z0, R.z1]) rfl ⟨by rw [E1.out]; rfl, by rw [E1.out]; exact H3.out.two bN, only_two (Only.of_below (by rw [hN]; exact B3.out)) (by omega)⟩
    | some im =>
      obtain ⟨i, m⟩ := im
      obtain ⟨hi, hm⟩ := SM.out i m hs
      have E1 : Hid (V = (l.set i ⟨1, C, Ma.andNotN m (Ma.leastN m B)⟩, (i + 1, Ma.leastN m B))) := by show _ = _; rw [EV2.out, hs]
      have sv : srcV (some (i, m)) = .tuple #[.int .i64 (i : Nat), .int .u64 (m : Nat), .bool true] := rfl
      have LE := Lib.hid fun w h => least_any m (B : Nat) w hm (by omega) h
      rw [show ((B : Nat) : Int).toNat = B from by omega] at LE
      have hL := Ma.leastN_lt m B
      have AN := andNot_nat m (Ma.leastN m B) hm hL
      have hA := Ma.andNotN_lt (Ma.leastN m B) hm
      generalize Ma.leastN m B = Y at *
      generalize Ma.andNotN m Y = Z at *
      have PU := Lib.hid fun w h1 h2 => put_any b (2 * l.length) c i 1 C Z l r w h1 rfl hi (by decide) hC hA h2
      have c2 := N3.out.c2
      have e1 : IntKind.u64.wrap (i : Int) = (i : Int) := by rw [IntKind.wrap_u64]; omega
      have e2 : IntKind.u64.wrap ((i : Int) + 1) = (i : Int) + 1 := by rw [IntKind.wrap_u64]; omega
      go_wp2_with (go_at_call 79; refine (LE.out _ (Lib.hid F3.out.tab)).mono ?_; rintro e w' ⟨rfl, rfl⟩)
      refine (PU.out _ H3 F3).mono ?_
      rintro e w4 ⟨rfl, H4, O4⟩
      have M4 : Hid (OpBox w4 (N + 1) 0 0) := O4.at M3.out (by simp; omega)
      have c0 := M4.out.z0
      have c1 := M4.out.z1
      have f0 := frozen_of (j := 0) M4.out
      have f1 := frozen_of (j := 1) M4.out
      have O5 := Lib.hid O4
      have H5 := Lib.hid H4
      clear O4 H4 M3
      go_wp2_with fail
      have R := M4.out.set (i + 1) Y
      have r0 := R.c0
      have r1 := R.c1
      rw [show ((i + 1 : Nat) : Int) = (i : Int) + 1 from by omega] at r0 r1
      refine bodyPost_ret (v := .agg #[.int .u64 ((i : Int) + 1), .int .u64 Y]) (by simp [results, Tryd.results51, go_sem, r0, r1]) rfl ⟨by rw [E1.out]; rfl, by rw [E1.out]; exact H5.out.two bN, only_two ((Only.of_below (by rw [hN]; exact B3.out)).trans O5.out) (by omega)⟩

end Go.Proofs.YtkogeeaoppkhkaaDoor
