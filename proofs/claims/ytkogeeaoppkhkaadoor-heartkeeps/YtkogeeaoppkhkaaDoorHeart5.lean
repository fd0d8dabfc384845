/-
  Package heart: Flush: blocks of a superblock come back.
-/
import Derived.Test.YtkogeeaoppkhkaaDoorHeart4
namespace Go.Proofs.YtkogeeaoppkhkaaDoor
open Go.RowKit Go.Sort Go.Shelf

theorem OpBox.one {w : World} {N A B : Nat} (h : OpBox w N A B) : OpBox ((w.setCell ⟨N, 0, none⟩ (.int .u64 1)).setCell ⟨N, 1, none⟩ (.int .u64 0)) N 1 0 := h.set 1 0
theorem OpBox.o0 {w : World} {N : Nat} (h : OpBox w N 1 0) : w.cell? ⟨N, 0, none⟩ = some (.int .u64 1) := h.c0
theorem OpBox.o1 {w : World} {N : Nat} (h : OpBox w N 1 0) : w.cell? ⟨N, 1, none⟩ = some (.int .u64 0) := h.c1
theorem capI_neg {len : Nat} {f : Nat → Int} : (capI len f (-1)).toNat = 0 := by
  unfold capI; rw [szI_out (.inl (by omega))]; rfl
theorem andNot_zero {b : Nat} (hb : b < 18446744073709551616) : Ma.andNotN b 0 = b := by
  refine Ma.word_ext (Ma.andNotN_lt _ hb) hb fun i _ => ?_
  rw [Ma.testBit_andNotN hb (by decide)]; simp
theorem flush_no {cap : Nat → Nat} {l : List Sb} {i back : Nat} {s : Sb} (h : l[i]? = some s) (hn : ¬ (s.k = 1 ∧ flushB (Ma.lowN (cap s.n)) s.m back = true)) : flushP cap l i back = (l, (0, 0)) := by
  simp only [flushP, h]; rw [if_neg hn]
theorem flush_none {cap : Nat → Nat} {l : List Sb} {i back : Nat} (h : l[i]? = none) : flushP cap l i back = (l, (0, 0)) := by simp only [flushP, h]
theorem flush_yes {cap : Nat → Nat} {l : List Sb} {i back : Nat} {s : Sb} (h : l[i]? = some s) (hn : s.k = 1 ∧ flushB (Ma.lowN (cap s.n)) s.m back = true) : flushP cap l i back = (l.set i (if s.m ||| back = Ma.lowN (cap s.n) then Sb.none else ⟨1, s.n, s.m ||| back⟩), (1, 0)) := by
  simp only [flushP, h]; rw [if_pos hn]
theorem flushB_iff {all m back : Nat} : flushB all m back = true ↔ back ≠ 0 ∧ Ma.andNotN back all = 0 ∧ back &&& m = 0 := by
  simp [flushB]

set_option maxRecDepth 20000 in
set_option maxHeartbeats 4000000 in
theorem flush_any (W S T B : Int) (ad : Option Addr) (len cap : Nat) (f : Nat → Int) (i back b n c : Nat) (l : List Sb) (r : List Nat) (w : World) (hW : Hid (HW w b l r)) (hn : n = 2 * l.length) (hF : Hid (FldAt w)) (hr : Hid (RowI w ad len f)) (ok : Hid (ClsOk len f)) (hbk : back < 18446744073709551616) :
    Calls Tryd.prog 52 #[.agg #[.int .i64 W, .int .i64 S, .int .i64 B, .int .i64 T, .slice ad len cap], .slice (some ⟨b, 0, none⟩) n c, .int .i64 (i : Nat), .int .u64 (back : Nat)] w fun e w' => e = .returned (opV (flushP (capN len f) l i back).2) ∧ HW w' b (flushP (capN len f) l i back).1 r ∧ Only [b] w w' := by
  subst hn
  have hf := hW.out.few
  obtain ⟨q1, q2, q3, q4⟩ := two_fresh w (.cells #[.int .i64 W, .int .i64 S, .int .i64 B, .int .i64 T, .slice ad len cap] 29) (.cells #[.int .u64 0, .int .u64 0] 37)
  have N0 : Hid (HBox _ w.heap.size W S B T (.slice ad len cap)) := q1
  have N1 : Hid (OpBox _ (w.heap.size + 1) 0 0) := q2
  have B0 := Lib.hid q3
  have SZ := Lib.hid q4
  have H1 := Lib.hid (hW.out.next q3)
  have F1 := Lib.hid (hF.out.next q3)
  have R1 := Lib.hid (hr.out.next q3)
  have lb := hW.out.lt
  clear q1 q2 q3 q4
  have bN : b ≠ w.heap.size + 1 := by omega
  cases hs : l[i]? with
  | none =>
    have E1 := Lib.hid (flush_none (cap := capN len f) (back := back) hs)
    generalize flushP (capN len f) l i back = V at *
    have hl : l.length ≤ i := by simpa using hs
    have AT := Lib.hid fun w => at_out b (2 * l.length) c (i : Nat) w (by omega) (.inr (by omega))
    have AL := Lib.hid fun w h => all5_any W S B T ad len cap f 0 w h ok
    generalize Ma.lowN (capI len f 0).toNat = A at *
    go_enter Tryd.func52, Tryd.ntmps52
    go_wp2_with fail
    generalize (w.alloc (.cells #[.int .i64 W, .int .i64 S, .int .i64 B, .int .i64 T, .slice ad len cap] 29)).alloc (.cells #[.int .u64 0, .int .u64 0] 37) = w1 at *
    generalize hN : w.heap.size = N at *
    refine (AT.out _).mono ?_
    rintro e w3 ⟨rfl, hb⟩
    have B3 := Lib.hid (B0.out.trans (hb.mono (by have := SZ.out; omega)))
    have H3 := Lib.hid (H1.out.next hb)
    have F3 := Lib.hid (F1.out.next hb)
    have R3 := Lib.hid (R1.out.next hb)
    have N3 := Lib.hid (N0.out.next hb)
    have M3 := Lib.hid (N1.out.next hb)
    have S3 : Hid (N + 1 < w3.heap.size) := by have := hb.size; have := SZ.out; show _ < _; omega
    clear hb AT N0 N1 H1 F1 R1 B0 SZ
    have B4 := Lib.hid (B3.out.trans ((box1 w3 (.cells #[.bool false, .int .i64 0, .int .i64 0, .int .u64 0] 88)).mono (by have := S3.out; omega)))
    have Q4 : Hid (SupBox _ w3.heap.size false 0 0 0) := heap_new w3 (.cells #[.bool false, .int .i64 0, .int .i64 0, .int .u64 0] 88)
    have x4 := Lib.hid (box1 w3 (.cells #[.bool false, .int .i64 0, .int .i64 0, .int .u64 0] 88))
    have H4 := Lib.hid (H3.out.next x4.out)
    have F4 := Lib.hid (F3.out.next x4.out)
    have R4 := Lib.hid (R3.out.next x4.out)
    have N4 := Lib.hid (N3.out.next x4.out)
    have M4 := Lib.hid (M3.out.next x4.out)
    have d0 := N4.out.c0
    have d1 := N4.out.c1
    have d2 := N4.out.c2
    have d3 := N4.out.c3
    have d4 := N4.out.c4
    have S4 : Hid (N + 1 < (w3.alloc (.cells #[.bool false, .int .i64 0, .int .i64 0, .int .u64 0] 88)).heap.size) := by have := S3.out; have := x4.out.size; show _ < _; omega
    go_wp2_with fail
    generalize w3.alloc (.cells #[.bool false, .int .i64 0, .int .i64 0, .int .u64 0] 88) = w4 at *
    generalize w3.heap.size = P at *
    refine (AL.out _ R4).mono ?_
    rintro e w5 ⟨rfl, hb⟩
    have B5 := Lib.hid (B4.out.trans (hb.mono (by have := S4.out; omega)))
    have H5 := Lib.hid (H4.out.next hb)
    have F5 := Lib.hid (F4.out.next hb)
    have M5 := Lib.hid (M4.out.next hb)
    have Q5 := Lib.hid (Q4.out.next hb)
    clear hb B4 Q4 H4 F4 R4 N4 M4 H3 F3 R3 N3 M3 B3 x4
    have q1 := Q5.out.c1
    have q3 := Q5.out.c3
    clear d0 d1 d2 d3 d4
    have c0 := M5.out.z0
    have c1 := M5.out.z1
    have f0 := frozen_of (j := 0) M5.out
    have f1 := frozen_of (j := 1) M5.out
    go_wp2_with fail
    have R := M5.out.zero
    exact bodyPost_ret (v := .agg #[.int .u64 0, .int .u64 0]) (by simp [results, Tryd.results52, go_sem, R.z0, R.z1]) rfl ⟨by rw [E1.out]; rfl, by rw [E1.out]; exact H5.out.two bN, only_two (Only.of_below (by rw [hN]; exact B5.out)) (by omega)⟩
  | some s =>
    have hl : i < l.length := (List.getElem?_eq_some_iff.1 hs).1
    have sm : supM s < 18446744073709551616 := by have := (hW.out.ok.at hs).2.2; unfold supM; split <;> omega
    have sn : s.n < 4294967296 := (hW.out.ok.at hs).2.1
    have AT := Lib.hid fun w h1 h2 => at_in b (2 * l.length) c i s l r w h1 rfl (Lib.hid hs) h2
    have AL := Lib.hid fun w h => all5_any W S B T ad len cap f (supC s) w h ok
    have hA : Ma.lowN (capI len f (supC s)).toNat < 18446744073709551616 := Ma.lowN_lt (by have := capI_bd (k := supC s) ok.out; omega)
    have ANO := Lib.hid fun (h : ¬ (s.k = 1 ∧ flushB (Ma.lowN (capN len f s.n)) s.m back = true)) => flush_no (cap := capN len f) hs h
    have AYE := Lib.hid fun (h : s.k = 1 ∧ flushB (Ma.lowN (capN len f s.n)) s.m back = true) => flush_yes (cap := capN len f) hs h
    have K1 : Hid (s.k = 1 → Ma.lowN (capI len f (supC s)).toNat = Ma.lowN (capN len f s.n) ∧ supM s = s.m ∧ supC s = (s.n : Int)) := fun h => by simp [supC, supM, h, capN]
    have K0 : Hid (¬ s.k = 1 → Ma.lowN (capI len f (supC s)).toNat = 0) := fun h => by
      have : supC s = -1 := by simp [supC, h]
      rw [this, capI_neg]; rfl
    generalize flushP (capN len f) l i back = V at *
    generalize Ma.lowN (capI len f (supC s)).toNat = A at *
    have Z := supV_eq s
    go_enter Tryd.func52, Tryd.ntmps52
    go_wp2_with fail
    generalize (w.alloc (.cells #[.int .i64 W, .int .i64 S, .int .i64 B, .int .i64 T, .slice ad len cap] 29)).alloc (.cells #[.int .u64 0, .int .u64 0] 37) = w1 at *
    generalize hN : w.heap.size = N at *
    refine (AT.out _ H1 F1).mono ?_
    rintro e w3 ⟨rfl, hb⟩
    have B3 := Lib.hid (B0.out.trans (hb.mono (by have := SZ.out; omega)))
    have H3 := Lib.hid (H1.out.next hb)
    have F3 := Lib.hid (F1.out.next hb)
    have R3 := Lib.hid (R1.out.next hb)
    have N3 := Lib.hid (N0.out.next hb)
    have M3 := Lib.hid (N1.out.next hb)
    have S3 : Hid (N + 1 < w3.heap.size) := by have := hb.size; have := SZ.out; show _ < _; omega
    clear hb AT N0 N1 H1 F1 R1 B0 SZ
    have B4 := Lib.hid (B3.out.trans ((box1 w3 (.cells #[.bool (supF s), .int .i64 (supC s), .int .i64 (supR s), .int .u64 (supM s : Nat)] 88)).mono (by have := S3.out; omega)))
    have Q4 : Hid (SupBox _ w3.heap.size (supF s) (supC s) (supR s) (supM s : Nat)) := heap_new w3 (.cells #[.bool (supF s), .int .i64 (supC s), .int .i64 (supR s), .int .u64 (supM s : Nat)] 88)
    have x4 := Lib.hid (box1 w3 (.cells #[.bool (supF s), .int .i64 (supC s), .int .i64 (supR s), .int .u64 (supM s : Nat)] 88))
    have H4 := Lib.hid (H3.out.next x4.out)
    have F4 := Lib.hid (F3.out.next x4.out)
    have R4 := Lib.hid (R3.out.next x4.out)
    have N4 := Lib.hid (N3.out.next x4.out)
    have M4 := Lib.hid (M3.out.next x4.out)
    have d0 := N4.out.c0
    have d1 := N4.out.c1
    have d2 := N4.out.c2
    have d3 := N4.out.c3
    have d4 := N4.out.c4
    have S4 : Hid (N + 1 < (w3.alloc (.cells #[.bool (supF s), .int .i64 (supC s), .int .i64 (supR s), .int .u64 (supM s : Nat)] 88)).heap.size) := by have := S3.out; have := x4.out.size; show _ < _; omega
    go_wp2_with fail
    generalize w3.alloc (.cells #[.bool (supF s), .int .i64 (supC s), .int .i64 (supR s), .int .u64 (supM s : Nat)] 88) = w4 at *
    generalize w3.heap.size = P at *
    refine (AL.out _ R4).mono ?_
    rintro e w5 ⟨rfl, hb⟩
    have B5 := Lib.hid (B4.out.trans (hb.mono (by have := S4.out; omega)))
    have H5 := Lib.hid (H4.out.next hb)
    have F5 := Lib.hid (F4.out.next hb)
    have M5 := Lib.hid (M4.out.next hb)
    have Q5 := Lib.hid (Q4.out.next hb)
    clear hb B4 Q4 H4 F4 R4 N4 M4 H3 F3 R3 N3 M3 B3 x4
    have q1 := Q5.out.c1
    have q3 := Q5.out.c3
    clear d0 d1 d2 d3 d4
    by_cases h0 : back = 0
    · have E1 := Lib.hid (ANO.out (by rw [flushB_iff]; rintro ⟨_, h, _⟩; exact h h0))
      subst h0
      have c0 := M5.out.z0
      have c1 := M5.out.z1
      have f0 := frozen_of (j := 0) M5.out
      have f1 := frozen_of (j := 1) M5.out
      go_wp2_with fail
      have R := M5.out.zero
      exact bodyPost_ret (v := .agg #[.int .u64 0, .int .u64 0]) (by simp [results, Tryd.results52, go_sem, R.z0, R.z1]) rfl ⟨by rw [E1.out]; rfl, by rw [E1.out]; exact H5.out.two bN, only_two (Only.of_below (by rw [hN]; exact B5.out)) (by omega)⟩
    have g0 : ((back : Int) == 0) = false := by simp; omega
    have ANN := andNot_nat back A hbk hA
    by_cases h1 : Ma.andNotN back A = 0
    case neg =>
      have g1 : (((Ma.andNotN back A : Nat) : Int) == 0) = false := by simp; omega
      have E1 := Lib.hid (ANO.out (by rw [flushB_iff]; rintro ⟨hk, _, h, _⟩; rw [← (K1.out hk).1] at h; exact h1 h))
      generalize Ma.andNotN back A = X at *
      have c0 := M5.out.z0
      have c1 := M5.out.z1
      have f0 := frozen_of (j := 0) M5.out
      have f1 := frozen_of (j := 1) M5.out
      go_wp2_with fail
      have R := M5.out.zero
      exact bodyPost_ret (v := .agg #[.int .u64 0, .int .u64 0]) (by simp [results, Tryd.results52, go_sem, R.z0, R.z1]) rfl ⟨by rw [E1.out]; rfl, by rw [E1.out]; exact H5.out.two bN, only_two (Only.of_below (by rw [hN]; exact B5.out)) (by omega)⟩
    have ANM := and_nat back (supM s) hbk sm
    by_cases h2 : back &&& supM s = 0
    case neg =>
      have g2 : (((back &&& supM s : Nat) : Int) == 0) = false := by simp; omega
      have E1 := Lib.hid (ANO.out (by rw [flushB_iff]; rintro ⟨hk, _, _, h⟩; rw [← (K1.out hk).2.1] at h; exact h2 h))
      rw [h1] at ANN
      generalize back &&& supM s = X at *
      have c0 := M5.out.z0
      have c1 := M5.out.z1
      have f0 := frozen_of (j := 0) M5.out
      have f1 := frozen_of (j := 1) M5.out
      go_wp2_with fail
      have R := M5.out.zero
      exact bodyPost_ret (v := .agg #[.int .u64 0, .int .u64 0]) (by simp [results, Tryd.results52, go_sem, R.z0, R.z1]) rfl ⟨by rw [E1.out]; rfl, by rw [E1.out]; exact H5.out.two bN, only_two (Only.of_below (by rw [hN]; exact B5.out)) (by omega)⟩
    have hk : s.k = 1 := by
      false_or_by_contra
      rename_i hk
      rw [K0.out hk, andNot_zero hbk] at h1
      exact h0 h1
    obtain ⟨e1, e2, e3⟩ := K1.out hk
    have E1 := Lib.hid (AYE.out ⟨hk, by rw [flushB_iff, ← e1, ← e2]; exact ⟨h0, h1, h2⟩⟩)
    rw [h1] at ANN
    rw [h2] at ANM
    have ORN := or_nat (supM s) back sm hbk
    have hO := Ma.or_lt sm hbk
    rw [← e1, ← e2] at E1
    have e4 := Lib.hid e3
    clear e1 e2 e3
    generalize hO' : supM s ||| back = O at *
    have OA : ((O : Int) == (A : Int)) = decide (O = A) := by rw [Bool.eq_iff_iff]; simp; omega
    by_cases h3 : O = A
    · have g3 : ((O : Int) == (A : Int)) = true := by simp [h3]
      have g4 : ((A : Int) == (A : Int)) = true := by simp
      have E2 : Hid (V = (l.set i Sb.none, (1, 0))) := by show _ = _; rw [E1.out, if_pos h3]
      have PU := Lib.hid fun w h1 h2 => put_any b (2 * l.length) c i 0 0 0 l r w h1 rfl hl (by decide) (by decide) (by decide) h2
      subst h3
      go_wp2_with fail
      refine (PU.out _ H5 F5).mono ?_
      rintro e w6 ⟨rfl, H6, O6⟩
      have M6 : Hid (OpBox w6 (N + 1) 0 0) := O6.at M5.out (by simp; omega)
      have c0 := M6.out.z0
      have c1 := M6.out.z1
      have f0 := frozen_of (j := 0) M6.out
      have f1 := frozen_of (j := 1) M6.out
      have O7 := Lib.hid O6
      have H7 := Lib.hid H6
      clear O6 H6 M5
      go_wp2_with fail
      have R := M6.out.one
      exact bodyPost_ret (v := .agg #[.int .u64 1, .int .u64 0]) (by simp [results, Tryd.results52, go_sem, R.o0, R.o1]) rfl ⟨by rw [E2.out]; rfl, by rw [E2.out]; exact H7.out.two bN, only_two ((Only.of_below (by rw [hN]; exact B5.out)).trans O7.out) (by omega)⟩
    · have g3 : ((O : Int) == (A : Int)) = false := by simp; omega
      have E2 : Hid (V = (l.set i ⟨1, s.n, O⟩, (1, 0))) := by show _ = _; rw [E1.out, if_neg h3]
      have PU := Lib.hid fun w h1 h2 => put_any b (2 * l.length) c i 1 s.n O l r w h1 rfl hl (by decide) sn hO h2
      rw [e4.out] at q1
      go_wp2_with fail
      refine (PU.out _ H5 F5).mono ?_
      rintro e w6 ⟨rfl, H6, O6⟩
      have M6 : Hid (OpBox w6 (N + 1) 0 0) := O6.at M5.out (by simp; omega)
      have c0 := M6.out.z0
      have c1 := M6.out.z1
      have f0 := frozen_of (j := 0) M6.out
      have f1 := frozen_of (j := 1) M6.out
      have O7 := Lib.hid O6
      have H7 := Lib.hid H6
      clear O6 H6 M5
      go_wp2_with fail
      have R := M6.out.one
      exact bodyPost_ret (v := .agg #[.int .u64 1, .int .u64 0]) (by simp [results, Tryd.results52, go_sem, R.o0, R.o1]) rfl ⟨by rw [E2.out]; rfl, by rw [E2.out]; exact H7.out.two bN, only_two ((Only.of_below (by rw [hN]; exact B5.out)).trans O7.out) (by omega)⟩
end Go.Proofs.YtkogeeaoppkhkaaDoor
