/-
  Package heart: Take and Give: runs of superblocks.
-/
import Derived.Test.YtkogeeaoppkhkaaDoorHeart5
namespace Go.Proofs.YtkogeeaoppkhkaaDoor
open Go.RowKit Go.Sort Go.Shelf

set_option maxRecDepth 20000 in
set_option maxHeartbeats 4000000 in
theorem take_any (N b n c : Nat) (l : List Sb) (r : List Nat) (w : World) (hW : Hid (HW w b l r)) (hn : n = 2 * l.length) (hF : Hid (FldAt w)) (hN : N < 4294967296) (hb3 : 3 ≤ b) :
    Calls Tryd.prog 53 #[.slice (some ⟨b, 0, none⟩) n c, .int .i64 (N : Nat)] w fun e w' => e = .returned (opV (takeP l N).2) ∧ HW w' b (takeP l N).1 r ∧ Only [b] w w' := by
  subst hn
  have hf := hW.out.few
  have N0 := Lib.hid (OpBox.new w)
  have B0 := Lib.hid (box1 w (.cells #[.int .u64 0, .int .u64 0] 37))
  have H1 := Lib.hid (hW.out.next B0.out)
  have F1 := Lib.hid (hF.out.next B0.out)
  have lb := hW.out.lt
  have AF := Lib.hid (allFree_any b (2 * l.length) c l r _ H1 rfl F1)
  have hX := thoseTo_lt isFree l l.length hf
  have SZ : Hid ((w.alloc (.cells #[.int .u64 0, .int .u64 0] 37)).heap.size = w.heap.size + 1) := by show _ = _; simp
  have bN : b ≠ w.heap.size := by omega
  have GO : Hid (N ≠ 0 → ∀ a, rowTo' l N l.length = some a → ∀ w, Calls Tryd.prog 83 #[.int .u64 (thoseTo isFree l l.length : Nat), .int .i64 (N : Nat)] w fun e w' => e = .returned (.tuple #[.int .i64 (a : Nat), .bool true]) ∧ w = w') := fun h0 a ha w => by
    obtain ⟨r1, r2, r3⟩ := rowTo_some ha
    have r4 := freeRow_iff.1 r2
    exact run_found _ N a w hX (by omega) (by omega) (by rw [isRow_free (by omega)]; exact r2) (Lib.hid fun k hk => by rw [isRow_free (by omega)]; exact r3 k hk)
  have NO : Hid (N = 0 ∨ rowTo' l N l.length = none → ∀ w, Calls Tryd.prog 83 #[.int .u64 (thoseTo isFree l l.length : Nat), .int .i64 (N : Nat)] w fun e w' => e = .returned (.tuple #[.int .i64 0, .bool false]) ∧ w = w') := fun h w => by
    by_cases h0 : N = 0
    · exact run_few _ _ w (by omega)
    · by_cases h1 : N ≤ 64
      · refine run_none _ N w hX (by omega) h1 (Lib.hid fun k hk => ?_)
        rw [isRow_free (by omega)]
        by_cases hkl : k < l.length
        · exact rowTo_no (h.resolve_left h0) k hkl
        · rw [Bool.eq_false_iff]; intro h2; have := (freeRow_iff.1 h2).1; omega
      · exact run_many _ _ w (by omega) (by omega)
  generalize thoseTo isFree l l.length = X at *
  by_cases h0 : N = 0 ∨ rowTo' l N l.length = none
  · have E1 : Hid (takeP l N = (l, (0, 0))) := by
      show _ = _
      unfold takeP
      split
      · rfl
      case isFalse h1 => rw [h0.resolve_left h1]
    have RU := Lib.hid (NO.out h0)
    generalize takeP l N = V at *
    clear GO NO
    go_enter Tryd.func53, Tryd.ntmps53
    go_wp2_with fail
    generalize w.alloc (.cells #[.int .u64 0, .int .u64 0] 37) = w1 at *
    refine AF.out.mono ?_
    rintro e w2 ⟨rfl, hb⟩
    have B2 := Lib.hid (B0.out.trans (hb.mono (by have := SZ.out; omega)))
    have H2 := Lib.hid (H1.out.next hb)
    have M2 := Lib.hid (N0.out.next hb)
    have c0 := M2.out.z0
    have c1 := M2.out.z1
    have f0 := frozen_of (j := 0) M2.out
    have f1 := frozen_of (j := 1) M2.out
    clear hb
    go_wp2_with (go_at_call 83; refine (RU.out _).mono ?_; rintro e w' ⟨rfl, rfl⟩)
    have R := M2.out.zero
    exact bodyPost_ret (v := .agg #[.int .u64 0, .int .u64 0]) (by simp [results, Tryd.results53, go_sem, R.z0, R.z1]) rfl ⟨by rw [E1.out]; rfl, by rw [E1.out]; exact H2.out.two bN, only_two (Only.of_below B2.out) (by omega)⟩
  · have h1 : N ≠ 0 := fun h => h0 (.inl h)
    cases ha : rowTo' l N l.length with
    | none => exact absurd (.inr ha) h0
    | some a =>
      have RU := Lib.hid (GO.out h1 a ha)
      have E1 : Hid (takeP l N = (runP l a N (N - 1), (a + 1, 0))) := by show _ = _; unfold takeP; rw [if_neg h1, ha]
      have r4 := freeRow_iff.1 (rowTo_some ha).2.1
      have ha1 : a + N ≤ l.length := r4.1
      generalize takeP l N = V at *
      clear GO NO r4 h0
      have PU := Lib.hid fun w h1 h2 => put_any b (2 * l.length) c a 2 N 0 l r w h1 rfl (by omega) (by decide) hN (by decide) h2
      go_enter Tryd.func53, Tryd.ntmps53
      go_wp2_with fail
      generalize w.alloc (.cells #[.int .u64 0, .int .u64 0] 37) = w1 at *
      generalize hP : w.heap.size = P at *
      refine AF.out.mono ?_
      rintro e w2 ⟨rfl, hb⟩
      have B2 := Lib.hid (B0.out.trans (hb.mono (by have := SZ.out; omega)))
      have H2 := Lib.hid (H1.out.next hb)
      have F2 := Lib.hid (F1.out.next hb)
      have M2 := Lib.hid (N0.out.next hb)
      have S2 : Hid (P < w2.heap.size) := by have := hb.size; have := SZ.out; show _ < _; omega
      clear hb N0 B0 H1 F1 AF SZ
      go_wp2_with (go_at_call 83; refine (RU.out _).mono ?_; rintro e w' ⟨rfl, rfl⟩)
      refine (PU.out _ H2 F2).mono ?_
      rintro e w3 ⟨rfl, H3, O3⟩
      have E0 : Hid (runP l a N 0 = l.set a ⟨2, N, 0⟩) := rfl
      have H3' := Lib.hid H3
      have O3' : Hid (Only [b] w2 w3) := O3
      clear H3 O3 PU
      go_wp2_with fail
      go_loopw [7] (fun u wr => ∃ k : Nat, k < N ∧ u = .int .i64 ((k + 1 : Nat) : Int) ∧ Hid (HW wr b (runP l a N k) r) ∧ Hid (Only [b] w2 wr)) (fun u _ => N - (intOf u).toNat)
      case atStart =>
        exact ⟨0, by omega, rfl, by rw [E0.out]; exact H3', O3'⟩
      case round =>
        obtain ⟨k, hk, rfl, Hk, Ok⟩ := hrel
        by_cases hk1 : k + 1 < N
        · have g1 : ((k : Int) + 1 < (N : Int)) := by omega
          have g2 : decide ((k : Int) + 1 < (N : Int)) = true := by simpa using g1
          have wa : IntKind.i64.wrap ((a : Int) + ((k : Int) + 1)) = ((a + (k + 1) : Nat) : Int) := by rw [IntKind.wrap_i64]; omega
          have wb : IntKind.i64.wrap ((k : Int) + 1 + 1) = ((k + 1 + 1 : Nat) : Int) := by rw [IntKind.wrap_i64]; omega
          have P2 := Lib.hid fun w h1 h2 => put_any b (2 * l.length) c (a + (k + 1)) 3 0 0 (runP l a N k) r w h1 (by rw [runP_len]) (by rw [runP_len]; omega) (by decide) (by decide) (by decide) h2
          have Fr := Lib.hid (F2.out.stay Ok.out (by simpa using hb3))
          go_wp2_with fail
          rw [show ((a + (k + 1) : Nat) : Int) = (a : Int) + ((k : Int) + 1) from by omega] at P2
          refine (P2.out _ Hk Fr).mono ?_
          rintro e w5 ⟨rfl, H5, O5⟩
          have Hk2 : Hid (HW w5 b (runP l a N (k + 1)) r) := H5
          have Ok2 : Hid (Only [b] w2 w5) := Ok.out.trans O5
          clear H5 O5 Hk Ok Fr P2
          go_wp2_with fail
          go_roundw
          case rel => exact ⟨k + 1, by omega, by push_cast; rfl, Hk2, Ok2⟩
          case measure => simp [intOf]; omega
        · obtain rfl : N = k + 1 := by omega
          have e1 : IntKind.u64.wrap (a : Int) = (a : Int) := by rw [IntKind.wrap_u64]; omega
          have e2 : IntKind.u64.wrap ((a : Int) + 1) = (a : Int) + 1 := by rw [IntKind.wrap_u64]; omega
          have M3 : Hid (OpBox wr P 0 0) := Ok.out.at M2.out (by simp; omega)
          have c0 := M3.out.z0
          have c1 := M3.out.z1
          have f0 := frozen_of (j := 0) M3.out
          have f1 := frozen_of (j := 1) M3.out
          go_wp2_with fail
          have R := M3.out.set (a + 1) 0
          have r0 := R.c0
          have r1 := R.c1
          rw [show ((a + 1 : Nat) : Int) = (a : Int) + 1 from by omega, show ((0 : Nat) : Int) = 0 from rfl] at r0 r1
          refine bodyPost_ret (v := .agg #[.int .u64 ((a : Int) + 1), .int .u64 0]) (by simp [results, Tryd.results53, go_sem, r0, r1]) rfl ⟨by rw [E1.out]; rfl, by rw [E1.out]; exact Hk.out.two bN, only_two ((Only.of_below (by rw [hP]; exact B2.out)).trans Ok.out) (by omega)⟩
theorem give_no {l : List Sb} {i : Nat} (h : ∀ s, l[i]? = some s → supR s ≤ 0) : giveP l i = (l, (0, 0)) := by
  unfold giveP
  split
  case h_1 s hs =>
    rw [if_neg]
    rintro ⟨h1, h2⟩
    have := h s hs
    simp [supR, h1] at this
    omega
  · rfl
theorem give_yes {l : List Sb} {i : Nat} {s : Sb} (h : l[i]? = some s) (h2 : 0 < supR s) : giveP l i = (clearP l i (min s.n (l.length - i)), (1, 0)) ∧ supR s = (s.n : Int) := by
  have hk : s.k = 2 := by
    false_or_by_contra
    rename_i hk
    unfold supR at h2
    rw [if_neg hk] at h2
    split at h2 <;> omega
  have e : supR s = (s.n : Int) := by simp [supR, hk]
  rw [e] at h2
  refine ⟨?_, e⟩
  simp only [giveP, h]
  rw [if_pos ⟨hk, by omega⟩]
set_option maxRecDepth 20000 in
set_option maxHeartbeats 4000000 in
theorem give_any (i b n c : Nat) (l : List Sb) (r : List Nat) (w : World) (hW : Hid (HW w b l r)) (hn : n = 2 * l.length) (hF : Hid (FldAt w)) (hi : i < 4294967296) (hb3 : 3 ≤ b) :
    Calls Tryd.prog 54 #[.slice (some ⟨b, 0, none⟩) n c, .int .i64 (i : Nat)] w fun e w' => e = .returned (opV (giveP l i).2) ∧ HW w' b (giveP l i).1 r ∧ Only [b] w w' := by
  subst hn
  have hf := hW.out.few
  have N0 := Lib.hid (OpBox.new w)
  have B0 := Lib.hid (box1 w (.cells #[.int .u64 0, .int .u64 0] 37))
  have H1 := Lib.hid (hW.out.next B0.out)
  have F1 := Lib.hid (hF.out.next B0.out)
  have lb := hW.out.lt
  have SZ : Hid ((w.alloc (.cells #[.int .u64 0, .int .u64 0] 37)).heap.size = w.heap.size + 1) := by show _ = _; simp
  have bN : b ≠ w.heap.size := by omega
  obtain ⟨s, o, AT, hE⟩ : ∃ (s : Sb) (o : Bool), Hid (∀ w, HW w b l r → FldAt w → ∃ v0 v1 v3, Calls Tryd.prog 43 #[.slice (some ⟨b, 0, none⟩) (2 * l.length) c, .int .i64 (i : Nat)] w fun e w' => e = .returned (.tuple #[.agg #[.bool v0, .int .i64 v1, .int .i64 (supR s), .int .u64 v3], .bool o]) ∧ Below w.heap.size w w') ∧ ((supR s ≤ 0 ∧ giveP l i = (l, (0, 0))) ∨ (0 < supR s ∧ i < l.length ∧ supR s = (s.n : Int) ∧ s.n < 4294967296 ∧ giveP l i = (clearP l i (min s.n (l.length - i)), (1, 0)))) := by
    cases hs : l[i]? with
    | none =>
      have hl : l.length ≤ i := by simpa using hs
      refine ⟨Sb.none, false, fun w _ _ => ⟨false, 0, 0, at_out b (2 * l.length) c (i : Nat) w (by omega) (.inr (by omega))⟩, .inl ⟨by decide, give_no (by rw [hs]; intro s h; cases h)⟩⟩
    | some s =>
      refine ⟨s, true, fun w h1 h2 => ⟨supF s, supC s, (supM s : Nat), at_in b (2 * l.length) c i s l r w (Lib.hid h1) rfl (Lib.hid hs) (Lib.hid h2)⟩, ?_⟩
      by_cases h0 : 0 < supR s
      · obtain ⟨h1, h2⟩ := give_yes hs h0
        exact .inr ⟨h0, (List.getElem?_eq_some_iff.1 hs).1, h2, (hW.out.ok.at hs).2.1, h1⟩
      · exact .inl ⟨by omega, give_no (by rw [hs]; intro s' h; cases h; omega)⟩
  generalize hVV : giveP l i = V at *
  obtain ⟨v0, v1, v3, CA⟩ := AT.out _ H1.out F1.out
  have CA2 := Lib.hid CA
  clear CA AT
  generalize supR s = Q at *
  go_enter Tryd.func54, Tryd.ntmps54
  go_wp2_with fail
  generalize w.alloc (.cells #[.int .u64 0, .int .u64 0] 37) = w1 at *
  generalize hP : w.heap.size = P at *
  refine CA2.out.mono ?_
  rintro e w2 ⟨rfl, hb⟩
  have B2 := Lib.hid (B0.out.trans (hb.mono (by have := SZ.out; omega)))
  have H2 := Lib.hid (H1.out.next hb)
  have F2 := Lib.hid (F1.out.next hb)
  have M2 := Lib.hid (N0.out.next hb)
  have S2 : Hid (P < w2.heap.size) := by have := hb.size; have := SZ.out; show _ < _; omega
  clear hb N0 B0 H1 F1 SZ CA2
  have x2 := Lib.hid (box1 w2 (.cells #[.bool v0, .int .i64 v1, .int .i64 Q, .int .u64 v3] 88))
  have Q3 : Hid (SupBox _ w2.heap.size v0 v1 Q v3) := heap_new w2 (.cells #[.bool v0, .int .i64 v1, .int .i64 Q, .int .u64 v3] 88)
  have B3 := Lib.hid (B2.out.trans (x2.out.mono (by have := S2.out; omega)))
  have H3 := Lib.hid (H2.out.next x2.out)
  have F3 := Lib.hid (F2.out.next x2.out)
  have M3 := Lib.hid (M2.out.next x2.out)
  have bQ : b ≠ w2.heap.size := by have := H2.out.lt; omega
  have PQ : P ≠ w2.heap.size := by have := S2.out; omega
  rcases hE with ⟨hq, hV⟩ | ⟨hq, hl, hQ, hs, hV⟩
  · have HV := Lib.hid hV
    have g1 : decide (Q ≤ 0) = true := by simpa using hq
    have c0 := M3.out.z0
    have c1 := M3.out.z1
    have f0 := frozen_of (j := 0) M3.out
    have f1 := frozen_of (j := 1) M3.out
    go_wp2_with fail
    have R := M3.out.zero
    exact bodyPost_ret (v := .agg #[.int .u64 0, .int .u64 0]) (by simp [results, Tryd.results54, go_sem, R.z0, R.z1]) rfl ⟨by rw [HV.out]; rfl, by rw [HV.out]; exact H3.out.two bN, only_two (Only.of_below (by rw [hP]; exact B3.out)) (by omega)⟩
  · have HV := Lib.hid hV
    clear hV
    have g0 : ¬ Q ≤ 0 := by omega
    have g1 : decide (Q ≤ 0) = false := by simpa using g0
    generalize s.n = Z at *
    have wz : IntKind.i64.wrap ((i : Int) + Q) = (i : Int) + Q := by rw [IntKind.wrap_i64]; omega
    have hQ' := Lib.hid hQ
    clear hQ
    go_wp2_with fail
    generalize w2.alloc (.cells #[.bool v0, .int .i64 v1, .int .i64 Q, .int .u64 v3] 88) = w3 at *
    generalize w2.heap.size = P2 at *
    clear x2 B2 H2 F2 M2 S2
    have hM : min Z (l.length - i) ≤ Z ∧ min Z (l.length - i) ≤ l.length - i ∧ (min Z (l.length - i) = Z ∨ min Z (l.length - i) = l.length - i) := by omega
    generalize min Z (l.length - i) = M at *
    go_loopw [7] (fun u wr => ∃ k : Nat, k ≤ M ∧ u = .int .i64 ((i + k : Nat) : Int) ∧ Hid (HW wr b (clearP l i k) r) ∧ Hid (Only [b] w3 wr)) (fun u _ => i + M - (intOf u).toNat)
    case atStart =>
      exact ⟨0, by omega, rfl, H3, Lib.hid (Only.refl _ _)⟩
    case round =>
      obtain ⟨k, hk, rfl, Hk, Ok⟩ := hrel
      have Qk : Hid (SupBox wr P2 v0 v1 Q v3) := Ok.out.at Q3.out (by simp; omega)
      have d2 := Qk.out.c2
      by_cases hk1 : k < M
      · have g2 : decide ((i : Int) + (k : Int) < min ((i : Int) + Q) (l.length : Int)) = true := by have := hQ'.out; simp; omega
        have g3 : (i : Int) + (k : Int) < min ((i : Int) + Q) (l.length : Int) := by have := hQ'.out; omega
        have wb : IntKind.i64.wrap ((i : Int) + (k : Int) + 1) = (i : Int) + (k : Int) + 1 := by rw [IntKind.wrap_i64]; omega
        have P3 := Lib.hid fun w h1 h2 => put_any b (2 * l.length) c (i + k) 0 0 0 (clearP l i k) r w h1 (by rw [clearP_len]) (by rw [clearP_len]; omega) (by decide) (by decide) (by decide) h2
        have Fr := Lib.hid (F3.out.stay Ok.out (by simpa using hb3))
        rw [show ((i + k : Nat) : Int) = (i : Int) + (k : Int) from by omega] at P3
        go_wp2_with fail
        all_goals
          refine (P3.out _ Hk Fr).mono ?_
          rintro e w5 ⟨rfl, H5, O5⟩
          have Hk2 : Hid (HW w5 b (clearP l i (k + 1)) r) := H5
          have Ok2 : Hid (Only [b] w3 w5) := Ok.out.trans O5
          clear H5 O5 Hk Ok Fr P3 Qk d2
          go_wp2_with fail
          go_roundw
          case rel => exact ⟨k + 1, by omega, by push_cast; rw [Int.add_assoc], Hk2, Ok2⟩
          case measure => simp [intOf]; omega
      · obtain rfl : k = M := by omega
        have g3 : ¬ (i : Int) + (k : Int) < min ((i : Int) + Q) (l.length : Int) := by have := hQ'.out; omega
        have g2 : decide ((i : Int) + (k : Int) < min ((i : Int) + Q) (l.length : Int)) = false := by simpa using g3
        have M4 : Hid (OpBox wr P 0 0) := Ok.out.at M3.out (by simp; omega)
        have c0 := M4.out.z0
        have c1 := M4.out.z1
        have f0 := frozen_of (j := 0) M4.out
        have f1 := frozen_of (j := 1) M4.out
        go_wp2_with fail
        all_goals
          have R := M4.out.one
          exact bodyPost_ret (v := .agg #[.int .u64 1, .int .u64 0]) (by simp [results, Tryd.results54, go_sem, R.o0, R.o1]) rfl ⟨by rw [HV.out]; rfl, by rw [HV.out]; exact Hk.out.two bN, only_two ((Only.of_below (by rw [hP]; exact B3.out)).trans Ok.out) (by omega)⟩
end Go.Proofs.YtkogeeaoppkhkaaDoor
