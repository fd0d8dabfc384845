/-
  Package heart: New, Words, Apply.
-/
import Derived.Test.YtkogeeaoppkhkaaDoorHeart6
import Derived.Test.YtkogeeaoppkhkaaDoorConfM
namespace Go.Proofs.YtkogeeaoppkhkaaDoor
open Go.RowKit Go.Sort Go.Shelf

theorem hwords_any (W S B T : Int) (cl : Value) (w : World) (h0 : 0 ≤ S) (h1 : S ≤ 1000) :
    Calls Tryd.prog 18 #[.agg #[.int .i64 W, .int .i64 S, .int .i64 B, .int .i64 T, cl]] w fun e w' => e = .returned (.int .i64 (2 * S)) ∧ Below w.heap.size w w' := by
  have B0 := Lib.hid (box1 w (.cells #[.int .i64 W, .int .i64 S, .int .i64 B, .int .i64 T, cl] 29))
  have ST := Lib.hid fun w => state_any W S B T cl w h0 (by omega)
  go_enter Tryd.func18, Tryd.ntmps18
  go_wp2_with fail
  refine (ST.out _).mono ?_
  rintro e w1 ⟨rfl, hb⟩
  have B1 := Lib.hid (B0.out.trans (hb.mono B0.out.size))
  clear hb
  go_wp2_with fail
  go_ret
  exact ⟨rfl, B1.out⟩
theorem three_fresh (w : World) (a b c : Obj) : (((w.alloc a).alloc b).alloc c).heap[w.heap.size]? = some a ∧ (((w.alloc a).alloc b).alloc c).heap[w.heap.size + 1]? = some b ∧ (((w.alloc a).alloc b).alloc c).heap[w.heap.size + 1 + 1]? = some c ∧ Below w.heap.size w (((w.alloc a).alloc b).alloc c) ∧ (((w.alloc a).alloc b).alloc c).heap.size = w.heap.size + 1 + 1 + 1 := by
  obtain ⟨h1, h2, h3, h4⟩ := two_fresh w a b
  have h5 := heap_new ((w.alloc a).alloc b) c
  have h6 := box1 ((w.alloc a).alloc b) c
  rw [h4] at h5
  exact ⟨(h6.block _ (by omega)).trans h1, (h6.block _ (by omega)).trans h2, h5, h3.trans (h6.mono (by omega)), by simp⟩
/-! What New answers: a Heart of the same numbers, with a row of its own. -/
set_option maxHeartbeats 2000000 in
theorem hnew_any (W S B T : Int) (ad : Option Addr) (len cap : Nat) (f : Nat → Int) (w : World) (hr : Hid (RowI w ad len f)) (hl : len ≤ 1000) :
    Calls Tryd.prog 16 #[.agg #[.int .i64 W, .int .i64 S, .int .i64 B, .int .i64 T, .slice ad len cap]] w (Copied w W S B T len f) := by
  obtain ⟨q1, q2, q3, q4⟩ := two_fresh w (.cells #[.int .i64 W, .int .i64 S, .int .i64 B, .int .i64 T, .slice ad len cap] 24) (.cells #[.int .i64 0, .int .i64 0, .int .i64 0, .int .i64 0, .slice none 0 0] 29)
  have N1 : Hid (HBox _ (w.heap.size + 1) 0 0 0 0 (.slice none 0 0)) := q2
  have B0 := Lib.hid q3
  have SZ := Lib.hid q4
  have CO := Lib.hid (copy_any W S B T ad len cap f _ (Lib.hid (hr.out.next q3)) hl)
  clear q1 q2 q3 q4
  go_enter Tryd.func16, Tryd.ntmps16
  go_wp2_with fail
  generalize (w.alloc (.cells #[.int .i64 W, .int .i64 S, .int .i64 B, .int .i64 T, .slice ad len cap] 24)).alloc (.cells #[.int .i64 0, .int .i64 0, .int .i64 0, .int .i64 0, .slice none 0 0] 29) = w1 at *
  generalize hN : w.heap.size = N at *
  refine CO.out.mono ?_
  rintro e w2 ⟨b, rfl, hb1, hb2, hb⟩
  have M2 := Lib.hid (N1.out.next hb)
  have B2 := Lib.hid (B0.out.trans (hb.mono (by have := SZ.out; omega)))
  have K2 := Lib.hid hb1
  have K3 : Hid (N ≤ b ∧ b ≠ N + 1) := by have := SZ.out; exact ⟨by omega, by omega⟩
  clear hb hb1 hb2
  have c0 := M2.out.c0
  have c1 := M2.out.c1
  have c2 := M2.out.c2
  have c3 := M2.out.c3
  have c4 := M2.out.c4
  have f0 := fun j => frozen_of (j := j) M2.out
  go_wp2_with fail
  have R : HBox (((((w2.setCell ⟨N + 1, 0, none⟩ (.int .i64 W)).setCell ⟨N + 1, 1, none⟩ (.int .i64 S)).setCell ⟨N + 1, 2, none⟩ (.int .i64 B)).setCell ⟨N + 1, 3, none⟩ (.int .i64 T)).setCell ⟨N + 1, 4, none⟩ (.slice (some ⟨b, 0, none⟩) len len)) (N + 1) W S B T (.slice (some ⟨b, 0, none⟩) len len) := set_of (set_of (set_of (set_of (set_of M2.out _) _) _) _) _
  refine bodyPost_ret (v := .agg #[.int .i64 W, .int .i64 S, .int .i64 B, .int .i64 T, .slice (some ⟨b, 0, none⟩) len len]) (by simp [results, Tryd.results16, go_sem, R.c0, R.c1, R.c2, R.c3, R.c4]) rfl ⟨b, rfl, ?_, by rw [hN]; exact K3.out.1, ?_⟩
  · have := K3.out.2
    rw [set_other this, set_other this, set_other this, set_other this, set_other this]
    exact K2.out
  · rw [hN]
    have B3 : Below w.heap.size w w2 := by rw [hN]; exact B2.out
    have h := below_set (N := N + 1) (j := 4) (v := .slice (some ⟨b, 0, none⟩) len len) (below_set (N := N + 1) (j := 3) (v := .int .i64 T) (below_set (N := N + 1) (j := 2) (v := .int .i64 B) (below_set (N := N + 1) (j := 1) (v := .int .i64 S) (below_set (N := N + 1) (j := 0) (v := .int .i64 W) B3 (by omega)) (by omega)) (by omega)) (by omega)) (by omega)
    rw [hN] at h
    exact h

theorem app1 {cap : Nat → Nat} {batch : Nat} {l : List Sb} {A B : Nat} (h : A < 1099511627776) (k : A % 256 = 1) : appP cap batch l (A, B) = refillP cap batch l (A / 256) := by simp only [appP]; rw [if_neg (by omega), if_pos k]
theorem app2 {cap : Nat → Nat} {batch : Nat} {l : List Sb} {A B : Nat} (h : A < 1099511627776) (k : A % 256 = 2) : appP cap batch l (A, B) = flushP cap l (A / 256) B := by simp only [appP]; rw [if_neg (by omega), if_neg (by omega), if_pos k]
theorem app3 {cap : Nat → Nat} {batch : Nat} {l : List Sb} {A B : Nat} (h : A < 1099511627776) (k : A % 256 = 3) : appP cap batch l (A, B) = takeP l (A / 256) := by simp only [appP]; rw [if_neg (by omega), if_neg (by omega), if_neg (by omega), if_pos k]
theorem app4 {cap : Nat → Nat} {batch : Nat} {l : List Sb} {A B : Nat} (h : A < 1099511627776) (k : A % 256 = 4) : appP cap batch l (A, B) = giveP l (A / 256) := by simp only [appP]; rw [if_neg (by omega), if_neg (by omega), if_neg (by omega), if_neg (by omega), if_pos k]
theorem app0 {cap : Nat → Nat} {batch : Nat} {l : List Sb} {A B : Nat} (h : ¬ A < 1099511627776 ∨ (A % 256 ≠ 1 ∧ A % 256 ≠ 2 ∧ A % 256 ≠ 3 ∧ A % 256 ≠ 4)) : appP cap batch l (A, B) = (l, (0, 0)) := by
  simp only [appP]
  rcases h with h | ⟨h1, h2, h3, h4⟩
  · rw [if_pos (by omega)]
  · simp [h1, h2, h3, h4]
set_option maxRecDepth 20000 in
set_option maxHeartbeats 4000000 in
theorem apply_any (W T : Int) (S B : Nat) (ad : Option Addr) (len cap : Nat) (f : Nat → Int) (A D b n c : Nat) (l : List Sb) (r : List Nat) (w : World) (hW : Hid (HW w b l r)) (hn : n = 2 * l.length) (hS : S = l.length) (hF : Hid (FldAt w)) (hr : Hid (RowI w ad len f)) (ok : Hid (ClsOk len f)) (hB : B ≤ 64) (hA : A < 18446744073709551616) (hD : D < 18446744073709551616) (hb3 : 3 ≤ b) :
    Calls Tryd.prog 21 #[.agg #[.int .i64 W, .int .i64 (S : Nat), .int .i64 (B : Nat), .int .i64 T, .slice ad len cap], .slice (some ⟨b, 0, none⟩) n c, .agg #[.int .u64 (A : Nat), .int .u64 (D : Nat)]] w fun e w' => e = .returned (opV (appP (capN len f) B l (A, D)).2) ∧ HW w' b (appP (capN len f) B l (A, D)).1 r ∧ Only [b] w w' := by
  subst hn
  subst hS
  have hf := hW.out.few
  obtain ⟨q1, q2, q3, q4, q5⟩ := three_fresh w (.cells #[.int .i64 W, .int .i64 (l.length : Nat), .int .i64 (B : Nat), .int .i64 T, .slice ad len cap] 29) (.cells #[.int .u64 (A : Nat), .int .u64 (D : Nat)] 37) (.cells #[.int .u64 0, .int .u64 0] 37)
  have N0 : Hid (HBox _ w.heap.size W (l.length : Nat) (B : Nat) T (.slice ad len cap)) := q1
  have Q0 : Hid (OpBox _ (w.heap.size + 1) A D) := q2
  have N1 : Hid (OpBox _ (w.heap.size + 1 + 1) 0 0) := q3
  have B0 := Lib.hid q4
  have SZ := Lib.hid q5
  have H1 := Lib.hid (hW.out.next q4)
  have F1 := Lib.hid (hF.out.next q4)
  have R1 := Lib.hid (hr.out.next q4)
  have lb := hW.out.lt
  clear q1 q2 q3 q4 q5
  have bN : b ≠ w.heap.size + 1 + 1 := by omega
  have SP := Lib.hid fun w h => split_any A w hA h
  have WO := Lib.hid fun w => hwords_any W (l.length : Nat) (B : Nat) T (.slice ad len cap) w (by omega) (by omega)
  have hC : A / 256 % 4294967296 < 4294967296 := by omega
  have RF := Lib.hid fun w h1 h2 h3 => refill_any W (l.length : Nat) T B ad len cap f (A / 256 % 4294967296) b (2 * l.length) c l r w h1 rfl h2 h3 ok hC hB
  have FL := Lib.hid fun w h1 h2 h3 => flush_any W (l.length : Nat) T (B : Nat) ad len cap f (A / 256 % 4294967296) D b (2 * l.length) c l r w h1 rfl h2 h3 ok hD
  have TA := Lib.hid fun w h1 h2 => take_any (A / 256 % 4294967296) b (2 * l.length) c l r w h1 rfl h2 hC hb3
  have GI := Lib.hid fun w h1 h2 => give_any (A / 256 % 4294967296) b (2 * l.length) c l r w h1 rfl h2 hC hb3
  have P1 : Hid (A < 1099511627776 → A % 256 = 1 → appP (capN len f) B l (A, D) = refillP (capN len f) B l (A / 256 % 4294967296)) := fun h k => by rw [app1 h k, show A / 256 % 4294967296 = A / 256 from by omega]
  have P2 : Hid (A < 1099511627776 → A % 256 = 2 → appP (capN len f) B l (A, D) = flushP (capN len f) l (A / 256 % 4294967296) D) := fun h k => by rw [app2 h k, show A / 256 % 4294967296 = A / 256 from by omega]
  have P3 : Hid (A < 1099511627776 → A % 256 = 3 → appP (capN len f) B l (A, D) = takeP l (A / 256 % 4294967296)) := fun h k => by rw [app3 h k, show A / 256 % 4294967296 = A / 256 from by omega]
  have P4 : Hid (A < 1099511627776 → A % 256 = 4 → appP (capN len f) B l (A, D) = giveP l (A / 256 % 4294967296)) := fun h k => by rw [app4 h k, show A / 256 % 4294967296 = A / 256 from by omega]
  have P0 : Hid (¬ A < 1099511627776 ∨ (A % 256 ≠ 1 ∧ A % 256 ≠ 2 ∧ A % 256 ≠ 3 ∧ A % 256 ≠ 4) → appP (capN len f) B l (A, D) = (l, (0, 0))) := fun h => app0 h
  generalize appP (capN len f) B l (A, D) = V at *
  generalize A / 256 % 4294967296 = C at *
  have hK : A % 256 < 256 := by omega
  generalize A % 256 = K at *
  have o0 := Q0.out.c0
  have o1 := Q0.out.c1
  go_enter Tryd.func21, Tryd.ntmps21
  go_wp2_with fail
  generalize ((w.alloc (.cells #[.int .i64 W, .int .i64 (l.length : Nat), .int .i64 (B : Nat), .int .i64 T, .slice ad len cap] 29)).alloc (.cells #[.int .u64 (A : Nat), .int .u64 (D : Nat)] 37)).alloc (.cells #[.int .u64 0, .int .u64 0] 37) = w1 at *
  generalize hN : w.heap.size = N at *
  refine (SP.out _ F1).mono ?_
  rintro e w2 ⟨rfl, hb⟩
  have B2 := Lib.hid (B0.out.trans (hb.mono (by have := SZ.out; omega)))
  have H2 := Lib.hid (H1.out.next hb)
  have F2 := Lib.hid (F1.out.next hb)
  have R2 := Lib.hid (R1.out.next hb)
  have N2 := Lib.hid (N0.out.next hb)
  have Q2 := Lib.hid (Q0.out.next hb)
  have M2 := Lib.hid (N1.out.next hb)
  have S2 : Hid (N + 1 + 1 < w2.heap.size) := by have := hb.size; have := SZ.out; show _ < _; omega
  clear hb N0 N1 Q0 B0 H1 F1 R1 SZ SP o0 o1
  by_cases hA2 : A < 1099511627776
  case neg =>
    have E1 := Lib.hid (P0.out (.inl hA2))
    have g1 : splitOk A = false := by simpa [splitOk] using hA2
    have c0 := M2.out.z0
    have c1 := M2.out.z1
    have f0 := frozen_of (j := 0) M2.out
    have f1 := frozen_of (j := 1) M2.out
    go_wp2_with fail
    have R := M2.out.zero
    exact bodyPost_ret (v := .agg #[.int .u64 0, .int .u64 0]) (by simp [results, Tryd.results21, go_sem, R.z0, R.z1]) rfl ⟨by rw [E1.out]; rfl, by rw [E1.out]; exact H2.out.two bN, only_two (Only.of_below (by rw [hN]; exact B2.out)) (by omega)⟩
  case pos =>
    have g1 : splitOk A = true := by simpa [splitOk] using hA2
    have d0 := N2.out.c0
    have d1 := N2.out.c1
    have d2 := N2.out.c2
    have d3 := N2.out.c3
    have d4 := N2.out.c4
    go_wp2_with fail
    refine (WO.out _).mono ?_
    rintro e w3 ⟨rfl, hb⟩
    have B3 := Lib.hid (B2.out.trans (hb.mono (by have := S2.out; omega)))
    have H3 := Lib.hid (H2.out.next hb)
    have F3 := Lib.hid (F2.out.next hb)
    have R3 := Lib.hid (R2.out.next hb)
    have N3 := Lib.hid (N2.out.next hb)
    have Q3 := Lib.hid (Q2.out.next hb)
    have M3 := Lib.hid (M2.out.next hb)
    clear hb N2 M2 Q2 B2 H2 F2 R2 S2 d0 d1 d2 d3 d4
    have d0 := N3.out.c0
    have d1 := N3.out.c1
    have d2 := N3.out.c2
    have d3 := N3.out.c3
    have d4 := N3.out.c4
    have o0 := Q3.out.c0
    have o1 := Q3.out.c1
    have ZV : ∀ x, opV x = .agg #[.int .u64 (x.1 : Nat), .int .u64 (x.2 : Nat)] := fun _ => rfl
    by_cases k1 : K = 1
    · subst k1
      have E1 := Lib.hid (P1.out hA2 rfl)
      go_wp2_with fail
      refine (RF.out _ H3 F3 R3).mono ?_
      rintro e w4 ⟨rfl, H4, O4⟩
      rw [← E1.out] at H4
      have H5 := Lib.hid H4
      have O5 := Lib.hid O4
      have M4 : Hid (OpBox w4 (N + 1 + 1) 0 0) := O4.at M3.out (by simp; omega)
      clear H4 O4
      have z0 := M4.out.z0
      have z1 := M4.out.z1
      have f0 := frozen_of (j := 0) M4.out
      have f1 := frozen_of (j := 1) M4.out
      have E2 := Lib.hid (congrArg Prod.snd E1.out)
      generalize refillP (capN len f) B l C = V2 at *
      go_wp2_with fail
      have R := M4.out.set V2.2.1 V2.2.2
      exact bodyPost_ret (v := .agg #[.int .u64 V2.2.1, .int .u64 V2.2.2]) (by simp [results, Tryd.results21, go_sem, R.c0, R.c1]) rfl ⟨by rw [E2.out]; rfl, H5.out.two bN, only_two ((Only.of_below (by rw [hN]; exact B3.out)).trans O5.out) (by omega)⟩
    by_cases k2 : K = 2
    · subst k2
      have E1 := Lib.hid (P2.out hA2 rfl)
      go_wp2_with fail
      refine (FL.out _ H3 F3 R3).mono ?_
      rintro e w4 ⟨rfl, H4, O4⟩
      rw [← E1.out] at H4
      have H5 := Lib.hid H4
      have O5 := Lib.hid O4
      have M4 : Hid (OpBox w4 (N + 1 + 1) 0 0) := O4.at M3.out (by simp; omega)
      clear H4 O4
      have z0 := M4.out.z0
      have z1 := M4.out.z1
      have f0 := frozen_of (j := 0) M4.out
      have f1 := frozen_of (j := 1) M4.out
      have E2 := Lib.hid (congrArg Prod.snd E1.out)
      generalize flushP (capN len f) l C D = V2 at *
      go_wp2_with fail
      have R := M4.out.set V2.2.1 V2.2.2
      exact bodyPost_ret (v := .agg #[.int .u64 V2.2.1, .int .u64 V2.2.2]) (by simp [results, Tryd.results21, go_sem, R.c0, R.c1]) rfl ⟨by rw [E2.out]; rfl, H5.out.two bN, only_two ((Only.of_below (by rw [hN]; exact B3.out)).trans O5.out) (by omega)⟩
    by_cases k3 : K = 3
    · subst k3
      have E1 := Lib.hid (P3.out hA2 rfl)
      go_wp2_with fail
      refine (TA.out _ H3 F3).mono ?_
      rintro e w4 ⟨rfl, H4, O4⟩
      rw [← E1.out] at H4
      have H5 := Lib.hid H4
      have O5 := Lib.hid O4
      have M4 : Hid (OpBox w4 (N + 1 + 1) 0 0) := O4.at M3.out (by simp; omega)
      clear H4 O4
      have z0 := M4.out.z0
      have z1 := M4.out.z1
      have f0 := frozen_of (j := 0) M4.out
      have f1 := frozen_of (j := 1) M4.out
      have E2 := Lib.hid (congrArg Prod.snd E1.out)
      generalize takeP l C = V2 at *
      go_wp2_with fail
      have R := M4.out.set V2.2.1 V2.2.2
      exact bodyPost_ret (v := .agg #[.int .u64 V2.2.1, .int .u64 V2.2.2]) (by simp [results, Tryd.results21, go_sem, R.c0, R.c1]) rfl ⟨by rw [E2.out]; rfl, H5.out.two bN, only_two ((Only.of_below (by rw [hN]; exact B3.out)).trans O5.out) (by omega)⟩
    by_cases k4 : K = 4
    · subst k4
      have E1 := Lib.hid (P4.out hA2 rfl)
      go_wp2_with fail
      refine (GI.out _ H3 F3).mono ?_
      rintro e w4 ⟨rfl, H4, O4⟩
      rw [← E1.out] at H4
      have H5 := Lib.hid H4
      have O5 := Lib.hid O4
      have M4 : Hid (OpBox w4 (N + 1 + 1) 0 0) := O4.at M3.out (by simp; omega)
      clear H4 O4
      have z0 := M4.out.z0
      have z1 := M4.out.z1
      have f0 := frozen_of (j := 0) M4.out
      have f1 := frozen_of (j := 1) M4.out
      have E2 := Lib.hid (congrArg Prod.snd E1.out)
      generalize giveP l C = V2 at *
      go_wp2_with fail
      have R := M4.out.set V2.2.1 V2.2.2
      exact bodyPost_ret (v := .agg #[.int .u64 V2.2.1, .int .u64 V2.2.2]) (by simp [results, Tryd.results21, go_sem, R.c0, R.c1]) rfl ⟨by rw [E2.out]; rfl, H5.out.two bN, only_two ((Only.of_below (by rw [hN]; exact B3.out)).trans O5.out) (by omega)⟩
    have E1 := Lib.hid (P0.out (.inr ⟨k1, k2, k3, k4⟩))
    have g2 : ((K : Int) == 1) = false := by simp; omega
    have g3 : ((K : Int) == 2) = false := by simp; omega
    have g4 : ((K : Int) == 3) = false := by simp; omega
    have g5 : ((K : Int) == 4) = false := by simp; omega
    have c0 := M3.out.z0
    have c1 := M3.out.z1
    have f0 := frozen_of (j := 0) M3.out
    have f1 := frozen_of (j := 1) M3.out
    go_wp2_with fail
    have R := M3.out.zero
    exact bodyPost_ret (v := .agg #[.int .u64 0, .int .u64 0]) (by simp [results, Tryd.results21, go_sem, R.z0, R.z1]) rfl ⟨by rw [E1.out]; rfl, by rw [E1.out]; exact H3.out.two bN, only_two (Only.of_below (by rw [hN]; exact B3.out)) (by omega)⟩
end Go.Proofs.YtkogeeaoppkhkaaDoor
