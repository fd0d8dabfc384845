/-
  What a stack does to its words, and what it answers.
-/
import Derived.Test.YtmdjhjfmnkileaaObj1
namespace Go.Proofs.Ytmdjhjfmnkileaa
open Go.RowKit Go.Sort

set_option maxRecDepth 20000 in
set_option maxHeartbeats 2000000 in
theorem sapply_any (r : Int) (b n c A B : Nat) (L : List Nat) (w : World) (hb : Hid (w.heap[b]? = some (.cells (wordsOf L) 29 (0, 0)))) (hn : n = roomN r + 1) (hl : n ≤ L.length) (hL : Hid (∀ x ∈ L, x < 18446744073709551616)) :
    Calls Try.prog 15 #[.agg #[.int .i64 r], .slice (some ⟨b, 0, none⟩) n c, .agg #[.int .u64 A, .int .u64 B]] w fun e w' => e = .returned (.agg #[.int .u64 ((obApp (some r) L (A, B)).2.1 : Nat), .int .u64 ((obApp (some r) L (A, B)).2.2 : Nat)]) ∧ w'.heap[b]? = some (.cells (wordsOf (obApp (some r) L (A, B)).1) 29 (0, 0)) ∧ Only [b] w w' := by
  have lb := heap_lt hb.out
  obtain ⟨t0, t1, t2, t3, t4⟩ := three_new w (.cells #[.int .i64 r] 36) (.cells #[.int .u64 A, .int .u64 B] 40) (.cells #[.int .u64 0, .int .u64 0] 40)
  have T0 := Lib.hid t0
  have T1 := Lib.hid t1
  have T2 := Lib.hid t2
  have T3 := Lib.hid t3
  have T4 := Lib.hid t4
  have H1 : Hid (_ = _) := (t3.block b lb).trans hb.out
  clear t0 t1 t2 t3 t4
  have hx := getD_lt hL.out 0
  have hr := room_le r
  have RW := Lib.hid fun w1 => swords_any r w1
  have RR := Lib.hid fun w1 => sroom_any r w1
  have EV : Hid (obApp (some r) L (A, B) = if roomN r < L.getD 0 0 then (L, (0, 0))
    else if A = 1 ∧ L.getD 0 0 < roomN r then ((L.set (L.getD 0 0 + 1) B).set 0 (L.getD 0 0 + 1), (1, 0))
    else if A = 2 ∧ 0 < L.getD 0 0 then ((L.set (L.getD 0 0) 0).set 0 (L.getD 0 0 - 1), (1, L.getD (L.getD 0 0) 0)) else (L, (0, 0))) := rfl
  generalize obApp (some r) L (A, B) = V at *
  have C0 : Hid (∀ w' : World, w'.heap[b]? = some (.cells (wordsOf L) 29 (0, 0)) → w'.cell? ⟨b, 0, none⟩ = some (.int .u64 ((L.getD 0 0 : Nat) : Int))) := fun w' h => words_at h (by omega)
  have CJ : Hid (∀ (j : Nat) (w' : World), w'.heap[b]? = some (.cells (wordsOf L) 29 (0, 0)) → j < L.length → w'.cell? ⟨b, j, none⟩ = some (.int .u64 ((L.getD j 0 : Nat) : Int))) := fun j w' h hj => words_at h hj
  generalize L.getD 0 0 = x0 at *
  generalize hR : roomN r = R at *
  have HR := Lib.hid hR
  clear hR
  subst hn
  go_enter Try.func15, Try.ntmps15
  go_wp2_with fail
  generalize ((w.alloc (.cells #[.int .i64 r] 36)).alloc (.cells #[.int .u64 A, .int .u64 B] 40)).alloc (.cells #[.int .u64 0, .int .u64 0] 40) = w1 at *
  generalize hN : w.heap.size = N at *
  have c0 := C0.out w1 H1.out
  have s0 : w1.cell? ⟨N, 0, none⟩ = some (.int .i64 r) := by rw [cell_of T0.out]; rfl
  have EWR : IntKind.u64.wrap (R : Int) = (R : Int) := by simp only [IntKind.wrap_u64]; omega
  have k0 := cell_regrown c0
  have k1 := cell_regrown s0
  have a1 := fun d os => Calls.regrown_of (RW.out (grow (redrawn w1 d) os))
  have a2 := fun d os => Calls.regrown_of (RR.out (grow (redrawn w1 d) os))
  refine wp_region_quiet_below (by kernel_rfl) (by kernel_rfl) ?_
  repeat (go_big_quiet_step (first | exact a1 _ _ | exact a2 _ _))
  refine wpQuiet_nil ?_
  intro _ hwq
  obtain ⟨⟨dq, osq⟩, hwq2⟩ := hwq
  subst hwq2
  have HQ := Lib.hid (below_regrown w1 dq osq)
  have U0 : Hid ((Sort.grow (redrawn w1 dq) osq).heap[N]? = _) := (HQ.out.block _ (by have := T4.out; omega)).trans T0.out
  have U1 : Hid ((Sort.grow (redrawn w1 dq) osq).heap[N + 1]? = _) := (HQ.out.block _ (by have := T4.out; omega)).trans T1.out
  have U2 : Hid ((Sort.grow (redrawn w1 dq) osq).heap[N + 1 + 1]? = _) := (HQ.out.block _ (by have := T4.out; omega)).trans T2.out
  have UB : Hid ((Sort.grow (redrawn w1 dq) osq).heap[b]? = _) := (HQ.out.block _ (by have := T4.out; omega)).trans H1.out
  have U3 : Hid (Below N w (Sort.grow (redrawn w1 dq) osq)) := T3.out.trans (HQ.out.mono (by have := T4.out; omega))
  have US : Hid (N + 1 + 1 < (Sort.grow (redrawn w1 dq) osq).heap.size) := by have := HQ.out.size; have := T4.out; show _ < _; omega
  generalize Sort.grow (redrawn w1 dq) osq = w2 at *
  clear HQ k0 k1 a1 a2
  clear T0 T1 T2 T3 T4 H1 c0 s0
  have c0 := C0.out w2 UB.out
  have s0 : w2.cell? ⟨N, 0, none⟩ = some (.int .i64 r) := by rw [cell_of U0.out]; rfl
  have z0 := fun j => frozen_of (j := j) UB.out
  have d0 : w2.cell? ⟨N + 1, 0, none⟩ = some (.int .u64 A) := by rw [cell_of U1.out]; rfl
  have d1 : w2.cell? ⟨N + 1, 1, none⟩ = some (.int .u64 B) := by rw [cell_of U1.out]; rfl
  have e0 : w2.cell? ⟨N + 1 + 1, 0, none⟩ = some (.int .u64 0) := by rw [cell_of U2.out]; rfl
  have e1 : w2.cell? ⟨N + 1 + 1, 1, none⟩ = some (.int .u64 0) := by rw [cell_of U2.out]; rfl
  have f0 := frozen_of (j := 0) U2.out
  have f1 := frozen_of (j := 1) U2.out
  have hne : ¬ N + 1 + 1 = b := by omega
  have hne' : ¬ b = N + 1 + 1 := by omega
  have hne2 : ¬ N + 1 = b := by omega
  have hne2' : ¬ b = N + 1 := by omega
  have hne3 : ¬ N = b := by omega
  have ZERO : Hid (∀ w3 : World, Below w2.heap.size w2 w3 → ((w3.setCell ⟨N + 1 + 1, 0, none⟩ (.int .u64 0)).setCell ⟨N + 1 + 1, 1, none⟩ (.int .u64 0)).heap[b]? = some (.cells (wordsOf L) 29 (0, 0)) ∧ Only [b] w ((w3.setCell ⟨N + 1 + 1, 0, none⟩ (.int .u64 0)).setCell ⟨N + 1 + 1, 1, none⟩ (.int .u64 0))) := fun w3 hw => by
    refine ⟨by rw [set_other hne', set_other hne', hw.block b (heap_lt UB.out)]; exact UB.out, ?_⟩
    exact (((Only.of_below (by rw [hN]; exact U3.out)).trans (Only.of_below hw))).trans' ((Only.of_set (l := [N + 1 + 1]) (by simp) _).trans (Only.of_set (by simp) _)) (by intro k hk; simp at hk ⊢; omega)
  by_cases k1 : R < x0
  · have V1 : Hid (V = (L, (0, 0))) := by show _ = _; rw [EV.out, if_pos k1]
    have g1 : decide (R < x0) = true := by simpa using k1
    go_wp2_with fail
    obtain ⟨z1, z2⟩ := ZERO.out w2 (Below.refl _ _)
    exact bodyPost_ret (v := .agg #[.int .u64 0, .int .u64 0]) (by simp [results, Try.results15, go_sem, e0, e1]) rfl ⟨by rw [V1.out]; rfl, by rw [V1.out]; exact z1, z2⟩
  have EV' := Lib.hid (EV.out.trans (if_neg k1))
  have g1 : decide (R < x0) = false := by simpa using k1
  have EWX : IntKind.i64.wrap (x0 : Int) = (x0 : Int) := by simp only [IntKind.wrap_i64]; omega
  by_cases kA : A = 1
  · subst kA
    go_wp2_with fail
    refine (RR.out _).mono ?_
    rintro e w3 ⟨rfl, hq⟩
    have XQ := Lib.hid hq
    have XB : Hid (w3.heap[b]? = _) := (hq.block _ (heap_lt UB.out)).trans UB.out
    have X1 : Hid (w3.heap[N + 1]? = _) := (hq.block _ (by have := US.out; omega)).trans U1.out
    have X2 : Hid (w3.heap[N + 1 + 1]? = _) := (hq.block _ (by have := US.out; omega)).trans U2.out
    clear hq
    clear c0 z0 d0 d1 e0 e1 f0 f1 s0
    have c0 := C0.out w3 XB.out
    have z0 := fun j => frozen_of (j := j) XB.out
    have d0 : w3.cell? ⟨N + 1, 0, none⟩ = some (.int .u64 (1 : Nat)) := by rw [cell_of X1.out]; rfl
    have d1 : w3.cell? ⟨N + 1, 1, none⟩ = some (.int .u64 B) := by rw [cell_of X1.out]; rfl
    have e0 : w3.cell? ⟨N + 1 + 1, 0, none⟩ = some (.int .u64 0) := by rw [cell_of X2.out]; rfl
    have e1 : w3.cell? ⟨N + 1 + 1, 1, none⟩ = some (.int .u64 0) := by rw [cell_of X2.out]; rfl
    have f0 := frozen_of (j := 0) X2.out
    have f1 := frozen_of (j := 1) X2.out
    by_cases k2 : x0 < R
    · have V1 : Hid (V = ((L.set (x0 + 1) B).set 0 (x0 + 1), (1, 0))) := by show _ = _; rw [EV'.out, if_pos (by simp [k2])]
      have g2 : decide (x0 < R) = true := by simpa using k2
      have EW1 : IntKind.u64.wrap ((x0 : Int) + 1) = (x0 : Int) + 1 := by simp only [IntKind.wrap_u64]; omega
      have cj := CJ.out (x0 + 1) w3 XB.out (by omega)
      have WW3 : Hid (∀ u v : Value, ((((w3.setCell ⟨b, x0 + 1, none⟩ (.int .u64 (B : Int))).setCell ⟨b, 0, none⟩ (.int .u64 ((x0 : Int) + 1))).setCell ⟨N + 1 + 1, 0, none⟩ u).setCell ⟨N + 1 + 1, 1, none⟩ v).heap[b]? = some (.cells (wordsOf ((L.set (x0 + 1) B).set 0 (x0 + 1))) 29 (0, 0))) := fun u v => by
        rw [set_other hne', set_other hne']; first | exact words_set (words_set XB.out) | (rw [show ((x0 : Int) + 1) = ((x0 + 1 : Nat) : Int) from by omega]; exact words_set (words_set XB.out)) | (rw [show ((x0 : Int) - 1) = ((x0 - 1 : Nat) : Int) from by omega]; exact words_set (words_set XB.out))
      have OO3 : Hid (∀ u v : Value, Only [b] w ((((w3.setCell ⟨b, x0 + 1, none⟩ (.int .u64 (B : Int))).setCell ⟨b, 0, none⟩ (.int .u64 ((x0 : Int) + 1))).setCell ⟨N + 1 + 1, 0, none⟩ u).setCell ⟨N + 1 + 1, 1, none⟩ v)) := fun u v =>
        ((Only.of_below (by rw [hN]; exact U3.out)).trans (Only.of_below XQ.out)).trans' ((((Only.of_set (l := [b, N + 1 + 1]) (by simp) _).trans (Only.of_set (by simp) _)).trans (Only.of_set (by simp) _)).trans (Only.of_set (by simp) _)) (by intro k hk; simp at hk ⊢; omega)
      go_wp2_with fail
      exact bodyPost_ret (v := .agg #[.int .u64 1, .int .u64 0]) (by simp [results, Try.results15, go_sem, e0, e1]) rfl ⟨by rw [V1.out]; rfl, by rw [V1.out]; exact WW3.out _ _, by first | exact OO3.out _ _ | exact (OO3.out _ _).trans (Only.of_below ((Below.refl _ _).drew))⟩
    · have V1 : Hid (V = (L, (0, 0))) := by show _ = _; rw [EV'.out, if_neg (fun h => k2 h.2), if_neg (fun h => by omega)]
      have g2 : decide (x0 < R) = false := by simpa using k2
      go_wp2_with fail
      obtain ⟨z1, z2⟩ := ZERO.out w3 XQ.out
      exact bodyPost_ret (v := .agg #[.int .u64 0, .int .u64 0]) (by simp [results, Try.results15, go_sem, e0, e1]) rfl ⟨by rw [V1.out]; rfl, by rw [V1.out]; exact z1, z2⟩
  have g3 : (A == 1) = false := by simpa using kA
  have g3' : ((A : Int) == 1) = false := by simp; omega
  by_cases kB : A = 2
  · subst kB
    by_cases k2 : 0 < x0
    · have g2 : decide (0 < x0) = true := by simpa using k2
      have V1 : Hid (V = ((L.set x0 0).set 0 (x0 - 1), (1, L.getD x0 0))) := by show _ = _; rw [EV'.out, if_neg (fun h => kA h.1), if_pos ⟨rfl, k2⟩]
      have EW1 : IntKind.u64.wrap ((x0 : Int) - 1) = (x0 : Int) - 1 := by simp only [IntKind.wrap_u64]; omega
      have cj := CJ.out x0 w2 UB.out (by omega)
      have XB := UB
      have XQ := Lib.hid (Below.refl w2.heap.size w2)
      generalize L.getD x0 0 = top at *
      have WW3 : Hid (∀ u v : Value, ((((w2.setCell ⟨b, x0, none⟩ (.int .u64 0)).setCell ⟨b, 0, none⟩ (.int .u64 ((x0 : Int) - 1))).setCell ⟨N + 1 + 1, 0, none⟩ u).setCell ⟨N + 1 + 1, 1, none⟩ v).heap[b]? = some (.cells (wordsOf ((L.set x0 0).set 0 (x0 - 1))) 29 (0, 0))) := fun u v => by
        rw [set_other hne', set_other hne']; first | exact words_set (words_set XB.out) | (rw [show ((x0 : Int) + 1) = ((x0 + 1 : Nat) : Int) from by omega]; exact words_set (words_set XB.out)) | (rw [show ((x0 : Int) - 1) = ((x0 - 1 : Nat) : Int) from by omega]; exact words_set (words_set XB.out))
      have OO3 : Hid (∀ u v : Value, Only [b] w ((((w2.setCell ⟨b, x0, none⟩ (.int .u64 0)).setCell ⟨b, 0, none⟩ (.int .u64 ((x0 : Int) - 1))).setCell ⟨N + 1 + 1, 0, none⟩ u).setCell ⟨N + 1 + 1, 1, none⟩ v)) := fun u v =>
        ((Only.of_below (by rw [hN]; exact U3.out)).trans (Only.of_below XQ.out)).trans' ((((Only.of_set (l := [b, N + 1 + 1]) (by simp) _).trans (Only.of_set (by simp) _)).trans (Only.of_set (by simp) _)).trans (Only.of_set (by simp) _)) (by intro k hk; simp at hk ⊢; omega)
      go_wp2_with fail
      exact bodyPost_ret (v := .agg #[.int .u64 1, .int .u64 top]) (by simp [results, Try.results15, go_sem, e0, e1]) rfl ⟨by rw [V1.out]; rfl, by rw [V1.out]; exact WW3.out _ _, by first | exact OO3.out _ _ | exact (OO3.out _ _).trans (Only.of_below ((Below.refl _ _).drew))⟩
    · have g2 : decide (0 < x0) = false := by simpa using k2
      have V1 : Hid (V = (L, (0, 0))) := by show _ = _; rw [EV'.out, if_neg (fun h => kA h.1), if_neg (fun h => k2 h.2)]
      go_wp2_with fail
      obtain ⟨z1, z2⟩ := ZERO.out w2 (Below.refl _ _)
      exact bodyPost_ret (v := .agg #[.int .u64 0, .int .u64 0]) (by simp [results, Try.results15, go_sem, e0, e1]) rfl ⟨by rw [V1.out]; rfl, by rw [V1.out]; exact z1, z2⟩
  · have g4 : (A == 2) = false := by simpa using kB
    have g4' : ((A : Int) == 2) = false := by simp; omega
    have V1 : Hid (V = (L, (0, 0))) := by show _ = _; rw [EV'.out, if_neg (fun h => kA h.1), if_neg (fun h => kB h.1)]
    go_wp2_with fail
    obtain ⟨z1, z2⟩ := ZERO.out w2 (Below.refl _ _)
    exact bodyPost_ret (v := .agg #[.int .u64 0, .int .u64 0]) (by simp [results, Try.results15, go_sem, e0, e1]) rfl ⟨by rw [V1.out]; rfl, by rw [V1.out]; exact z1, z2⟩

end Go.Proofs.Ytmdjhjfmnkileaa
