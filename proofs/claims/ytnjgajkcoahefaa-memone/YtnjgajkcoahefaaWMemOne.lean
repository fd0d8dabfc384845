/-
  The walk of the statement MemOne: each access is one step, and changes one word at most.
-/
import Derived.Test.YtnjgajkcoahefaaWMemDoes
namespace Go.Proofs.Ytnjgajkcoahefaa
open Go.RowKit

/-- In how many of the first i places two lists differ. -/
def diffs (p q : List Nat) : Nat → Nat
  | 0 => 0
  | i + 1 => diffs p q i + if p.getD i 0 = q.getD i 0 then 0 else 1
theorem diffs_same (p : List Nat) : ∀ i, diffs p p i = 0
  | 0 => rfl
  | i + 1 => by simp [diffs, diffs_same p i]
theorem diffs_set (p : List Nat) (j v : Nat) : ∀ i, diffs p (p.set j v) i ≤ if j < i then 1 else 0
  | 0 => by simp [diffs]
  | i + 1 => by
    have ih := diffs_set p j v i
    by_cases h : j = i
    · subst h
      simp only [diffs]
      rw [if_neg (Nat.lt_irrefl _)] at ih
      rw [if_pos (Nat.lt_succ_self _)]
      split <;> omega
    · have e : p.getD i 0 = (p.set j v).getD i 0 := by
        simp only [List.getD_eq_getElem?_getD, List.getElem?_set, if_neg h]
      simp only [diffs, ← e, if_true, Nat.add_zero]
      by_cases h2 : j < i
      · rw [if_pos h2] at ih; rw [if_pos (show j < i + 1 by omega)]; exact ih
      · rw [if_neg h2] at ih; rw [if_neg (show ¬ j < i + 1 by omega)]; exact ih
/-- The memory behind whatever was asked. -/
def stepSt (s : MSt) (k a : Int) (x old : Nat) : MSt := if 1 ≤ k ∧ k ≤ 5 then doSt s k a x old else s
theorem do_ws (s : MSt) (k a : Int) (x old : Nat) : (doSt s k a x old).ws = s.ws ∨ ∃ j v, (doSt s k a x old).ws = s.ws.set j v := by
  have put : ∀ (kd : Int) (y : Nat), ((s.begun kd a).put a y).ws = s.ws ∨ ∃ j v, ((s.begun kd a).put a y).ws = s.ws.set j v := fun kd y => by
    unfold MSt.put
    rcases hi : inM (s.begun kd a) a with _ | _
    · exact .inl rfl
    · exact .inr ⟨a.toNat, y, rfl⟩
  unfold doSt
  split
  · unfold MSt.swung; split
    · exact put 4 x
    · exact .inl rfl
  · split
    · exact put 5 _
    · split
      · exact put k x
      · exact .inl rfl
theorem step_few (s : MSt) (k a : Int) (x old : Nat) (i : Nat) : diffs s.ws (stepSt s k a x old).ws i ≤ if 1 ≤ k ∧ k ≤ 5 then 1 else 0 := by
  unfold stepSt
  split
  · rcases do_ws s k a x old with h | ⟨j, v, h⟩
    · rw [h, diffs_same]; omega
    · rw [h]; have := diffs_set s.ws j v i; split at this <;> omega
  · rw [diffs_same]; exact Nat.le_refl _
theorem step_ops (s : MSt) (k a : Int) (x old : Nat) : (stepSt s k a x old).ops = s.ops + if 1 ≤ k ∧ k ≤ 5 then 1 else 0 := by
  unfold stepSt
  split
  · exact do_ops s k a x old
  · rfl
theorem step_faults (s : MSt) (k a : Int) (x old : Nat) : (stepSt s k a x old).faults ≤ s.faults + 1 := by
  unfold stepSt
  split
  · rcases hi : inM s a with _ | _
    · rw [do_faults_out hi]; exact Nat.le_refl _
    · rw [do_faults_in hi]; omega
  · omega
theorem step_len (s : MSt) (k a : Int) (x old : Nat) : (stepSt s k a x old).ws.length = s.ws.length := by
  unfold stepSt
  split
  · exact do_len s k a x old
  · rfl

theorem do_one (g h b : Nat) (s : MSt) (k a : Int) (x old : Nat) (w : World) (so : s.ops < 4611686018427387904) (sf : s.faults < 4611686018427387904) (m : MemAt w g h s) (hr : WRow w (.slice (some ⟨b, 0, none⟩) 0 0) []) (hbg : b ≠ g) (hbh : b ≠ h) :
    Calls Try.prog 18 #[.pointer (some ⟨g, 0, none⟩), .agg #[.slice (some ⟨b, 0, none⟩) 0 0, .int .i64 0, .int .i64 0], .agg #[.int .i64 k, .int .i64 a, .int .u64 (x : Int), .int .u64 (old : Int)]] w fun e w' =>
      ∃ v z, e = .returned (.tuple #[v, .bool z]) ∧ MemAt w' g h (stepSt s k a x old) ∧ Else g h w w' := by
  unfold stepSt
  by_cases hk : 1 ≤ k ∧ k ≤ 5
  · rw [if_pos hk]
    refine (do_acc g h b 0 0 s (MSt.fresh 0) 0 0 k a x old w (by omega) (show k = 1 ∨ k = 2 ∨ k = 3 ∨ k = 4 ∨ k = 5 by omega) so sf (by omega) (by omega) (by omega) (by omega) (show (0 : Int) = _ from rfl) (show (0 : Int) = _ from rfl) m hr (show 0 = _ from rfl) hbg hbh).mono ?_
    rintro e w' ⟨b', cap', rfl, m', _, _, _, h3⟩
    exact ⟨_, _, rfl, m', h3⟩
  · rw [if_neg hk]
    refine (do_look g h b 0 0 s (MSt.fresh 0) 0 0 k a x old w hk m hr (show 0 = _ from rfl) hbg hbh).mono ?_
    rintro e w' ⟨rfl, m', _, h3⟩
    exact ⟨_, _, rfl, m', h3⟩

theorem Else.cell {g h N j : Nat} {w w' : World} (e : Else g h w w') (hN : N < w.heap.size) (h1 : N ≠ g) (h2 : N ≠ h) : w'.cell? ⟨N, j, none⟩ = w.cell? ⟨N, j, none⟩ := World.cell?_of_block (w := w) (e.block N hN h1 h2)

/-- The state between two rounds. -/
structure OneAt (w00 w : World) (g h n k : Nat) (s : MSt) : Prop where
  mem : MemAt w g h s
  len : n = s.ws.length
  ops : s.ops ≤ k
  faults : s.faults ≤ k
  lg : w00.heap.size ≤ g
  lh : w00.heap.size ≤ h
  bel : Below w00.heap.size w00 w
/-- The state within a round: the access, and the words ahead of it and behind it. -/
structure OneIn (w00 w : World) (g h n N : Nat) (kk aa : Int) (xx oo : Nat) (bw bn : Nat) (p q : List Nat) (s : MSt) : Prop where
  mem : MemAt w g h s
  op : w.heap[N]? = some (.cells #[.int .i64 kk, .int .i64 aa, .int .u64 (xx : Int), .int .u64 (oo : Int)] 32 (0, 0))
  was : w.heap[bw]? = some (.cells (wordsOf p) 30 (0, 0))
  now : w.heap[bn]? = some (.cells (wordsOf q) 30 (0, 0))
  lp : n = p.length
  lq : n = q.length
  bel : Below w00.heap.size w00 w
theorem OneIn.drewN {w00 w : World} {g h n N : Nat} {kk aa : Int} {xx oo : Nat} {bw bn : Nat} {p q : List Nat} {s : MSt} (d : OneIn w00 w g h n N kk aa xx oo bw bn p q s) (z : Nat) : OneIn w00 (w.drewN z) g h n N kk aa xx oo bw bn p q s :=
  ⟨d.mem.drewN z, d.op, d.was, d.now, d.lp, d.lq, below_dn d.bel z⟩

theorem OneIn.c0 {w00 w : World} {g h n N : Nat} {kk aa : Int} {xx oo : Nat} {bw bn : Nat} {p q : List Nat} {s : MSt} (d : OneIn w00 w g h n N kk aa xx oo bw bn p q s) : w.cell? ⟨N, 0, none⟩ = some (.int .i64 kk) := cell_of d.op

set_option maxRecDepth 20000 in
set_option maxHeartbeats 4000000 in
theorem one_few (n len cap : Nat) (ad : Option Addr) (K A : Nat → Int) (X O : Nat → Nat) (w : World) (hn : n ≤ 255) (hlen : len ≤ 100) (hc : Hid (RowOp w ad len K A X O)) :
    Calls Try.prog 4 #[.int .u8 n, .slice ad len cap] w fun e w' => e = .returned (.bool true) ∧ Below w.heap.size w w' := by
  have l1 : (len : Int) ≤ 100 := by omega
  go_enter Try.func4, Try.ntmps4
  go_wp2_with fail
  refine (speaks3 _).mono ?_
  rintro e w1 ⟨rfl, hb⟩
  have B1 := Lib.hid hb
  clear hb
  go_wp2_with fail
  refine (new_nat n n _ (.inr (.inl ⟨rfl, by omega⟩))).mono ?_
  rintro e w2 ⟨g, h, rfl, m2, hg, hh, hb⟩
  have S0 : Hid (OneAt w w2 g h n 0 (MSt.fresh n)) := ⟨m2, by simp [MSt.fresh], Nat.le_refl _, Nat.le_refl _, Nat.le_trans B1.out.size hg, Nat.le_trans B1.out.size hh, below_then B1.out hb⟩
  clear hb hg hh B1 m2
  go_wp2_with fail
  go_loopw [24] (fun u wr => ∃ (k : Nat) (s : MSt), k ≤ len ∧ u = .int .i64 k ∧ OneAt w wr g h n k s) (fun u _ => len - (intOf u).toNat)
  case atStart => exact ⟨0, MSt.fresh n, Nat.zero_le _, rfl, S0.out⟩
  case round =>
    obtain ⟨k, s, hk, rfl, d⟩ := hrel
    by_cases hl : k < len
    · obtain ⟨b0, off, rfl, x0, x1, x2, x3⟩ := (hc.out.next d.bel).at hl
      have l2 : (k : Int) < (len : Int) := by omega
      have HK := Lib.hid (step_few s (K k) (A k) (X k) (O k))
      generalize K k = kk at *
      generalize A k = aa at *
      generalize X k = xx at *
      generalize O k = oo at *
      have D := Lib.hid d
      have ba : Below wr.heap.size wr (wr.alloc (.cells #[.int .i64 kk, .int .i64 aa, .int .u64 (xx : Int), .int .u64 (oo : Int)] 32)) := (Below.refl _ _).alloc (Nat.le_refl _) _
      have M1 := Lib.hid (d.mem.next ba)
      have B1 := Lib.hid (d.bel.alloc d.bel.size (.cells #[.int .i64 kk, .int .i64 aa, .int .u64 (xx : Int), .int .u64 (oo : Int)] 32))
      have O1 := Lib.hid (heap_new wr (.cells #[.int .i64 kk, .int .i64 aa, .int .u64 (xx : Int), .int .u64 (oo : Int)] 32))
      have lgN : g < wr.heap.size := d.mem.lt.1
      have lhN : h < wr.heap.size := d.mem.lt.2
      have DO := d.ops
      have DF := d.faults
      clear d ba
      go_wp2_with fail
      generalize hw4 : wr.alloc (.cells #[.int .i64 kk, .int .i64 aa, .int .u64 (xx : Int), .int .u64 (oo : Int)] 32) = w4 at M1 B1 O1 ⊢
      generalize hN : wr.heap.size = N at *
      clear hw4 x0 x1 x2 x3
      refine (words_any g h _ _ M1.out).mono ?_
      rintro e w5 ⟨bw, he, hw5, hbw, hb5⟩
      have he' : e = .returned (.slice (some ⟨bw, 0, none⟩) n n) := by rw [he, ← D.out.len]
      subst he'
      have M5 := Lib.hid (M1.out.next hb5)
      have O5 := Lib.hid ((hb5.block N (heap_lt O1.out)).trans O1.out)
      have B5 := Lib.hid (below_then B1.out hb5)
      have W5 := Lib.hid hw5
      have lN4 := heap_lt O1.out
      have lbw : w4.heap.size ≤ bw := hbw
      clear he hb5 hw5 hbw
      go_wp2_with fail
      refine (ops_any g h _ _ M5.out).mono ?_
      rintro e w' ⟨rfl, rfl⟩
      have p0 : w5.cell? ⟨N, 0, none⟩ = some (.int .i64 kk) := cell_of O5.out
      have p1 : w5.cell? ⟨N, 1, none⟩ = some (.int .i64 aa) := cell_of O5.out
      have p2 : w5.cell? ⟨N, 2, none⟩ = some (.int .u64 (xx : Int)) := cell_of O5.out
      have p3 : w5.cell? ⟨N, 3, none⟩ = some (.int .u64 (oo : Int)) := cell_of O5.out
      have lN5 : N < w5.drew.heap.size := heap_lt O5.out
      go_wp2_with fail
      go_region_held3 (fun w' => w'.cell? ⟨N, 0, none⟩ = some (.int .i64 kk) ∧ w'.cell? ⟨N, 1, none⟩ = some (.int .i64 aa) ∧ w'.cell? ⟨N, 2, none⟩ = some (.int .u64 (xx : Int)) ∧ w'.cell? ⟨N, 3, none⟩ = some (.int .u64 (oo : Int))) (first | (go_keep; done) | with_reducible exact ⟨t0, t1, t2, t3⟩ | with_reducible exact ⟨s0, s1, s2, s3⟩) ((first | (go_at_call 17; refine (rnew_any 0 _ (by omega)).mono ?_; rintro e wA ⟨bA, rfl, hWA, hblA, hbA⟩; have s0 := (hbA.cell (p := ⟨N, 0, none⟩) lN5).trans p0; have s1 := (hbA.cell (p := ⟨N, 1, none⟩) lN5).trans p1; have s2 := (hbA.cell (p := ⟨N, 2, none⟩) lN5).trans p2; have s3 := (hbA.cell (p := ⟨N, 3, none⟩) lN5).trans p3; have MA := Lib.hid ((MemAt.drew M5.out).next hbA)) | (go_at_call 18; refine (do_one g h bA s kk aa xx oo _ (by omega) (by omega) MA.out hWA (by have := M5.out.lt.1; have : w5.heap.size ≤ bA := hblA; omega) (by have := M5.out.lt.2; have : w5.heap.size ≤ bA := hblA; omega)).mono ?_; rintro e w6 ⟨v6, z6, rfl, m6, e6⟩; have lNA : N < wA.heap.size := Nat.lt_of_lt_of_le lN5 hbA.size; have t0 := (e6.cell (j := 0) lNA (by omega) (by omega)).trans s0; have t1 := (e6.cell (j := 1) lNA (by omega) (by omega)).trans s1; have t2 := (e6.cell (j := 2) lNA (by omega) (by omega)).trans s2; have t3 := (e6.cell (j := 3) lNA (by omega) (by omega)).trans s3)))
      have e5A : Else g h w5 wA := ⟨hbA.os, hbA.tape, hbA.output, hbA.size, fun k hk _ _ => hbA.block k hk⟩
      have e56 := e5A.trans e6
      have hbwl : bw < w5.heap.size := heap_lt W5.out
      have O6 : Hid (w6.heap[N]? = some (.cells #[.int .i64 kk, .int .i64 aa, .int .u64 (xx : Int), .int .u64 (oo : Int)] 32 (0, 0))) := (e56.block N (heap_lt O5.out) (by omega) (by omega)).trans O5.out
      have W6 : Hid (w6.heap[bw]? = some (.cells (wordsOf s.ws) 30 (0, 0))) := (e56.block bw hbwl (by omega) (by omega)).trans W5.out
      have B6 := Lib.hid (below_else B5.out D.out.lg D.out.lh e56)
      have M6 := Lib.hid m6
      clear s0 s1 s2 s3 t0 t1 t2 t3 p0 p1 p2 p3 e5A e56 e6 m6 hWA hblA hbA MA lNA lN5 O1 M1 B1 M5 O5 B5 W5
      go_wp2_with fail
      refine (words_any g h _ _ M6.out).mono ?_
      rintro e w7 ⟨bn, he, hw7, hbn, hb7⟩
      have he' : e = .returned (.slice (some ⟨bn, 0, none⟩) n n) := by rw [he, step_len, ← D.out.len]
      subst he'
      have D7 : Hid (OneIn w w7 g h n N kk aa xx oo bw bn s.ws (stepSt s kk aa xx oo).ws (stepSt s kk aa xx oo)) :=
        ⟨M6.out.next hb7, (hb7.block N (heap_lt O6.out)).trans O6.out, (hb7.block bw (heap_lt W6.out)).trans W6.out, hw7, D.out.len, by rw [step_len]; exact D.out.len, below_then B6.out hb7⟩
      have HSO := Lib.hid (step_ops s kk aa xx oo)
      have HNX : Hid (∀ {wz : World}, MemAt wz g h (stepSt s kk aa xx oo) → Below w.heap.size w wz → OneAt w wz g h n (k + 1) (stepSt s kk aa xx oo)) := fun mz bz =>
        ⟨mz, by rw [step_len]; exact D.out.len, by rw [step_ops]; split <;> omega, by have := step_faults s kk aa xx oo; omega, D.out.lg, D.out.lh, bz⟩
      clear he hw7 hbn hb7 O6 W6 B6 M6
      generalize hS : stepSt s kk aa xx oo = s' at *
      generalize hQ : s'.ws = q at *
      generalize hP : s.ws = p at *
      go_wp2_with fail
      go_loopw [11, 40] (fun c u wq => ∃ i : Nat, i ≤ n ∧ c = .int .i64 (diffs p q i) ∧ u = .int .i64 i ∧ OneIn w wq g h n N kk aa xx oo bw bn p q s') (fun _ u _ => n - (intOf u).toNat)
      case atStart => exact ⟨0, Nat.zero_le _, rfl, rfl, D7.out⟩
      case round =>
        obtain ⟨i, hi, rfl, rfl, dq⟩ := hrel
        have DQ := Lib.hid dq
        clear dq
        have HD := HK.out i
        by_cases hl3 : i < n
        · have y1 := words_at DQ.out.was (j := i) (by have := DQ.out.lp; omega)
          have y2 := words_at DQ.out.now (j := i) (by have := DQ.out.lq; omega)
          have HI : Hid (diffs p q (i + 1) = diffs p q i + if p.getD i 0 = q.getD i 0 then 0 else 1) := rfl
          have l3 : (i : Int) < (n : Int) := by omega
          have l4 : decide ((n : Int) ≤ (i : Int)) = false := by simp; omega
          have hd1 : diffs p q i ≤ 1 := by split at HD <;> omega
          clear HD
          generalize p.getD i 0 = v1 at *
          generalize q.getD i 0 = v2 at *
          generalize hdd : diffs p q i = c at *
          by_cases hv : v1 = v2
          · have hne : ((v1 : Int) != (v2 : Int)) = false := by rw [hv]; simp
            have HV := Lib.hid hv
            clear hv
            go_wp2_with fail
            go_quiet (fail)
            go_wp2_with fail
            go_roundw
            case rel => exact ⟨i + 1, by omega, by rw [HI.out, if_pos HV.out]; rfl, by go_num, DQ.out.drewN _⟩
            case measure => simp [intOf]; omega
          · have hne : ((v1 : Int) != (v2 : Int)) = true := by simp; omega
            have HV := Lib.hid hv
            clear hv
            go_wp2_with fail
            go_quiet (fail)
            go_wp2_with fail
            go_roundw
            case rel => exact ⟨i + 1, by omega, by rw [HI.out, if_neg HV.out]; go_num, by go_num, DQ.out.drewN _⟩
            case measure => simp [intOf]; omega
        · obtain rfl : i = n := by omega
          have p0 := DQ.out.c0
          have lo : s.ops ≤ 101 := by omega
          generalize hdd : diffs p q i = c at *
          by_cases k1 : 1 ≤ kk
          · have k1' : decide (1 ≤ kk) = true := by simpa using k1
            have k3 : decide (kk < 1) = false := by simp; omega
            by_cases k2 : kk ≤ 5
            · have k2' : decide (kk ≤ 5) = true := by simpa using k2
              have k4 : decide (5 < kk) = false := by simp; omega
              have hI : (if 1 ≤ kk ∧ kk ≤ 5 then 1 else 0) = 1 := if_pos ⟨k1, k2⟩
              rw [hI] at HD HSO
              have hc1 : ¬ (1 : Int) < (c : Int) := by omega
              clear hI
              go_wp2_with fail
              refine (ops_any g h _ _ DQ.out.mem).mono ?_
              rintro e w' ⟨rfl, rfl⟩
              rw [HSO.out]
              rw [Int.natCast_add]
              go_wp2_with fail
              go_roundw
              case rel => exact ⟨k + 1, s', by omega, by go_num, HNX.out DQ.out.mem DQ.out.bel⟩
              case measure => simp [intOf]; omega
            · have k2' : decide (kk ≤ 5) = false := by simp; omega
              have k4 : decide (5 < kk) = true := by simp; omega
              have hI : (if 1 ≤ kk ∧ kk ≤ 5 then 1 else 0) = 0 := if_neg (fun h => k2 h.2)
              rw [hI] at HD HSO
              obtain rfl : c = 0 := by omega
              clear hI
              go_wp2_with fail
              refine (ops_any g h _ _ DQ.out.mem).mono ?_
              rintro e w' ⟨rfl, rfl⟩
              rw [HSO.out]
              rw [Nat.add_zero]
              go_wp2_with fail
              go_roundw
              case rel => exact ⟨k + 1, s', by omega, by go_num, HNX.out DQ.out.mem DQ.out.bel⟩
              case measure => simp [intOf]; omega
          · have k1' : decide (1 ≤ kk) = false := by simpa using k1
            have k3 : decide (kk < 1) = true := by simp; omega
            have hI : (if 1 ≤ kk ∧ kk ≤ 5 then 1 else 0) = 0 := if_neg (fun h => k1 h.1)
            rw [hI] at HD HSO
            obtain rfl : c = 0 := by omega
            clear hI
            go_wp2_with fail
            refine (ops_any g h _ _ DQ.out.mem).mono ?_
            rintro e w' ⟨rfl, rfl⟩
            rw [HSO.out]
            rw [Nat.add_zero]
            go_wp2_with fail
            go_roundw
            case rel => exact ⟨k + 1, s', by omega, by go_num, HNX.out DQ.out.mem DQ.out.bel⟩
            case measure => simp [intOf]; omega
    · go_wp2_with fail
      go_ret
      exact ⟨rfl, d.bel⟩

set_option maxHeartbeats 1000000 in
theorem one_many (n len cap : Nat) (ad : Option Addr) (w : World) (hlen : ¬ len ≤ 100) (hlen2 : len < 9223372036854775808) :
    Calls Try.prog 4 #[.int .u8 n, .slice ad len cap] w fun e w' => e = .returned (.bool true) ∧ Below w.heap.size w w' := by
  have l1 : (100 : Int) < (len : Int) := by omega
  go_enter Try.func4, Try.ntmps4
  go_wp2_with fail
  refine (speaks3 _).mono ?_
  rintro e w1 ⟨rfl, hb⟩
  have HB := Lib.hid hb
  clear hb
  go_wp2_with fail
  go_ret
  exact ⟨rfl, HB.out⟩

theorem one_walk (n len cap : Nat) (a : Option Addr) (K A : Nat → Int) (X O : Nat → Nat) (w : World) (hn : n ≤ 255) (hz : RowOp w a len K A X O) :
    Calls Try.prog 4 #[.int .u8 n, .slice a len cap] w fun e w' => e = .returned (.bool true) ∧ Below w.heap.size w w' := by
  have hl := hz.1
  unfold maxLen at hl
  by_cases h2 : len ≤ 100
  · exact one_few n len cap a K A X O w hn h2 hz
  · exact one_many n len cap a w h2 (by omega)

end Go.Proofs.Ytnjgajkcoahefaa
