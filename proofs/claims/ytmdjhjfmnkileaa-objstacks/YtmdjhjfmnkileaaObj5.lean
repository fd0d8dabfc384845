/-
  The document's words are there (speaks); two rows of answers that are one (same); what the document says of a counter (Count).
-/
import Derived.Test.YtmdjhjfmnkileaaObj4
namespace Go.Proofs.Ytmdjhjfmnkileaa
open Go.RowKit Go.Sort

set_option maxRecDepth 20000 in
set_option maxHeartbeats 1000000 in
theorem same_any (a b : Option Addr) (n ca cb : Nat) (f g : Nat → Op2) (w : World) (ha : Hid (RowO w a n f)) (hb : Hid (RowO w b n g)) (hfg : Hid (∀ j, j < n → f j = g j)) (hn : n ≤ 1048576) :
    Calls Try.prog 11 #[.slice a n ca, .slice b n cb] w fun e w' => e = .returned (.bool true) ∧ Below w.heap.size w w' := by
  go_enter Try.func11, Try.ntmps11
  go_wp2_with fail
  go_loopw [13] (fun u wr => ∃ (k : Nat), k ≤ n ∧ u = .int .i64 k ∧ Below w.heap.size w wr) (fun u _ => n - (intOf u).toNat)
  case atStart => exact ⟨0, Nat.zero_le _, rfl, Below.refl _ _⟩
  case round =>
    obtain ⟨k, hk, rfl, hB⟩ := hrel
    have BR := Lib.hid hB
    clear hB
    by_cases hl : k < n
    · have l3 : (k : Int) < (n : Int) := by omega
      obtain ⟨b1, o1, rfl, c0, c1⟩ := (ha.out.next BR.out).at hl
      obtain ⟨b2, o2, rfl, d0, d1⟩ := (hb.out.next BR.out).at hl
      rw [← hfg.out k hl] at d0 d1
      generalize f k = x at *
      obtain ⟨A, B⟩ := x
      have hk0 : (0 : Int) ≤ (k : Int) ∧ (k : Int) < (n : Int) := by omega
      go_wp2_with fail
      have k0 := cell_regrown c0
      have k1 := cell_regrown c1
      have k2 := cell_regrown d0
      have k3 := cell_regrown d1
      refine wp_region_quiet_below (by kernel_rfl) (by kernel_rfl) ?_
      repeat (go_big_quiet_step (fail))
      refine wpQuiet_nil ?_
      intro _ hwq
      obtain ⟨⟨dq, osq⟩, hwq2⟩ := hwq
      subst hwq2
      have HQ := Lib.hid (below_regrown wr dq osq)
      have B3 := Lib.hid (below_two BR.out HQ.out)
      generalize Sort.grow (redrawn wr dq) osq = w3 at *
      clear HQ k0 k1 k2 k3
      clear c0 c1 d0 d1
      go_wp2_with fail
      go_roundw
      case rel => exact ⟨k + 1, by omega, by go_num, B3.out⟩
      case measure => simp [intOf]; omega
    · obtain rfl : k = n := by omega
      go_wp2_with fail
      go_ret
      exact ⟨rfl, BR.out⟩
theorem repW_one (l : List Op2) : ∃ x, repW none l = [x] := by
  have := repW_len none l
  exact List.length_eq_one_iff.1 this
theorem cnt_app (x : Nat) (op : Op2) : obApp none [x] op = ([(x + op.1) % 18446744073709551616], (x, (x + op.1) % 18446744073709551616)) := rfl
theorem OpRow.empty (w : World) : OpRow (w.alloc (.cells #[] 40)) (.slice (some ⟨w.heap.size, 0, none⟩) 0 0) [] :=
  ⟨rfl, .inr ⟨w.heap.size, 0, #[], rfl, Nat.zero_le _, heap_new _ _, Nat.le_refl _, by unfold maxLen; omega, rfl, rfl⟩⟩
set_option maxRecDepth 20000 in
set_option maxHeartbeats 2000000 in
theorem count_any (a : Option Addr) (len cap : Nat) (f : Nat → Op2) (w : World) (h : Hid (RowO w a len f)) (hl : len ≤ 1048576) :
    Calls Try.prog 10 #[.slice a len cap] w fun e w' => ∃ va x, e = .returned (.tuple #[va, .int .u64 (x : Nat)]) ∧ OpRow w' va (repA none (opsOf f len)) ∧ repW none (opsOf f len) = [x] ∧ Below w.heap.size w w' := by
  have E0 := Lib.hid (OpRow.empty w)
  have B0 := Lib.hid (box1 w (.cells #[] 40))
  go_enter Try.func10, Try.ntmps10
  go_wp2_with fail
  generalize w.alloc (.cells #[] 40) = w1 at *
  generalize hN : w.heap.size = N at *
  go_loopw [4, 5, 6] (fun v y u wr => ∃ (k x : Nat), k ≤ len ∧ u = .int .i64 k ∧ y = .int .u64 (x : Int) ∧ repW none (opsOf f k) = [x] ∧ x < 18446744073709551616 ∧ OpRow wr v (repA none (opsOf f k)) ∧ (∀ q, v.ownBlock = some q → N ≤ q) ∧ Below N w wr) (fun _ _ u _ => len - (intOf u).toNat)
  case atStart => exact ⟨0, 0, Nat.zero_le _, rfl, rfl, rfl, by omega, E0.out, (fun q hq => by (have e : N = q := by simpa [Value.ownBlock] using hq); omega), B0.out⟩
  case round =>
    obtain ⟨k, x, hk, rfl, rfl, hx, hx2, hA, hq, hb⟩ := hrel
    have AR := Lib.hid hA
    have WR := Lib.hid hx
    have QR := Lib.hid hq
    have XR := Lib.hid hb
    clear hA hx hq hb E0 B0
    by_cases hl2 : k < len
    · have l3 : (k : Int) < (len : Int) := by omega
      obtain ⟨bb, off, rfl, q0, q1⟩ := (h.out.next (by rw [hN]; exact XR.out)).at hl2
      have OS := Lib.hid (opsOf_succ f k)
      have OL := Lib.hid (opsOf_len f k)
      have RS := Lib.hid (repW_snoc none (opsOf f k) (f k))
      have RT := Lib.hid (repA_snoc none (opsOf f k) (f k))
      have RN := Lib.hid (repA_len none (opsOf f k))
      rw [WR.out, cnt_app] at RS RT
      rcases hz : f k with ⟨A, B⟩
      rw [hz] at q0 q1 OS RS RT
      have HZ := Lib.hid hz
      clear hz
      have EW : IntKind.u64.wrap ((x : Int) + (A : Int)) = (((x + A) % 18446744073709551616 : Nat) : Int) := by simp only [IntKind.wrap_u64]; omega
      have hy : (x + A) % 18446744073709551616 < 18446744073709551616 := by omega
      simp only at RS RT
      generalize (x + A) % 18446744073709551616 = y at *
      generalize repA none (opsOf f k) = aa at *
      obtain ⟨n1, n2, n3⟩ := one_new wr (.cells #[.int .u64 (x : Int), .int .u64 (y : Int)] 40)
      have A7 := ORow.next AR.out n2
      have XR7 := Lib.hid (XR.out.trans (n2.mono (by have := XR.out.size; omega)))
      have hs6 := XR.out.size
      obtain ⟨v', w8, hrun, p1, p2, p3, bq, cq, rfl⟩ := OpRow.app (x := (x, y)) A7 n1 (by rw [RN.out, OL.out]; omega) 22
      have A8 := Lib.hid p1
      have XR8 := Lib.hid (app_below' XR7.out (by omega) p2 (fun k hk => QR.out k hk))
      have QR8 : Hid (N ≤ bq) := by
        rcases p3 with e | e
        · exact QR.out bq e.symm
        · have e' : bq = wr.heap.size + 1 := by simpa [Value.ownBlock] using e
          show N ≤ bq; omega
      obtain ⟨bb2, off2, e2, q0', q1'⟩ := (h.out.next (by rw [hN]; exact XR8.out)).at hl2
      cases e2
      rw [HZ.out] at q0' q1'
      go_wp2_with (at_builtin; refine wpList_append_by rfl _ _ 22 22 rfl u4 (.slice (some ⟨wr.heap.size, 0, none⟩) 1 1) (by rfl) (by rfl) hrun ?_)
      go_wp2_with fail
      go_roundw
      case rel => exact ⟨k + 1, y, by omega, by go_num, rfl, by rw [OS.out, RS.out], hy, by rw [OS.out, RT.out]; exact A8.out, (fun q hq => by (have e : bq = q := by simpa [Value.ownBlock] using hq); rw [← e]; exact QR8.out), XR8.out⟩
      case measure => simp [intOf]; omega
    · obtain rfl : k = len := by omega
      go_wp2_with fail
      go_ret2
      exact ⟨_, _, rfl, AR.out, WR.out, by rw [hN]; exact XR.out⟩

theorem RowO.lit {w : World} {b : Nat} (l : List Op2) (ok : Okay l) (hb : w.heap[b]? = some (.cells (l.flatMap opE).toArray 40 (0, 0))) : RowO w (some ⟨b, 0, none⟩) l.length (fun j => l.getD j (0, 0)) := by
  by_cases h0 : l = []
  · subst h0
    exact ⟨fun j => by simp, fun h => absurd h (by simp)⟩
  · have hB : ∀ j, (l.getD j (0, 0)).1 < 18446744073709551616 ∧ (l.getD j (0, 0)).2 < 18446744073709551616 := fun j => by
      by_cases hj : j < l.length
      · rw [List.getD_eq_getElem?_getD, List.getElem?_eq_getElem hj]; exact ok _ (List.getElem_mem _)
      · rw [List.getD_eq_getElem?_getD, List.getElem?_eq_none (by omega)]; exact ⟨by decide, by decide⟩
    refine ⟨hB, fun _ => ⟨b, 0, rfl, heap_lt hb, fun j hj => ?_⟩⟩
    have e2 : l.getD j (0, 0) = l[j] := by rw [List.getD_eq_getElem?_getD, List.getElem?_eq_getElem hj]; rfl
    show w.cell? ⟨b, 0 + j * 2, none⟩ = some (.int .u64 (((l.getD j (0, 0)).1 : Nat) : Int)) ∧ w.cell? ⟨b, 0 + j * 2 + 1, none⟩ = some (.int .u64 (((l.getD j (0, 0)).2 : Nat) : Int))
    rw [Nat.zero_add, e2, cell_of hb, cell_of hb]
    have f0 := flat_at opEnc (List.getElem?_eq_getElem hj) (j := 0) (by omega)
    have f1 := flat_at opEnc (List.getElem?_eq_getElem hj) (j := 1) (by omega)
    exact ⟨by simpa [opE] using f0, by simpa [opE] using f1⟩
theorem replay_list (o : Ob) (b len cap : Nat) (l : List Op2) (w : World) (hlen : len = l.length) (ok : Okay l) (hb : w.heap[b]? = some (.cells (l.flatMap opE).toArray 40 (0, 0))) (hl : len ≤ 1048576) :
    Calls Try.prog 9 #[obV o, .slice (some ⟨b, 0, none⟩) len cap] w fun e w' => ∃ va b, e = .returned (.tuple #[va, .slice (some ⟨b, 0, none⟩) (obW o) (obW o)]) ∧ OpRow w' va (repA o l) ∧ w'.heap[b]? = some (.cells (wordsOf (repW o l)) 29 (0, 0)) ∧ (∀ q, va.ownBlock = some q → w.heap.size ≤ q ∧ q ≠ b) ∧ w.heap.size ≤ b ∧ Below w.heap.size w w' := by
  subst hlen
  have := replay_any o (some ⟨b, 0, none⟩) l.length cap (fun j => l.getD j (0, 0)) w (RowO.lit l ok hb) hl
  rw [opsOf_list] at this
  exact this
set_option maxRecDepth 20000 in
set_option maxHeartbeats 2000000 in
theorem speaks9 (w : World) :
    Calls Try.prog 8 #[] w fun e w' => e = .returned (.bool true) ∧ Below w.heap.size w w' := by
  have R1 := Lib.hid fun (b : Nat) (w1 : World) hb => replay_list (some 1) b 3 3 [(1, 7), (1, 8), (2, 0)] w1 rfl (by intro x hx; simp at hx; rcases hx with rfl | rfl | rfl <;> exact ⟨by decide, by decide⟩) hb (by omega)
  have R2 := Lib.hid fun (b : Nat) (w1 : World) hb => replay_list none b 1 1 [(5, 0)] w1 rfl (by intro x hx; simp at hx; rcases hx with rfl; exact ⟨by decide, by decide⟩) hb (by omega)
  go_enter Try.func8, Try.ntmps8
  go_wp2_with fail
  obtain ⟨n1, n2, n3⟩ := one_new w (.cells #[.int .u64 1, .int .u64 7, .int .u64 1, .int .u64 8, .int .u64 2, .int .u64 0] 40)
  refine (R1.out w.heap.size _ n1).mono ?_
  rintro e w1 ⟨va, b, rfl, h1, h2, h3, h4, hb⟩
  have B1 := Lib.hid (below_two n2 hb)
  clear n1 n2 n3 hb h3 h4 R1
  have SA : repA (some 1) [(1, 7), (1, 8), (2, 0)] = [(1, 0), (0, 0), (1, 7)] := by decide
  have SW : repW (some 1) [(1, 7), (1, 8), (2, 0)] = [0, 0] := by decide
  have E1 : obW (some 1) = 2 := by decide
  rw [SA] at h1
  rw [E1]
  obtain ⟨q, cq, rfl, x0, _⟩ := ORow.at opEnc h1 (i := 0) rfl
  obtain ⟨_, _, e1, x1, _⟩ := ORow.at opEnc h1 (i := 1) rfl
  cases e1
  obtain ⟨_, _, e1, x2, _⟩ := ORow.at opEnc h1 (i := 2) rfl
  cases e1
  have y0 := x0 0 _ rfl
  have y1 := x1 0 _ rfl
  have y2 := x2 0 _ rfl
  have y3 := x2 1 _ rfl
  have lq := ORow.lt h1 rfl
  simp only at y0 y1 y2 y3 lq
  clear x0 x1 x2 h1 h2 SA SW E1
  have W1 := Lib.hid (box1 w1 (.cells #[.int .u64 5, .int .u64 0] 40))
  have N1 := Lib.hid (heap_new w1 (.cells #[.int .u64 5, .int .u64 0] 40))
  go_wp2_with fail
  refine (R2.out w1.heap.size _ N1.out).mono ?_
  rintro e w2 ⟨vb, b2, rfl, h1, h2, h3, h4, hb⟩
  have B2 := Lib.hid (below_two W1.out hb)
  clear hb h3 h4 R2
  have SA : repA none [(5, 0)] = [(0, 5)] := by decide
  have E1 : obW none = 1 := by decide
  rw [SA] at h1
  rw [E1]
  obtain ⟨q2, cq2, rfl, x0, _⟩ := ORow.at opEnc h1 (i := 0) rfl
  have y4 := x0 1 _ rfl
  have z0 := (B2.out.cell (p := ⟨q, 0 * 2 + 0, none⟩) lq).trans y0
  have z1 := (B2.out.cell (p := ⟨q, 1 * 2 + 0, none⟩) lq).trans y1
  have z2 := (B2.out.cell (p := ⟨q, 2 * 2 + 0, none⟩) lq).trans y2
  have z3 := (B2.out.cell (p := ⟨q, 2 * 2 + 1, none⟩) lq).trans y3
  have B3 := Lib.hid (below_two B1.out B2.out)
  clear x0 h1 h2 SA E1 y0 y1 y2 y3 B1 B2 W1 N1
  go_wp2_with fail
  go_ret
  exact ⟨rfl, B3.out⟩
end Go.Proofs.Ytmdjhjfmnkileaa
