/-
  The walk of the statement ObjSums: in which order numbers are added is of no matter to what a counter is at last; each is answered where it begins, and where it ends.
-/
import Derived.Test.YtmdjhjfmnkileaaWObjCounts
namespace Go.Proofs.Ytmdjhjfmnkileaa
open Go.RowKit Go.Sort

/-- All that was added, all together, going round. -/
def sumN (f : Nat → Op2) : Nat → Nat
  | 0 => 0
  | n + 1 => (sumN f n + (f n).1) % 18446744073709551616
def tot (f : Nat → Nat) : Nat → Nat
  | 0 => 0
  | n + 1 => tot f n + f n
theorem sum_tot (f : Nat → Op2) (n : Nat) : sumN f n = tot (fun j => (f j).1) n % 18446744073709551616 := by
  induction n with
  | zero => rfl
  | succ n ih => rw [sumN, ih, tot]; omega
theorem tot_front (f : Nat → Nat) (n : Nat) : tot f (n + 1) = f 0 + tot (fun j => f (j + 1)) n := by
  induction n with
  | zero => simp [tot]
  | succ n ih => rw [tot, ih, tot]; omega
theorem tot_back (n : Nat) : ∀ f : Nat → Nat, tot (fun j => f (n - 1 - j)) n = tot f n := by
  induction n with
  | zero => intro f; rfl
  | succ n ih =>
    intro f
    rw [tot_front, tot]
    have e : (fun j => f (n + 1 - 1 - (j + 1))) = fun j => f (n - 1 - j) := by funext j; congr 1; omega
    have e2 := ih f
    rw [← e] at e2
    rw [e2]
    simp; omega
theorem sum_back (f : Nat → Op2) (n : Nat) : sumN (fun j => f (n - 1 - j)) n = sumN f n := by
  rw [sum_tot, sum_tot, tot_back n fun j => (f j).1]
theorem sum_lt (f : Nat → Op2) (n : Nat) : sumN f n < 18446744073709551616 := by
  cases n with
  | zero => simp [sumN]
  | succ n => rw [sumN]; omega
theorem cnt_all (f : Nat → Op2) (n : Nat) : repW none (opsOf f n) = [sumN f n] ∧ repA none (opsOf f n) = (List.range n).map fun i => (sumN f i, sumN f (i + 1)) := by
  induction n with
  | zero => exact ⟨rfl, rfl⟩
  | succ n ih => rw [opsOf_succ, repW_snoc, repA_snoc, ih.1, ih.2, cnt_app, List.range_succ, List.map_append]; exact ⟨rfl, rfl⟩
theorem cnt_at (f : Nat → Op2) {n i : Nat} (h : i < n) : (repA none (opsOf f n)).getD i (0, 0) = (sumN f i, sumN f (i + 1)) := by
  rw [(cnt_all f n).2]; simp [h]
theorem sum_sub (f : Nat → Op2) (i : Nat) (h : (f i).1 < 18446744073709551616) : IntKind.u64.wrap (((sumN f (i + 1) : Nat) : Int) - ((sumN f i : Nat) : Int)) = (((f i).1 : Nat) : Int) := by
  have h1 := sum_lt f i
  rw [sumN]; simp only [IntKind.wrap_u64]; omega
theorem replay_c2 (a : Option Addr) (len cap : Nat) (f : Nat → Op2) (w : World) (h : Hid (RowO w a len f)) (hl : len ≤ 1048576) :
    Calls Try.prog 9 #[.iface 28 (.agg #[]), .slice a len cap] w fun e w' => ∃ aa ca b, e = .returned (.tuple #[.slice aa len ca, .slice (some ⟨b, 0, none⟩) 1 1]) ∧ RowO w' aa len (fun j => if j < len then (sumN f j, sumN f (j + 1)) else (0, 0)) ∧ w'.cell? ⟨b, 0, none⟩ = some (.int .u64 (sumN f len : Nat)) ∧ b < w'.heap.size ∧ Below w.heap.size w w' :=
  (replay_c a len cap f w h hl).mono (by
    rintro e w' ⟨va, b, x, rfl, h1, h2, h3, h4, hb⟩
    obtain ⟨aa, ca, rfl, R⟩ := row_of h1 rfl (okay_ops h.out len)
    rw [(cnt_all f len).1] at h3
    have hx : x = sumN f len := by simpa using h3.symm
    refine ⟨aa, ca, b, rfl, ?_, by rw [← hx]; exact h2, h4, hb⟩
    have e2 : (fun j => if j < len then (sumN f j, sumN f (j + 1)) else (0, 0)) = fun j => (repA none (opsOf f len)).getD j (0, 0) := by
      funext j
      by_cases hj : j < len
      · rw [if_pos hj, cnt_at f hj]
      · rw [if_neg hj, List.getD_eq_getElem?_getD, List.getElem?_eq_none (by rw [repA_len, opsOf_len]; omega)]; rfl
    rw [e2]; exact R)
set_option maxRecDepth 20000 in
set_option maxHeartbeats 4000000 in
theorem sums_walk (a : Option Addr) (len cap : Nat) (f : Nat → Op2) (w : World) (h : Hid (RowO w a len f)) (hl : len < 9223372036854775808) :
    Calls Try.prog 7 #[.slice a len cap] w fun e w' => e = .returned (.bool true) ∧ Below w.heap.size w w' := by
  go_enter Try.func7, Try.ntmps7
  go_wp2_with fail
  refine (speaks9 _).mono ?_
  rintro e w1 ⟨rfl, hb⟩
  have B1 := Lib.hid hb
  clear hb
  by_cases k1 : 100 < len
  · have d1 : decide (100 < len) = true := by simpa using k1
    have d1' : decide ((100 : Int) < (len : Int)) = true := by simp; omega
    go_wp2_with fail
    go_ret
    exact ⟨rfl, B1.out⟩
  have d1 : decide (100 < len) = false := by simpa using k1
  have d1' : decide ((100 : Int) < (len : Int)) = false := by simp; omega
  have gB : Hid (∀ j, (f (len - 1 - j)).1 < 18446744073709551616 ∧ (f (len - 1 - j)).2 < 18446744073709551616) := fun j => h.out.1 _
  have SB := Lib.hid (sum_back f len)
  generalize hg : (fun j => f (len - 1 - j)) = g at *
  have HG := Lib.hid hg
  clear hg
  go_wp2_with fail
  go_loopw [3, 17] (fun v u wr => ∃ (k : Nat), k ≤ len ∧ u = .int .i64 k ∧ OpRow wr v (opsOf g k) ∧ (∀ q, v.ownBlock = some q → w.heap.size ≤ q) ∧ Below w.heap.size w wr) (fun _ u _ => len - (intOf u).toNat)
  case atStart => exact ⟨0, Nat.zero_le _, rfl, ORow.nil _, (fun q hq => by cases hq), B1.out⟩
  case round =>
    obtain ⟨k, hk, rfl, hA, hq, hb⟩ := hrel
    have AR := Lib.hid hA
    have QR := Lib.hid hq
    have XR := Lib.hid hb
    clear hA hq hb B1
    by_cases hl2 : k < len
    · have l3 : (k : Int) < (len : Int) := by omega
      obtain ⟨bb, off, rfl, q0, q1⟩ := (h.out.next XR.out).at (show len - 1 - k < len by omega)
      have OS := Lib.hid (opsOf_succ g k)
      have OL := Lib.hid (opsOf_len g k)
      have gk : Hid (g k = f (len - 1 - k)) := by show _ = _; rw [← HG.out]
      rw [gk.out] at OS
      rcases hz : f (len - 1 - k) with ⟨A, B⟩
      rw [hz] at q0 q1 OS
      obtain ⟨n1, n2, n3⟩ := one_new wr (.cells #[.int .u64 (A : Int), .int .u64 (B : Int)] 40)
      have A7 := ORow.next AR.out n2
      have XR7 := Lib.hid (below_two XR.out n2)
      have hs6 := XR.out.size
      have hs7 := XR7.out.size
      obtain ⟨v', w8, hrun, p1, p2, p3, bq, cq, rfl⟩ := OpRow.app (x := (A, B)) A7 n1 (by rw [OL.out]; omega) 22
      have A8 := Lib.hid p1
      have XR8 := Lib.hid (app_below' XR7.out (by omega) p2 (fun k hk => QR.out k hk))
      have QR8 : Hid (w.heap.size ≤ bq) := by
        rcases p3 with e | e
        · exact QR.out bq e.symm
        · have e' : bq = wr.heap.size + 1 := by simpa [Value.ownBlock] using e
          show w.heap.size ≤ bq; omega
      have EI : (len : Int) - 1 - (k : Int) = ((len - 1 - k : Nat) : Int) := by omega
      have HI : len - 1 - k < len := by omega
      generalize len - 1 - k = m at *
      go_wp2_with (at_builtin; refine wpList_append_by rfl _ _ 22 22 rfl u3 (.slice (some ⟨wr.heap.size, 0, none⟩) 1 1) (by rfl) (by rfl) hrun ?_)
      go_wp2_with fail
      go_roundw
      case rel => exact ⟨k + 1, by omega, by go_num, by rw [OS.out]; exact A8.out, (fun q hq => by (have e : bq = q := by simpa [Value.ownBlock] using hq); rw [← e]; exact QR8.out), XR8.out⟩
      case measure => simp [intOf]; omega
    · obtain rfl : k = len := by omega
      obtain ⟨ag, cg, rfl, RG⟩ := OpRow.row AR.out (fun x hx => by simp [opsOf] at hx; obtain ⟨j, _, rfl⟩ := hx; rw [← HG.out]; exact gB.out j)
      rw [opsOf_len] at RG ⊢
      have RG0 : Hid (RowO wr ag k g) := ⟨fun j => by rw [← HG.out]; exact gB.out j, fun h0 => by
        obtain ⟨b, off, e, hl, hc⟩ := RG.2 h0
        refine ⟨b, off, e, hl, fun j hj => ?_⟩
        have := hc j hj
        have e2 : (opsOf g k).getD j (0, 0) = g j := by simp [opsOf, hj]
        simp only [e2] at this
        exact this⟩
      clear RG AR QR
      go_wp2_with fail
      refine (replay_c2 a k cap f _ (Lib.hid (h.out.next XR.out)) (by omega)).mono ?_
      rintro e w2 ⟨aa, ca, b, rfl, R2, c2, l2, hb⟩
      have B2 := Lib.hid (below_two XR.out hb)
      have RA := Lib.hid R2
      have RG2 := Lib.hid (RG0.out.next hb)
      clear hb R2 RG0
      go_wp2_with fail
      refine (replay_c2 ag k cg g _ RG2 (by omega)).mono ?_
      rintro e w3 ⟨ab, cb, b3, rfl, R3, c3, l3, hb⟩
      have B3 := Lib.hid (below_two B2.out hb)
      have RB := Lib.hid R3
      have RA3 := Lib.hid (RA.out.next hb)
      have RG3 := Lib.hid (RG2.out.next hb)
      have c2' := (hb.cell (p := ⟨b, 0, none⟩) l2).trans c2
      rw [SB.out] at c3
      clear hb R3 RA RG2 c2
      generalize hsum : sumN f k = sm at *
      go_wp2_with fail
      have k0 := cell_regrown c2'
      have k1 := cell_regrown c3
      refine wp_region_quiet_below (by kernel_rfl) (by kernel_rfl) ?_
      repeat (go_big_quiet_step (fail))
      refine wpQuiet_nil ?_
      intro _ hwq
      obtain ⟨⟨dq, osq⟩, hwq2⟩ := hwq
      subst hwq2
      have HQ := Lib.hid (below_regrown w3 dq osq)
      have B4 := Lib.hid (below_two B3.out HQ.out)
      have RA4 := Lib.hid (RA3.out.next HQ.out)
      have RB4 := Lib.hid (RB.out.next HQ.out)
      have RG4 := Lib.hid (RG3.out.next HQ.out)
      generalize Sort.grow (redrawn w3 dq) osq = w4 at *
      clear HQ k0 k1
      clear c2' c3 RA3 RB RG3 B3
      go_wp2_with fail
      go_loopw [79] (fun u wq => ∃ (i : Nat), i ≤ k ∧ u = .int .i64 i ∧ Below w4.heap.size w4 wq) (fun u _ => k - (intOf u).toNat)
      case atStart => exact ⟨0, Nat.zero_le _, rfl, Below.refl _ _⟩
      case round =>
        obtain ⟨i, hi, rfl, hb⟩ := hrel
        have XQ := Lib.hid hb
        have B5 := Lib.hid (below_two B4.out hb)
        clear hb
        by_cases hl3 : i < k
        · have l4 : (i : Int) < (k : Int) := by omega
          obtain ⟨b1, o1, rfl, x0, _⟩ := (h.out.next B5.out).at hl3
          obtain ⟨b2, o2, rfl, y0, y1⟩ := (RA4.out.next XQ.out).at hl3
          obtain ⟨b4, o4, rfl, z0, z1⟩ := (RB4.out.next XQ.out).at hl3
          obtain ⟨b6, o6, rfl, v0, _⟩ := (RG4.out.next XQ.out).at hl3
          simp only [if_pos hl3] at y0 y1 z0 z1
          have EF := sum_sub f i (h.out.1 i).1
          have EG := sum_sub g i (RG4.out.1 i).1
          have I0 : (0 : Int) ≤ (i : Int) ∧ (i : Int) < (k : Int) := by omega
          by_cases k0 : 0 < i
          · obtain ⟨p, hp⟩ : ∃ p, i = p + 1 := ⟨i - 1, by omega⟩
            obtain ⟨_, _, e7, _, u1⟩ := (RA4.out.next XQ.out).at (show p < k by omega)
            cases e7
            simp only [if_pos (show p < k by omega)] at u1
            rw [← hp] at u1
            have EI : (i : Int) - 1 = (p : Int) := by omega
            have IP : (0 : Int) ≤ (p : Int) ∧ (p : Int) < (k : Int) := by omega
            have HP := Lib.hid hp
            clear hp
            have dI : decide (0 < i) = true := by simpa using k0
            generalize sumN f (i + 1) = s1 at *
            generalize sumN f i = s0 at *
            generalize sumN g (i + 1) = t1 at *
            generalize sumN g i = t0 at *
            generalize (f i).1 = A at *
            generalize (g i).1 = G at *
            go_wp2_with fail
            have k0 := cell_regrown x0
            have k1 := cell_regrown y0
            have k2 := cell_regrown y1
            have k3 := cell_regrown z0
            have k4 := cell_regrown z1
            have k5 := cell_regrown v0
            have k6 := cell_regrown u1
            refine wp_region_quiet_below (by kernel_rfl) (by kernel_rfl) ?_
            repeat (go_big_quiet_step (fail))
            refine wpQuiet_nil ?_
            intro _ hwq
            obtain ⟨⟨dq, osq⟩, hwq2⟩ := hwq
            subst hwq2
            have HQ := Lib.hid (below_regrown wr dq osq)
            have XQ5 := Lib.hid (below_two XQ.out HQ.out)
            generalize Sort.grow (redrawn wr dq) osq = w6 at *
            clear HQ k0 k1 k2 k3 k4 k5 k6
            clear x0 y0 y1 z0 z1 v0 u1
            go_wp2_with fail
            go_roundw
            case rel => exact ⟨i + 1, by omega, by go_num, XQ5.out⟩
            case measure => simp [intOf]; omega
          · have dI : decide (0 < i) = false := by simpa using k0
            generalize sumN f (i + 1) = s1 at *
            generalize sumN f i = s0 at *
            generalize sumN g (i + 1) = t1 at *
            generalize sumN g i = t0 at *
            generalize (f i).1 = A at *
            generalize (g i).1 = G at *
            go_wp2_with fail
            have k0 := cell_regrown x0
            have k1 := cell_regrown y0
            have k2 := cell_regrown y1
            have k3 := cell_regrown z0
            have k4 := cell_regrown z1
            have k5 := cell_regrown v0
            refine wp_region_quiet_below (by kernel_rfl) (by kernel_rfl) ?_
            repeat (go_big_quiet_step (fail))
            refine wpQuiet_nil ?_
            intro _ hwq
            obtain ⟨⟨dq, osq⟩, hwq2⟩ := hwq
            subst hwq2
            have HQ := Lib.hid (below_regrown wr dq osq)
            have XQ5 := Lib.hid (below_two XQ.out HQ.out)
            generalize Sort.grow (redrawn wr dq) osq = w6 at *
            clear HQ k0 k1 k2 k3 k4 k5
            clear x0 y0 y1 z0 z1 v0
            go_wp2_with fail
            go_roundw
            case rel => exact ⟨i + 1, by omega, by go_num, XQ5.out⟩
            case measure => simp [intOf]; omega
        · obtain rfl : i = k := by omega
          go_wp2_with fail
          go_ret
          exact ⟨rfl, B5.out⟩
end Go.Proofs.Ytmdjhjfmnkileaa
