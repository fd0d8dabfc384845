/-
  The walk of the statement WholeRoom: the words of the state of any system that may be fit a memory; each superblock's blocks a set; each access to them one step.
-/
import Derived.Test.YtnjgajkcoahefaaWMemOwn
import Derived.Test.YtnjgajkcoahefaaWConfBounds
import Derived.Test.YtnjgajkcoahefaaMask2
namespace Go.Proofs.Ytnjgajkcoahefaa
open Go.RowKit

theorem low_count : ∀ k, k < 65 → Ma.popF 64 (Ma.lowN k) = k := by decide +kernel
theorem low_k (k : Nat) (w : World) (h : k ≤ 64) : Calls Try.prog 39 #[.int .i64 k] w fun e w' => e = .returned (.int .u64 (Ma.lowN k : Nat)) ∧ w = w' := low_yes k w (by omega) (by omega)
theorem count_k (k : Nat) (w : World) (h : k ≤ 64) : Calls Try.prog 40 #[.int .u64 (Ma.lowN k : Nat)] w fun e w' => e = .returned (.int .i64 k) ∧ w = w' := by
  have := count_any (Ma.lowN k) w (Ma.lowN_lt h)
  rw [low_count k (by omega)] at this
  exact this
theorem new_3 (w : World) : Calls Try.prog 16 #[.int .i64 3] w fun e w' => ∃ g h, e = .returned (.pointer (some ⟨g, 0, none⟩)) ∧ MemAt w' g h (MSt.fresh 3) ∧ w.heap.size ≤ g ∧ w.heap.size ≤ h ∧ Below w.heap.size w w' := new_nat 3 3 w (.inr (.inl ⟨rfl, by decide⟩))

/-- The state of the statement: the memory, and the system. -/
structure Room (w00 w : World) (N g h : Nat) (s : MSt) (W S B T : Int) (cl : Value) : Prop where
  mem : MemAt w g h s
  cfg : Cfg5 w N W S B T cl
  lg : N + 1 ≤ g
  lh : N + 1 ≤ h
  bel : Below N w00 w
theorem Room.next {w00 w w' : World} {N g h : Nat} {s s' : MSt} {W S B T : Int} {cl : Value} (d : Room w00 w N g h s W S B T cl) (e : Else g h w w') (m : MemAt w' g h s') : Room w00 w' N g h s' W S B T cl :=
  ⟨m, (e.block N (cfg_lt d.cfg) (by have := d.lg; omega) (by have := d.lh; omega)).trans d.cfg, d.lg, d.lh, d.bel.trans (e.below (by have := d.lg; omega) (by have := d.lh; omega) (Nat.le_of_lt (cfg_lt d.cfg)))⟩

theorem MemAt.drewW {w : World} {g h : Nat} {s : MSt} (m : MemAt w g h s) : MemAt w.drew g h s := ⟨m.head, m.body, m.ne, m.len⟩
theorem room_len {w : World} {g h q : Nat} {f : Nat → Nat} {k : Nat} {kd a : Int} (m : MemAt w g h ⟨filled f q q, k, 0, kd, a⟩) : Calls Try.prog 22 #[.pointer (some ⟨g, 0, none⟩)] w fun e w' => e = .returned (.int .i64 q) ∧ w = w' := by
  have := len_any g h _ w m
  rw [show (MSt.mk (filled f q q) k 0 kd a).ws.length = q from filled_len f q q] at this
  exact this
theorem room_ops {w : World} {g h q : Nat} {f : Nat → Nat} {k : Nat} {kd a : Int} (m : MemAt w g h ⟨filled f q q, k, 0, kd, a⟩) : Calls Try.prog 19 #[.pointer (some ⟨g, 0, none⟩)] w fun e w' => e = .returned (.int .i64 k) ∧ w = w' := ops_any g h _ w m
theorem room_faults {w : World} {g h q : Nat} {f : Nat → Nat} {k : Nat} {kd a : Int} (m : MemAt w g h ⟨filled f q q, k, 0, kd, a⟩) : Calls Try.prog 20 #[.pointer (some ⟨g, 0, none⟩)] w fun e w' => e = .returned (.int .i64 0) ∧ w = w' := faults_any g h _ w m
theorem room_peek {w : World} {g h q x : Nat} {k : Nat} {kd a : Int} (m : MemAt w g h ⟨filled (fun _ => x) q q, k, 0, kd, a⟩) (hq : 1 ≤ q) : Calls Try.prog 26 #[.pointer (some ⟨g, 0, none⟩), .int .i64 ((q : Int) - 1)] w fun e w' => e = .returned (.int .u64 (x : Int)) ∧ w = w' := by
  have := own_peek (i := q - 1) m (by omega)
  rw [show ((q - 1 : Nat) : Int) = (q : Int) - 1 from by omega] at this
  exact this

set_option maxRecDepth 20000 in
set_option maxHeartbeats 4000000 in
theorem room_yes (W S B T : Int) (x : Nat) (ad : Option Addr) (len cap : Nat) (f : Nat → Int) (w : World) (hr : Hid (RowI w ad len f)) (hl : len < 9223372036854775808) (hm : Hid (mayB W S B T len f = true)) :
    Calls Try.prog 14 #[.agg #[.int .i64 W, .int .i64 S, .int .i64 B, .int .i64 T, .slice ad len cap], .int .u64 x] w fun e w' => e = .returned (.bool true) ∧ Below w.heap.size w w' := by
  have B0 := Lib.hid (below_alloc w (.cells #[.int .i64 W, .int .i64 S, .int .i64 B, .int .i64 T, .slice ad len cap] 48))
  have C0 := Lib.hid (cfg_new w W S B T (.slice ad len cap))
  obtain ⟨⟨w1, w2⟩, ⟨s1, s2⟩, ⟨b1, b2⟩, ⟨t1, t2⟩, ⟨l1, l2⟩, hcls⟩ := may_nums hm.out
  have HCL := Lib.hid hcls
  clear hcls
  obtain ⟨q, hq⟩ : ∃ q : Nat, 2 * S = (q : Int) := ⟨(2 * S).toNat, by omega⟩
  have q1 : 2 ≤ q := by omega
  have q2 : q ≤ 128 := by omega
  have HQ := Lib.hid hq
  have HST := Lib.hid (fun w => state_any W S B T (.slice ad len cap) w (by omega) (by omega))
  have HBA := Lib.hid (fun w => bound_any W S B T (.slice ad len cap) w (by omega) (by omega) (by omega) (by omega) t1 (by omega))
  have HAA := Lib.hid (fun w => attempt_any (2 * S) W w (by omega) (by omega) (by omega) (by omega))
  have hga := bound_att W S T t1 (by omega) (by omega)
  have hgq : 2 * S < attI (2 * S) W := by unfold attI; omega
  rw [hq] at HST HAA hga hgq
  generalize boundI W S T = R at *
  generalize attI (q : Int) W = AT at *
  clear hq
  go_enter Try.func14, Try.ntmps14
  go_wp2_with fail
  generalize w.alloc (.cells #[.int .i64 W, .int .i64 S, .int .i64 B, .int .i64 T, .slice ad len cap] 48) = w0 at *
  generalize hN : w.heap.size = N at *
  refine (new_3 _).mono ?_
  rintro e wa ⟨g0, h0, rfl, m0, _, _, hb⟩
  have C1 := Lib.hid (cfg_next C0.out hb)
  have B1 : Hid (Below N w wa) := B0.out.trans (hb.mono (Nat.le_of_lt (cfg_lt C0.out)))
  clear hb C0
  go_wp2_with fail
  refine (fresh_len _ m0).mono ?_
  rintro e w' ⟨rfl, rfl⟩
  clear m0
  obtain ⟨c0, c1, c2, c3, c4⟩ := cfg_cells C1.out
  go_wp2_with fail
  refine (check_any W S B T ad len cap f _ (hr.out.next (by rw [hN]; exact B1.out)) hl).mono ?_
  rintro e wb ⟨he, hb⟩
  have he' : e = .returned (.int .i64 0) := by rw [he, hm.out]; rfl
  subst he'
  have C2 := Lib.hid (cfg_next C1.out hb)
  have B2 : Hid (Below N w wb) := B1.out.trans (hb.mono (Nat.le_of_lt (cfg_lt C1.out)))
  clear hb C1 c0 c1 c2 c3 c4 he
  obtain ⟨c0, c1, c2, c3, c4⟩ := cfg_cells C2.out
  go_wp2_with fail
  refine (HST.out _).mono ?_
  rintro e wc ⟨rfl, hb⟩
  have C3 := Lib.hid (cfg_next C2.out hb)
  have B3 : Hid (Below N w wc) := B2.out.trans (hb.mono (Nat.le_of_lt (cfg_lt C2.out)))
  clear hb C2 c0 c1 c2 c3 c4
  go_wp2_with fail
  refine (new_len q _ (by omega)).mono ?_
  rintro e wd ⟨g, h, rfl, md, hg, hh, hb⟩
  have lc := cfg_lt C3.out
  have D4 : Hid (Room w wd N g h (MSt.fresh q) W S B T (.slice ad len cap)) := ⟨md, cfg_next C3.out hb, by omega, by omega, B3.out.trans (hb.mono (Nat.le_of_lt lc))⟩
  clear hb hg hh md C3 lc
  go_wp2_with fail
  go_loopw [27] (fun u wr => ∃ (i : Nat) (kd a : Int), i ≤ q ∧ u = .int .i64 i ∧ Room w wr N g h ⟨filled (fun _ => x) i q, i, 0, kd, a⟩ W S B T (.slice ad len cap)) (fun u _ => q - (intOf u).toNat)
  case atStart => exact ⟨0, 0, 0, Nat.zero_le _, rfl, by rw [filled_zero]; exact D4.out⟩
  case round =>
    obtain ⟨i, kd, a, hi, rfl, d⟩ := hrel
    have D := Lib.hid d
    clear d D4
    by_cases hlt : i < q
    · have l3 : (i : Int) < (q : Int) := by omega
      go_wp2_with fail
      refine (own_store D.out.mem hlt (by omega)).mono ?_
      rintro e w5 ⟨rfl, m5, e5⟩
      have D5 := Lib.hid (D.out.next e5 m5)
      clear e5 m5
      go_wp2_with fail
      go_roundw
      case rel => exact ⟨i + 1, 2, i, by omega, by go_num, D5.out⟩
      case measure => simp [intOf]; omega
    · obtain rfl : i = q := by omega
      obtain ⟨c0, c1, c2, c3, c4⟩ := cfg_cells D.out.cfg
      go_wp2_with fail
      go_loop [38] (fun u => ∃ j : Nat, j ≤ len ∧ u = .int .i64 j) (fun u => len - (intOf u).toNat)
      case atStart => exact ⟨0, Nat.zero_le _, rfl⟩
      case round =>
        obtain ⟨j, hj, rfl⟩ := hrel
        by_cases hjl : j < len
        · obtain ⟨b, off, rfl, hcell⟩ := (hr.out.next (by rw [hN]; exact D.out.bel)).at hjl
          have hcj := clsTo_at HCL.out hjl
          have z1 : 16 ≤ f j := by simp [clsAt] at hcj; omega
          have z2 : f j ≤ 512 := by simp [clsAt] at hcj; omega
          clear hcj
          generalize f j = z at *
          obtain ⟨k, hk⟩ : ∃ k : Nat, 1024 / z = (k : Int) := ⟨(1024 / z).toNat, by have := Int.ediv_nonneg (show (0 : Int) ≤ 1024 by decide) (show 0 ≤ z by omega); omega⟩
          have k1 : 2 ≤ k := by have : 2 ≤ 1024 / z := by rw [Int.le_ediv_iff_mul_le (by omega)]; omega
                                omega
          have k2 : k ≤ 64 := by have : 1024 / z < 65 := by rw [Int.ediv_lt_iff_lt_mul (by omega)]; omega
                                 omega
          have l3 : (j : Int) < (len : Int) := by omega
          go_wp2_with fail
          refine (low_k k _ k2).mono ?_
          rintro e w' ⟨rfl, rfl⟩
          go_wp2_with fail
          refine (count_k k _ k2).mono ?_
          rintro e w' ⟨rfl, rfl⟩
          go_wp2_with fail
          go_round
          case rel => exact ⟨j + 1, by omega, by go_num⟩
          case measure => simp [intOf]; omega
        · obtain rfl : j = len := by omega
          have MD := MemAt.drewW D.out.mem
          have HLn := Lib.hid (room_len MD)
          have HOp := Lib.hid (room_ops MD)
          have HFt := Lib.hid (room_faults MD)
          have HPk := Lib.hid (room_peek MD (by omega))
          have hw1 : IntKind.i64.wrap ((i : Int) - 1) = (i : Int) - 1 := by rw [IntKind.wrap_i64]; omega
          have lw : N < wr.drew.heap.size := cfg_lt D.out.cfg
          have hRi : (i : Int) < R := by omega
          clear MD
          go_wp2_with fail
          go_region_held3 (fun w' => w'.cell? ⟨N, 0, none⟩ = some (.int .i64 W) ∧ w'.cell? ⟨N, 1, none⟩ = some (.int .i64 S) ∧ w'.cell? ⟨N, 2, none⟩ = some (.int .i64 B) ∧ w'.cell? ⟨N, 3, none⟩ = some (.int .i64 T) ∧ w'.cell? ⟨N, 4, none⟩ = some (.slice ad j cap)) (first | (go_keep; done) | with_reducible exact ⟨sP0, sP1, sP2, sP3, sP4⟩ | with_reducible exact ⟨sQ0, sQ1, sQ2, sQ3, sQ4⟩) ((first | (go_at_call 22; refine HLn.out.mono ?_; rintro e w' ⟨rfl, rfl⟩) | (go_at_call 19; refine HOp.out.mono ?_; rintro e w' ⟨rfl, rfl⟩) | (go_at_call 20; refine HFt.out.mono ?_; rintro e w' ⟨rfl, rfl⟩) | (go_at_call 26; refine HPk.out.mono ?_; rintro e w' ⟨rfl, rfl⟩) | (go_at_call 32; refine (HBA.out wr.drew).mono ?_; rintro e wSP ⟨rfl, hbP⟩; have lP : N < wSP.heap.size := Nat.lt_of_lt_of_le lw hbP.size; have sP0 := (hbP.cell (p := ⟨N, 0, none⟩) lw).trans c0; have sP1 := (hbP.cell (p := ⟨N, 1, none⟩) lw).trans c1; have sP2 := (hbP.cell (p := ⟨N, 2, none⟩) lw).trans c2; have sP3 := (hbP.cell (p := ⟨N, 3, none⟩) lw).trans c3; have sP4 := (hbP.cell (p := ⟨N, 4, none⟩) lw).trans c4) | (go_at_call 32; refine (HBA.out wSP).mono ?_; rintro e wSQ ⟨rfl, hbQ⟩; have lQ : N < wSQ.heap.size := Nat.lt_of_lt_of_le lP hbQ.size; have sQ0 := (hbQ.cell (p := ⟨N, 0, none⟩) lP).trans sP0; have sQ1 := (hbQ.cell (p := ⟨N, 1, none⟩) lP).trans sP1; have sQ2 := (hbQ.cell (p := ⟨N, 2, none⟩) lP).trans sP2; have sQ3 := (hbQ.cell (p := ⟨N, 3, none⟩) lP).trans sP3; have sQ4 := (hbQ.cell (p := ⟨N, 4, none⟩) lP).trans sP4) | (go_at_call 36; refine (HAA.out _).mono ?_; rintro e w9 ⟨rfl, rfl⟩)))
          have BZ : Hid (Below N w wSQ) := (below_drew2 D.out.bel (Nat.le_of_lt lw) hbP).trans (hbQ.mono (Nat.le_of_lt lP))
          clear sP0 sP1 sP2 sP3 sP4 sQ0 sQ1 sQ2 sQ3 sQ4 c0 c1 c2 c3 c4 hbP hbQ
          go_wp2_with fail
          go_ret
          exact ⟨rfl, by rw [hN]; exact BZ.out⟩

set_option maxHeartbeats 1000000 in
theorem room_no (W S B T : Int) (x : Nat) (ad : Option Addr) (len cap : Nat) (f : Nat → Int) (w : World) (hr : Hid (RowI w ad len f)) (hl : len < 9223372036854775808) (hm : Hid (mayB W S B T len f = false)) :
    Calls Try.prog 14 #[.agg #[.int .i64 W, .int .i64 S, .int .i64 B, .int .i64 T, .slice ad len cap], .int .u64 x] w fun e w' => e = .returned (.bool true) ∧ Below w.heap.size w w' := by
  have B0 := Lib.hid (below_alloc w (.cells #[.int .i64 W, .int .i64 S, .int .i64 B, .int .i64 T, .slice ad len cap] 48))
  have C0 := Lib.hid (cfg_new w W S B T (.slice ad len cap))
  go_enter Try.func14, Try.ntmps14
  go_wp2_with fail
  generalize w.alloc (.cells #[.int .i64 W, .int .i64 S, .int .i64 B, .int .i64 T, .slice ad len cap] 48) = w0 at *
  refine (new_3 _).mono ?_
  rintro e wa ⟨g0, h0, rfl, m0, _, _, hb⟩
  have C1 := Lib.hid (cfg_next C0.out hb)
  have B1 := Lib.hid (below_after B0.out hb)
  clear hb C0
  go_wp2_with fail
  refine (fresh_len _ m0).mono ?_
  rintro e w' ⟨rfl, rfl⟩
  clear m0
  obtain ⟨c0, c1, c2, c3, c4⟩ := cfg_cells C1.out
  go_wp2_with fail
  refine (check_any W S B T ad len cap f _ (hr.out.next B1.out) hl).mono ?_
  rintro e wb ⟨he, hb⟩
  have he' : e = .returned (.int .i64 1) := by rw [he, hm.out]; rfl
  subst he'
  have B2 := Lib.hid (below_after B1.out hb)
  clear hb he
  go_wp2_with fail
  go_ret
  exact ⟨rfl, B2.out⟩

theorem room_walk (W S B T : Int) (x : Nat) (ad : Option Addr) (len cap : Nat) (f : Nat → Int) (w : World) (hr : RowI w ad len f) (hl : len < 9223372036854775808) :
    Calls Try.prog 14 #[.agg #[.int .i64 W, .int .i64 S, .int .i64 B, .int .i64 T, .slice ad len cap], .int .u64 x] w fun e w' => e = .returned (.bool true) ∧ Below w.heap.size w w' := by
  rcases h : mayB W S B T len f with _ | _
  · exact room_no W S B T x ad len cap f w hr hl h
  · exact room_yes W S B T x ad len cap f w hr hl h

end Go.Proofs.Ytnjgajkcoahefaa
