/-
  The walk of the statement ArenaWithin: addresses within a block, but its first one, are no block's of its class.
-/
import Derived.Test.YtjlklkaaonfpdaaWithin2
namespace Go.Proofs.Ytjlklkaaonfpdaa
open Go.RowKit Go.Sort

theorem has5 (R i : Int) (w : World) (h0 : 0 ≤ R) (h1 : R ≤ 64) (i0 : 0 ≤ i) (i1 : i < R) : Calls Try.prog 32 #[.int .u64 (Ma.lowN R.toNat : Nat), .int .i64 i] w fun e w' => e = .returned (.bool true) ∧ Below w.heap.size w w' := by
  refine (has_yes (Ma.lowN R.toNat) i w (Ma.lowN_lt (by omega)) i0 (by omega)).mono ?_
  rintro e w' ⟨rfl, rfl⟩
  refine ⟨?_, Below.refl _ _⟩
  rw [Ma.testBit_lowN, decide_eq_true (by omega)]
theorem within_blk {S : Int} {len : Nat} {f : Nat → Int} {kk : Nat} {sb ib n : Int} (ok : ClsOk len f) (hkk : kk < len) (s0 : 0 ≤ sb) (s1 : sb < S) (i0 : 0 ≤ ib) (i1 : ib < capI len f (kk : Int)) (n0 : 0 ≤ n) (n1 : n < f kk) :
    blkV (f kk) (65536 + 1024 * sb + ib * f kk + n) (blkB S len f (kk : Int) (65536 + 1024 * sb + ib * f kk + n)) = if n = 0 then .tuple #[.agg #[.int .i64 sb, .int .i64 ib], .bool true] else .tuple #[.agg #[.int .i64 0, .int .i64 0], .bool false] := by
  have hz : szI len f (kk : Int) = f kk := szI_nat hkk
  have z1 := ok.lo kk hkk
  have z2 := ok.hi kk hkk
  split
  · rename_i hn
    subst hn
    rw [Int.add_zero]
    have h := (adr_at (S := S) (a := 65536 + 1024 * sb + ib * f kk) ok s0 s1 i0 i1).1 (by unfold adrI; rw [if_neg (by omega), hz])
    rw [h.1]
    rw [hz] at h
    show Value.tuple #[.agg #[.int .i64 ((65536 + 1024 * sb + ib * f kk - 65536) / 1024), .int .i64 ((65536 + 1024 * sb + ib * f kk - 65536) % 1024 / f kk)], .bool true] = _
    rw [← h.2.1, ← h.2.2]
  · rename_i hn
    have hb : blkB S len f (kk : Int) (65536 + 1024 * sb + ib * f kk + n) = false := by
      rcases hb : blkB S len f (kk : Int) (65536 + 1024 * sb + ib * f kk + n) with _ | _
      · rfl
      · exfalso
        simp only [blkB, Bool.and_eq_true, decide_eq_true_eq] at hb
        obtain ⟨⟨⟨_, _⟩, h3⟩, _⟩ := hb
        rw [hz] at h3
        have hc : capI len f (kk : Int) = 1024 / f kk := by unfold capI; rw [hz, if_neg (by omega)]
        have h1 : (ib + 1) * f kk ≤ capI len f (kk : Int) * f kk := Int.mul_le_mul_of_nonneg_right (by omega) (by omega)
        have h2 : capI len f (kk : Int) * f kk ≤ 1024 := by rw [hc]; exact Int.ediv_mul_le _ (by omega)
        rw [Int.add_mul, Int.one_mul] at h1
        have h4 : 0 ≤ ib * f kk := Int.mul_nonneg i0 (by omega)
        have h5 : (65536 + 1024 * sb + ib * f kk + n - 65536) % 1024 = ib * f kk + n := by omega
        rw [h5, Int.add_comm, Int.add_mul_emod_self_right, Int.emod_eq_of_lt n0 n1] at h3
        exact hn h3
    rw [hb]; rfl

set_option maxRecDepth 20000 in
set_option maxHeartbeats 4000000 in
theorem within5_yes (W S B T : Int) (ad : Option Addr) (len cap : Nat) (f : Nat → Int) (k0 o0 o1 by_ : Nat) (w : World) (hk0 : k0 < 256) (ho0 : o0 < 256) (ho1 : o1 < 256) (hby : by_ < 65536) (hr : Hid (RowI w ad len f)) (hl : len < 9223372036854775808) (hm : Hid (mayB W S B T len f = true)) :
    Calls Try.prog 8 #[.agg #[.int .i64 W, .int .i64 S, .int .i64 B, .int .i64 T, .slice ad len cap, .int .u8 k0, .int .u8 o0, .int .u8 o1, .int .u16 by_]] w fun e w' => e = .returned (.bool true) ∧ Below w.heap.size w w' := by
  have hb0 := below_alloc w (.cells #[.int .i64 W, .int .i64 S, .int .i64 B, .int .i64 T, .slice ad len cap, .int .u8 k0, .int .u8 o0, .int .u8 o1, .int .u16 by_] 48)
  have R0 := Lib.hid (hr.out.next hb0)
  have B0 := Lib.hid hb0
  clear hb0
  go_enter Try.func8, Try.ntmps8
  go_wp2_with fail
  refine (speaks5 _).mono ?_
  rintro e w1 ⟨rfl, hb⟩
  have c0 := (hb.cell (p := ⟨w.heap.size, 0, none⟩) (by simp)).trans (by simp : _ = some (.int .i64 W))
  have c1 := (hb.cell (p := ⟨w.heap.size, 1, none⟩) (by simp)).trans (by simp : _ = some (.int .i64 S))
  have c2 := (hb.cell (p := ⟨w.heap.size, 2, none⟩) (by simp)).trans (by simp : _ = some (.int .i64 B))
  have c3 := (hb.cell (p := ⟨w.heap.size, 3, none⟩) (by simp)).trans (by simp : _ = some (.int .i64 T))
  have c4 := (hb.cell (p := ⟨w.heap.size, 4, none⟩) (by simp)).trans (by simp : _ = some (.slice ad len cap))
  have c5 := (hb.cell (p := ⟨w.heap.size, 5, none⟩) (by simp)).trans (by simp : _ = some (.int .u8 (k0 : Int)))
  have c6 := (hb.cell (p := ⟨w.heap.size, 6, none⟩) (by simp)).trans (by simp : _ = some (.int .u8 (o0 : Int)))
  have c7 := (hb.cell (p := ⟨w.heap.size, 7, none⟩) (by simp)).trans (by simp : _ = some (.int .u8 (o1 : Int)))
  have c8 := (hb.cell (p := ⟨w.heap.size, 8, none⟩) (by simp)).trans (by simp : _ = some (.int .u16 (by_ : Int)))
  have B1 := Lib.hid (below_after B0.out hb)
  have R1 := Lib.hid (R0.out.next hb)
  have hlt : w.heap.size < w1.heap.size := World.block_lt_of_cell? w1 ⟨w.heap.size, 0, none⟩ c0
  clear hb B0 R0
  go_wp2_with fail
  go_cut [3, 4, 5, 6] (fun v3 v4 v5 v6 wx => ∃ p q, v3 = .pointer (some ⟨p, 0, none⟩) ∧ v4 = .int .u8 (k0 : Int) ∧ v5 = .pointer (some ⟨q, 0, none⟩) ∧ v6 = .int .u16 (by_ : Int) ∧ Wi w wx p q W S B T ad len cap f o0 o1)
  case first =>
    go_region
    case' _ =>
      have D := Lib.hid (Wi.new1 (W := W) (S := S) (B := B) (T := T) (cap := cap) (o0 := o0) (o1 := o1) R1.out B1.out _ _ rfl rfl)
    rotate_left
    case' _ =>
      have D := Lib.hid (Wi.new2 (W := W) (S := S) (B := B) (T := T) (cap := cap) (o0 := o0) (o1 := o1) R1.out B1.out _ _ rfl rfl)
    all_goals
      go_wp2_with fail
      go_meet
      case rel => exact ⟨_, _, rfl, rfl, rfl, rfl, D.out⟩
  case rest =>
    obtain ⟨N, M, rfl, rfl, rfl, rfl, dd⟩ := hcut
    have D := Lib.hid dd
    clear dd c0 c1 c2 c3 c4 c5 c6 c7 c8 hlt R1 B1
    obtain ⟨c0, c1, c2, c3, c4⟩ := cfg_cells D.out.c
    go_wp2_with fail
    refine (rmay_any W S B T ad len cap f _ D.out.r hl).mono ?_
    rintro e wb ⟨he, hb⟩
    obtain rfl : e = .returned (.bool true) := by rw [he, hm.out]
    have K2 := Lib.hid (D.out.next hb)
    clear hb D c0 c1 c2 c3 c4 he
    obtain ⟨⟨w1', w2'⟩, ⟨s1, s2⟩, ⟨b1, b2⟩, ⟨t1, t2⟩, ⟨l1, l2⟩, hcls⟩ := may_nums hm.out
    have OK := Lib.hid (cls_ok hcls)
    clear hcls w1' w2' b1 b2 t1 t2
    obtain ⟨c0, c1, c2, c3, c4⟩ := cfg_cells K2.out.c
    have x0 : 0 < (len : Int) := by omega
    go_wp2_with fail
    clear c0 c1 c2 c3 c4
    rw [show (k0 : Int) % (len : Int) = ((k0 % len : Nat) : Int) from by simp] at *
    have hkk : k0 % len < len := Nat.mod_lt _ (by omega)
    generalize k0 % len = kk at *
    have HCP := Lib.hid (fun w hr => cap_any W S B T ad len cap f (kk : Int) w hr OK)
    have HZ := Lib.hid (szI_nat (f := f) hkk)
    have z1 := OK.out.lo kk hkk
    have z2 := OK.out.hi kk hkk
    have HC : Hid (capI len f (kk : Int) = 1024 / f kk) := by show _ = _; unfold capI; rw [HZ.out, if_neg (by omega)]
    have q1 : 2 ≤ capI len f (kk : Int) := by rw [HC.out]; exact Int.le_ediv_of_mul_le (by omega) (by omega)
    have q2 := (capI_bd (k := (kk : Int)) OK.out).2
    obtain ⟨sb, HSB⟩ : ∃ sb, Hid (sb = (o0 : Int) % S) := ⟨_, rfl⟩
    obtain ⟨ib, HIB⟩ : ∃ ib, Hid (ib = (o1 : Int) % capI len f (kk : Int)) := ⟨_, rfl⟩
    have s3 : 0 ≤ sb := by rw [HSB.out]; exact Int.emod_nonneg _ (by omega)
    have s4 : sb < S := by rw [HSB.out]; exact Int.emod_lt_of_pos _ (by omega)
    have i3 : 0 ≤ ib := by rw [HIB.out]; exact Int.emod_nonneg _ (by omega)
    have i4 : ib < capI len f (kk : Int) := by rw [HIB.out]; exact Int.emod_lt_of_pos _ (by omega)
    have HA : adrI S len f (kk : Int) sb ib = 65536 + 1024 * sb + ib * f kk := by unfold adrI; rw [if_neg (by omega), HZ.out]
    have HM : (ib + 1) * f kk ≤ 1024 := by
      have h1 : (ib + 1) * f kk ≤ capI len f (kk : Int) * f kk := Int.mul_le_mul_of_nonneg_right (by omega) (by omega)
      have h2 : capI len f (kk : Int) * f kk ≤ 1024 := by rw [HC.out]; exact Int.ediv_mul_le _ (by omega)
      omega
    rw [Int.add_mul, Int.one_mul] at HM
    have hp0 : 0 ≤ ib * f kk := Int.mul_nonneg i3 (by omega)
    have HV := Lib.hid (fun n h1 h2 => within_blk (n := n) OK.out hkk s3 s4 i3 i4 h1 h2)
    have HAD : Hid (∀ w, Hid (RowI w ad len f) → Calls Try.prog 25 #[.agg #[.int .i64 W, .int .i64 S, .int .i64 B, .int .i64 T, .slice ad len cap], .int .i64 (kk : Int), .agg #[.int .i64 sb, .int .i64 ib]] w fun e w' => e = .returned (.int .i64 (65536 + 1024 * sb + ib * f kk)) ∧ Below w.heap.size w w') := fun w hr => by
      have := address_any W S B T ad len cap f (kk : Int) sb ib w hr OK (by omega) (by omega)
      rw [HA] at this; exact this
    have HBK : Hid (∀ w a, Hid (RowI w ad len f) → Calls Try.prog 22 #[.agg #[.int .i64 W, .int .i64 S, .int .i64 B, .int .i64 T, .slice ad len cap], .int .i64 (kk : Int), .int .i64 a] w fun e w' => e = .returned (blkV (f kk) a (blkB S len f (kk : Int) a)) ∧ Below w.heap.size w w') := fun w a hr => by
      have := block_any W S B T ad len cap f (kk : Int) a w hr OK (by omega) (by omega)
      rw [HZ.out] at this; exact this
    have HAL := Lib.hid (fun w hr => all5_any W S B T ad len cap f (kk : Int) w hr OK)
    have HHA := Lib.hid (fun w => has5 (capI len f (kk : Int)) ib w (by omega) q2 i3 i4)
    clear HA
    generalize capI len f (kk : Int) = R at *
    generalize Ma.lowN R.toNat = L at *
    have hr0 : Int.tmod (o0 : Int) S = sb := by rw [HSB.out]; exact Int.tmod_eq_emod_of_nonneg (by omega)
    have hr1 : Int.tmod (o1 : Int) R = ib := by rw [HIB.out]; exact Int.tmod_eq_emod_of_nonneg (by omega)
    have hwo0 : IntKind.i64.wrap (o0 : Int) = (o0 : Int) := by rw [IntKind.wrap_i64]; omega
    have hwo1 : IntKind.i64.wrap (o1 : Int) = (o1 : Int) := by rw [IntKind.wrap_i64]; omega
    have hS0 : ¬ S = 0 := by omega
    have hR0 : ¬ R = 0 := by omega
    go_cut [8] (fun v8 wx => ∃ nb, v8 = .pointer (some ⟨nb, 0, none⟩) ∧ Two5 wx nb 34 sb ib ∧ Below wb.heap.size wb wx)
    case first =>
      refine wp_region_noPanic ?_
      refine wp_region_held_drew (S := fun w' => Below wb.heap.size wb w') (by kernel_rfl) ((Below.refl _ _).drew) (fun hHeld0 => ?_)
      refine wpAnyH_take (i := 0) (v := .pointer (some ⟨M, 0, none⟩)) rfl (by kernel_rfl) (by kernel_rfl) (by kernel_rfl) (fun _ _ _ h => h) (Or.inl ⟨by rfl, fun w hSw => by go_simp⟩) (by assumption) ?_
      change wpAnyH _ _ _ _ _ _ _ (Act.put _ (some 32) _) _
      simp only [Act.put, List.setIfInBounds_toArray, List.set_cons_zero, List.set_cons_succ]
      refine wpAnyH_take (i := 1) (v := .int .u8 (o0 : Int)) rfl (by kernel_rfl) (by kernel_rfl) (by kernel_rfl) (fun _ _ _ h => h) (Or.inl ⟨by rfl, fun w hSw => by obtain ⟨c0, c1, c2, c3, c4⟩ := cfg_cells (K2.out.next hSw).c; obtain ⟨g0, g1⟩ := (K2.out.next hSw).o.cells; go_simp⟩) (by assumption) ?_
      change wpAnyH _ _ _ _ _ _ _ (Act.put _ (some 33) _) _
      simp only [Act.put, List.setIfInBounds_toArray, List.set_cons_zero, List.set_cons_succ]
      refine wpAnyH_take (i := 2) (v := .int .i64 (o0 : Int)) rfl (by kernel_rfl) (by kernel_rfl) (by kernel_rfl) (fun _ _ _ h => h) (Or.inl ⟨by rfl, fun w hSw => by go_simp⟩) (by assumption) ?_
      change wpAnyH _ _ _ _ _ _ _ (Act.put _ (some 34) _) _
      simp only [Act.put, List.setIfInBounds_toArray, List.set_cons_zero, List.set_cons_succ]
      refine wpAnyH_take (i := 3) (v := .pointer (some ⟨N, 1, none⟩)) rfl (by kernel_rfl) (by kernel_rfl) (by kernel_rfl) (fun _ _ _ h => h) (Or.inl ⟨by rfl, fun w hSw => by go_simp⟩) (by assumption) ?_
      change wpAnyH _ _ _ _ _ _ _ (Act.put _ (some 35) _) _
      simp only [Act.put, List.setIfInBounds_toArray, List.set_cons_zero, List.set_cons_succ]
      refine wpAnyH_take (i := 4) (v := .int .i64 S) rfl (by kernel_rfl) (by kernel_rfl) (by kernel_rfl) (fun _ _ _ h => h) (Or.inl ⟨by rfl, fun w hSw => by obtain ⟨c0, c1, c2, c3, c4⟩ := cfg_cells (K2.out.next hSw).c; obtain ⟨g0, g1⟩ := (K2.out.next hSw).o.cells; go_simp⟩) (by assumption) ?_
      change wpAnyH _ _ _ _ _ _ _ (Act.put _ (some 36) _) _
      simp only [Act.put, List.setIfInBounds_toArray, List.set_cons_zero, List.set_cons_succ]
      refine wpAnyH_take (i := 5) (v := .int .i64 sb) rfl (by kernel_rfl) (by kernel_rfl) (by kernel_rfl) (fun _ _ _ h => h) (Or.inl ⟨by rfl, fun w hSw => by go_simp⟩) (by assumption) ?_
      change wpAnyH _ _ _ _ _ _ _ (Act.put _ (some 37) _) _
      simp only [Act.put, List.setIfInBounds_toArray, List.set_cons_zero, List.set_cons_succ]
      refine wpAnyH_take (i := 6) (v := .pointer (some ⟨M, 1, none⟩)) rfl (by kernel_rfl) (by kernel_rfl) (by kernel_rfl) (fun _ _ _ h => h) (Or.inl ⟨by rfl, fun w hSw => by go_simp⟩) (by assumption) ?_
      change wpAnyH _ _ _ _ _ _ _ (Act.put _ (some 38) _) _
      simp only [Act.put, List.setIfInBounds_toArray, List.set_cons_zero, List.set_cons_succ]
      refine wpAnyH_take (i := 7) (v := .int .u8 (o1 : Int)) rfl (by kernel_rfl) (by kernel_rfl) (by kernel_rfl) (fun _ _ _ h => h) (Or.inl ⟨by rfl, fun w hSw => by obtain ⟨c0, c1, c2, c3, c4⟩ := cfg_cells (K2.out.next hSw).c; obtain ⟨g0, g1⟩ := (K2.out.next hSw).o.cells; go_simp⟩) (by assumption) ?_
      change wpAnyH _ _ _ _ _ _ _ (Act.put _ (some 39) _) _
      simp only [Act.put, List.setIfInBounds_toArray, List.set_cons_zero, List.set_cons_succ]
      refine wpAnyH_take (i := 8) (v := .int .i64 (o1 : Int)) rfl (by kernel_rfl) (by kernel_rfl) (by kernel_rfl) (fun _ _ _ h => h) (Or.inl ⟨by rfl, fun w hSw => by go_simp⟩) (by assumption) ?_
      change wpAnyH _ _ _ _ _ _ _ (Act.put _ (some 40) _) _
      simp only [Act.put, List.setIfInBounds_toArray, List.set_cons_zero, List.set_cons_succ]
      refine wpAnyH_take (i := 9) (v := .agg #[.int .i64 W, .int .i64 S, .int .i64 B, .int .i64 T, .slice ad len cap]) rfl (by kernel_rfl) (by kernel_rfl) (by kernel_rfl) (fun _ _ _ h => h) (Or.inl ⟨by rfl, fun w hSw => by obtain ⟨c0, c1, c2, c3, c4⟩ := cfg_cells (K2.out.next hSw).c; obtain ⟨g0, g1⟩ := (K2.out.next hSw).o.cells; go_simp⟩) (by assumption) ?_
      change wpAnyH _ _ _ _ _ _ _ (Act.put _ (some 41) _) _
      simp only [Act.put, List.setIfInBounds_toArray, List.set_cons_zero, List.set_cons_succ]
      refine wpAnyH_take (i := 10) (v := .int .i64 (kk : Int)) rfl (by kernel_rfl) (by kernel_rfl) (by kernel_rfl) (fun _ _ _ h => h) (Or.inl ⟨by rfl, fun w hSw => by go_simp⟩) (by assumption) ?_
      change wpAnyH _ _ _ _ _ _ _ (Act.put _ (some 42) _) _
      simp only [Act.put, List.setIfInBounds_toArray, List.set_cons_zero, List.set_cons_succ]
      refine wpAnyH_ready (rs := [11, 14]) (by kernel_rfl) (by simp) ?_
      refine AllReadyH.cons rfl (fun K hK => ?_) (AllReadyH.cons rfl (fun K hK => ?_) AllReadyH.nil)
      · go_simp
        refine (HCP.out _ (K2.out.next hHeld0).r).mono ?_
        rintro e y ⟨rfl, hb⟩
        go_wp2_with fail
        refine hK.out _ _ (hHeld0.trans (hb.mono hHeld0.size)) (fun hHeldc => ?_)
        clear hK K
        refine wpAnyH_take (i := 12) (v := .int .i64 ib) rfl (by kernel_rfl) (by kernel_rfl) (by kernel_rfl) (fun _ _ _ h => h) (Or.inl ⟨by rfl, fun w hSw => by go_simp⟩) (by assumption) ?_
        change wpAnyH _ _ _ _ _ _ _ (Act.put _ (some 44) _) _
        simp only [Act.put, List.setIfInBounds_toArray, List.set_cons_zero, List.set_cons_succ]
        refine wpAnyH_take (i := 13) (v := .agg #[.int .i64 sb, .int .i64 ib]) rfl (by kernel_rfl) (by kernel_rfl) (by kernel_rfl) (fun _ _ _ h => h) (Or.inl ⟨by rfl, fun w hSw => by go_simp⟩) (by assumption) ?_
        change wpAnyH _ _ _ _ _ _ _ (Act.put _ (some 45) _) _
        simp only [Act.put, List.setIfInBounds_toArray, List.set_cons_zero, List.set_cons_succ]
        refine wpAnyH_ready (rs := [14]) (by kernel_rfl) (by simp) ?_
        refine AllReadyH.cons rfl (fun K hK => ?_) AllReadyH.nil
        go_simp
        refine hK.out _ _ (below_after hHeldc (below_alloc _ _)) (fun hHeld1 => ?_)
        clear hK K
        refine wpAnyH_ready (rs := [15]) (by kernel_rfl) (by simp) ?_
        refine AllReadyH.cons rfl (fun K hK => ?_) AllReadyH.nil
        go_simp
        refine hK.out _ _ (below_after hHeldc (below_alloc _ _)) (fun hHeld2 => ?_)
        clear hK K
        refine wpAnyH_done (by kernel_rfl) ?_ _
        refine NoPanic.normal ?_
        go_wp2_with fail
        go_meet
        case rel => exact ⟨_, rfl, Two5.new y _ sb ib, hHeld2⟩
      · go_simp
        refine hK.out _ _ (below_after hHeld0 (below_alloc _ _)) (fun hHeld1 => ?_)
        clear hK K
        have d1 : Two5 (wb.drew.alloc (.cells #[.int .i64 0, .int .i64 0] 34)) wb.heap.size 34 0 0 := Two5.new wb.drew 34 0 0
        refine wpAnyH_ready (rs := [11]) (by kernel_rfl) (by simp) ?_
        refine AllReadyH.cons rfl (fun K hK => ?_) AllReadyH.nil
        go_simp
        refine (HCP.out _ (K2.out.next hHeld1).r).mono ?_
        rintro e y ⟨rfl, hb⟩
        go_wp2_with fail
        refine hK.out _ _ (hHeld1.trans (hb.mono hHeld1.size)) (fun hHeldc => ?_)
        clear hK K
        have d2 := Lib.hid (d1.next hb)
        clear d1
        obtain ⟨v0, v1⟩ := d2.out.cells
        have z0 := d2.out.fz 0
        have z1 := d2.out.fz 1
        have HW : Hid (Below wb.heap.size wb y) := hHeldc
        refine wpAnyH_take (i := 12) (v := .int .i64 ib) rfl (by kernel_rfl) (by kernel_rfl) (by kernel_rfl) (fun _ _ _ h => h) (Or.inl ⟨by rfl, fun w hSw => by go_simp⟩) (by assumption) ?_
        change wpAnyH _ _ _ _ _ _ _ (Act.put _ (some 44) _) _
        simp only [Act.put, List.setIfInBounds_toArray, List.set_cons_zero, List.set_cons_succ]
        refine wpAnyH_take (i := 13) (v := .agg #[.int .i64 sb, .int .i64 ib]) rfl (by kernel_rfl) (by kernel_rfl) (by kernel_rfl) (fun _ _ _ h => h) (Or.inl ⟨by rfl, fun w hSw => by go_simp⟩) (by assumption) ?_
        change wpAnyH _ _ _ _ _ _ _ (Act.put _ (some 45) _) _
        simp only [Act.put, List.setIfInBounds_toArray, List.set_cons_zero, List.set_cons_succ]
        refine wpAnyH_ready (rs := [15]) (by kernel_rfl) (by simp) ?_
        refine AllReadyH.cons rfl (fun K hK => ?_) AllReadyH.nil
        go_simp
        refine hK.out _ _ ?_ (fun hHeld2 => ?_)
        · exact (HW.out.setCell (Nat.le_refl _) _).setCell (Nat.le_refl _) _
        clear hK K
        refine wpAnyH_done (by kernel_rfl) ?_ _
        refine NoPanic.normal ?_
        go_wp2_with fail
        go_meet
        case rel => exact ⟨_, rfl, d2.out.set sb ib, hHeld2⟩
    case rest =>
      obtain ⟨nb, rfl, dd, hb⟩ := hcut
      have K3 := Lib.hid (K2.out.next hb)
      have D3 := Lib.hid dd
      clear dd hb K2 hr0 hr1 hwo0 hwo1 HSB HIB HZ HC HCP
      go_wp2_with fail
      obtain ⟨c0, c1, c2, c3, c4⟩ := cfg_cells K3.out.c
      obtain ⟨g0, g1⟩ := D3.out.cells
      have xk : (kk : Int) < (len : Int) := by omega
      obtain ⟨b, off, rfl, hcl⟩ := K3.out.r.at hkk
      generalize hp : ib * f kk = p at *
      generalize hfz : f kk = z at *
      have HFZ := Lib.hid hfz
      have HP := Lib.hid hp
      clear hfz hp
      have k0 := cell_regrown c0
      have k1 := cell_regrown c1
      have k2 := cell_regrown c2
      have k3 := cell_regrown c3
      have k4 := cell_regrown c4
      have k5 := cell_regrown g0
      have k6 := cell_regrown g1
      have k7 := cell_regrown hcl
      clear c0 c1 c2 c3 c4 g0 g1 hcl
      have a1 := fun d os => Calls.regrown_of (HAD.out (grow (redrawn wc d) os) (K3.out.grown d os).r)
      have hz0 : ¬ z = 0 := by omega
      refine wp_region_quiet_below (by kernel_rfl) (by kernel_rfl) ?_
      repeat (go_big_quiet_step (first | exact a1 _ _))
      refine wpQuiet_nil ?_
      intro _ hw'
      obtain ⟨⟨dq, osq⟩, hw''⟩ := hw'
      subst hw''
      have K4 := Lib.hid (K3.out.grown dq osq)
      have D4 := Lib.hid (D3.out.next (below_regrown wc dq osq))
      generalize Sort.grow (redrawn wc dq) osq = wd at *
      clear k0 k1 k2 k3 k4 k5 k6 k7 a1 K3 D3
      obtain ⟨c0, c1, c2, c3, c4⟩ := cfg_cells K4.out.c
      have n0 : 0 ≤ (by_ : Int) % z := Int.emod_nonneg _ hz0
      have n1 : (by_ : Int) % z < z := Int.emod_lt_of_pos _ (by omega)
      generalize (by_ : Int) % z = n at *
      have HW := Lib.hid (HV.out n n0 n1)
      go_wp2_with fail
      refine (HBK.out _ (65536 + 1024 * sb + p + n) K4.out.r).mono ?_
      rintro e we ⟨he, hb⟩
      rw [HW.out] at he
      have K5 := Lib.hid (K4.out.next hb)
      have D5 := Lib.hid (D4.out.next hb)
      clear hb K4 D4 c0 c1 c2 c3 c4 HW
      by_cases hn : n = 0
      · rw [if_pos hn] at he
        subst he hn
        have hba := below_alloc we (.cells #[.int .i64 sb, .int .i64 ib] 34)
        have X6 := Lib.hid (Two5.new we 34 sb ib)
        have K6 := Lib.hid (K5.out.next hba)
        have D6 := Lib.hid (D5.out.next hba)
        clear hba
        go_wp2_with fail
        generalize we.alloc (.cells #[.int .i64 sb, .int .i64 ib] 34) = wf at *
        generalize we.heap.size = nx at *
        clear K5 D5 HV HBK HAD
        obtain ⟨c0, c1, c2, c3, c4⟩ := cfg_cells K6.out.c
        obtain ⟨g0, g1⟩ := D6.out.cells
        obtain ⟨x0', x1'⟩ := X6.out.cells
        obtain ⟨b', off', hb', hcl⟩ := K6.out.r.at hkk
        obtain ⟨rfl, rfl⟩ : b = b' ∧ off = off' := by simp at hb'; exact hb'
        clear hb'
        rw [HFZ.out] at hcl
        have k0 := cell_regrown c0
        have k1 := cell_regrown c1
        have k2 := cell_regrown c2
        have k3 := cell_regrown c3
        have k4 := cell_regrown c4
        have k5 := cell_regrown g0
        have k6 := cell_regrown g1
        have k7 := cell_regrown hcl
        have k8 := cell_regrown x0'
        have k9 := cell_regrown x1'
        clear c0 c1 c2 c3 c4 g0 g1 hcl x0' x1'
        have a1 := fun d os => Calls.regrown_of (HAL.out (grow (redrawn wf d) os) (K6.out.grown d os).r)
        have a2 := fun d os => Calls.regrown_of (HHA.out (grow (redrawn wf d) os))
        have d9 : decide (65536 + 1024 * sb + p + z ≤ 65536 + 1024 * (sb + 1)) = true := by simp; omega
        have w9 : 65536 + 1024 * sb + p + z ≤ 65536 + 1024 * (sb + 1) := by omega
        refine wp_region_quiet_below (by kernel_rfl) (by kernel_rfl) ?_
        repeat (go_big_quiet_step (first | exact a1 _ _ | exact a2 _ _))
        refine wpQuiet_nil ?_
        intro _ hw'
        obtain ⟨⟨dq, osq⟩, hw''⟩ := hw'
        subst hw''
        have K9 := Lib.hid (K6.out.grown dq osq)
        generalize Sort.grow (redrawn wf dq) osq = wg at *
        clear k0 k1 k2 k3 k4 k5 k6 k7 k8 k9 a1 a2 K6
        go_wp2_with fail
        go_ret
        exact ⟨rfl, K9.out.b⟩
      · rw [if_neg hn] at he
        subst he
        have hn' : (n == 0) = false := by simpa using hn
        have hba := below_alloc we (.cells #[.int .i64 0, .int .i64 0] 34)
        have X6 := Lib.hid (Two5.new we 34 0 0)
        have K6 := Lib.hid (K5.out.next hba)
        have D6 := Lib.hid (D5.out.next hba)
        clear hba
        go_wp2_with fail
        generalize we.alloc (.cells #[.int .i64 0, .int .i64 0] 34) = wf at *
        generalize we.heap.size = nx at *
        clear K5 D5 HV HBK HAD
        obtain ⟨c0, c1, c2, c3, c4⟩ := cfg_cells K6.out.c
        obtain ⟨g0, g1⟩ := D6.out.cells
        obtain ⟨x0', x1'⟩ := X6.out.cells
        obtain ⟨b', off', hb', hcl⟩ := K6.out.r.at hkk
        obtain ⟨rfl, rfl⟩ : b = b' ∧ off = off' := by simp at hb'; exact hb'
        clear hb'
        rw [HFZ.out] at hcl
        have k0 := cell_regrown c0
        have k1 := cell_regrown c1
        have k2 := cell_regrown c2
        have k3 := cell_regrown c3
        have k4 := cell_regrown c4
        have k5 := cell_regrown g0
        have k6 := cell_regrown g1
        have k7 := cell_regrown hcl
        have k8 := cell_regrown x0'
        have k9 := cell_regrown x1'
        clear c0 c1 c2 c3 c4 g0 g1 hcl x0' x1'
        have a1 := fun d os => Calls.regrown_of (HAL.out (grow (redrawn wf d) os) (K6.out.grown d os).r)
        have a2 := fun d os => Calls.regrown_of (HHA.out (grow (redrawn wf d) os))
        have d9 : decide (65536 + 1024 * sb + p + z ≤ 65536 + 1024 * (sb + 1)) = true := by simp; omega
        have w9 : 65536 + 1024 * sb + p + z ≤ 65536 + 1024 * (sb + 1) := by omega
        refine wp_region_quiet_below (by kernel_rfl) (by kernel_rfl) ?_
        repeat (go_big_quiet_step (first | exact a1 _ _ | exact a2 _ _))
        refine wpQuiet_nil ?_
        intro _ hw'
        obtain ⟨⟨dq, osq⟩, hw''⟩ := hw'
        subst hw''
        have K9 := Lib.hid (K6.out.grown dq osq)
        generalize Sort.grow (redrawn wf dq) osq = wg at *
        clear k0 k1 k2 k3 k4 k5 k6 k7 k8 k9 a1 a2 K6
        go_wp2_with fail
        go_ret
        exact ⟨rfl, K9.out.b⟩

theorem within5_walk (W S B T : Int) (ad : Option Addr) (len cap : Nat) (f : Nat → Int) (k0 o0 o1 by_ : Nat) (w : World) (hk0 : k0 < 256) (ho0 : o0 < 256) (ho1 : o1 < 256) (hby : by_ < 65536) (hr : RowI w ad len f) (hl : len < 9223372036854775808) :
    Calls Try.prog 8 #[.agg #[.int .i64 W, .int .i64 S, .int .i64 B, .int .i64 T, .slice ad len cap, .int .u8 k0, .int .u8 o0, .int .u8 o1, .int .u16 by_]] w fun e w' => e = .returned (.bool true) ∧ Below w.heap.size w w' := by
  rcases h : mayB W S B T len f with _ | _
  · exact within5_no W S B T ad len cap f k0 o0 o1 by_ w hr hl h
  · exact within5_yes W S B T ad len cap f k0 o0 o1 by_ w hk0 ho0 ho1 hby hr hl h

end Go.Proofs.Ytjlklkaaonfpdaa
