/-
  The walk of the statement WholeTags: workers that lay records in turns, each by a tag that nobody holds, never need more tags than there are workers, and one more; and no one who holds a record finds its reference given to another one.
-/
import Derived.Test.YtlpaijobcopbnaaDoorWTagOrder
import Derived.Test.YtlpaijobcopbnaaDoorRowB
import Derived.Deep.CutRange
import Derived.StillTailTactics
namespace Go.Proofs.YtlpaijobcopbnaaDoor
open Go.RowKit Go.Sort Go.Maps

theorem least_zero (w : World) : Calls Tryd.prog 10 #[.slice (some ⟨w.heap.size, 0, none⟩) 1 1] (w.alloc (.cells #[.int .i64 0] 3)) fun e w' => e = .returned (.int .i64 1) ∧ Below (w.alloc (.cells #[.int .i64 0] 3)).heap.size (w.alloc (.cells #[.int .i64 0] 3)) w' := by
  have hr : RowZ (w.alloc (.cells #[.int .i64 0] 3)) (some ⟨w.heap.size, 0, none⟩) 1 (fun _ => 0) := by
    refine ⟨fun j hj => rfl, fun _ => ⟨_, 0, rfl, by simp, fun j hj => ?_⟩⟩
    obtain rfl : j = 0 := by omega
    simp
  have := leastl_any (some ⟨w.heap.size, 0, none⟩) 1 1 (fun _ => 0) _ hr (by omega)
  rw [show mex (pre (fun _ => 0) 1) = 1 from mex_zero] at this
  exact this
theorem size_wt {n : Nat} (h : 1 ≤ n) (h2 : n ≤ 6) : n + 1 ≤ atN 0 1 n n 0 - 0 ∧ atN 0 1 n n 0 - 0 ≤ 300 := by
  have : n = 1 ∨ n = 2 ∨ n = 3 ∨ n = 4 ∨ n = 5 ∨ n = 6 := by omega
  rcases this with rfl | rfl | rfl | rfl | rfl | rfl <;> decide
theorem held0 (n v : Nat) (w : World) (hn : n ≤ 6) (hv : v ≤ 6) : Calls Tryd.prog 23 #[.agg #[.int .i64 0, .int .i64 1, .int .i64 n], .int .i64 v] w fun e w' => e = .returned (.int .i64 ((1 + v : Nat) : Int)) ∧ Below w.heap.size w w' := by
  have := pheld_any 0 1 n v w (by omega) (by omega) (by omega)
  rw [show 0 + 1 + 0 * n + v = 1 + v by omega] at this
  exact this
theorem head0 (n : Nat) (w : World) : Calls Tryd.prog 21 #[.agg #[.int .i64 0, .int .i64 1, .int .i64 n]] w fun e w' => e = .returned (.int .i64 0) ∧ Below w.heap.size w w' := head8_any 0 1 n w
theorem size0 (n : Nat) (w : World) (hn : n ≤ 6) : Calls Tryd.prog 20 #[.agg #[.int .i64 0, .int .i64 1, .int .i64 n]] w fun e w' => e = .returned (.int .i64 ((atN 0 1 n n 0 - 0 : Nat) : Int)) ∧ Below w.heap.size w w' := size8_any 0 1 n w (by omega) (by omega) (by omega)
theorem held00 (n : Nat) (w : World) (hn : n ≤ 6) : Calls Tryd.prog 23 #[.agg #[.int .i64 0, .int .i64 1, .int .i64 n], .int .i64 0] w fun e w' => e = .returned (.int .i64 1) ∧ Below w.heap.size w w' := held0 n 0 w hn (by omega)
/-- The memory between two turns: its head is a reference. -/
structure Wt (w0 wr : World) (mg mh z : Nat) (ms : List Nat) (op : Nat) (kd a : Int) : Prop where
  m : MemAt wr mg mh ⟨ms, op, 0, kd, a⟩
  ml : ms.length = z
  aw : AllW ms
  hd : isRef (ms.getD 0 0)
  b : Below w0.heap.size w0 wr
theorem wt_load {ms : List Nat} {op : Nat} {kd a : Int} {mg mh : Nat} {w : World} (m : MemAt w mg mh ⟨ms, op, 0, kd, a⟩) (hl : 0 < ms.length) (ho : op < 100000) :
    Calls Tryd.prog 22 #[.pointer (some ⟨mg, 0, none⟩), .int .i64 0] w fun e w' => e = .returned (.int .u64 (ms.getD 0 0 : Nat)) ∧ MemAt w' mg mh ⟨ms, op + 1, 0, 1, 0⟩ ∧ Else mg mh w w' := by
  have h := load_any mg mh _ ((0 : Nat) : Int) w m (show op < _ by omega) (show (0 : Nat) < 4611686018427387904 by decide)
  rw [begun_at 1 hl, rd_at hl] at h
  exact h
theorem wt_swing {ms : List Nat} {op : Nat} {kd a : Int} {mg mh x y : Nat} {w : World} (m : MemAt w mg mh ⟨ms, op, 0, kd, a⟩) (hl : 0 < ms.length) (ho : op < 100000) (hx : ms.getD 0 0 = x) :
    Calls Tryd.prog 25 #[.pointer (some ⟨mg, 0, none⟩), .int .i64 0, .int .u64 (x : Int), .int .u64 (y : Int)] w fun e w' => e = .returned (.bool true) ∧ MemAt w' mg mh ⟨ms.set 0 y, op + 1, 0, 4, 0⟩ ∧ Else mg mh w w' := by
  have h := swing_any mg mh _ ((0 : Nat) : Int) x y w m (show op < _ by omega) (show (0 : Nat) < 4611686018427387904 by decide)
  have h1 : MSt.swings ⟨ms, op, 0, kd, a⟩ ((0 : Nat) : Int) x = true := by
    unfold MSt.swings
    rw [rd_at hl, inM_nat, hx]; simp [hl]
  unfold MSt.swung at h
  rw [h1, if_pos rfl, begun_at 4 hl, put_at hl] at h
  exact h
/-- Nobody holds the reference by the tag that was found. -/
theorem none_holds {W K n v : Nat} {f : Nat → Nat} (hW : W < 256) (hK : K < 256) (hn : n ≤ 6) (hv : v < n) : ((f v : Nat) : Int) ≠ ((ofR W K (mex (seen (W : Int) (K : Int) f n)) : Nat) : Int) := fun h => by
  have hm : mex (seen (W : Int) (K : Int) f n) ≤ n := Nat.le_trans (mex_le _) (seen_len _ _ _ _)
  have e : ofR W K (mex (seen (W : Int) (K : Int) f n)) = f v := by omega
  have := (ref_eq hW hK (by omega)).1 e
  exact (mex_spec (seen (W : Int) (K : Int) f n)).2 ((seen_mem _ _ _ _ _).2 ⟨v, hv, this⟩)

set_option maxRecDepth 20000 in
set_option maxHeartbeats 2000000 in
theorem wtags_few (wk n len cap : Nat) (ad : Option Addr) (f : Nat → Nat) (w : World) (hn : n = 1 + wk % 6) (hwk : wk < 256) (hlen : len ≤ 300) (hr0 : RowU w ad len f) (hR0 : RefAt w) :
    Calls Tryd.prog 8 #[.int .u8 wk, .slice ad len cap] w fun e w' => e = .returned (.bool true) ∧ Below w.heap.size w w' := by
  have l1 : (len : Int) ≤ 300 := by omega
  have n1 : 1 ≤ n := by omega
  have n6 : n ≤ 6 := by omega
  have bx := box1 w (.cells #[.int .i64 0, .int .i64 1, .int .i64 (n : Int)] 48)
  have hr := Lib.hid (hr0.next bx)
  have hR := Lib.hid (hR0.next bx)
  have HB0 := Lib.hid fun wx (hb : Below (w.alloc (.cells #[.int .i64 0, .int .i64 1, .int .i64 (n : Int)] 48)).heap.size (w.alloc (.cells #[.int .i64 0, .int .i64 1, .int .i64 (n : Int)] 48)) wx) => below_two bx hb
  have FR : Hid (Fr (w.alloc (.cells #[.int .i64 0, .int .i64 1, .int .i64 (n : Int)] 48)) w.heap.size 0 1 n) := Fr.box w 0 1 n 48
  obtain ⟨z1, z2⟩ := size_wt n1 n6
  have SZ := Lib.hid fun w1 => size0 n w1 n6
  have E6 : Hid ((1 : Int) + (wk : Int) % 6 = (n : Int)) := by show _ = _; omega
  clear hr0 hR0 bx hn
  go_enter Tryd.func8, Tryd.ntmps8
  go_wp2_with fail
  rw [E6.out]
  generalize (wk : Int) % 6 = k6 at *
  clear E6
  generalize atN 0 1 n n 0 - 0 = z at *
  generalize w.alloc (.cells #[.int .i64 0, .int .i64 1, .int .i64 (n : Int)] 48) = wa at *
  generalize hfb : w.heap.size = fb at *
  refine (SZ.out _).mono ?_
  rintro e w1 ⟨rfl, hb⟩
  have B1 := Lib.hid hb
  clear hb SZ
  go_wp2_with fail
  refine (new8 z _ (by omega)).mono ?_
  rintro e w2 ⟨mg, mh, rfl, m2, hg, hh, hb⟩
  have B2 := Lib.hid (below_two B1.out hb)
  have hg' : wa.heap.size ≤ mg := Nat.le_trans B1.out.size hg
  have hh' : wa.heap.size ≤ mh := Nat.le_trans B1.out.size hh
  have M2 := Lib.hid m2
  clear hb hg hh B1 m2
  have LZ := Lib.hid (least_zero w2)
  have BX := Lib.hid (box1 w2 (.cells #[.int .i64 0] 3))
  go_wp2_with fail
  refine LZ.out.mono ?_
  rintro e w3 ⟨rfl, hb⟩
  have B3 := Lib.hid (below_two (below_two B2.out BX.out) hb)
  have M3 := Lib.hid ((M2.out.next BX.out).next hb)
  clear hb LZ BX M2 B2
  obtain ⟨c0, c1, c2⟩ := FR.out.next B3.out
  go_wp2_with fail
  refine (head0 n _).mono ?_
  rintro e w4 ⟨rfl, hb⟩
  have B4 := Lib.hid (below_two B3.out hb)
  have M4 := Lib.hid (M3.out.next hb)
  clear hb M3 B3 c0 c1 c2
  have OF0 := Lib.hid fun w1 (r1 : Hid (RefAt w1)) => of_three 0 0 0 w1 r1
  have RF0 : Hid (isRef (ofR 0 0 0) ∧ ofR 0 0 0 < 18446744073709551616) := ⟨isRef_of (x := 0) (y := 0) (z := 0) (by decide) (by decide) (by decide), ofR_lt _ _ _⟩
  generalize ofR 0 0 0 = x0 at *
  go_wp2_with fail
  refine (OF0.out _ (hR.out.next B4.out)).mono ?_
  rintro e w5 ⟨rfl, hb⟩
  have B5 := Lib.hid (below_two B4.out hb)
  have ST : Hid (Calls Tryd.prog 13 #[.pointer (some ⟨mg, 0, none⟩), .int .i64 0, .int .u64 (x0 : Int)] w5 fun e w' => e = .returned (.tuple #[]) ∧ MemAt w' mg mh ⟨(List.replicate z 0).set 0 x0, 1, 0, 2, 0⟩ ∧ Else mg mh w5 w') := mstore (j := 0) (x := x0) (M4.out.next hb) (by simp; omega) (by decide)
  clear hb M4 B4 OF0
  go_wp2_with fail
  refine ST.out.mono ?_
  rintro e w6 ⟨rfl, m6, hx6⟩
  have W6 : Hid (Wt wa w6 mg mh z ((List.replicate z 0).set 0 x0) 1 2 0) := ⟨m6, by simp, AllW.set (fun x hx => by rw [List.eq_of_mem_replicate hx]; decide) 0 RF0.out.2, by rw [getD_put (by simp; omega), if_pos rfl]; exact RF0.out.1, below_else B5.out hg' hh' hx6⟩
  clear m6 hx6 ST B5
  generalize (List.replicate z 0).set 0 x0 = ms0 at *
  go_wp2_with fail
  go_loopw [43] (fun u wr => ∃ (i op : Nat) (ms : List Nat) (kd a : Int), i ≤ len ∧ u = .int .i64 i ∧ op ≤ 1 + 20 * i ∧ Wt wa wr mg mh z ms op kd a) (fun u _ => len - (intOf u).toNat)
  case atStart => exact ⟨0, 1, ms0, 2, 0, Nat.zero_le _, rfl, by omega, W6.out⟩
  case round =>
    obtain ⟨i, op, ms, kd, a, hi, rfl, hop, hW⟩ := hrel
    have WR := Lib.hid hW
    clear hW W6
    by_cases hl : i < len
    · obtain ⟨b, off, rfl, hcell⟩ := (hr.out.next WR.out.b).at hl
      have hp := hr.out.small i hl
      have l3 : (i : Int) < (len : Int) := by omega
      generalize f i = p at *
      have hn0 : ¬ (n : Int) = 0 := by omega
      have EV : Hid ((p : Int) % (n : Int) = ((p % n : Nat) : Int)) := by show _ = _; omega
      have hv : p % n < n := Nat.mod_lt _ n1
      obtain ⟨c0, c1, c2⟩ := FR.out.next WR.out.b
      go_wp2_with fail
      rw [EV.out]
      generalize p % n = v at *
      clear EV
      refine (head0 n _).mono ?_
      rintro e w4 ⟨rfl, hb⟩
      have B4 := Lib.hid (below_two WR.out.b hb)
      have LD := Lib.hid (wt_load (WR.out.m.next hb) (by rw [WR.out.ml]; omega) (by omega))
      have HD := Lib.hid WR.out.hd
      have HDW := Lib.hid (WR.out.aw.get 0)
      generalize hx : ms.getD 0 0 = x at *
      have HX := Lib.hid hx
      clear hb c0 c1 c2 hx
      go_wp2_with fail
      refine LD.out.mono ?_
      rintro e w5 ⟨rfl, m5, hx5⟩
      have M5 := Lib.hid m5
      have B5 := Lib.hid (below_else B4.out hg' hh' hx5)
      clear m5 hx5 LD B4
      obtain ⟨c0, c1, c2⟩ := FR.out.next B5.out
      by_cases h128 : 128 ≤ p
      · have g128 : decide (128 ≤ (p : Int)) = true := by simp; omega
        go_wp2_with fail
        refine (held0 n v _ n6 (by omega)).mono ?_
        rintro e w6 ⟨rfl, hb⟩
        have B6 := Lib.hid (below_two B5.out hb)
        have ST := Lib.hid (mstore (j := 1 + v) (x := x) (M5.out.next hb) (by rw [WR.out.ml]; omega) (by omega))
        clear hb c0 c1 c2 M5 B5
        go_wp2_with fail
        refine ST.out.mono ?_
        rintro e w7 ⟨rfl, m7, hx7⟩
        have W7 : Hid (Wt wa w7 mg mh z (ms.set (1 + v) x) (op + 1 + 1) 2 ((1 + v : Nat) : Int)) := ⟨m7, by rw [List.length_set]; exact WR.out.ml, WR.out.aw.set _ HDW.out, by rw [getD_put (by rw [WR.out.ml]; omega), if_neg (by omega), HX.out]; exact HD.out, below_else B6.out hg' hh' hx7⟩
        clear m7 hx7 ST B6 WR
        go_wp2_with fail
        go_roundw
        case rel => exact ⟨i + 1, op + 1 + 1, _, _, _, by omega, by go_num, by omega, W7.out⟩
        case measure => simp [intOf]; omega
      · have g128 : decide (128 ≤ (p : Int)) = false := by simp; omega
        go_wp2_with fail
        refine (to_any x _ HDW.out (hR.out.next B5.out)).mono ?_
        rintro e w6 ⟨ht, _, hb⟩
        have he := ht HD.out
        subst he
        have B6 := Lib.hid (below_two B5.out hb)
        have M6 := Lib.hid (M5.out.next hb)
        generalize hX : (toX x : Int) = X at *
        generalize hY : (toY x : Int) = Y at *
        generalize hZ : (toZ x : Int) = Z at *
        clear hb ht hX hY hZ M5 B5 c0 c1 c2
        have F7 := Lib.hid (Rf.box w6 X Y Z 33)
        have B7 := Lib.hid (below_two B6.out (box1 w6 (.cells #[.int .i64 X, .int .i64 Y, .int .i64 Z] 33)))
        have M7 := Lib.hid (M6.out.next (box1 w6 (.cells #[.int .i64 X, .int .i64 Y, .int .i64 Z] 33)))
        obtain ⟨r0, r1, r2⟩ := F7.out
        go_upto_region 19 with fail
        generalize w6.alloc (.cells #[.int .i64 X, .int .i64 Y, .int .i64 Z] 33) = w7 at *
        generalize w6.heap.size = rb1 at *
        go_cut [79] from 44 to 129 (fun v79 wx => ∃ bb : Bool, v79 = .bool bb ∧ wx = w7)
        case first =>
          go_wp2_with fail
          all_goals
            go_meet
            case rel => exact ⟨_, rfl, rfl⟩
        case rest =>
          obtain ⟨bb, rfl, rfl⟩ := hcut
          clear r0 r1 r2 F7
          go_upto_if 79 with fail
          go_cut [13] from 44 to 129 (fun v13 wx => ∃ sd : Nat, sd ≤ 1 ∧ v13 = .int .i64 sd ∧ wx = wc)
          case first =>
            cases bb
            · go_wp2_with fail
              go_meet
              case rel => exact ⟨0, by omega, rfl, rfl⟩
            · go_wp2_with fail
              go_meet
              case rel => exact ⟨1, by omega, rfl, rfl⟩
          case rest =>
            obtain ⟨sd, hsd, rfl, rfl⟩ := hcut
            have FZ := Lib.hid (FR.out.next B7.out)
            have S3 : Hid (∀ wx, Below wa.heap.size wa wx → wx.cell? ⟨fb, 0, none⟩ = some (.int .i64 0) ∧ wx.cell? ⟨fb, 1, none⟩ = some (.int .i64 1) ∧ wx.cell? ⟨fb, 2, none⟩ = some (.int .i64 (n : Int))) := fun wx hb => ⟨(FR.out.next hb).c0, (FR.out.next hb).c1, (FR.out.next hb).c2⟩
            have ml := WR.out.ml
            obtain ⟨f1, hf1⟩ : ∃ f1 : Nat → Nat, ∀ j, f1 j = ms.getD (1 + j) 0 := ⟨fun j => ms.getD (1 + j) 0, fun _ => rfl⟩
            have OK : Hid (∀ wx, Below wa.heap.size wa wx → Ok7 wa wx mg mh 1 n ms f1) := fun wx hb => ⟨by omega, by omega, by omega, fun j _ => hf1 j, WR.out.aw, hR.out, hb, hg', hh'⟩
            have NH := Lib.hid fun (q : Nat) (hq : q < n) => none_holds (W := v) (K := sd) (n := n) (f := f1) (by omega) (by omega) n6 hq
            have PK := Lib.hid fun (q op : Nat) (kd a : Int) (wx : World) (hm : MemAt wx mg mh ⟨ms, op, 0, kd, a⟩) (hq : q < n) => mpeek (j := 1 + q) hm (by omega)
            have HFF : Hid (∀ q, ms.getD (1 + q) 0 = f1 q) := fun q => (hf1 q).symm
            clear hf1
            go_upto_region 21 with fail
            go_cut [14] from 44 to 129 (fun v14 wx => ∃ ga mba, v14 = .pointer (some ⟨ga, 0, none⟩) ∧ Sc wx ga mba mg mh 1 n 0 v sd ms (op + 1) 1 0 f1 ∧ wa.heap.size ≤ ga ∧ wa.heap.size ≤ mba ∧ Below wa.heap.size wa wx)
            case first =>
              refine wp_region_noPanic ?_
              refine wp_region_held_drew (S := fun w' => w'.cell? ⟨fb, 0, none⟩ = some (.int .i64 0) ∧ w'.cell? ⟨fb, 1, none⟩ = some (.int .i64 1) ∧ w'.cell? ⟨fb, 2, none⟩ = some (.int .i64 (n : Int))) (by kernel_rfl) (S3.out _ (below_two B7.out (Below.refl _ wc).drew)) (fun hHeld => ?_)
              have M8 := Lib.hid (M7.out.next (Below.refl _ wc).drew)
              have B8 := Lib.hid (below_two B7.out (Below.refl _ wc).drew)
              generalize wc.drew = x0w at *
              refine wpAnyH_take (i := 0) (v := .pointer (some ⟨mg, 0, none⟩)) rfl (by kernel_rfl) (by kernel_rfl) (by kernel_rfl) (fun _ _ _ h => h) (Or.inl ⟨by rfl, fun w hSw => by go_simp⟩) (by assumption) ?_
              change wpAnyH _ _ _ _ _ _ _ (Act.put _ (some 80) _) _
              simp only [Act.put, List.setIfInBounds_toArray, List.set_cons_zero, List.set_cons_succ]
              refine wpAnyH_take (i := 1) (v := .agg #[.int .i64 0, .int .i64 1, .int .i64 (n : Int)]) rfl (by kernel_rfl) (by kernel_rfl) (by kernel_rfl) (fun _ _ _ h => h) (Or.inl ⟨by rfl, fun w hSw => by obtain ⟨s0, s1, s2⟩ := hSw; go_simp⟩) (by assumption) ?_
              change wpAnyH _ _ _ _ _ _ _ (Act.put _ (some 81) _) _
              simp only [Act.put, List.setIfInBounds_toArray, List.set_cons_zero, List.set_cons_succ]
              refine wpAnyH_take (i := 3) (v := .pointer (some ⟨fb, 2, none⟩)) rfl (by kernel_rfl) (by kernel_rfl) (by kernel_rfl) (fun _ _ _ h => h) (Or.inl ⟨by rfl, fun w hSw => by go_simp⟩) (by assumption) ?_
              change wpAnyH _ _ _ _ _ _ _ (Act.put _ (some 83) _) _
              simp only [Act.put, List.setIfInBounds_toArray, List.set_cons_zero, List.set_cons_succ]
              refine wpAnyH_take (i := 4) (v := .int .i64 (n : Int)) rfl (by kernel_rfl) (by kernel_rfl) (by kernel_rfl) (fun _ _ _ h => h) (Or.inl ⟨by rfl, fun w hSw => by obtain ⟨s0, s1, s2⟩ := hSw; go_simp⟩) (by assumption) ?_
              change wpAnyH _ _ _ _ _ _ _ (Act.put _ (some 84) _) _
              simp only [Act.put, List.setIfInBounds_toArray, List.set_cons_zero, List.set_cons_succ]
              refine wpAnyH_take (i := 5) (v := .int .i64 (v : Int)) rfl (by kernel_rfl) (by kernel_rfl) (by kernel_rfl) (fun _ _ _ h => h) (Or.inl ⟨by rfl, fun w hSw => by go_simp⟩) (by assumption) ?_
              change wpAnyH _ _ _ _ _ _ _ (Act.put _ (some 85) _) _
              simp only [Act.put, List.setIfInBounds_toArray, List.set_cons_zero, List.set_cons_succ]
              refine wpAnyH_take (i := 6) (v := .int .i64 (sd : Int)) rfl (by kernel_rfl) (by kernel_rfl) (by kernel_rfl) (fun _ _ _ h => h) (Or.inl ⟨by rfl, fun w hSw => by go_simp⟩) (by assumption) ?_
              change wpAnyH _ _ _ _ _ _ _ (Act.put _ (some 86) _) _
              simp only [Act.put, List.setIfInBounds_toArray, List.set_cons_zero, List.set_cons_succ]
              refine wpAnyH_ready (rs := [2]) (by kernel_rfl) (by simp) ?_
              refine AllReadyH.cons rfl (fun KK hK => ?_) AllReadyH.nil
              clear hHeld
              go_simp
              refine (held00 n _ n6).mono ?_
              rintro e x1 ⟨rfl, hb⟩
              have B9 := Lib.hid (below_two B8.out hb)
              have M9 := Lib.hid (M8.out.next hb)
              clear hb
              go_wp2_with fail
              refine hK.out _ _ (S3.out _ B9.out) (fun hHeld => ?_)
              clear hK KK hHeld
              refine wpAnyH_ready (rs := [7]) (by kernel_rfl) (by simp) ?_
              refine AllReadyH.cons rfl (fun KK hK => ?_) AllReadyH.nil
              go_simp
              refine (sc_new (A := 1) (n := n) (W := v) (K := sd) f1 M9.out (by omega)).mono ?_
              rintro e x2 ⟨ga, mba, rfl, h10, a1, a2, a3, a4, a5, hb⟩
              have S10 := Lib.hid h10
              have B10 := Lib.hid (below_two B9.out hb)
              have q9 := B9.out.size
              have LG : Hid (wa.heap.size ≤ ga ∧ wa.heap.size ≤ mba) := by show _ ∧ _; omega
              clear hb h10 a1 a2 a3 a4 a5 q9
              go_wp2_with fail
              refine hK.out _ _ (S3.out _ B10.out) (fun hHeld => ?_)
              clear hK KK
              refine wpAnyH_take (i := 8) (v := .pointer (some ⟨ga, 0, none⟩)) rfl (by kernel_rfl) (by kernel_rfl) (by kernel_rfl) (fun _ _ _ h => h) (Or.inl ⟨by rfl, fun w hSw => by go_simp⟩) (by assumption) ?_
              change wpAnyH _ _ _ _ _ _ _ (Act.put _ (some 14) _) _
              simp only [Act.put, List.setIfInBounds_toArray, List.set_cons_zero, List.set_cons_succ]
              refine wpAnyH_done (by kernel_rfl) ?_ _
              refine NoPanic.normal ?_
              go_wp2_with fail
              go_meet
              case rel => exact ⟨ga, mba, rfl, S10.out, LG.out.1, LG.out.2, B10.out⟩
            case rest =>
              obtain ⟨ga, mba, rfl, hS, g1, g2, hB⟩ := hcut
              have S8 := Lib.hid hS
              have B8 := Lib.hid hB
              have LA : Hid (∀ q ∈ [ga, mg, mh, mba], wa.heap.size ≤ q) := fun q hq => by simp at hq; omega
              clear hS hB g1 g2 M7 B7 FZ
              obtain ⟨c0, c1, c2⟩ := FR.out.next B8.out
              go_wp2_with fail
              clear c0 c1 c2
              go_loopw [90] (fun u wq => ∃ (q op2 : Nat) (kd a : Int), q ≤ n ∧ u = .int .i64 q ∧ op2 ≤ op + 1 + q ∧ Sc wq ga mba mg mh 1 n q v sd ms op2 kd a f1 ∧ Below wa.heap.size wa wq) (fun u _ => n - (intOf u).toNat)
              case atStart => exact ⟨0, op + 1, 1, 0, Nat.zero_le _, rfl, by omega, S8.out, B8.out⟩
              case round =>
                obtain ⟨q, op2, kd, a, hq, rfl, hop2, hS, hB⟩ := hrel
                have SQ := Lib.hid hS
                have BQ := Lib.hid hB
                clear hS hB S8 B8
                by_cases hl2 : q < n
                · have l4 : (q : Int) < (n : Int) := by omega
                  go_wp2_with fail
                  refine (sc_step SQ hl2 (by omega) (OK.out _ BQ.out)).mono ?_
                  rintro e w7 ⟨rfl, h7, o7⟩
                  have B7 := Lib.hid (below_only BQ.out o7 LA.out)
                  have A7 := Lib.hid h7
                  clear h7 o7
                  go_wp2_with fail
                  go_roundw
                  case rel => exact ⟨q + 1, op2 + 1, _, _, by omega, by go_num, by omega, A7.out, B7.out⟩
                  case measure => simp [intOf]; omega
                · obtain rfl : q = n := by omega
                  have RFF := Lib.hid (sc_ref SQ.out (by omega))
                  have hM : mex (seen (v : Int) (sd : Int) f1 q) ≤ q := Nat.le_trans (mex_le _) (seen_len _ _ _ _)
                  have YR : Hid (isRef (ofR (v : Int) (sd : Int) (mex (seen (v : Int) (sd : Int) f1 q) : Nat)) ∧ ofR (v : Int) (sd : Int) (mex (seen (v : Int) (sd : Int) f1 q) : Nat) < 18446744073709551616) := ⟨isRef_of (by omega) (by omega) (by omega), ofR_lt _ _ _⟩
                  have OF := Lib.hid fun w1 (r1 : RefAt w1) => of_three (v : Int) (sd : Int) (mex (seen (v : Int) (sd : Int) f1 q) : Nat) w1 r1
                  generalize mex (seen (v : Int) (sd : Int) f1 q) = M at *
                  generalize ofR (v : Int) (sd : Int) (M : Int) = y at *
                  go_wp2_with fail
                  refine RFF.out.mono ?_
                  rintro e w7 ⟨rfl, hb⟩
                  have B7 := Lib.hid (below_two (below_two BQ.out hb) (box1 w7 (.cells #[.int .i64 (v : Int), .int .i64 (sd : Int), .int .i64 (M : Int)] 33)))
                  have M7 := Lib.hid ((SQ.out.mem.next hb).next (box1 w7 (.cells #[.int .i64 (v : Int), .int .i64 (sd : Int), .int .i64 (M : Int)] 33)))
                  have R7 := Lib.hid (Rf.box w7 (v : Int) (sd : Int) (M : Int) 33)
                  have NR : Hid (w7.heap.size ≠ mg ∧ w7.heap.size ≠ mh) := by have := (SQ.out.mem.next hb).lt; show _ ∧ _; omega
                  clear hb RFF SQ BQ
                  obtain ⟨r0, r1, r2⟩ := R7.out
                  obtain ⟨c0, c1, c2⟩ := FR.out.next B7.out
                  have l5 : (M : Int) ≤ (q : Int) := by omega
                  go_wp2_with fail
                  generalize w7.alloc (.cells #[.int .i64 (v : Int), .int .i64 (sd : Int), .int .i64 (M : Int)] 33) = w8 at *
                  generalize w7.heap.size = rb at *
                  clear r0 r1 r2 c0 c1 c2
                  go_loopw [109] (fun u wq => ∃ (t : Nat), t ≤ q ∧ u = .int .i64 t ∧ MemAt wq mg mh ⟨ms, op2, 0, kd, a⟩ ∧ Rf wq rb (v : Int) (sd : Int) (M : Int) ∧ Below wa.heap.size wa wq) (fun u _ => q - (intOf u).toNat)
                  case atStart => exact ⟨0, Nat.zero_le _, rfl, M7.out, R7.out, B7.out⟩
                  case round =>
                    obtain ⟨t, ht, rfl, hm, hrf, hB⟩ := hrel
                    have MZ := Lib.hid hm
                    have RZ := Lib.hid hrf
                    have BZ := Lib.hid hB
                    clear hm hrf hB M7 R7 B7
                    obtain ⟨r0, r1, r2⟩ := RZ.out
                    obtain ⟨c0, c1, c2⟩ := FR.out.next BZ.out
                    have RX := Lib.hid (hR.out.next BZ.out)
                    by_cases hl3 : t < q
                    · have l6 : (t : Int) < (q : Int) := by omega
                      have ne : (((f1 t : Nat) : Int) == (y : Int)) = false := by simpa using NH.out t hl3
                      have PT : Hid (∀ wx, MemAt wx mg mh ⟨ms, op2, 0, kd, a⟩ → Calls Tryd.prog 19 #[.pointer (some ⟨mg, 0, none⟩), .int .i64 ((1 + t : Nat) : Int)] wx fun e w' => e = .returned (.int .u64 (f1 t : Nat)) ∧ wx = w') := fun wx hm => by
                        have := PK.out t op2 kd a wx hm hl3
                        rw [HFF.out] at this
                        exact this
                      have HT := Lib.hid fun wx => held0 q t wx n6 (by omega)
                      generalize f1 t = xt at *
                      generalize 1 + t = ta at *
                      go_wp2_with fail
                      have k0 := cell_regrown c0
                      have k1 := cell_regrown c1
                      have k2 := cell_regrown c2
                      have k3 := cell_regrown r0
                      have k4 := cell_regrown r1
                      have k5 := cell_regrown r2
                      have cA := fun d os => Calls.regrown_of (HT.out (grow (redrawn wr d) os))
                      have cB := fun d os => Calls.regrown_of (calls_still (PT.out (grow (redrawn wr d) os) (MZ.out.next (below_regrown wr d os))))
                      have cC := fun d os => Calls.regrown_of (OF.out (grow (redrawn wr d) os) (RX.out.next (below_regrown wr d os)))
                      refine wp_region_quiet_below (by kernel_rfl) (by kernel_rfl) ?_
                      repeat (go_big_quiet_step (first | exact cA _ _ | exact cB _ _ | exact cC _ _))
                      refine wpQuiet_nil ?_
                      intro _ hwq
                      obtain ⟨⟨dq, osq⟩, hwq2⟩ := hwq
                      subst hwq2
                      have HQ := Lib.hid (below_regrown wr dq osq)
                      have B9 := Lib.hid (below_two BZ.out HQ.out)
                      have M9 := Lib.hid (MZ.out.next HQ.out)
                      have R9 := Lib.hid (RZ.out.next HQ.out)
                      generalize Sort.grow (redrawn wr dq) osq = w9 at *
                      clear HQ k0 k1 k2 k3 k4 k5 cA cB cC
                      go_wp2_with fail
                      go_roundw
                      case rel => exact ⟨t + 1, by omega, by go_num, M9.out, R9.out, B9.out⟩
                      case measure => simp [intOf]; omega
                    · obtain rfl : t = q := by omega
                      clear c0 c1 c2 r0 r1 r2 RX
                      go_upto_region 35 with fail
                      go_cut [128] from 44 to 129 (fun v128 wx => v128 = .bool false ∧ MemAt wx mg mh ⟨ms.set 0 y, op2 + 1, 0, 4, 0⟩ ∧ Below wa.heap.size wa wx)
                      case first =>
                        have S6 : Hid (∀ wx, Below wa.heap.size wa wx → Rf wx rb (v : Int) (sd : Int) (M : Int) → wx.cell? ⟨fb, 0, none⟩ = some (.int .i64 0) ∧ wx.cell? ⟨fb, 1, none⟩ = some (.int .i64 1) ∧ wx.cell? ⟨fb, 2, none⟩ = some (.int .i64 (t : Int)) ∧ wx.cell? ⟨rb, 0, none⟩ = some (.int .i64 (v : Int)) ∧ wx.cell? ⟨rb, 1, none⟩ = some (.int .i64 (sd : Int)) ∧ wx.cell? ⟨rb, 2, none⟩ = some (.int .i64 (M : Int))) := fun wx hb hr => ⟨(S3.out wx hb).1, (S3.out wx hb).2.1, (S3.out wx hb).2.2, hr.c0, hr.c1, hr.c2⟩
                        refine wp_region_noPanic ?_
                        refine wp_region_held_drew (S := fun w' => w'.cell? ⟨fb, 0, none⟩ = some (.int .i64 0) ∧ w'.cell? ⟨fb, 1, none⟩ = some (.int .i64 1) ∧ w'.cell? ⟨fb, 2, none⟩ = some (.int .i64 (t : Int)) ∧ w'.cell? ⟨rb, 0, none⟩ = some (.int .i64 (v : Int)) ∧ w'.cell? ⟨rb, 1, none⟩ = some (.int .i64 (sd : Int)) ∧ w'.cell? ⟨rb, 2, none⟩ = some (.int .i64 (M : Int))) (by kernel_rfl) (S6.out _ (below_two BZ.out (Below.refl _ wr).drew) (RZ.out.next (Below.refl _ wr).drew)) (fun hHeld => ?_)
                        have M8 := Lib.hid (MZ.out.next (Below.refl _ wr).drew)
                        have R8 := Lib.hid (RZ.out.next (Below.refl _ wr).drew)
                        have B8 := Lib.hid (below_two BZ.out (Below.refl _ wr).drew)
                        generalize wr.drew = x0w at *
                        refine wpAnyH_take (i := 0) (v := .pointer (some ⟨mg, 0, none⟩)) rfl (by kernel_rfl) (by kernel_rfl) (by kernel_rfl) (fun _ _ _ h => h) (Or.inl ⟨by rfl, fun w hSw => by go_simp⟩) (by assumption) ?_
                        change wpAnyH _ _ _ _ _ _ _ (Act.put _ (some 121) _) _
                        simp only [Act.put, List.setIfInBounds_toArray, List.set_cons_zero, List.set_cons_succ]
                        refine wpAnyH_take (i := 1) (v := .agg #[.int .i64 0, .int .i64 1, .int .i64 (t : Int)]) rfl (by kernel_rfl) (by kernel_rfl) (by kernel_rfl) (fun _ _ _ h => h) (Or.inl ⟨by rfl, fun w hSw => by obtain ⟨s0, s1, s2, s3, s4, s5⟩ := hSw; go_simp⟩) (by assumption) ?_
                        change wpAnyH _ _ _ _ _ _ _ (Act.put _ (some 122) _) _
                        simp only [Act.put, List.setIfInBounds_toArray, List.set_cons_zero, List.set_cons_succ]
                        refine wpAnyH_take (i := 3) (v := .int .u64 (x : Int)) rfl (by kernel_rfl) (by kernel_rfl) (by kernel_rfl) (fun _ _ _ h => h) (Or.inl ⟨by rfl, fun w hSw => by go_simp⟩) (by assumption) ?_
                        change wpAnyH _ _ _ _ _ _ _ (Act.put _ (some 124) _) _
                        simp only [Act.put, List.setIfInBounds_toArray, List.set_cons_zero, List.set_cons_succ]
                        refine wpAnyH_take (i := 4) (v := .agg #[.int .i64 (v : Int), .int .i64 (sd : Int), .int .i64 (M : Int)]) rfl (by kernel_rfl) (by kernel_rfl) (by kernel_rfl) (fun _ _ _ h => h) (Or.inl ⟨by rfl, fun w hSw => by obtain ⟨s0, s1, s2, s3, s4, s5⟩ := hSw; go_simp⟩) (by assumption) ?_
                        change wpAnyH _ _ _ _ _ _ _ (Act.put _ (some 125) _) _
                        simp only [Act.put, List.setIfInBounds_toArray, List.set_cons_zero, List.set_cons_succ]
                        refine wpAnyH_ready (rs := [2]) (by kernel_rfl) (by simp) ?_
                        refine AllReadyH.cons rfl (fun KK hK => ?_) AllReadyH.nil
                        clear hHeld
                        go_simp
                        refine (head0 t _).mono ?_
                        rintro e x1 ⟨rfl, hb⟩
                        have B9 := Lib.hid (below_two B8.out hb)
                        have M9 := Lib.hid (M8.out.next hb)
                        have R9 := Lib.hid (R8.out.next hb)
                        clear hb
                        go_wp2_with fail
                        refine hK.out _ _ (S6.out _ B9.out R9.out) (fun hHeld => ?_)
                        clear hK KK hHeld
                        refine wpAnyH_ready (rs := [5]) (by kernel_rfl) (by simp) ?_
                        refine AllReadyH.cons rfl (fun KK hK => ?_) AllReadyH.nil
                        go_simp
                        refine (OF.out _ (hR.out.next B9.out)).mono ?_
                        rintro e x2 ⟨rfl, hb⟩
                        have B10 := Lib.hid (below_two B9.out hb)
                        have M10 := Lib.hid (M9.out.next hb)
                        have R10 := Lib.hid (R9.out.next hb)
                        clear hb
                        go_wp2_with fail
                        refine hK.out _ _ (S6.out _ B10.out R10.out) (fun hHeld => ?_)
                        clear hK KK hHeld
                        refine wpAnyH_ready (rs := [6]) (by kernel_rfl) (by simp) ?_
                        refine AllReadyH.cons rfl (fun KK hK => ?_) AllReadyH.nil
                        go_simp
                        refine (wt_swing (x := x) (y := y) M10.out (by omega) (by omega) HX.out).mono ?_
                        rintro e x3 ⟨rfl, m11, hx11⟩
                        have M11 := Lib.hid m11
                        have B11 := Lib.hid (below_else B10.out hg' hh' hx11)
                        have R11 := Lib.hid (R10.out.mem hx11 NR.out.1 NR.out.2)
                        clear m11 hx11
                        go_wp2_with fail
                        refine hK.out _ _ (S6.out _ B11.out R11.out) (fun hHeld => ?_)
                        clear hK KK
                        refine wpAnyH_take (i := 7) (v := .bool false) rfl (by kernel_rfl) (by kernel_rfl) (by kernel_rfl) (fun _ _ _ h => h) (Or.inl ⟨by rfl, fun w hSw => by go_simp⟩) (by assumption) ?_
                        change wpAnyH _ _ _ _ _ _ _ (Act.put _ (some 128) _) _
                        simp only [Act.put, List.setIfInBounds_toArray, List.set_cons_zero, List.set_cons_succ]
                        refine wpAnyH_done (by kernel_rfl) ?_ _
                        refine NoPanic.normal ?_
                        go_wp2_with fail
                        go_meet
                        case rel => exact ⟨rfl, M11.out, B11.out⟩
                      case rest =>
                        obtain ⟨rfl, hm, hB⟩ := hcut
                        have WZ : Hid (Wt wa wc mg mh z (ms.set 0 y) (op2 + 1) 4 0) := ⟨hm, by rw [List.length_set]; exact ml, WR.out.aw.set _ YR.out.2, by rw [getD_put (by omega), if_pos rfl]; exact YR.out.1, hB⟩
                        clear hm hB
                        go_wp2_with fail
                        go_roundw
                        case rel => exact ⟨i + 1, op2 + 1, _, _, _, by omega, by go_num, by omega, WZ.out⟩
                        case measure => simp [intOf]; omega
    · obtain rfl : i = len := by omega
      have MR := Lib.hid WR.out.m
      go_wp2_with fail
      refine (faults_any mg mh _ _ MR.out).mono ?_
      rintro e w' ⟨rfl, rfl⟩
      go_wp2_with fail
      go_ret
      exact ⟨rfl, by rw [hfb]; exact HB0.out _ WR.out.b⟩
set_option maxRecDepth 20000 in
set_option maxHeartbeats 2000000 in
theorem wtags_many (wk n len cap : Nat) (ad : Option Addr) (w : World) (hn : n = 1 + wk % 6) (hwk : wk < 256) (hlen : ¬ len ≤ 300) (hlen2 : len < 9223372036854775808) :
    Calls Tryd.prog 8 #[.int .u8 wk, .slice ad len cap] w fun e w' => e = .returned (.bool true) ∧ Below w.heap.size w w' := by
  have l1 : (300 : Int) < (len : Int) := by omega
  have n1 : 1 ≤ n := by omega
  have n6 : n ≤ 6 := by omega
  have bx := box1 w (.cells #[.int .i64 0, .int .i64 1, .int .i64 (n : Int)] 48)
  have HB0 := Lib.hid fun wx (hb : Below (w.alloc (.cells #[.int .i64 0, .int .i64 1, .int .i64 (n : Int)] 48)).heap.size (w.alloc (.cells #[.int .i64 0, .int .i64 1, .int .i64 (n : Int)] 48)) wx) => below_two bx hb
  obtain ⟨z1, z2⟩ := size_wt n1 n6
  have SZ := Lib.hid fun w1 => size0 n w1 n6
  have E6 : Hid ((1 : Int) + (wk : Int) % 6 = (n : Int)) := by show _ = _; omega
  clear bx hn
  go_enter Tryd.func8, Tryd.ntmps8
  go_wp2_with fail
  rw [E6.out]
  generalize (wk : Int) % 6 = k6 at *
  clear E6
  generalize atN 0 1 n n 0 - 0 = z at *
  generalize w.alloc (.cells #[.int .i64 0, .int .i64 1, .int .i64 (n : Int)] 48) = wa at *
  generalize hfb : w.heap.size = fb at *
  refine (SZ.out _).mono ?_
  rintro e w1 ⟨rfl, hb⟩
  have B1 := Lib.hid hb
  clear hb SZ
  go_wp2_with fail
  refine (new8 z _ (by omega)).mono ?_
  rintro e w2 ⟨mg, mh, rfl, m2, hg, hh, hb⟩
  have B2 := Lib.hid (below_two B1.out hb)
  clear hb hg hh B1 m2
  have LZ := Lib.hid (least_zero w2)
  have BX := Lib.hid (box1 w2 (.cells #[.int .i64 0] 3))
  go_wp2_with fail
  refine LZ.out.mono ?_
  rintro e w3 ⟨rfl, hb⟩
  have B3 := Lib.hid (below_two (below_two B2.out BX.out) hb)
  clear hb LZ BX B2
  go_wp2_with fail
  go_ret
  exact ⟨rfl, by rw [hfb]; exact HB0.out _ B3.out⟩

theorem wtags_walk (wk : Nat) (a : Option Addr) (len cap : Nat) (f : Nat → Nat) (w : World) (hwk : wk < 256) (hz : RowU w a len f) (hR : RefAt w) :
    Calls Tryd.prog 8 #[.int .u8 wk, .slice a len cap] w fun e w' => e = .returned (.bool true) ∧ Below w.heap.size w w' := by
  have hl := hz.le
  unfold maxLen at hl
  by_cases h2 : len ≤ 300
  · exact wtags_few wk _ len cap a f w rfl hwk h2 hz hR
  · exact wtags_many wk _ len cap a w rfl hwk h2 (by omega)

end Go.Proofs.YtlpaijobcopbnaaDoor
