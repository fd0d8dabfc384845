/-
  StockBack: the walk.
-/
import Derived.Test.YtagacljfpakgnaaDoorStockS1
namespace Go.Proofs.YtagacljfpakgnaaDoor
open Go.RowKit Go.Maps Go.Sort
attribute [local go_sem] Oper.semAt_some

set_option maxRecDepth 20000 in
set_option maxHeartbeats 8000000 in
theorem sback_walk (W S B T : Int) (ad : Option Addr) (len cap : Nat) (f : Nat → Int) (cl : Nat) (a2 : Option Addr) (n2 c2 : Nat) (Xa Xb : Nat → Int) (w : World) (hr : Hid (RowI w ad len f)) (hl : len < 9223372036854775808) (hT : Hid (TabAt w)) (hcl : cl < 256) (hs : Hid (RowBk w a2 n2 Xa Xb)) :
    Calls Tryd.prog 5 #[.agg #[.int .i64 W, .int .i64 S, .int .i64 B, .int .i64 T, .slice ad len cap], .int .u8 (cl : Nat), .slice a2 n2 c2] w fun e w' => e = .returned (.bool true) ∧ Below w.heap.size w w' := by
  obtain ⟨kc, hkc, hkl⟩ : ∃ kc : Nat, (cl : Int) % (len : Int) = (kc : Int) ∧ (1 ≤ len → kc < len) := ⟨cl % len, by simp, fun h => Nat.mod_lt _ h⟩
  have hb := box1 w (.cells #[.int .i64 W, .int .i64 S, .int .i64 B, .int .i64 T, .slice ad len cap] 24)
  have C0 := Lib.hid (cfg_new w W S B T (.slice ad len cap))
  have B0 := Lib.hid hb
  have R0 := Lib.hid (hr.out.next hb)
  have T0 := Lib.hid (hT.out.next hb)
  have Z0 := Lib.hid (hs.out.next hb)
  clear hb
  go_enter Tryd.func5, Tryd.ntmps5
  go_wp2_with fail
  generalize w.alloc (.cells #[.int .i64 W, .int .i64 S, .int .i64 B, .int .i64 T, .slice ad len cap] 24) = w0 at *
  refine (speaks12_any _ T0).mono ?_
  rintro e w1 ⟨rfl, hb⟩
  have E1 := Lib.hid hb
  have C1 := Lib.hid (cfg_next C0.out hb)
  clear hb
  obtain ⟨c0, c1, c2, c3, c4⟩ := cfg_cells C1.out
  go_wp2_with fail
  refine (rmay_any W S B T ad len cap f _ (Lib.hid (R0.out.next E1.out)) hl).mono ?_
  rintro e w2 ⟨rfl, hb⟩
  have E2 := Lib.hid (E1.out.trans (hb.mono E1.out.size))
  have C2 := Lib.hid (cfg_next C1.out hb)
  clear hb c0 c1 c2 c3 c4 C1 E1
  by_cases hm' : mayB W S B T len f = false
  · rw [hm']
    go_wp2_with fail
    go_ret
    exact ⟨rfl, B0.out.trans (E2.out.mono B0.out.size)⟩
  have hm : mayB W S B T len f = true := by simpa using hm'
  rw [hm]
  clear hm'
  by_cases hfew : 200 < (n2 : Int)
  · have h5 : decide (200 < (n2 : Int)) = true := by simpa using hfew
    go_wp2_with fail
    go_ret
    exact ⟨rfl, B0.out.trans (E2.out.mono B0.out.size)⟩
  have h5 : decide (200 < (n2 : Int)) = false := by simpa using hfew
  obtain ⟨⟨wa, wb⟩, ⟨s1, s2⟩, ⟨b1, b2⟩, ⟨t1, t2⟩, ⟨l1, l2⟩, hcls⟩ := may_nums hm
  have OK := Lib.hid (cls_ok hcls)
  clear hcls wa wb t1 t2 hm
  obtain ⟨c0, c1, c2, c3, c4⟩ := cfg_cells C2.out
  have hl1 : (len : Int) ≠ 0 := by omega
  have hl0 : ¬ len = 0 := by omega
  have kl : kc < len := hkl (by omega)
  have wcl : IntKind.i64.wrap (cl : Int) = (cl : Int) := by rw [IntKind.wrap_i64]; omega
  have htm : (cl : Int).tmod (len : Int) = (kc : Int) := by rw [Int.tmod_eq_emod_of_nonneg (by omega)]; exact hkc
  go_upto_region 5 with fail
  refine wp_region_noPanic ?_
  refine wp_region_held_drew (S := fun w' => Cfg5 w' w.heap.size W S B T (.slice ad len cap)) (by kernel_rfl) (C2.out) (fun hHeld => ?_)
  have hb := (Below.refl w2.heap.size w2).drew
  have E3 := Lib.hid (E2.out.trans (hb.mono E2.out.size))
  have C3 := Lib.hid (cfg_next C2.out hb)
  clear hb c0 c1 c2 c3 c4
  generalize w2.drew = z0 at *
  refine wpAnyH_take (i := 0) (v := .agg #[.int .i64 W, .int .i64 S, .int .i64 B, .int .i64 T, .slice ad len cap]) rfl (by kernel_rfl) (by kernel_rfl) (by kernel_rfl) (fun _ _ _ h => h) (Or.inl ⟨by rfl, fun w hSw => by obtain ⟨c0, c1, c2, c3, c4⟩ := cfg_cells hSw; first | (go_simp; done) | (go_simp; exact wcl) | (go_simp; rw [if_neg hl0, htm]; done) | (go_simp; rfl)⟩) (by assumption) ?_
  change wpAnyH _ _ _ _ _ _ _ (Act.put _ (some 29) _) _
  simp only [Act.put, List.setIfInBounds_toArray, List.set_cons_zero, List.set_cons_succ]
  refine wpAnyH_take (i := 2) (v := .int .u8 (cl : Nat)) rfl (by kernel_rfl) (by kernel_rfl) (by kernel_rfl) (fun _ _ _ h => h) (Or.inl ⟨by rfl, fun w hSw => by obtain ⟨c0, c1, c2, c3, c4⟩ := cfg_cells hSw; first | (go_simp; done) | (go_simp; exact wcl) | (go_simp; rw [if_neg hl0, htm]; done) | (go_simp; rfl)⟩) (by assumption) ?_
  change wpAnyH _ _ _ _ _ _ _ (Act.put _ (some 31) _) _
  simp only [Act.put, List.setIfInBounds_toArray, List.set_cons_zero, List.set_cons_succ]
  refine wpAnyH_take (i := 3) (v := .int .i64 (cl : Nat)) rfl (by kernel_rfl) (by kernel_rfl) (by kernel_rfl) (fun _ _ _ h => h) (Or.inl ⟨by rfl, fun w hSw => by obtain ⟨c0, c1, c2, c3, c4⟩ := cfg_cells hSw; first | (go_simp; done) | (go_simp; exact wcl) | (go_simp; rw [if_neg hl0, htm]; done) | (go_simp; rfl)⟩) (by assumption) ?_
  change wpAnyH _ _ _ _ _ _ _ (Act.put _ (some 32) _) _
  simp only [Act.put, List.setIfInBounds_toArray, List.set_cons_zero, List.set_cons_succ]
  refine wpAnyH_take (i := 4) (v := .pointer (some ⟨w.heap.size, 4, none⟩)) rfl (by kernel_rfl) (by kernel_rfl) (by kernel_rfl) (fun _ _ _ h => h) (Or.inl ⟨by rfl, fun w hSw => by obtain ⟨c0, c1, c2, c3, c4⟩ := cfg_cells hSw; first | (go_simp; done) | (go_simp; exact wcl) | (go_simp; rw [if_neg hl0, htm]; done) | (go_simp; rfl)⟩) (by assumption) ?_
  change wpAnyH _ _ _ _ _ _ _ (Act.put _ (some 33) _) _
  simp only [Act.put, List.setIfInBounds_toArray, List.set_cons_zero, List.set_cons_succ]
  refine wpAnyH_take (i := 5) (v := .slice ad len cap) rfl (by kernel_rfl) (by kernel_rfl) (by kernel_rfl) (fun _ _ _ h => h) (Or.inl ⟨by rfl, fun w hSw => by obtain ⟨c0, c1, c2, c3, c4⟩ := cfg_cells hSw; first | (go_simp; done) | (go_simp; exact wcl) | (go_simp; rw [if_neg hl0, htm]; done) | (go_simp; rfl)⟩) (by assumption) ?_
  change wpAnyH _ _ _ _ _ _ _ (Act.put _ (some 34) _) _
  simp only [Act.put, List.setIfInBounds_toArray, List.set_cons_zero, List.set_cons_succ]
  refine wpAnyH_take (i := 6) (v := .int .i64 (len : Nat)) rfl (by kernel_rfl) (by kernel_rfl) (by kernel_rfl) (fun _ _ _ h => h) (Or.inl ⟨by rfl, fun w hSw => by obtain ⟨c0, c1, c2, c3, c4⟩ := cfg_cells hSw; first | (go_simp; done) | (go_simp; exact wcl) | (go_simp; rw [if_neg hl0, htm]; done) | (go_simp; rfl)⟩) (by assumption) ?_
  change wpAnyH _ _ _ _ _ _ _ (Act.put _ (some 35) _) _
  simp only [Act.put, List.setIfInBounds_toArray, List.set_cons_zero, List.set_cons_succ]
  refine wpAnyH_take (i := 7) (v := .int .i64 (kc : Nat)) rfl (by kernel_rfl) (by kernel_rfl) (by kernel_rfl) (fun _ _ _ h => h) (Or.inl ⟨by rfl, fun w hSw => by obtain ⟨c0, c1, c2, c3, c4⟩ := cfg_cells hSw; first | (go_simp; done) | (go_simp; exact wcl) | (go_simp; rw [if_neg hl0, htm]; done) | (go_simp; rfl)⟩) (by assumption) ?_
  change wpAnyH _ _ _ _ _ _ _ (Act.put _ (some 36) _) _
  simp only [Act.put, List.setIfInBounds_toArray, List.set_cons_zero, List.set_cons_succ]
  refine wpAnyH_ready (rs := [1]) (by kernel_rfl) (by simp) ?_
  refine AllReadyH.cons rfl (fun K hK => ?_) (AllReadyH.nil)
  refine step_enter (F := 10) (vals := #[.agg #[.int .i64 W, .int .i64 S, .int .i64 B, .int .i64 T, .slice ad len cap]]) rfl (by kernel_rfl) ?_
  refine (snew_any W S B T ad len cap f z0 (Lib.hid (R0.out.next E3.out)) (by omega)).mono ?_
  rintro e y1 ⟨sb4, clb4, pb4, M4, rfl, st, p1, p2, p3, p4, hb⟩
  have S4 := Lib.hid st
  have F4 : Hid (z0.heap.size ≤ sb4 ∧ z0.heap.size ≤ clb4 ∧ z0.heap.size ≤ pb4 ∧ ∀ j, j < len → z0.heap.size ≤ M4 j) := Lib.hid ⟨p1, p2, p3, p4⟩
  have Y4 := Lib.hid hb
  have E4 := Lib.hid (E3.out.trans (hb.mono E3.out.size))
  have C4 := Lib.hid (cfg_next C3.out hb)
  clear st p1 p2 p3 p4 hb
  show K (Act.put _ (some 30) _) y1
  refine hK.out _ _ (C4.out) (fun hHeld1 => ?_)
  clear hK K
  simp only [Act.put, List.setIfInBounds_toArray, List.set_cons_zero, List.set_cons_succ]
  refine wpAnyH_take (i := 8) (v := .pointer (some ⟨sb4, 0, none⟩)) rfl (by kernel_rfl) (by kernel_rfl) (by kernel_rfl) (fun _ _ _ h => h) (Or.inl ⟨by rfl, fun w hSw => by obtain ⟨c0, c1, c2, c3, c4⟩ := cfg_cells hSw; go_simp⟩) (by assumption) ?_
  change wpAnyH _ _ _ _ _ _ _ (Act.put _ (some 7) _) _
  simp only [Act.put, List.setIfInBounds_toArray, List.set_cons_zero, List.set_cons_succ]
  refine wpAnyH_take (i := 9) (v := .int .i64 (kc : Nat)) rfl (by kernel_rfl) (by kernel_rfl) (by kernel_rfl) (fun _ _ _ h => h) (Or.inl ⟨by rfl, fun w hSw => by obtain ⟨c0, c1, c2, c3, c4⟩ := cfg_cells hSw; go_simp⟩) (by assumption) ?_
  change wpAnyH _ _ _ _ _ _ _ (Act.put _ (some 8) _) _
  simp only [Act.put, List.setIfInBounds_toArray, List.set_cons_zero, List.set_cons_succ]
  refine ⟨by kernel_rfl, ?_⟩
  refine NoPanic.normal ?_
  have ST := Lib.hid (s1_new (n0 := w0.heap.size) S4.out kl (Nat.le_trans E3.out.size F4.out.2.2.1) (Nat.le_trans E3.out.size (F4.out.2.2.2 kc kl)))
  clear S4 F4 Y4 E3 C3 E2 C2 wcl htm hkc hkl
  go_wp2_with fail
  go_loopw [9, 39] (fun u9 u39 wr => ∃ (j n : Nat) (l : List (Int × Int)) (v : Value), j ≤ n2 ∧ u39 = .int .i64 (j : Nat) ∧ n ≤ j ∧ Hid (S1 wr w0.heap.size sb4 clb4 pb4 W S B T len f kc n l v M4) ∧ Hid (BkRow wr u9 l) ∧ Hid ((∀ b, u9.ownBlock = some b → w0.heap.size ≤ b) ∧ ∀ b, v.ownBlock = some b → u9.ownBlock ≠ some b) ∧ Hid (Below w0.heap.size w0 wr)) (fun _ u39 _ => n2 - (intOf u39).toNat)
  case atStart => exact ⟨0, 0, [], _, by omega, rfl, by omega, ST, ORow.nil _, Lib.hid ⟨fun b e => (by cases e), fun b e => (by cases e)⟩, E4⟩
  case round =>
    obtain ⟨j, n, l, v, hj, rfl, hn, SS, RW, AP, E1⟩ := hrel
    by_cases hlt : j < n2
    · have l3 : (j : Int) < (n2 : Int) := by omega
      have Zr := Lib.hid (Z0.out.next E1.out)
      obtain ⟨ab, off, rfl, hab, q0, q1⟩ := Zr.out.at hlt
      obtain ⟨w1', w2'⟩ := Zr.out.1.2 j hlt
      clear Zr
      obtain ⟨x, hx1, hx2⟩ : ∃ x : Int × Int, Xa j = x.1 ∧ Xb j = x.2 := ⟨(Xa j, Xb j), rfl, rfl⟩
      rw [hx1] at q0 w1'
      rw [hx2] at q1 w2'
      clear hx1 hx2
      have hb := box1 wr (.cells #[.int .i64 x.1, .int .i64 x.2] 32)
      have S2 := Lib.hid (SS.out.next hb)
      have R2 := Lib.hid (ORow.next RW.out hb)
      have E2 := Lib.hid (E1.out.trans (hb.mono E1.out.size))
      have BX : Hid ((wr.alloc (.cells #[.int .i64 x.1, .int .i64 x.2] 32)).heap[wr.heap.size]? = some (.cells (bkE x).toArray 32 (0, 0))) := heap_new wr _
      have OV : Hid ((∀ b, v.ownBlock = some b → b < wr.heap.size) ∧ (∀ b, u9.ownBlock = some b → b < wr.heap.size) ∧ pb4 < wr.heap.size ∧ M4 kc < wr.heap.size) := Lib.hid ⟨fun b e => by obtain ⟨cur, hc⟩ := SS.out.own e; exact heap_lt hc, fun b e => RW.out.lt' e, heap_lt SS.out.st.pil, (SS.out.st.set kc kl).lt⟩
      clear hb
      have PU := Lib.hid (s1_push w0.heap.size sb4 clb4 pb4 W S B T len f kc n l v M4 _ x S2 OK (by omega) (by omega) ⟨w1', w2'⟩ (by omega) E2.out.size)
      have few := SS.out.few
      clear SS RW
      obtain ⟨pb, hpb⟩ : ∃ pb, pushB S len f kc l x = pb := ⟨_, rfl⟩
      rw [hpb] at PU
      have HP := Lib.hid hpb
      clear hpb
      go_wp2_with fail
      refine PU.out.mono ?_
      rintro e w5 ⟨rfl, v5, r1, r2, r3⟩
      have S5 := Lib.hid r1
      have O5 := Lib.hid r2
      have R5 := Lib.hid (S2.out.row r2 R2.out AP.out.2)
      have E5 := Lib.hid (E2.out.trans (S2.out.down r2 E2.out.size))
      have BX5 := Lib.hid (r2.at BX.out (fun hm => by
        simp only [List.cons_append, List.nil_append, List.mem_cons, Option.mem_toList] at hm
        have := OV.out
        rcases hm with e | e | e
        · omega
        · omega
        · have := OV.out.1 _ e; omega))
      have V5 : Hid (∀ b, v5.ownBlock = some b → v.ownBlock = some b ∨ wr.heap.size < b) := Lib.hid (fun b e => by
        rcases r3 with q | ⟨b', e1, e2⟩
        · rw [q] at e; exact .inl e
        · rw [e1] at e; cases e; right; have : (wr.alloc (.cells #[.int .i64 x.1, .int .i64 x.2] 32)).heap.size = wr.heap.size + 1 := by simp
          omega)
      clear r1 r2 r3 PU S2 R2 BX
      cases pb
      · have hl : Hid (pushL S len f kc l x = l) := Lib.hid (by
          have := HP.out
          unfold pushB at this
          unfold pushL
          rw [if_neg (by simpa using this)])
        rw [hl.out] at S5
        go_wp2_with fail
        go_roundw
        case rel => exact ⟨j + 1, n + 1, l, v5, by omega, by push_cast; rfl, by omega, S5, R5, Lib.hid ⟨AP.out.1, fun b e e2 => by rcases V5.out b e with q | q; exact AP.out.2 b q e2; have := OV.out.2.1 b e2; omega⟩, E5⟩
        case measure => simp [intOf]; omega
      · have hl : Hid (pushL S len f kc l x = l ++ [x]) := Lib.hid (by
          have := HP.out
          unfold pushB at this
          unfold pushL
          rw [if_pos (by simpa using this)])
        rw [hl.out] at S5
        have x0 : w5.cell? ⟨wr.heap.size, 0, none⟩ = some (.int .i64 x.1) := by rw [cell_of BX5.out]; rfl
        have x1 : w5.cell? ⟨wr.heap.size, 1, none⟩ = some (.int .i64 x.2) := by rw [cell_of BX5.out]; rfl
        have hb := box1 w5 (.cells #[.int .i64 x.1, .int .i64 x.2] 32)
        have BY : (w5.alloc (.cells #[.int .i64 x.1, .int .i64 x.2] 32)).heap[w5.heap.size]? = some (.cells (bkE x).toArray 32 (0, 0)) := heap_new w5 _
        obtain ⟨u', wa, hrun, g1, g2, g3, bq, cq, hvq⟩ := BkRow.app (vb := w5.heap.size) (x := x) (ORow.next R5.out hb) BY (by omega) 37
        have o := Only.of_grown (l := u9.ownBlock.toList) g2 (fun b hb => by simp [hb])
        have S6 := S5.out.next hb
        have S7 : Hid (S1 wa _ _ _ _ _ _ _ _ _ _ _ _ _ _ _) := S6.stay o (fun b hb2 => by
          simp only [Option.mem_toList] at hb2
          exact ⟨BkRow.obj (ORow.next R5.out hb) hb2, fun e => by rcases V5.out b e with q | q; exact AP.out.2 b q hb2; have := OV.out.2.1 b hb2; omega⟩)
        have E6 := E5.out.trans (hb.mono E5.out.size)
        have hf := fresh_of E6 AP.out.1 g2 g3
        have E7 := Lib.hid hf.1
        have F7 := Lib.hid hf.2
        have R7 : Hid (BkRow wa u' (l ++ [x])) := g1
        have V7 : Hid (∀ b, v5.ownBlock = some b → u'.ownBlock ≠ some b) := Lib.hid (fun b e e2 => by
          rcases g3 with q | q
          · rw [q] at e2; rcases V5.out b e with q2 | q2; exact AP.out.2 b q2 e2; have := OV.out.2.1 b e2; omega
          · rw [q] at e2; cases e2; obtain ⟨cur, hc⟩ := S6.own e; exact Nat.lt_irrefl _ (heap_lt hc))
        have HR := Lib.hid hrun
        clear hrun g1 g2 g3 hf o hb BY S6 E6 hvq S5 R5 E5
        go_wp2_with (at_builtin; refine wpList_append_by rfl _ _ 37 37 rfl u9 (.slice (some ⟨w5.heap.size, 0, none⟩) 1 1) (by rfl) (by rfl) HR.out ?_)
        go_roundw
        case rel => exact ⟨j + 1, n + 1, l ++ [x], v5, by omega, by push_cast; rfl, by omega, S7, R7, Lib.hid ⟨F7.out, V7.out⟩, E7⟩
        case measure => simp [intOf]; omega
    · obtain rfl : j = n2 := by omega
      have few := SS.out.few
      have BL := Lib.hid (s1_blocks w0.heap.size sb4 clb4 pb4 W S B T len f kc n l v M4 wr SS (by omega))
      go_wp2_with fail
      refine BL.out.mono ?_
      rintro e w5 ⟨m5, rfl, r1, hb, r4⟩
      have S5 := Lib.hid (SS.out.next hb)
      have R5 := Lib.hid (ORow.next RW.out hb)
      have E5 := Lib.hid (E1.out.trans (hb.mono E1.out.size))
      obtain ⟨ma, mc, rfl⟩ := ORow.form r1
      have M5 := Lib.hid r1
      have OM : Hid (∀ b, (Value.slice ma l.length mc).ownBlock = some b → v.ownBlock ≠ some b ∧ u9.ownBlock ≠ some b ∧ w0.heap.size ≤ b) := Lib.hid (fun b e => ⟨fun e2 => by obtain ⟨cur, hc⟩ := SS.out.own e2; have := heap_lt hc; have := r4 b e; omega, fun e2 => by have := RW.out.lt' e2; have := r4 b e; omega, by have := r4 b e; have := E1.out.size; omega⟩)
      obtain ⟨ua, uc, rfl⟩ := ORow.form RW.out
      clear r1 hb r4 BL SS RW
      go_wp2_with fail
      go_loopw [57] (fun u57 wr => ∃ (i : Nat) (lm : List (Int × Int)), i ≤ l.length ∧ Hid (lm.length = l.length) ∧ u57 = .int .i64 (i : Nat) ∧ Hid (BkRow wr (.slice ma l.length mc) lm) ∧ Hid (Only (Value.slice ma l.length mc).ownBlock.toList w5 wr)) (fun u57 _ => l.length - (intOf u57).toNat)
      case atStart => exact ⟨0, l, by omega, Lib.hid rfl, rfl, M5, Lib.hid (Only.refl _ _)⟩
      case round =>
        obtain ⟨i, lm, hi, hlm, rfl, RM, OO⟩ := hrel
        by_cases hli : i < l.length
        · have l5 : (i : Int) < (l.length : Int) := by omega
          obtain ⟨y, hy⟩ : ∃ y, lm[i]? = some y := ⟨_, List.getElem?_eq_getElem (by have := hlm.out; omega)⟩
          obtain ⟨lb, cp, hv2, hcell, hfr⟩ := ORow.at bkEnc RM.out hy
          simp only [Value.slice.injEq] at hv2
          obtain ⟨rfl, _, rfl⟩ := hv2
          have y1 : wr.cell? ⟨lb, i * 2 + 1, none⟩ = some (.int .i64 y.2) := hcell 1 _ rfl
          have ff := hfr (i * 2 + 1)
          have RN : Hid (BkRow (wr.setCell ⟨lb, i * 2 + 1, none⟩ (.int .i64 (wrap64 (y.2 + 1)))) (.slice (some ⟨lb, 0, none⟩) l.length mc) (lm.set i (y.1, wrap64 (y.2 + 1)))) := ORow.set bkEnc RM.out hy (by decide) rfl
          have ON : Hid (Only (Value.slice (some ⟨lb, 0, none⟩) l.length mc).ownBlock.toList w5 (wr.setCell ⟨lb, i * 2 + 1, none⟩ (.int .i64 (wrap64 (y.2 + 1))))) := OO.out.trans (Only.of_set (by simp [Value.ownBlock]) _)
          clear hcell hfr hy
          go_wp2_with fail
          go_roundw
          case rel => exact ⟨i + 1, lm.set i (y.1, wrap64 (y.2 + 1)), by omega, Lib.hid (by rw [List.length_set]; exact hlm.out), by push_cast; rfl, RN, ON⟩
          case measure => simp [intOf]; omega
        · obtain rfl : i = l.length := by omega
          have S6 := Lib.hid (S5.out.stay OO.out (fun b hb => by
            simp only [Option.mem_toList] at hb
            exact ⟨M5.out.obj hb, (OM.out b hb).1⟩))
          have R6 : Hid (BkRow wr (.slice ua l.length uc) l) := ORow.stay R5.out OO.out (fun b hb hm => by
            simp only [Option.mem_toList] at hm
            exact (OM.out b hm).2.1 hb)
          have E6 : Hid (Below w0.heap.size w0 wr) := E5.out.trans (OO.out.below (fun b hb => by
            simp only [Option.mem_toList] at hb
            exact (OM.out b hb).2.2) E5.out.size)
          clear RM OO S5 R5 E5 M5 OM hlm
          go_wp2_with fail
          go_loopw [71] (fun u71 wr => ∃ (i : Nat) (v6 : Value), i ≤ l.length ∧ u71 = .int .i64 (i : Nat) ∧ Hid (S1 wr w0.heap.size sb4 clb4 pb4 W S B T len f kc n (l.take (l.length - i)) v6 M4) ∧ Hid (BkRow wr (.slice ua l.length uc) l) ∧ Hid (∀ b, v6.ownBlock = some b → (Value.slice ua l.length uc).ownBlock ≠ some b) ∧ Hid (Below w0.heap.size w0 wr)) (fun u71 _ => l.length - (intOf u71).toNat)
          case atStart => exact ⟨0, v, by omega, rfl, by rw [Nat.sub_zero, List.take_length]; exact S6, R6, Lib.hid AP.out.2, E6⟩
          case round =>
            obtain ⟨i, v6, hi, rfl, SX, RX, AX, EX⟩ := hrel
            by_cases hli : i < l.length
            · have l5 : (i : Int) < (l.length : Int) := by omega
              have hd : l.length - 1 - i < l.length := by omega
              obtain ⟨y, hy⟩ : ∃ y, l[l.length - 1 - i]? = some y := ⟨_, List.getElem?_eq_getElem hd⟩
              have tk : l.take (l.length - i) = l.take (l.length - (i + 1)) ++ [y] := by
                rw [show l.length - i = (l.length - (i + 1)) + 1 from by omega, List.take_add_one, show l.length - (i + 1) = l.length - 1 - i from by omega, hy]
                rfl
              rw [tk] at SX
              clear tk
              have PO := Lib.hid (s1_pop_yes w0.heap.size sb4 clb4 pb4 W S B T len f kc n _ v6 M4 wr y SX (by omega))
              go_wp2_with fail
              refine PO.out.mono ?_
              rintro e w6 ⟨rfl, v7, r1, r2, r3⟩
              have RY := SX.out.row r2 RX.out AX.out
              have EY := EX.out.trans (SX.out.down r2 EX.out.size)
              have hb := box1 w6 (.cells #[.int .i64 y.1, .int .i64 y.2] 32)
              have D7 : Hid (Two5 (w6.alloc (.cells #[.int .i64 y.1, .int .i64 y.2] 32)) w6.heap.size 32 y.1 y.2) := Two5.new w6 _ _ _
              have S7 := Lib.hid (r1.next hb)
              have R7 := Lib.hid (ORow.next RY hb)
              have E7 := Lib.hid (EY.trans (hb.mono EY.size))
              have A7 : Hid (∀ b, v7.ownBlock = some b → (Value.slice ua l.length uc).ownBlock ≠ some b) := Lib.hid (fun b e => AX.out b (by rw [← r3]; exact e))
              clear hb r1 r2 r3 RY EY PO SX RX AX EX
              go_upto_region 23 with fail
              generalize w6.alloc (.cells #[.int .i64 y.1, .int .i64 y.2] 32) = w7 at *
              generalize w6.heap.size = NB at *
              obtain ⟨lb, cp, hv2, hcell, _⟩ := ORow.at bkEnc R7.out hy
              simp only [Value.slice.injEq] at hv2
              obtain ⟨rfl, _, rfl⟩ := hv2
              have y0 : w7.cell? ⟨lb, (l.length - 1 - i) * 2, none⟩ = some (.int .i64 y.1) := hcell 0 _ rfl
              have y1 : w7.cell? ⟨lb, (l.length - 1 - i) * 2 + 1, none⟩ = some (.int .i64 y.2) := hcell 1 _ rfl
              clear hcell hy
              have d0 := two_c0 D7.out
              have d1 := two_c1 D7.out
              have e1 : IntKind.i64.wrap ((l.length : Int) - 1) = (l.length : Int) - 1 := by rw [IntKind.wrap_i64]; omega
              have e2 : IntKind.i64.wrap ((l.length : Int) - 1 - (i : Int)) = ((l.length - 1 - i : Nat) : Int) := by rw [IntKind.wrap_i64]; omega
              generalize l.length - 1 - i = tt at *
              have e3 : (tt : Int) < (l.length : Int) := by omega
              have j0 := cell_regrown y0
              have j1 := cell_regrown y1
              have j2 := cell_regrown d0
              have j3 := cell_regrown d1
              refine wp_region_quiet_below (by kernel_rfl) (by kernel_rfl) ?_
              repeat (go_big_quiet_step (fail))
              refine wpQuiet_nil ?_
              intro _ hw'
              obtain ⟨⟨dq, osq⟩, hw''⟩ := hw'
              subst hw''
              have bg := below_regrown w7 dq osq
              have S8 := Lib.hid (S7.out.next bg)
              have R8 := Lib.hid (ORow.next R7.out bg)
              have E8 := Lib.hid (E7.out.trans (bg.mono E7.out.size))
              clear bg j0 j1 j2 j3 y0 y1 d0 d1 D7 S7 R7 E7
              generalize Sort.grow (redrawn w7 dq) osq = w8 at *
              go_wp2_with fail
              go_roundw
              case rel => exact ⟨i + 1, v7, by omega, by push_cast; rfl, S8, R8, A7, E8⟩
              case measure => simp [intOf]; omega
            · obtain rfl : i = l.length := by omega
              rw [Nat.sub_self, List.take_zero] at SX
              have PO := Lib.hid (s1_pop_no w0.heap.size sb4 clb4 pb4 W S B T len f kc n v6 M4 wr SX)
              go_wp2_with fail
              refine PO.out.mono ?_
              rintro e w6 ⟨rfl, hb⟩
              have E6 := Lib.hid (EX.out.trans (hb.mono EX.out.size))
              clear hb
              have hb := box1 w6 (.cells #[.int .i64 0, .int .i64 0] 32)
              have E7 := Lib.hid (E6.out.trans (hb.mono E6.out.size))
              clear hb
              go_wp2_with fail
              go_ret
              exact ⟨rfl, B0.out.trans (E7.out.mono B0.out.size)⟩
end Go.Proofs.YtagacljfpakgnaaDoor
