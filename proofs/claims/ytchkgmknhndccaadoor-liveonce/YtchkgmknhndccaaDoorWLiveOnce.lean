/-
  The walk of LiveOnce: of many that take what is live at one place one has it; no word beside the table's is touched.
-/
import Derived.Test.YtchkgmknhndccaaDoorLiveW
namespace Go.Proofs.YtchkgmknhndccaaDoor
open Go.RowKit Go.Sort

def OnceB (w : World) (M : Nat) (W S B T : Int) (ad : Option Addr) (len cap G kc km : Nat) : Prop := w.heap[M]? = some (.cells #[.int .i64 W, .int .i64 S, .int .i64 B, .int .i64 T, .slice ad len cap, .int .u16 (G : Nat), .int .u8 (kc : Nat), .int .u8 (km : Nat)] 52 (0, 0))
theorem OnceB.next {w w' : World} {M : Nat} {W S B T : Int} {ad : Option Addr} {len cap G kc km : Nat} (h : OnceB w M W S B T ad len cap G kc km) (hb : Below w.heap.size w w') : OnceB w' M W S B T ad len cap G kc km := (hb.block M (heap_lt h)).trans h
theorem OnceB.cells {w : World} {M : Nat} {W S B T : Int} {ad : Option Addr} {len cap G kc km : Nat} (h : OnceB w M W S B T ad len cap G kc km) : w.cell? ⟨M, 0, none⟩ = some (.int .i64 W) ∧ w.cell? ⟨M, 1, none⟩ = some (.int .i64 S) ∧ w.cell? ⟨M, 2, none⟩ = some (.int .i64 B) ∧ w.cell? ⟨M, 3, none⟩ = some (.int .i64 T) ∧ w.cell? ⟨M, 4, none⟩ = some (.slice ad len cap) ∧ w.cell? ⟨M, 5, none⟩ = some (.int .u16 (G : Nat)) ∧ w.cell? ⟨M, 6, none⟩ = some (.int .u8 (kc : Nat)) ∧ w.cell? ⟨M, 7, none⟩ = some (.int .u8 (km : Nat)) :=
  ⟨by rw [cell_of h]; rfl, by rw [cell_of h]; rfl, by rw [cell_of h]; rfl, by rw [cell_of h]; rfl, by rw [cell_of h]; rfl, by rw [cell_of h]; rfl, by rw [cell_of h]; rfl, by rw [cell_of h]; rfl⟩
set_option maxRecDepth 20000 in
set_option maxHeartbeats 4000000 in
theorem once_no (W S B T : Int) (ad : Option Addr) (len cap : Nat) (f : Nat → Int) (G kc km : Nat) (w : World) (hr : Hid (RowI w ad len f)) (hl : len < 9223372036854775808) (hF : Hid (FldL w)) (hm : Hid (mayB W S B T len f = false)) :
    Calls Tryd.prog 5 #[.agg #[.int .i64 W, .int .i64 S, .int .i64 B, .int .i64 T, .slice ad len cap, .int .u16 (G : Nat), .int .u8 (kc : Nat), .int .u8 (km : Nat)]] w fun e w' => e = .returned (.bool true) ∧ Below w.heap.size w w' := by
  have hq := below_alloc w (.cells #[.int .i64 W, .int .i64 S, .int .i64 B, .int .i64 T, .slice ad len cap, .int .u16 (G : Nat), .int .u8 (kc : Nat), .int .u8 (km : Nat)] 52)
  have O0 : Hid (OnceB (w.alloc (.cells #[.int .i64 W, .int .i64 S, .int .i64 B, .int .i64 T, .slice ad len cap, .int .u16 (G : Nat), .int .u8 (kc : Nat), .int .u8 (km : Nat)] 52)) w.heap.size W S B T ad len cap G kc km) := heap_new w (.cells #[.int .i64 W, .int .i64 S, .int .i64 B, .int .i64 T, .slice ad len cap, .int .u16 (G : Nat), .int .u8 (kc : Nat), .int .u8 (km : Nat)] 52)
  have B0 := Lib.hid hq
  have F0 := Lib.hid (hF.out.next hq)
  clear hq
  go_enter Tryd.func5, Tryd.ntmps5
  go_wp2_with fail
  generalize w.alloc (.cells #[.int .i64 W, .int .i64 S, .int .i64 B, .int .i64 T, .slice ad len cap, .int .u16 (G : Nat), .int .u8 (kc : Nat), .int .u8 (km : Nat)] 52) = w0 at *
  generalize hM : w.heap.size = M at *
  refine (speaks13 _ F0).mono ?_
  rintro e w1 ⟨rfl, hb⟩
  have O1 := Lib.hid (O0.out.next hb)
  have B1 : Hid (Below M w w1) := B0.out.trans (hb.mono (by rw [← hM]; exact B0.out.size))
  have lM : M < w1.heap.size := heap_lt O1.out
  clear hb O0 F0 B0
  go_upto_region 3 with fail
  go_cut [3, 4, 5, 6] (fun u3 u4 u5 u6 wx => ∃ N, u3 = .pointer (some ⟨N, 0, none⟩) ∧ u4 = .int .u16 (G : Nat) ∧ u5 = .int .u8 (kc : Nat) ∧ u6 = .int .u8 (km : Nat) ∧ Hid (Cfg5 wx N W S B T (.slice ad len cap)) ∧ Hid (Below M w wx) ∧ M < N)
  case first =>
    refine wp_region_noPanic ?_
    refine wp_region_held_drew (S := fun w' => OnceB w' M W S B T ad len cap G kc km) (by kernel_rfl) (O1.out.next ((Below.refl _ _).drew)) (fun hHeld => ?_)
    have DR := (Below.refl w1.heap.size w1).drew
    have O10 := Lib.hid (O1.out.next DR)
    have B10 := Lib.hid (B1.out.trans (DR.mono (by rw [← hM]; exact B1.out.size)))
    clear DR
    generalize w1.drew = z0 at *
    refine wpAnyH_take (i := 0) (v := .pointer (some ⟨M, 0, none⟩)) rfl (by kernel_rfl) (by kernel_rfl) (by kernel_rfl) (fun _ _ _ h => h) (Or.inl ⟨by rfl, fun w hSw => by obtain ⟨c0, c1, c2, c3, c4, c5, c6, c7⟩ := OnceB.cells hSw; go_simp⟩) (by assumption) ?_
    change wpAnyH _ _ _ _ _ _ _ (Act.put _ (some 16) _) _
    simp only [Act.put, List.setIfInBounds_toArray, List.set_cons_zero, List.set_cons_succ]
    refine wpAnyH_take (i := 1) (v := .agg #[.int .i64 W, .int .i64 S, .int .i64 B, .int .i64 T, .slice ad len cap]) rfl (by kernel_rfl) (by kernel_rfl) (by kernel_rfl) (fun _ _ _ h => h) (Or.inl ⟨by rfl, fun w hSw => by obtain ⟨c0, c1, c2, c3, c4, c5, c6, c7⟩ := OnceB.cells hSw; go_simp⟩) (by assumption) ?_
    change wpAnyH _ _ _ _ _ _ _ (Act.put _ (some 17) _) _
    simp only [Act.put, List.setIfInBounds_toArray, List.set_cons_zero, List.set_cons_succ]
    refine wpAnyH_take (i := 2) (v := .pointer (some ⟨M, 5, none⟩)) rfl (by kernel_rfl) (by kernel_rfl) (by kernel_rfl) (fun _ _ _ h => h) (Or.inl ⟨by rfl, fun w hSw => by obtain ⟨c0, c1, c2, c3, c4, c5, c6, c7⟩ := OnceB.cells hSw; go_simp⟩) (by assumption) ?_
    change wpAnyH _ _ _ _ _ _ _ (Act.put _ (some 18) _) _
    simp only [Act.put, List.setIfInBounds_toArray, List.set_cons_zero, List.set_cons_succ]
    refine wpAnyH_take (i := 3) (v := .int .u16 (G : Nat)) rfl (by kernel_rfl) (by kernel_rfl) (by kernel_rfl) (fun _ _ _ h => h) (Or.inl ⟨by rfl, fun w hSw => by obtain ⟨c0, c1, c2, c3, c4, c5, c6, c7⟩ := OnceB.cells hSw; go_simp⟩) (by assumption) ?_
    change wpAnyH _ _ _ _ _ _ _ (Act.put _ (some 19) _) _
    simp only [Act.put, List.setIfInBounds_toArray, List.set_cons_zero, List.set_cons_succ]
    refine wpAnyH_take (i := 4) (v := .pointer (some ⟨M, 6, none⟩)) rfl (by kernel_rfl) (by kernel_rfl) (by kernel_rfl) (fun _ _ _ h => h) (Or.inl ⟨by rfl, fun w hSw => by obtain ⟨c0, c1, c2, c3, c4, c5, c6, c7⟩ := OnceB.cells hSw; go_simp⟩) (by assumption) ?_
    change wpAnyH _ _ _ _ _ _ _ (Act.put _ (some 20) _) _
    simp only [Act.put, List.setIfInBounds_toArray, List.set_cons_zero, List.set_cons_succ]
    refine wpAnyH_take (i := 5) (v := .int .u8 (kc : Nat)) rfl (by kernel_rfl) (by kernel_rfl) (by kernel_rfl) (fun _ _ _ h => h) (Or.inl ⟨by rfl, fun w hSw => by obtain ⟨c0, c1, c2, c3, c4, c5, c6, c7⟩ := OnceB.cells hSw; go_simp⟩) (by assumption) ?_
    change wpAnyH _ _ _ _ _ _ _ (Act.put _ (some 21) _) _
    simp only [Act.put, List.setIfInBounds_toArray, List.set_cons_zero, List.set_cons_succ]
    refine wpAnyH_take (i := 6) (v := .pointer (some ⟨M, 7, none⟩)) rfl (by kernel_rfl) (by kernel_rfl) (by kernel_rfl) (fun _ _ _ h => h) (Or.inl ⟨by rfl, fun w hSw => by obtain ⟨c0, c1, c2, c3, c4, c5, c6, c7⟩ := OnceB.cells hSw; go_simp⟩) (by assumption) ?_
    change wpAnyH _ _ _ _ _ _ _ (Act.put _ (some 22) _) _
    simp only [Act.put, List.setIfInBounds_toArray, List.set_cons_zero, List.set_cons_succ]
    refine wpAnyH_take (i := 7) (v := .int .u8 (km : Nat)) rfl (by kernel_rfl) (by kernel_rfl) (by kernel_rfl) (fun _ _ _ h => h) (Or.inl ⟨by rfl, fun w hSw => by obtain ⟨c0, c1, c2, c3, c4, c5, c6, c7⟩ := OnceB.cells hSw; go_simp⟩) (by assumption) ?_
    change wpAnyH _ _ _ _ _ _ _ (Act.put _ (some 23) _) _
    simp only [Act.put, List.setIfInBounds_toArray, List.set_cons_zero, List.set_cons_succ]
    refine wpAnyH_ready (rs := [8]) (by kernel_rfl) (by simp) ?_
    refine AllReadyH.cons rfl (fun K hK => ?_) (AllReadyH.nil)
    · refine step_value (v := .pointer (some ⟨z0.heap.size, 0, none⟩)) (w' := z0.alloc (.cells #[.int .i64 0, .int .i64 0, .int .i64 0, .int .i64 0, .slice none 0 0] 24)) rfl (by kernel_rfl) ?_
      have hb := box1 z0 (.cells #[.int .i64 0, .int .i64 0, .int .i64 0, .int .i64 0, .slice none 0 0] 24)
      have O11 := Lib.hid (O10.out.next hb)
      have B11 := Lib.hid (B10.out.trans (hb.mono (by rw [← hM]; exact B10.out.size)))
      have X1 : Hid (Cfg5 (z0.alloc (.cells #[.int .i64 0, .int .i64 0, .int .i64 0, .int .i64 0, .slice none 0 0] 24)) z0.heap.size 0 0 0 0 (.slice none 0 0)) := cfg_new z0 0 0 0 0 (.slice none 0 0)
      have XL : Hid (M < z0.heap.size) := heap_lt O10.out
      clear hb
      generalize z0.alloc (.cells #[.int .i64 0, .int .i64 0, .int .i64 0, .int .i64 0, .slice none 0 0] 24) = y1 at *
      generalize z0.heap.size = nb at *
      show K (Act.put _ (some 3) _) y1
      refine hK.out _ _ (O11.out) (fun hHeld1 => ?_)
      clear hK K
      refine wpAnyH_ready (rs := [9]) (by kernel_rfl) (by simp) ?_
      refine AllReadyH.cons rfl (fun K hK => ?_) AllReadyH.nil
      obtain ⟨x0, x1, x2, x3, x4⟩ := cfg_cells X1.out
      have zz := cfg_frz X1.out
      have XZ := Lib.hid (cfg_set5 X1.out W S B T (.slice ad len cap))
      have OO : Hid (Only [nb] y1 (((((y1.setCell ⟨nb, 0, none⟩ (.int .i64 W)).setCell ⟨nb, 1, none⟩ (.int .i64 S)).setCell ⟨nb, 2, none⟩ (.int .i64 B)).setCell ⟨nb, 3, none⟩ (.int .i64 T)).setCell ⟨nb, 4, none⟩ (.slice ad len cap))) := ((((Only.of_set (l := [nb]) (g := nb) (j := 0) (by simp) _).trans (Only.of_set (g := nb) (j := 1) (by simp) _)).trans (Only.of_set (g := nb) (j := 2) (by simp) _)).trans (Only.of_set (g := nb) (j := 3) (by simp) _)).trans (Only.of_set (g := nb) (j := 4) (by simp) _)
      have OZ : Hid (OnceB (((((y1.setCell ⟨nb, 0, none⟩ (.int .i64 W)).setCell ⟨nb, 1, none⟩ (.int .i64 S)).setCell ⟨nb, 2, none⟩ (.int .i64 B)).setCell ⟨nb, 3, none⟩ (.int .i64 T)).setCell ⟨nb, 4, none⟩ (.slice ad len cap)) M W S B T ad len cap G kc km) := OO.out.at O11.out (by have := XL.out; simp; omega)
      have BZ : Hid (Below M w (((((y1.setCell ⟨nb, 0, none⟩ (.int .i64 W)).setCell ⟨nb, 1, none⟩ (.int .i64 S)).setCell ⟨nb, 2, none⟩ (.int .i64 B)).setCell ⟨nb, 3, none⟩ (.int .i64 T)).setCell ⟨nb, 4, none⟩ (.slice ad len cap))) := B11.out.trans (OO.out.below (by have := XL.out; simp; omega) (by rw [← hM]; exact B11.out.size))
      go_simp
      refine hK.out _ _ (OZ.out) (fun hHeldZ => ?_)
      clear hK K
      refine wpAnyH_take (i := 10) (v := .int .u16 (G : Nat)) rfl (by kernel_rfl) (by kernel_rfl) (by kernel_rfl) (fun _ _ _ h => h) (Or.inl ⟨by rfl, fun w hSw => by obtain ⟨c0, c1, c2, c3, c4, c5, c6, c7⟩ := OnceB.cells hSw; go_simp⟩) (by assumption) ?_
      change wpAnyH _ _ _ _ _ _ _ (Act.put _ (some 4) _) _
      simp only [Act.put, List.setIfInBounds_toArray, List.set_cons_zero, List.set_cons_succ]
      refine wpAnyH_take (i := 11) (v := .int .u8 (kc : Nat)) rfl (by kernel_rfl) (by kernel_rfl) (by kernel_rfl) (fun _ _ _ h => h) (Or.inl ⟨by rfl, fun w hSw => by obtain ⟨c0, c1, c2, c3, c4, c5, c6, c7⟩ := OnceB.cells hSw; go_simp⟩) (by assumption) ?_
      change wpAnyH _ _ _ _ _ _ _ (Act.put _ (some 5) _) _
      simp only [Act.put, List.setIfInBounds_toArray, List.set_cons_zero, List.set_cons_succ]
      refine wpAnyH_take (i := 12) (v := .int .u8 (km : Nat)) rfl (by kernel_rfl) (by kernel_rfl) (by kernel_rfl) (fun _ _ _ h => h) (Or.inl ⟨by rfl, fun w hSw => by obtain ⟨c0, c1, c2, c3, c4, c5, c6, c7⟩ := OnceB.cells hSw; go_simp⟩) (by assumption) ?_
      change wpAnyH _ _ _ _ _ _ _ (Act.put _ (some 6) _) _
      simp only [Act.put, List.setIfInBounds_toArray, List.set_cons_zero, List.set_cons_succ]
      refine ⟨by kernel_rfl, ?_⟩
      refine NoPanic.normal ?_
      go_wp2_with fail
      go_meet
      case rel => exact ⟨nb, rfl, rfl, rfl, rfl, XZ, BZ, XL.out⟩
  case rest =>
    obtain ⟨N, rfl, rfl, rfl, rfl, C2, B2, lN⟩ := hcut
    clear O1 B1 lM
    have R2 : Hid (RowI wc ad len f) := hr.out.next (by rw [hM]; exact B2.out)
    obtain ⟨c0, c1, c2, c3, c4⟩ := cfg_cells C2.out
    go_wp2_with fail
    refine (rmay_any W S B T ad len cap f _ R2 hl).mono ?_
    rintro e w2 ⟨he, hb⟩
    obtain rfl : e = .returned (.bool false) := by rw [he, hm.out]
    have C3 := Lib.hid (cfg_next C2.out hb)
    have B3 : Hid (Below M w w2) := B2.out.trans (hb.mono (by rw [← hM]; exact B2.out.size))
    clear hb he C2 B2 R2 c0 c1 c2 c3 c4
    go_wp2_with fail
    go_ret
    exact ⟨rfl, by rw [hM]; exact B3.out⟩
set_option maxRecDepth 20000 in
set_option maxHeartbeats 8000000 in
theorem once_yes (W S B T : Int) (ad : Option Addr) (len cap : Nat) (f : Nat → Int) (G kc km : Nat) (hG : G < 65536) (hkc : kc < 256) (hkm : km < 256) (w : World) (hr : Hid (RowI w ad len f)) (hl : len < 9223372036854775808) (hF : Hid (FldL w)) (hm : Hid (mayB W S B T len f = true)) :
    Calls Tryd.prog 5 #[.agg #[.int .i64 W, .int .i64 S, .int .i64 B, .int .i64 T, .slice ad len cap, .int .u16 (G : Nat), .int .u8 (kc : Nat), .int .u8 (km : Nat)]] w fun e w' => e = .returned (.bool true) ∧ Below w.heap.size w w' := by
  have hq := below_alloc w (.cells #[.int .i64 W, .int .i64 S, .int .i64 B, .int .i64 T, .slice ad len cap, .int .u16 (G : Nat), .int .u8 (kc : Nat), .int .u8 (km : Nat)] 52)
  have O0 : Hid (OnceB (w.alloc (.cells #[.int .i64 W, .int .i64 S, .int .i64 B, .int .i64 T, .slice ad len cap, .int .u16 (G : Nat), .int .u8 (kc : Nat), .int .u8 (km : Nat)] 52)) w.heap.size W S B T ad len cap G kc km) := heap_new w (.cells #[.int .i64 W, .int .i64 S, .int .i64 B, .int .i64 T, .slice ad len cap, .int .u16 (G : Nat), .int .u8 (kc : Nat), .int .u8 (km : Nat)] 52)
  have B0 := Lib.hid hq
  have F0 := Lib.hid (hF.out.next hq)
  clear hq
  go_enter Tryd.func5, Tryd.ntmps5
  go_wp2_with fail
  generalize w.alloc (.cells #[.int .i64 W, .int .i64 S, .int .i64 B, .int .i64 T, .slice ad len cap, .int .u16 (G : Nat), .int .u8 (kc : Nat), .int .u8 (km : Nat)] 52) = w0 at *
  generalize hM : w.heap.size = M at *
  refine (speaks13 _ F0).mono ?_
  rintro e w1 ⟨rfl, hb⟩
  have O1 := Lib.hid (O0.out.next hb)
  have B1 : Hid (Below M w w1) := B0.out.trans (hb.mono (by rw [← hM]; exact B0.out.size))
  have lM : M < w1.heap.size := heap_lt O1.out
  clear hb O0 F0 B0
  go_upto_region 3 with fail
  go_cut [3, 4, 5, 6] (fun u3 u4 u5 u6 wx => ∃ N, u3 = .pointer (some ⟨N, 0, none⟩) ∧ u4 = .int .u16 (G : Nat) ∧ u5 = .int .u8 (kc : Nat) ∧ u6 = .int .u8 (km : Nat) ∧ Hid (Cfg5 wx N W S B T (.slice ad len cap)) ∧ Hid (Below M w wx) ∧ M < N)
  case first =>
    refine wp_region_noPanic ?_
    refine wp_region_held_drew (S := fun w' => OnceB w' M W S B T ad len cap G kc km) (by kernel_rfl) (O1.out.next ((Below.refl _ _).drew)) (fun hHeld => ?_)
    have DR := (Below.refl w1.heap.size w1).drew
    have O10 := Lib.hid (O1.out.next DR)
    have B10 := Lib.hid (B1.out.trans (DR.mono (by rw [← hM]; exact B1.out.size)))
    clear DR
    generalize w1.drew = z0 at *
    refine wpAnyH_take (i := 0) (v := .pointer (some ⟨M, 0, none⟩)) rfl (by kernel_rfl) (by kernel_rfl) (by kernel_rfl) (fun _ _ _ h => h) (Or.inl ⟨by rfl, fun w hSw => by obtain ⟨c0, c1, c2, c3, c4, c5, c6, c7⟩ := OnceB.cells hSw; go_simp⟩) (by assumption) ?_
    change wpAnyH _ _ _ _ _ _ _ (Act.put _ (some 16) _) _
    simp only [Act.put, List.setIfInBounds_toArray, List.set_cons_zero, List.set_cons_succ]
    refine wpAnyH_take (i := 1) (v := .agg #[.int .i64 W, .int .i64 S, .int .i64 B, .int .i64 T, .slice ad len cap]) rfl (by kernel_rfl) (by kernel_rfl) (by kernel_rfl) (fun _ _ _ h => h) (Or.inl ⟨by rfl, fun w hSw => by obtain ⟨c0, c1, c2, c3, c4, c5, c6, c7⟩ := OnceB.cells hSw; go_simp⟩) (by assumption) ?_
    change wpAnyH _ _ _ _ _ _ _ (Act.put _ (some 17) _) _
    simp only [Act.put, List.setIfInBounds_toArray, List.set_cons_zero, List.set_cons_succ]
    refine wpAnyH_take (i := 2) (v := .pointer (some ⟨M, 5, none⟩)) rfl (by kernel_rfl) (by kernel_rfl) (by kernel_rfl) (fun _ _ _ h => h) (Or.inl ⟨by rfl, fun w hSw => by obtain ⟨c0, c1, c2, c3, c4, c5, c6, c7⟩ := OnceB.cells hSw; go_simp⟩) (by assumption) ?_
    change wpAnyH _ _ _ _ _ _ _ (Act.put _ (some 18) _) _
    simp only [Act.put, List.setIfInBounds_toArray, List.set_cons_zero, List.set_cons_succ]
    refine wpAnyH_take (i := 3) (v := .int .u16 (G : Nat)) rfl (by kernel_rfl) (by kernel_rfl) (by kernel_rfl) (fun _ _ _ h => h) (Or.inl ⟨by rfl, fun w hSw => by obtain ⟨c0, c1, c2, c3, c4, c5, c6, c7⟩ := OnceB.cells hSw; go_simp⟩) (by assumption) ?_
    change wpAnyH _ _ _ _ _ _ _ (Act.put _ (some 19) _) _
    simp only [Act.put, List.setIfInBounds_toArray, List.set_cons_zero, List.set_cons_succ]
    refine wpAnyH_take (i := 4) (v := .pointer (some ⟨M, 6, none⟩)) rfl (by kernel_rfl) (by kernel_rfl) (by kernel_rfl) (fun _ _ _ h => h) (Or.inl ⟨by rfl, fun w hSw => by obtain ⟨c0, c1, c2, c3, c4, c5, c6, c7⟩ := OnceB.cells hSw; go_simp⟩) (by assumption) ?_
    change wpAnyH _ _ _ _ _ _ _ (Act.put _ (some 20) _) _
    simp only [Act.put, List.setIfInBounds_toArray, List.set_cons_zero, List.set_cons_succ]
    refine wpAnyH_take (i := 5) (v := .int .u8 (kc : Nat)) rfl (by kernel_rfl) (by kernel_rfl) (by kernel_rfl) (fun _ _ _ h => h) (Or.inl ⟨by rfl, fun w hSw => by obtain ⟨c0, c1, c2, c3, c4, c5, c6, c7⟩ := OnceB.cells hSw; go_simp⟩) (by assumption) ?_
    change wpAnyH _ _ _ _ _ _ _ (Act.put _ (some 21) _) _
    simp only [Act.put, List.setIfInBounds_toArray, List.set_cons_zero, List.set_cons_succ]
    refine wpAnyH_take (i := 6) (v := .pointer (some ⟨M, 7, none⟩)) rfl (by kernel_rfl) (by kernel_rfl) (by kernel_rfl) (fun _ _ _ h => h) (Or.inl ⟨by rfl, fun w hSw => by obtain ⟨c0, c1, c2, c3, c4, c5, c6, c7⟩ := OnceB.cells hSw; go_simp⟩) (by assumption) ?_
    change wpAnyH _ _ _ _ _ _ _ (Act.put _ (some 22) _) _
    simp only [Act.put, List.setIfInBounds_toArray, List.set_cons_zero, List.set_cons_succ]
    refine wpAnyH_take (i := 7) (v := .int .u8 (km : Nat)) rfl (by kernel_rfl) (by kernel_rfl) (by kernel_rfl) (fun _ _ _ h => h) (Or.inl ⟨by rfl, fun w hSw => by obtain ⟨c0, c1, c2, c3, c4, c5, c6, c7⟩ := OnceB.cells hSw; go_simp⟩) (by assumption) ?_
    change wpAnyH _ _ _ _ _ _ _ (Act.put _ (some 23) _) _
    simp only [Act.put, List.setIfInBounds_toArray, List.set_cons_zero, List.set_cons_succ]
    refine wpAnyH_ready (rs := [8]) (by kernel_rfl) (by simp) ?_
    refine AllReadyH.cons rfl (fun K hK => ?_) (AllReadyH.nil)
    · refine step_value (v := .pointer (some ⟨z0.heap.size, 0, none⟩)) (w' := z0.alloc (.cells #[.int .i64 0, .int .i64 0, .int .i64 0, .int .i64 0, .slice none 0 0] 24)) rfl (by kernel_rfl) ?_
      have hb := box1 z0 (.cells #[.int .i64 0, .int .i64 0, .int .i64 0, .int .i64 0, .slice none 0 0] 24)
      have O11 := Lib.hid (O10.out.next hb)
      have B11 := Lib.hid (B10.out.trans (hb.mono (by rw [← hM]; exact B10.out.size)))
      have X1 : Hid (Cfg5 (z0.alloc (.cells #[.int .i64 0, .int .i64 0, .int .i64 0, .int .i64 0, .slice none 0 0] 24)) z0.heap.size 0 0 0 0 (.slice none 0 0)) := cfg_new z0 0 0 0 0 (.slice none 0 0)
      have XL : Hid (M < z0.heap.size) := heap_lt O10.out
      clear hb
      generalize z0.alloc (.cells #[.int .i64 0, .int .i64 0, .int .i64 0, .int .i64 0, .slice none 0 0] 24) = y1 at *
      generalize z0.heap.size = nb at *
      show K (Act.put _ (some 3) _) y1
      refine hK.out _ _ (O11.out) (fun hHeld1 => ?_)
      clear hK K
      refine wpAnyH_ready (rs := [9]) (by kernel_rfl) (by simp) ?_
      refine AllReadyH.cons rfl (fun K hK => ?_) AllReadyH.nil
      obtain ⟨x0, x1, x2, x3, x4⟩ := cfg_cells X1.out
      have zz := cfg_frz X1.out
      have XZ := Lib.hid (cfg_set5 X1.out W S B T (.slice ad len cap))
      have OO : Hid (Only [nb] y1 (((((y1.setCell ⟨nb, 0, none⟩ (.int .i64 W)).setCell ⟨nb, 1, none⟩ (.int .i64 S)).setCell ⟨nb, 2, none⟩ (.int .i64 B)).setCell ⟨nb, 3, none⟩ (.int .i64 T)).setCell ⟨nb, 4, none⟩ (.slice ad len cap))) := ((((Only.of_set (l := [nb]) (g := nb) (j := 0) (by simp) _).trans (Only.of_set (g := nb) (j := 1) (by simp) _)).trans (Only.of_set (g := nb) (j := 2) (by simp) _)).trans (Only.of_set (g := nb) (j := 3) (by simp) _)).trans (Only.of_set (g := nb) (j := 4) (by simp) _)
      have OZ : Hid (OnceB (((((y1.setCell ⟨nb, 0, none⟩ (.int .i64 W)).setCell ⟨nb, 1, none⟩ (.int .i64 S)).setCell ⟨nb, 2, none⟩ (.int .i64 B)).setCell ⟨nb, 3, none⟩ (.int .i64 T)).setCell ⟨nb, 4, none⟩ (.slice ad len cap)) M W S B T ad len cap G kc km) := OO.out.at O11.out (by have := XL.out; simp; omega)
      have BZ : Hid (Below M w (((((y1.setCell ⟨nb, 0, none⟩ (.int .i64 W)).setCell ⟨nb, 1, none⟩ (.int .i64 S)).setCell ⟨nb, 2, none⟩ (.int .i64 B)).setCell ⟨nb, 3, none⟩ (.int .i64 T)).setCell ⟨nb, 4, none⟩ (.slice ad len cap))) := B11.out.trans (OO.out.below (by have := XL.out; simp; omega) (by rw [← hM]; exact B11.out.size))
      go_simp
      refine hK.out _ _ (OZ.out) (fun hHeldZ => ?_)
      clear hK K
      refine wpAnyH_take (i := 10) (v := .int .u16 (G : Nat)) rfl (by kernel_rfl) (by kernel_rfl) (by kernel_rfl) (fun _ _ _ h => h) (Or.inl ⟨by rfl, fun w hSw => by obtain ⟨c0, c1, c2, c3, c4, c5, c6, c7⟩ := OnceB.cells hSw; go_simp⟩) (by assumption) ?_
      change wpAnyH _ _ _ _ _ _ _ (Act.put _ (some 4) _) _
      simp only [Act.put, List.setIfInBounds_toArray, List.set_cons_zero, List.set_cons_succ]
      refine wpAnyH_take (i := 11) (v := .int .u8 (kc : Nat)) rfl (by kernel_rfl) (by kernel_rfl) (by kernel_rfl) (fun _ _ _ h => h) (Or.inl ⟨by rfl, fun w hSw => by obtain ⟨c0, c1, c2, c3, c4, c5, c6, c7⟩ := OnceB.cells hSw; go_simp⟩) (by assumption) ?_
      change wpAnyH _ _ _ _ _ _ _ (Act.put _ (some 5) _) _
      simp only [Act.put, List.setIfInBounds_toArray, List.set_cons_zero, List.set_cons_succ]
      refine wpAnyH_take (i := 12) (v := .int .u8 (km : Nat)) rfl (by kernel_rfl) (by kernel_rfl) (by kernel_rfl) (fun _ _ _ h => h) (Or.inl ⟨by rfl, fun w hSw => by obtain ⟨c0, c1, c2, c3, c4, c5, c6, c7⟩ := OnceB.cells hSw; go_simp⟩) (by assumption) ?_
      change wpAnyH _ _ _ _ _ _ _ (Act.put _ (some 6) _) _
      simp only [Act.put, List.setIfInBounds_toArray, List.set_cons_zero, List.set_cons_succ]
      refine ⟨by kernel_rfl, ?_⟩
      refine NoPanic.normal ?_
      go_wp2_with fail
      go_meet
      case rel => exact ⟨nb, rfl, rfl, rfl, rfl, XZ, BZ, XL.out⟩
  case rest =>
    obtain ⟨N, rfl, rfl, rfl, rfl, C2, B2, lN⟩ := hcut
    clear O1 B1 lM
    have R2 : Hid (RowI wc ad len f) := hr.out.next (by rw [hM]; exact B2.out)
    obtain ⟨c0, c1, c2, c3, c4⟩ := cfg_cells C2.out
    go_wp2_with fail
    refine (rmay_any W S B T ad len cap f _ R2 hl).mono ?_
    rintro e w2 ⟨he, hb⟩
    obtain rfl : e = .returned (.bool true) := by rw [he, hm.out]
    have C3 := Lib.hid (cfg_next C2.out hb)
    have B3 : Hid (Below M w w2) := B2.out.trans (hb.mono (by rw [← hM]; exact B2.out.size))
    clear hb he C2 B2 R2 c0 c1 c2 c3 c4
    obtain ⟨⟨w1, w2⟩, ⟨s1, s2⟩, ⟨b1, b2⟩, ⟨t1, t2⟩, ⟨l1, l2⟩, hcls⟩ := may_nums hm.out
    have OK := Lib.hid (cls_ok hcls)
    clear hcls w1 w2 b1 b2 t1 t2
    obtain ⟨n, hn⟩ : ∃ n : Nat, (n : Int) = S * 64 := ⟨(S * 64).toNat, by omega⟩
    have n1 : 64 ≤ n := by omega
    have n2 : n ≤ 4096 := by omega
    have LSZ : Hid (∀ w, Calls Tryd.prog 13 #[.agg #[.int .i64 W, .int .i64 S, .int .i64 B, .int .i64 T, .slice ad len cap]] w fun e w' => e = .returned (.int .i64 (n : Nat)) ∧ Below w.heap.size w w') := fun w => by
      have := lsize_any W S B T (.slice ad len cap) w (by omega) (by omega)
      rw [← hn] at this
      exact this
    have HN := Lib.hid hn
    clear hn
    obtain ⟨c0, c1, c2, c3, c4⟩ := cfg_cells C3.out
    go_wp2_with fail
    refine (LSZ.out _).mono ?_
    rintro e w3 ⟨rfl, hb⟩
    have C4 := Lib.hid (cfg_next C3.out hb)
    have B4 : Hid (Below M w w3) := B3.out.trans (hb.mono (by rw [← hM]; exact B3.out.size))
    have lt4 := cfg_lt C4.out
    clear hb C3 B3 c0 c1 c2 c3 c4
    go_wp2_with fail
    refine (new_nat (n + 2) ((n : Int) + 2) _ (.inr (.inl ⟨by omega, by omega⟩))).mono ?_
    rintro e w4 ⟨g, h, rfl, m5, q1, q2, hb⟩
    have C5 := Lib.hid (cfg_next C4.out hb)
    have B5 : Hid (Below M w w4) := B4.out.trans (hb.mono (by rw [← hM]; exact B4.out.size))
    have M5 := Lib.hid m5
    have Q1 := Lib.hid (Nat.lt_of_lt_of_le lt4 q1)
    have Q2 := Lib.hid (Nat.lt_of_lt_of_le lt4 q2)
    have R5 : Hid (RowI w4 ad len f) := hr.out.next (by rw [hM]; exact B5.out)
    clear hb C4 B4 m5 q1 q2
    obtain ⟨c0, c1, c2, c3, c4⟩ := cfg_cells C5.out
    go_wp2_with fail
    refine (lnew_any g 1 W S B T ad len cap f _ R5 (by omega) hm).mono ?_
    rintro e w5 ⟨t, cb, rfl, t6, q3, q4, hb⟩
    have L6 : Hid (Ls w w5 N W S B T ad len cap f t g h cb 1 (MSt.fresh (n + 2))) := by
      have z1 := Q1.out
      have z2 := Q2.out
      have z3 := M5.out.lt
      have z4 := cfg_lt C5.out
      have z5 := B5.out.size
      exact ⟨cfg_next C5.out hb, hr.out, by rw [hM]; exact B5.out.trans (hb.mono (by rw [← hM]; exact B5.out.size)), t6, M5.out.next hb, hF.out, ⟨by omega, by omega, by omega, by omega, by omega⟩, ⟨by omega, by omega, by omega, by omega, by omega, by omega⟩⟩
    have TW : Hid (Tw (MSt.fresh (n + 2)) 1 n S len (fun _ => none) 0) := Tw.fresh (by omega)
    clear hb C5 B5 M5 Q1 Q2 R5 t6 q3 q4 c0 c1 c2 c3 c4
    obtain ⟨c0, c1, c2, c3, c4⟩ := cfg_cells L6.out.c
    obtain ⟨j, hj, hjn⟩ : ∃ j : Nat, (G : Int) % (64 * S) = (j : Int) ∧ j < n := by
      have h1 := Int.emod_nonneg (G : Int) (show 64 * S ≠ 0 by omega)
      have h2 := Int.emod_lt_of_pos (G : Int) (show 0 < 64 * S by omega)
      have := HN.out
      exact ⟨((G : Int) % (64 * S)).toNat, by omega, by omega⟩
    obtain ⟨c, hc, hcl⟩ : ∃ c : Nat, (kc : Int) % (len : Int) = (c : Int) ∧ c < len := ⟨kc % len, by simp, Nat.mod_lt _ (by omega)⟩
    have hs : IntKind.i64.wrap (64 * S) = 64 * S := by rw [IntKind.wrap_i64]; omega
    have hz : (64 * S == 0) = false := by simp; omega
    have hz2 : ((len : Int) == 0) = false := by simp; omega
    obtain ⟨AT, hAT⟩ : ∃ AT : Int, 65536 + 16 * (j : Int) = AT := ⟨_, rfl⟩
    have HAT : Hid (AT = 65536 + 16 * (j : Int)) := hAT.symm
    have hw1 : IntKind.i64.wrap (16 * (j : Int)) = 16 * (j : Int) := by rw [IntKind.wrap_i64]; omega
    have hw2 : IntKind.i64.wrap AT = AT := by rw [IntKind.wrap_i64]; omega
    have hj2 : (j : Int) < 64 * S := by have := HN.out; omega
    have hjS : Hid ((j : Int) < 64 * S) := hj2
    clear hj2
    go_wp2_with fail
    refine (lof_any (c : Nat) _).mono ?_
    rintro e w6 ⟨rfl, hb⟩
    have L7 := Lib.hid (L6.out.next hb)
    clear hb L6 c0 c1 c2 c3 c4
    have hba := below_alloc w6 (.cells #[.int .i64 (c : Nat), .int .i64 0] 35)
    have X8 := Lib.hid (Two5.new w6 35 (c : Nat) 0)
    have L8 := Lib.hid (L7.out.next hba)
    have NX : Hid (w6.heap.size ≠ g ∧ w6.heap.size ≠ h) := ⟨by have := L7.out.lts; omega, by have := L7.out.lts; omega⟩
    clear hba L7
    go_wp2_with fail
    generalize w6.alloc (.cells #[.int .i64 (c : Nat), .int .i64 0] 35) = w7 at *
    generalize w6.heap.size = MX at *
    have MT : MayT S len (c : Int) 0 := .inr ⟨rfl, by omega, by omega⟩
    refine (L8.out.mark (by omega) (by omega) (by omega) OK.out (by simp [MSt.fresh]) (by simp [MSt.fresh]) (by omega) hjS.out HAT.out MT).mono ?_
    rintro e w8 ⟨rfl, l9, o9⟩
    have NX1 := NX.out
    have X9 : Hid (Two5 w8 MX 35 (c : Nat) 0) := o9.at X8.out (by simp; omega)
    have P9 : Hid (((((MSt.fresh (n + 2)).begun 2 ((1 + j : Nat) : Int)).put ((1 + j : Nat) : Int) (wordT (c : Int) 0)).rd ((0 : Nat) : Int) = 0 ∧ (((MSt.fresh (n + 2)).begun 2 ((1 + j : Nat) : Int)).put ((1 + j : Nat) : Int) (wordT (c : Int) 0)).rd ((n + 1 : Nat) : Int) = 0) ∧ (((MSt.fresh (n + 2)).begun 2 ((1 + j : Nat) : Int)).put ((1 + j : Nat) : Int) (wordT (c : Int) 0)).ws.length = n + 2) := by
      have e0 : (MSt.fresh (n + 2)).ws.length = n + 2 := by simp [MSt.fresh]
      refine ⟨⟨?_, ?_⟩, by rw [lput_len, e0]⟩
      · rw [lput_rd (by omega) (by omega), if_neg (by omega), lrd_nat (by omega)]; simp [MSt.fresh]
      · rw [lput_rd (by omega) (by omega), if_neg (by omega), lrd_nat (by omega)]; simp [MSt.fresh]
    have T9 : Hid (Tw (((MSt.fresh (n + 2)).begun 2 ((1 + j : Nat) : Int)).put ((1 + j : Nat) : Int) (wordT (c : Int) 0)) 1 n S len (setL (fun _ => none) j (some ((c : Int), 0))) 1) := TW.out.put 2 hjn (mayO_some MT)
    have L9 := Lib.hid l9
    clear l9 o9 L8 X8 TW NX1
    generalize ((MSt.fresh (n + 2)).begun 2 ((1 + j : Nat) : Int)).put ((1 + j : Nat) : Int) (wordT (c : Int) 0) = s9 at *
    go_wp2_with fail
    go_loopw [10, 57] (fun u10 u57 wr => ∃ (k : Nat) (s' : MSt) (L' : Nat → Option (Int × Int)), k ≤ 1 + km ∧ u57 = .int .i64 (k : Nat) ∧ u10 = .int .i64 ((if k = 0 then 0 else 1 : Nat) : Int) ∧ Hid (Ls w wr N W S B T ad len cap f t g h cb 1 (s')) ∧ Hid (Tw s' 1 n S len L' (k + 1)) ∧ Hid (L' j = if k = 0 then some ((c : Int), 0) else none) ∧ Hid (∀ i, i ≠ j → L' i = none) ∧ Hid ((s'.rd ((0 : Nat) : Int) = 0 ∧ s'.rd ((n + 1 : Nat) : Int) = 0) ∧ s'.ws.length = n + 2) ∧ Hid (Two5 wr MX 35 (c : Nat) 0)) (fun _ u57 _ => 1 + km - (intOf u57).toNat)
    case atStart => exact ⟨0, s9, _, by omega, rfl, rfl, L9, T9, Lib.hid (by simp [setL]), Lib.hid (fun i hi => by simp [setL, hi]), P9, X9⟩
    case round =>
      obtain ⟨k, s', L', hk, rfl, rfl, G0, T0, LJ, LN, P0, X0⟩ := hrel
      by_cases hlt : k < 1 + km
      · have l3 : (k : Int) < 1 + (km : Int) := by omega
        have ho : s'.ops < 4611686018427387904 := by rw [T0.out.ops]; omega
        have hf : s'.faults < 4611686018427387904 := by rw [T0.out.fl]; omega
        have TK := G0.out.take (by omega) (by omega) (by omega) OK.out ho hf (by omega) hjS.out HAT.out (T0.out.rd hjn) (T0.out.may hjn)
        have NT := T0.out.put 3 hjn (q := none) mayO_none
        have NP : (((s'.begun 3 ((1 + j : Nat) : Int)).put ((1 + j : Nat) : Int) 0).rd ((0 : Nat) : Int) = 0 ∧ ((s'.begun 3 ((1 + j : Nat) : Int)).put ((1 + j : Nat) : Int) 0).rd ((n + 1 : Nat) : Int) = 0) ∧ ((s'.begun 3 ((1 + j : Nat) : Int)).put ((1 + j : Nat) : Int) 0).ws.length = n + 2 := by
          obtain ⟨⟨p1, p2⟩, p3⟩ := P0.out
          refine ⟨⟨?_, ?_⟩, by rw [lput_len, p3]⟩
          · rw [lput_rd (by omega) (by omega), if_neg (by omega)]; exact p1
          · rw [lput_rd (by omega) (by omega), if_neg (by omega)]; exact p2
        have NT' := Lib.hid NT
        have NP' := Lib.hid NP
        rw [show encT none = 0 from rfl] at NT'
        clear NT NP P0 T0 ho hf
        by_cases h0 : k = 0
        · subst h0
          rw [LJ.out, if_pos rfl, show oxT (some ((c : Int), (0 : Int))) = (c : Int) from rfl, show oyT (some ((c : Int), (0 : Int))) = 0 from rfl, show obT (some ((c : Int), (0 : Int))) = true from rfl] at TK
          go_wp2_with fail
          refine TK.mono ?_
          rintro e w9 ⟨rfl, l1, o1⟩
          have L10 := Lib.hid l1
          have NX1 := NX.out
          have X10 : Hid (Two5 w9 MX 35 (c : Nat) 0) := o1.at X0.out (by simp; omega)
          clear l1 o1 X0 G0 TK NX1
          have hba := below_alloc w9 (.cells #[.int .i64 (c : Nat), .int .i64 0] 35)
          have L11 := Lib.hid (L10.out.next hba)
          have X11 := Lib.hid (X10.out.next hba)
          have Y11 := Lib.hid (Two5.new w9 35 (c : Nat) 0)
          have lX := X10.out.lt
          have nXY : ¬ MX = w9.heap.size := by omega
          clear hba L10 X10
          go_upto_region 15 with fail
          generalize w9.alloc (.cells #[.int .i64 (c : Nat), .int .i64 0] 35) = w10 at *
          generalize w9.heap.size = MY at *
          obtain ⟨x0, x1⟩ := X11.out.cells
          obtain ⟨y0, y1⟩ := Y11.out.cells
          go_wp2_with fail
          go_roundw
          case rel => exact ⟨1, _, setL L' j none, by omega, by push_cast; rfl, by simp, L11, NT', Lib.hid (by simp [setL]), Lib.hid (fun i hi => by simp [setL, hi, LN.out i hi]), NP', X11⟩
          case measure => first | (simp [intOf]; done) | (simp [intOf]; omega)
        · rw [LJ.out, if_neg h0, show oxT none = 0 from rfl, show oyT none = 0 from rfl, show obT none = false from rfl] at TK
          rw [if_neg h0]
          go_wp2_with fail
          refine TK.mono ?_
          rintro e w9 ⟨rfl, l1, o1⟩
          have L10 := Lib.hid l1
          have NX1 := NX.out
          have X10 : Hid (Two5 w9 MX 35 (c : Nat) 0) := o1.at X0.out (by simp; omega)
          clear l1 o1 X0 G0 TK NX1
          have hba := below_alloc w9 (.cells #[.int .i64 0, .int .i64 0] 35)
          have L11 := Lib.hid (L10.out.next hba)
          have X11 := Lib.hid (X10.out.next hba)
          have Y11 := Lib.hid (Two5.new w9 35 0 0)
          have lX := X10.out.lt
          have nXY : ¬ MX = w9.heap.size := by omega
          clear hba L10 X10
          go_upto_region 15 with fail
          generalize w9.alloc (.cells #[.int .i64 0, .int .i64 0] 35) = w10 at *
          generalize w9.heap.size = MY at *
          obtain ⟨x0, x1⟩ := X11.out.cells
          obtain ⟨y0, y1⟩ := Y11.out.cells
          go_wp2_with fail
          go_roundw
          case rel => exact ⟨k + 1, _, setL L' j none, by omega, by push_cast; rfl, by simp, L11, NT', Lib.hid (by simp [setL]), Lib.hid (fun i hi => by simp [setL, hi, LN.out i hi]), NP', X11⟩
          case measure => first | (simp [intOf]; done) | (simp [intOf]; omega)
      · obtain rfl : k = 1 + km := by omega
        rw [if_neg (by omega)]
        have hll : s'.ws.length = n + 2 := P0.out.2
        have PK0 : Hid (∀ y, Below wr.heap.size wr y → Calls Tryd.prog 25 #[.pointer (some ⟨g, 0, none⟩), .int .i64 0] y fun e w' => e = .returned (.int .u64 0) ∧ y = w') := fun y hb => by
          have := peek_any g h s' ((0 : Nat) : Int) y (G0.out.m.next hb)
          rw [P0.out.1.1] at this
          exact this
        have PK1 : Hid (∀ y, Below wr.heap.size wr y → Calls Tryd.prog 25 #[.pointer (some ⟨g, 0, none⟩), .int .i64 ((n : Int) + 1)] y fun e w' => e = .returned (.int .u64 0) ∧ y = w') := fun y hb => by
          have := peek_any g h s' ((n + 1 : Nat) : Int) y (G0.out.m.next hb)
          rw [P0.out.1.2] at this
          rw [show ((n + 1 : Nat) : Int) = (n : Int) + 1 from by omega] at this
          exact this
        have LN2 : Hid (∀ y, Below wr.heap.size wr y → Calls Tryd.prog 26 #[.pointer (some ⟨g, 0, none⟩)] y fun e w' => e = .returned (.int .i64 ((n : Int) + 2)) ∧ y = w') := fun y hb => by
          have := len_any g h s' y (G0.out.m.next hb)
          rw [hll, show ((n + 2 : Nat) : Int) = (n : Int) + 2 from by omega] at this
          exact this
        have EMP : Hid (allL S len f L' n = []) := allL_none fun i hi => by
          by_cases e : i = j
          · subst e; have := LJ.out; rw [if_neg (by omega)] at this; exact this
          · exact LN.out i e
        have AL : Hid (∀ y, Below wr.heap.size wr y → Calls Tryd.prog 20 #[.pointer (some ⟨t, 0, none⟩)] y fun e w' => (∃ a c, e = .returned (.slice a 0 c)) ∧ Below y.heap.size y w') := fun y hb => by
          have G1 := G0.out.next hb
          refine (all13_any t g cb 1 h W S B T len f s' n L' y (Lib.hid G1.tb) (Lib.hid G1.fl) (Lib.hid G1.m) (by omega) (by omega) (by omega) OK (by omega) HN.out (Lib.hid T0.out.lw)).mono ?_
          rintro e w' ⟨v, rfl, R, _, hb2⟩
          rw [EMP.out] at R
          obtain ⟨a, c, rfl⟩ := ORow.form R
          exact ⟨⟨a, c, rfl⟩, hb2⟩
        clear hll P0 T0 EMP LJ LN
        have hw3 : IntKind.i64.wrap ((n : Int) + 2 - 1) = (n : Int) + 1 := by rw [IntKind.wrap_i64]; omega
        go_wp2_with fail
        refine (PK0.out _ (Below.refl _ _)).mono ?_
        rintro e wq ⟨rfl, rfl⟩
        go_wp2_with fail
        refine (LN2.out _ (Below.refl _ _)).mono ?_
        rintro e wq ⟨rfl, rfl⟩
        go_wp2_with fail
        refine (PK1.out _ (Below.refl _ _)).mono ?_
        rintro e wq ⟨rfl, rfl⟩
        go_wp2_with fail
        refine (AL.out _ (Below.refl _ _)).mono ?_
        rintro e wq ⟨⟨av, cv, rfl⟩, hb⟩
        have BE := Lib.hid (G0.out.be.trans (hb.mono G0.out.be.size))
        clear hb
        go_wp2_with fail
        go_ret
        exact ⟨rfl, BE.out⟩
theorem once_walk (W S B T : Int) (ad : Option Addr) (len cap : Nat) (f : Nat → Int) (G kc km : Nat) (w : World) (hG : G < 65536) (hkc : kc < 256) (hkm : km < 256) (hr : RowI w ad len f) (hl : len < 9223372036854775808) (hF : FldL w) :
    Calls Tryd.prog 5 #[.agg #[.int .i64 W, .int .i64 S, .int .i64 B, .int .i64 T, .slice ad len cap, .int .u16 (G : Nat), .int .u8 (kc : Nat), .int .u8 (km : Nat)]] w fun e w' => e = .returned (.bool true) ∧ Below w.heap.size w w' := by
  rcases h : mayB W S B T len f with _ | _
  · exact once_no W S B T ad len cap f G kc km w (Lib.hid hr) hl (Lib.hid hF) (Lib.hid h)
  · exact once_yes W S B T ad len cap f G kc km hG hkc hkm w (Lib.hid hr) hl (Lib.hid hF) (Lib.hid h)
end Go.Proofs.YtchkgmknhndccaaDoor
