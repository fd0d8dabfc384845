/-
  StockFills: the walk.
-/
import Derived.Test.YtagacljfpakgnaaDoorStockFm
namespace Go.Proofs.YtagacljfpakgnaaDoor
open Go.RowKit Go.Maps Go.Sort
attribute [local go_sem] Oper.semAt_some

set_option maxRecDepth 20000 in
set_option maxHeartbeats 8000000 in
theorem sfills_walk (W S B T : Int) (ad : Option Addr) (len cap : Nat) (f : Nat → Int) (cl su m : Nat) (w : World) (hr : Hid (RowI w ad len f)) (hl : len < 9223372036854775808) (hT : Hid (TabAt w)) (hcl : cl < 256) (hsu : su < 256) (hm : m < 18446744073709551616) :
    Calls Tryd.prog 6 #[.agg #[.int .i64 W, .int .i64 S, .int .i64 B, .int .i64 T, .slice ad len cap, .int .u8 (cl : Nat), .int .u8 (su : Nat), .int .u64 (m : Nat)]] w fun e w' => e = .returned (.bool true) ∧ Below w.heap.size w w' := by
  obtain ⟨kc, hkc, hkl⟩ : ∃ kc : Nat, (cl : Int) % (len : Int) = (kc : Int) ∧ (1 ≤ len → kc < len) := ⟨cl % len, by simp, fun h => Nat.mod_lt _ h⟩
  have hb := box1 w (.cells #[.int .i64 W, .int .i64 S, .int .i64 B, .int .i64 T, .slice ad len cap, .int .u8 (cl : Nat), .int .u8 (su : Nat), .int .u64 (m : Nat)] 52)
  have G0 : Hid ((w.alloc (.cells #[.int .i64 W, .int .i64 S, .int .i64 B, .int .i64 T, .slice ad len cap, .int .u8 (cl : Nat), .int .u8 (su : Nat), .int .u64 (m : Nat)] 52)).heap[w.heap.size]? = some (.cells #[.int .i64 W, .int .i64 S, .int .i64 B, .int .i64 T, .slice ad len cap, .int .u8 (cl : Nat), .int .u8 (su : Nat), .int .u64 (m : Nat)] 52 (0, 0))) := heap_new w _
  have B0 := Lib.hid hb
  have R0 := Lib.hid (hr.out.next hb)
  have T0 := Lib.hid (hT.out.next hb)
  clear hb
  go_enter Tryd.func6, Tryd.ntmps6
  go_wp2_with fail
  generalize w.alloc (.cells #[.int .i64 W, .int .i64 S, .int .i64 B, .int .i64 T, .slice ad len cap, .int .u8 (cl : Nat), .int .u8 (su : Nat), .int .u64 (m : Nat)] 52) = w0 at *
  refine (speaks12_any _ T0).mono ?_
  rintro e w1 ⟨rfl, hb⟩
  have E1 := Lib.hid hb
  have G1 := Lib.hid ((hb.block _ (heap_lt G0.out)).trans G0.out)
  clear hb
  go_upto_region 3 with fail
  refine wp_region_noPanic ?_
  refine wp_region_held_drew (S := fun w' => w'.heap[w.heap.size]? = some (.cells #[.int .i64 W, .int .i64 S, .int .i64 B, .int .i64 T, .slice ad len cap, .int .u8 (cl : Nat), .int .u8 (su : Nat), .int .u64 (m : Nat)] 52 (0, 0))) (by kernel_rfl) (G1.out) (fun hHeld => ?_)
  have hb := (Below.refl w1.heap.size w1).drew
  have E2 := Lib.hid (E1.out.trans (hb.mono E1.out.size))
  have G2 := Lib.hid ((hb.block _ (heap_lt G1.out)).trans G1.out)
  clear hb
  generalize w1.drew = z0 at *
  refine wpAnyH_take (i := 0) (v := .pointer (some ⟨w.heap.size, 0, none⟩)) rfl (by kernel_rfl) (by kernel_rfl) (by kernel_rfl) (fun _ _ _ h => h) (Or.inl ⟨by rfl, fun w hSw => by have d0 := cell_of (j := 0) hSw; have d1 := cell_of (j := 1) hSw; have d2 := cell_of (j := 2) hSw; have d3 := cell_of (j := 3) hSw; have d4 := cell_of (j := 4) hSw; have d5 := cell_of (j := 5) hSw; have d6 := cell_of (j := 6) hSw; have d7 := cell_of (j := 7) hSw; simp at d0 d1 d2 d3 d4 d5 d6 d7; go_simp⟩) (by assumption) ?_
  change wpAnyH _ _ _ _ _ _ _ (Act.put _ (some 16) _) _
  simp only [Act.put, List.setIfInBounds_toArray, List.set_cons_zero, List.set_cons_succ]
  refine wpAnyH_take (i := 1) (v := .agg #[.int .i64 W, .int .i64 S, .int .i64 B, .int .i64 T, .slice ad len cap]) rfl (by kernel_rfl) (by kernel_rfl) (by kernel_rfl) (fun _ _ _ h => h) (Or.inl ⟨by rfl, fun w hSw => by have d0 := cell_of (j := 0) hSw; have d1 := cell_of (j := 1) hSw; have d2 := cell_of (j := 2) hSw; have d3 := cell_of (j := 3) hSw; have d4 := cell_of (j := 4) hSw; have d5 := cell_of (j := 5) hSw; have d6 := cell_of (j := 6) hSw; have d7 := cell_of (j := 7) hSw; simp at d0 d1 d2 d3 d4 d5 d6 d7; go_simp⟩) (by assumption) ?_
  change wpAnyH _ _ _ _ _ _ _ (Act.put _ (some 17) _) _
  simp only [Act.put, List.setIfInBounds_toArray, List.set_cons_zero, List.set_cons_succ]
  refine wpAnyH_take (i := 2) (v := .pointer (some ⟨w.heap.size, 5, none⟩)) rfl (by kernel_rfl) (by kernel_rfl) (by kernel_rfl) (fun _ _ _ h => h) (Or.inl ⟨by rfl, fun w hSw => by have d0 := cell_of (j := 0) hSw; have d1 := cell_of (j := 1) hSw; have d2 := cell_of (j := 2) hSw; have d3 := cell_of (j := 3) hSw; have d4 := cell_of (j := 4) hSw; have d5 := cell_of (j := 5) hSw; have d6 := cell_of (j := 6) hSw; have d7 := cell_of (j := 7) hSw; simp at d0 d1 d2 d3 d4 d5 d6 d7; go_simp⟩) (by assumption) ?_
  change wpAnyH _ _ _ _ _ _ _ (Act.put _ (some 18) _) _
  simp only [Act.put, List.setIfInBounds_toArray, List.set_cons_zero, List.set_cons_succ]
  refine wpAnyH_take (i := 3) (v := .int .u8 (cl : Nat)) rfl (by kernel_rfl) (by kernel_rfl) (by kernel_rfl) (fun _ _ _ h => h) (Or.inl ⟨by rfl, fun w hSw => by have d0 := cell_of (j := 0) hSw; have d1 := cell_of (j := 1) hSw; have d2 := cell_of (j := 2) hSw; have d3 := cell_of (j := 3) hSw; have d4 := cell_of (j := 4) hSw; have d5 := cell_of (j := 5) hSw; have d6 := cell_of (j := 6) hSw; have d7 := cell_of (j := 7) hSw; simp at d0 d1 d2 d3 d4 d5 d6 d7; go_simp⟩) (by assumption) ?_
  change wpAnyH _ _ _ _ _ _ _ (Act.put _ (some 19) _) _
  simp only [Act.put, List.setIfInBounds_toArray, List.set_cons_zero, List.set_cons_succ]
  refine wpAnyH_take (i := 4) (v := .pointer (some ⟨w.heap.size, 6, none⟩)) rfl (by kernel_rfl) (by kernel_rfl) (by kernel_rfl) (fun _ _ _ h => h) (Or.inl ⟨by rfl, fun w hSw => by have d0 := cell_of (j := 0) hSw; have d1 := cell_of (j := 1) hSw; have d2 := cell_of (j := 2) hSw; have d3 := cell_of (j := 3) hSw; have d4 := cell_of (j := 4) hSw; have d5 := cell_of (j := 5) hSw; have d6 := cell_of (j := 6) hSw; have d7 := cell_of (j := 7) hSw; simp at d0 d1 d2 d3 d4 d5 d6 d7; go_simp⟩) (by assumption) ?_
  change wpAnyH _ _ _ _ _ _ _ (Act.put _ (some 20) _) _
  simp only [Act.put, List.setIfInBounds_toArray, List.set_cons_zero, List.set_cons_succ]
  refine wpAnyH_take (i := 5) (v := .int .u8 (su : Nat)) rfl (by kernel_rfl) (by kernel_rfl) (by kernel_rfl) (fun _ _ _ h => h) (Or.inl ⟨by rfl, fun w hSw => by have d0 := cell_of (j := 0) hSw; have d1 := cell_of (j := 1) hSw; have d2 := cell_of (j := 2) hSw; have d3 := cell_of (j := 3) hSw; have d4 := cell_of (j := 4) hSw; have d5 := cell_of (j := 5) hSw; have d6 := cell_of (j := 6) hSw; have d7 := cell_of (j := 7) hSw; simp at d0 d1 d2 d3 d4 d5 d6 d7; go_simp⟩) (by assumption) ?_
  change wpAnyH _ _ _ _ _ _ _ (Act.put _ (some 21) _) _
  simp only [Act.put, List.setIfInBounds_toArray, List.set_cons_zero, List.set_cons_succ]
  refine wpAnyH_take (i := 6) (v := .pointer (some ⟨w.heap.size, 7, none⟩)) rfl (by kernel_rfl) (by kernel_rfl) (by kernel_rfl) (fun _ _ _ h => h) (Or.inl ⟨by rfl, fun w hSw => by have d0 := cell_of (j := 0) hSw; have d1 := cell_of (j := 1) hSw; have d2 := cell_of (j := 2) hSw; have d3 := cell_of (j := 3) hSw; have d4 := cell_of (j := 4) hSw; have d5 := cell_of (j := 5) hSw; have d6 := cell_of (j := 6) hSw; have d7 := cell_of (j := 7) hSw; simp at d0 d1 d2 d3 d4 d5 d6 d7; go_simp⟩) (by assumption) ?_
  change wpAnyH _ _ _ _ _ _ _ (Act.put _ (some 22) _) _
  simp only [Act.put, List.setIfInBounds_toArray, List.set_cons_zero, List.set_cons_succ]
  refine wpAnyH_take (i := 7) (v := .int .u64 (m : Nat)) rfl (by kernel_rfl) (by kernel_rfl) (by kernel_rfl) (fun _ _ _ h => h) (Or.inl ⟨by rfl, fun w hSw => by have d0 := cell_of (j := 0) hSw; have d1 := cell_of (j := 1) hSw; have d2 := cell_of (j := 2) hSw; have d3 := cell_of (j := 3) hSw; have d4 := cell_of (j := 4) hSw; have d5 := cell_of (j := 5) hSw; have d6 := cell_of (j := 6) hSw; have d7 := cell_of (j := 7) hSw; simp at d0 d1 d2 d3 d4 d5 d6 d7; go_simp⟩) (by assumption) ?_
  change wpAnyH _ _ _ _ _ _ _ (Act.put _ (some 23) _) _
  simp only [Act.put, List.setIfInBounds_toArray, List.set_cons_zero, List.set_cons_succ]
  refine wpAnyH_ready (rs := [8]) (by kernel_rfl) (by simp) ?_
  refine AllReadyH.cons rfl (fun K hK => ?_) (AllReadyH.nil)
  go_simp
  have G3 : Hid ((z0.alloc (.cells #[.int .i64 0, .int .i64 0, .int .i64 0, .int .i64 0, .slice none 0 0] 24)).heap[w.heap.size]? = some (.cells #[.int .i64 W, .int .i64 S, .int .i64 B, .int .i64 T, .slice ad len cap, .int .u8 (cl : Nat), .int .u8 (su : Nat), .int .u64 (m : Nat)] 52 (0, 0))) := ((box1 z0 (.cells #[.int .i64 0, .int .i64 0, .int .i64 0, .int .i64 0, .slice none 0 0] 24)).block _ (heap_lt G2.out)).trans G2.out
  refine hK.out _ _ (G3.out) (fun hHeld1 => ?_)
  clear hK K
  refine wpAnyH_ready (rs := [9]) (by kernel_rfl) (by simp) ?_
  refine AllReadyH.cons rfl (fun K hK => ?_) (AllReadyH.nil)
  go_simp
  have hb := box1 z0 (.cells #[.int .i64 W, .int .i64 S, .int .i64 B, .int .i64 T, .slice ad len cap] 24)
  have G4 : Hid ((z0.alloc (.cells #[.int .i64 W, .int .i64 S, .int .i64 B, .int .i64 T, .slice ad len cap] 24)).heap[w.heap.size]? = some (.cells #[.int .i64 W, .int .i64 S, .int .i64 B, .int .i64 T, .slice ad len cap, .int .u8 (cl : Nat), .int .u8 (su : Nat), .int .u64 (m : Nat)] 52 (0, 0))) := (hb.block _ (heap_lt G2.out)).trans G2.out
  have C4 := Lib.hid (cfg_new z0 W S B T (.slice ad len cap))
  have E4 := Lib.hid (E2.out.trans (hb.mono E2.out.size))
  have ZL : Hid (w0.heap.size ≤ z0.heap.size) := Lib.hid E2.out.size
  clear hb
  refine hK.out _ _ (G4.out) (fun hHeld2 => ?_)
  clear hK K
  refine wpAnyH_take (i := 10) (v := .int .u8 (cl : Nat)) rfl (by kernel_rfl) (by kernel_rfl) (by kernel_rfl) (fun _ _ _ h => h) (Or.inl ⟨by rfl, fun w hSw => by have d0 := cell_of (j := 0) hSw; have d1 := cell_of (j := 1) hSw; have d2 := cell_of (j := 2) hSw; have d3 := cell_of (j := 3) hSw; have d4 := cell_of (j := 4) hSw; have d5 := cell_of (j := 5) hSw; have d6 := cell_of (j := 6) hSw; have d7 := cell_of (j := 7) hSw; simp at d0 d1 d2 d3 d4 d5 d6 d7; go_simp⟩) (by assumption) ?_
  change wpAnyH _ _ _ _ _ _ _ (Act.put _ (some 4) _) _
  simp only [Act.put, List.setIfInBounds_toArray, List.set_cons_zero, List.set_cons_succ]
  refine wpAnyH_take (i := 11) (v := .int .u8 (su : Nat)) rfl (by kernel_rfl) (by kernel_rfl) (by kernel_rfl) (fun _ _ _ h => h) (Or.inl ⟨by rfl, fun w hSw => by have d0 := cell_of (j := 0) hSw; have d1 := cell_of (j := 1) hSw; have d2 := cell_of (j := 2) hSw; have d3 := cell_of (j := 3) hSw; have d4 := cell_of (j := 4) hSw; have d5 := cell_of (j := 5) hSw; have d6 := cell_of (j := 6) hSw; have d7 := cell_of (j := 7) hSw; simp at d0 d1 d2 d3 d4 d5 d6 d7; go_simp⟩) (by assumption) ?_
  change wpAnyH _ _ _ _ _ _ _ (Act.put _ (some 5) _) _
  simp only [Act.put, List.setIfInBounds_toArray, List.set_cons_zero, List.set_cons_succ]
  refine wpAnyH_take (i := 12) (v := .int .u64 (m : Nat)) rfl (by kernel_rfl) (by kernel_rfl) (by kernel_rfl) (fun _ _ _ h => h) (Or.inl ⟨by rfl, fun w hSw => by have d0 := cell_of (j := 0) hSw; have d1 := cell_of (j := 1) hSw; have d2 := cell_of (j := 2) hSw; have d3 := cell_of (j := 3) hSw; have d4 := cell_of (j := 4) hSw; have d5 := cell_of (j := 5) hSw; have d6 := cell_of (j := 6) hSw; have d7 := cell_of (j := 7) hSw; simp at d0 d1 d2 d3 d4 d5 d6 d7; go_simp⟩) (by assumption) ?_
  change wpAnyH _ _ _ _ _ _ _ (Act.put _ (some 6) _) _
  simp only [Act.put, List.setIfInBounds_toArray, List.set_cons_zero, List.set_cons_succ]
  refine ⟨by kernel_rfl, ?_⟩
  refine NoPanic.normal ?_
  generalize z0.alloc (.cells #[.int .i64 W, .int .i64 S, .int .i64 B, .int .i64 T, .slice ad len cap] 24) = w2 at *
  generalize z0.heap.size = CB at *
  clear E2 G2 G3 G1 E1 G0
  obtain ⟨c0, c1, c2, c3, c4⟩ := cfg_cells C4.out
  go_wp2_with fail
  refine (rmay_any W S B T ad len cap f _ (Lib.hid (R0.out.next E4.out)) hl).mono ?_
  rintro e w3 ⟨rfl, hb⟩
  have E5 := Lib.hid (E4.out.trans (hb.mono E4.out.size))
  have C5 := Lib.hid (cfg_next C4.out hb)
  clear hb c0 c1 c2 c3 c4 C4 E4
  by_cases hm' : mayB W S B T len f = false
  · rw [hm']
    go_wp2_with fail
    go_ret
    exact ⟨rfl, B0.out.trans (E5.out.mono B0.out.size)⟩
  have hmy : mayB W S B T len f = true := by simpa using hm'
  rw [hmy]
  clear hm'
  obtain ⟨⟨wa, wb⟩, ⟨s1, s2⟩, ⟨b1, b2⟩, ⟨t1, t2⟩, ⟨l1, l2⟩, hcls⟩ := may_nums hmy
  have OK := Lib.hid (cls_ok hcls)
  clear hcls wa wb t1 t2 hmy
  obtain ⟨Sn, rfl⟩ := Int.eq_ofNat_of_zero_le (show 0 ≤ S by omega)
  obtain ⟨si, hsi, hsl⟩ : ∃ si : Nat, (su : Int) % (Sn : Int) = (si : Int) ∧ si < Sn := ⟨su % Sn, by simp, Nat.mod_lt _ (by omega)⟩
  obtain ⟨c0, c1, c2, c3, c4⟩ := cfg_cells C5.out
  have hl1 : (len : Int) ≠ 0 := by omega
  have hl0 : ¬ len = 0 := by omega
  have hn0 : ¬ Sn = 0 := by omega
  have kl : kc < len := hkl (by omega)
  have wcl : IntKind.i64.wrap (cl : Int) = (cl : Int) := by rw [IntKind.wrap_i64]; omega
  have wsu : IntKind.i64.wrap (su : Int) = (su : Int) := by rw [IntKind.wrap_i64]; omega
  have htm : (cl : Int).tmod (len : Int) = (kc : Int) := by rw [Int.tmod_eq_emod_of_nonneg (by omega)]; exact hkc
  have hts : (su : Int).tmod (Sn : Int) = (si : Int) := by rw [Int.tmod_eq_emod_of_nonneg (by omega)]; exact hsi
  go_upto_region 6 with fail
  refine wp_region_noPanic ?_
  refine wp_region_held_drew (S := fun w' => Cfg5 w' CB W (Sn : Nat) B T (.slice ad len cap)) (by kernel_rfl) (C5.out) (fun hHeld3 => ?_)
  have hb := (Below.refl w3.heap.size w3).drew
  have E6 := Lib.hid (E5.out.trans (hb.mono E5.out.size))
  have C6 := Lib.hid (cfg_next C5.out hb)
  clear hb c0 c1 c2 c3 c4
  generalize w3.drew = z0 at *
  refine wpAnyH_take (i := 0) (v := .agg #[.int .i64 W, .int .i64 (Sn : Nat), .int .i64 B, .int .i64 T, .slice ad len cap]) rfl (by kernel_rfl) (by kernel_rfl) (by kernel_rfl) (fun _ _ _ h => h) (Or.inl ⟨by rfl, fun w hSw => by obtain ⟨c0, c1, c2, c3, c4⟩ := cfg_cells hSw; first | (go_simp; done) | (go_simp; exact wcl) | (go_simp; exact wsu) | (go_simp; rw [if_neg hl0, htm]; done) | (go_simp; rw [if_neg hn0, hts]; done) | (go_simp; rfl)⟩) (by assumption) ?_
  change wpAnyH _ _ _ _ _ _ _ (Act.put _ (some 27) _) _
  simp only [Act.put, List.setIfInBounds_toArray, List.set_cons_zero, List.set_cons_succ]
  refine wpAnyH_take (i := 2) (v := .int .u8 (cl : Nat)) rfl (by kernel_rfl) (by kernel_rfl) (by kernel_rfl) (fun _ _ _ h => h) (Or.inl ⟨by rfl, fun w hSw => by obtain ⟨c0, c1, c2, c3, c4⟩ := cfg_cells hSw; first | (go_simp; done) | (go_simp; exact wcl) | (go_simp; exact wsu) | (go_simp; rw [if_neg hl0, htm]; done) | (go_simp; rw [if_neg hn0, hts]; done) | (go_simp; rfl)⟩) (by assumption) ?_
  change wpAnyH _ _ _ _ _ _ _ (Act.put _ (some 29) _) _
  simp only [Act.put, List.setIfInBounds_toArray, List.set_cons_zero, List.set_cons_succ]
  refine wpAnyH_take (i := 3) (v := .int .i64 (cl : Nat)) rfl (by kernel_rfl) (by kernel_rfl) (by kernel_rfl) (fun _ _ _ h => h) (Or.inl ⟨by rfl, fun w hSw => by obtain ⟨c0, c1, c2, c3, c4⟩ := cfg_cells hSw; first | (go_simp; done) | (go_simp; exact wcl) | (go_simp; exact wsu) | (go_simp; rw [if_neg hl0, htm]; done) | (go_simp; rw [if_neg hn0, hts]; done) | (go_simp; rfl)⟩) (by assumption) ?_
  change wpAnyH _ _ _ _ _ _ _ (Act.put _ (some 30) _) _
  simp only [Act.put, List.setIfInBounds_toArray, List.set_cons_zero, List.set_cons_succ]
  refine wpAnyH_take (i := 4) (v := .pointer (some ⟨CB, 4, none⟩)) rfl (by kernel_rfl) (by kernel_rfl) (by kernel_rfl) (fun _ _ _ h => h) (Or.inl ⟨by rfl, fun w hSw => by obtain ⟨c0, c1, c2, c3, c4⟩ := cfg_cells hSw; first | (go_simp; done) | (go_simp; exact wcl) | (go_simp; exact wsu) | (go_simp; rw [if_neg hl0, htm]; done) | (go_simp; rw [if_neg hn0, hts]; done) | (go_simp; rfl)⟩) (by assumption) ?_
  change wpAnyH _ _ _ _ _ _ _ (Act.put _ (some 31) _) _
  simp only [Act.put, List.setIfInBounds_toArray, List.set_cons_zero, List.set_cons_succ]
  refine wpAnyH_take (i := 5) (v := .slice ad len cap) rfl (by kernel_rfl) (by kernel_rfl) (by kernel_rfl) (fun _ _ _ h => h) (Or.inl ⟨by rfl, fun w hSw => by obtain ⟨c0, c1, c2, c3, c4⟩ := cfg_cells hSw; first | (go_simp; done) | (go_simp; exact wcl) | (go_simp; exact wsu) | (go_simp; rw [if_neg hl0, htm]; done) | (go_simp; rw [if_neg hn0, hts]; done) | (go_simp; rfl)⟩) (by assumption) ?_
  change wpAnyH _ _ _ _ _ _ _ (Act.put _ (some 32) _) _
  simp only [Act.put, List.setIfInBounds_toArray, List.set_cons_zero, List.set_cons_succ]
  refine wpAnyH_take (i := 6) (v := .int .i64 (len : Nat)) rfl (by kernel_rfl) (by kernel_rfl) (by kernel_rfl) (fun _ _ _ h => h) (Or.inl ⟨by rfl, fun w hSw => by obtain ⟨c0, c1, c2, c3, c4⟩ := cfg_cells hSw; first | (go_simp; done) | (go_simp; exact wcl) | (go_simp; exact wsu) | (go_simp; rw [if_neg hl0, htm]; done) | (go_simp; rw [if_neg hn0, hts]; done) | (go_simp; rfl)⟩) (by assumption) ?_
  change wpAnyH _ _ _ _ _ _ _ (Act.put _ (some 33) _) _
  simp only [Act.put, List.setIfInBounds_toArray, List.set_cons_zero, List.set_cons_succ]
  refine wpAnyH_take (i := 7) (v := .int .i64 (kc : Nat)) rfl (by kernel_rfl) (by kernel_rfl) (by kernel_rfl) (fun _ _ _ h => h) (Or.inl ⟨by rfl, fun w hSw => by obtain ⟨c0, c1, c2, c3, c4⟩ := cfg_cells hSw; first | (go_simp; done) | (go_simp; exact wcl) | (go_simp; exact wsu) | (go_simp; rw [if_neg hl0, htm]; done) | (go_simp; rw [if_neg hn0, hts]; done) | (go_simp; rfl)⟩) (by assumption) ?_
  change wpAnyH _ _ _ _ _ _ _ (Act.put _ (some 34) _) _
  simp only [Act.put, List.setIfInBounds_toArray, List.set_cons_zero, List.set_cons_succ]
  refine wpAnyH_take (i := 8) (v := .int .u8 (su : Nat)) rfl (by kernel_rfl) (by kernel_rfl) (by kernel_rfl) (fun _ _ _ h => h) (Or.inl ⟨by rfl, fun w hSw => by obtain ⟨c0, c1, c2, c3, c4⟩ := cfg_cells hSw; first | (go_simp; done) | (go_simp; exact wcl) | (go_simp; exact wsu) | (go_simp; rw [if_neg hl0, htm]; done) | (go_simp; rw [if_neg hn0, hts]; done) | (go_simp; rfl)⟩) (by assumption) ?_
  change wpAnyH _ _ _ _ _ _ _ (Act.put _ (some 35) _) _
  simp only [Act.put, List.setIfInBounds_toArray, List.set_cons_zero, List.set_cons_succ]
  refine wpAnyH_take (i := 9) (v := .int .i64 (su : Nat)) rfl (by kernel_rfl) (by kernel_rfl) (by kernel_rfl) (fun _ _ _ h => h) (Or.inl ⟨by rfl, fun w hSw => by obtain ⟨c0, c1, c2, c3, c4⟩ := cfg_cells hSw; first | (go_simp; done) | (go_simp; exact wcl) | (go_simp; exact wsu) | (go_simp; rw [if_neg hl0, htm]; done) | (go_simp; rw [if_neg hn0, hts]; done) | (go_simp; rfl)⟩) (by assumption) ?_
  change wpAnyH _ _ _ _ _ _ _ (Act.put _ (some 36) _) _
  simp only [Act.put, List.setIfInBounds_toArray, List.set_cons_zero, List.set_cons_succ]
  refine wpAnyH_take (i := 10) (v := .pointer (some ⟨CB, 1, none⟩)) rfl (by kernel_rfl) (by kernel_rfl) (by kernel_rfl) (fun _ _ _ h => h) (Or.inl ⟨by rfl, fun w hSw => by obtain ⟨c0, c1, c2, c3, c4⟩ := cfg_cells hSw; first | (go_simp; done) | (go_simp; exact wcl) | (go_simp; exact wsu) | (go_simp; rw [if_neg hl0, htm]; done) | (go_simp; rw [if_neg hn0, hts]; done) | (go_simp; rfl)⟩) (by assumption) ?_
  change wpAnyH _ _ _ _ _ _ _ (Act.put _ (some 37) _) _
  simp only [Act.put, List.setIfInBounds_toArray, List.set_cons_zero, List.set_cons_succ]
  refine wpAnyH_take (i := 11) (v := .int .i64 (Sn : Nat)) rfl (by kernel_rfl) (by kernel_rfl) (by kernel_rfl) (fun _ _ _ h => h) (Or.inl ⟨by rfl, fun w hSw => by obtain ⟨c0, c1, c2, c3, c4⟩ := cfg_cells hSw; first | (go_simp; done) | (go_simp; exact wcl) | (go_simp; exact wsu) | (go_simp; rw [if_neg hl0, htm]; done) | (go_simp; rw [if_neg hn0, hts]; done) | (go_simp; rfl)⟩) (by assumption) ?_
  change wpAnyH _ _ _ _ _ _ _ (Act.put _ (some 38) _) _
  simp only [Act.put, List.setIfInBounds_toArray, List.set_cons_zero, List.set_cons_succ]
  refine wpAnyH_take (i := 12) (v := .int .i64 (si : Nat)) rfl (by kernel_rfl) (by kernel_rfl) (by kernel_rfl) (fun _ _ _ h => h) (Or.inl ⟨by rfl, fun w hSw => by obtain ⟨c0, c1, c2, c3, c4⟩ := cfg_cells hSw; first | (go_simp; done) | (go_simp; exact wcl) | (go_simp; exact wsu) | (go_simp; rw [if_neg hl0, htm]; done) | (go_simp; rw [if_neg hn0, hts]; done) | (go_simp; rfl)⟩) (by assumption) ?_
  change wpAnyH _ _ _ _ _ _ _ (Act.put _ (some 39) _) _
  simp only [Act.put, List.setIfInBounds_toArray, List.set_cons_zero, List.set_cons_succ]
  refine wpAnyH_ready (rs := [1]) (by kernel_rfl) (by simp) ?_
  refine AllReadyH.cons rfl (fun K hK => ?_) (AllReadyH.nil)
  refine step_enter (F := 10) (vals := #[.agg #[.int .i64 W, .int .i64 (Sn : Nat), .int .i64 B, .int .i64 T, .slice ad len cap]]) rfl (by kernel_rfl) ?_
  refine (snew_any W (Sn : Nat) B T ad len cap f z0 (Lib.hid (R0.out.next E6.out)) (by omega)).mono ?_
  rintro e y1 ⟨sb7, clb7, pb7, M7, rfl, st, p1, p2, p3, p4, hb⟩
  have S7 := Lib.hid st
  have F7 : Hid (z0.heap.size ≤ sb7 ∧ z0.heap.size ≤ clb7 ∧ z0.heap.size ≤ pb7 ∧ ∀ j, j < len → z0.heap.size ≤ M7 j) := Lib.hid ⟨p1, p2, p3, p4⟩
  have Y7 := Lib.hid hb
  have E7 := Lib.hid (E6.out.trans (hb.mono E6.out.size))
  have C7 := Lib.hid (cfg_next C6.out hb)
  clear st p1 p2 p3 p4 hb
  show K (Act.put _ (some 28) _) y1
  refine hK.out _ _ (C7.out) (fun hHeld4 => ?_)
  clear hK K
  simp only [Act.put, List.setIfInBounds_toArray, List.set_cons_zero, List.set_cons_succ]
  refine wpAnyH_take (i := 13) (v := .pointer (some ⟨sb7, 0, none⟩)) rfl (by kernel_rfl) (by kernel_rfl) (by kernel_rfl) (fun _ _ _ h => h) (Or.inl ⟨by rfl, fun w hSw => by obtain ⟨c0, c1, c2, c3, c4⟩ := cfg_cells hSw; first | (go_simp; done) | (go_simp; exact wcl) | (go_simp; exact wsu) | (go_simp; rw [if_neg hl0, htm]; done) | (go_simp; rw [if_neg hn0, hts]; done) | (go_simp; rfl)⟩) (by assumption) ?_
  change wpAnyH _ _ _ _ _ _ _ (Act.put _ (some 7) _) _
  simp only [Act.put, List.setIfInBounds_toArray, List.set_cons_zero, List.set_cons_succ]
  refine wpAnyH_take (i := 14) (v := .int .i64 (kc : Nat)) rfl (by kernel_rfl) (by kernel_rfl) (by kernel_rfl) (fun _ _ _ h => h) (Or.inl ⟨by rfl, fun w hSw => by obtain ⟨c0, c1, c2, c3, c4⟩ := cfg_cells hSw; first | (go_simp; done) | (go_simp; exact wcl) | (go_simp; exact wsu) | (go_simp; rw [if_neg hl0, htm]; done) | (go_simp; rw [if_neg hn0, hts]; done) | (go_simp; rfl)⟩) (by assumption) ?_
  change wpAnyH _ _ _ _ _ _ _ (Act.put _ (some 8) _) _
  simp only [Act.put, List.setIfInBounds_toArray, List.set_cons_zero, List.set_cons_succ]
  refine wpAnyH_take (i := 15) (v := .int .i64 (si : Nat)) rfl (by kernel_rfl) (by kernel_rfl) (by kernel_rfl) (fun _ _ _ h => h) (Or.inl ⟨by rfl, fun w hSw => by obtain ⟨c0, c1, c2, c3, c4⟩ := cfg_cells hSw; first | (go_simp; done) | (go_simp; exact wcl) | (go_simp; exact wsu) | (go_simp; rw [if_neg hl0, htm]; done) | (go_simp; rw [if_neg hn0, hts]; done) | (go_simp; rfl)⟩) (by assumption) ?_
  change wpAnyH _ _ _ _ _ _ _ (Act.put _ (some 9) _) _
  simp only [Act.put, List.setIfInBounds_toArray, List.set_cons_zero, List.set_cons_succ]
  refine ⟨by kernel_rfl, ?_⟩
  refine NoPanic.normal ?_
  have ST := Lib.hid (s1_new (n0 := z0.heap.size) S7.out kl F7.out.2.2.1 (F7.out.2.2.2 kc kl))
  have CBL : Hid (CB < z0.heap.size) := Lib.hid (cfg_lt C6.out)
  have NZ : Hid (z0.heap.size ≤ y1.heap.size) := Lib.hid Y7.out.size
  clear S7 F7 C6 E5 C5 wcl wsu htm hts hkc hkl hsi hl1 hl0 hn0
  have FI := s1_fill z0.heap.size sb7 clb7 pb7 W (Sn : Nat) B T len f kc 0 [] _ M7 y1 (si : Nat) m ST (Lib.hid (T0.out.next E7.out)) OK (by omega) (by omega) hm (WalkArith.wf_i64 (by omega)) (by omega) NZ.out
  rw [fill_all OK.out (by omega) (by omega)] at FI
  have FI := Lib.hid FI
  go_wp2_with fail
  refine FI.out.mono ?_
  rintro e y2 ⟨⟨v, rfl⟩, n2, v2, hn2, r1, r2, r3⟩
  have S8 := Lib.hid r1
  have BB := r2.down (N := z0.heap.size) ST.out.lo.1 ST.out.lo.2.1 ST.out.lo.2.2 NZ.out
  have ZZ : Hid (w0.heap.size ≤ z0.heap.size) := Lib.hid E6.out.size
  have E8 := Lib.hid (E7.out.trans (BB.mono ZZ.out))
  have C8 : Hid (Cfg5 y2 CB W (Sn : Nat) B T (.slice ad len cap)) := Lib.hid ((BB.block _ CBL.out).trans C7.out)
  have NZ8 : Hid (z0.heap.size ≤ y2.heap.size) := Lib.hid (by have := BB.size; have := NZ.out; omega)
  clear r1 r2 r3 FI BB ST E6 C7 E7 Y7 NZ
  obtain ⟨d, hd⟩ : ∃ d, d = fillD len f kc m := ⟨_, rfl⟩
  rw [← hd] at S8
  have HD := Lib.hid hd
  clear hd
  have dl : d.length ≤ 64 := by rw [HD.out]; unfold fillD; exact Nat.le_trans (List.length_filter_le _ _) (memD_len _ _)
  have LE := s1_len z0.heap.size sb7 clb7 pb7 W (Sn : Nat) B T len f kc n2 _ v2 M7 y2 S8
  rw [List.length_map] at LE
  have LE := Lib.hid LE
  go_wp2_with fail
  refine LE.out.mono ?_
  rintro e y3 ⟨rfl, rfl⟩
  clear LE
  go_wp2_with fail
  go_loopw [11, 49] (fun u11 u49 wr => ∃ (i : Nat) (v : Value) (la : Int), i ≤ d.length ∧ u49 = .int .i64 (i : Nat) ∧ u11 = .int .i64 la ∧ -1 ≤ la ∧ Hid (∀ x ∈ d.take (d.length - i), la < (x : Int)) ∧ Hid (S1 wr z0.heap.size sb7 clb7 pb7 W (Sn : Nat) B T len f kc n2 ((d.take (d.length - i)).map fun j : Nat => ((si : Int), (j : Int))) v M7) ∧ Hid (Below z0.heap.size y2 wr)) (fun _ u49 _ => d.length - (intOf u49).toNat)
  case atStart => exact ⟨0, v2, -1, by omega, rfl, rfl, by omega, Lib.hid (fun x _ => by omega), by rw [Nat.sub_zero, List.take_length]; exact S8, Lib.hid ((Below.refl y2.heap.size y2).mono NZ8.out)⟩
  case round =>
    obtain ⟨i, v, la, hi, rfl, rfl, hla, GT, SX, BX⟩ := hrel
    have NX : Hid (z0.heap.size ≤ wr.heap.size) := Lib.hid (by have := BX.out.size; have := NZ8.out; omega)
    by_cases hli : i < d.length
    · have l5 : (i : Int) < (d.length : Int) := by omega
      have hdl : d.length - 1 - i < d.length := by omega
      obtain ⟨y, hy⟩ : ∃ y, d[d.length - 1 - i]? = some y := ⟨_, List.getElem?_eq_getElem hdl⟩
      have tk : d.take (d.length - i) = d.take (d.length - (i + 1)) ++ [y] := by
        rw [show d.length - i = (d.length - (i + 1)) + 1 from by omega, List.take_add_one, show d.length - (i + 1) = d.length - 1 - i from by omega, hy]
        rfl
      have ym := List.mem_of_getElem? hy
      rw [HD.out] at ym
      obtain ⟨y64, ybit⟩ := fillD_mem ym
      have GY : la < (y : Int) := GT.out y (by rw [tk]; simp)
      have GN : Hid (∀ x ∈ d.take (d.length - (i + 1)), (y : Int) < (x : Int)) := Lib.hid (fun x hx => by
        have pw := (show d.Pairwise (· > ·) by rw [HD.out]; exact fillD_desc len f kc m).sublist (List.take_sublist (d.length - i) d)
        rw [tk, List.pairwise_append] at pw
        have := pw.2.2 x hx y (by simp)
        omega)
      rw [tk, List.map_append, List.map_singleton] at SX
      clear tk ym hy GT
      have PO := Lib.hid (s1_pop_yes z0.heap.size sb7 clb7 pb7 W (Sn : Nat) B T len f kc n2 _ v M7 wr ((si : Int), (y : Int)) SX (by omega))
      go_wp2_with fail
      refine PO.out.mono ?_
      rintro e w6 ⟨rfl, v7, r1, r2, r3⟩
      have EY := BX.out.trans (SX.out.down r2 NX.out)
      have hb := box1 w6 (.cells #[.int .i64 (si : Int), .int .i64 (y : Int)] 32)
      have D7 : Hid (Two5 (w6.alloc (.cells #[.int .i64 (si : Int), .int .i64 (y : Int)] 32)) w6.heap.size 32 (si : Int) (y : Int)) := Two5.new w6 _ _ _
      have S7 := Lib.hid (r1.next hb)
      have E7 := Lib.hid (EY.trans (hb.mono (by have := EY.size; have := NZ8.out; omega)))
      clear hb r1 r2 r3 EY PO SX BX
      go_upto_region 12 with fail
      generalize w6.alloc (.cells #[.int .i64 (si : Int), .int .i64 (y : Int)] 32) = w7 at *
      generalize w6.heap.size = NB at *
      have d0 := two_c0 D7.out
      have d1 := two_c1 D7.out
      have gg : decide ((y : Int) ≤ la) = false := by simpa using GY
      have HAS := has_yes m (y : Int) w7 hm (by omega) (by omega)
      rw [Int.toNat_natCast, ybit] at HAS
      have HAS := Lib.hid HAS
      go_wp2_with fail
      refine HAS.out.mono ?_
      rintro e w8 ⟨rfl, rfl⟩
      go_wp2_with fail
      go_roundw
      case rel => exact ⟨i + 1, v7, (y : Int), by omega, by push_cast; rfl, rfl, by omega, GN, S7, E7⟩
      case measure => simp [intOf]; omega
    · obtain rfl : i = d.length := by omega
      have CX : Hid (Cfg5 wr CB W (Sn : Nat) B T (.slice ad len cap)) := Lib.hid ((BX.out.block _ CBL.out).trans C8.out)
      have EX := Lib.hid (E8.out.trans (BX.out.mono ZZ.out))
      obtain ⟨c0, c1, c2, c3, c4⟩ := cfg_cells CX.out
      have RR := R0.out.next EX.out
      obtain ⟨rb, ro, rfl, hrow⟩ := RR (by omega)
      have r0 := hrow.2 kc kl
      have sz := szI_nat (f := f) kl
      have c16 := OK.out.lo kc kl
      have c512 := OK.out.hi kc kl
      have cI : capI len f (kc : Nat) = 1024 / f kc := by unfold capI; rw [sz, if_neg (by omega)]
      obtain ⟨cn, hcn⟩ := Int.eq_ofNat_of_zero_le (show 0 ≤ capI len f (kc : Nat) from (capI_bd OK.out).1)
      have c64 : cn ≤ 64 := by have := (capI_bd (k := (kc : Nat)) OK.out).2; omega
      have hq : (1024 : Int).tdiv (f kc) = (cn : Int) := by rw [Int.tdiv_eq_ediv_of_nonneg (by omega)]; omega
      have wq : IntKind.i64.wrap (cn : Int) = (cn : Int) := by rw [IntKind.wrap_i64]; omega
      have hf0 : f kc ≠ 0 := by omega
      have LO := low_yes (cn : Int) wr (by omega) (by omega)
      rw [Int.toNat_natCast] at LO
      have LO := Lib.hid LO
      have an : bits BinOp.and IntKind.u64 (m : Int) ((Ma.lowN cn : Nat) : Int) = ((m &&& Ma.lowN cn : Nat) : Int) := u64_and_nat m _ hm (Ma.lowN_lt c64)
      have CO := Lib.hid (count_any (m &&& Ma.lowN cn) wr (Nat.lt_of_le_of_lt Nat.and_le_left hm))
      have LN := Lib.hid (show d.length = Ma.popF 64 (m &&& Ma.lowN cn) by rw [HD.out]; exact fillD_len hcn)
      go_wp2_with fail
      refine LO.out.mono ?_
      rintro e w8 ⟨rfl, rfl⟩
      go_wp2_with fail
      refine CO.out.mono ?_
      rintro e w8 ⟨rfl, rfl⟩
      rw [← LN.out]
      go_wp2_with fail
      go_ret
      exact ⟨rfl, B0.out.trans (EX.out.mono B0.out.size)⟩
end Go.Proofs.YtagacljfpakgnaaDoor
