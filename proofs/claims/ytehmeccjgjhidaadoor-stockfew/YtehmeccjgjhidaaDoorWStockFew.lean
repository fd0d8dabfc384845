/-
  StockFew: the walk.
-/
import Derived.Test.YtehmeccjgjhidaaDoorStockFx
namespace Go.Proofs.YtehmeccjgjhidaaDoor
open Go.RowKit Go.Maps Go.Sort
attribute [local go_sem] Oper.semAt_some

set_option maxRecDepth 20000 in
set_option maxHeartbeats 8000000 in
theorem sfew_walk (W S B T : Int) (ad : Option Addr) (len cap : Nat) (f : Nat → Int) (cl : Nat) (a2 : Option Addr) (n2 c2 : Nat) (Xa Xb : Nat → Int) (w : World) (hr : Hid (RowI w ad len f)) (hl : len < 9223372036854775808) (hT : Hid (TabAt w)) (hcl : cl < 256) (hs : Hid (RowBk w a2 n2 Xa Xb)) :
    Calls Tryd.prog 3 #[.agg #[.int .i64 W, .int .i64 S, .int .i64 B, .int .i64 T, .slice ad len cap], .int .u8 (cl : Nat), .slice a2 n2 c2] w fun e w' => e = .returned (.bool true) ∧ Below w.heap.size w w' := by
  have hmk := @run_makeMap Tryd.prog
  obtain ⟨kc, hkc, hkl⟩ : ∃ kc : Nat, (cl : Int) % (len : Int) = (kc : Int) ∧ (1 ≤ len → kc < len) := ⟨cl % len, by simp, fun h => Nat.mod_lt _ h⟩
  have hb := box1 w (.cells #[.int .i64 W, .int .i64 S, .int .i64 B, .int .i64 T, .slice ad len cap] 24)
  have C0 := Lib.hid (cfg_new w W S B T (.slice ad len cap))
  have B0 := Lib.hid hb
  have R0 := Lib.hid (hr.out.next hb)
  have T0 := Lib.hid (hT.out.next hb)
  have Z0 := Lib.hid (hs.out.next hb)
  clear hb
  go_enter Tryd.func3, Tryd.ntmps3
  go_wp2_with fail
  generalize w.alloc (.cells #[.int .i64 W, .int .i64 S, .int .i64 B, .int .i64 T, .slice ad len cap] 24) = w0 at *
  refine (speaks12_any _ T0).mono ?_
  rintro e w1 ⟨rfl, hb⟩
  have E1 := Lib.hid hb
  have C1 := Lib.hid (cfg_next C0.out hb)
  clear hb
  obtain ⟨c0, c1, c2, c3, c4⟩ := cfg_cells C1.out
  go_wp2_with fail
  refine (rmay_any W S B T ad len cap f _ (Lib.hid (R0.out.next E1.out)) hl).mono ?_
  rintro e w2 ⟨rfl, hb⟩
  have E2 := Lib.hid (E1.out.trans (hb.mono E1.out.size))
  have C2 := Lib.hid (cfg_next C1.out hb)
  clear hb c0 c1 c2 c3 c4 C1 E1
  by_cases hm' : mayB W S B T len f = false
  · rw [hm']
    go_wp2_with fail
    go_ret
    exact ⟨rfl, B0.out.trans (E2.out.mono B0.out.size)⟩
  have hm : mayB W S B T len f = true := by simpa using hm'
  rw [hm]
  clear hm'
  by_cases hfew : 200 < (n2 : Int)
  · have h5 : decide (200 < (n2 : Int)) = true := by simpa using hfew
    go_wp2_with fail
    go_ret
    exact ⟨rfl, B0.out.trans (E2.out.mono B0.out.size)⟩
  have h5 : decide (200 < (n2 : Int)) = false := by simpa using hfew
  obtain ⟨⟨wa, wb⟩, ⟨s1, s2⟩, ⟨b1, b2⟩, ⟨t1, t2⟩, ⟨l1, l2⟩, hcls⟩ := may_nums hm
  have OK := Lib.hid (cls_ok hcls)
  clear hcls wa wb t1 t2 hm
  obtain ⟨c0, c1, c2, c3, c4⟩ := cfg_cells C2.out
  have hl1 : (len : Int) ≠ 0 := by omega
  have hl0 : ¬ len = 0 := by omega
  have kl : kc < len := hkl (by omega)
  have wcl : IntKind.i64.wrap (cl : Int) = (cl : Int) := by rw [IntKind.wrap_i64]; omega
  have htm : (cl : Int).tmod (len : Int) = (kc : Int) := by rw [Int.tmod_eq_emod_of_nonneg (by omega)]; exact hkc
  go_upto_region 5 with fail
  refine wp_region_noPanic ?_
  refine wp_region_held_drew (S := fun w' => Cfg5 w' w.heap.size W S B T (.slice ad len cap)) (by kernel_rfl) (C2.out) (fun hHeld => ?_)
  have hb := (Below.refl w2.heap.size w2).drew
  have E3 := Lib.hid (E2.out.trans (hb.mono E2.out.size))
  have C3 := Lib.hid (cfg_next C2.out hb)
  clear hb c0 c1 c2 c3 c4
  generalize w2.drew = z0 at *
  refine wpAnyH_take (i := 0) (v := .agg #[.int .i64 W, .int .i64 S, .int .i64 B, .int .i64 T, .slice ad len cap]) rfl (by kernel_rfl) (by kernel_rfl) (by kernel_rfl) (fun _ _ _ h => h) (Or.inl ⟨by rfl, fun w hSw => by obtain ⟨c0, c1, c2, c3, c4⟩ := cfg_cells hSw; first | (go_simp; done) | (go_simp; exact wcl) | (go_simp; rw [if_neg hl0, htm]; done) | (go_simp; rfl)⟩) (by assumption) ?_
  change wpAnyH _ _ _ _ _ _ _ (Act.put _ (some 30) _) _
  simp only [Act.put, List.setIfInBounds_toArray, List.set_cons_zero, List.set_cons_succ]
  refine wpAnyH_take (i := 2) (v := .int .u8 (cl : Nat)) rfl (by kernel_rfl) (by kernel_rfl) (by kernel_rfl) (fun _ _ _ h => h) (Or.inl ⟨by rfl, fun w hSw => by obtain ⟨c0, c1, c2, c3, c4⟩ := cfg_cells hSw; first | (go_simp; done) | (go_simp; exact wcl) | (go_simp; rw [if_neg hl0, htm]; done) | (go_simp; rfl)⟩) (by assumption) ?_
  change wpAnyH _ _ _ _ _ _ _ (Act.put _ (some 32) _) _
  simp only [Act.put, List.setIfInBounds_toArray, List.set_cons_zero, List.set_cons_succ]
  refine wpAnyH_take (i := 3) (v := .int .i64 (cl : Nat)) rfl (by kernel_rfl) (by kernel_rfl) (by kernel_rfl) (fun _ _ _ h => h) (Or.inl ⟨by rfl, fun w hSw => by obtain ⟨c0, c1, c2, c3, c4⟩ := cfg_cells hSw; first | (go_simp; done) | (go_simp; exact wcl) | (go_simp; rw [if_neg hl0, htm]; done) | (go_simp; rfl)⟩) (by assumption) ?_
  change wpAnyH _ _ _ _ _ _ _ (Act.put _ (some 33) _) _
  simp only [Act.put, List.setIfInBounds_toArray, List.set_cons_zero, List.set_cons_succ]
  refine wpAnyH_take (i := 4) (v := .pointer (some ⟨w.heap.size, 4, none⟩)) rfl (by kernel_rfl) (by kernel_rfl) (by kernel_rfl) (fun _ _ _ h => h) (Or.inl ⟨by rfl, fun w hSw => by obtain ⟨c0, c1, c2, c3, c4⟩ := cfg_cells hSw; first | (go_simp; done) | (go_simp; exact wcl) | (go_simp; rw [if_neg hl0, htm]; done) | (go_simp; rfl)⟩) (by assumption) ?_
  change wpAnyH _ _ _ _ _ _ _ (Act.put _ (some 34) _) _
  simp only [Act.put, List.setIfInBounds_toArray, List.set_cons_zero, List.set_cons_succ]
  refine wpAnyH_take (i := 5) (v := .slice ad len cap) rfl (by kernel_rfl) (by kernel_rfl) (by kernel_rfl) (fun _ _ _ h => h) (Or.inl ⟨by rfl, fun w hSw => by obtain ⟨c0, c1, c2, c3, c4⟩ := cfg_cells hSw; first | (go_simp; done) | (go_simp; exact wcl) | (go_simp; rw [if_neg hl0, htm]; done) | (go_simp; rfl)⟩) (by assumption) ?_
  change wpAnyH _ _ _ _ _ _ _ (Act.put _ (some 35) _) _
  simp only [Act.put, List.setIfInBounds_toArray, List.set_cons_zero, List.set_cons_succ]
  refine wpAnyH_take (i := 6) (v := .int .i64 (len : Nat)) rfl (by kernel_rfl) (by kernel_rfl) (by kernel_rfl) (fun _ _ _ h => h) (Or.inl ⟨by rfl, fun w hSw => by obtain ⟨c0, c1, c2, c3, c4⟩ := cfg_cells hSw; first | (go_simp; done) | (go_simp; exact wcl) | (go_simp; rw [if_neg hl0, htm]; done) | (go_simp; rfl)⟩) (by assumption) ?_
  change wpAnyH _ _ _ _ _ _ _ (Act.put _ (some 36) _) _
  simp only [Act.put, List.setIfInBounds_toArray, List.set_cons_zero, List.set_cons_succ]
  refine wpAnyH_take (i := 7) (v := .int .i64 (kc : Nat)) rfl (by kernel_rfl) (by kernel_rfl) (by kernel_rfl) (fun _ _ _ h => h) (Or.inl ⟨by rfl, fun w hSw => by obtain ⟨c0, c1, c2, c3, c4⟩ := cfg_cells hSw; first | (go_simp; done) | (go_simp; exact wcl) | (go_simp; rw [if_neg hl0, htm]; done) | (go_simp; rfl)⟩) (by assumption) ?_
  change wpAnyH _ _ _ _ _ _ _ (Act.put _ (some 37) _) _
  simp only [Act.put, List.setIfInBounds_toArray, List.set_cons_zero, List.set_cons_succ]
  refine wpAnyH_ready (rs := [1]) (by kernel_rfl) (by simp) ?_
  refine AllReadyH.cons rfl (fun K hK => ?_) (AllReadyH.nil)
  refine step_enter (F := 6) (vals := #[.agg #[.int .i64 W, .int .i64 S, .int .i64 B, .int .i64 T, .slice ad len cap]]) rfl (by kernel_rfl) ?_
  refine (snew_any W S B T ad len cap f z0 (Lib.hid (R0.out.next E3.out)) (by omega)).mono ?_
  rintro e y1 ⟨sb4, clb4, pb4, M4, rfl, st, p1, p2, p3, p4, hb⟩
  have S4 := Lib.hid st
  have F4 : Hid (z0.heap.size ≤ sb4 ∧ z0.heap.size ≤ clb4 ∧ z0.heap.size ≤ pb4 ∧ ∀ j, j < len → z0.heap.size ≤ M4 j) := Lib.hid ⟨p1, p2, p3, p4⟩
  have Y4 := Lib.hid hb
  have E4 := Lib.hid (E3.out.trans (hb.mono E3.out.size))
  have C4 := Lib.hid (cfg_next C3.out hb)
  clear st p1 p2 p3 p4 hb
  show K (Act.put _ (some 31) _) y1
  refine hK.out _ _ (C4.out) (fun hHeld1 => ?_)
  clear hK K
  simp only [Act.put, List.setIfInBounds_toArray, List.set_cons_zero, List.set_cons_succ]
  refine wpAnyH_take (i := 8) (v := .pointer (some ⟨sb4, 0, none⟩)) rfl (by kernel_rfl) (by kernel_rfl) (by kernel_rfl) (fun _ _ _ h => h) (Or.inl ⟨by rfl, fun w hSw => by obtain ⟨c0, c1, c2, c3, c4⟩ := cfg_cells hSw; go_simp⟩) (by assumption) ?_
  change wpAnyH _ _ _ _ _ _ _ (Act.put _ (some 7) _) _
  simp only [Act.put, List.setIfInBounds_toArray, List.set_cons_zero, List.set_cons_succ]
  refine wpAnyH_take (i := 9) (v := .int .i64 (kc : Nat)) rfl (by kernel_rfl) (by kernel_rfl) (by kernel_rfl) (fun _ _ _ h => h) (Or.inl ⟨by rfl, fun w hSw => by obtain ⟨c0, c1, c2, c3, c4⟩ := cfg_cells hSw; go_simp⟩) (by assumption) ?_
  change wpAnyH _ _ _ _ _ _ _ (Act.put _ (some 8) _) _
  simp only [Act.put, List.setIfInBounds_toArray, List.set_cons_zero, List.set_cons_succ]
  refine ⟨by kernel_rfl, ?_⟩
  refine NoPanic.normal ?_
  have ST := Lib.hid (s1_new (n0 := w0.heap.size) S4.out kl (Nat.le_trans E3.out.size F4.out.2.2.1) (Nat.le_trans E3.out.size (F4.out.2.2.2 kc kl)))
  clear S4 F4 Y4 E3 C3 E2 C2 wcl htm hkc hkl
  have hb := box1 y1 (.map #[] 0)
  have STm := Lib.hid (ST.out.next hb)
  have CN0 : Hid (BCnt (y1.alloc (.map #[] 0)) y1.heap.size 0 []) := Lib.hid (BCnt.made y1)
  have MG : Hid (∀ j, j < len → M4 j ≠ y1.heap.size) := Lib.hid (fun j hj e => by have := (ST.out.st.set j hj).lt; omega)
  have E5 := Lib.hid (E4.out.trans (hb.mono E4.out.size))
  have G0 : Hid (w0.heap.size ≤ y1.heap.size) := Lib.hid E4.out.size
  clear hb ST E4
  go_upto_region 7 with fail
  clear hmk
  generalize y1.alloc (.map #[] 0) = y2 at *
  generalize y1.heap.size = G at *
  go_wp2_with fail
  go_loopw [41] (fun u41 wr => ∃ (j n m : Nat) (l K Pd : List (Int × Int)) (v : Value), j ≤ n2 ∧ u41 = .int .i64 (j : Nat) ∧ n ≤ j ∧ m ≤ 200 * j ∧ Hid (S1 wr w0.heap.size sb4 clb4 pb4 W S B T len f kc n l v M4) ∧ Hid (BCnt wr G m K) ∧ Hid (Few Pd K l B j) ∧ Hid (Below w0.heap.size w0 wr)) (fun u41 _ => n2 - (intOf u41).toNat)
  case atStart => exact ⟨0, 0, 0, [], [], [], _, by omega, rfl, by omega, by omega, STm, CN0, Lib.hid ⟨rfl, List.nodup_nil, by simp, by simp, by simp, by simp; omega⟩, E5⟩
  case round =>
    obtain ⟨j, n, m, l, K, Pd, v, hj, rfl, hn, hm, SS, CC, FW, E1⟩ := hrel
    by_cases hlt : j < n2
    · have l3 : (j : Int) < (n2 : Int) := by omega
      have Zr := Lib.hid (Z0.out.next E1.out)
      obtain ⟨ab, off, rfl, hab, q0, q1⟩ := Zr.out.at hlt
      obtain ⟨w1', w2'⟩ := Zr.out.1.2 j hlt
      clear Zr
      obtain ⟨x, hx1, hx2⟩ : ∃ x : Int × Int, Xa j = x.1 ∧ Xb j = x.2 := ⟨(Xa j, Xb j), rfl, rfl⟩
      rw [hx1] at q0 w1'
      rw [hx2] at q1 w2'
      clear hx1 hx2
      have hb := box1 wr (.cells #[.int .i64 x.1, .int .i64 x.2] 32)
      have S2 := Lib.hid (SS.out.next hb)
      have C2 := Lib.hid (CC.out.next hb)
      have E2 := Lib.hid (E1.out.trans (hb.mono E1.out.size))
      clear hb
      have PU := Lib.hid (s1_push w0.heap.size sb4 clb4 pb4 W S B T len f kc n l v M4 _ x S2 OK (by omega) (by omega) ⟨w1', w2'⟩ (by omega) E2.out.size)
      clear SS CC
      obtain ⟨pb, hpb⟩ : ∃ pb, pushB S len f kc l x = pb := ⟨_, rfl⟩
      rw [hpb] at PU
      clear hpb
      obtain ⟨l5, hl5⟩ : ∃ l5, pushL S len f kc l x = l5 := ⟨_, rfl⟩
      have F5 : Hid ((∀ y ∈ l5, y ∈ Pd ++ [x]) ∧ l5.length ≤ l.length + 1) := Lib.hid (by
        rw [← hl5]
        unfold pushL
        split
        · exact ⟨fun y hy => by rcases List.mem_append.1 hy with q | q; exact List.mem_append_left _ (FW.out.lp y q); exact List.mem_append_right _ q, by simp⟩
        · exact ⟨fun y hy => List.mem_append_left _ (FW.out.lp y hy), by omega⟩)
      have P5 : Hid (∀ l6, (∀ y ∈ l6, y ∈ Pd ++ [x]) → (l6.length : Int) ≤ 2 * B → Few (Pd ++ [x]) K l6 B (j + 1)) := Lib.hid (fun l6 h6 h7 => ⟨by simp [FW.out.len], FW.out.nd, fun y hy => List.mem_append_left _ (FW.out.kp y hy), h6, fun y hy => by rcases List.mem_append.1 hy with q | q; exact FW.out.bd y q; simp only [List.mem_singleton] at q; rw [q]; exact ⟨w1', w2'⟩, h7⟩)
      rw [hl5] at PU
      clear hl5
      go_wp2_with fail
      refine PU.out.mono ?_
      rintro e w5 ⟨rfl, v5, r1, r2, -⟩
      have S5 := Lib.hid r1
      have GF : Hid (Fine64 l5) := Lib.hid (r1.gd.fine OK.out)
      have C5 := Lib.hid (C2.out.beside S2.out MG.out r2)
      have E5' := Lib.hid (E2.out.trans (S2.out.down r2 E2.out.size))
      clear r1 r2 PU S2 C2 E2
      have fw := FW.out.few
      by_cases hc : 2 * B < (l5.length : Int)
      · have SP := Lib.hid (s1_spill_yes w0.heap.size sb4 clb4 pb4 W S B T len f kc (n + 1) l5 v5 M4 w5 S5 OK (by omega) (by omega) hc (by omega) E5'.out.size)
        go_wp2_with fail
        refine SP.out.mono ?_
        rintro e w6 ⟨s, v6, hF, rfl, r1, r2, -⟩
        have S6 := Lib.hid r1
        have C6 := Lib.hid (C5.out.beside S5.out MG.out r2)
        have E6 := Lib.hid (E5'.out.trans (S5.out.down r2 E5'.out.size))
        clear r1 r2 SP S5 C5 E5'
        skip
        have fi := S6.out.gd
        have fine5 : Fine64 l5 := GF.out
        have hp := hF.2.1
        have PO := gone_pos fine5 hp
        have LM : Hid (∀ i, i < (Ma.mem (maskP (goes s l5))).length → (s, (((Ma.mem (maskP (goes s l5))).getD i 0 : Nat) : Int)) ∈ Pd ++ [x]) := Lib.hid (fun i hi => gone_bk fine5 F5.out.1 hi)
        have FS := stays_fewer hp
        have hm64 : maskP (goes s l5) < 18446744073709551616 := by
          have := maskP_lt (l := goes s l5) (fun y hy => fine5 y (List.mem_filter.1 hy).1) (goes s l5).length
          rwa [List.take_length] at this
        have N64 : (Ma.mem (maskP (goes s l5))).length ≤ 64 := by rw [Ma.mem_length]; exact Ma.popF_le 64 _
        have Z6 : Hid (Few (Pd ++ [x]) K (stays s l5) B (j + 1)) := Lib.hid (P5.out _ (fun y hy => F5.out.1 y (List.mem_filter.1 hy).1) (by have := F5.out.2; omega))
        clear hF fi fine5 hp GF FS
        have T6 := Lib.hid (T0.out.next E6.out)
        generalize maskP (goes s l5) = mm at *
        obtain ⟨l6, hl6⟩ : ∃ l6, stays s l5 = l6 := ⟨_, rfl⟩
        rw [hl6] at S6 Z6
        clear hl6
        go_wp2_with fail
        refine (list_any _ _ hm64 T6).mono ?_
        rintro e w7 ⟨v, rfl, ho, hb⟩
        obtain ⟨la, lc, lb, rfl, hlb, hrow⟩ := int_row ho
        obtain ⟨rfl, -, cur, hcur, hget⟩ := hrow PO
        clear hrow hlb ho
        have S7 := Lib.hid (S6.out.next hb)
        have C7 := Lib.hid (C6.out.next hb)
        have E7 := Lib.hid (E6.out.trans (hb.mono E6.out.size))
        have HC := Lib.hid hcur
        have HG := Lib.hid hget
        clear hb hcur hget S6 C6 E6 T6 hm64
        generalize hN : (Ma.mem mm).length = N at *
        clear hN
        obtain ⟨g, hg⟩ : ∃ g : Nat → Nat, (fun i => (Ma.mem mm).getD i 0) = g := ⟨_, rfl⟩
        have LM' : Hid (∀ i, i < N → (s, ((g i : Nat) : Int)) ∈ Pd ++ [x]) := by rw [← hg]; exact LM
        have HG' : Hid (∀ i, i < N → cur[i]? = some (.int .i64 ((g i : Nat) : Int))) := by rw [← hg]; exact HG
        clear LM HG hg
        go_wp2_with fail
        go_loopw [60] (fun u60 wr => ∃ (i m' : Nat) (K' : List (Int × Int)), i ≤ N ∧ u60 = .int .i64 (i : Nat) ∧ m' ≤ m + i ∧ Hid (S1 wr w0.heap.size sb4 clb4 pb4 W S B T len f kc (n + 1) l6 v6 M4) ∧ Hid (BCnt wr G m' K') ∧ Hid (Few (Pd ++ [x]) K' l6 B (j + 1)) ∧ Hid (Below w0.heap.size w0 wr) ∧ Hid (wr.heap[lb]? = some (.cells cur 3 (0, 0)))) (fun u60 _ => N - (intOf u60).toNat)
        case atStart => exact ⟨0, m, K, by omega, rfl, by omega, S7, C7, Z6, E7, HC⟩
        case round =>
          obtain ⟨i, m', K', hi, rfl, hm', SI, CI, FI, EI, HI⟩ := hrel
          clear S7 C7 Z6 E7 HC
          by_cases hiN : i < N
          · have i3 : (i : Int) < (N : Int) := by omega
            have cg : wr.cell? ⟨lb, i, none⟩ = some (.int .i64 ((g i : Nat) : Int)) := by rw [cell_of HI.out]; exact HG'.out i hiN
            have hmem := LM'.out i hiN
            have hbd := FI.out.bd _ hmem
            obtain ⟨b1w, b2w⟩ := id hbd
            go_upto_region 16 with fail
            refine wp_region_noPanic ?_
            refine wp_region_held_drew (S := fun _ => True) (by kernel_rfl) trivial (fun hHeld => ?_)
            have hb := (Below.refl wr.heap.size wr).drew
            have SD := Lib.hid (SI.out.next hb)
            have CD := Lib.hid (CI.out.next hb)
            have ED := Lib.hid (EI.out.trans (hb.mono EI.out.size))
            have HD := Lib.hid ((hb.block _ (heap_lt HI.out)).trans HI.out)
            clear hb SI CI EI HI cg
            generalize wr.drew = z0 at *
            refine wpAnyH_take (i := 0) (v := .map (some G)) rfl (by kernel_rfl) (by kernel_rfl) (by kernel_rfl) (fun _ _ _ h => h) (Or.inl ⟨by rfl, fun w hSw => by first | (go_simp; done) | (go_simp; rfl) | (go_simp; omega)⟩) (by assumption) ?_
            change wpAnyH _ _ _ _ _ _ _ (Act.put _ (some 64) _) _
            simp only [Act.put, List.setIfInBounds_toArray, List.set_cons_zero, List.set_cons_succ]
            refine wpAnyH_take (i := 1) (v := .int .i64 s) rfl (by kernel_rfl) (by kernel_rfl) (by kernel_rfl) (fun _ _ _ h => h) (Or.inl ⟨by rfl, fun w hSw => by first | (go_simp; done) | (go_simp; rfl) | (go_simp; omega)⟩) (by assumption) ?_
            change wpAnyH _ _ _ _ _ _ _ (Act.put _ (some 65) _) _
            simp only [Act.put, List.setIfInBounds_toArray, List.set_cons_zero, List.set_cons_succ]
            refine wpAnyH_take (i := 2) (v := .int .i64 ((g i : Nat) : Int)) rfl (by kernel_rfl) (by kernel_rfl) (by kernel_rfl) (fun _ _ _ h => h) (Or.inl ⟨by rfl, fun w hSw => by first | (go_simp; done) | (go_simp; rfl) | (go_simp; omega)⟩) (by assumption) ?_
            change wpAnyH _ _ _ _ _ _ _ (Act.put _ (some 66) _) _
            simp only [Act.put, List.setIfInBounds_toArray, List.set_cons_zero, List.set_cons_succ]
            refine wpAnyH_take (i := 3) (v := .agg #[.int .i64 s, .int .i64 ((g i : Nat) : Int)]) rfl (by kernel_rfl) (by kernel_rfl) (by kernel_rfl) (fun _ _ _ h => h) (Or.inl ⟨by rfl, fun w hSw => by first | (go_simp; done) | (go_simp; rfl) | (go_simp; omega)⟩) (by assumption) ?_
            change wpAnyH _ _ _ _ _ _ _ (Act.put _ (some 67) _) _
            simp only [Act.put, List.setIfInBounds_toArray, List.set_cons_zero, List.set_cons_succ]
            refine wpAnyH_ready (rs := [4, 6]) (by kernel_rfl) (by simp) ?_
            refine AllReadyH.cons rfl (fun K hK => ?_) (AllReadyH.cons rfl (fun K hK => ?_) AllReadyH.nil)
            · obtain ⟨ci, cwf, hrun⟩ := CD.out.look hbd
              refine step_look (vm := .map (some G)) (vk := bkV (s, ((g i : Nat) : Int))) rfl rfl rfl rfl hrun ?_
              show K (Act.put _ (some 68) _) z0
              refine hK.out _ _ trivial (fun hHeld1 => ?_)
              clear hK K hrun
              simp only [Act.put, List.setIfInBounds_toArray, List.set_cons_zero, List.set_cons_succ]
              refine wpAnyH_take (i := 5) (v := .int .i64 (wrap64 (ci + 1))) rfl (by kernel_rfl) (by kernel_rfl) (by kernel_rfl) (fun _ _ _ h => h) (Or.inl ⟨by rfl, fun w hSw => by go_simp; rw [IntKind.wrap_i64]; unfold wrap64; first | done | rfl | omega⟩) (by assumption) ?_
              change wpAnyH _ _ _ _ _ _ _ (Act.put _ (some 69) _) _
              simp only [Act.put, List.setIfInBounds_toArray, List.set_cons_zero, List.set_cons_succ]
              refine wpAnyH_ready (rs := [6]) (by kernel_rfl) (by simp) ?_
              refine AllReadyH.cons rfl (fun K hK => ?_) (AllReadyH.nil)
              have hn6 : m' < 1048576 := by omega
              obtain ⟨v0, st, z1, hrun, ce, ge, hst⟩ := CD.out.entry hbd hn6
              refine step_entry (vm := .map (some G)) (vk := bkV (s, ((g i : Nat) : Int))) rfl rfl rfl rfl hrun ?_
              show K (Act.put _ (some 70) _) z1
              refine hK.out _ _ trivial (fun hHeld2 => ?_)
              clear hK K hrun
              simp only [Act.put, List.setIfInBounds_toArray, List.set_cons_zero, List.set_cons_succ]
              refine wpAnyH_take (i := 7) (v := goInt st) rfl (by kernel_rfl) (by kernel_rfl) (by kernel_rfl) (fun _ _ _ h => h) (Or.inl ⟨by rfl, fun w hSw => by first | (go_simp; done) | (go_simp; rfl) | (go_simp; omega)⟩) (by assumption) ?_
              change wpAnyH _ _ _ _ _ _ _ (Act.put _ (some 71) _) _
              simp only [Act.put, List.setIfInBounds_toArray, List.set_cons_zero, List.set_cons_succ]
              refine wpAnyH_ready (rs := [8]) (by kernel_rfl) (by simp) ?_
              refine AllReadyH.cons rfl (fun K hK => ?_) (AllReadyH.nil)
              obtain ⟨z2, hrun, u1, u2⟩ := hst (wrap64 (ci + 1)) (wrap64_wf _)
              refine step_estore (vm := .map (some G)) (vk := goInt st) (vx := .int .i64 (wrap64 (ci + 1))) rfl rfl rfl rfl rfl hrun ?_
              show K _ z2
              refine hK.out _ _ trivial (fun hHeld3 => ?_)
              clear hK K hrun hst
              have og : Only [G] z0 z2 := Only.of_grown u2 (fun k hk => by cases hk; simp)
              have S9 := Lib.hid (SD.out.beside CD.out MG.out og)
              have C9 := Lib.hid u1
              have E9 : Hid (Below w0.heap.size w0 z2) := Lib.hid (ED.out.grown u2 ED.out.size (fun k hk => by cases hk; exact G0.out))
              have H9 : Hid (z2.heap[lb]? = some (.cells cur 3 (0, 0))) := Lib.hid (by rw [og.block lb (heap_lt HD.out) (fun q => by simp only [List.mem_singleton] at q; obtain ⟨es, cc, hq⟩ := CD.out.obj; rw [← q, HD.out] at hq; cases hq)]; exact HD.out)
              have F9 := Lib.hid (FI.out.add hmem)
              clear SD CD ED HD og u1 u2
              refine ⟨by kernel_rfl, ?_⟩
              refine NoPanic.normal ?_
              go_wp2_with fail
              go_roundw
              case rel => exact ⟨i + 1, m' + 1, _, by omega, by push_cast; rfl, by omega, S9, C9, F9, E9, H9⟩
              case measure => simp [intOf]; omega
            · have hn6 : m' < 1048576 := by omega
              obtain ⟨v0, st, z1, hrun, ce, ge, hst⟩ := CD.out.entry hbd hn6
              refine step_entry (vm := .map (some G)) (vk := bkV (s, ((g i : Nat) : Int))) rfl rfl rfl rfl hrun ?_
              show K (Act.put _ (some 70) _) z1
              refine hK.out _ _ trivial (fun hHeld2 => ?_)
              clear hK K hrun
              simp only [Act.put, List.setIfInBounds_toArray, List.set_cons_zero, List.set_cons_succ]
              refine wpAnyH_take (i := 7) (v := goInt st) rfl (by kernel_rfl) (by kernel_rfl) (by kernel_rfl) (fun _ _ _ h => h) (Or.inl ⟨by rfl, fun w hSw => by first | (go_simp; done) | (go_simp; rfl) | (go_simp; omega)⟩) (by assumption) ?_
              change wpAnyH _ _ _ _ _ _ _ (Act.put _ (some 71) _) _
              simp only [Act.put, List.setIfInBounds_toArray, List.set_cons_zero, List.set_cons_succ]
              have CE := Lib.hid ce
              clear ce
              refine wpAnyH_ready (rs := [4]) (by kernel_rfl) (by simp) ?_
              refine AllReadyH.cons rfl (fun K hK => ?_) (AllReadyH.nil)
              obtain ⟨ci, cwf, hrun⟩ := CE.out.look hbd
              refine step_look (vm := .map (some G)) (vk := bkV (s, ((g i : Nat) : Int))) rfl rfl rfl rfl hrun ?_
              show K (Act.put _ (some 68) _) z1
              refine hK.out _ _ trivial (fun hHeld1 => ?_)
              clear hK K hrun
              simp only [Act.put, List.setIfInBounds_toArray, List.set_cons_zero, List.set_cons_succ]
              refine wpAnyH_take (i := 5) (v := .int .i64 (wrap64 (ci + 1))) rfl (by kernel_rfl) (by kernel_rfl) (by kernel_rfl) (fun _ _ _ h => h) (Or.inl ⟨by rfl, fun w hSw => by go_simp; rw [IntKind.wrap_i64]; unfold wrap64; first | done | rfl | omega⟩) (by assumption) ?_
              change wpAnyH _ _ _ _ _ _ _ (Act.put _ (some 69) _) _
              simp only [Act.put, List.setIfInBounds_toArray, List.set_cons_zero, List.set_cons_succ]
              refine wpAnyH_ready (rs := [8]) (by kernel_rfl) (by simp) ?_
              refine AllReadyH.cons rfl (fun K hK => ?_) (AllReadyH.nil)
              obtain ⟨z2, hrun, u1, u2⟩ := hst (wrap64 (ci + 1)) (wrap64_wf _)
              refine step_estore (vm := .map (some G)) (vk := goInt st) (vx := .int .i64 (wrap64 (ci + 1))) rfl rfl rfl rfl rfl hrun ?_
              show K _ z2
              refine hK.out _ _ trivial (fun hHeld3 => ?_)
              clear hK K hrun hst
              have og : Only [G] z0 z2 := Only.of_grown u2 (fun k hk => by cases hk; simp)
              have S9 := Lib.hid (SD.out.beside CD.out MG.out og)
              have C9 := Lib.hid u1
              have E9 : Hid (Below w0.heap.size w0 z2) := Lib.hid (ED.out.grown u2 ED.out.size (fun k hk => by cases hk; exact G0.out))
              have H9 : Hid (z2.heap[lb]? = some (.cells cur 3 (0, 0))) := Lib.hid (by rw [og.block lb (heap_lt HD.out) (fun q => by simp only [List.mem_singleton] at q; obtain ⟨es, cc, hq⟩ := CD.out.obj; rw [← q, HD.out] at hq; cases hq)]; exact HD.out)
              have F9 := Lib.hid (FI.out.add hmem)
              clear SD CD ED HD og u1 u2
              refine ⟨by kernel_rfl, ?_⟩
              refine NoPanic.normal ?_
              go_wp2_with fail
              go_roundw
              case rel => exact ⟨i + 1, m' + 1, _, by omega, by push_cast; rfl, by omega, S9, C9, F9, E9, H9⟩
              case measure => simp [intOf]; omega
          · obtain rfl : i = N := by omega
            have S6 := SI
            have C6 := CI
            have E6 := EI
            have F6 := FI
            clear SI CI EI FI HI HG' LM'
            go_wp2_with fail
            have few6 := S6.out.few
            have BL := Lib.hid (s1_blocks w0.heap.size sb4 clb4 pb4 W S B T len f kc (n + 1) l6 _ M4 wr S6 (by omega))
            go_wp2_with fail
            refine BL.out.mono ?_
            rintro e w7 ⟨m7, rfl, r1, hb, -⟩
            obtain ⟨ma, mc, rfl⟩ := ORow.form r1
            have S7 := Lib.hid (S6.out.next hb)
            have C7 := Lib.hid (C6.out.next hb)
            have E7 := Lib.hid (E6.out.trans (hb.mono E6.out.size))
            have M7 := Lib.hid r1
            clear r1 hb BL S6 C6 E6
            go_wp2_with fail
            go_loopw [78] (fun u78 wq => ∃ i : Nat, i ≤ l6.length ∧ u78 = .int .i64 (i : Nat) ∧ Hid (Below w7.heap.size w7 wq)) (fun u78 _ => l6.length - (intOf u78).toNat)
            case atStart => exact ⟨0, by omega, rfl, Lib.hid (Below.refl _ _)⟩
            case round =>
              obtain ⟨i, hi, rfl, BB⟩ := hrel
              by_cases hli : i < l6.length
              · have l6' : (i : Int) < (l6.length : Int) := by omega
                obtain ⟨y, hy⟩ : ∃ y, l6[i]? = some y := ⟨_, List.getElem?_eq_getElem hli⟩
                have MR := ORow.next M7.out BB.out
                obtain ⟨lb, cp, hv2, hcell, -⟩ := ORow.at bkEnc MR hy
                simp only [Value.slice.injEq] at hv2
                obtain ⟨rfl, -, rfl⟩ := hv2
                have y0 : wr.cell? ⟨lb, i * 2, none⟩ = some (.int .i64 y.1) := hcell 0 _ rfl
                have y1' : wr.cell? ⟨lb, i * 2 + 1, none⟩ = some (.int .i64 y.2) := hcell 1 _ rfl
                have hb := box1 wr (.cells #[.int .i64 y.1, .int .i64 y.2] 32)
                have D7 : Hid (Two5 (wr.alloc (.cells #[.int .i64 y.1, .int .i64 y.2] 32)) wr.heap.size 32 y.1 y.2) := Two5.new wr _ _ _
                have RF := Lib.hid (ORow.next (BkRow.fst MR (Nat.le_of_lt hli)) hb)
                have B8 := Lib.hid (BB.out.trans (hb.mono BB.out.size))
                clear hb hcell MR
                go_upto_region 22 with fail
                generalize wr.alloc (.cells #[.int .i64 y.1, .int .i64 y.2] 32) = w8 at *
                generalize wr.heap.size = NB at *
                have hcp : l6.length ≤ mc := by
                  rcases ORow.cases M7.out with ⟨q, -⟩ | ⟨_, _, _, q, -, q2, -⟩
                  · cases q
                  · cases q; exact q2
                have hic : (i : Int) ≤ (mc : Int) := by omega
                have hnc : i ≤ mc := by omega
                have hnot : y ∉ l6.take i := fun hmem => by
                  have nd := S7.out.gd.1
                  rw [← List.take_append_drop i l6] at nd
                  exact (List.nodup_append.1 nd).2.2 y hmem y (List.mem_of_getElem? (i := 0) (by rw [List.getElem?_drop, Nat.add_zero]; exact hy)) rfl
                refine wp_region_noPanic ?_
                refine wp_region_held_drew (S := fun w' => Two5 w' NB 32 y.1 y.2) (by kernel_rfl) (D7.out) (fun hHeld => ?_)
                have hb := (Below.refl w8.heap.size w8).drew
                have D8 := Lib.hid (D7.out.next hb)
                have R8 := Lib.hid (ORow.next RF.out hb)
                have B9 := Lib.hid (B8.out.trans (hb.mono B8.out.size))
                clear hb
                generalize w8.drew = z0 at *
                refine wpAnyH_take (i := 0) (v := .slice (some ⟨lb, 0, none⟩) l6.length mc) rfl (by kernel_rfl) (by kernel_rfl) (by kernel_rfl) (fun _ _ _ h => h) (Or.inl ⟨by rfl, fun w hSw => by first | (go_simp; done) | (go_simp; rfl) | (go_simp; omega)⟩) (by assumption) ?_
                change wpAnyH _ _ _ _ _ _ _ (Act.put _ (some 83) _) _
                simp only [Act.put, List.setIfInBounds_toArray, List.set_cons_zero, List.set_cons_succ]
                refine wpAnyH_take (i := 1) (v := .int .i64 (i : Nat)) rfl (by kernel_rfl) (by kernel_rfl) (by kernel_rfl) (fun _ _ _ h => h) (Or.inl ⟨by rfl, fun w hSw => by first | (go_simp; done) | (go_simp; rfl) | (go_simp; omega)⟩) (by assumption) ?_
                change wpAnyH _ _ _ _ _ _ _ (Act.put _ (some 84) _) _
                simp only [Act.put, List.setIfInBounds_toArray, List.set_cons_zero, List.set_cons_succ]
                refine wpAnyH_take (i := 2) (v := .slice (some ⟨lb, 0, none⟩) i mc) rfl (by kernel_rfl) (by kernel_rfl) (by kernel_rfl) (fun _ _ _ h => h) (Or.inl ⟨by rfl, fun w hSw => by first | (go_simp; done) | (go_simp; rfl) | (go_simp; omega)⟩) (by assumption) ?_
                change wpAnyH _ _ _ _ _ _ _ (Act.put _ (some 85) _) _
                simp only [Act.put, List.setIfInBounds_toArray, List.set_cons_zero, List.set_cons_succ]
                refine wpAnyH_take (i := 3) (v := .agg #[.int .i64 y.1, .int .i64 y.2]) rfl (by kernel_rfl) (by kernel_rfl) (by kernel_rfl) (fun _ _ _ h => h) (Or.inl ⟨by rfl, fun w hSw => by obtain ⟨d0, d1⟩ := hSw.cells; go_simp⟩) (by assumption) ?_
                change wpAnyH _ _ _ _ _ _ _ (Act.put _ (some 86) _) _
                simp only [Act.put, List.setIfInBounds_toArray, List.set_cons_zero, List.set_cons_succ]
                refine wpAnyH_ready (rs := [4]) (by kernel_rfl) (by simp) ?_
                refine AllReadyH.cons rfl (fun K hK => ?_) (AllReadyH.nil)
                refine step_enter (F := 11) (vals := #[.slice (some ⟨lb, 0, none⟩) i mc, .agg #[.int .i64 y.1, .int .i64 y.2]]) rfl (by kernel_rfl) ?_
                refine (rhas_any _ (l6.take i) y z0 R8 (by rw [List.length_take]; omega)).mono ?_
                rintro e z9 ⟨rfl, hb⟩
                have D9 := Lib.hid (D8.out.next hb)
                have B10 := Lib.hid (B9.out.trans (hb.mono B9.out.size))
                clear hb
                rw [decide_eq_false hnot]
                show K (Act.put _ (some 87) _) z9
                refine hK.out _ _ (D9.out) (fun hHeld1 => ?_)
                clear hK K
                simp only [Act.put, List.setIfInBounds_toArray, List.set_cons_zero, List.set_cons_succ]
                refine ⟨by kernel_rfl, ?_⟩
                refine NoPanic.normal ?_
                go_wp2_with fail
                go_roundw
                case rel => exact ⟨i + 1, by omega, by push_cast; rfl, B10⟩
                case measure => simp [intOf]; omega
              · obtain rfl : i = l6.length := by omega
                have S8 := Lib.hid (S7.out.next BB.out)
                have C8 := Lib.hid (C7.out.next BB.out)
                have E8 := Lib.hid (E7.out.trans (BB.out.mono E7.out.size))
                have CX := Lib.hid (cfg_next C0.out E8.out)
                obtain ⟨c0, c1, c2, c3, c4⟩ := cfg_cells CX.out
                have f6 := F6.out.few
                have wB : IntKind.i64.wrap (2 * B) = 2 * B := by rw [IntKind.wrap_i64]; omega
                have gB : decide (2 * B < (l6.length : Int)) = false := by simpa using f6
                clear S7 C7 E7 BB
                go_wp2_with fail
                go_roundw
                case rel => exact ⟨j + 1, n + 1, _, l6, _, Pd ++ [x], _, by omega, by push_cast; rfl, by omega, by omega, S8, C8, F6, E8⟩
                case measure => simp [intOf]; omega
      · have SP := Lib.hid (s1_spill_no w0.heap.size sb4 clb4 pb4 W S B T len f kc (n + 1) l5 v5 M4 w5 S5 (by omega) (by omega) (by omega))
        go_wp2_with fail
        refine SP.out.mono ?_
        rintro e w6 ⟨rfl, hb⟩
        have S6 := Lib.hid (S5.out.next hb)
        have C6 := Lib.hid (C5.out.next hb)
        have E6 := Lib.hid (E5'.out.trans (hb.mono E5'.out.size))
        have F6 := Lib.hid (P5.out l5 F5.out.1 (by omega))
        clear hb SP S5 C5 E5'
        have few6 := S6.out.few
        have BL := Lib.hid (s1_blocks w0.heap.size sb4 clb4 pb4 W S B T len f kc (n + 1) l5 _ M4 w6 S6 (by omega))
        go_wp2_with fail
        refine BL.out.mono ?_
        rintro e w7 ⟨m7, rfl, r1, hb, -⟩
        obtain ⟨ma, mc, rfl⟩ := ORow.form r1
        have S7 := Lib.hid (S6.out.next hb)
        have C7 := Lib.hid (C6.out.next hb)
        have E7 := Lib.hid (E6.out.trans (hb.mono E6.out.size))
        have M7 := Lib.hid r1
        clear r1 hb BL S6 C6 E6
        go_wp2_with fail
        go_loopw [78] (fun u78 wr => ∃ i : Nat, i ≤ l5.length ∧ u78 = .int .i64 (i : Nat) ∧ Hid (Below w7.heap.size w7 wr)) (fun u78 _ => l5.length - (intOf u78).toNat)
        case atStart => exact ⟨0, by omega, rfl, Lib.hid (Below.refl _ _)⟩
        case round =>
          obtain ⟨i, hi, rfl, BB⟩ := hrel
          by_cases hli : i < l5.length
          · have l5' : (i : Int) < (l5.length : Int) := by omega
            obtain ⟨y, hy⟩ : ∃ y, l5[i]? = some y := ⟨_, List.getElem?_eq_getElem hli⟩
            have MR := ORow.next M7.out BB.out
            obtain ⟨lb, cp, hv2, hcell, -⟩ := ORow.at bkEnc MR hy
            simp only [Value.slice.injEq] at hv2
            obtain ⟨rfl, -, rfl⟩ := hv2
            have y0 : wr.cell? ⟨lb, i * 2, none⟩ = some (.int .i64 y.1) := hcell 0 _ rfl
            have y1' : wr.cell? ⟨lb, i * 2 + 1, none⟩ = some (.int .i64 y.2) := hcell 1 _ rfl
            have hb := box1 wr (.cells #[.int .i64 y.1, .int .i64 y.2] 32)
            have D7 : Hid (Two5 (wr.alloc (.cells #[.int .i64 y.1, .int .i64 y.2] 32)) wr.heap.size 32 y.1 y.2) := Two5.new wr _ _ _
            have RF := Lib.hid (ORow.next (BkRow.fst MR (Nat.le_of_lt hli)) hb)
            have B8 := Lib.hid (BB.out.trans (hb.mono BB.out.size))
            clear hb hcell MR
            go_upto_region 22 with fail
            generalize wr.alloc (.cells #[.int .i64 y.1, .int .i64 y.2] 32) = w8 at *
            generalize wr.heap.size = NB at *
            have hcp : l5.length ≤ mc := by
              rcases ORow.cases M7.out with ⟨q, -⟩ | ⟨_, _, _, q, -, q2, -⟩
              · cases q
              · cases q; exact q2
            have hic : (i : Int) ≤ (mc : Int) := by omega
            have hnc : i ≤ mc := by omega
            have hnot : y ∉ l5.take i := fun hmem => by
              have nd := S7.out.gd.1
              rw [← List.take_append_drop i l5] at nd
              exact (List.nodup_append.1 nd).2.2 y hmem y (List.mem_of_getElem? (i := 0) (by rw [List.getElem?_drop, Nat.add_zero]; exact hy)) rfl
            refine wp_region_noPanic ?_
            refine wp_region_held_drew (S := fun w' => Two5 w' NB 32 y.1 y.2) (by kernel_rfl) (D7.out) (fun hHeld => ?_)
            have hb := (Below.refl w8.heap.size w8).drew
            have D8 := Lib.hid (D7.out.next hb)
            have R8 := Lib.hid (ORow.next RF.out hb)
            have B9 := Lib.hid (B8.out.trans (hb.mono B8.out.size))
            clear hb
            generalize w8.drew = z0 at *
            refine wpAnyH_take (i := 0) (v := .slice (some ⟨lb, 0, none⟩) l5.length mc) rfl (by kernel_rfl) (by kernel_rfl) (by kernel_rfl) (fun _ _ _ h => h) (Or.inl ⟨by rfl, fun w hSw => by first | (go_simp; done) | (go_simp; rfl) | (go_simp; omega)⟩) (by assumption) ?_
            change wpAnyH _ _ _ _ _ _ _ (Act.put _ (some 83) _) _
            simp only [Act.put, List.setIfInBounds_toArray, List.set_cons_zero, List.set_cons_succ]
            refine wpAnyH_take (i := 1) (v := .int .i64 (i : Nat)) rfl (by kernel_rfl) (by kernel_rfl) (by kernel_rfl) (fun _ _ _ h => h) (Or.inl ⟨by rfl, fun w hSw => by first | (go_simp; done) | (go_simp; rfl) | (go_simp; omega)⟩) (by assumption) ?_
            change wpAnyH _ _ _ _ _ _ _ (Act.put _ (some 84) _) _
            simp only [Act.put, List.setIfInBounds_toArray, List.set_cons_zero, List.set_cons_succ]
            refine wpAnyH_take (i := 2) (v := .slice (some ⟨lb, 0, none⟩) i mc) rfl (by kernel_rfl) (by kernel_rfl) (by kernel_rfl) (fun _ _ _ h => h) (Or.inl ⟨by rfl, fun w hSw => by first | (go_simp; done) | (go_simp; rfl) | (go_simp; omega)⟩) (by assumption) ?_
            change wpAnyH _ _ _ _ _ _ _ (Act.put _ (some 85) _) _
            simp only [Act.put, List.setIfInBounds_toArray, List.set_cons_zero, List.set_cons_succ]
            refine wpAnyH_take (i := 3) (v := .agg #[.int .i64 y.1, .int .i64 y.2]) rfl (by kernel_rfl) (by kernel_rfl) (by kernel_rfl) (fun _ _ _ h => h) (Or.inl ⟨by rfl, fun w hSw => by obtain ⟨d0, d1⟩ := hSw.cells; go_simp⟩) (by assumption) ?_
            change wpAnyH _ _ _ _ _ _ _ (Act.put _ (some 86) _) _
            simp only [Act.put, List.setIfInBounds_toArray, List.set_cons_zero, List.set_cons_succ]
            refine wpAnyH_ready (rs := [4]) (by kernel_rfl) (by simp) ?_
            refine AllReadyH.cons rfl (fun K hK => ?_) (AllReadyH.nil)
            refine step_enter (F := 11) (vals := #[.slice (some ⟨lb, 0, none⟩) i mc, .agg #[.int .i64 y.1, .int .i64 y.2]]) rfl (by kernel_rfl) ?_
            refine (rhas_any _ (l5.take i) y z0 R8 (by rw [List.length_take]; omega)).mono ?_
            rintro e z9 ⟨rfl, hb⟩
            have D9 := Lib.hid (D8.out.next hb)
            have B10 := Lib.hid (B9.out.trans (hb.mono B9.out.size))
            clear hb
            rw [decide_eq_false hnot]
            show K (Act.put _ (some 87) _) z9
            refine hK.out _ _ (D9.out) (fun hHeld1 => ?_)
            clear hK K
            simp only [Act.put, List.setIfInBounds_toArray, List.set_cons_zero, List.set_cons_succ]
            refine ⟨by kernel_rfl, ?_⟩
            refine NoPanic.normal ?_
            go_wp2_with fail
            go_roundw
            case rel => exact ⟨i + 1, by omega, by push_cast; rfl, B10⟩
            case measure => simp [intOf]; omega
          · obtain rfl : i = l5.length := by omega
            have S8 := Lib.hid (S7.out.next BB.out)
            have C8 := Lib.hid (C7.out.next BB.out)
            have E8 := Lib.hid (E7.out.trans (BB.out.mono E7.out.size))
            have CX := Lib.hid (cfg_next C0.out E8.out)
            obtain ⟨c0, c1, c2, c3, c4⟩ := cfg_cells CX.out
            have f6 := F6.out.few
            have wB : IntKind.i64.wrap (2 * B) = 2 * B := by rw [IntKind.wrap_i64]; omega
            have gB : decide (2 * B < (l5.length : Int)) = false := by simpa using f6
            clear S7 C7 E7 BB
            go_wp2_with fail
            go_roundw
            case rel => exact ⟨j + 1, n + 1, _, l5, _, Pd ++ [x], _, by omega, by push_cast; rfl, by omega, by omega, S8, C8, F6, E8⟩
            case measure => simp [intOf]; omega
    · obtain rfl : j = n2 := by omega
      have ln := CC.out.len 3
      have cnt := FW.out.count
      have gc : decide ((K.length : Int) ≤ (j : Int)) = true := by simpa using cnt
      go_wp2_with fail
      go_ret
      exact ⟨rfl, B0.out.trans (E1.out.mono B0.out.size)⟩
end Go.Proofs.YtehmeccjgjhidaaDoor
