/-
  Pop: none, or the block on top; of a class that there isn't, none; Len and Push there.
-/
import Derived.Test.YtehmeccjgjhidaaDoorStockD
namespace Go.Proofs.YtehmeccjgjhidaaDoor
open Go.RowKit Go.Maps Go.Sort

set_option maxRecDepth 20000 in
set_option maxHeartbeats 4000000 in
theorem pop_no (sb clb pb : Nat) (W S B T : Int) (len : Nat) (f : Nat → Int) (n : Nat) (P : Nat → List (Int × Int)) (L : Nat → Value) (M : Nat → Nat) (k : Nat) (w : World) (h : Hid (Stk w sb clb pb W S B T len f n P L M)) (hk : k < len) (hP : P k = []) :
    Calls Tryd.prog 14 #[.pointer (some ⟨sb, 0, none⟩), .int .i64 (k : Nat)] w fun e w' => e = .returned (.tuple #[.agg #[.int .i64 0, .int .i64 0], .bool false]) ∧ Below w.heap.size w w' := by
  have X0 : Hid (Two5 (w.alloc (.cells #[.int .i64 0, .int .i64 0] 32)) w.heap.size 32 0 0) := Two5.new w _ _ _
  have K0 := Lib.hid (h.out.next (box1 w (.cells #[.int .i64 0, .int .i64 0] 32)))
  have B0 := Lib.hid (box1 w (.cells #[.int .i64 0, .int .i64 0] 32))
  go_enter Tryd.func14, Tryd.ntmps14
  go_wp2_with fail
  generalize w.alloc (.cells #[.int .i64 0, .int .i64 0] 32) = w0 at *
  generalize hN : w.heap.size = N at *
  refine (pile_in sb clb pb W S B T len f n P L M k w0 K0 hk).mono ?_
  rintro e w1 ⟨rfl, rfl⟩
  obtain ⟨p0, _⟩ := K0.out.cell hk
  obtain ⟨a, c, hv⟩ := ORow.form (K0.out.lst k hk)
  rw [hv, hP] at p0
  simp only [List.length_nil] at p0
  clear hv
  have x0 := two_c0 X0.out
  have x1 := two_c1 X0.out
  have f0 := frozen_of (j := 0) X0.out
  have f1 := frozen_of (j := 1) X0.out
  go_wp2_with fail
  exact bodyPost_ret (v := .tuple #[.agg #[.int .i64 0, .int .i64 0], .bool false]) (by simp [results, Tryd.results14, go_sem, x0, x1]) rfl ⟨rfl, by rw [hN]; first | exact B0.out | exact (B0.out.setCell (p := ⟨N, 0, none⟩) (Nat.le_refl _) _).setCell (p := ⟨N, 1, none⟩) (Nat.le_refl _) _⟩
set_option maxRecDepth 20000 in
set_option maxHeartbeats 4000000 in
theorem pop_yes (sb clb pb : Nat) (W S B T : Int) (len : Nat) (f : Nat → Int) (n : Nat) (P : Nat → List (Int × Int)) (L : Nat → Value) (M : Nat → Nat) (k : Nat) (l : List (Int × Int)) (x : Int × Int) (w : World) (h : Hid (Stk w sb clb pb W S B T len f n P L M)) (hk : k < len) (hP : P k = l ++ [x]) (hx0 : Bd x) (hx : x ∉ l) (few : l.length < 1048576) :
    Calls Tryd.prog 14 #[.pointer (some ⟨sb, 0, none⟩), .int .i64 (k : Nat)] w fun e w' => e = .returned (.tuple #[.agg #[.int .i64 x.1, .int .i64 x.2], .bool true]) ∧ ∃ v', Stk w' sb clb pb W S B T len f n (updP P k l) (updL L k v') M ∧ Only [pb, M k] w w' ∧ v'.ownBlock = (L k).ownBlock := by
  have X0 : Hid (Two5 (w.alloc (.cells #[.int .i64 0, .int .i64 0] 32)) w.heap.size 32 0 0) := Two5.new w _ _ _
  have K0 := Lib.hid (h.out.next (box1 w (.cells #[.int .i64 0, .int .i64 0] 32)))
  have B0 := Lib.hid (box1 w (.cells #[.int .i64 0, .int .i64 0] 32))
  go_enter Tryd.func14, Tryd.ntmps14
  go_wp2_with fail
  generalize w.alloc (.cells #[.int .i64 0, .int .i64 0] 32) = w0 at *
  generalize hN : w.heap.size = N at *
  refine (pile_in sb clb pb W S B T len f n P L M k w0 K0 hk).mono ?_
  rintro e w1 ⟨rfl, rfl⟩
  obtain ⟨p0, _⟩ := K0.out.cell hk
  obtain ⟨a, c, hv⟩ := ORow.form (K0.out.lst k hk)
  have hl : (P k).length = l.length + 1 := by rw [hP]; simp
  rw [hl] at hv
  have hat : (P k)[l.length]? = some x := by rw [hP]; simp
  obtain ⟨lb, cap, hv2, hcell, _⟩ := ORow.at bkEnc (K0.out.lst k hk) hat
  rw [hl] at hv2
  have HV := Lib.hid hv2
  have y0 : w0.cell? ⟨lb, l.length * 2, none⟩ = some (.int .i64 x.1) := hcell 0 _ rfl
  have y1 : w0.cell? ⟨lb, l.length * 2 + 1, none⟩ = some (.int .i64 x.2) := hcell 1 _ rfl
  rw [hv2] at p0
  clear hv hv2 hat hcell
  have e1 : IntKind.i64.wrap (((l.length + 1 : Nat) : Int) - 1) = (l.length : Int) := by rw [IntKind.wrap_i64]; omega
  have e2 : ¬ (l.length : Int) < 0 := by omega
  have XB : Hid (Two5 (w0.alloc (.cells #[.int .i64 x.1, .int .i64 x.2] 32)) w0.heap.size 32 x.1 x.2) := Two5.new w0 _ _ _
  have bb := box1 w0 (.cells #[.int .i64 x.1, .int .i64 x.2] 32)
  have K1 := Lib.hid (K0.out.next bb)
  have X1 := Lib.hid (X0.out.next bb)
  have B1 : Hid (Below N w (w0.alloc (.cells #[.int .i64 x.1, .int .i64 x.2] 32))) := B0.out.trans (bb.mono (by have := B0.out.size; omega))
  have NQ : Hid (N < w0.heap.size) := heap_lt X0.out
  go_upto_region 6 with fail
  generalize w0.alloc (.cells #[.int .i64 x.1, .int .i64 x.2] 32) = w2 at *
  generalize w0.heap.size = Q at *
  clear y0 y1 p0 bb B0 K0 X0
  obtain ⟨p0, p1⟩ := K1.out.cell hk
  rw [HV.out] at p0
  have fp := frozen_of (j := k * 2) K1.out.pil
  have es : l.length ≤ cap := by
    have h2 := K1.out.lst k hk
    rw [HV.out] at h2
    rcases ORow.cases h2 with ⟨h1, _⟩ | ⟨b', cap', cur, h1, _, h3, _⟩
    · cases h1
    · simp only [Value.slice.injEq] at h1
      have := h1.2.2
      omega
  go_upto_region 7 with fail
  have S1 : Hid (Only [pb] w2 (w2.setCell ⟨pb, k * 2, none⟩ (.slice (some ⟨lb, 0, none⟩) l.length cap))) := Only.of_set (by simp) _
  have PB : Hid ((w2.setCell ⟨pb, k * 2, none⟩ (.slice (some ⟨lb, 0, none⟩) l.length cap)).heap[pb]? = some (.cells (pilesOf (updL L k (.slice (some ⟨lb, 0, none⟩) l.length cap)) M len).toArray 53 (0, 0))) := by
    show _ = _
    rw [set_of K1.out.pil, ← piles_set hk]
    simp
  have BK0 := K1.out.lst k hk
  rw [HV.out, hP] at BK0
  have BK1 := BkRow.drop BK0
  rw [List.dropLast_concat, Nat.add_sub_cancel] at BK1
  have BKB : Hid (BkRow (w2.setCell ⟨pb, k * 2, none⟩ (.slice (some ⟨lb, 0, none⟩) l.length cap)) (.slice (some ⟨lb, 0, none⟩) l.length cap) l) := ORow.stay BK1 S1.out (fun b hb => by
    obtain ⟨cur, hc⟩ := BK1.obj hb
    simp
    intro e
    subst e
    have := hc.symm.trans K1.out.pil
    simp at this)
  have nMp : M k ≠ pb := fun e => by
    obtain ⟨es, c, hm2⟩ := (K1.out.set k hk).obj
    rw [e] at hm2
    have := hm2.symm.trans K1.out.pil
    simp at this
  have BSB : Hid (BSet (w2.setCell ⟨pb, k * 2, none⟩ (.slice (some ⟨lb, 0, none⟩) l.length cap)) (M k) n (P k)) := (K1.out.set k hk).stay S1.out (by simpa using nMp)
  have nQp : Q ≠ pb := fun e => by have := XB.out; rw [e] at this; have := this.symm.trans K1.out.pil; simp at this
  have nNp : N ≠ pb := fun e => by have := X1.out; rw [e] at this; have := this.symm.trans K1.out.pil; simp at this
  have XC : Hid (Two5 (w2.setCell ⟨pb, k * 2, none⟩ (.slice (some ⟨lb, 0, none⟩) l.length cap)) Q 32 x.1 x.2) := S1.out.at XB.out (by simpa using nQp)
  have XD : Hid (Two5 (w2.setCell ⟨pb, k * 2, none⟩ (.slice (some ⟨lb, 0, none⟩) l.length cap)) N 32 0 0) := S1.out.at X1.out (by simpa using nNp)
  have KY := K1
  have BY := B1
  clear BK0 BK1 XB X1 p0 p1 fp K1 B1
  generalize (w2.setCell ⟨pb, k * 2, none⟩ (.slice (some ⟨lb, 0, none⟩) l.length cap)) = wb at *
  have cm : wb.cell? ⟨pb, k * 2 + 1, none⟩ = some (.map (some (M k))) := by
    have := (piles_at (L := updL L k (.slice (some ⟨lb, 0, none⟩) l.length cap)) (M := M) hk).2
    rw [cell_of PB.out]
    simpa using this
  refine wp_region_noPanic ?_
  refine wp_region_held_drew (S := fun w' => Two5 w' Q 32 x.1 x.2 ∧ w'.cell? ⟨pb, k * 2 + 1, none⟩ = some (.map (some (M k)))) (by kernel_rfl) (⟨XC.out, cm⟩) (fun hHeld => ?_)
  have DR := (Below.refl wb.heap.size wb).drew
  have PB2 : Hid (wb.drew.heap[pb]? = _) := PB.out
  have BK2 : Hid (BkRow wb.drew (.slice (some ⟨lb, 0, none⟩) l.length cap) l) := ORow.next BKB.out DR
  have BS2 := Lib.hid (BSB.out.next DR)
  have OY2 := Lib.hid (S1.out.trans (Only.of_below DR))
  have XC2 : Hid (Two5 wb.drew Q 32 x.1 x.2) := XC.out
  have XD2 : Hid (Two5 wb.drew N 32 0 0) := XD.out
  clear DR PB BKB BSB S1 XC XD cm
  generalize wb.drew = z5 at *
  refine wpAnyH_take (i := 0) (v := .pointer (some ⟨pb, k * 2, none⟩)) rfl (by kernel_rfl) (by kernel_rfl) (by kernel_rfl) (fun _ _ _ h => h) (Or.inl ⟨by rfl, fun w hSw => by obtain ⟨s1, s2⟩ := hSw; have b0 := two_c0 s1; have b1 := two_c1 s1; go_simp⟩) (by assumption) ?_
  change wpAnyH _ _ _ _ _ _ _ (Act.put _ (some 37) _) _
  simp only [Act.put, List.setIfInBounds_toArray, List.set_cons_zero, List.set_cons_succ]
  refine wpAnyH_take (i := 1) (v := .pointer (some ⟨pb, k * 2, none⟩)) rfl (by kernel_rfl) (by kernel_rfl) (by kernel_rfl) (fun _ _ _ h => h) (Or.inl ⟨by rfl, fun w hSw => by obtain ⟨s1, s2⟩ := hSw; have b0 := two_c0 s1; have b1 := two_c1 s1; go_simp⟩) (by assumption) ?_
  change wpAnyH _ _ _ _ _ _ _ (Act.put _ (some 38) _) _
  simp only [Act.put, List.setIfInBounds_toArray, List.set_cons_zero, List.set_cons_succ]
  refine wpAnyH_take (i := 2) (v := .pointer (some ⟨pb, k * 2 + 1, none⟩)) rfl (by kernel_rfl) (by kernel_rfl) (by kernel_rfl) (fun _ _ _ h => h) (Or.inl ⟨by rfl, fun w hSw => by obtain ⟨s1, s2⟩ := hSw; have b0 := two_c0 s1; have b1 := two_c1 s1; go_simp⟩) (by assumption) ?_
  change wpAnyH _ _ _ _ _ _ _ (Act.put _ (some 39) _) _
  simp only [Act.put, List.setIfInBounds_toArray, List.set_cons_zero, List.set_cons_succ]
  refine wpAnyH_take (i := 3) (v := .map (some (M k))) rfl (by kernel_rfl) (by kernel_rfl) (by kernel_rfl) (fun _ _ _ h => h) (Or.inl ⟨by rfl, fun w hSw => by obtain ⟨s1, s2⟩ := hSw; have b0 := two_c0 s1; have b1 := two_c1 s1; go_simp⟩) (by assumption) ?_
  change wpAnyH _ _ _ _ _ _ _ (Act.put _ (some 40) _) _
  simp only [Act.put, List.setIfInBounds_toArray, List.set_cons_zero, List.set_cons_succ]
  refine wpAnyH_take (i := 4) (v := .agg #[.int .i64 x.1, .int .i64 x.2]) rfl (by kernel_rfl) (by kernel_rfl) (by kernel_rfl) (fun _ _ _ h => h) (Or.inl ⟨by rfl, fun w hSw => by obtain ⟨s1, s2⟩ := hSw; have b0 := two_c0 s1; have b1 := two_c1 s1; go_simp⟩) (by assumption) ?_
  change wpAnyH _ _ _ _ _ _ _ (Act.put _ (some 41) _) _
  simp only [Act.put, List.setIfInBounds_toArray, List.set_cons_zero, List.set_cons_succ]
  refine wpAnyH_ready (rs := [5]) (by kernel_rfl) (by simp) ?_
  refine AllReadyH.cons rfl (fun K hK => ?_) AllReadyH.nil
  obtain ⟨wm, hrunm, m1, m2⟩ := BS2.out.del hx0 0
  unfold bkV at hrunm
  have OM : Hid (Only [M k] z5 wm) := Only.of_grown m2 (fun b hb => by simp at hb ⊢; exact hb.symm)
  have BSM := Lib.hid m1
  have nMt : ∀ q t u v, Two5 z5 q t u v → q ∉ [M k] := fun q t u v hq => by
    simp
    intro e
    obtain ⟨es, c, hm2⟩ := BS2.out.obj
    rw [← e] at hm2
    have := hm2.symm.trans hq
    simp at this
  have XM : Hid (Two5 wm Q 32 x.1 x.2) := OM.out.at XC2.out (nMt _ _ _ _ XC2.out)
  have XN : Hid (Two5 wm N 32 0 0) := OM.out.at XD2.out (nMt _ _ _ _ XD2.out)
  have PM : Hid (wm.heap[pb]? = _) := OM.out.at PB2.out (by simpa using nMp.symm)
  have cm3 : wm.cell? ⟨pb, k * 2 + 1, none⟩ = some (.map (some (M k))) := by
    have := (piles_at (L := updL L k (.slice (some ⟨lb, 0, none⟩) l.length cap)) (M := M) hk).2
    rw [cell_of PM.out]
    simpa using this
  go_simp
  refine hK.out _ _ (⟨XM.out, cm3⟩) (fun hHeldM => ?_)
  clear hK K hrunm m1 m2
  refine ⟨by kernel_rfl, ?_⟩
  refine NoPanic.normal ?_
  have BKM : Hid (BkRow wm (.slice (some ⟨lb, 0, none⟩) l.length cap) l) := ORow.stay BK2.out OM.out (fun b hb => by
    obtain ⟨cur, hc⟩ := BK2.out.obj hb
    obtain ⟨es, c, hm2⟩ := BS2.out.obj
    simp
    intro e
    subst e
    have := hc.symm.trans hm2
    simp at this)
  have OF : Hid (Only [pb, M k] w2 wm) := (OY2.out.mono (fun b hb => .inl (by simp at hb ⊢; exact .inl hb))).trans (OM.out.mono (fun b hb => .inl (by simp at hb ⊢; exact .inr hb)))
  have bd0 := KY.out.bd k hk
  rw [hP] at bd0
  have KF : Hid (Stk wm sb clb pb W S B T len f n (updP P k l) (updL L k (.slice (some ⟨lb, 0, none⟩) l.length cap)) M) := KY.out.turn hk OF.out (fun b hb => by simp at hb; rcases hb with h | h; exact .inl h; exact .inr (.inl h)) PM.out BKM.out (BSM.out.congr (fun y => by
      rw [hP]
      simp
      intro h1 e
      exact hx (e ▸ h1))) ⟨by have := bd0.1; simp at this; omega, fun y hy => bd0.2 y (List.mem_append_left _ hy)⟩ (Nat.le_refl _) (by rw [HV.out]; exact .inl rfl)
  clear BKM BSM PM OM BK2 BS2 PB2 XC2 XD2
  have z0 := two_c0 XM.out
  have z1 := two_c1 XM.out
  have u0 := two_c0 XN.out
  have u1 := two_c1 XN.out
  have g0 := frozen_of (j := 0) XN.out
  have g1 := frozen_of (j := 1) XN.out
  have hLw : ∀ j b, j < len → (updL L k (.slice (some ⟨lb, 0, none⟩) l.length cap) j).ownBlock = some b → b ≠ N := fun j b hj hb => by
    have hlt : ∀ i, i < len → (L i).ownBlock = some b → b < w.heap.size := fun i hi hb2 => (h.out.lst i hi).lt' hb2
    unfold updL at hb
    by_cases e : j = k
    · rw [if_pos e] at hb
      have := hlt k hk (by rw [HV.out]; exact hb)
      omega
    · rw [if_neg e] at hb
      have := hlt j hj hb
      omega
  have ON : Hid (Only [N] wm ((wm.setCell ⟨N, 0, none⟩ (.int .i64 x.1)).setCell ⟨N, 1, none⟩ (.int .i64 x.2))) := (Only.of_set (by simp) _).trans (Only.of_set (by simp) _)
  have KZ := Lib.hid (KF.out.aside XN.out ON.out hLw)
  have XZ : Hid (Two5 ((wm.setCell ⟨N, 0, none⟩ (.int .i64 x.1)).setCell ⟨N, 1, none⟩ (.int .i64 x.2)) N 32 x.1 x.2) := set_of (set_of XN.out _) _
  go_wp2_with fail
  have r0 := two_c0 XZ.out
  have r1 := two_c1 XZ.out
  exact bodyPost_ret (v := .tuple #[.agg #[.int .i64 x.1, .int .i64 x.2], .bool true]) (by simp [results, Tryd.results14, go_sem, r0, r1]) rfl ⟨rfl, _, KZ.out, ((Only.of_below (by rw [hN]; exact BY.out)).trans OF.out).trans' ON.out (by intro j hj; simp at hj; right; omega), by rw [HV.out]; rfl⟩
end Go.Proofs.YtehmeccjgjhidaaDoor
