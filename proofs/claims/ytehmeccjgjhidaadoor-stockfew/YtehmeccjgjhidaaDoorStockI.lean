/-
  The walk of takeOut.
-/
import Derived.Test.YtehmeccjgjhidaaDoorStockH
namespace Go.Proofs.YtehmeccjgjhidaaDoor
open Go.RowKit Go.Maps Go.Sort

set_option maxRecDepth 20000 in
set_option maxHeartbeats 8000000 in
theorem takeOut_any (sb clb pb : Nat) (W S B T : Int) (len : Nat) (f : Nat → Int) (n : Nat) (P : Nat → List (Int × Int)) (L : Nat → Value) (M : Nat → Nat) (k sp : Nat) (s : Int) (w : World) (h : Hid (Stk w sb clb pb W S B T len f n P L M)) (hk : k < len) (hsp : Hid (In1 w sp s)) (nd : Hid ((P k).Nodup)) (few : (P k).length ≤ 1048576) :
    Calls Tryd.prog 20 #[.pointer (some ⟨pb, k * 2, none⟩), .func (.func 21) #[] #[.pointer (some ⟨sp, 0, none⟩)]] w fun e w' => ∃ v1 v2, e = .returned v1 ∧ BkRow w' v1 (goes s (P k)) ∧ Stk w' sb clb pb W S B T len f n (updP P k (stays s (P k))) (updL L k v2) M ∧ Only [pb, M k] w w' ∧ In1 w' sp s ∧ (∀ b, v1.ownBlock = some b → w.heap.size ≤ b) ∧ ∀ b, v2.ownBlock = some b → w.heap.size ≤ b := by
  have T0 : Hid (Tk w w sb clb pb W S B T len f n P L M k sp s (.slice none 0 0) (.slice none 0 0) (0)) := ⟨hsp.out, h.out.pil, h.out.lst k hk, (h.out.set k hk).congr (fun y => by simp [mapAt, stays]), ORow.nil w, ORow.nil w, (fun b hb => by rcases hb with hb | hb <;> cases hb), (fun b hb => by cases hb), Only.refl _ _⟩
  have LL : Hid (∀ b, (L k).ownBlock = some b → b < w.heap.size) := Lib.hid (fun b hb => (h.out.lst k hk).lt' hb)
  have LT : Hid (sp < w.heap.size ∧ pb < w.heap.size ∧ M k < w.heap.size) := Lib.hid ⟨heap_lt hsp.out, heap_lt h.out.pil, (h.out.set k hk).lt⟩
  obtain ⟨p0, _⟩ := h.out.cell hk
  obtain ⟨la, lc, hv⟩ := ORow.form (h.out.lst k hk)
  rw [hv] at p0
  have HV := Lib.hid hv
  clear hv
  go_enter Tryd.func20, Tryd.ntmps20
  go_wp2_with fail
  clear p0
  go_loopw [5, 6, 14] (fun u5 u6 u14 wr => ∃ i : Nat, i ≤ (P k).length ∧ u14 = .int .i64 (i : Nat) ∧ Hid (Tk w wr sb clb pb W S B T len f n P L M k sp s (u5) (u6) (i))) (fun _ _ u14 _ => (P k).length - (intOf u14).toNat)
  case atStart => exact ⟨0, by omega, rfl, T0⟩
  case round =>
    obtain ⟨i, hi, rfl, T1⟩ := hrel
    by_cases hlt : i < (P k).length
    · have l3 : (i : Int) < ((P k).length : Int) := by omega
      obtain ⟨x, hx⟩ : ∃ x, (P k)[i]? = some x := ⟨_, List.getElem?_eq_getElem hlt⟩
      obtain ⟨lb, cap, hv2, hcell, _⟩ := ORow.at bkEnc T1.out.row hx
      rw [HV.out] at hv2
      simp only [Value.slice.injEq, true_and] at hv2
      obtain ⟨rfl, rfl⟩ := hv2
      have y0 : wr.cell? ⟨lb, i * 2, none⟩ = some (.int .i64 x.1) := hcell 0 _ rfl
      have y1 : wr.cell? ⟨lb, i * 2 + 1, none⟩ = some (.int .i64 x.2) := hcell 1 _ rfl
      have HX := Lib.hid hx
      clear hx hcell
      have bb := box1 wr (.cells #[.int .i64 x.1, .int .i64 x.2] 32)
      have XB : Hid (Two5 (wr.alloc (.cells #[.int .i64 x.1, .int .i64 x.2] 32)) wr.heap.size 32 x.1 x.2) := Two5.new wr _ _ _
      have T2 := Lib.hid (T1.out.next bb)
      have FB : Hid (∀ b, u5.ownBlock = some b → b ≠ wr.heap.size) := Lib.hid (fun b hb => by have := T1.out.ou.lt' hb; omega)
      clear bb T1
      go_upto_region 5 with fail
      clear y0 y1
      generalize wr.alloc (.cells #[.int .i64 x.1, .int .i64 x.2] 32) = w2 at *
      generalize wr.heap.size = MB at *
      have x0 := two_c0 XB.out
      have x1 := two_c1 XB.out
      have CL := Lib.hid (of_super x s sp w2 (Lib.hid T2.out.sp))
      go_wp2_with fail
      refine CL.out.mono ?_
      rintro e w3 ⟨rfl, hb⟩
      have T3 := Lib.hid (T2.out.next hb)
      have XC := Lib.hid (XB.out.next hb)
      clear hb CL T2 XB x0 x1
      have bq := box1 w3 (.cells #[.int .i64 x.1, .int .i64 x.2] 32)
      have T4 := Lib.hid (T3.out.next bq)
      have hvq : Hid ((w3.alloc (.cells #[.int .i64 x.1, .int .i64 x.2] 32)).heap[w3.heap.size]? = some (.cells (bkE x).toArray 32 (0, 0))) := heap_new w3 _
      have XD := Lib.hid (XC.out.next bq)
      have x0 := two_c0 XC.out
      have x1 := two_c1 XC.out
      clear bq T3
      by_cases hs : (x.1 == s) = true
      · obtain ⟨o', w5, hrun, g1, g2, g3⟩ := T4.out.go1 HX.out hvq.out few 25
        have HR := Lib.hid hrun
        have G1 := Lib.hid g1
        have G2 := Lib.hid g2
        have G3 := Lib.hid g3
        have HS := Lib.hid hs
        clear hrun g1 g2 g3
        go_upto_region 7 with (at_builtin; refine wpList_append_by rfl _ _ 25 25 rfl u5 (.slice (some ⟨w3.heap.size, 0, none⟩) 1 1) (by rfl) (by rfl) HR.out ?_)
        clear x0 x1 XC HR hs
        generalize w3.alloc (.cells #[.int .i64 x.1, .int .i64 x.2] 32) = w4 at *
        have nf : ∀ b, b < w.heap.size → b ∉ u5.ownBlock.toList := fun b hb hm => by
          simp at hm
          have := T4.out.far b (.inl hm)
          omega
        have XE : Hid (Two5 w5 MB 32 x.1 x.2) := G2.out.at XD.out (fun hm => by simp at hm; exact FB.out _ hm rfl)
        have PE : Hid (w5.heap[pb]? = some (.cells (pilesOf L M len).toArray 53 (0, 0))) := G2.out.at T4.out.pil (nf _ LT.out.2.1)
        have BE : Hid (BSet w5 (M k) n (mapAt s (P k) i)) := T4.out.set.stay G2.out (nf _ LT.out.2.2)
        have cm : w5.cell? ⟨pb, k * 2 + 1, none⟩ = some (.map (some (M k))) := by
          have := (piles_at (L := L) (M := M) hk).2
          rw [cell_of PE.out]
          simpa using this
        refine wp_region_noPanic ?_
        refine wp_region_held_drew (S := fun w' => Two5 w' MB 32 x.1 x.2 ∧ w'.cell? ⟨pb, k * 2 + 1, none⟩ = some (.map (some (M k)))) (by kernel_rfl) (⟨XE.out, cm⟩) (fun hHeld => ?_)
        have DR := (Below.refl w5.heap.size w5).drew
        have PE2 : Hid (w5.drew.heap[pb]? = some (.cells (pilesOf L M len).toArray 53 (0, 0))) := PE.out
        have BE2 := Lib.hid (BE.out.next DR)
        have XE2 : Hid (Two5 w5.drew MB 32 x.1 x.2) := XE.out
        have G12 : Hid (BkRow w5.drew o' _) := ORow.next G1.out DR
        have G22 := Lib.hid (G2.out.trans (Only.of_below DR))
        clear DR PE BE XE cm G1 G2
        generalize w5.drew = z5 at *
        refine wpAnyH_take (i := 0) (v := .pointer (some ⟨pb, k * 2, none⟩)) rfl (by kernel_rfl) (by kernel_rfl) (by kernel_rfl) (fun _ _ _ h => h) (Or.inl ⟨by rfl, fun w hSw => by obtain ⟨s1, s2⟩ := hSw; have b0 := two_c0 s1; have b1 := two_c1 s1; go_simp⟩) (by assumption) ?_
        change wpAnyH _ _ _ _ _ _ _ (Act.put _ (some 25) _) _
        simp only [Act.put, List.setIfInBounds_toArray, List.set_cons_zero, List.set_cons_succ]
        refine wpAnyH_take (i := 1) (v := .pointer (some ⟨pb, k * 2, none⟩)) rfl (by kernel_rfl) (by kernel_rfl) (by kernel_rfl) (fun _ _ _ h => h) (Or.inl ⟨by rfl, fun w hSw => by obtain ⟨s1, s2⟩ := hSw; have b0 := two_c0 s1; have b1 := two_c1 s1; go_simp⟩) (by assumption) ?_
        change wpAnyH _ _ _ _ _ _ _ (Act.put _ (some 26) _) _
        simp only [Act.put, List.setIfInBounds_toArray, List.set_cons_zero, List.set_cons_succ]
        refine wpAnyH_take (i := 2) (v := .pointer (some ⟨pb, k * 2 + 1, none⟩)) rfl (by kernel_rfl) (by kernel_rfl) (by kernel_rfl) (fun _ _ _ h => h) (Or.inl ⟨by rfl, fun w hSw => by obtain ⟨s1, s2⟩ := hSw; have b0 := two_c0 s1; have b1 := two_c1 s1; go_simp⟩) (by assumption) ?_
        change wpAnyH _ _ _ _ _ _ _ (Act.put _ (some 27) _) _
        simp only [Act.put, List.setIfInBounds_toArray, List.set_cons_zero, List.set_cons_succ]
        refine wpAnyH_take (i := 3) (v := .map (some (M k))) rfl (by kernel_rfl) (by kernel_rfl) (by kernel_rfl) (fun _ _ _ h => h) (Or.inl ⟨by rfl, fun w hSw => by obtain ⟨s1, s2⟩ := hSw; have b0 := two_c0 s1; have b1 := two_c1 s1; go_simp⟩) (by assumption) ?_
        change wpAnyH _ _ _ _ _ _ _ (Act.put _ (some 28) _) _
        simp only [Act.put, List.setIfInBounds_toArray, List.set_cons_zero, List.set_cons_succ]
        refine wpAnyH_take (i := 4) (v := .agg #[.int .i64 x.1, .int .i64 x.2]) rfl (by kernel_rfl) (by kernel_rfl) (by kernel_rfl) (fun _ _ _ h => h) (Or.inl ⟨by rfl, fun w hSw => by obtain ⟨s1, s2⟩ := hSw; have b0 := two_c0 s1; have b1 := two_c1 s1; go_simp⟩) (by assumption) ?_
        change wpAnyH _ _ _ _ _ _ _ (Act.put _ (some 29) _) _
        simp only [Act.put, List.setIfInBounds_toArray, List.set_cons_zero, List.set_cons_succ]
        refine wpAnyH_ready (rs := [5]) (by kernel_rfl) (by simp) ?_
        refine AllReadyH.cons rfl (fun K hK => ?_) AllReadyH.nil
        obtain ⟨wm, hrunm, m1, m2⟩ := BE2.out.del (x := x) ((h.out.bd k hk).2 x (List.mem_of_getElem? HX.out)) 0
        unfold bkV at hrunm
        have OM : Hid (Only [M k] z5 wm) := Only.of_grown m2 (fun b hb => by simp at hb ⊢; exact hb.symm)
        have TZ := Lib.hid (T4.out.go2 HX.out HS.out nd.out LL.out LT.out.1 LT.out.2.1 LT.out.2.2 G12.out G22.out G3.out m1 OM.out)
        have XM : Hid (Two5 wm MB 32 x.1 x.2) := OM.out.at XE2.out (by
          simp
          intro e
          obtain ⟨es, c, hm2⟩ := BE2.out.obj
          rw [← e] at hm2
          have := hm2.symm.trans XE2.out
          simp at this)
        have cm3 := (TZ.out.cells hk).2
        go_simp
        refine hK.out _ _ (⟨XM.out, cm3⟩) (fun hHeldM => ?_)
        clear hK K hrunm m1 m2
        refine ⟨by kernel_rfl, ?_⟩
        refine NoPanic.normal ?_
        clear cm3 XM OM G12 G22 G3 XE2 BE2 PE2 XD T4 hvq
        go_wp2_with fail
        go_roundw
        case rel => exact ⟨i + 1, by omega, by push_cast; rfl, TZ⟩
        case measure => simp [intOf]; omega
      · have hs0 : (x.1 == s) = false := by simpa using hs
        obtain ⟨r', w5, hrun, g1, g2⟩ := T4.out.keep HX.out hs0 hvq.out few (fun _ => LL.out) LT.out.1 LT.out.2.1 LT.out.2.2 25
        have HR := Lib.hid hrun
        have TZ := Lib.hid g1
        clear hrun g1 g2 hs
        go_wp2_with (at_builtin; refine wpList_append_by rfl _ _ 25 25 rfl u6 (.slice (some ⟨w3.heap.size, 0, none⟩) 1 1) (by rfl) (by rfl) HR.out ?_)
        go_roundw
        case rel => exact ⟨i + 1, by omega, by push_cast; rfl, TZ⟩
        case measure => simp [intOf]; omega
    · obtain rfl : i = (P k).length := by omega
      have c0 := (T1.out.cells hk).1
      have fp := frozen_of (j := k * 2) T1.out.pil
      obtain ⟨ra, rc, hre⟩ := ORow.form T1.out.re
      obtain ⟨rn, hrn⟩ : ∃ rn, (stays s ((P k).take (P k).length)).length = rn := ⟨_, rfl⟩
      rw [hrn] at hre
      subst hre
      have S1 : Hid (Only [pb] wr (wr.setCell ⟨pb, k * 2, none⟩ (.slice ra rn rc))) := Only.of_set (by simp) _
      have PB : Hid ((wr.setCell ⟨pb, k * 2, none⟩ (.slice ra rn rc)).heap[pb]? = some (.cells (pilesOf (updL L k (.slice ra rn rc)) M len).toArray 53 (0, 0))) := by
        show _ = _
        rw [set_of T1.out.pil, ← piles_set hk]
        simp
      have no : ∀ v (l : List (Int × Int)), BkRow wr v l → ∀ b, v.ownBlock = some b → b ∉ [pb] := fun v l hr b hb => by
        obtain ⟨cur, hc⟩ := hr.obj hb
        simp
        intro e
        rw [e] at hc
        have := hc.symm.trans T1.out.pil
        simp at this
      have e1 : mapAt s (P k) (P k).length = stays s (P k) := by simp [mapAt]
      have R1 := ORow.stay T1.out.re S1.out (no _ _ T1.out.re)
      have R2 := ORow.stay T1.out.ou S1.out (no _ _ T1.out.ou)
      rw [List.take_length] at R1 R2
      have RR1 : Hid (BkRow _ _ _) := R1
      have RR2 : Hid (BkRow _ _ _) := R2
      have BS := T1.out.set
      rw [e1] at BS
      have BS1 := BS.stay S1.out (by
        simp
        intro e
        obtain ⟨es, c, hm2⟩ := BS.obj
        rw [e] at hm2
        have := hm2.symm.trans T1.out.pil
        simp at this)
      have SP : Hid (In1 (wr.setCell ⟨pb, k * 2, none⟩ (.slice ra rn rc)) sp s) := S1.out.at T1.out.sp (by
        simp
        intro e
        have := T1.out.sp
        rw [e] at this
        have := this.symm.trans T1.out.pil
        simp at this)
      have OF : Hid (Only [pb, M k] w (wr.setCell ⟨pb, k * 2, none⟩ (.slice ra rn rc))) := (T1.out.on.mono (fun b hb => .inl (by simp at hb ⊢; exact .inr hb))).trans (S1.out.mono (fun b hb => .inl (by simp at hb ⊢; exact .inl hb)))
      have KF : Hid (Stk _ sb clb pb W S B T len f n (updP P k (stays s (P k))) (updL L k (.slice ra rn rc)) M) := h.out.turn hk OF.out (fun b hb => by simp at hb; rcases hb with h | h; exact .inl h; exact .inr (.inl h)) PB.out RR1.out BS1 ⟨Nat.le_trans (stays_len _ _) (h.out.bd k hk).1, fun y hy => (h.out.bd k hk).2 y (List.mem_filter.1 hy).1⟩ (Nat.le_refl _) (by
        cases e : (Value.slice ra rn rc).ownBlock with
        | none => exact .inr (.inl rfl)
        | some b => exact .inr (.inr ⟨b, rfl, T1.out.far b (.inr e)⟩))
      have FR : Hid (∀ b, u5.ownBlock = some b → w.heap.size ≤ b) := Lib.hid (fun b hb => T1.out.far b (.inl hb))
      have FR2 : Hid (∀ b, (Value.slice ra rn rc).ownBlock = some b → w.heap.size ≤ b) := Lib.hid (fun b hb => T1.out.far b (.inr hb))
      clear R1 R2 BS BS1 S1 PB T1 hrn
      go_wp2_with fail
      go_ret
      exact ⟨_, _, rfl, RR2.out, KF.out, OF.out, SP.out, FR.out, FR2.out⟩
end Go.Proofs.YtehmeccjgjhidaaDoor
