/-
  What is in a stack of some room behind some, and what it answers, as the document has it (chandleryref09.Pile).
-/
import Derived.Test.YtmdjhjfmnkileaaObjM
import Derived.Test.YtmdjhjfmnkileaaAppM
import Derived.Test.YtmdjhjfmnkileaaAppS
import Derived.Deep.CutRange
import Derived.Deep.DeepCutAuto
namespace Go.Proofs.Ytmdjhjfmnkileaa
open Go.RowKit Go.Sort

theorem RowO.cellB {w : World} {len j : Nat} {f : Nat → Op2} {A B b off : Nat} (h : RowO w (some ⟨b, off, none⟩) len f) (hj : j < len) (hz : f j = (A, B)) : w.cell? ⟨b, off + j * 2 + 1, none⟩ = some (.int .u64 (B : Int)) := by
  obtain ⟨b', off', e, _, c1⟩ := h.at hj
  cases e
  rw [hz] at c1
  exact c1
theorem WRw.drop {w : World} {b n cap : Nat} {P : List Nat} (h : WRw w (.slice (some ⟨b, 0, none⟩) n cap) P) : WRw w (.slice (some ⟨b, 0, none⟩) (n - 1) cap) P.dropLast := by
  rcases h.2 with ⟨h1, _⟩ | ⟨g, c, cur, h1, h2, h3, h4, h5, h6, h7⟩
  · cases h1
  · cases h1
    refine ⟨by simp [vals], .inr ⟨b, cap, cur, by simp, Nat.zero_le _, h3, by simp; omega, h5, h6, ?_⟩⟩
    rw [Nat.mul_one] at h7 ⊢
    have : (cur.toList.take P.length).take (P.length - 1) = vals P.dropLast := by
      rw [h7]; simp [vals, List.dropLast_eq_take, List.map_take]
    rw [List.take_take] at this
    rw [← this, List.length_dropLast]
    congr 1; omega
set_option maxRecDepth 20000 in
set_option maxHeartbeats 8000000 in
theorem pile_lo (r : Int) (R : Nat) (a : Option Addr) (len cap : Nat) (f : Nat → Op2) (w : World) (h : Hid (RowO w a len f)) (hl : len ≤ 200) (hR : Hid (R = roomN r)) (hr : ¬ 1000 < r) :
    Calls Try.prog 13 #[.int .i64 r, .slice a len cap] w fun e w' => ∃ va vp, e = .returned (.tuple #[va, vp]) ∧ OpRow w' va (repA (some r) (opsOf f len)) ∧ WRw w' vp (pileN R (opsOf f len)) ∧ Below w.heap.size w w' := by
  have hRm : R ≤ 1000 := by rw [hR.out]; exact room_le r
  have HRN : Hid (∀ n : Nat, ((n : Int) < r ↔ n < R)) := fun n => by rw [hR.out]; unfold roomN; split <;> (try split) <;> omega
  have dr : decide (1000 < r) = false := by simpa using hr
  have O0 := Lib.hid (OpRow.empty w)
  have Y0 := box1 w (.cells #[] 40)
  have W0 := Lib.hid (WRw.empty (w.alloc (.cells #[] 40)))
  have Y1 := box1 (w.alloc (.cells #[] 40)) (.cells #[] 29)
  have O1 := Lib.hid (ORow.next O0.out Y1)
  have X1 := Lib.hid (below_two Y0 Y1)
  have sz : (w.alloc (.cells #[] 40)).heap.size = w.heap.size + 1 := by simp
  rw [sz] at W0
  clear Y0 Y1 O0 sz
  go_enter Try.func13, Try.ntmps13
  go_wp2_with fail
  generalize (w.alloc (.cells #[] 40)).alloc (.cells #[] 29) = w1 at *
  generalize hN : w.heap.size = N at *
  go_loopw [6, 7, 8] (fun v p u wr => ∃ (k : Nat), k ≤ len ∧ u = .int .i64 k ∧ OpRow wr v (repA (some r) (opsOf f k)) ∧ WRw wr p (pileN R (opsOf f k)) ∧ ∃ bo, v.ownBlock = some bo ∧ N ≤ bo ∧ (∀ q, p.ownBlock = some q → N ≤ q ∧ q ≠ bo) ∧ Below N w wr) (fun _ _ u _ => len - (intOf u).toNat)
  case atStart => exact ⟨0, Nat.zero_le _, rfl, O1.out, W0.out, N, rfl, Nat.le_refl _, (fun q hq => by simp [Value.ownBlock] at hq; omega), X1.out⟩
  case round =>
    obtain ⟨k, hk, rfl, hA, hP, bo, hob, hNo, hq, hb⟩ := hrel
    have AR := Lib.hid hA
    have PR := Lib.hid hP
    have OB := Lib.hid hob
    have QR := Lib.hid hq
    have XR := Lib.hid hb
    clear hA hP hob hq hb O1 W0 X1
    by_cases hl2 : k < len
    · have l3 : (k : Int) < (len : Int) := by omega
      have OKK := Lib.hid (okay_ops h.out k)
      have RN : Hid ((repA (some r) (opsOf f k)).length = k) := by show _ = _; rw [repA_len, opsOf_len]
      have OS := Lib.hid (opsOf_succ f k)
      have RT := Lib.hid (rep_pileA r (opsOf f k) (f k))
      have RS := Lib.hid (pileN_snoc R (opsOf f k) (f k))
      have PL := pileN_len R (opsOf f k)
      rw [← hR.out] at RT
      have PLT : Hid (∀ x ∈ pileN R (opsOf f k), x < 18446744073709551616) := fun x hx => repW_lt (some r) _ OKK.out x (by rw [rep_pile, ← hR.out]; simp [stkL, hx])
      rcases hz : f k with ⟨A, B⟩
      rw [hz] at OS RT RS
      have HZ := Lib.hid hz
      clear hz OKK
      obtain ⟨bb, off, rfl, q0, q1⟩ := (h.out.next (by rw [hN]; exact XR.out)).at hl2
      rw [HZ.out] at q0 q1
      generalize repA (some r) (opsOf f k) = aa at *
      generalize pileN R (opsOf f k) = P at *
      have lbo : bo < wr.heap.size := ORow.lt AR.out OB.out
      obtain ⟨a7, c7, R7a, R7b⟩ := WRw.row PR.out PLT.out
      have HNIL : Hid (a7 = none → P.length = 0 ∧ c7 = 0) := fun e => by
        subst e
        rcases PR.out.cases with ⟨h1, h2⟩ | ⟨b, cp, cur, h1, _⟩
        · rw [R7a] at h1; simp at h1; exact ⟨by rw [h2]; rfl, h1.2⟩
        · rw [R7a] at h1; simp at h1
      have LP : Hid (listOf (fun j => P.getD j 0) P.length = P) := listOf_getD P
      have lPQ : Hid (∀ q, u7.ownBlock = some q → q < wr.heap.size) := fun q hq => WRw.lt PR.out hq
      subst R7a
      have Y5 := box1 wr (.cells #[.int .u64 0, .int .u64 0] 40)
      have G0 := Lib.hid Y5
      have BX := Lib.hid (heap_new wr (.cells #[.int .u64 0, .int .u64 0] 40))
      have R7 := Lib.hid (R7b.next Y5)
      have PR5 := Lib.hid (WRw.stay PR.out (Only.of_below (l := []) Y5) (by simp))
      have HLD : Hid (∀ wx, Below (wr.alloc (.cells #[.int .u64 0, .int .u64 0] 40)).heap.size (wr.alloc (.cells #[.int .u64 0, .int .u64 0] 40)) wx → wx.cell? ⟨bb, off + k * 2 + 1, none⟩ = some (.int .u64 (B : Int))) := fun wx hx =>
        (((h.out.next (by rw [hN]; exact XR.out)).next Y5).next hx).cellB hl2 HZ.out
      have q0' : (wr.alloc (.cells #[.int .u64 0, .int .u64 0] 40)).cell? ⟨bb, off + k * 2, none⟩ = some (.int .u64 (A : Int)) := by
        have hlt : bb < wr.heap.size := World.block_lt_of_cell? wr ⟨bb, off + k * 2, none⟩ q0
        exact (Y5.cell (p := ⟨bb, off + k * 2, none⟩) hlt).trans q0
      have lba : (wr.alloc (.cells #[.int .u64 0, .int .u64 0] 40)).heap.size = wr.heap.size + 1 := by simp
      clear Y5 R7b q0 q1
      by_cases k1 : A = 1 ∧ P.length < R
      · obtain ⟨rfl, k2⟩ := k1
        have d2 : (P.length : Int) < r := (HRN.out _).2 k2
        have EP : pileApp R P (1, B) = (P ++ [B], (1, 0)) := by unfold pileApp; rw [if_pos ⟨rfl, k2⟩]
        go_wp2_with fail
        generalize wr.alloc (.cells #[.int .u64 0, .int .u64 0] 40) = w5 at *
        generalize hba : wr.heap.size = ba at *
        rw [← hba] at G0
        refine wp_region_noPanic ?_
        refine wp_region_held_drew (S := fun w' => w'.cell? ⟨bb, off + k * 2 + 1, none⟩ = some (.int .u64 (B : Int))) (by kernel_rfl) (HLD.out _ ((Below.refl _ _).drew)) (fun hHeld => ?_)
        have Gw6 : Hid (Below w5.heap.size w5 w5.drew) := (Below.refl _ _).drew
        generalize w5.drew = w6 at *
        refine wpAnyH_take (i := 1) (v := .slice a7 P.length c7) rfl (by kernel_rfl) (by kernel_rfl) (by kernel_rfl) (fun _ _ _ h => h) (Or.inl ⟨by rfl, fun w hSw => by go_simp⟩) (by assumption) ?_
        change wpAnyH _ _ _ _ _ _ _ (Act.put _ (some 36) _) _
        simp only [Act.put, List.setIfInBounds_toArray, List.set_cons_zero, List.set_cons_succ]
        refine wpAnyH_take (i := 3) (v := .slice (some ⟨bb, off, none⟩) len cap) rfl (by kernel_rfl) (by kernel_rfl) (by kernel_rfl) (fun _ _ _ h => h) (Or.inl ⟨by rfl, fun w hSw => by go_simp⟩) (by assumption) ?_
        change wpAnyH _ _ _ _ _ _ _ (Act.put _ (some 38) _) _
        simp only [Act.put, List.setIfInBounds_toArray, List.set_cons_zero, List.set_cons_succ]
        refine wpAnyH_take (i := 4) (v := .int .i64 (k : Int)) rfl (by kernel_rfl) (by kernel_rfl) (by kernel_rfl) (fun _ _ _ h => h) (Or.inl ⟨by rfl, fun w hSw => by go_simp⟩) (by assumption) ?_
        change wpAnyH _ _ _ _ _ _ _ (Act.put _ (some 39) _) _
        simp only [Act.put, List.setIfInBounds_toArray, List.set_cons_zero, List.set_cons_succ]
        refine wpAnyH_take (i := 5) (v := .pointer (some ⟨bb, off + k * 2, none⟩)) rfl (by kernel_rfl) (by kernel_rfl) (by kernel_rfl) (fun _ _ _ h => h) (Or.inl ⟨by rfl, fun w hSw => by go_simp⟩) (by assumption) ?_
        change wpAnyH _ _ _ _ _ _ _ (Act.put _ (some 40) _) _
        simp only [Act.put, List.setIfInBounds_toArray, List.set_cons_zero, List.set_cons_succ]
        refine wpAnyH_take (i := 6) (v := .pointer (some ⟨bb, off + k * 2 + 1, none⟩)) rfl (by kernel_rfl) (by kernel_rfl) (by kernel_rfl) (fun _ _ _ h => h) (Or.inl ⟨by rfl, fun w hSw => by go_simp⟩) (by assumption) ?_
        change wpAnyH _ _ _ _ _ _ _ (Act.put _ (some 41) _) _
        simp only [Act.put, List.setIfInBounds_toArray, List.set_cons_zero, List.set_cons_succ]
        refine wpAnyH_take (i := 7) (v := .int .u64 (B : Int)) rfl (by kernel_rfl) (by kernel_rfl) (by kernel_rfl) (fun _ _ _ h => h) (Or.inl ⟨by rfl, fun w hSw => by go_simp⟩) (by assumption) ?_
        change wpAnyH _ _ _ _ _ _ _ (Act.put _ (some 42) _) _
        simp only [Act.put, List.setIfInBounds_toArray, List.set_cons_zero, List.set_cons_succ]
        clear hHeld
        refine wpAnyH_ready (rs := [0, 8]) (by kernel_rfl) (by simp) ?_
        refine AllReadyH.cons rfl (fun K hK => ?_) (AllReadyH.cons rfl (fun K hK => ?_) AllReadyH.nil)
        · have Y := box1 w6 (.cells #[] 29)
          have Gw7 := Lib.hid (below_two Gw6.out Y)
          have EW := Lib.hid (WRw.empty w6)
          have lE : w5.heap.size ≤ w6.heap.size := Gw6.out.size
          clear Y
          go_simp
          refine hK.out _ _ (HLD.out _ Gw7.out) (fun hHeld => ?_)
          clear hK K hHeld
          generalize w6.alloc (.cells #[] 29) = w7 at *
          generalize w6.heap.size = eb at *
          refine wpAnyH_ready (rs := [2, 8]) (by kernel_rfl) (by simp) ?_
          refine AllReadyH.cons rfl (fun K hK => ?_) (AllReadyH.cons rfl (fun K hK => ?_) AllReadyH.nil)
          · obtain ⟨v6, w9, hrun, p1, p2, p3⟩ := app_manyW (c := c7) EW.out (R7.out.next Gw7.out) HNIL.out (by simp; omega) 24
            rw [List.nil_append, LP.out] at p1
            have CW := Lib.hid p1
            have Gw9 := Lib.hid (app_below' Gw7.out Gw7.out.size p2 (fun k hk => by simp [Value.ownBlock] at hk; omega))
            have Q6 : Hid (∀ q, v6.ownBlock = some q → w5.heap.size ≤ q) := by
              intro q hq
              have := Gw7.out.size
              rcases p3 with e | e
              · rw [e] at hq; simp [Value.ownBlock] at hq; omega
              · rw [e] at hq; simp at hq; omega
            refine step_append_by rfl _ _ 24 24 rfl _ _ (by simp [Act.eval]) (by simp [Act.eval]) hrun ?_
            refine hK.out _ _ (HLD.out _ Gw9.out) (fun hHeld => ?_)
            clear hK K hrun p1 p2 p3 hHeld
            change wpAnyH _ _ _ _ _ _ _ (Act.put _ (some 37) _) _
            simp only [Act.put, List.setIfInBounds_toArray, List.set_cons_zero, List.set_cons_succ]
            refine wpAnyH_ready (rs := [8]) (by kernel_rfl) (by simp) ?_
            refine AllReadyH.cons rfl (fun K hK => ?_) AllReadyH.nil
            have Y := box1 w9 (.cells #[.int .u64 (B : Int)] 29)
            have Gw10 := Lib.hid (below_two Gw9.out Y)
            have V1 := Lib.hid (heap_new w9 (.cells #[.int .u64 (B : Int)] 29))
            have lV : w5.heap.size ≤ w9.heap.size := Gw9.out.size
            have CWX := Lib.hid (WRw.stay CW.out (Only.of_below (l := []) Y) (by simp))
            have QQ : Hid (∀ q, v6.ownBlock = some q → q ≠ w9.heap.size) := fun q hq => by have := WRw.lt CW.out hq; omega
            clear Y
            go_simp
            refine hK.out _ _ (HLD.out _ Gw10.out) (fun hHeld => ?_)
            clear hK K hHeld
            generalize w9.alloc (.cells #[.int .u64 (B : Int)] 29) = w10 at *
            generalize w9.heap.size = vb at *
            refine wpAnyH_ready (rs := [9]) (by kernel_rfl) (by simp) ?_
            refine AllReadyH.cons rfl (fun K hK => ?_) AllReadyH.nil
            obtain ⟨v8, w8, hrun, p1, p2, p3⟩ := app_one CWX.out V1.out (by omega) 24
            have PW := Lib.hid p1
            have G8 := Lib.hid (app_below' Gw10.out Gw10.out.size p2 (fun k hk => Q6.out k hk))
            have Q8 : Hid (∀ q, v8.ownBlock = some q → w5.heap.size ≤ q) := by
              intro q hq
              have := Gw10.out.size
              rcases p3 with e | e
              · rw [e] at hq; exact Q6.out q hq
              · rw [e] at hq; simp at hq; omega
            refine step_append_by rfl _ _ 24 24 rfl _ _ (by simp [Act.eval]) (by simp [Act.eval]) hrun ?_
            refine hK.out _ _ (HLD.out _ G8.out) (fun hHeld => ?_)
            clear hK K hrun p1 p2 p3
            change wpAnyH _ _ _ _ _ _ _ (Act.put _ (some 44) _) _
            simp only [Act.put, List.setIfInBounds_toArray, List.set_cons_zero, List.set_cons_succ]
            refine wpAnyH_take (i := 10) (v := v8) rfl (by kernel_rfl) (by kernel_rfl) (by kernel_rfl) (fun _ _ _ h => h) (Or.inl ⟨by rfl, fun w hSw => by go_simp⟩) (by assumption) ?_
            change wpAnyH _ _ _ _ _ _ _ (Act.put _ (some 7) _) _
            simp only [Act.put, List.setIfInBounds_toArray, List.set_cons_zero, List.set_cons_succ]
            refine wpAnyH_done (by kernel_rfl) ?_ _
            refine NoPanic.normal ?_
            clear hHeld
            have BY : Hid (w8.heap[ba]? = _) := (G8.out.block _ (heap_lt BX.out)).trans BX.out
            have f0 := frozen_of (j := 0) BY.out
            have f1 := frozen_of (j := 1) BY.out
            have g0 : w8.cell? ⟨ba, 0, none⟩ = some (.int .u64 0) := by rw [cell_of BY.out]; rfl
            have g1 : w8.cell? ⟨ba, 1, none⟩ = some (.int .u64 0) := by rw [cell_of BY.out]; rfl
            have BZ : Hid (((w8.setCell ⟨ba, 0, none⟩ (.int .u64 1)).setCell ⟨ba, 1, none⟩ (.int .u64 0)).heap[ba]? = some (.cells #[.int .u64 1, .int .u64 0] 40 (0, 0))) := by show _ = _; rw [set_of (set_of BY.out _) _]; rfl
            have GZ : Hid (Below wr.heap.size wr ((w8.setCell ⟨ba, 0, none⟩ (.int .u64 1)).setCell ⟨ba, 1, none⟩ (.int .u64 0))) := ((G0.out.trans (G8.out.mono G0.out.size)).setCell (p := ⟨ba, 0, none⟩) (by show _ ≤ ba; omega) _).setCell (p := ⟨ba, 1, none⟩) (by show _ ≤ ba; omega) _
            have l5 := heap_lt BX.out
            have PZ := Lib.hid (WRw.stay PW.out ((Only.of_set (l := [ba]) (g := ba) (j := 0) (by simp) (.int .u64 1)).trans (Only.of_set (l := [ba]) (g := ba) (j := 1) (by simp) (.int .u64 0))) (fun q hq => by have := Q8.out q hq; simp; omega))
            have QZ : Hid (∀ q, v8.ownBlock = some q → N ≤ q ∧ q ≠ bo) := fun q hq => by have := Q8.out q hq; omega
            obtain ⟨a8, c8, e8⟩ := PW.out.form
            rw [show (P ++ [B]).length = P.length + 1 by simp] at e8
            subst e8
            go_upto_region 16 with fail
            generalize (w8.setCell ⟨ba, 0, none⟩ (.int .u64 1)).setCell ⟨ba, 1, none⟩ (.int .u64 0) = wz at *
            have AZ := Lib.hid (ORow.next AR.out GZ.out)
            have y0 : wz.cell? ⟨ba, 0, none⟩ = some (.int .u64 (1 : Int)) := by rw [cell_of BZ.out]; rfl
            have y1 : wz.cell? ⟨ba, 1, none⟩ = some (.int .u64 (0 : Int)) := by rw [cell_of BZ.out]; rfl
            obtain ⟨n1, n2, n3⟩ := one_new wz (.cells #[.int .u64 (1 : Int), .int .u64 (0 : Int)] 40)
            have A7 := ORow.next AZ.out n2
            have lwr := XR.out.size
            have XZ := Lib.hid (XR.out.trans (GZ.out.mono (by omega)))
            have XZ7 := Lib.hid (XZ.out.trans (n2.mono (by have := XZ.out.size; omega)))
            have hsz := XZ.out.size
            have P7 := Lib.hid (WRw.stay PZ.out (Only.of_below (l := []) n2) (by simp))
            obtain ⟨v', w14, hrun, p1, p2, p3, bq, cq, rfl⟩ := OpRow.app (x := (1, 0)) A7 n1 (by rw [RN.out]; omega) 22
            have A14 := Lib.hid p1
            rw [OB.out] at p2 p3
            have X14 := Lib.hid (app_below' XZ7.out (by have := XZ7.out.size; omega) p2 (fun k hk => by simp at hk; omega))
            have P14 := Lib.hid (WRw.stay P7.out (Only.of_grown (l := [bo]) p2 (fun k hk => by simp at hk; simp [hk])) (fun k hk => by have := QZ.out k hk; simp; omega))
            have QO14 : Hid (N ≤ bq ∧ (∀ q, (Value.slice a8 (P.length + 1) c8).ownBlock = some q → N ≤ q ∧ q ≠ bq)) := by
              rcases p3 with e | e
              · have e1 : bq = bo := by simpa [Value.ownBlock] using e
                exact ⟨by omega, fun q hq => by have := QZ.out q hq; omega⟩
              · have e' : bq = wz.heap.size + 1 := by simpa [Value.ownBlock] using e
                exact ⟨by omega, fun q hq => by have := QZ.out q hq; have := WRw.lt PZ.out hq; omega⟩
            clear p1 p2 p3 n1 n2 n3 A7
            go_wp2_with (at_builtin; refine wpList_append_by rfl _ _ 22 22 rfl u6 (.slice (some ⟨wz.heap.size, 0, none⟩) 1 1) (by rfl) (by rfl) hrun ?_)
            go_wp2_with fail
            go_roundw
            case rel => exact ⟨k + 1, by omega, by go_num, by rw [OS.out, RT.out, EP]; exact A14.out, by rw [OS.out, RS.out, EP]; exact P14.out, bq, rfl, QO14.out.1, QO14.out.2, X14.out⟩
            case measure => simp [intOf]; omega
          · have Y := box1 w7 (.cells #[.int .u64 (B : Int)] 29)
            have Gw9 := Lib.hid (below_two Gw7.out Y)
            have V1 := Lib.hid (heap_new w7 (.cells #[.int .u64 (B : Int)] 29))
            have lV : w5.heap.size ≤ w7.heap.size := Gw7.out.size
            have EWX := Lib.hid (WRw.stay EW.out (Only.of_below (l := []) Y) (by simp))
            have ltW := WRw.lt (k := eb) EW.out rfl
            clear Y
            go_simp
            refine hK.out _ _ (HLD.out _ Gw9.out) (fun hHeld => ?_)
            clear hK K hHeld
            generalize w7.alloc (.cells #[.int .u64 (B : Int)] 29) = w9 at *
            generalize w7.heap.size = vb at *
            refine wpAnyH_ready (rs := [2]) (by kernel_rfl) (by simp) ?_
            refine AllReadyH.cons rfl (fun K hK => ?_) AllReadyH.nil
            obtain ⟨v6, w10, hrun, p1, p2, p3⟩ := app_manyW (c := c7) EWX.out (R7.out.next Gw9.out) HNIL.out (by simp; omega) 24
            rw [List.nil_append, LP.out] at p1
            have CW := Lib.hid p1
            have Gw10 := Lib.hid (app_below' Gw9.out Gw9.out.size p2 (fun k hk => by simp [Value.ownBlock] at hk; omega))
            have V1X : Hid (w10.heap[vb]? = _) := (p2.block _ (heap_lt V1.out) (by simp [Value.ownBlock]; omega)).trans V1.out
            have QQ : Hid (∀ q, v6.ownBlock = some q → q ≠ vb) := by
              intro q hq
              have := heap_lt V1.out
              rcases p3 with e | e
              · rw [e] at hq; simp [Value.ownBlock] at hq; omega
              · rw [e] at hq; simp at hq; omega
            have Q6 : Hid (∀ q, v6.ownBlock = some q → w5.heap.size ≤ q) := by
              intro q hq
              have := Gw9.out.size
              rcases p3 with e | e
              · rw [e] at hq; simp [Value.ownBlock] at hq; omega
              · rw [e] at hq; simp at hq; omega
            refine step_append_by rfl _ _ 24 24 rfl _ _ (by simp [Act.eval]) (by simp [Act.eval]) hrun ?_
            refine hK.out _ _ (HLD.out _ Gw10.out) (fun hHeld => ?_)
            clear hK K hrun p1 p2 p3 hHeld
            change wpAnyH _ _ _ _ _ _ _ (Act.put _ (some 37) _) _
            simp only [Act.put, List.setIfInBounds_toArray, List.set_cons_zero, List.set_cons_succ]
            refine wpAnyH_ready (rs := [9]) (by kernel_rfl) (by simp) ?_
            refine AllReadyH.cons rfl (fun K hK => ?_) AllReadyH.nil
            obtain ⟨v8, w8, hrun, p1, p2, p3⟩ := app_one CW.out V1X.out (by omega) 24
            have PW := Lib.hid p1
            have G8 := Lib.hid (app_below' Gw10.out Gw10.out.size p2 (fun k hk => Q6.out k hk))
            have Q8 : Hid (∀ q, v8.ownBlock = some q → w5.heap.size ≤ q) := by
              intro q hq
              have := Gw10.out.size
              rcases p3 with e | e
              · rw [e] at hq; exact Q6.out q hq
              · rw [e] at hq; simp at hq; omega
            refine step_append_by rfl _ _ 24 24 rfl _ _ (by simp [Act.eval]) (by simp [Act.eval]) hrun ?_
            refine hK.out _ _ (HLD.out _ G8.out) (fun hHeld => ?_)
            clear hK K hrun p1 p2 p3
            change wpAnyH _ _ _ _ _ _ _ (Act.put _ (some 44) _) _
            simp only [Act.put, List.setIfInBounds_toArray, List.set_cons_zero, List.set_cons_succ]
            refine wpAnyH_take (i := 10) (v := v8) rfl (by kernel_rfl) (by kernel_rfl) (by kernel_rfl) (fun _ _ _ h => h) (Or.inl ⟨by rfl, fun w hSw => by go_simp⟩) (by assumption) ?_
            change wpAnyH _ _ _ _ _ _ _ (Act.put _ (some 7) _) _
            simp only [Act.put, List.setIfInBounds_toArray, List.set_cons_zero, List.set_cons_succ]
            refine wpAnyH_done (by kernel_rfl) ?_ _
            refine NoPanic.normal ?_
            clear hHeld
            have BY : Hid (w8.heap[ba]? = _) := (G8.out.block _ (heap_lt BX.out)).trans BX.out
            have f0 := frozen_of (j := 0) BY.out
            have f1 := frozen_of (j := 1) BY.out
            have g0 : w8.cell? ⟨ba, 0, none⟩ = some (.int .u64 0) := by rw [cell_of BY.out]; rfl
            have g1 : w8.cell? ⟨ba, 1, none⟩ = some (.int .u64 0) := by rw [cell_of BY.out]; rfl
            have BZ : Hid (((w8.setCell ⟨ba, 0, none⟩ (.int .u64 1)).setCell ⟨ba, 1, none⟩ (.int .u64 0)).heap[ba]? = some (.cells #[.int .u64 1, .int .u64 0] 40 (0, 0))) := by show _ = _; rw [set_of (set_of BY.out _) _]; rfl
            have GZ : Hid (Below wr.heap.size wr ((w8.setCell ⟨ba, 0, none⟩ (.int .u64 1)).setCell ⟨ba, 1, none⟩ (.int .u64 0))) := ((G0.out.trans (G8.out.mono G0.out.size)).setCell (p := ⟨ba, 0, none⟩) (by show _ ≤ ba; omega) _).setCell (p := ⟨ba, 1, none⟩) (by show _ ≤ ba; omega) _
            have l5 := heap_lt BX.out
            have PZ := Lib.hid (WRw.stay PW.out ((Only.of_set (l := [ba]) (g := ba) (j := 0) (by simp) (.int .u64 1)).trans (Only.of_set (l := [ba]) (g := ba) (j := 1) (by simp) (.int .u64 0))) (fun q hq => by have := Q8.out q hq; simp; omega))
            have QZ : Hid (∀ q, v8.ownBlock = some q → N ≤ q ∧ q ≠ bo) := fun q hq => by have := Q8.out q hq; omega
            obtain ⟨a8, c8, e8⟩ := PW.out.form
            rw [show (P ++ [B]).length = P.length + 1 by simp] at e8
            subst e8
            go_upto_region 16 with fail
            generalize (w8.setCell ⟨ba, 0, none⟩ (.int .u64 1)).setCell ⟨ba, 1, none⟩ (.int .u64 0) = wz at *
            have AZ := Lib.hid (ORow.next AR.out GZ.out)
            have y0 : wz.cell? ⟨ba, 0, none⟩ = some (.int .u64 (1 : Int)) := by rw [cell_of BZ.out]; rfl
            have y1 : wz.cell? ⟨ba, 1, none⟩ = some (.int .u64 (0 : Int)) := by rw [cell_of BZ.out]; rfl
            obtain ⟨n1, n2, n3⟩ := one_new wz (.cells #[.int .u64 (1 : Int), .int .u64 (0 : Int)] 40)
            have A7 := ORow.next AZ.out n2
            have lwr := XR.out.size
            have XZ := Lib.hid (XR.out.trans (GZ.out.mono (by omega)))
            have XZ7 := Lib.hid (XZ.out.trans (n2.mono (by have := XZ.out.size; omega)))
            have hsz := XZ.out.size
            have P7 := Lib.hid (WRw.stay PZ.out (Only.of_below (l := []) n2) (by simp))
            obtain ⟨v', w14, hrun, p1, p2, p3, bq, cq, rfl⟩ := OpRow.app (x := (1, 0)) A7 n1 (by rw [RN.out]; omega) 22
            have A14 := Lib.hid p1
            rw [OB.out] at p2 p3
            have X14 := Lib.hid (app_below' XZ7.out (by have := XZ7.out.size; omega) p2 (fun k hk => by simp at hk; omega))
            have P14 := Lib.hid (WRw.stay P7.out (Only.of_grown (l := [bo]) p2 (fun k hk => by simp at hk; simp [hk])) (fun k hk => by have := QZ.out k hk; simp; omega))
            have QO14 : Hid (N ≤ bq ∧ (∀ q, (Value.slice a8 (P.length + 1) c8).ownBlock = some q → N ≤ q ∧ q ≠ bq)) := by
              rcases p3 with e | e
              · have e1 : bq = bo := by simpa [Value.ownBlock] using e
                exact ⟨by omega, fun q hq => by have := QZ.out q hq; omega⟩
              · have e' : bq = wz.heap.size + 1 := by simpa [Value.ownBlock] using e
                exact ⟨by omega, fun q hq => by have := QZ.out q hq; have := WRw.lt PZ.out hq; omega⟩
            clear p1 p2 p3 n1 n2 n3 A7
            go_wp2_with (at_builtin; refine wpList_append_by rfl _ _ 22 22 rfl u6 (.slice (some ⟨wz.heap.size, 0, none⟩) 1 1) (by rfl) (by rfl) hrun ?_)
            go_wp2_with fail
            go_roundw
            case rel => exact ⟨k + 1, by omega, by go_num, by rw [OS.out, RT.out, EP]; exact A14.out, by rw [OS.out, RS.out, EP]; exact P14.out, bq, rfl, QO14.out.1, QO14.out.2, X14.out⟩
            case measure => simp [intOf]; omega
        · have Y := box1 w6 (.cells #[.int .u64 (B : Int)] 29)
          have Gw7 := Lib.hid (below_two Gw6.out Y)
          have V1 := Lib.hid (heap_new w6 (.cells #[.int .u64 (B : Int)] 29))
          have lV : w5.heap.size ≤ w6.heap.size := Gw6.out.size
          clear Y
          go_simp
          refine hK.out _ _ (HLD.out _ Gw7.out) (fun hHeld => ?_)
          clear hK K hHeld
          generalize w6.alloc (.cells #[.int .u64 (B : Int)] 29) = w7 at *
          generalize w6.heap.size = vb at *
          refine wpAnyH_ready (rs := [0]) (by kernel_rfl) (by simp) ?_
          refine AllReadyH.cons rfl (fun K hK => ?_) AllReadyH.nil
          have Y := box1 w7 (.cells #[] 29)
          have Gw9 := Lib.hid (below_two Gw7.out Y)
          have EW := Lib.hid (WRw.empty w7)
          have lE : w5.heap.size ≤ w7.heap.size := Gw7.out.size
          have V1Y : Hid (_ = _) := (Y.block _ (heap_lt V1.out)).trans V1.out
          have lV1 := heap_lt V1.out
          clear Y V1
          have V1 := V1Y
          clear V1Y
          go_simp
          refine hK.out _ _ (HLD.out _ Gw9.out) (fun hHeld => ?_)
          clear hK K hHeld
          generalize w7.alloc (.cells #[] 29) = w9 at *
          generalize w7.heap.size = eb at *
          refine wpAnyH_ready (rs := [2]) (by kernel_rfl) (by simp) ?_
          refine AllReadyH.cons rfl (fun K hK => ?_) AllReadyH.nil
          obtain ⟨v6, w10, hrun, p1, p2, p3⟩ := app_manyW (c := c7) EW.out (R7.out.next Gw9.out) HNIL.out (by simp; omega) 24
          rw [List.nil_append, LP.out] at p1
          have CW := Lib.hid p1
          have Gw10 := Lib.hid (app_below' Gw9.out Gw9.out.size p2 (fun k hk => by simp [Value.ownBlock] at hk; omega))
          have V1X : Hid (w10.heap[vb]? = _) := (p2.block _ (heap_lt V1.out) (by simp [Value.ownBlock]; omega)).trans V1.out
          have QQ : Hid (∀ q, v6.ownBlock = some q → q ≠ vb) := by
            intro q hq
            have := heap_lt V1.out
            rcases p3 with e | e
            · rw [e] at hq; simp [Value.ownBlock] at hq; omega
            · rw [e] at hq; simp at hq; omega
          have Q6 : Hid (∀ q, v6.ownBlock = some q → w5.heap.size ≤ q) := by
            intro q hq
            have := Gw9.out.size
            rcases p3 with e | e
            · rw [e] at hq; simp [Value.ownBlock] at hq; omega
            · rw [e] at hq; simp at hq; omega
          refine step_append_by rfl _ _ 24 24 rfl _ _ (by simp [Act.eval]) (by simp [Act.eval]) hrun ?_
          refine hK.out _ _ (HLD.out _ Gw10.out) (fun hHeld => ?_)
          clear hK K hrun p1 p2 p3 hHeld
          change wpAnyH _ _ _ _ _ _ _ (Act.put _ (some 37) _) _
          simp only [Act.put, List.setIfInBounds_toArray, List.set_cons_zero, List.set_cons_succ]
          refine wpAnyH_ready (rs := [9]) (by kernel_rfl) (by simp) ?_
          refine AllReadyH.cons rfl (fun K hK => ?_) AllReadyH.nil
          obtain ⟨v8, w8, hrun, p1, p2, p3⟩ := app_one CW.out V1X.out (by omega) 24
          have PW := Lib.hid p1
          have G8 := Lib.hid (app_below' Gw10.out Gw10.out.size p2 (fun k hk => Q6.out k hk))
          have Q8 : Hid (∀ q, v8.ownBlock = some q → w5.heap.size ≤ q) := by
            intro q hq
            have := Gw10.out.size
            rcases p3 with e | e
            · rw [e] at hq; exact Q6.out q hq
            · rw [e] at hq; simp at hq; omega
          refine step_append_by rfl _ _ 24 24 rfl _ _ (by simp [Act.eval]) (by simp [Act.eval]) hrun ?_
          refine hK.out _ _ (HLD.out _ G8.out) (fun hHeld => ?_)
          clear hK K hrun p1 p2 p3
          change wpAnyH _ _ _ _ _ _ _ (Act.put _ (some 44) _) _
          simp only [Act.put, List.setIfInBounds_toArray, List.set_cons_zero, List.set_cons_succ]
          refine wpAnyH_take (i := 10) (v := v8) rfl (by kernel_rfl) (by kernel_rfl) (by kernel_rfl) (fun _ _ _ h => h) (Or.inl ⟨by rfl, fun w hSw => by go_simp⟩) (by assumption) ?_
          change wpAnyH _ _ _ _ _ _ _ (Act.put _ (some 7) _) _
          simp only [Act.put, List.setIfInBounds_toArray, List.set_cons_zero, List.set_cons_succ]
          refine wpAnyH_done (by kernel_rfl) ?_ _
          refine NoPanic.normal ?_
          clear hHeld
          have BY : Hid (w8.heap[ba]? = _) := (G8.out.block _ (heap_lt BX.out)).trans BX.out
          have f0 := frozen_of (j := 0) BY.out
          have f1 := frozen_of (j := 1) BY.out
          have g0 : w8.cell? ⟨ba, 0, none⟩ = some (.int .u64 0) := by rw [cell_of BY.out]; rfl
          have g1 : w8.cell? ⟨ba, 1, none⟩ = some (.int .u64 0) := by rw [cell_of BY.out]; rfl
          have BZ : Hid (((w8.setCell ⟨ba, 0, none⟩ (.int .u64 1)).setCell ⟨ba, 1, none⟩ (.int .u64 0)).heap[ba]? = some (.cells #[.int .u64 1, .int .u64 0] 40 (0, 0))) := by show _ = _; rw [set_of (set_of BY.out _) _]; rfl
          have GZ : Hid (Below wr.heap.size wr ((w8.setCell ⟨ba, 0, none⟩ (.int .u64 1)).setCell ⟨ba, 1, none⟩ (.int .u64 0))) := ((G0.out.trans (G8.out.mono G0.out.size)).setCell (p := ⟨ba, 0, none⟩) (by show _ ≤ ba; omega) _).setCell (p := ⟨ba, 1, none⟩) (by show _ ≤ ba; omega) _
          have l5 := heap_lt BX.out
          have PZ := Lib.hid (WRw.stay PW.out ((Only.of_set (l := [ba]) (g := ba) (j := 0) (by simp) (.int .u64 1)).trans (Only.of_set (l := [ba]) (g := ba) (j := 1) (by simp) (.int .u64 0))) (fun q hq => by have := Q8.out q hq; simp; omega))
          have QZ : Hid (∀ q, v8.ownBlock = some q → N ≤ q ∧ q ≠ bo) := fun q hq => by have := Q8.out q hq; omega
          obtain ⟨a8, c8, e8⟩ := PW.out.form
          rw [show (P ++ [B]).length = P.length + 1 by simp] at e8
          subst e8
          go_upto_region 16 with fail
          generalize (w8.setCell ⟨ba, 0, none⟩ (.int .u64 1)).setCell ⟨ba, 1, none⟩ (.int .u64 0) = wz at *
          have AZ := Lib.hid (ORow.next AR.out GZ.out)
          have y0 : wz.cell? ⟨ba, 0, none⟩ = some (.int .u64 (1 : Int)) := by rw [cell_of BZ.out]; rfl
          have y1 : wz.cell? ⟨ba, 1, none⟩ = some (.int .u64 (0 : Int)) := by rw [cell_of BZ.out]; rfl
          obtain ⟨n1, n2, n3⟩ := one_new wz (.cells #[.int .u64 (1 : Int), .int .u64 (0 : Int)] 40)
          have A7 := ORow.next AZ.out n2
          have lwr := XR.out.size
          have XZ := Lib.hid (XR.out.trans (GZ.out.mono (by omega)))
          have XZ7 := Lib.hid (XZ.out.trans (n2.mono (by have := XZ.out.size; omega)))
          have hsz := XZ.out.size
          have P7 := Lib.hid (WRw.stay PZ.out (Only.of_below (l := []) n2) (by simp))
          obtain ⟨v', w14, hrun, p1, p2, p3, bq, cq, rfl⟩ := OpRow.app (x := (1, 0)) A7 n1 (by rw [RN.out]; omega) 22
          have A14 := Lib.hid p1
          rw [OB.out] at p2 p3
          have X14 := Lib.hid (app_below' XZ7.out (by have := XZ7.out.size; omega) p2 (fun k hk => by simp at hk; omega))
          have P14 := Lib.hid (WRw.stay P7.out (Only.of_grown (l := [bo]) p2 (fun k hk => by simp at hk; simp [hk])) (fun k hk => by have := QZ.out k hk; simp; omega))
          have QO14 : Hid (N ≤ bq ∧ (∀ q, (Value.slice a8 (P.length + 1) c8).ownBlock = some q → N ≤ q ∧ q ≠ bq)) := by
            rcases p3 with e | e
            · have e1 : bq = bo := by simpa [Value.ownBlock] using e
              exact ⟨by omega, fun q hq => by have := QZ.out q hq; omega⟩
            · have e' : bq = wz.heap.size + 1 := by simpa [Value.ownBlock] using e
              exact ⟨by omega, fun q hq => by have := QZ.out q hq; have := WRw.lt PZ.out hq; omega⟩
          clear p1 p2 p3 n1 n2 n3 A7
          go_wp2_with (at_builtin; refine wpList_append_by rfl _ _ 22 22 rfl u6 (.slice (some ⟨wz.heap.size, 0, none⟩) 1 1) (by rfl) (by rfl) hrun ?_)
          go_wp2_with fail
          go_roundw
          case rel => exact ⟨k + 1, by omega, by go_num, by rw [OS.out, RT.out, EP]; exact A14.out, by rw [OS.out, RS.out, EP]; exact P14.out, bq, rfl, QO14.out.1, QO14.out.2, X14.out⟩
          case measure => simp [intOf]; omega
      · by_cases k2 : A = 2 ∧ 0 < P.length
        · obtain ⟨rfl, k2⟩ := k2
          have d2 : (0 : Int) < (P.length : Int) := by omega
          have d2' : 0 < P.length := k2
          have EP : pileApp R P (2, B) = (P.dropLast, (1, P.getD (P.length - 1) 0)) := by unfold pileApp; rw [if_neg (by simp), if_pos ⟨rfl, k2⟩]
          have lastc := R7.out.at (show P.length - 1 < P.length by omega)
          have hlen : Hid (P.dropLast.length = P.length - 1) := by show _ = _; simp
          have PD0 := PR5.out
          obtain ⟨b7, o7, rfl, c7c⟩ := lastc
          obtain ⟨rfl, hb7⟩ : o7 = 0 ∧ (⟨b7, o7, none⟩ : Addr) = ⟨b7, o7, none⟩ := by
            rcases PR5.out.cases with ⟨h1, _⟩ | ⟨b, cp, cur, h1, _⟩
            · cases h1
            · simp at h1; exact ⟨h1.1.2, rfl⟩
          have PD := Lib.hid (WRw.drop PD0)
          clear hb7 PD0
          generalize hm : P.getD (P.length - 1) 0 = top at *
          obtain ⟨m1, hm1⟩ : ∃ m1, P.length = m1 + 1 := ⟨P.length - 1, by omega⟩
          have hmm : P.length - 1 = m1 := by omega
          have E1 : (P.length : Int) - 1 = (m1 : Int) := by omega
          rw [hmm] at c7c PD hlen
          have lm : m1 < P.length := by omega
          have lcap : m1 ≤ c7 := by
            rcases PD.out.cases with ⟨h1, _⟩ | ⟨b, cp, cur, h1, _, h4, _⟩
            · cases h1
            · simp at h1; rw [← h1.2.2] at h4; rw [hlen.out] at h4; exact h4
          rw [Nat.zero_add] at c7c
          have f0 := frozen_of (j := 0) BX.out
          have f1 := frozen_of (j := 1) BX.out
          have g0 : (wr.alloc (.cells #[.int .u64 0, .int .u64 0] 40)).cell? ⟨wr.heap.size, 0, none⟩ = some (.int .u64 0) := by rw [cell_of BX.out]; rfl
          have g1 : (wr.alloc (.cells #[.int .u64 0, .int .u64 0] 40)).cell? ⟨wr.heap.size, 1, none⟩ = some (.int .u64 0) := by rw [cell_of BX.out]; rfl
          have HM1 := Lib.hid hm1
          clear hm1 hmm hm
          go_upto_region 16 with fail
          have lb7 : b7 < wr.heap.size := lPQ.out b7 rfl
          have PD2 := Lib.hid (WRw.drop PR.out)
          have hm8 : P.length - 1 = m1 := by have := HM1.out; omega
          rw [hm8] at PD2
          clear hm8
          have BZ := Lib.hid (heap_new wr (.cells #[.int .u64 1, .int .u64 (top : Int)] 40))
          have GZ := Lib.hid (box1 wr (.cells #[.int .u64 1, .int .u64 (top : Int)] 40))
          have PZ := Lib.hid (WRw.stay PD2.out (Only.of_below (l := []) GZ.out) (by simp))
          have QZ : Hid (∀ q, (Value.slice (some ⟨b7, 0, none⟩) m1 c7).ownBlock = some q → N ≤ q ∧ q ≠ bo) := fun q hq => QR.out q hq
          generalize wr.alloc (.cells #[.int .u64 1, .int .u64 (top : Int)] 40) = wz at *
          have LBA := Lib.hid lba
          clear lba
          generalize hba : wr.heap.size = ba at *
          have GZ2 : Hid (Below wr.heap.size wr wz) := by rw [hba]; exact GZ.out
          clear GZ
          have GZ := GZ2
          clear GZ2
          have AZ := Lib.hid (ORow.next AR.out GZ.out)
          have y0 : wz.cell? ⟨ba, 0, none⟩ = some (.int .u64 (1 : Int)) := by rw [cell_of BZ.out]; rfl
          have y1 : wz.cell? ⟨ba, 1, none⟩ = some (.int .u64 (top : Int)) := by rw [cell_of BZ.out]; rfl
          obtain ⟨n1, n2, n3⟩ := one_new wz (.cells #[.int .u64 (1 : Int), .int .u64 (top : Int)] 40)
          have A7 := ORow.next AZ.out n2
          have lwr := XR.out.size
          have XZ := Lib.hid (XR.out.trans (GZ.out.mono (by omega)))
          have XZ7 := Lib.hid (XZ.out.trans (n2.mono (by have := XZ.out.size; omega)))
          have hsz := XZ.out.size
          have P7 := Lib.hid (WRw.stay PZ.out (Only.of_below (l := []) n2) (by simp))
          obtain ⟨v', w14, hrun, p1, p2, p3, bq, cq, rfl⟩ := OpRow.app (x := (1, top)) A7 n1 (by rw [RN.out]; omega) 22
          have A14 := Lib.hid p1
          rw [OB.out] at p2 p3
          have X14 := Lib.hid (app_below' XZ7.out (by have := XZ7.out.size; omega) p2 (fun k hk => by simp at hk; omega))
          have P14 := Lib.hid (WRw.stay P7.out (Only.of_grown (l := [bo]) p2 (fun k hk => by simp at hk; simp [hk])) (fun k hk => by have := QZ.out k hk; simp; omega))
          have QO14 : Hid (N ≤ bq ∧ (∀ q, (Value.slice (some ⟨b7, 0, none⟩) m1 c7).ownBlock = some q → N ≤ q ∧ q ≠ bq)) := by
            rcases p3 with e | e
            · have e1 : bq = bo := by simpa [Value.ownBlock] using e
              exact ⟨by omega, fun q hq => by have := QZ.out q hq; omega⟩
            · have e' : bq = wz.heap.size + 1 := by simpa [Value.ownBlock] using e
              exact ⟨by omega, fun q hq => by have := QZ.out q hq; have := WRw.lt PZ.out hq; omega⟩
          clear p1 p2 p3 n1 n2 n3 A7
          go_wp2_with (at_builtin; refine wpList_append_by rfl _ _ 22 22 rfl u6 (.slice (some ⟨wz.heap.size, 0, none⟩) 1 1) (by rfl) (by rfl) hrun ?_)
          go_wp2_with fail
          go_roundw
          case rel => exact ⟨k + 1, by omega, by go_num, by rw [OS.out, RT.out, EP]; exact A14.out, by rw [OS.out, RS.out, EP]; exact P14.out, bq, rfl, QO14.out.1, QO14.out.2, X14.out⟩
          case measure => simp [intOf]; omega
        · have EP : pileApp R P (A, B) = (P, (0, 0)) := by unfold pileApp; rw [if_neg k1, if_neg k2]
          have BZ : Hid (_ = some (Obj.cells #[.int .u64 0, .int .u64 0] 40 (0, 0))) := BX.out
          have GZ := G0
          have PZ := PR5
          have QZ : Hid (∀ q, (Value.slice a7 P.length c7).ownBlock = some q → N ≤ q ∧ q ≠ bo) := QR.out
          by_cases kA : A = 1
          · subst kA
            have k3 : ¬ P.length < R := fun e => k1 ⟨rfl, e⟩
            have d2 : ¬ (P.length : Int) < r := fun e => k3 ((HRN.out _).1 e)
            have GZ' : Hid (Below wr.heap.size wr _) := GZ.out
            have lwz := heap_lt BX.out
            go_upto_region 16 with fail
            have BAo : Hid (wr.heap.size = wr.heap.size) := rfl
            generalize wr.alloc (.cells #[.int .u64 0, .int .u64 0] 40) = wz at *
            have LBA := Lib.hid lba
            clear lba
            generalize hba : wr.heap.size = ba at *
            have GZ2 : Hid (Below wr.heap.size wr wz) := by rw [hba]; exact GZ.out
            clear GZ GZ'
            have GZ := GZ2
            clear GZ2
            have AZ := Lib.hid (ORow.next AR.out GZ.out)
            have y0 : wz.cell? ⟨ba, 0, none⟩ = some (.int .u64 (0 : Int)) := by rw [cell_of BZ.out]; rfl
            have y1 : wz.cell? ⟨ba, 1, none⟩ = some (.int .u64 (0 : Int)) := by rw [cell_of BZ.out]; rfl
            obtain ⟨n1, n2, n3⟩ := one_new wz (.cells #[.int .u64 (0 : Int), .int .u64 (0 : Int)] 40)
            have A7 := ORow.next AZ.out n2
            have lwr := XR.out.size
            have XZ := Lib.hid (XR.out.trans (GZ.out.mono (by omega)))
            have XZ7 := Lib.hid (XZ.out.trans (n2.mono (by have := XZ.out.size; omega)))
            have hsz := XZ.out.size
            have P7 := Lib.hid (WRw.stay PZ.out (Only.of_below (l := []) n2) (by simp))
            obtain ⟨v', w14, hrun, p1, p2, p3, bq, cq, rfl⟩ := OpRow.app (x := (0, 0)) A7 n1 (by rw [RN.out]; omega) 22
            have A14 := Lib.hid p1
            rw [OB.out] at p2 p3
            have X14 := Lib.hid (app_below' XZ7.out (by have := XZ7.out.size; omega) p2 (fun k hk => by simp at hk; omega))
            have P14 := Lib.hid (WRw.stay P7.out (Only.of_grown (l := [bo]) p2 (fun k hk => by simp at hk; simp [hk])) (fun k hk => by have := QZ.out k hk; simp; omega))
            have QO14 : Hid (N ≤ bq ∧ (∀ q, (Value.slice a7 P.length c7).ownBlock = some q → N ≤ q ∧ q ≠ bq)) := by
              rcases p3 with e | e
              · have e1 : bq = bo := by simpa [Value.ownBlock] using e
                exact ⟨by omega, fun q hq => by have := QZ.out q hq; omega⟩
              · have e' : bq = wz.heap.size + 1 := by simpa [Value.ownBlock] using e
                exact ⟨by omega, fun q hq => by have := QZ.out q hq; have := WRw.lt PZ.out hq; omega⟩
            clear p1 p2 p3 n1 n2 n3 A7
            go_wp2_with (at_builtin; refine wpList_append_by rfl _ _ 22 22 rfl u6 (.slice (some ⟨wz.heap.size, 0, none⟩) 1 1) (by rfl) (by rfl) hrun ?_)
            go_wp2_with fail
            go_roundw
            case rel => exact ⟨k + 1, by omega, by go_num, by rw [OS.out, RT.out, EP]; exact A14.out, by rw [OS.out, RS.out, EP]; exact P14.out, bq, rfl, QO14.out.1, QO14.out.2, X14.out⟩
            case measure => simp [intOf]; omega
          · have kA1 : (A == 1) = false := by simpa using kA
            have kA2 : ((A : Int) == 1) = false := by simp; omega
            by_cases kB : A = 2
            · subst kB
              have k4 : ¬ 0 < P.length := fun e => k2 ⟨rfl, e⟩
              have d3 : ¬ (0 : Int) < (P.length : Int) := by omega
              clear k4
              have GZ' : Hid (Below wr.heap.size wr _) := GZ.out
              have lwz := heap_lt BX.out
              go_upto_region 16 with fail
              have BAo : Hid (wr.heap.size = wr.heap.size) := rfl
              generalize wr.alloc (.cells #[.int .u64 0, .int .u64 0] 40) = wz at *
              have LBA := Lib.hid lba
              clear lba
              generalize hba : wr.heap.size = ba at *
              have GZ2 : Hid (Below wr.heap.size wr wz) := by rw [hba]; exact GZ.out
              clear GZ GZ'
              have GZ := GZ2
              clear GZ2
              have AZ := Lib.hid (ORow.next AR.out GZ.out)
              have y0 : wz.cell? ⟨ba, 0, none⟩ = some (.int .u64 (0 : Int)) := by rw [cell_of BZ.out]; rfl
              have y1 : wz.cell? ⟨ba, 1, none⟩ = some (.int .u64 (0 : Int)) := by rw [cell_of BZ.out]; rfl
              obtain ⟨n1, n2, n3⟩ := one_new wz (.cells #[.int .u64 (0 : Int), .int .u64 (0 : Int)] 40)
              have A7 := ORow.next AZ.out n2
              have lwr := XR.out.size
              have XZ := Lib.hid (XR.out.trans (GZ.out.mono (by omega)))
              have XZ7 := Lib.hid (XZ.out.trans (n2.mono (by have := XZ.out.size; omega)))
              have hsz := XZ.out.size
              have P7 := Lib.hid (WRw.stay PZ.out (Only.of_below (l := []) n2) (by simp))
              obtain ⟨v', w14, hrun, p1, p2, p3, bq, cq, rfl⟩ := OpRow.app (x := (0, 0)) A7 n1 (by rw [RN.out]; omega) 22
              have A14 := Lib.hid p1
              rw [OB.out] at p2 p3
              have X14 := Lib.hid (app_below' XZ7.out (by have := XZ7.out.size; omega) p2 (fun k hk => by simp at hk; omega))
              have P14 := Lib.hid (WRw.stay P7.out (Only.of_grown (l := [bo]) p2 (fun k hk => by simp at hk; simp [hk])) (fun k hk => by have := QZ.out k hk; simp; omega))
              have QO14 : Hid (N ≤ bq ∧ (∀ q, (Value.slice a7 P.length c7).ownBlock = some q → N ≤ q ∧ q ≠ bq)) := by
                rcases p3 with e | e
                · have e1 : bq = bo := by simpa [Value.ownBlock] using e
                  exact ⟨by omega, fun q hq => by have := QZ.out q hq; omega⟩
                · have e' : bq = wz.heap.size + 1 := by simpa [Value.ownBlock] using e
                  exact ⟨by omega, fun q hq => by have := QZ.out q hq; have := WRw.lt PZ.out hq; omega⟩
              clear p1 p2 p3 n1 n2 n3 A7
              go_wp2_with (at_builtin; refine wpList_append_by rfl _ _ 22 22 rfl u6 (.slice (some ⟨wz.heap.size, 0, none⟩) 1 1) (by rfl) (by rfl) hrun ?_)
              go_wp2_with fail
              go_roundw
              case rel => exact ⟨k + 1, by omega, by go_num, by rw [OS.out, RT.out, EP]; exact A14.out, by rw [OS.out, RS.out, EP]; exact P14.out, bq, rfl, QO14.out.1, QO14.out.2, X14.out⟩
              case measure => simp [intOf]; omega
            · have kB1 : (A == 2) = false := by simpa using kB
              have kB2 : ((A : Int) == 2) = false := by simp; omega
              have GZ' : Hid (Below wr.heap.size wr _) := GZ.out
              have lwz := heap_lt BX.out
              go_upto_region 16 with fail
              have BAo : Hid (wr.heap.size = wr.heap.size) := rfl
              generalize wr.alloc (.cells #[.int .u64 0, .int .u64 0] 40) = wz at *
              have LBA := Lib.hid lba
              clear lba
              generalize hba : wr.heap.size = ba at *
              have GZ2 : Hid (Below wr.heap.size wr wz) := by rw [hba]; exact GZ.out
              clear GZ GZ'
              have GZ := GZ2
              clear GZ2
              have AZ := Lib.hid (ORow.next AR.out GZ.out)
              have y0 : wz.cell? ⟨ba, 0, none⟩ = some (.int .u64 (0 : Int)) := by rw [cell_of BZ.out]; rfl
              have y1 : wz.cell? ⟨ba, 1, none⟩ = some (.int .u64 (0 : Int)) := by rw [cell_of BZ.out]; rfl
              obtain ⟨n1, n2, n3⟩ := one_new wz (.cells #[.int .u64 (0 : Int), .int .u64 (0 : Int)] 40)
              have A7 := ORow.next AZ.out n2
              have lwr := XR.out.size
              have XZ := Lib.hid (XR.out.trans (GZ.out.mono (by omega)))
              have XZ7 := Lib.hid (XZ.out.trans (n2.mono (by have := XZ.out.size; omega)))
              have hsz := XZ.out.size
              have P7 := Lib.hid (WRw.stay PZ.out (Only.of_below (l := []) n2) (by simp))
              obtain ⟨v', w14, hrun, p1, p2, p3, bq, cq, rfl⟩ := OpRow.app (x := (0, 0)) A7 n1 (by rw [RN.out]; omega) 22
              have A14 := Lib.hid p1
              rw [OB.out] at p2 p3
              have X14 := Lib.hid (app_below' XZ7.out (by have := XZ7.out.size; omega) p2 (fun k hk => by simp at hk; omega))
              have P14 := Lib.hid (WRw.stay P7.out (Only.of_grown (l := [bo]) p2 (fun k hk => by simp at hk; simp [hk])) (fun k hk => by have := QZ.out k hk; simp; omega))
              have QO14 : Hid (N ≤ bq ∧ (∀ q, (Value.slice a7 P.length c7).ownBlock = some q → N ≤ q ∧ q ≠ bq)) := by
                rcases p3 with e | e
                · have e1 : bq = bo := by simpa [Value.ownBlock] using e
                  exact ⟨by omega, fun q hq => by have := QZ.out q hq; omega⟩
                · have e' : bq = wz.heap.size + 1 := by simpa [Value.ownBlock] using e
                  exact ⟨by omega, fun q hq => by have := QZ.out q hq; have := WRw.lt PZ.out hq; omega⟩
              clear p1 p2 p3 n1 n2 n3 A7
              go_wp2_with (at_builtin; refine wpList_append_by rfl _ _ 22 22 rfl u6 (.slice (some ⟨wz.heap.size, 0, none⟩) 1 1) (by rfl) (by rfl) hrun ?_)
              go_wp2_with fail
              go_roundw
              case rel => exact ⟨k + 1, by omega, by go_num, by rw [OS.out, RT.out, EP]; exact A14.out, by rw [OS.out, RS.out, EP]; exact P14.out, bq, rfl, QO14.out.1, QO14.out.2, X14.out⟩
              case measure => simp [intOf]; omega
    · obtain rfl : k = len := by omega
      go_wp2_with fail
      go_ret2
      exact ⟨_, _, rfl, AR.out, PR.out, by rw [hN]; exact XR.out⟩
set_option maxRecDepth 20000 in
set_option maxHeartbeats 8000000 in
theorem pile_hi (r : Int) (R : Nat) (a : Option Addr) (len cap : Nat) (f : Nat → Op2) (w : World) (h : Hid (RowO w a len f)) (hl : len ≤ 200) (hR : Hid (R = roomN r)) (hr : 1000 < r) :
    Calls Try.prog 13 #[.int .i64 r, .slice a len cap] w fun e w' => ∃ va vp, e = .returned (.tuple #[va, vp]) ∧ OpRow w' va (repA (some r) (opsOf f len)) ∧ WRw w' vp (pileN R (opsOf f len)) ∧ Below w.heap.size w w' := by
  have hRm : R ≤ 1000 := by rw [hR.out]; exact room_le r
  have HRN : Hid (∀ n : Nat, ((n : Int) < 1000 ↔ n < R)) := fun n => by rw [hR.out]; unfold roomN; split <;> (try split) <;> omega
  have dr : decide (1000 < r) = true := by simpa using hr
  have O0 := Lib.hid (OpRow.empty w)
  have Y0 := box1 w (.cells #[] 40)
  have W0 := Lib.hid (WRw.empty (w.alloc (.cells #[] 40)))
  have Y1 := box1 (w.alloc (.cells #[] 40)) (.cells #[] 29)
  have O1 := Lib.hid (ORow.next O0.out Y1)
  have X1 := Lib.hid (below_two Y0 Y1)
  have sz : (w.alloc (.cells #[] 40)).heap.size = w.heap.size + 1 := by simp
  rw [sz] at W0
  clear Y0 Y1 O0 sz
  go_enter Try.func13, Try.ntmps13
  go_wp2_with fail
  generalize (w.alloc (.cells #[] 40)).alloc (.cells #[] 29) = w1 at *
  generalize hN : w.heap.size = N at *
  go_loopw [6, 7, 8] (fun v p u wr => ∃ (k : Nat), k ≤ len ∧ u = .int .i64 k ∧ OpRow wr v (repA (some r) (opsOf f k)) ∧ WRw wr p (pileN R (opsOf f k)) ∧ ∃ bo, v.ownBlock = some bo ∧ N ≤ bo ∧ (∀ q, p.ownBlock = some q → N ≤ q ∧ q ≠ bo) ∧ Below N w wr) (fun _ _ u _ => len - (intOf u).toNat)
  case atStart => exact ⟨0, Nat.zero_le _, rfl, O1.out, W0.out, N, rfl, Nat.le_refl _, (fun q hq => by simp [Value.ownBlock] at hq; omega), X1.out⟩
  case round =>
    obtain ⟨k, hk, rfl, hA, hP, bo, hob, hNo, hq, hb⟩ := hrel
    have AR := Lib.hid hA
    have PR := Lib.hid hP
    have OB := Lib.hid hob
    have QR := Lib.hid hq
    have XR := Lib.hid hb
    clear hA hP hob hq hb O1 W0 X1
    by_cases hl2 : k < len
    · have l3 : (k : Int) < (len : Int) := by omega
      have OKK := Lib.hid (okay_ops h.out k)
      have RN : Hid ((repA (some r) (opsOf f k)).length = k) := by show _ = _; rw [repA_len, opsOf_len]
      have OS := Lib.hid (opsOf_succ f k)
      have RT := Lib.hid (rep_pileA r (opsOf f k) (f k))
      have RS := Lib.hid (pileN_snoc R (opsOf f k) (f k))
      have PL := pileN_len R (opsOf f k)
      rw [← hR.out] at RT
      have PLT : Hid (∀ x ∈ pileN R (opsOf f k), x < 18446744073709551616) := fun x hx => repW_lt (some r) _ OKK.out x (by rw [rep_pile, ← hR.out]; simp [stkL, hx])
      rcases hz : f k with ⟨A, B⟩
      rw [hz] at OS RT RS
      have HZ := Lib.hid hz
      clear hz OKK
      obtain ⟨bb, off, rfl, q0, q1⟩ := (h.out.next (by rw [hN]; exact XR.out)).at hl2
      rw [HZ.out] at q0 q1
      generalize repA (some r) (opsOf f k) = aa at *
      generalize pileN R (opsOf f k) = P at *
      have lbo : bo < wr.heap.size := ORow.lt AR.out OB.out
      obtain ⟨a7, c7, R7a, R7b⟩ := WRw.row PR.out PLT.out
      have HNIL : Hid (a7 = none → P.length = 0 ∧ c7 = 0) := fun e => by
        subst e
        rcases PR.out.cases with ⟨h1, h2⟩ | ⟨b, cp, cur, h1, _⟩
        · rw [R7a] at h1; simp at h1; exact ⟨by rw [h2]; rfl, h1.2⟩
        · rw [R7a] at h1; simp at h1
      have LP : Hid (listOf (fun j => P.getD j 0) P.length = P) := listOf_getD P
      have lPQ : Hid (∀ q, u7.ownBlock = some q → q < wr.heap.size) := fun q hq => WRw.lt PR.out hq
      subst R7a
      have Y5 := box1 wr (.cells #[.int .u64 0, .int .u64 0] 40)
      have G0 := Lib.hid Y5
      have BX := Lib.hid (heap_new wr (.cells #[.int .u64 0, .int .u64 0] 40))
      have R7 := Lib.hid (R7b.next Y5)
      have PR5 := Lib.hid (WRw.stay PR.out (Only.of_below (l := []) Y5) (by simp))
      have HLD : Hid (∀ wx, Below (wr.alloc (.cells #[.int .u64 0, .int .u64 0] 40)).heap.size (wr.alloc (.cells #[.int .u64 0, .int .u64 0] 40)) wx → wx.cell? ⟨bb, off + k * 2 + 1, none⟩ = some (.int .u64 (B : Int))) := fun wx hx =>
        (((h.out.next (by rw [hN]; exact XR.out)).next Y5).next hx).cellB hl2 HZ.out
      have q0' : (wr.alloc (.cells #[.int .u64 0, .int .u64 0] 40)).cell? ⟨bb, off + k * 2, none⟩ = some (.int .u64 (A : Int)) := by
        have hlt : bb < wr.heap.size := World.block_lt_of_cell? wr ⟨bb, off + k * 2, none⟩ q0
        exact (Y5.cell (p := ⟨bb, off + k * 2, none⟩) hlt).trans q0
      have lba : (wr.alloc (.cells #[.int .u64 0, .int .u64 0] 40)).heap.size = wr.heap.size + 1 := by simp
      clear Y5 R7b q0 q1
      by_cases k1 : A = 1 ∧ P.length < R
      · obtain ⟨rfl, k2⟩ := k1
        have d2 : (P.length : Int) < 1000 := (HRN.out _).2 k2
        have EP : pileApp R P (1, B) = (P ++ [B], (1, 0)) := by unfold pileApp; rw [if_pos ⟨rfl, k2⟩]
        go_wp2_with fail
        generalize wr.alloc (.cells #[.int .u64 0, .int .u64 0] 40) = w5 at *
        generalize hba : wr.heap.size = ba at *
        rw [← hba] at G0
        refine wp_region_noPanic ?_
        refine wp_region_held_drew (S := fun w' => w'.cell? ⟨bb, off + k * 2 + 1, none⟩ = some (.int .u64 (B : Int))) (by kernel_rfl) (HLD.out _ ((Below.refl _ _).drew)) (fun hHeld => ?_)
        have Gw6 : Hid (Below w5.heap.size w5 w5.drew) := (Below.refl _ _).drew
        generalize w5.drew = w6 at *
        refine wpAnyH_take (i := 1) (v := .slice a7 P.length c7) rfl (by kernel_rfl) (by kernel_rfl) (by kernel_rfl) (fun _ _ _ h => h) (Or.inl ⟨by rfl, fun w hSw => by go_simp⟩) (by assumption) ?_
        change wpAnyH _ _ _ _ _ _ _ (Act.put _ (some 36) _) _
        simp only [Act.put, List.setIfInBounds_toArray, List.set_cons_zero, List.set_cons_succ]
        refine wpAnyH_take (i := 3) (v := .slice (some ⟨bb, off, none⟩) len cap) rfl (by kernel_rfl) (by kernel_rfl) (by kernel_rfl) (fun _ _ _ h => h) (Or.inl ⟨by rfl, fun w hSw => by go_simp⟩) (by assumption) ?_
        change wpAnyH _ _ _ _ _ _ _ (Act.put _ (some 38) _) _
        simp only [Act.put, List.setIfInBounds_toArray, List.set_cons_zero, List.set_cons_succ]
        refine wpAnyH_take (i := 4) (v := .int .i64 (k : Int)) rfl (by kernel_rfl) (by kernel_rfl) (by kernel_rfl) (fun _ _ _ h => h) (Or.inl ⟨by rfl, fun w hSw => by go_simp⟩) (by assumption) ?_
        change wpAnyH _ _ _ _ _ _ _ (Act.put _ (some 39) _) _
        simp only [Act.put, List.setIfInBounds_toArray, List.set_cons_zero, List.set_cons_succ]
        refine wpAnyH_take (i := 5) (v := .pointer (some ⟨bb, off + k * 2, none⟩)) rfl (by kernel_rfl) (by kernel_rfl) (by kernel_rfl) (fun _ _ _ h => h) (Or.inl ⟨by rfl, fun w hSw => by go_simp⟩) (by assumption) ?_
        change wpAnyH _ _ _ _ _ _ _ (Act.put _ (some 40) _) _
        simp only [Act.put, List.setIfInBounds_toArray, List.set_cons_zero, List.set_cons_succ]
        refine wpAnyH_take (i := 6) (v := .pointer (some ⟨bb, off + k * 2 + 1, none⟩)) rfl (by kernel_rfl) (by kernel_rfl) (by kernel_rfl) (fun _ _ _ h => h) (Or.inl ⟨by rfl, fun w hSw => by go_simp⟩) (by assumption) ?_
        change wpAnyH _ _ _ _ _ _ _ (Act.put _ (some 41) _) _
        simp only [Act.put, List.setIfInBounds_toArray, List.set_cons_zero, List.set_cons_succ]
        refine wpAnyH_take (i := 7) (v := .int .u64 (B : Int)) rfl (by kernel_rfl) (by kernel_rfl) (by kernel_rfl) (fun _ _ _ h => h) (Or.inl ⟨by rfl, fun w hSw => by go_simp⟩) (by assumption) ?_
        change wpAnyH _ _ _ _ _ _ _ (Act.put _ (some 42) _) _
        simp only [Act.put, List.setIfInBounds_toArray, List.set_cons_zero, List.set_cons_succ]
        clear hHeld
        refine wpAnyH_ready (rs := [0, 8]) (by kernel_rfl) (by simp) ?_
        refine AllReadyH.cons rfl (fun K hK => ?_) (AllReadyH.cons rfl (fun K hK => ?_) AllReadyH.nil)
        · have Y := box1 w6 (.cells #[] 29)
          have Gw7 := Lib.hid (below_two Gw6.out Y)
          have EW := Lib.hid (WRw.empty w6)
          have lE : w5.heap.size ≤ w6.heap.size := Gw6.out.size
          clear Y
          go_simp
          refine hK.out _ _ (HLD.out _ Gw7.out) (fun hHeld => ?_)
          clear hK K hHeld
          generalize w6.alloc (.cells #[] 29) = w7 at *
          generalize w6.heap.size = eb at *
          refine wpAnyH_ready (rs := [2, 8]) (by kernel_rfl) (by simp) ?_
          refine AllReadyH.cons rfl (fun K hK => ?_) (AllReadyH.cons rfl (fun K hK => ?_) AllReadyH.nil)
          · obtain ⟨v6, w9, hrun, p1, p2, p3⟩ := app_manyW (c := c7) EW.out (R7.out.next Gw7.out) HNIL.out (by simp; omega) 24
            rw [List.nil_append, LP.out] at p1
            have CW := Lib.hid p1
            have Gw9 := Lib.hid (app_below' Gw7.out Gw7.out.size p2 (fun k hk => by simp [Value.ownBlock] at hk; omega))
            have Q6 : Hid (∀ q, v6.ownBlock = some q → w5.heap.size ≤ q) := by
              intro q hq
              have := Gw7.out.size
              rcases p3 with e | e
              · rw [e] at hq; simp [Value.ownBlock] at hq; omega
              · rw [e] at hq; simp at hq; omega
            refine step_append_by rfl _ _ 24 24 rfl _ _ (by simp [Act.eval]) (by simp [Act.eval]) hrun ?_
            refine hK.out _ _ (HLD.out _ Gw9.out) (fun hHeld => ?_)
            clear hK K hrun p1 p2 p3 hHeld
            change wpAnyH _ _ _ _ _ _ _ (Act.put _ (some 37) _) _
            simp only [Act.put, List.setIfInBounds_toArray, List.set_cons_zero, List.set_cons_succ]
            refine wpAnyH_ready (rs := [8]) (by kernel_rfl) (by simp) ?_
            refine AllReadyH.cons rfl (fun K hK => ?_) AllReadyH.nil
            have Y := box1 w9 (.cells #[.int .u64 (B : Int)] 29)
            have Gw10 := Lib.hid (below_two Gw9.out Y)
            have V1 := Lib.hid (heap_new w9 (.cells #[.int .u64 (B : Int)] 29))
            have lV : w5.heap.size ≤ w9.heap.size := Gw9.out.size
            have CWX := Lib.hid (WRw.stay CW.out (Only.of_below (l := []) Y) (by simp))
            have QQ : Hid (∀ q, v6.ownBlock = some q → q ≠ w9.heap.size) := fun q hq => by have := WRw.lt CW.out hq; omega
            clear Y
            go_simp
            refine hK.out _ _ (HLD.out _ Gw10.out) (fun hHeld => ?_)
            clear hK K hHeld
            generalize w9.alloc (.cells #[.int .u64 (B : Int)] 29) = w10 at *
            generalize w9.heap.size = vb at *
            refine wpAnyH_ready (rs := [9]) (by kernel_rfl) (by simp) ?_
            refine AllReadyH.cons rfl (fun K hK => ?_) AllReadyH.nil
            obtain ⟨v8, w8, hrun, p1, p2, p3⟩ := app_one CWX.out V1.out (by omega) 24
            have PW := Lib.hid p1
            have G8 := Lib.hid (app_below' Gw10.out Gw10.out.size p2 (fun k hk => Q6.out k hk))
            have Q8 : Hid (∀ q, v8.ownBlock = some q → w5.heap.size ≤ q) := by
              intro q hq
              have := Gw10.out.size
              rcases p3 with e | e
              · rw [e] at hq; exact Q6.out q hq
              · rw [e] at hq; simp at hq; omega
            refine step_append_by rfl _ _ 24 24 rfl _ _ (by simp [Act.eval]) (by simp [Act.eval]) hrun ?_
            refine hK.out _ _ (HLD.out _ G8.out) (fun hHeld => ?_)
            clear hK K hrun p1 p2 p3
            change wpAnyH _ _ _ _ _ _ _ (Act.put _ (some 44) _) _
            simp only [Act.put, List.setIfInBounds_toArray, List.set_cons_zero, List.set_cons_succ]
            refine wpAnyH_take (i := 10) (v := v8) rfl (by kernel_rfl) (by kernel_rfl) (by kernel_rfl) (fun _ _ _ h => h) (Or.inl ⟨by rfl, fun w hSw => by go_simp⟩) (by assumption) ?_
            change wpAnyH _ _ _ _ _ _ _ (Act.put _ (some 7) _) _
            simp only [Act.put, List.setIfInBounds_toArray, List.set_cons_zero, List.set_cons_succ]
            refine wpAnyH_done (by kernel_rfl) ?_ _
            refine NoPanic.normal ?_
            clear hHeld
            have BY : Hid (w8.heap[ba]? = _) := (G8.out.block _ (heap_lt BX.out)).trans BX.out
            have f0 := frozen_of (j := 0) BY.out
            have f1 := frozen_of (j := 1) BY.out
            have g0 : w8.cell? ⟨ba, 0, none⟩ = some (.int .u64 0) := by rw [cell_of BY.out]; rfl
            have g1 : w8.cell? ⟨ba, 1, none⟩ = some (.int .u64 0) := by rw [cell_of BY.out]; rfl
            have BZ : Hid (((w8.setCell ⟨ba, 0, none⟩ (.int .u64 1)).setCell ⟨ba, 1, none⟩ (.int .u64 0)).heap[ba]? = some (.cells #[.int .u64 1, .int .u64 0] 40 (0, 0))) := by show _ = _; rw [set_of (set_of BY.out _) _]; rfl
            have GZ : Hid (Below wr.heap.size wr ((w8.setCell ⟨ba, 0, none⟩ (.int .u64 1)).setCell ⟨ba, 1, none⟩ (.int .u64 0))) := ((G0.out.trans (G8.out.mono G0.out.size)).setCell (p := ⟨ba, 0, none⟩) (by show _ ≤ ba; omega) _).setCell (p := ⟨ba, 1, none⟩) (by show _ ≤ ba; omega) _
            have l5 := heap_lt BX.out
            have PZ := Lib.hid (WRw.stay PW.out ((Only.of_set (l := [ba]) (g := ba) (j := 0) (by simp) (.int .u64 1)).trans (Only.of_set (l := [ba]) (g := ba) (j := 1) (by simp) (.int .u64 0))) (fun q hq => by have := Q8.out q hq; simp; omega))
            have QZ : Hid (∀ q, v8.ownBlock = some q → N ≤ q ∧ q ≠ bo) := fun q hq => by have := Q8.out q hq; omega
            obtain ⟨a8, c8, e8⟩ := PW.out.form
            rw [show (P ++ [B]).length = P.length + 1 by simp] at e8
            subst e8
            go_upto_region 16 with fail
            generalize (w8.setCell ⟨ba, 0, none⟩ (.int .u64 1)).setCell ⟨ba, 1, none⟩ (.int .u64 0) = wz at *
            have AZ := Lib.hid (ORow.next AR.out GZ.out)
            have y0 : wz.cell? ⟨ba, 0, none⟩ = some (.int .u64 (1 : Int)) := by rw [cell_of BZ.out]; rfl
            have y1 : wz.cell? ⟨ba, 1, none⟩ = some (.int .u64 (0 : Int)) := by rw [cell_of BZ.out]; rfl
            obtain ⟨n1, n2, n3⟩ := one_new wz (.cells #[.int .u64 (1 : Int), .int .u64 (0 : Int)] 40)
            have A7 := ORow.next AZ.out n2
            have lwr := XR.out.size
            have XZ := Lib.hid (XR.out.trans (GZ.out.mono (by omega)))
            have XZ7 := Lib.hid (XZ.out.trans (n2.mono (by have := XZ.out.size; omega)))
            have hsz := XZ.out.size
            have P7 := Lib.hid (WRw.stay PZ.out (Only.of_below (l := []) n2) (by simp))
            obtain ⟨v', w14, hrun, p1, p2, p3, bq, cq, rfl⟩ := OpRow.app (x := (1, 0)) A7 n1 (by rw [RN.out]; omega) 22
            have A14 := Lib.hid p1
            rw [OB.out] at p2 p3
            have X14 := Lib.hid (app_below' XZ7.out (by have := XZ7.out.size; omega) p2 (fun k hk => by simp at hk; omega))
            have P14 := Lib.hid (WRw.stay P7.out (Only.of_grown (l := [bo]) p2 (fun k hk => by simp at hk; simp [hk])) (fun k hk => by have := QZ.out k hk; simp; omega))
            have QO14 : Hid (N ≤ bq ∧ (∀ q, (Value.slice a8 (P.length + 1) c8).ownBlock = some q → N ≤ q ∧ q ≠ bq)) := by
              rcases p3 with e | e
              · have e1 : bq = bo := by simpa [Value.ownBlock] using e
                exact ⟨by omega, fun q hq => by have := QZ.out q hq; omega⟩
              · have e' : bq = wz.heap.size + 1 := by simpa [Value.ownBlock] using e
                exact ⟨by omega, fun q hq => by have := QZ.out q hq; have := WRw.lt PZ.out hq; omega⟩
            clear p1 p2 p3 n1 n2 n3 A7
            go_wp2_with (at_builtin; refine wpList_append_by rfl _ _ 22 22 rfl u6 (.slice (some ⟨wz.heap.size, 0, none⟩) 1 1) (by rfl) (by rfl) hrun ?_)
            go_wp2_with fail
            go_roundw
            case rel => exact ⟨k + 1, by omega, by go_num, by rw [OS.out, RT.out, EP]; exact A14.out, by rw [OS.out, RS.out, EP]; exact P14.out, bq, rfl, QO14.out.1, QO14.out.2, X14.out⟩
            case measure => simp [intOf]; omega
          · have Y := box1 w7 (.cells #[.int .u64 (B : Int)] 29)
            have Gw9 := Lib.hid (below_two Gw7.out Y)
            have V1 := Lib.hid (heap_new w7 (.cells #[.int .u64 (B : Int)] 29))
            have lV : w5.heap.size ≤ w7.heap.size := Gw7.out.size
            have EWX := Lib.hid (WRw.stay EW.out (Only.of_below (l := []) Y) (by simp))
            have ltW := WRw.lt (k := eb) EW.out rfl
            clear Y
            go_simp
            refine hK.out _ _ (HLD.out _ Gw9.out) (fun hHeld => ?_)
            clear hK K hHeld
            generalize w7.alloc (.cells #[.int .u64 (B : Int)] 29) = w9 at *
            generalize w7.heap.size = vb at *
            refine wpAnyH_ready (rs := [2]) (by kernel_rfl) (by simp) ?_
            refine AllReadyH.cons rfl (fun K hK => ?_) AllReadyH.nil
            obtain ⟨v6, w10, hrun, p1, p2, p3⟩ := app_manyW (c := c7) EWX.out (R7.out.next Gw9.out) HNIL.out (by simp; omega) 24
            rw [List.nil_append, LP.out] at p1
            have CW := Lib.hid p1
            have Gw10 := Lib.hid (app_below' Gw9.out Gw9.out.size p2 (fun k hk => by simp [Value.ownBlock] at hk; omega))
            have V1X : Hid (w10.heap[vb]? = _) := (p2.block _ (heap_lt V1.out) (by simp [Value.ownBlock]; omega)).trans V1.out
            have QQ : Hid (∀ q, v6.ownBlock = some q → q ≠ vb) := by
              intro q hq
              have := heap_lt V1.out
              rcases p3 with e | e
              · rw [e] at hq; simp [Value.ownBlock] at hq; omega
              · rw [e] at hq; simp at hq; omega
            have Q6 : Hid (∀ q, v6.ownBlock = some q → w5.heap.size ≤ q) := by
              intro q hq
              have := Gw9.out.size
              rcases p3 with e | e
              · rw [e] at hq; simp [Value.ownBlock] at hq; omega
              · rw [e] at hq; simp at hq; omega
            refine step_append_by rfl _ _ 24 24 rfl _ _ (by simp [Act.eval]) (by simp [Act.eval]) hrun ?_
            refine hK.out _ _ (HLD.out _ Gw10.out) (fun hHeld => ?_)
            clear hK K hrun p1 p2 p3 hHeld
            change wpAnyH _ _ _ _ _ _ _ (Act.put _ (some 37) _) _
            simp only [Act.put, List.setIfInBounds_toArray, List.set_cons_zero, List.set_cons_succ]
            refine wpAnyH_ready (rs := [9]) (by kernel_rfl) (by simp) ?_
            refine AllReadyH.cons rfl (fun K hK => ?_) AllReadyH.nil
            obtain ⟨v8, w8, hrun, p1, p2, p3⟩ := app_one CW.out V1X.out (by omega) 24
            have PW := Lib.hid p1
            have G8 := Lib.hid (app_below' Gw10.out Gw10.out.size p2 (fun k hk => Q6.out k hk))
            have Q8 : Hid (∀ q, v8.ownBlock = some q → w5.heap.size ≤ q) := by
              intro q hq
              have := Gw10.out.size
              rcases p3 with e | e
              · rw [e] at hq; exact Q6.out q hq
              · rw [e] at hq; simp at hq; omega
            refine step_append_by rfl _ _ 24 24 rfl _ _ (by simp [Act.eval]) (by simp [Act.eval]) hrun ?_
            refine hK.out _ _ (HLD.out _ G8.out) (fun hHeld => ?_)
            clear hK K hrun p1 p2 p3
            change wpAnyH _ _ _ _ _ _ _ (Act.put _ (some 44) _) _
            simp only [Act.put, List.setIfInBounds_toArray, List.set_cons_zero, List.set_cons_succ]
            refine wpAnyH_take (i := 10) (v := v8) rfl (by kernel_rfl) (by kernel_rfl) (by kernel_rfl) (fun _ _ _ h => h) (Or.inl ⟨by rfl, fun w hSw => by go_simp⟩) (by assumption) ?_
            change wpAnyH _ _ _ _ _ _ _ (Act.put _ (some 7) _) _
            simp only [Act.put, List.setIfInBounds_toArray, List.set_cons_zero, List.set_cons_succ]
            refine wpAnyH_done (by kernel_rfl) ?_ _
            refine NoPanic.normal ?_
            clear hHeld
            have BY : Hid (w8.heap[ba]? = _) := (G8.out.block _ (heap_lt BX.out)).trans BX.out
            have f0 := frozen_of (j := 0) BY.out
            have f1 := frozen_of (j := 1) BY.out
            have g0 : w8.cell? ⟨ba, 0, none⟩ = some (.int .u64 0) := by rw [cell_of BY.out]; rfl
            have g1 : w8.cell? ⟨ba, 1, none⟩ = some (.int .u64 0) := by rw [cell_of BY.out]; rfl
            have BZ : Hid (((w8.setCell ⟨ba, 0, none⟩ (.int .u64 1)).setCell ⟨ba, 1, none⟩ (.int .u64 0)).heap[ba]? = some (.cells #[.int .u64 1, .int .u64 0] 40 (0, 0))) := by show _ = _; rw [set_of (set_of BY.out _) _]; rfl
            have GZ : Hid (Below wr.heap.size wr ((w8.setCell ⟨ba, 0, none⟩ (.int .u64 1)).setCell ⟨ba, 1, none⟩ (.int .u64 0))) := ((G0.out.trans (G8.out.mono G0.out.size)).setCell (p := ⟨ba, 0, none⟩) (by show _ ≤ ba; omega) _).setCell (p := ⟨ba, 1, none⟩) (by show _ ≤ ba; omega) _
            have l5 := heap_lt BX.out
            have PZ := Lib.hid (WRw.stay PW.out ((Only.of_set (l := [ba]) (g := ba) (j := 0) (by simp) (.int .u64 1)).trans (Only.of_set (l := [ba]) (g := ba) (j := 1) (by simp) (.int .u64 0))) (fun q hq => by have := Q8.out q hq; simp; omega))
            have QZ : Hid (∀ q, v8.ownBlock = some q → N ≤ q ∧ q ≠ bo) := fun q hq => by have := Q8.out q hq; omega
            obtain ⟨a8, c8, e8⟩ := PW.out.form
            rw [show (P ++ [B]).length = P.length + 1 by simp] at e8
            subst e8
            go_upto_region 16 with fail
            generalize (w8.setCell ⟨ba, 0, none⟩ (.int .u64 1)).setCell ⟨ba, 1, none⟩ (.int .u64 0) = wz at *
            have AZ := Lib.hid (ORow.next AR.out GZ.out)
            have y0 : wz.cell? ⟨ba, 0, none⟩ = some (.int .u64 (1 : Int)) := by rw [cell_of BZ.out]; rfl
            have y1 : wz.cell? ⟨ba, 1, none⟩ = some (.int .u64 (0 : Int)) := by rw [cell_of BZ.out]; rfl
            obtain ⟨n1, n2, n3⟩ := one_new wz (.cells #[.int .u64 (1 : Int), .int .u64 (0 : Int)] 40)
            have A7 := ORow.next AZ.out n2
            have lwr := XR.out.size
            have XZ := Lib.hid (XR.out.trans (GZ.out.mono (by omega)))
            have XZ7 := Lib.hid (XZ.out.trans (n2.mono (by have := XZ.out.size; omega)))
            have hsz := XZ.out.size
            have P7 := Lib.hid (WRw.stay PZ.out (Only.of_below (l := []) n2) (by simp))
            obtain ⟨v', w14, hrun, p1, p2, p3, bq, cq, rfl⟩ := OpRow.app (x := (1, 0)) A7 n1 (by rw [RN.out]; omega) 22
            have A14 := Lib.hid p1
            rw [OB.out] at p2 p3
            have X14 := Lib.hid (app_below' XZ7.out (by have := XZ7.out.size; omega) p2 (fun k hk => by simp at hk; omega))
            have P14 := Lib.hid (WRw.stay P7.out (Only.of_grown (l := [bo]) p2 (fun k hk => by simp at hk; simp [hk])) (fun k hk => by have := QZ.out k hk; simp; omega))
            have QO14 : Hid (N ≤ bq ∧ (∀ q, (Value.slice a8 (P.length + 1) c8).ownBlock = some q → N ≤ q ∧ q ≠ bq)) := by
              rcases p3 with e | e
              · have e1 : bq = bo := by simpa [Value.ownBlock] using e
                exact ⟨by omega, fun q hq => by have := QZ.out q hq; omega⟩
              · have e' : bq = wz.heap.size + 1 := by simpa [Value.ownBlock] using e
                exact ⟨by omega, fun q hq => by have := QZ.out q hq; have := WRw.lt PZ.out hq; omega⟩
            clear p1 p2 p3 n1 n2 n3 A7
            go_wp2_with (at_builtin; refine wpList_append_by rfl _ _ 22 22 rfl u6 (.slice (some ⟨wz.heap.size, 0, none⟩) 1 1) (by rfl) (by rfl) hrun ?_)
            go_wp2_with fail
            go_roundw
            case rel => exact ⟨k + 1, by omega, by go_num, by rw [OS.out, RT.out, EP]; exact A14.out, by rw [OS.out, RS.out, EP]; exact P14.out, bq, rfl, QO14.out.1, QO14.out.2, X14.out⟩
            case measure => simp [intOf]; omega
        · have Y := box1 w6 (.cells #[.int .u64 (B : Int)] 29)
          have Gw7 := Lib.hid (below_two Gw6.out Y)
          have V1 := Lib.hid (heap_new w6 (.cells #[.int .u64 (B : Int)] 29))
          have lV : w5.heap.size ≤ w6.heap.size := Gw6.out.size
          clear Y
          go_simp
          refine hK.out _ _ (HLD.out _ Gw7.out) (fun hHeld => ?_)
          clear hK K hHeld
          generalize w6.alloc (.cells #[.int .u64 (B : Int)] 29) = w7 at *
          generalize w6.heap.size = vb at *
          refine wpAnyH_ready (rs := [0]) (by kernel_rfl) (by simp) ?_
          refine AllReadyH.cons rfl (fun K hK => ?_) AllReadyH.nil
          have Y := box1 w7 (.cells #[] 29)
          have Gw9 := Lib.hid (below_two Gw7.out Y)
          have EW := Lib.hid (WRw.empty w7)
          have lE : w5.heap.size ≤ w7.heap.size := Gw7.out.size
          have V1Y : Hid (_ = _) := (Y.block _ (heap_lt V1.out)).trans V1.out
          have lV1 := heap_lt V1.out
          clear Y V1
          have V1 := V1Y
          clear V1Y
          go_simp
          refine hK.out _ _ (HLD.out _ Gw9.out) (fun hHeld => ?_)
          clear hK K hHeld
          generalize w7.alloc (.cells #[] 29) = w9 at *
          generalize w7.heap.size = eb at *
          refine wpAnyH_ready (rs := [2]) (by kernel_rfl) (by simp) ?_
          refine AllReadyH.cons rfl (fun K hK => ?_) AllReadyH.nil
          obtain ⟨v6, w10, hrun, p1, p2, p3⟩ := app_manyW (c := c7) EW.out (R7.out.next Gw9.out) HNIL.out (by simp; omega) 24
          rw [List.nil_append, LP.out] at p1
          have CW := Lib.hid p1
          have Gw10 := Lib.hid (app_below' Gw9.out Gw9.out.size p2 (fun k hk => by simp [Value.ownBlock] at hk; omega))
          have V1X : Hid (w10.heap[vb]? = _) := (p2.block _ (heap_lt V1.out) (by simp [Value.ownBlock]; omega)).trans V1.out
          have QQ : Hid (∀ q, v6.ownBlock = some q → q ≠ vb) := by
            intro q hq
            have := heap_lt V1.out
            rcases p3 with e | e
            · rw [e] at hq; simp [Value.ownBlock] at hq; omega
            · rw [e] at hq; simp at hq; omega
          have Q6 : Hid (∀ q, v6.ownBlock = some q → w5.heap.size ≤ q) := by
            intro q hq
            have := Gw9.out.size
            rcases p3 with e | e
            · rw [e] at hq; simp [Value.ownBlock] at hq; omega
            · rw [e] at hq; simp at hq; omega
          refine step_append_by rfl _ _ 24 24 rfl _ _ (by simp [Act.eval]) (by simp [Act.eval]) hrun ?_
          refine hK.out _ _ (HLD.out _ Gw10.out) (fun hHeld => ?_)
          clear hK K hrun p1 p2 p3 hHeld
          change wpAnyH _ _ _ _ _ _ _ (Act.put _ (some 37) _) _
          simp only [Act.put, List.setIfInBounds_toArray, List.set_cons_zero, List.set_cons_succ]
          refine wpAnyH_ready (rs := [9]) (by kernel_rfl) (by simp) ?_
          refine AllReadyH.cons rfl (fun K hK => ?_) AllReadyH.nil
          obtain ⟨v8, w8, hrun, p1, p2, p3⟩ := app_one CW.out V1X.out (by omega) 24
          have PW := Lib.hid p1
          have G8 := Lib.hid (app_below' Gw10.out Gw10.out.size p2 (fun k hk => Q6.out k hk))
          have Q8 : Hid (∀ q, v8.ownBlock = some q → w5.heap.size ≤ q) := by
            intro q hq
            have := Gw10.out.size
            rcases p3 with e | e
            · rw [e] at hq; exact Q6.out q hq
            · rw [e] at hq; simp at hq; omega
          refine step_append_by rfl _ _ 24 24 rfl _ _ (by simp [Act.eval]) (by simp [Act.eval]) hrun ?_
          refine hK.out _ _ (HLD.out _ G8.out) (fun hHeld => ?_)
          clear hK K hrun p1 p2 p3
          change wpAnyH _ _ _ _ _ _ _ (Act.put _ (some 44) _) _
          simp only [Act.put, List.setIfInBounds_toArray, List.set_cons_zero, List.set_cons_succ]
          refine wpAnyH_take (i := 10) (v := v8) rfl (by kernel_rfl) (by kernel_rfl) (by kernel_rfl) (fun _ _ _ h => h) (Or.inl ⟨by rfl, fun w hSw => by go_simp⟩) (by assumption) ?_
          change wpAnyH _ _ _ _ _ _ _ (Act.put _ (some 7) _) _
          simp only [Act.put, List.setIfInBounds_toArray, List.set_cons_zero, List.set_cons_succ]
          refine wpAnyH_done (by kernel_rfl) ?_ _
          refine NoPanic.normal ?_
          clear hHeld
          have BY : Hid (w8.heap[ba]? = _) := (G8.out.block _ (heap_lt BX.out)).trans BX.out
          have f0 := frozen_of (j := 0) BY.out
          have f1 := frozen_of (j := 1) BY.out
          have g0 : w8.cell? ⟨ba, 0, none⟩ = some (.int .u64 0) := by rw [cell_of BY.out]; rfl
          have g1 : w8.cell? ⟨ba, 1, none⟩ = some (.int .u64 0) := by rw [cell_of BY.out]; rfl
          have BZ : Hid (((w8.setCell ⟨ba, 0, none⟩ (.int .u64 1)).setCell ⟨ba, 1, none⟩ (.int .u64 0)).heap[ba]? = some (.cells #[.int .u64 1, .int .u64 0] 40 (0, 0))) := by show _ = _; rw [set_of (set_of BY.out _) _]; rfl
          have GZ : Hid (Below wr.heap.size wr ((w8.setCell ⟨ba, 0, none⟩ (.int .u64 1)).setCell ⟨ba, 1, none⟩ (.int .u64 0))) := ((G0.out.trans (G8.out.mono G0.out.size)).setCell (p := ⟨ba, 0, none⟩) (by show _ ≤ ba; omega) _).setCell (p := ⟨ba, 1, none⟩) (by show _ ≤ ba; omega) _
          have l5 := heap_lt BX.out
          have PZ := Lib.hid (WRw.stay PW.out ((Only.of_set (l := [ba]) (g := ba) (j := 0) (by simp) (.int .u64 1)).trans (Only.of_set (l := [ba]) (g := ba) (j := 1) (by simp) (.int .u64 0))) (fun q hq => by have := Q8.out q hq; simp; omega))
          have QZ : Hid (∀ q, v8.ownBlock = some q → N ≤ q ∧ q ≠ bo) := fun q hq => by have := Q8.out q hq; omega
          obtain ⟨a8, c8, e8⟩ := PW.out.form
          rw [show (P ++ [B]).length = P.length + 1 by simp] at e8
          subst e8
          go_upto_region 16 with fail
          generalize (w8.setCell ⟨ba, 0, none⟩ (.int .u64 1)).setCell ⟨ba, 1, none⟩ (.int .u64 0) = wz at *
          have AZ := Lib.hid (ORow.next AR.out GZ.out)
          have y0 : wz.cell? ⟨ba, 0, none⟩ = some (.int .u64 (1 : Int)) := by rw [cell_of BZ.out]; rfl
          have y1 : wz.cell? ⟨ba, 1, none⟩ = some (.int .u64 (0 : Int)) := by rw [cell_of BZ.out]; rfl
          obtain ⟨n1, n2, n3⟩ := one_new wz (.cells #[.int .u64 (1 : Int), .int .u64 (0 : Int)] 40)
          have A7 := ORow.next AZ.out n2
          have lwr := XR.out.size
          have XZ := Lib.hid (XR.out.trans (GZ.out.mono (by omega)))
          have XZ7 := Lib.hid (XZ.out.trans (n2.mono (by have := XZ.out.size; omega)))
          have hsz := XZ.out.size
          have P7 := Lib.hid (WRw.stay PZ.out (Only.of_below (l := []) n2) (by simp))
          obtain ⟨v', w14, hrun, p1, p2, p3, bq, cq, rfl⟩ := OpRow.app (x := (1, 0)) A7 n1 (by rw [RN.out]; omega) 22
          have A14 := Lib.hid p1
          rw [OB.out] at p2 p3
          have X14 := Lib.hid (app_below' XZ7.out (by have := XZ7.out.size; omega) p2 (fun k hk => by simp at hk; omega))
          have P14 := Lib.hid (WRw.stay P7.out (Only.of_grown (l := [bo]) p2 (fun k hk => by simp at hk; simp [hk])) (fun k hk => by have := QZ.out k hk; simp; omega))
          have QO14 : Hid (N ≤ bq ∧ (∀ q, (Value.slice a8 (P.length + 1) c8).ownBlock = some q → N ≤ q ∧ q ≠ bq)) := by
            rcases p3 with e | e
            · have e1 : bq = bo := by simpa [Value.ownBlock] using e
              exact ⟨by omega, fun q hq => by have := QZ.out q hq; omega⟩
            · have e' : bq = wz.heap.size + 1 := by simpa [Value.ownBlock] using e
              exact ⟨by omega, fun q hq => by have := QZ.out q hq; have := WRw.lt PZ.out hq; omega⟩
          clear p1 p2 p3 n1 n2 n3 A7
          go_wp2_with (at_builtin; refine wpList_append_by rfl _ _ 22 22 rfl u6 (.slice (some ⟨wz.heap.size, 0, none⟩) 1 1) (by rfl) (by rfl) hrun ?_)
          go_wp2_with fail
          go_roundw
          case rel => exact ⟨k + 1, by omega, by go_num, by rw [OS.out, RT.out, EP]; exact A14.out, by rw [OS.out, RS.out, EP]; exact P14.out, bq, rfl, QO14.out.1, QO14.out.2, X14.out⟩
          case measure => simp [intOf]; omega
      · by_cases k2 : A = 2 ∧ 0 < P.length
        · obtain ⟨rfl, k2⟩ := k2
          have d2 : (0 : Int) < (P.length : Int) := by omega
          have d2' : 0 < P.length := k2
          have EP : pileApp R P (2, B) = (P.dropLast, (1, P.getD (P.length - 1) 0)) := by unfold pileApp; rw [if_neg (by simp), if_pos ⟨rfl, k2⟩]
          have lastc := R7.out.at (show P.length - 1 < P.length by omega)
          have hlen : Hid (P.dropLast.length = P.length - 1) := by show _ = _; simp
          have PD0 := PR5.out
          obtain ⟨b7, o7, rfl, c7c⟩ := lastc
          obtain ⟨rfl, hb7⟩ : o7 = 0 ∧ (⟨b7, o7, none⟩ : Addr) = ⟨b7, o7, none⟩ := by
            rcases PR5.out.cases with ⟨h1, _⟩ | ⟨b, cp, cur, h1, _⟩
            · cases h1
            · simp at h1; exact ⟨h1.1.2, rfl⟩
          have PD := Lib.hid (WRw.drop PD0)
          clear hb7 PD0
          generalize hm : P.getD (P.length - 1) 0 = top at *
          obtain ⟨m1, hm1⟩ : ∃ m1, P.length = m1 + 1 := ⟨P.length - 1, by omega⟩
          have hmm : P.length - 1 = m1 := by omega
          have E1 : (P.length : Int) - 1 = (m1 : Int) := by omega
          rw [hmm] at c7c PD hlen
          have lm : m1 < P.length := by omega
          have lcap : m1 ≤ c7 := by
            rcases PD.out.cases with ⟨h1, _⟩ | ⟨b, cp, cur, h1, _, h4, _⟩
            · cases h1
            · simp at h1; rw [← h1.2.2] at h4; rw [hlen.out] at h4; exact h4
          rw [Nat.zero_add] at c7c
          have f0 := frozen_of (j := 0) BX.out
          have f1 := frozen_of (j := 1) BX.out
          have g0 : (wr.alloc (.cells #[.int .u64 0, .int .u64 0] 40)).cell? ⟨wr.heap.size, 0, none⟩ = some (.int .u64 0) := by rw [cell_of BX.out]; rfl
          have g1 : (wr.alloc (.cells #[.int .u64 0, .int .u64 0] 40)).cell? ⟨wr.heap.size, 1, none⟩ = some (.int .u64 0) := by rw [cell_of BX.out]; rfl
          have HM1 := Lib.hid hm1
          clear hm1 hmm hm
          go_upto_region 16 with fail
          have lb7 : b7 < wr.heap.size := lPQ.out b7 rfl
          have PD2 := Lib.hid (WRw.drop PR.out)
          have hm8 : P.length - 1 = m1 := by have := HM1.out; omega
          rw [hm8] at PD2
          clear hm8
          have BZ := Lib.hid (heap_new wr (.cells #[.int .u64 1, .int .u64 (top : Int)] 40))
          have GZ := Lib.hid (box1 wr (.cells #[.int .u64 1, .int .u64 (top : Int)] 40))
          have PZ := Lib.hid (WRw.stay PD2.out (Only.of_below (l := []) GZ.out) (by simp))
          have QZ : Hid (∀ q, (Value.slice (some ⟨b7, 0, none⟩) m1 c7).ownBlock = some q → N ≤ q ∧ q ≠ bo) := fun q hq => QR.out q hq
          generalize wr.alloc (.cells #[.int .u64 1, .int .u64 (top : Int)] 40) = wz at *
          have LBA := Lib.hid lba
          clear lba
          generalize hba : wr.heap.size = ba at *
          have GZ2 : Hid (Below wr.heap.size wr wz) := by rw [hba]; exact GZ.out
          clear GZ
          have GZ := GZ2
          clear GZ2
          have AZ := Lib.hid (ORow.next AR.out GZ.out)
          have y0 : wz.cell? ⟨ba, 0, none⟩ = some (.int .u64 (1 : Int)) := by rw [cell_of BZ.out]; rfl
          have y1 : wz.cell? ⟨ba, 1, none⟩ = some (.int .u64 (top : Int)) := by rw [cell_of BZ.out]; rfl
          obtain ⟨n1, n2, n3⟩ := one_new wz (.cells #[.int .u64 (1 : Int), .int .u64 (top : Int)] 40)
          have A7 := ORow.next AZ.out n2
          have lwr := XR.out.size
          have XZ := Lib.hid (XR.out.trans (GZ.out.mono (by omega)))
          have XZ7 := Lib.hid (XZ.out.trans (n2.mono (by have := XZ.out.size; omega)))
          have hsz := XZ.out.size
          have P7 := Lib.hid (WRw.stay PZ.out (Only.of_below (l := []) n2) (by simp))
          obtain ⟨v', w14, hrun, p1, p2, p3, bq, cq, rfl⟩ := OpRow.app (x := (1, top)) A7 n1 (by rw [RN.out]; omega) 22
          have A14 := Lib.hid p1
          rw [OB.out] at p2 p3
          have X14 := Lib.hid (app_below' XZ7.out (by have := XZ7.out.size; omega) p2 (fun k hk => by simp at hk; omega))
          have P14 := Lib.hid (WRw.stay P7.out (Only.of_grown (l := [bo]) p2 (fun k hk => by simp at hk; simp [hk])) (fun k hk => by have := QZ.out k hk; simp; omega))
          have QO14 : Hid (N ≤ bq ∧ (∀ q, (Value.slice (some ⟨b7, 0, none⟩) m1 c7).ownBlock = some q → N ≤ q ∧ q ≠ bq)) := by
            rcases p3 with e | e
            · have e1 : bq = bo := by simpa [Value.ownBlock] using e
              exact ⟨by omega, fun q hq => by have := QZ.out q hq; omega⟩
            · have e' : bq = wz.heap.size + 1 := by simpa [Value.ownBlock] using e
              exact ⟨by omega, fun q hq => by have := QZ.out q hq; have := WRw.lt PZ.out hq; omega⟩
          clear p1 p2 p3 n1 n2 n3 A7
          go_wp2_with (at_builtin; refine wpList_append_by rfl _ _ 22 22 rfl u6 (.slice (some ⟨wz.heap.size, 0, none⟩) 1 1) (by rfl) (by rfl) hrun ?_)
          go_wp2_with fail
          go_roundw
          case rel => exact ⟨k + 1, by omega, by go_num, by rw [OS.out, RT.out, EP]; exact A14.out, by rw [OS.out, RS.out, EP]; exact P14.out, bq, rfl, QO14.out.1, QO14.out.2, X14.out⟩
          case measure => simp [intOf]; omega
        · have EP : pileApp R P (A, B) = (P, (0, 0)) := by unfold pileApp; rw [if_neg k1, if_neg k2]
          have BZ : Hid (_ = some (Obj.cells #[.int .u64 0, .int .u64 0] 40 (0, 0))) := BX.out
          have GZ := G0
          have PZ := PR5
          have QZ : Hid (∀ q, (Value.slice a7 P.length c7).ownBlock = some q → N ≤ q ∧ q ≠ bo) := QR.out
          by_cases kA : A = 1
          · subst kA
            have k3 : ¬ P.length < R := fun e => k1 ⟨rfl, e⟩
            have d2 : ¬ (P.length : Int) < 1000 := fun e => k3 ((HRN.out _).1 e)
            have GZ' : Hid (Below wr.heap.size wr _) := GZ.out
            have lwz := heap_lt BX.out
            go_upto_region 16 with fail
            have BAo : Hid (wr.heap.size = wr.heap.size) := rfl
            generalize wr.alloc (.cells #[.int .u64 0, .int .u64 0] 40) = wz at *
            have LBA := Lib.hid lba
            clear lba
            generalize hba : wr.heap.size = ba at *
            have GZ2 : Hid (Below wr.heap.size wr wz) := by rw [hba]; exact GZ.out
            clear GZ GZ'
            have GZ := GZ2
            clear GZ2
            have AZ := Lib.hid (ORow.next AR.out GZ.out)
            have y0 : wz.cell? ⟨ba, 0, none⟩ = some (.int .u64 (0 : Int)) := by rw [cell_of BZ.out]; rfl
            have y1 : wz.cell? ⟨ba, 1, none⟩ = some (.int .u64 (0 : Int)) := by rw [cell_of BZ.out]; rfl
            obtain ⟨n1, n2, n3⟩ := one_new wz (.cells #[.int .u64 (0 : Int), .int .u64 (0 : Int)] 40)
            have A7 := ORow.next AZ.out n2
            have lwr := XR.out.size
            have XZ := Lib.hid (XR.out.trans (GZ.out.mono (by omega)))
            have XZ7 := Lib.hid (XZ.out.trans (n2.mono (by have := XZ.out.size; omega)))
            have hsz := XZ.out.size
            have P7 := Lib.hid (WRw.stay PZ.out (Only.of_below (l := []) n2) (by simp))
            obtain ⟨v', w14, hrun, p1, p2, p3, bq, cq, rfl⟩ := OpRow.app (x := (0, 0)) A7 n1 (by rw [RN.out]; omega) 22
            have A14 := Lib.hid p1
            rw [OB.out] at p2 p3
            have X14 := Lib.hid (app_below' XZ7.out (by have := XZ7.out.size; omega) p2 (fun k hk => by simp at hk; omega))
            have P14 := Lib.hid (WRw.stay P7.out (Only.of_grown (l := [bo]) p2 (fun k hk => by simp at hk; simp [hk])) (fun k hk => by have := QZ.out k hk; simp; omega))
            have QO14 : Hid (N ≤ bq ∧ (∀ q, (Value.slice a7 P.length c7).ownBlock = some q → N ≤ q ∧ q ≠ bq)) := by
              rcases p3 with e | e
              · have e1 : bq = bo := by simpa [Value.ownBlock] using e
                exact ⟨by omega, fun q hq => by have := QZ.out q hq; omega⟩
              · have e' : bq = wz.heap.size + 1 := by simpa [Value.ownBlock] using e
                exact ⟨by omega, fun q hq => by have := QZ.out q hq; have := WRw.lt PZ.out hq; omega⟩
            clear p1 p2 p3 n1 n2 n3 A7
            go_wp2_with (at_builtin; refine wpList_append_by rfl _ _ 22 22 rfl u6 (.slice (some ⟨wz.heap.size, 0, none⟩) 1 1) (by rfl) (by rfl) hrun ?_)
            go_wp2_with fail
            go_roundw
            case rel => exact ⟨k + 1, by omega, by go_num, by rw [OS.out, RT.out, EP]; exact A14.out, by rw [OS.out, RS.out, EP]; exact P14.out, bq, rfl, QO14.out.1, QO14.out.2, X14.out⟩
            case measure => simp [intOf]; omega
          · have kA1 : (A == 1) = false := by simpa using kA
            have kA2 : ((A : Int) == 1) = false := by simp; omega
            by_cases kB : A = 2
            · subst kB
              have k4 : ¬ 0 < P.length := fun e => k2 ⟨rfl, e⟩
              have d3 : ¬ (0 : Int) < (P.length : Int) := by omega
              clear k4
              have GZ' : Hid (Below wr.heap.size wr _) := GZ.out
              have lwz := heap_lt BX.out
              go_upto_region 16 with fail
              have BAo : Hid (wr.heap.size = wr.heap.size) := rfl
              generalize wr.alloc (.cells #[.int .u64 0, .int .u64 0] 40) = wz at *
              have LBA := Lib.hid lba
              clear lba
              generalize hba : wr.heap.size = ba at *
              have GZ2 : Hid (Below wr.heap.size wr wz) := by rw [hba]; exact GZ.out
              clear GZ GZ'
              have GZ := GZ2
              clear GZ2
              have AZ := Lib.hid (ORow.next AR.out GZ.out)
              have y0 : wz.cell? ⟨ba, 0, none⟩ = some (.int .u64 (0 : Int)) := by rw [cell_of BZ.out]; rfl
              have y1 : wz.cell? ⟨ba, 1, none⟩ = some (.int .u64 (0 : Int)) := by rw [cell_of BZ.out]; rfl
              obtain ⟨n1, n2, n3⟩ := one_new wz (.cells #[.int .u64 (0 : Int), .int .u64 (0 : Int)] 40)
              have A7 := ORow.next AZ.out n2
              have lwr := XR.out.size
              have XZ := Lib.hid (XR.out.trans (GZ.out.mono (by omega)))
              have XZ7 := Lib.hid (XZ.out.trans (n2.mono (by have := XZ.out.size; omega)))
              have hsz := XZ.out.size
              have P7 := Lib.hid (WRw.stay PZ.out (Only.of_below (l := []) n2) (by simp))
              obtain ⟨v', w14, hrun, p1, p2, p3, bq, cq, rfl⟩ := OpRow.app (x := (0, 0)) A7 n1 (by rw [RN.out]; omega) 22
              have A14 := Lib.hid p1
              rw [OB.out] at p2 p3
              have X14 := Lib.hid (app_below' XZ7.out (by have := XZ7.out.size; omega) p2 (fun k hk => by simp at hk; omega))
              have P14 := Lib.hid (WRw.stay P7.out (Only.of_grown (l := [bo]) p2 (fun k hk => by simp at hk; simp [hk])) (fun k hk => by have := QZ.out k hk; simp; omega))
              have QO14 : Hid (N ≤ bq ∧ (∀ q, (Value.slice a7 P.length c7).ownBlock = some q → N ≤ q ∧ q ≠ bq)) := by
                rcases p3 with e | e
                · have e1 : bq = bo := by simpa [Value.ownBlock] using e
                  exact ⟨by omega, fun q hq => by have := QZ.out q hq; omega⟩
                · have e' : bq = wz.heap.size + 1 := by simpa [Value.ownBlock] using e
                  exact ⟨by omega, fun q hq => by have := QZ.out q hq; have := WRw.lt PZ.out hq; omega⟩
              clear p1 p2 p3 n1 n2 n3 A7
              go_wp2_with (at_builtin; refine wpList_append_by rfl _ _ 22 22 rfl u6 (.slice (some ⟨wz.heap.size, 0, none⟩) 1 1) (by rfl) (by rfl) hrun ?_)
              go_wp2_with fail
              go_roundw
              case rel => exact ⟨k + 1, by omega, by go_num, by rw [OS.out, RT.out, EP]; exact A14.out, by rw [OS.out, RS.out, EP]; exact P14.out, bq, rfl, QO14.out.1, QO14.out.2, X14.out⟩
              case measure => simp [intOf]; omega
            · have kB1 : (A == 2) = false := by simpa using kB
              have kB2 : ((A : Int) == 2) = false := by simp; omega
              have GZ' : Hid (Below wr.heap.size wr _) := GZ.out
              have lwz := heap_lt BX.out
              go_upto_region 16 with fail
              have BAo : Hid (wr.heap.size = wr.heap.size) := rfl
              generalize wr.alloc (.cells #[.int .u64 0, .int .u64 0] 40) = wz at *
              have LBA := Lib.hid lba
              clear lba
              generalize hba : wr.heap.size = ba at *
              have GZ2 : Hid (Below wr.heap.size wr wz) := by rw [hba]; exact GZ.out
              clear GZ GZ'
              have GZ := GZ2
              clear GZ2
              have AZ := Lib.hid (ORow.next AR.out GZ.out)
              have y0 : wz.cell? ⟨ba, 0, none⟩ = some (.int .u64 (0 : Int)) := by rw [cell_of BZ.out]; rfl
              have y1 : wz.cell? ⟨ba, 1, none⟩ = some (.int .u64 (0 : Int)) := by rw [cell_of BZ.out]; rfl
              obtain ⟨n1, n2, n3⟩ := one_new wz (.cells #[.int .u64 (0 : Int), .int .u64 (0 : Int)] 40)
              have A7 := ORow.next AZ.out n2
              have lwr := XR.out.size
              have XZ := Lib.hid (XR.out.trans (GZ.out.mono (by omega)))
              have XZ7 := Lib.hid (XZ.out.trans (n2.mono (by have := XZ.out.size; omega)))
              have hsz := XZ.out.size
              have P7 := Lib.hid (WRw.stay PZ.out (Only.of_below (l := []) n2) (by simp))
              obtain ⟨v', w14, hrun, p1, p2, p3, bq, cq, rfl⟩ := OpRow.app (x := (0, 0)) A7 n1 (by rw [RN.out]; omega) 22
              have A14 := Lib.hid p1
              rw [OB.out] at p2 p3
              have X14 := Lib.hid (app_below' XZ7.out (by have := XZ7.out.size; omega) p2 (fun k hk => by simp at hk; omega))
              have P14 := Lib.hid (WRw.stay P7.out (Only.of_grown (l := [bo]) p2 (fun k hk => by simp at hk; simp [hk])) (fun k hk => by have := QZ.out k hk; simp; omega))
              have QO14 : Hid (N ≤ bq ∧ (∀ q, (Value.slice a7 P.length c7).ownBlock = some q → N ≤ q ∧ q ≠ bq)) := by
                rcases p3 with e | e
                · have e1 : bq = bo := by simpa [Value.ownBlock] using e
                  exact ⟨by omega, fun q hq => by have := QZ.out q hq; omega⟩
                · have e' : bq = wz.heap.size + 1 := by simpa [Value.ownBlock] using e
                  exact ⟨by omega, fun q hq => by have := QZ.out q hq; have := WRw.lt PZ.out hq; omega⟩
              clear p1 p2 p3 n1 n2 n3 A7
              go_wp2_with (at_builtin; refine wpList_append_by rfl _ _ 22 22 rfl u6 (.slice (some ⟨wz.heap.size, 0, none⟩) 1 1) (by rfl) (by rfl) hrun ?_)
              go_wp2_with fail
              go_roundw
              case rel => exact ⟨k + 1, by omega, by go_num, by rw [OS.out, RT.out, EP]; exact A14.out, by rw [OS.out, RS.out, EP]; exact P14.out, bq, rfl, QO14.out.1, QO14.out.2, X14.out⟩
              case measure => simp [intOf]; omega
    · obtain rfl : k = len := by omega
      go_wp2_with fail
      go_ret2
      exact ⟨_, _, rfl, AR.out, PR.out, by rw [hN]; exact XR.out⟩
theorem pile_any (r : Int) (R : Nat) (a : Option Addr) (len cap : Nat) (f : Nat → Op2) (w : World) (h : Hid (RowO w a len f)) (hl : len ≤ 200) (hR : Hid (R = roomN r)) :
    Calls Try.prog 13 #[.int .i64 r, .slice a len cap] w fun e w' => ∃ va vp, e = .returned (.tuple #[va, vp]) ∧ OpRow w' va (repA (some r) (opsOf f len)) ∧ WRw w' vp (pileN R (opsOf f len)) ∧ Below w.heap.size w w' := by
  by_cases k : 1000 < r
  · exact pile_hi r R a len cap f w h hl hR k
  · exact pile_lo r R a len cap f w h hl hR k

end Go.Proofs.Ytmdjhjfmnkileaa
