/-
  Contracts of the document's own answers of layer 6: Put, Drop.
-/
import Derived.Test.YtjlklkaaonfpdaaSpan13
namespace Go.Proofs.Ytjlklkaaonfpdaa
open Go.RowKit Go.Sort

/-- All of a row behind nothing. -/
theorem app_first {w : World} {B e : Nat} {u : Value} {m : List Iv} (hown : w.ownsRow B 56 2 (.slice (some ⟨e, 0, none⟩) 0 0) 0 []) (hr : IvRow w u m) (few : m.length ≤ 100000) (hB : B ≤ w.heap.size) (ty : TypeId) :
    ∃ v' w', (Builtin.append_ #[52, 52] ty #[.slice (some ⟨e, 0, none⟩) 0 0, u]).run Try.prog w = .ok v' w' ∧ w'.ownsRow B 56 2 v' m.length (ivs m) ∧ w.grownBy w' (some e) := by
  obtain ⟨inf, hq, hsz, hz, hby⟩ := infoI
  rcases hr.cases with ⟨rfl, rfl⟩ | ⟨b, cap, cur, rfl, hb⟩
  · refine ⟨.slice (some ⟨e, 0, none⟩) 0 0, w, ?_, hown, ⟨rfl, rfl, rfl, Nat.le_refl _, fun _ _ _ => rfl⟩⟩
    simp [Builtin.append_, run_underlying Try.underlying52, Go.sizeOf, typeInfo, hq, Builtin.lenOf, Builtin.firstCells, storeCells]
  · obtain ⟨v', w', h1, h2, h3, _⟩ := run_append_own_at (P := Try.prog) w B 52 ty 56 inf _ 2 16 Try.underlying52 hq hz hsz hby rfl (by omega) _ 0 [] hown ⟨b, 0, none⟩ m.length cap (ivs m) (ivs_len m) (fun j u hj => by rw [Addr.add_lit, Nat.zero_add]; exact hb.cell hj) (ivs_one _) (by unfold maxLen; omega) (by omega) hB
    rw [Nat.zero_add, List.nil_append] at h2
    exact ⟨v', w', h1, h2, h3⟩
/-- One more. -/
theorem app_second {w : World} {B vb : Nat} {v : Value} {m : List Iv} {x : Iv} (hown : w.ownsRow B 56 2 v m.length (ivs m)) (hv : w.heap[vb]? = some (.cells #[.int .i64 x.1, .int .i64 x.2] 56 (0, 0))) (few : m.length ≤ 100000) (hB : B ≤ w.heap.size) (ty : TypeId) :
    ∃ v' w', (Builtin.append_ #[52, 52] ty #[v, .slice (some ⟨vb, 0, none⟩) 1 1]).run Try.prog w = .ok v' w' ∧ w'.ownsRow B 56 2 v' (m ++ [x]).length (ivs (m ++ [x])) ∧ w.grownBy w' v.ownBlock := by
  obtain ⟨inf, hq, hsz, hz, hby⟩ := infoI
  obtain ⟨v', w', h1, h2, h3, _⟩ := run_append_own_at (P := Try.prog) w B 52 ty 56 inf _ 2 16 Try.underlying52 hq hz hsz hby rfl (by omega) v m.length (ivs m) hown ⟨vb, 0, none⟩ 1 1 (ivs [x]) rfl (news_one hv) (ivs_one _) (by unfold maxLen; omega) (by omega) hB
  refine ⟨v', w', h1, ?_, h3⟩
  rw [ivs_app, List.length_append]; exact h2
theorem below_of_grown {B : Nat} {w w1 w2 : World} {r : Option Nat} (h : Below B w w1) (hg : w1.grownBy w2 r) (hB : B ≤ w1.heap.size) (hr : ∀ k, r = some k → B ≤ k) : Below B w w2 := h.grown hg hB hr

def rputB (m : List Iv) (x : Iv) : Bool := mayI x && !anyB m x
set_option maxRecDepth 20000 in
set_option maxHeartbeats 4000000 in
theorem rput_any (u : Value) (m : List Iv) (x y : Int) (w : World) (hr : Hid (IvRow w u m)) (few : m.length ≤ 100000) (hok : Hid (∀ z ∈ m, 0 ≤ z.1 ∧ z.1 ≤ 1099511627776)) :
    Calls Try.prog 37 #[u, .agg #[.int .i64 x, .int .i64 y]] w fun e w' => ∃ u', e = .returned (.tuple #[u', .bool (rputB m (x, y))]) ∧
      (rputB m (x, y) = true → IvRow w' u' (m ++ [(x, y)]) ∧ (∀ k, u'.ownBlock = some k → w.heap.size ≤ k) ∧ Below w.heap.size w w') ∧ (rputB m (x, y) = false → u' = u ∧ Below w.heap.size w w') := by
  have b1 := below_alloc w (.cells #[.int .i64 x, .int .i64 y] 56)
  have B1 := Lib.hid b1
  have D1 := Lib.hid (Duo6.new w x y)
  have R1 := Lib.hid (hr.out.below b1)
  clear b1
  by_cases h0 : x < 0
  · have d0 : decide (x < 0) = true := by simpa using h0
    have HV : Hid (rputB m (x, y) = false) := by show _ = _; unfold rputB; rw [show mayI (x, y) = false from by simp [mayI]; omega]; rfl
    go_enter Try.func37, Try.ntmps37
    go_wp2_with fail
    go_ret2
    exact ⟨u, by rw [HV.out]; first | done | rfl, fun h => by rw [HV.out] at h; (cases h), fun _ => ⟨rfl, B1.out⟩⟩
  · have d0 : decide (x < 0) = false := by simpa using h0
    by_cases h1 : y < 1
    · have d1 : decide (y < 1) = true := by simpa using h1
      have HV : Hid (rputB m (x, y) = false) := by show _ = _; unfold rputB; rw [show mayI (x, y) = false from by simp [mayI]; omega]; rfl
      go_enter Try.func37, Try.ntmps37
      go_wp2_with fail
      go_ret2
      exact ⟨u, by rw [HV.out]; first | done | rfl, fun h => by rw [HV.out] at h; (cases h), fun _ => ⟨rfl, B1.out⟩⟩
    · have d1 : decide (y < 1) = false := by simpa using h1
      by_cases h2 : 1099511627776 < x
      · have d2 : decide (1099511627776 < x) = true := by simpa using h2
        have HV : Hid (rputB m (x, y) = false) := by show _ = _; unfold rputB; rw [show mayI (x, y) = false from by simp [mayI]; omega]; rfl
        go_enter Try.func37, Try.ntmps37
        go_wp2_with fail
        go_ret2
        exact ⟨u, by rw [HV.out]; first | done | rfl, fun h => by rw [HV.out] at h; (cases h), fun _ => ⟨rfl, B1.out⟩⟩
      · have d2 : decide (1099511627776 < x) = false := by simpa using h2
        by_cases h3 : 1099511627776 < y
        · have d3 : decide (1099511627776 < y) = true := by simpa using h3
          have HV : Hid (rputB m (x, y) = false) := by show _ = _; unfold rputB; rw [show mayI (x, y) = false from by simp [mayI]; omega]; rfl
          go_enter Try.func37, Try.ntmps37
          go_wp2_with fail
          go_ret2
          exact ⟨u, by rw [HV.out]; first | done | rfl, fun h => by rw [HV.out] at h; (cases h), fun _ => ⟨rfl, B1.out⟩⟩
        · have d3 : decide (1099511627776 < y) = false := by simpa using h3
          have hmay : mayI (x, y) = true := by simp [mayI]; omega
          have HMY := Lib.hid hmay
          clear hmay
          go_enter Try.func37, Try.ntmps37
          go_wp2_with fail
          generalize w.alloc (.cells #[.int .i64 x, .int .i64 y] 56) = w1 at *
          generalize hN : w.heap.size = N at *
          have HN : Hid (∀ w', Below N w w' → Below w.heap.size w w') := fun w' h => by rw [hN]; exact h
          obtain ⟨e0, e1⟩ := D1.out.cells
          refine (rany_any u m x y _ R1 few hok (by omega) (by omega)).mono ?_
          rintro e wb ⟨rfl, hb⟩
          have B3 := Lib.hid (Below.trans B1.out (hb.mono (by rw [← hN]; exact B1.out.size)))
          have D3 := Lib.hid (D1.out.next hb)
          have R3 := Lib.hid (R1.out.below hb)
          clear hb D1 R1 e0 e1
          obtain ⟨e0, e1⟩ := D3.out.cells
          rcases hov : anyB m (x, y) with _ | _
          · have HV : Hid (rputB m (x, y) = true) := by show _ = _; unfold rputB; rw [HMY.out, hov]; rfl
            clear hov
            go_wp2_with fail
            go_cut [4, 5] (fun v4 v5 wx => v5 = .bool true ∧ IvRow wx v4 (m ++ [(x, y)]) ∧ Below wb.heap.size wb wx ∧ ∀ k, v4.ownBlock = some k → wb.heap.size ≤ k)
            case first =>
              refine wp_region_noPanic ?_
              refine wp_region_held_drew (S := fun w' => Below wb.heap.size wb w') (by kernel_rfl) ((Below.refl _ _).drew) (fun hHeld0 => ?_)
              have B0 : Hid (Below wb.heap.size wb wb.drew) := (Below.refl _ _).drew
              have R0 : Hid (IvRow wb.drew u m) := R3.out
              generalize wb.drew = wr at *
              refine wpAnyH_take (i := 1) (v := u) rfl (by kernel_rfl) (by kernel_rfl) (by kernel_rfl) (fun _ _ _ h => h) (Or.inl ⟨by rfl, fun w hSw => by go_simp⟩) (by assumption) ?_
              change wpAnyH _ _ _ _ _ _ _ (Act.put _ (some 31) _) _
              simp only [Act.put, List.setIfInBounds_toArray, List.set_cons_zero, List.set_cons_succ]
              refine wpAnyH_take (i := 3) (v := .agg #[.int .i64 x, .int .i64 y]) rfl (by kernel_rfl) (by kernel_rfl) (by kernel_rfl) (fun _ _ _ h => h) (Or.inl ⟨by rfl, fun w hSw => by obtain ⟨s0, s1⟩ := (D3.out.next hSw).cells; go_simp⟩) (by assumption) ?_
              change wpAnyH _ _ _ _ _ _ _ (Act.put _ (some 33) _) _
              simp only [Act.put, List.setIfInBounds_toArray, List.set_cons_zero, List.set_cons_succ]
              refine wpAnyH_ready (rs := [0, 4]) (by kernel_rfl) (by simp) ?_
              refine AllReadyH.cons rfl (fun K hK => ?_) (AllReadyH.cons rfl (fun K hK => ?_) AllReadyH.nil)
              · have B1 := Lib.hid (below_after B0.out (below_alloc wr (.cells #[] 56)))
                have O0 := Lib.hid (World.ownsRow_made (base := wb.heap.size) (e := 56) (size := 2) wr #[] 0 B0.out.size (Nat.zero_le _) rfl)
                have R1 := Lib.hid (R0.out.below (below_alloc wr (.cells #[] 56)))
                have E0 : Hid (wb.heap.size ≤ wr.heap.size) := B0.out.size
                go_simp
                refine hK.out _ _ B1.out (fun hHeld1 => ?_)
                clear hK K
                generalize wr.alloc (.cells #[] 56) = u0 at *
                generalize wr.heap.size = en at *
                refine wpAnyH_ready (rs := [2, 4]) (by kernel_rfl) (by simp) ?_
                refine AllReadyH.cons rfl (fun K hK => ?_) (AllReadyH.cons rfl (fun K hK => ?_) AllReadyH.nil)
                · obtain ⟨v1, u1, hrun, hown, hgr⟩ := app_first O0.out R1.out few B1.out.size 52
                  have B2 := Lib.hid (below_of_grown B1.out hgr B1.out.size (fun k hk => by cases hk; exact E0.out))
                  have O1 := Lib.hid hown
                  refine step_append_eq rfl _ _ 52 52 rfl _ _ (by simp [Act.eval]) (by simp [Act.eval]) hrun ?_
                  refine hK.out _ _ B2.out (fun hHeld2 => ?_)
                  clear hK K hown hgr hrun
                  change wpAnyH _ _ _ _ _ _ _ (Act.put _ (some 32) _) _
                  simp only [Act.put, List.setIfInBounds_toArray, List.set_cons_zero, List.set_cons_succ]
                  refine wpAnyH_ready (rs := [4]) (by kernel_rfl) (by simp) ?_
                  refine AllReadyH.cons rfl (fun K hK => ?_) AllReadyH.nil
                  · have B3 := Lib.hid (below_after B2.out (below_alloc u1 (.cells #[.int .i64 x, .int .i64 y] 56)))
                    have V2 := Lib.hid (heap_at u1 (.cells #[.int .i64 x, .int .i64 y] 56))
                    have O2 := Lib.hid (O1.out.alloc (.cells #[.int .i64 x, .int .i64 y] 56))
                    go_simp
                    refine hK.out _ _ B3.out (fun hHeld3 => ?_)
                    clear hK K
                    generalize u1.alloc (.cells #[.int .i64 x, .int .i64 y] 56) = u2 at *
                    generalize u1.heap.size = vb at *
                    refine wpAnyH_ready (rs := [5]) (by kernel_rfl) (by simp) ?_
                    refine AllReadyH.cons rfl (fun K hK => ?_) AllReadyH.nil
                    obtain ⟨v2, uz, hrun, hown, hgr⟩ := app_second (x := (x, y)) O2.out V2.out few B3.out.size 52
                    have BZ := Lib.hid (below_of_grown B3.out hgr B3.out.size (fun k hk => (O2.out.lt k hk).1))
                    have OZ := Lib.hid hown
                    refine step_append_eq rfl _ _ 52 52 rfl _ _ (by simp [Act.eval]) (by simp [Act.eval]) hrun ?_
                    refine hK.out _ _ BZ.out (fun hHeldz => ?_)
                    clear hK K hown hgr hrun
                    change wpAnyH _ _ _ _ _ _ _ (Act.put _ (some 35) _) _
                    simp only [Act.put, List.setIfInBounds_toArray, List.set_cons_zero, List.set_cons_succ]
                    refine wpAnyH_take (i := 6) (v := v2) rfl (by kernel_rfl) (by kernel_rfl) (by kernel_rfl) (fun _ _ _ h => h) (Or.inl ⟨by rfl, fun w hSw => by go_simp⟩) (by assumption) ?_
                    change wpAnyH _ _ _ _ _ _ _ (Act.put _ (some 4) _) _
                    simp only [Act.put, List.setIfInBounds_toArray, List.set_cons_zero, List.set_cons_succ]
                    refine wpAnyH_take (i := 7) (v := .bool true) rfl (by kernel_rfl) (by kernel_rfl) (by kernel_rfl) (fun _ _ _ h => h) (Or.inl ⟨by rfl, fun w hSw => by go_simp⟩) (by assumption) ?_
                    change wpAnyH _ _ _ _ _ _ _ (Act.put _ (some 5) _) _
                    simp only [Act.put, List.setIfInBounds_toArray, List.set_cons_zero, List.set_cons_succ]
                    refine wpAnyH_done (by kernel_rfl) ?_ _
                    refine NoPanic.normal ?_
                    go_wp2_with fail
                    go_meet
                    case rel => exact ⟨rfl, (row_of_base OZ.out).1, BZ.out, (row_of_base OZ.out).2⟩
                · have B2 := Lib.hid (below_after B1.out (below_alloc u0 (.cells #[.int .i64 x, .int .i64 y] 56)))
                  have V1 := Lib.hid (heap_at u0 (.cells #[.int .i64 x, .int .i64 y] 56))
                  have R2 := Lib.hid (R1.out.below (below_alloc u0 (.cells #[.int .i64 x, .int .i64 y] 56)))
                  have O1 := Lib.hid (O0.out.alloc (.cells #[.int .i64 x, .int .i64 y] 56))
                  have N1 : Hid (u0.heap.size ≠ en) := by have := (O0.out.lt en rfl).2; show u0.heap.size ≠ en; omega
                  go_simp
                  refine hK.out _ _ B2.out (fun hHeld2 => ?_)
                  clear hK K
                  generalize u0.alloc (.cells #[.int .i64 x, .int .i64 y] 56) = u1 at *
                  generalize u0.heap.size = vb at *
                  refine wpAnyH_ready (rs := [2]) (by kernel_rfl) (by simp) ?_
                  refine AllReadyH.cons rfl (fun K hK => ?_) AllReadyH.nil
                  · obtain ⟨v1, u2, hrun, hown, hgr⟩ := app_first O1.out R2.out few B2.out.size 52
                    have B3 := Lib.hid (below_of_grown B2.out hgr B2.out.size (fun k hk => by cases hk; exact E0.out))
                    have O2 := Lib.hid hown
                    have V2 := Lib.hid ((hgr.block vb (Array.getElem?_eq_some_iff.1 V1.out).1 (fun h => by cases h; exact N1.out rfl)).trans V1.out)
                    refine step_append_eq rfl _ _ 52 52 rfl _ _ (by simp [Act.eval]) (by simp [Act.eval]) hrun ?_
                    refine hK.out _ _ B3.out (fun hHeld3 => ?_)
                    clear hK K hown hgr hrun
                    change wpAnyH _ _ _ _ _ _ _ (Act.put _ (some 32) _) _
                    simp only [Act.put, List.setIfInBounds_toArray, List.set_cons_zero, List.set_cons_succ]
                    refine wpAnyH_ready (rs := [5]) (by kernel_rfl) (by simp) ?_
                    refine AllReadyH.cons rfl (fun K hK => ?_) AllReadyH.nil
                    obtain ⟨v2, uz, hrun, hown, hgr⟩ := app_second (x := (x, y)) O2.out V2.out few B3.out.size 52
                    have BZ := Lib.hid (below_of_grown B3.out hgr B3.out.size (fun k hk => (O2.out.lt k hk).1))
                    have OZ := Lib.hid hown
                    refine step_append_eq rfl _ _ 52 52 rfl _ _ (by simp [Act.eval]) (by simp [Act.eval]) hrun ?_
                    refine hK.out _ _ BZ.out (fun hHeldz => ?_)
                    clear hK K hown hgr hrun
                    change wpAnyH _ _ _ _ _ _ _ (Act.put _ (some 35) _) _
                    simp only [Act.put, List.setIfInBounds_toArray, List.set_cons_zero, List.set_cons_succ]
                    refine wpAnyH_take (i := 6) (v := v2) rfl (by kernel_rfl) (by kernel_rfl) (by kernel_rfl) (fun _ _ _ h => h) (Or.inl ⟨by rfl, fun w hSw => by go_simp⟩) (by assumption) ?_
                    change wpAnyH _ _ _ _ _ _ _ (Act.put _ (some 4) _) _
                    simp only [Act.put, List.setIfInBounds_toArray, List.set_cons_zero, List.set_cons_succ]
                    refine wpAnyH_take (i := 7) (v := .bool true) rfl (by kernel_rfl) (by kernel_rfl) (by kernel_rfl) (fun _ _ _ h => h) (Or.inl ⟨by rfl, fun w hSw => by go_simp⟩) (by assumption) ?_
                    change wpAnyH _ _ _ _ _ _ _ (Act.put _ (some 5) _) _
                    simp only [Act.put, List.setIfInBounds_toArray, List.set_cons_zero, List.set_cons_succ]
                    refine wpAnyH_done (by kernel_rfl) ?_ _
                    refine NoPanic.normal ?_
                    go_wp2_with fail
                    go_meet
                    case rel => exact ⟨rfl, (row_of_base OZ.out).1, BZ.out, (row_of_base OZ.out).2⟩
              · have B1 := Lib.hid (below_after B0.out (below_alloc wr (.cells #[.int .i64 x, .int .i64 y] 56)))
                have V0 := Lib.hid (heap_at wr (.cells #[.int .i64 x, .int .i64 y] 56))
                have R1 := Lib.hid (R0.out.below (below_alloc wr (.cells #[.int .i64 x, .int .i64 y] 56)))
                go_simp
                refine hK.out _ _ B1.out (fun hHeld1 => ?_)
                clear hK K
                generalize wr.alloc (.cells #[.int .i64 x, .int .i64 y] 56) = u0 at *
                generalize wr.heap.size = vb at *
                refine wpAnyH_ready (rs := [0]) (by kernel_rfl) (by simp) ?_
                refine AllReadyH.cons rfl (fun K hK => ?_) AllReadyH.nil
                · have B2 := Lib.hid (below_after B1.out (below_alloc u0 (.cells #[] 56)))
                  have O1 := Lib.hid (World.ownsRow_made (base := wb.heap.size) (e := 56) (size := 2) u0 #[] 0 B1.out.size (Nat.zero_le _) rfl)
                  have R2 := Lib.hid (R1.out.below (below_alloc u0 (.cells #[] 56)))
                  have E1 : Hid (wb.heap.size ≤ u0.heap.size) := B1.out.size
                  have V1 := Lib.hid (((below_alloc u0 (.cells #[] 56)).block _ (Array.getElem?_eq_some_iff.1 V0.out).1).trans V0.out)
                  have N1 : Hid (vb ≠ u0.heap.size) := by have := (Array.getElem?_eq_some_iff.1 V0.out).1; show vb ≠ u0.heap.size; omega
                  go_simp
                  refine hK.out _ _ B2.out (fun hHeld2 => ?_)
                  clear hK K
                  generalize u0.alloc (.cells #[] 56) = u1 at *
                  generalize u0.heap.size = en at *
                  refine wpAnyH_ready (rs := [2]) (by kernel_rfl) (by simp) ?_
                  refine AllReadyH.cons rfl (fun K hK => ?_) AllReadyH.nil
                  · obtain ⟨v1, u2, hrun, hown, hgr⟩ := app_first O1.out R2.out few B2.out.size 52
                    have B3 := Lib.hid (below_of_grown B2.out hgr B2.out.size (fun k hk => by cases hk; exact E1.out))
                    have O2 := Lib.hid hown
                    have V2 := Lib.hid ((hgr.block vb (Array.getElem?_eq_some_iff.1 V1.out).1 (fun h => by cases h; exact N1.out rfl)).trans V1.out)
                    refine step_append_eq rfl _ _ 52 52 rfl _ _ (by simp [Act.eval]) (by simp [Act.eval]) hrun ?_
                    refine hK.out _ _ B3.out (fun hHeld3 => ?_)
                    clear hK K hown hgr hrun
                    change wpAnyH _ _ _ _ _ _ _ (Act.put _ (some 32) _) _
                    simp only [Act.put, List.setIfInBounds_toArray, List.set_cons_zero, List.set_cons_succ]
                    refine wpAnyH_ready (rs := [5]) (by kernel_rfl) (by simp) ?_
                    refine AllReadyH.cons rfl (fun K hK => ?_) AllReadyH.nil
                    obtain ⟨v2, uz, hrun, hown, hgr⟩ := app_second (x := (x, y)) O2.out V2.out few B3.out.size 52
                    have BZ := Lib.hid (below_of_grown B3.out hgr B3.out.size (fun k hk => (O2.out.lt k hk).1))
                    have OZ := Lib.hid hown
                    refine step_append_eq rfl _ _ 52 52 rfl _ _ (by simp [Act.eval]) (by simp [Act.eval]) hrun ?_
                    refine hK.out _ _ BZ.out (fun hHeldz => ?_)
                    clear hK K hown hgr hrun
                    change wpAnyH _ _ _ _ _ _ _ (Act.put _ (some 35) _) _
                    simp only [Act.put, List.setIfInBounds_toArray, List.set_cons_zero, List.set_cons_succ]
                    refine wpAnyH_take (i := 6) (v := v2) rfl (by kernel_rfl) (by kernel_rfl) (by kernel_rfl) (fun _ _ _ h => h) (Or.inl ⟨by rfl, fun w hSw => by go_simp⟩) (by assumption) ?_
                    change wpAnyH _ _ _ _ _ _ _ (Act.put _ (some 4) _) _
                    simp only [Act.put, List.setIfInBounds_toArray, List.set_cons_zero, List.set_cons_succ]
                    refine wpAnyH_take (i := 7) (v := .bool true) rfl (by kernel_rfl) (by kernel_rfl) (by kernel_rfl) (fun _ _ _ h => h) (Or.inl ⟨by rfl, fun w hSw => by go_simp⟩) (by assumption) ?_
                    change wpAnyH _ _ _ _ _ _ _ (Act.put _ (some 5) _) _
                    simp only [Act.put, List.setIfInBounds_toArray, List.set_cons_zero, List.set_cons_succ]
                    refine wpAnyH_done (by kernel_rfl) ?_ _
                    refine NoPanic.normal ?_
                    go_wp2_with fail
                    go_meet
                    case rel => exact ⟨rfl, (row_of_base OZ.out).1, BZ.out, (row_of_base OZ.out).2⟩
            case rest =>
              obtain ⟨rfl, h1, h2, h3⟩ := hcut
              have HE := Lib.hid (B3.out.trans (h2.mono (by rw [← hN]; exact B3.out.size)))
              have H1 := Lib.hid h1
              have H3 := Lib.hid (fun k hk => Nat.le_trans (show N ≤ wb.heap.size by rw [← hN]; exact B3.out.size) (h3 k hk))
              clear h1 h2 h3
              go_wp2_with fail
              go_ret2
              exact ⟨_, by rw [HV.out]; first | done | rfl, fun _ => ⟨H1.out, by have := H3.out; simpa [hN] using this, HN.out _ HE.out⟩, fun h => by rw [HV.out] at h; cases h⟩
          · have HV : Hid (rputB m (x, y) = false) := by show _ = _; unfold rputB; rw [hov]; simp
            clear hov
            go_wp2_with fail
            go_ret2
            exact ⟨u, by rw [HV.out]; first | done | rfl, fun h => by rw [HV.out] at h; (cases h), fun _ => ⟨rfl, HN.out _ B3.out⟩⟩

end Go.Proofs.Ytjlklkaaonfpdaa
