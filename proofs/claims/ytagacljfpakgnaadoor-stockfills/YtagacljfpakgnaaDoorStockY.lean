/-
  The document's Push.
-/
import Derived.Test.YtagacljfpakgnaaDoorStockX
import Derived.Test.YtagacljfpakgnaaDoorGen2
import Derived.Test.YtagacljfpakgnaaDoorSteps
namespace Go.Proofs.YtagacljfpakgnaaDoor
open Go.RowKit Go.Sort
attribute [local go_sem] Oper.semAt_some

theorem BkRow.cat {w : World} {v u : Value} {l : List (Int × Int)} (hv : BkRow w v []) (h : BkRow w u l) (few : l.length ≤ 1048576) (ty : TypeId) :
    ∃ v' w', (Builtin.append_ #[37, 37] ty #[v, u]).run Tryd.prog w = .ok v' w' ∧ BkRow w' v' l ∧ w.grownBy w' v.ownBlock ∧ (v'.ownBlock = v.ownBlock ∨ v'.ownBlock = some w.heap.size) := by
  obtain ⟨i, hi, hz, hs, hb⟩ := info_parts' infoBk
  have h2 := ORow.cat bkEnc (by decide) Tryd.underlying37 hi hz hs hb rfl hv h (by simp; omega) (by unfold maxLen; simp; omega) ty
  rw [List.nil_append] at h2
  exact h2
/-- A row that is made is below nothing that was. -/
theorem fresh_of {w0 w w' : World} {v v' : Value} (hb : Below w0.heap.size w0 w) (hv : ∀ b, v.ownBlock = some b → w0.heap.size ≤ b) (hg : w.grownBy w' v.ownBlock) (ho : v'.ownBlock = v.ownBlock ∨ v'.ownBlock = some w.heap.size) : Below w0.heap.size w0 w' ∧ ∀ b, v'.ownBlock = some b → w0.heap.size ≤ b := by
  have o := Only.of_grown (l := v.ownBlock.toList) hg (fun b hb => by simp [hb])
  refine ⟨hb.trans (o.below (fun b hb => hv b (by simpa using hb)) hb.size), fun b h => ?_⟩
  rcases ho with e | e
  · exact hv b (by rw [← e]; exact h)
  · rw [e] at h; cases h; exact hb.size
theorem BkRow.stay' {w w' : World} {v : Value} {l : List (Int × Int)} {q : Option Nat} (h : BkRow w v l) (hg : w.grownBy w' q) (hn : ∀ b, v.ownBlock = some b → q ≠ some b) : BkRow w' v l :=
  ORow.stay (q := q.toList) h (Only.of_grown hg (fun b hb => by simp [hb])) (fun b hb hm => hn b hb (by simpa using hm))
section
variable (W S B T : Int) (ad : Option Addr) (len cap : Nat) (f : Nat → Int)
set_option maxRecDepth 20000 in
set_option maxHeartbeats 4000000 in
theorem rpush_any (k : Nat) (v : Value) (l : List (Int × Int)) (x : Int × Int) (w : World) (hr : Hid (RowI w ad len f)) (h : Hid (BkRow w v l)) (few : l.length ≤ 1000000) (ok : Hid (ClsOk len f)) (s0 : 0 ≤ S) (s1 : S ≤ 1000) :
    Calls Tryd.prog 25 #[.agg #[.int .i64 W, .int .i64 S, .int .i64 B, .int .i64 T, .slice ad len cap], .int .i64 (k : Nat), v, .agg #[.int .i64 x.1, .int .i64 x.2]] w fun e w' => ∃ v', e = .returned (.tuple #[v', .bool (pushB S len f k l x)]) ∧ BkRow w' v' (pushL S len f k l x) ∧ Below w.heap.size w w' ∧ (v' = v ∨ ∀ b, v'.ownBlock = some b → w.heap.size ≤ b) := by
  obtain ⟨va, vc, rfl⟩ := ORow.form h.out
  have LB : Hid (∀ b, (Value.slice va l.length vc).ownBlock = some b → b < w.heap.size) := Lib.hid (fun b hb => h.out.lt' hb)
  have hb1 := below_alloc w (.cells #[.int .i64 W, .int .i64 S, .int .i64 B, .int .i64 T, .slice ad len cap] 24)
  have hb2 := below_alloc (w.alloc (.cells #[.int .i64 W, .int .i64 S, .int .i64 B, .int .i64 T, .slice ad len cap] 24)) (.cells #[.int .i64 x.1, .int .i64 x.2] 32)
  have HB := Lib.hid (below_after hb1 hb2)
  have HR := Lib.hid (hr.out.next (below_after hb1 hb2))
  have RW := Lib.hid (ORow.next h.out (below_after hb1 hb2))
  have C0 := Lib.hid (cfg_next (cfg_new w W S B T (.slice ad len cap)) hb2)
  have D0' := Two5.new (w.alloc (.cells #[.int .i64 W, .int .i64 S, .int .i64 B, .int .i64 T, .slice ad len cap] 24)) 32 x.1 x.2
  rw [show (w.alloc (.cells #[.int .i64 W, .int .i64 S, .int .i64 B, .int .i64 T, .slice ad len cap] 24)).heap.size = w.heap.size + 1 from by simp] at D0'
  have D0 := Lib.hid D0'
  clear hb1 hb2 D0'
  have HN : Hid (w.heap.size + 1 < ((w.alloc (.cells #[.int .i64 W, .int .i64 S, .int .i64 B, .int .i64 T, .slice ad len cap] 24)).alloc (.cells #[.int .i64 x.1, .int .i64 x.2] 32)).heap.size) := heap_lt D0.out
  go_enter Tryd.func25, Tryd.ntmps25
  go_wp2_with fail
  generalize (w.alloc (.cells #[.int .i64 W, .int .i64 S, .int .i64 B, .int .i64 T, .slice ad len cap] 24)).alloc (.cells #[.int .i64 x.1, .int .i64 x.2] 32) = w0 at *
  obtain ⟨c0, c1, c2, c3, c4⟩ := cfg_cells C0.out
  obtain ⟨b0, b1⟩ := D0.out.cells
  have PU : Hid (pushB S len f k l x = decide (adrI S len f (k : Nat) x.1 x.2 ≠ 0 ∧ x ∉ l) ∧ pushL S len f k l x = if adrI S len f (k : Nat) x.1 x.2 ≠ 0 ∧ x ∉ l then l ++ [x] else l) := Lib.hid ⟨rfl, rfl⟩
  have AD := Lib.hid (fun (y : World) (hb : Below w0.heap.size w0 y) => raddress_any W S B T ad len cap f (k : Nat) x.1 x.2 y (Lib.hid (HR.out.next hb)) ok s0 s1)
  have HA := Lib.hid (fun (y : World) (hb : Below w0.heap.size w0 y) => rhas_any _ l x y (Lib.hid (ORow.next RW.out hb)) (by omega))
  by_cases hz : adrI S len f (k : Nat) x.1 x.2 = 0
  · have g0 : (adrI S len f (k : Nat) x.1 x.2 == 0) = true := by simpa using hz
    generalize adrI S len f (k : Nat) x.1 x.2 = A at *
    go_wp2_with fail
    refine (AD.out _ (Below.refl _ _)).mono ?_
    rintro e w1 ⟨rfl, hb⟩
    have B1 := Lib.hid (HB.out.trans (hb.mono HB.out.size))
    have R1 := Lib.hid (ORow.next RW.out hb)
    clear hb
    go_wp2_with fail
    exact bodyPost_ret (v := .tuple #[.slice va l.length vc, .bool (pushB S len f k l x)]) (by rw [PU.out.1, decide_eq_false (by simp [hz])]; simp [results, Tryd.results25, go_sem]) rfl ⟨_, rfl, by rw [PU.out.2, if_neg (by simp [hz])]; exact R1.out, B1.out, .inl rfl⟩
  · have g0 : (adrI S len f (k : Nat) x.1 x.2 == 0) = false := by simpa using hz
    generalize adrI S len f (k : Nat) x.1 x.2 = A at *
    by_cases hx : x ∈ l
    · simp only [decide_eq_true hx] at HA
      go_wp2_with fail
      refine (AD.out _ (Below.refl _ _)).mono ?_
      rintro e w1 ⟨rfl, hb⟩
      have B1 := Lib.hid (HB.out.trans (hb.mono HB.out.size))
      have HB1 := Lib.hid hb
      have D1 := Lib.hid (D0.out.next hb)
      obtain ⟨b0, b1⟩ := D1.out.cells
      clear hb
      go_wp2_with fail
      refine (HA.out _ HB1.out).mono ?_
      rintro e w2 ⟨rfl, hb⟩
      have B2 := Lib.hid (B1.out.trans (hb.mono B1.out.size))
      have R2 := Lib.hid (ORow.next (ORow.next RW.out HB1.out) hb)
      clear hb
      go_wp2_with fail
      exact bodyPost_ret (v := .tuple #[.slice va l.length vc, .bool (pushB S len f k l x)]) (by rw [PU.out.1, decide_eq_false (by simp [hx])]; simp [results, Tryd.results25, go_sem]) rfl ⟨_, rfl, by rw [PU.out.2, if_neg (by simp [hx])]; exact R2.out, B2.out, .inl rfl⟩
    · simp only [decide_eq_false hx] at HA
      go_wp2_with fail
      refine (AD.out _ (Below.refl _ _)).mono ?_
      rintro e w1 ⟨rfl, hb⟩
      have B1 := Lib.hid (HB.out.trans (hb.mono HB.out.size))
      have HB1 := Lib.hid hb
      have D1 := Lib.hid (D0.out.next hb)
      obtain ⟨b0, b1⟩ := D1.out.cells
      clear hb
      go_wp2_with fail
      refine (HA.out _ HB1.out).mono ?_
      rintro e w2 ⟨rfl, hb⟩
      have B2 := Lib.hid (B1.out.trans (hb.mono B1.out.size))
      have R2 := Lib.hid (ORow.next (ORow.next RW.out HB1.out) hb)
      have D2 := Lib.hid (D1.out.next hb)
      clear hb D1 B1 HB1 D0 C0 HR RW HA AD
      go_upto_region 3 with fail
      refine wp_region_noPanic ?_
      refine wp_region_held_drew (S := fun w' => Two5 w' (w.heap.size + 1) 32 x.1 x.2) (by kernel_rfl) (D2.out) (fun hHeld => ?_)
      have DR := (Below.refl w2.heap.size w2).drew
      have B3 := Lib.hid (B2.out.trans (DR.mono B2.out.size))
      have R3 := Lib.hid (ORow.next R2.out DR)
      have D3 := Lib.hid (D2.out.next DR)
      clear DR B2 R2 D2
      generalize w2.drew = z0 at *
      refine wpAnyH_take (i := 1) (v := .slice va l.length vc) rfl (by kernel_rfl) (by kernel_rfl) (by kernel_rfl) (fun _ _ _ h => h) (Or.inl ⟨by rfl, fun w hSw => by have b0 := two_c0 hSw; have b1 := two_c1 hSw; go_simp⟩) (by assumption) ?_
      change wpAnyH _ _ _ _ _ _ _ (Act.put _ (some 22) _) _
      simp only [Act.put, List.setIfInBounds_toArray, List.set_cons_zero, List.set_cons_succ]
      refine wpAnyH_take (i := 3) (v := .agg #[.int .i64 x.1, .int .i64 x.2]) rfl (by kernel_rfl) (by kernel_rfl) (by kernel_rfl) (fun _ _ _ h => h) (Or.inl ⟨by rfl, fun w hSw => by have b0 := two_c0 hSw; have b1 := two_c1 hSw; go_simp⟩) (by assumption) ?_
      change wpAnyH _ _ _ _ _ _ _ (Act.put _ (some 24) _) _
      simp only [Act.put, List.setIfInBounds_toArray, List.set_cons_zero, List.set_cons_succ]
      refine wpAnyH_ready (rs := [0, 4]) (by kernel_rfl) (by simp) ?_
      refine AllReadyH.cons rfl (fun K hK => ?_) (AllReadyH.cons rfl (fun K hK => ?_) (AllReadyH.nil))
      · refine step_value (v := .slice (some ⟨z0.heap.size, 0, none⟩) 0 0) (w' := z0.alloc (.cells #[] 32)) rfl (by kernel_rfl) ?_
        have hb := box1 z0 (.cells #[] 32)
        have EB1 : Hid (Below w.heap.size w _) := B3.out.trans (hb.mono B3.out.size)
        have ER1 := Lib.hid (ORow.next R3.out hb)
        have ED1 := Lib.hid (D3.out.next hb)
        have EE1 := Lib.hid (BkRow.empty z0)
        have EO1 : Hid (∀ b, (Value.slice (some ⟨z0.heap.size, 0, none⟩) 0 0).ownBlock = some b → w.heap.size + 1 < b) := Lib.hid (fun b e => by cases e; exact heap_lt D3.out)
        clear hb
        refine hK.out _ _ (ED1.out) (fun hHeld1 => ?_)
        clear hK K
        change wpAnyH _ _ _ _ _ _ _ (Act.put _ (some 21) _) _
        simp only [Act.put, List.setIfInBounds_toArray, List.set_cons_zero, List.set_cons_succ]
        generalize z0.alloc (.cells #[] 32) = y1 at *
        generalize z0.heap.size = e1 at *
        refine wpAnyH_ready (rs := [2, 4]) (by kernel_rfl) (by simp) ?_
        refine AllReadyH.cons rfl (fun K hK => ?_) (AllReadyH.cons rfl (fun K hK => ?_) (AllReadyH.nil))
        · obtain ⟨v2, y2, hrun, r1, r2, r3⟩ := BkRow.cat EE1.out ER1.out (by omega) 37
          refine step_append_bk rfl _ _ 37 37 rfl _ _ (by simp [Act.eval]) (by simp [Act.eval]) hrun ?_
          have hf := fresh_of EB1.out (fun b e => by have := EO1.out b e; omega) r2 r3
          have GB2 := Lib.hid hf.1
          have GE2 := Lib.hid r1
          have on2 : Only (Value.slice (some ⟨e1, 0, none⟩) 0 0).ownBlock.toList y1 y2 := Only.of_grown r2 (fun b hb => by simp [hb])
          have GD2 : Hid (Two5 y2 (w.heap.size + 1) 32 x.1 x.2) := on2.at ED1.out (fun hm => by have := EO1.out _ (by simpa using hm); omega)
          have GO2 : Hid (∀ b, v2.ownBlock = some b → w.heap.size + 1 < b) := Lib.hid (fun b e => by
            rcases r3 with h1 | h1
            · rw [h1] at e; exact EO1.out b e
            · rw [h1] at e; cases e; exact heap_lt ED1.out)
          have GR2 := Lib.hid (BkRow.stay' ER1.out r2 (fun b h1 h2 => by have := LB.out b h1; have := EO1.out b h2; omega))
          clear hf on2 hrun r1 r2 r3
          refine hK.out _ _ (GD2.out) (fun hHeld2 => ?_)
          clear hK K
          change wpAnyH _ _ _ _ _ _ _ (Act.put _ (some 23) _) _
          simp only [Act.put, List.setIfInBounds_toArray, List.set_cons_zero, List.set_cons_succ]
          refine wpAnyH_ready (rs := [4]) (by kernel_rfl) (by simp) ?_
          refine AllReadyH.cons rfl (fun K hK => ?_) (AllReadyH.nil)
          go_simp
          have hb := box1 y2 (.cells #[.int .i64 x.1, .int .i64 x.2] 32)
          have BB3 : Hid (Below w.heap.size w _) := GB2.out.trans (hb.mono GB2.out.size)
          have BR3 := Lib.hid (ORow.next GR2.out hb)
          have BD3 := Lib.hid (GD2.out.next hb)
          have BT3 : Hid ((y2.alloc (.cells #[.int .i64 x.1, .int .i64 x.2] 32)).heap[y2.heap.size]? = some (.cells (bkE x).toArray 32 (0, 0))) := heap_new y2 _
          have BE3 := Lib.hid (ORow.next GE2.out hb)
          have BQ3 : Hid (v2.ownBlock ≠ some y2.heap.size) := Lib.hid (fun e => Nat.lt_irrefl _ (BkRow.lt' GE2.out e))
          clear hb
          refine hK.out _ _ (BD3.out) (fun hHeld3 => ?_)
          clear hK K
          generalize y2.alloc (.cells #[.int .i64 x.1, .int .i64 x.2] 32) = y3 at *
          generalize y2.heap.size = q3 at *
          refine wpAnyH_ready (rs := [5]) (by kernel_rfl) (by simp) ?_
          refine AllReadyH.cons rfl (fun K hK => ?_) AllReadyH.nil
          obtain ⟨v4, y4, hrun, r1, r2, r3, bq, cq, hvq⟩ := BkRow.app (vb := q3) (x := x) BE3.out BT3.out (by omega) 37
          refine step_append_bk rfl _ _ 37 37 rfl _ _ (by simp [Act.eval]) (by simp [Act.eval]) hrun ?_
          have hf := fresh_of BB3.out (fun b e => by have := GO2.out b e; omega) r2 r3
          have GB4 := Lib.hid hf.1
          have GE4 := Lib.hid r1
          have on4 : Only v2.ownBlock.toList y3 y4 := Only.of_grown r2 (fun b hb => by simp [hb])
          have GD4 : Hid (Two5 y4 (w.heap.size + 1) 32 x.1 x.2) := on4.at BD3.out (fun hm => by have := GO2.out _ (by simpa using hm); omega)
          have GF4 := Lib.hid hf.2
          clear hf on4 hrun r1 r2 r3
          refine hK.out _ _ (GD4.out) (fun hHeld4 => ?_)
          clear hK K
          change wpAnyH _ _ _ _ _ _ _ (Act.put _ (some 26) _) _
          simp only [Act.put, List.setIfInBounds_toArray, List.set_cons_zero, List.set_cons_succ]
          refine wpAnyH_take (i := 6) (v := v4) rfl (by kernel_rfl) (by kernel_rfl) (by kernel_rfl) (fun _ _ _ h => h) (Or.inl ⟨by rfl, fun w hSw => by have b0 := two_c0 hSw; have b1 := two_c1 hSw; go_simp⟩) (by assumption) ?_
          change wpAnyH _ _ _ _ _ _ _ (Act.put _ (some 8) _) _
          simp only [Act.put, List.setIfInBounds_toArray, List.set_cons_zero, List.set_cons_succ]
          refine wpAnyH_take (i := 7) (v := .bool true) rfl (by kernel_rfl) (by kernel_rfl) (by kernel_rfl) (fun _ _ _ h => h) (Or.inl ⟨by rfl, fun w hSw => by have b0 := two_c0 hSw; have b1 := two_c1 hSw; go_simp⟩) (by assumption) ?_
          change wpAnyH _ _ _ _ _ _ _ (Act.put _ (some 9) _) _
          simp only [Act.put, List.setIfInBounds_toArray, List.set_cons_zero, List.set_cons_succ]
          refine ⟨by kernel_rfl, ?_⟩
          refine NoPanic.normal ?_
          go_wp2_with fail
          exact bodyPost_ret (v := .tuple #[v4, .bool (pushB S len f k l x)]) (by rw [PU.out.1, decide_eq_true ⟨hz, hx⟩]; simp [results, Tryd.results25, go_sem]) rfl ⟨_, rfl, by rw [PU.out.2, if_pos ⟨hz, hx⟩]; exact GE4.out, GB4.out, .inr GF4.out⟩
        · go_simp
          have hb := box1 y1 (.cells #[.int .i64 x.1, .int .i64 x.2] 32)
          have BB5 : Hid (Below w.heap.size w _) := EB1.out.trans (hb.mono EB1.out.size)
          have BR5 := Lib.hid (ORow.next ER1.out hb)
          have BD5 := Lib.hid (ED1.out.next hb)
          have BT5 : Hid ((y1.alloc (.cells #[.int .i64 x.1, .int .i64 x.2] 32)).heap[y1.heap.size]? = some (.cells (bkE x).toArray 32 (0, 0))) := heap_new y1 _
          have BE5 := Lib.hid (ORow.next EE1.out hb)
          have BQ5 : Hid ((Value.slice (some ⟨e1, 0, none⟩) 0 0).ownBlock ≠ some y1.heap.size) := Lib.hid (fun e => Nat.lt_irrefl _ (BkRow.lt' EE1.out e))
          clear hb
          refine hK.out _ _ (BD5.out) (fun hHeld5 => ?_)
          clear hK K
          generalize y1.alloc (.cells #[.int .i64 x.1, .int .i64 x.2] 32) = y5 at *
          generalize y1.heap.size = q5 at *
          refine wpAnyH_ready (rs := [2]) (by kernel_rfl) (by simp) ?_
          refine AllReadyH.cons rfl (fun K hK => ?_) (AllReadyH.nil)
          obtain ⟨v6, y6, hrun, r1, r2, r3⟩ := BkRow.cat BE5.out BR5.out (by omega) 37
          refine step_append_bk rfl _ _ 37 37 rfl _ _ (by simp [Act.eval]) (by simp [Act.eval]) hrun ?_
          have hf := fresh_of BB5.out (fun b e => by have := EO1.out b e; omega) r2 r3
          have GB6 := Lib.hid hf.1
          have GE6 := Lib.hid r1
          have on6 : Only (Value.slice (some ⟨e1, 0, none⟩) 0 0).ownBlock.toList y5 y6 := Only.of_grown r2 (fun b hb => by simp [hb])
          have GD6 : Hid (Two5 y6 (w.heap.size + 1) 32 x.1 x.2) := on6.at BD5.out (fun hm => by have := EO1.out _ (by simpa using hm); omega)
          have GO6 : Hid (∀ b, v6.ownBlock = some b → w.heap.size + 1 < b) := Lib.hid (fun b e => by
            rcases r3 with h1 | h1
            · rw [h1] at e; exact EO1.out b e
            · rw [h1] at e; cases e; exact heap_lt BD5.out)
          have GT6 := Lib.hid (on6.at BT5.out (fun hm => BQ5.out (by simpa using hm)))
          have GQ6 : Hid (v6.ownBlock ≠ some q5) := Lib.hid (fun e => by
            rcases r3 with h1 | h1
            · rw [h1] at e; exact BQ5.out e
            · rw [h1] at e; cases e; exact Nat.lt_irrefl _ (heap_lt BT5.out))
          have GR6 := Lib.hid (BkRow.stay' BR5.out r2 (fun b h1 h2 => by have := LB.out b h1; have := EO1.out b h2; omega))
          clear hf on6 hrun r1 r2 r3
          refine hK.out _ _ (GD6.out) (fun hHeld6 => ?_)
          clear hK K
          change wpAnyH _ _ _ _ _ _ _ (Act.put _ (some 23) _) _
          simp only [Act.put, List.setIfInBounds_toArray, List.set_cons_zero, List.set_cons_succ]
          refine wpAnyH_ready (rs := [5]) (by kernel_rfl) (by simp) ?_
          refine AllReadyH.cons rfl (fun K hK => ?_) AllReadyH.nil
          obtain ⟨v7, y7, hrun, r1, r2, r3, bq, cq, hvq⟩ := BkRow.app (vb := q5) (x := x) GE6.out GT6.out (by omega) 37
          refine step_append_bk rfl _ _ 37 37 rfl _ _ (by simp [Act.eval]) (by simp [Act.eval]) hrun ?_
          have hf := fresh_of GB6.out (fun b e => by have := GO6.out b e; omega) r2 r3
          have GB7 := Lib.hid hf.1
          have GE7 := Lib.hid r1
          have on7 : Only v6.ownBlock.toList y6 y7 := Only.of_grown r2 (fun b hb => by simp [hb])
          have GD7 : Hid (Two5 y7 (w.heap.size + 1) 32 x.1 x.2) := on7.at GD6.out (fun hm => by have := GO6.out _ (by simpa using hm); omega)
          have GF7 := Lib.hid hf.2
          clear hf on7 hrun r1 r2 r3
          refine hK.out _ _ (GD7.out) (fun hHeld7 => ?_)
          clear hK K
          change wpAnyH _ _ _ _ _ _ _ (Act.put _ (some 26) _) _
          simp only [Act.put, List.setIfInBounds_toArray, List.set_cons_zero, List.set_cons_succ]
          refine wpAnyH_take (i := 6) (v := v7) rfl (by kernel_rfl) (by kernel_rfl) (by kernel_rfl) (fun _ _ _ h => h) (Or.inl ⟨by rfl, fun w hSw => by have b0 := two_c0 hSw; have b1 := two_c1 hSw; go_simp⟩) (by assumption) ?_
          change wpAnyH _ _ _ _ _ _ _ (Act.put _ (some 8) _) _
          simp only [Act.put, List.setIfInBounds_toArray, List.set_cons_zero, List.set_cons_succ]
          refine wpAnyH_take (i := 7) (v := .bool true) rfl (by kernel_rfl) (by kernel_rfl) (by kernel_rfl) (fun _ _ _ h => h) (Or.inl ⟨by rfl, fun w hSw => by have b0 := two_c0 hSw; have b1 := two_c1 hSw; go_simp⟩) (by assumption) ?_
          change wpAnyH _ _ _ _ _ _ _ (Act.put _ (some 9) _) _
          simp only [Act.put, List.setIfInBounds_toArray, List.set_cons_zero, List.set_cons_succ]
          refine ⟨by kernel_rfl, ?_⟩
          refine NoPanic.normal ?_
          go_wp2_with fail
          exact bodyPost_ret (v := .tuple #[v7, .bool (pushB S len f k l x)]) (by rw [PU.out.1, decide_eq_true ⟨hz, hx⟩]; simp [results, Tryd.results25, go_sem]) rfl ⟨_, rfl, by rw [PU.out.2, if_pos ⟨hz, hx⟩]; exact GE7.out, GB7.out, .inr GF7.out⟩
      · go_simp
        have hb := box1 z0 (.cells #[.int .i64 x.1, .int .i64 x.2] 32)
        have BB8 : Hid (Below w.heap.size w _) := B3.out.trans (hb.mono B3.out.size)
        have BR8 := Lib.hid (ORow.next R3.out hb)
        have BD8 := Lib.hid (D3.out.next hb)
        have BT8 : Hid ((z0.alloc (.cells #[.int .i64 x.1, .int .i64 x.2] 32)).heap[z0.heap.size]? = some (.cells (bkE x).toArray 32 (0, 0))) := heap_new z0 _
        clear hb
        refine hK.out _ _ (BD8.out) (fun hHeld8 => ?_)
        clear hK K
        generalize z0.alloc (.cells #[.int .i64 x.1, .int .i64 x.2] 32) = y8 at *
        generalize z0.heap.size = q8 at *
        refine wpAnyH_ready (rs := [0]) (by kernel_rfl) (by simp) ?_
        refine AllReadyH.cons rfl (fun K hK => ?_) (AllReadyH.nil)
        refine step_value (v := .slice (some ⟨y8.heap.size, 0, none⟩) 0 0) (w' := y8.alloc (.cells #[] 32)) rfl (by kernel_rfl) ?_
        have hb := box1 y8 (.cells #[] 32)
        have EB9 : Hid (Below w.heap.size w _) := BB8.out.trans (hb.mono BB8.out.size)
        have ER9 := Lib.hid (ORow.next BR8.out hb)
        have ED9 := Lib.hid (BD8.out.next hb)
        have EE9 := Lib.hid (BkRow.empty y8)
        have EO9 : Hid (∀ b, (Value.slice (some ⟨y8.heap.size, 0, none⟩) 0 0).ownBlock = some b → w.heap.size + 1 < b) := Lib.hid (fun b e => by cases e; exact heap_lt BD8.out)
        have ET9 := Lib.hid ((hb.block _ (heap_lt BT8.out)).trans BT8.out)
        have EQ9 : Hid ((Value.slice (some ⟨y8.heap.size, 0, none⟩) 0 0).ownBlock ≠ some q8) := Lib.hid (fun e => by cases e; exact Nat.lt_irrefl _ (heap_lt BT8.out))
        clear hb
        refine hK.out _ _ (ED9.out) (fun hHeld9 => ?_)
        clear hK K
        change wpAnyH _ _ _ _ _ _ _ (Act.put _ (some 21) _) _
        simp only [Act.put, List.setIfInBounds_toArray, List.set_cons_zero, List.set_cons_succ]
        generalize y8.alloc (.cells #[] 32) = y9 at *
        generalize y8.heap.size = e9 at *
        refine wpAnyH_ready (rs := [2]) (by kernel_rfl) (by simp) ?_
        refine AllReadyH.cons rfl (fun K hK => ?_) (AllReadyH.nil)
        obtain ⟨v10, y10, hrun, r1, r2, r3⟩ := BkRow.cat EE9.out ER9.out (by omega) 37
        refine step_append_bk rfl _ _ 37 37 rfl _ _ (by simp [Act.eval]) (by simp [Act.eval]) hrun ?_
        have hf := fresh_of EB9.out (fun b e => by have := EO9.out b e; omega) r2 r3
        have GB10 := Lib.hid hf.1
        have GE10 := Lib.hid r1
        have on10 : Only (Value.slice (some ⟨e9, 0, none⟩) 0 0).ownBlock.toList y9 y10 := Only.of_grown r2 (fun b hb => by simp [hb])
        have GD10 : Hid (Two5 y10 (w.heap.size + 1) 32 x.1 x.2) := on10.at ED9.out (fun hm => by have := EO9.out _ (by simpa using hm); omega)
        have GO10 : Hid (∀ b, v10.ownBlock = some b → w.heap.size + 1 < b) := Lib.hid (fun b e => by
          rcases r3 with h1 | h1
          · rw [h1] at e; exact EO9.out b e
          · rw [h1] at e; cases e; exact heap_lt ED9.out)
        have GT10 := Lib.hid (on10.at ET9.out (fun hm => EQ9.out (by simpa using hm)))
        have GQ10 : Hid (v10.ownBlock ≠ some q8) := Lib.hid (fun e => by
          rcases r3 with h1 | h1
          · rw [h1] at e; exact EQ9.out e
          · rw [h1] at e; cases e; exact Nat.lt_irrefl _ (heap_lt ET9.out))
        have GR10 := Lib.hid (BkRow.stay' ER9.out r2 (fun b h1 h2 => by have := LB.out b h1; have := EO9.out b h2; omega))
        clear hf on10 hrun r1 r2 r3
        refine hK.out _ _ (GD10.out) (fun hHeld10 => ?_)
        clear hK K
        change wpAnyH _ _ _ _ _ _ _ (Act.put _ (some 23) _) _
        simp only [Act.put, List.setIfInBounds_toArray, List.set_cons_zero, List.set_cons_succ]
        refine wpAnyH_ready (rs := [5]) (by kernel_rfl) (by simp) ?_
        refine AllReadyH.cons rfl (fun K hK => ?_) AllReadyH.nil
        obtain ⟨v11, y11, hrun, r1, r2, r3, bq, cq, hvq⟩ := BkRow.app (vb := q8) (x := x) GE10.out GT10.out (by omega) 37
        refine step_append_bk rfl _ _ 37 37 rfl _ _ (by simp [Act.eval]) (by simp [Act.eval]) hrun ?_
        have hf := fresh_of GB10.out (fun b e => by have := GO10.out b e; omega) r2 r3
        have GB11 := Lib.hid hf.1
        have GE11 := Lib.hid r1
        have on11 : Only v10.ownBlock.toList y10 y11 := Only.of_grown r2 (fun b hb => by simp [hb])
        have GD11 : Hid (Two5 y11 (w.heap.size + 1) 32 x.1 x.2) := on11.at GD10.out (fun hm => by have := GO10.out _ (by simpa using hm); omega)
        have GF11 := Lib.hid hf.2
        clear hf on11 hrun r1 r2 r3
        refine hK.out _ _ (GD11.out) (fun hHeld11 => ?_)
        clear hK K
        change wpAnyH _ _ _ _ _ _ _ (Act.put _ (some 26) _) _
        simp only [Act.put, List.setIfInBounds_toArray, List.set_cons_zero, List.set_cons_succ]
        refine wpAnyH_take (i := 6) (v := v11) rfl (by kernel_rfl) (by kernel_rfl) (by kernel_rfl) (fun _ _ _ h => h) (Or.inl ⟨by rfl, fun w hSw => by have b0 := two_c0 hSw; have b1 := two_c1 hSw; go_simp⟩) (by assumption) ?_
        change wpAnyH _ _ _ _ _ _ _ (Act.put _ (some 8) _) _
        simp only [Act.put, List.setIfInBounds_toArray, List.set_cons_zero, List.set_cons_succ]
        refine wpAnyH_take (i := 7) (v := .bool true) rfl (by kernel_rfl) (by kernel_rfl) (by kernel_rfl) (fun _ _ _ h => h) (Or.inl ⟨by rfl, fun w hSw => by have b0 := two_c0 hSw; have b1 := two_c1 hSw; go_simp⟩) (by assumption) ?_
        change wpAnyH _ _ _ _ _ _ _ (Act.put _ (some 9) _) _
        simp only [Act.put, List.setIfInBounds_toArray, List.set_cons_zero, List.set_cons_succ]
        refine ⟨by kernel_rfl, ?_⟩
        refine NoPanic.normal ?_
        go_wp2_with fail
        exact bodyPost_ret (v := .tuple #[v11, .bool (pushB S len f k l x)]) (by rw [PU.out.1, decide_eq_true ⟨hz, hx⟩]; simp [results, Tryd.results25, go_sem]) rfl ⟨_, rfl, by rw [PU.out.2, if_pos ⟨hz, hx⟩]; exact GE11.out, GB11.out, .inr GF11.out⟩
end
end Go.Proofs.YtagacljfpakgnaaDoor
