/-
  Package live: All, all that is live, by rising addresses.
-/
import Derived.Test.YtchkgmknhndccaaDoorLive4
import Derived.Test.YtchkgmknhndccaaDoorGen1
import Derived.Test.YtchkgmknhndccaaDoorSteps
namespace Go.Proofs.YtchkgmknhndccaaDoor
open Go.RowKit Go.Sort

/-- A row of intervals. -/
def ivE (x : Int × Int) : List Value := [.int .i64 x.1, .int .i64 x.2]
theorem ivEnc : Enc 2 ivE := ⟨fun _ => rfl, fun x v hv => by simp [ivE] at hv; rcases hv with rfl | rfl <;> rfl⟩
def IvR (w : World) (v : Value) (l : List (Int × Int)) : Prop := ORow 46 2 ivE w v l
theorem infoIv : (Tryd.prog.info? 46).map (fun i => (i.zero, i.size, i.bytes)) = some (some (.agg #[.int .i64 0, .int .i64 0]), 2, 16) := by kernel_rfl
theorem IvR.app {w : World} {vb : Nat} {x : Int × Int} {v : Value} {l : List (Int × Int)} (h : IvR w v l) (hv : w.heap[vb]? = some (.cells (ivE x).toArray 46 (0, 0))) (few : l.length ≤ 1048576) (ty : TypeId) :
    ∃ v' w', (Builtin.append_ #[43, 43] ty #[v, .slice (some ⟨vb, 0, none⟩) 1 1]).run Tryd.prog w = .ok v' w' ∧ IvR w' v' (l ++ [x]) ∧ w.grownBy w' v.ownBlock ∧ (v'.ownBlock = v.ownBlock ∨ v'.ownBlock = some w.heap.size) ∧ ∃ b c, v' = .slice (some ⟨b, 0, none⟩) (l.length + 1) c := by
  obtain ⟨i, hi, hz, hs, hb⟩ := info_parts' infoIv
  exact ORow.app ivEnc (by decide) Tryd.underlying43 hi hz hs hb rfl h hv (by omega) (by unfold maxLen; omega) ty

/-- All that is live, by rising grains. -/
def ivOf (S : Int) (len : Nat) (f : Nat → Int) (j : Nat) : Option (Int × Int) → List (Int × Int)
  | none => []
  | some (x, y) => [(65536 + (j : Int) * 16, szT S len f x y)]
def allL (S : Int) (len : Nat) (f : Nat → Int) (L : Nat → Option (Int × Int)) : Nat → List (Int × Int)
  | 0 => []
  | k + 1 => allL S len f L k ++ ivOf S len f k (L k)
theorem allL_len (S : Int) (len : Nat) (f : Nat → Int) (L : Nat → Option (Int × Int)) : ∀ k, (allL S len f L k).length ≤ k
  | 0 => Nat.le_refl _
  | k + 1 => by
    have := allL_len S len f L k
    have h2 : (ivOf S len f k (L k)).length ≤ 1 := by cases L k <;> simp [ivOf]
    simp only [allL, List.length_append]
    omega
/-- The words of a table. -/
def LW (s : MSt) (base n : Nat) (S : Int) (len : Nat) (L : Nat → Option (Int × Int)) : Prop := ∀ j, j < n → s.rd ((base + j : Nat) : Int) = encT (L j) ∧ MayO S len (L j)
theorem cells_th {w : World} {t g cb base : Nat} {W S B T : Int} {len : Nat} {f : Nat → Int} (h : Tb w t g cb base W S B T len f) : w.cell? ⟨t, 0, none⟩ = some (.pointer (some ⟨g, 0, none⟩)) ∧ w.cell? ⟨t, 1, none⟩ = some (.int .i64 (base : Nat)) ∧ w.cell? ⟨t, 2, none⟩ = some (.int .i64 W) ∧ w.cell? ⟨t, 3, none⟩ = some (.int .i64 S) ∧ w.cell? ⟨t, 4, none⟩ = some (.int .i64 B) ∧ w.cell? ⟨t, 5, none⟩ = some (.int .i64 T) ∧ w.cell? ⟨t, 6, none⟩ = some (.slice (some ⟨cb, 0, none⟩) len len) := h.cells
set_option maxRecDepth 20000 in
set_option maxHeartbeats 8000000 in
theorem all13_any (t g cb base h : Nat) (W S B T : Int) (len : Nat) (f : Nat → Int) (s : MSt) (n : Nat) (L : Nat → Option (Int × Int)) (w : World) (hT : Hid (Tb w t g cb base W S B T len f)) (hF : Hid (FldL w)) (hm : Hid (MemAt w g h s)) (s1 : 0 ≤ S) (s2 : S ≤ 1000) (hl : len ≤ 1000) (ok : Hid (ClsOk len f)) (hb0 : base ≤ 16777216) (hn : (n : Int) = S * 64) (hL : Hid (LW s base n S len L)) :
    Calls Tryd.prog 20 #[.pointer (some ⟨t, 0, none⟩)] w fun e w' => ∃ v, e = .returned v ∧ IvR w' v (allL S len f L n) ∧ (∀ q, v.ownBlock = some q → w.heap.size ≤ q) ∧ Below w.heap.size w w' := by
  have n1 : n ≤ 64000 := by omega
  have LS := Lib.hid fun w => lsize_any W S B T (.slice (some ⟨cb, 0, none⟩) len len) w s1 s2
  rw [← hn] at LS
  clear hn
  have HB : Hid (∀ w', Below w.heap.size w w' → w'.cell? ⟨t, 0, none⟩ = some (.pointer (some ⟨g, 0, none⟩)) ∧ w'.cell? ⟨t, 1, none⟩ = some (.int .i64 (base : Nat)) ∧ w'.cell? ⟨t, 2, none⟩ = some (.int .i64 W) ∧ w'.cell? ⟨t, 3, none⟩ = some (.int .i64 S) ∧ w'.cell? ⟨t, 4, none⟩ = some (.int .i64 B) ∧ w'.cell? ⟨t, 5, none⟩ = some (.int .i64 T) ∧ w'.cell? ⟨t, 6, none⟩ = some (.slice (some ⟨cb, 0, none⟩) len len)) := fun w' hb => (hT.out.next hb).cells
  obtain ⟨c0, c1, c2, c3, c4, c5, c6⟩ := hT.out.cells
  go_enter Tryd.func20, Tryd.ntmps20
  go_wp2_with fail
  refine (LS.out _).mono ?_
  rintro e w1 ⟨rfl, hb⟩
  have B1 := Lib.hid hb
  clear hb c0 c1 c2 c3 c4 c5 c6
  obtain ⟨c0, c1, c2, c3, c4, c5, c6⟩ := HB.out _ B1.out
  go_wp2_with fail
  clear c0 c1 c2 c3 c4 c5 c6
  go_loopw [3, 14] (fun u3 u14 wr => ∃ (k : Nat), k ≤ n ∧ u14 = .int .i64 (k : Nat) ∧ Hid (IvR wr u3 (allL S len f L k)) ∧ Hid (∀ q, u3.ownBlock = some q → w.heap.size ≤ q) ∧ Hid (Below w.heap.size w wr)) (fun _ u14 _ => n - (intOf u14).toNat)
  case atStart => exact ⟨0, Nat.zero_le _, rfl, ORow.nil _, fun q hq => by simp [Value.ownBlock] at hq, B1⟩
  case round =>
    obtain ⟨k, hk, rfl, R, O, Bw⟩ := hrel
    by_cases hlt : k < n
    · have l3 : (k : Int) < (n : Int) := by omega
      have hrd := (hL.out k hlt).1
      have hmo := (hL.out k hlt).2
      have PK : Hid (∀ y, Below w.heap.size w y → Calls Tryd.prog 25 #[.pointer (some ⟨g, 0, none⟩), .int .i64 ((base : Int) + (k : Int))] y fun e w' => e = .returned (.int .u64 ((encT (L k) : Nat) : Int)) ∧ y = w') := fun y hb => by
        have := peek_any g h s ((base + k : Nat) : Int) y (hm.out.next hb)
        rw [hrd, show ((base + k : Nat) : Int) = (base : Int) + (k : Int) from by omega] at this
        exact this
      have RD : Hid (∀ y, Below w.heap.size w y → Calls Tryd.prog 37 #[.pointer (some ⟨t, 0, none⟩), .int .u64 ((encT (L k) : Nat) : Int)] y fun e w' => e = .returned (.tuple #[.agg #[.int .i64 (oxT (L k)), .int .i64 (oyT (L k))], .bool (obT (L k))]) ∧ Below y.heap.size y w') := fun y hb => read_any t g cb base W S B T len f (L k) y (Lib.hid (hT.out.next hb)) (Lib.hid (hF.out.next hb)) hmo s2 hl ok
      have E1 : Hid (allL S len f L (k + 1) = allL S len f L k ++ ivOf S len f k (if obT (L k) = true then some (oxT (L k), oyT (L k)) else none)) := by
        show _ = _
        simp only [allL]
        rcases L k with _ | ⟨x, y⟩ <;> rfl
      have SZ := Lib.hid fun y (hb : Below w.heap.size w y) => tsize_any W S B T _ len len f (oxT (L k)) (oyT (L k)) y (Lib.hid (hT.out.next hb).r) s2
      have hx : IntKind.i64.wrap ((base : Int) + (k : Int)) = (base : Int) + (k : Int) := by rw [IntKind.wrap_i64]; omega
      clear hrd hmo
      generalize encT (L k) = X at *
      generalize oxT (L k) = x at *
      generalize oyT (L k) = y at *
      generalize obT (L k) = bb at *
      go_upto_region 7 with fail
      go_cut [5, 6] (fun u5 u6 wx => ∃ nb, u5 = .pointer (some ⟨nb, 0, none⟩) ∧ u6 = .bool bb ∧ Hid (Two5 wx nb 35 x y) ∧ Hid (IvR wx u3 (allL S len f L k)) ∧ Hid (∀ q, u3.ownBlock = some q → q ≠ nb) ∧ w.heap.size ≤ nb ∧ Hid (Below w.heap.size w wx))
      case first =>
        refine wp_region_noPanic ?_
        refine wp_region_held_drew (S := fun w' => w'.cell? ⟨t, 0, none⟩ = some (.pointer (some ⟨g, 0, none⟩)) ∧ w'.cell? ⟨t, 1, none⟩ = some (.int .i64 (base : Nat)) ∧ w'.cell? ⟨t, 2, none⟩ = some (.int .i64 W) ∧ w'.cell? ⟨t, 3, none⟩ = some (.int .i64 S) ∧ w'.cell? ⟨t, 4, none⟩ = some (.int .i64 B) ∧ w'.cell? ⟨t, 5, none⟩ = some (.int .i64 T) ∧ w'.cell? ⟨t, 6, none⟩ = some (.slice (some ⟨cb, 0, none⟩) len len)) (by kernel_rfl) (HB.out _ (Bw.out.drew)) (fun hHeld => ?_)
        have DR := (Below.refl wr.heap.size wr).drew
        have Bw0 := Lib.hid (Bw.out.trans (DR.mono Bw.out.size))
        have R0 := Lib.hid (R.out.next DR)
        clear DR
        generalize wr.drew = z0 at *
        refine wpAnyH_take (i := 0) (v := .pointer (some ⟨t, 0, none⟩)) rfl (by kernel_rfl) (by kernel_rfl) (by kernel_rfl) (fun _ _ _ h => h) (Or.inl ⟨by rfl, fun w hSw => by obtain ⟨c0, c1, c2, c3, c4, c5, c6⟩ := hSw; go_simp⟩) (by assumption) ?_
        change wpAnyH _ _ _ _ _ _ _ (Act.put _ (some 18) _) _
        simp only [Act.put, List.setIfInBounds_toArray, List.set_cons_zero, List.set_cons_succ]
        refine wpAnyH_take (i := 1) (v := .pointer (some ⟨t, 0, none⟩)) rfl (by kernel_rfl) (by kernel_rfl) (by kernel_rfl) (fun _ _ _ h => h) (Or.inl ⟨by rfl, fun w hSw => by obtain ⟨c0, c1, c2, c3, c4, c5, c6⟩ := hSw; go_simp⟩) (by assumption) ?_
        change wpAnyH _ _ _ _ _ _ _ (Act.put _ (some 19) _) _
        simp only [Act.put, List.setIfInBounds_toArray, List.set_cons_zero, List.set_cons_succ]
        refine wpAnyH_take (i := 2) (v := .pointer (some ⟨t, 0, none⟩)) rfl (by kernel_rfl) (by kernel_rfl) (by kernel_rfl) (fun _ _ _ h => h) (Or.inl ⟨by rfl, fun w hSw => by obtain ⟨c0, c1, c2, c3, c4, c5, c6⟩ := hSw; go_simp⟩) (by assumption) ?_
        change wpAnyH _ _ _ _ _ _ _ (Act.put _ (some 20) _) _
        simp only [Act.put, List.setIfInBounds_toArray, List.set_cons_zero, List.set_cons_succ]
        refine wpAnyH_take (i := 3) (v := .pointer (some ⟨t, 0, none⟩)) rfl (by kernel_rfl) (by kernel_rfl) (by kernel_rfl) (fun _ _ _ h => h) (Or.inl ⟨by rfl, fun w hSw => by obtain ⟨c0, c1, c2, c3, c4, c5, c6⟩ := hSw; go_simp⟩) (by assumption) ?_
        change wpAnyH _ _ _ _ _ _ _ (Act.put _ (some 21) _) _
        simp only [Act.put, List.setIfInBounds_toArray, List.set_cons_zero, List.set_cons_succ]
        refine wpAnyH_take (i := 4) (v := .pointer (some ⟨g, 0, none⟩)) rfl (by kernel_rfl) (by kernel_rfl) (by kernel_rfl) (fun _ _ _ h => h) (Or.inl ⟨by rfl, fun w hSw => by obtain ⟨c0, c1, c2, c3, c4, c5, c6⟩ := hSw; go_simp⟩) (by assumption) ?_
        change wpAnyH _ _ _ _ _ _ _ (Act.put _ (some 22) _) _
        simp only [Act.put, List.setIfInBounds_toArray, List.set_cons_zero, List.set_cons_succ]
        refine wpAnyH_take (i := 5) (v := .pointer (some ⟨t, 0, none⟩)) rfl (by kernel_rfl) (by kernel_rfl) (by kernel_rfl) (fun _ _ _ h => h) (Or.inl ⟨by rfl, fun w hSw => by obtain ⟨c0, c1, c2, c3, c4, c5, c6⟩ := hSw; go_simp⟩) (by assumption) ?_
        change wpAnyH _ _ _ _ _ _ _ (Act.put _ (some 23) _) _
        simp only [Act.put, List.setIfInBounds_toArray, List.set_cons_zero, List.set_cons_succ]
        refine wpAnyH_take (i := 6) (v := .pointer (some ⟨t, 0, none⟩)) rfl (by kernel_rfl) (by kernel_rfl) (by kernel_rfl) (fun _ _ _ h => h) (Or.inl ⟨by rfl, fun w hSw => by obtain ⟨c0, c1, c2, c3, c4, c5, c6⟩ := hSw; go_simp⟩) (by assumption) ?_
        change wpAnyH _ _ _ _ _ _ _ (Act.put _ (some 24) _) _
        simp only [Act.put, List.setIfInBounds_toArray, List.set_cons_zero, List.set_cons_succ]
        refine wpAnyH_take (i := 7) (v := .pointer (some ⟨t, 1, none⟩)) rfl (by kernel_rfl) (by kernel_rfl) (by kernel_rfl) (fun _ _ _ h => h) (Or.inl ⟨by rfl, fun w hSw => by obtain ⟨c0, c1, c2, c3, c4, c5, c6⟩ := hSw; go_simp⟩) (by assumption) ?_
        change wpAnyH _ _ _ _ _ _ _ (Act.put _ (some 25) _) _
        simp only [Act.put, List.setIfInBounds_toArray, List.set_cons_zero, List.set_cons_succ]
        refine wpAnyH_take (i := 8) (v := .int .i64 (base : Nat)) rfl (by kernel_rfl) (by kernel_rfl) (by kernel_rfl) (fun _ _ _ h => h) (Or.inl ⟨by rfl, fun w hSw => by obtain ⟨c0, c1, c2, c3, c4, c5, c6⟩ := hSw; go_simp⟩) (by assumption) ?_
        change wpAnyH _ _ _ _ _ _ _ (Act.put _ (some 26) _) _
        simp only [Act.put, List.setIfInBounds_toArray, List.set_cons_zero, List.set_cons_succ]
        refine wpAnyH_take (i := 9) (v := .int .i64 (k : Nat)) rfl (by kernel_rfl) (by kernel_rfl) (by kernel_rfl) (fun _ _ _ h => h) (Or.inl ⟨by rfl, fun w hSw => by obtain ⟨c0, c1, c2, c3, c4, c5, c6⟩ := hSw; go_simp⟩) (by assumption) ?_
        change wpAnyH _ _ _ _ _ _ _ (Act.put _ (some 27) _) _
        simp only [Act.put, List.setIfInBounds_toArray, List.set_cons_zero, List.set_cons_succ]
        refine wpAnyH_take (i := 10) (v := .int .i64 ((base : Int) + (k : Int))) rfl (by kernel_rfl) (by kernel_rfl) (by kernel_rfl) (fun _ _ _ h => h) (Or.inl ⟨by rfl, fun w hSw => by obtain ⟨c0, c1, c2, c3, c4, c5, c6⟩ := hSw; go_simp⟩) (by assumption) ?_
        change wpAnyH _ _ _ _ _ _ _ (Act.put _ (some 28) _) _
        simp only [Act.put, List.setIfInBounds_toArray, List.set_cons_zero, List.set_cons_succ]
        refine wpAnyH_ready (rs := [11, 16]) (by kernel_rfl) (by simp) ?_
        refine AllReadyH.cons rfl (fun K hK => ?_) (AllReadyH.cons rfl (fun K hK => ?_) (AllReadyH.nil))
        · refine step_enter (F := 25) (vals := #[.pointer (some ⟨g, 0, none⟩), .int .i64 ((base : Int) + (k : Int))]) rfl (by kernel_rfl) ?_
          refine (PK.out _ Bw0.out).mono ?_
          rintro e y1 ⟨rfl, rfl⟩
          show K (Act.put _ (some 29) _) z0
          refine hK.out _ _ (HB.out _ ((Bw0.out))) (fun hHeld1 => ?_)
          clear hK K
          simp only [Act.put, List.setIfInBounds_toArray, List.set_cons_zero, List.set_cons_succ]
          refine wpAnyH_ready (rs := [12, 16]) (by kernel_rfl) (by simp) ?_
          refine AllReadyH.cons rfl (fun K hK => ?_) (AllReadyH.cons rfl (fun K hK => ?_) (AllReadyH.nil))
          · refine step_enter (F := 37) (vals := #[.pointer (some ⟨t, 0, none⟩), .int .u64 (X : Nat)]) rfl (by kernel_rfl) ?_
            refine (RD.out _ Bw0.out).mono ?_
            rintro e y2 ⟨rfl, hb⟩
            have Bw2 := Lib.hid (Bw0.out.trans (hb.mono Bw0.out.size))
            have R2 := Lib.hid (R0.out.next hb)
            clear hb
            show K (Act.put _ (some 30) _) y2
            refine hK.out _ _ (HB.out _ ((Bw2.out))) (fun hHeld2 => ?_)
            clear hK K
            simp only [Act.put, List.setIfInBounds_toArray, List.set_cons_zero, List.set_cons_succ]
            refine wpAnyH_take (i := 13) (v := .tuple #[.agg #[.int .i64 x, .int .i64 y], .bool bb]) rfl (by kernel_rfl) (by kernel_rfl) (by kernel_rfl) (fun _ _ _ h => h) (Or.inl ⟨by rfl, fun w hSw => by obtain ⟨c0, c1, c2, c3, c4, c5, c6⟩ := hSw; go_simp⟩) (by assumption) ?_
            change wpAnyH _ _ _ _ _ _ _ (Act.put _ (some 17) _) _
            simp only [Act.put, List.setIfInBounds_toArray, List.set_cons_zero, List.set_cons_succ]
            refine wpAnyH_take (i := 14) (v := .agg #[.int .i64 x, .int .i64 y]) rfl (by kernel_rfl) (by kernel_rfl) (by kernel_rfl) (fun _ _ _ h => h) (Or.inl ⟨by rfl, fun w hSw => by obtain ⟨c0, c1, c2, c3, c4, c5, c6⟩ := hSw; go_simp⟩) (by assumption) ?_
            change wpAnyH _ _ _ _ _ _ _ (Act.put _ (some 31) _) _
            simp only [Act.put, List.setIfInBounds_toArray, List.set_cons_zero, List.set_cons_succ]
            refine wpAnyH_take (i := 15) (v := .bool bb) rfl (by kernel_rfl) (by kernel_rfl) (by kernel_rfl) (fun _ _ _ h => h) (Or.inl ⟨by rfl, fun w hSw => by obtain ⟨c0, c1, c2, c3, c4, c5, c6⟩ := hSw; go_simp⟩) (by assumption) ?_
            change wpAnyH _ _ _ _ _ _ _ (Act.put _ (some 32) _) _
            simp only [Act.put, List.setIfInBounds_toArray, List.set_cons_zero, List.set_cons_succ]
            refine wpAnyH_ready (rs := [16]) (by kernel_rfl) (by simp) ?_
            refine AllReadyH.cons rfl (fun K hK => ?_) (AllReadyH.nil)
            · refine step_value (v := .pointer (some ⟨y2.heap.size, 0, none⟩)) (w' := y2.alloc (.cells #[.int .i64 0, .int .i64 0] 35)) rfl (by kernel_rfl) ?_
              have hb := box1 y2 (.cells #[.int .i64 0, .int .i64 0] 35)
              have Bw3 := Lib.hid (Bw2.out.trans (hb.mono Bw2.out.size))
              have R3 := Lib.hid (R2.out.next hb)
              have X3 := Lib.hid (Two5.new y2 35 0 0)
              have XN : Hid (∀ q, u3.ownBlock = some q → q ≠ y2.heap.size) := fun q hq => by have := R2.out.lt hq; omega
              have XL := Lib.hid (Bw2.out.size)
              clear hb
              generalize y2.alloc (.cells #[.int .i64 0, .int .i64 0] 35) = y3 at *
              generalize y2.heap.size = nb at *
              show K (Act.put _ (some 5) _) y3
              refine hK.out _ _ (HB.out _ ((Bw3.out))) (fun hHeld3 => ?_)
              clear hK K
              refine wpAnyH_ready (rs := [17]) (by kernel_rfl) (by simp) ?_
              refine AllReadyH.cons rfl (fun K hK => ?_) AllReadyH.nil
              obtain ⟨x0, x1⟩ := X3.out.cells
              have zz0 := X3.out.fz 0
              have zz1 := X3.out.fz 1
              have XZ := Lib.hid (X3.out.set x y)
              have OO : Hid (Only [nb] y3 ((y3.setCell ⟨nb, 0, none⟩ (.int .i64 x)).setCell ⟨nb, 1, none⟩ (.int .i64 y))) := (Only.of_set (l := [nb]) (g := nb) (j := 0) (by simp) _).trans (Only.of_set (g := nb) (j := 1) (by simp) _)
              have BZ : Hid (Below w.heap.size w ((y3.setCell ⟨nb, 0, none⟩ (.int .i64 x)).setCell ⟨nb, 1, none⟩ (.int .i64 y))) := Bw3.out.trans (OO.out.below (by simp; exact XL.out) Bw3.out.size)
              have RZ := Lib.hid (R3.out.stay OO.out (by intro q hq; simp; exact XN.out q hq))
              go_simp
              refine hK.out _ _ (HB.out _ BZ.out) (fun hHeldZ => ?_)
              clear hK K
              refine wpAnyH_take (i := 18) (v := .bool bb) rfl (by kernel_rfl) (by kernel_rfl) (by kernel_rfl) (fun _ _ _ h => h) (Or.inl ⟨by rfl, fun w hSw => by obtain ⟨c0, c1, c2, c3, c4, c5, c6⟩ := hSw; go_simp⟩) (by assumption) ?_
              change wpAnyH _ _ _ _ _ _ _ (Act.put _ (some 6) _) _
              simp only [Act.put, List.setIfInBounds_toArray, List.set_cons_zero, List.set_cons_succ]
              refine ⟨by kernel_rfl, ?_⟩
              refine NoPanic.normal ?_
              go_wp2_with fail
              go_meet
              case rel => exact ⟨nb, rfl, rfl, XZ, RZ, XN, XL.out, BZ⟩


          · refine step_value (v := .pointer (some ⟨z0.heap.size, 0, none⟩)) (w' := z0.alloc (.cells #[.int .i64 0, .int .i64 0] 35)) rfl (by kernel_rfl) ?_
            have hb := box1 z0 (.cells #[.int .i64 0, .int .i64 0] 35)
            have Bw4 := Lib.hid (Bw0.out.trans (hb.mono Bw0.out.size))
            have R4 := Lib.hid (R0.out.next hb)
            have X4 := Lib.hid (Two5.new z0 35 0 0)
            have XN : Hid (∀ q, u3.ownBlock = some q → q ≠ z0.heap.size) := fun q hq => by have := R0.out.lt hq; omega
            have XL := Lib.hid (Bw0.out.size)
            clear hb
            generalize z0.alloc (.cells #[.int .i64 0, .int .i64 0] 35) = y4 at *
            generalize z0.heap.size = nb at *
            show K (Act.put _ (some 5) _) y4
            refine hK.out _ _ (HB.out _ ((Bw4.out))) (fun hHeld4 => ?_)
            clear hK K
            refine wpAnyH_ready (rs := [12]) (by kernel_rfl) (by simp) ?_
            refine AllReadyH.cons rfl (fun K hK => ?_) (AllReadyH.nil)
            · refine step_enter (F := 37) (vals := #[.pointer (some ⟨t, 0, none⟩), .int .u64 (X : Nat)]) rfl (by kernel_rfl) ?_
              refine (RD.out _ Bw4.out).mono ?_
              rintro e y5 ⟨rfl, hb⟩
              have Bw5 := Lib.hid (Bw4.out.trans (hb.mono Bw4.out.size))
              have R5 := Lib.hid (R4.out.next hb)
              have X5 := Lib.hid (X4.out.next hb)
              clear hb
              show K (Act.put _ (some 30) _) y5
              refine hK.out _ _ (HB.out _ ((Bw5.out))) (fun hHeld5 => ?_)
              clear hK K
              simp only [Act.put, List.setIfInBounds_toArray, List.set_cons_zero, List.set_cons_succ]
              refine wpAnyH_take (i := 13) (v := .tuple #[.agg #[.int .i64 x, .int .i64 y], .bool bb]) rfl (by kernel_rfl) (by kernel_rfl) (by kernel_rfl) (fun _ _ _ h => h) (Or.inl ⟨by rfl, fun w hSw => by obtain ⟨c0, c1, c2, c3, c4, c5, c6⟩ := hSw; go_simp⟩) (by assumption) ?_
              change wpAnyH _ _ _ _ _ _ _ (Act.put _ (some 17) _) _
              simp only [Act.put, List.setIfInBounds_toArray, List.set_cons_zero, List.set_cons_succ]
              refine wpAnyH_take (i := 14) (v := .agg #[.int .i64 x, .int .i64 y]) rfl (by kernel_rfl) (by kernel_rfl) (by kernel_rfl) (fun _ _ _ h => h) (Or.inl ⟨by rfl, fun w hSw => by obtain ⟨c0, c1, c2, c3, c4, c5, c6⟩ := hSw; go_simp⟩) (by assumption) ?_
              change wpAnyH _ _ _ _ _ _ _ (Act.put _ (some 31) _) _
              simp only [Act.put, List.setIfInBounds_toArray, List.set_cons_zero, List.set_cons_succ]
              refine wpAnyH_take (i := 15) (v := .bool bb) rfl (by kernel_rfl) (by kernel_rfl) (by kernel_rfl) (fun _ _ _ h => h) (Or.inl ⟨by rfl, fun w hSw => by obtain ⟨c0, c1, c2, c3, c4, c5, c6⟩ := hSw; go_simp⟩) (by assumption) ?_
              change wpAnyH _ _ _ _ _ _ _ (Act.put _ (some 32) _) _
              simp only [Act.put, List.setIfInBounds_toArray, List.set_cons_zero, List.set_cons_succ]
              refine wpAnyH_ready (rs := [17]) (by kernel_rfl) (by simp) ?_
              refine AllReadyH.cons rfl (fun K hK => ?_) AllReadyH.nil
              obtain ⟨x0, x1⟩ := X5.out.cells
              have zz0 := X5.out.fz 0
              have zz1 := X5.out.fz 1
              have XZ := Lib.hid (X5.out.set x y)
              have OO : Hid (Only [nb] y5 ((y5.setCell ⟨nb, 0, none⟩ (.int .i64 x)).setCell ⟨nb, 1, none⟩ (.int .i64 y))) := (Only.of_set (l := [nb]) (g := nb) (j := 0) (by simp) _).trans (Only.of_set (g := nb) (j := 1) (by simp) _)
              have BZ : Hid (Below w.heap.size w ((y5.setCell ⟨nb, 0, none⟩ (.int .i64 x)).setCell ⟨nb, 1, none⟩ (.int .i64 y))) := Bw5.out.trans (OO.out.below (by simp; exact XL.out) Bw5.out.size)
              have RZ := Lib.hid (R5.out.stay OO.out (by intro q hq; simp; exact XN.out q hq))
              go_simp
              refine hK.out _ _ (HB.out _ BZ.out) (fun hHeldZ => ?_)
              clear hK K
              refine wpAnyH_take (i := 18) (v := .bool bb) rfl (by kernel_rfl) (by kernel_rfl) (by kernel_rfl) (fun _ _ _ h => h) (Or.inl ⟨by rfl, fun w hSw => by obtain ⟨c0, c1, c2, c3, c4, c5, c6⟩ := hSw; go_simp⟩) (by assumption) ?_
              change wpAnyH _ _ _ _ _ _ _ (Act.put _ (some 6) _) _
              simp only [Act.put, List.setIfInBounds_toArray, List.set_cons_zero, List.set_cons_succ]
              refine ⟨by kernel_rfl, ?_⟩
              refine NoPanic.normal ?_
              go_wp2_with fail
              go_meet
              case rel => exact ⟨nb, rfl, rfl, XZ, RZ, XN, XL.out, BZ⟩



        · refine step_value (v := .pointer (some ⟨z0.heap.size, 0, none⟩)) (w' := z0.alloc (.cells #[.int .i64 0, .int .i64 0] 35)) rfl (by kernel_rfl) ?_
          have hb := box1 z0 (.cells #[.int .i64 0, .int .i64 0] 35)
          have Bw6 := Lib.hid (Bw0.out.trans (hb.mono Bw0.out.size))
          have R6 := Lib.hid (R0.out.next hb)
          have X6 := Lib.hid (Two5.new z0 35 0 0)
          have XN : Hid (∀ q, u3.ownBlock = some q → q ≠ z0.heap.size) := fun q hq => by have := R0.out.lt hq; omega
          have XL := Lib.hid (Bw0.out.size)
          clear hb
          generalize z0.alloc (.cells #[.int .i64 0, .int .i64 0] 35) = y6 at *
          generalize z0.heap.size = nb at *
          show K (Act.put _ (some 5) _) y6
          refine hK.out _ _ (HB.out _ ((Bw6.out))) (fun hHeld6 => ?_)
          clear hK K
          refine wpAnyH_ready (rs := [11]) (by kernel_rfl) (by simp) ?_
          refine AllReadyH.cons rfl (fun K hK => ?_) (AllReadyH.nil)
          · refine step_enter (F := 25) (vals := #[.pointer (some ⟨g, 0, none⟩), .int .i64 ((base : Int) + (k : Int))]) rfl (by kernel_rfl) ?_
            refine (PK.out _ Bw6.out).mono ?_
            rintro e y7 ⟨rfl, rfl⟩
            show K (Act.put _ (some 29) _) y6
            refine hK.out _ _ (HB.out _ ((Bw6.out))) (fun hHeld7 => ?_)
            clear hK K
            simp only [Act.put, List.setIfInBounds_toArray, List.set_cons_zero, List.set_cons_succ]
            refine wpAnyH_ready (rs := [12]) (by kernel_rfl) (by simp) ?_
            refine AllReadyH.cons rfl (fun K hK => ?_) (AllReadyH.nil)
            · refine step_enter (F := 37) (vals := #[.pointer (some ⟨t, 0, none⟩), .int .u64 (X : Nat)]) rfl (by kernel_rfl) ?_
              refine (RD.out _ Bw6.out).mono ?_
              rintro e y8 ⟨rfl, hb⟩
              have Bw8 := Lib.hid (Bw6.out.trans (hb.mono Bw6.out.size))
              have R8 := Lib.hid (R6.out.next hb)
              have X8 := Lib.hid (X6.out.next hb)
              clear hb
              show K (Act.put _ (some 30) _) y8
              refine hK.out _ _ (HB.out _ ((Bw8.out))) (fun hHeld8 => ?_)
              clear hK K
              simp only [Act.put, List.setIfInBounds_toArray, List.set_cons_zero, List.set_cons_succ]
              refine wpAnyH_take (i := 13) (v := .tuple #[.agg #[.int .i64 x, .int .i64 y], .bool bb]) rfl (by kernel_rfl) (by kernel_rfl) (by kernel_rfl) (fun _ _ _ h => h) (Or.inl ⟨by rfl, fun w hSw => by obtain ⟨c0, c1, c2, c3, c4, c5, c6⟩ := hSw; go_simp⟩) (by assumption) ?_
              change wpAnyH _ _ _ _ _ _ _ (Act.put _ (some 17) _) _
              simp only [Act.put, List.setIfInBounds_toArray, List.set_cons_zero, List.set_cons_succ]
              refine wpAnyH_take (i := 14) (v := .agg #[.int .i64 x, .int .i64 y]) rfl (by kernel_rfl) (by kernel_rfl) (by kernel_rfl) (fun _ _ _ h => h) (Or.inl ⟨by rfl, fun w hSw => by obtain ⟨c0, c1, c2, c3, c4, c5, c6⟩ := hSw; go_simp⟩) (by assumption) ?_
              change wpAnyH _ _ _ _ _ _ _ (Act.put _ (some 31) _) _
              simp only [Act.put, List.setIfInBounds_toArray, List.set_cons_zero, List.set_cons_succ]
              refine wpAnyH_take (i := 15) (v := .bool bb) rfl (by kernel_rfl) (by kernel_rfl) (by kernel_rfl) (fun _ _ _ h => h) (Or.inl ⟨by rfl, fun w hSw => by obtain ⟨c0, c1, c2, c3, c4, c5, c6⟩ := hSw; go_simp⟩) (by assumption) ?_
              change wpAnyH _ _ _ _ _ _ _ (Act.put _ (some 32) _) _
              simp only [Act.put, List.setIfInBounds_toArray, List.set_cons_zero, List.set_cons_succ]
              refine wpAnyH_ready (rs := [17]) (by kernel_rfl) (by simp) ?_
              refine AllReadyH.cons rfl (fun K hK => ?_) AllReadyH.nil
              obtain ⟨x0, x1⟩ := X8.out.cells
              have zz0 := X8.out.fz 0
              have zz1 := X8.out.fz 1
              have XZ := Lib.hid (X8.out.set x y)
              have OO : Hid (Only [nb] y8 ((y8.setCell ⟨nb, 0, none⟩ (.int .i64 x)).setCell ⟨nb, 1, none⟩ (.int .i64 y))) := (Only.of_set (l := [nb]) (g := nb) (j := 0) (by simp) _).trans (Only.of_set (g := nb) (j := 1) (by simp) _)
              have BZ : Hid (Below w.heap.size w ((y8.setCell ⟨nb, 0, none⟩ (.int .i64 x)).setCell ⟨nb, 1, none⟩ (.int .i64 y))) := Bw8.out.trans (OO.out.below (by simp; exact XL.out) Bw8.out.size)
              have RZ := Lib.hid (R8.out.stay OO.out (by intro q hq; simp; exact XN.out q hq))
              go_simp
              refine hK.out _ _ (HB.out _ BZ.out) (fun hHeldZ => ?_)
              clear hK K
              refine wpAnyH_take (i := 18) (v := .bool bb) rfl (by kernel_rfl) (by kernel_rfl) (by kernel_rfl) (fun _ _ _ h => h) (Or.inl ⟨by rfl, fun w hSw => by obtain ⟨c0, c1, c2, c3, c4, c5, c6⟩ := hSw; go_simp⟩) (by assumption) ?_
              change wpAnyH _ _ _ _ _ _ _ (Act.put _ (some 6) _) _
              simp only [Act.put, List.setIfInBounds_toArray, List.set_cons_zero, List.set_cons_succ]
              refine ⟨by kernel_rfl, ?_⟩
              refine NoPanic.normal ?_
              go_wp2_with fail
              go_meet
              case rel => exact ⟨nb, rfl, rfl, XZ, RZ, XN, XL.out, BZ⟩
      case rest =>
        obtain ⟨nb, rfl, rfl, X2, R2, O2, nbl, B2⟩ := hcut
        clear R Bw PK RD
        cases bb
        · go_wp2_with fail
          go_roundw
          case rel =>
            refine ⟨k + 1, by omega, by push_cast; rfl, ?_, O, B2⟩
            have := E1.out
            rw [if_neg (by simp)] at this
            rw [this]
            show Hid (IvR _ _ (_ ++ []))
            rw [List.append_nil]
            exact R2
          case measure => simp [intOf]; omega
        · have E2 : Hid (allL S len f L (k + 1) = allL S len f L k ++ [(65536 + (k : Int) * 16, szT S len f x y)]) := by
            have := E1.out
            rw [if_pos rfl] at this
            exact this
          have few : (allL S len f L k).length ≤ 1048576 := by have := allL_len S len f L k; omega
          have m1 : (k : Int) * 16 < 9223372036854775808 := by omega
          have m2 : IntKind.i64.wrap ((k : Int) * 16) = (k : Int) * 16 := by rw [IntKind.wrap_i64]; omega
          have m3 : IntKind.i64.wrap (65536 + (k : Int) * 16) = 65536 + (k : Int) * 16 := by rw [IntKind.wrap_i64]; omega
          generalize szT S len f x y = Z at *
          obtain ⟨AD, hAD⟩ : ∃ AD, 65536 + (k : Int) * 16 = AD := ⟨_, rfl⟩
          rw [hAD] at E2 m3
          generalize allL S len f L k = AL at *
          go_upto_region 9 with fail
          have DR := (Below.refl wc.heap.size wc).drew
          have Bd := Lib.hid (B2.out.trans (DR.mono B2.out.size))
          have Xd := Lib.hid (X2.out.next DR)
          have Rd := Lib.hid (R2.out.next DR)
          clear DR
          refine wp_region_noPanic ?_
          refine wp_region_held_drew (S := fun w' => (w'.cell? ⟨t, 0, none⟩ = some (.pointer (some ⟨g, 0, none⟩)) ∧ w'.cell? ⟨t, 1, none⟩ = some (.int .i64 (base : Nat)) ∧ w'.cell? ⟨t, 2, none⟩ = some (.int .i64 W) ∧ w'.cell? ⟨t, 3, none⟩ = some (.int .i64 S) ∧ w'.cell? ⟨t, 4, none⟩ = some (.int .i64 B) ∧ w'.cell? ⟨t, 5, none⟩ = some (.int .i64 T) ∧ w'.cell? ⟨t, 6, none⟩ = some (.slice (some ⟨cb, 0, none⟩) len len)) ∧ w'.cell? ⟨nb, 0, none⟩ = some (.int .i64 x) ∧ w'.cell? ⟨nb, 1, none⟩ = some (.int .i64 y)) (by kernel_rfl) ⟨HB.out _ Bd.out, Xd.out.cells⟩ (fun hHeld => ?_)
          generalize wc.drew = z0 at *
          refine wpAnyH_take (i := 0) (v := u3) rfl (by kernel_rfl) (by kernel_rfl) (by kernel_rfl) (fun _ _ _ h => h) (Or.inl ⟨by rfl, fun w hSw => by obtain ⟨⟨c0, c1, c2, c3, c4, c5, c6⟩, d0, d1⟩ := hSw; go_simp⟩) (by assumption) ?_
          change wpAnyH _ _ _ _ _ _ _ (Act.put _ (some 34) _) _
          simp only [Act.put, List.setIfInBounds_toArray, List.set_cons_zero, List.set_cons_succ]
          refine wpAnyH_take (i := 1) (v := .int .i64 (k : Nat)) rfl (by kernel_rfl) (by kernel_rfl) (by kernel_rfl) (fun _ _ _ h => h) (Or.inl ⟨by rfl, fun w hSw => by obtain ⟨⟨c0, c1, c2, c3, c4, c5, c6⟩, d0, d1⟩ := hSw; go_simp⟩) (by assumption) ?_
          change wpAnyH _ _ _ _ _ _ _ (Act.put _ (some 35) _) _
          simp only [Act.put, List.setIfInBounds_toArray, List.set_cons_zero, List.set_cons_succ]
          refine wpAnyH_take (i := 2) (v := .int .i64 ((k : Int) * 16)) rfl (by kernel_rfl) (by kernel_rfl) (by kernel_rfl) (fun _ _ _ h => h) (Or.inl ⟨by rfl, fun w hSw => by obtain ⟨⟨c0, c1, c2, c3, c4, c5, c6⟩, d0, d1⟩ := hSw; go_simp⟩) (by assumption) ?_
          change wpAnyH _ _ _ _ _ _ _ (Act.put _ (some 36) _) _
          simp only [Act.put, List.setIfInBounds_toArray, List.set_cons_zero, List.set_cons_succ]
          refine wpAnyH_take (i := 3) (v := .int .i64 AD) rfl (by kernel_rfl) (by kernel_rfl) (by kernel_rfl) (fun _ _ _ h => h) (Or.inl ⟨by rfl, fun w hSw => by obtain ⟨⟨c0, c1, c2, c3, c4, c5, c6⟩, d0, d1⟩ := hSw; go_simp <;> first | exact m3 | rw [hAD] | (rw [hAD]; exact m3)⟩) (by assumption) ?_
          change wpAnyH _ _ _ _ _ _ _ (Act.put _ (some 37) _) _
          simp only [Act.put, List.setIfInBounds_toArray, List.set_cons_zero, List.set_cons_succ]
          refine wpAnyH_take (i := 4) (v := .agg #[.int .i64 x, .int .i64 y]) rfl (by kernel_rfl) (by kernel_rfl) (by kernel_rfl) (fun _ _ _ h => h) (Or.inl ⟨by rfl, fun w hSw => by obtain ⟨⟨c0, c1, c2, c3, c4, c5, c6⟩, d0, d1⟩ := hSw; go_simp⟩) (by assumption) ?_
          change wpAnyH _ _ _ _ _ _ _ (Act.put _ (some 38) _) _
          simp only [Act.put, List.setIfInBounds_toArray, List.set_cons_zero, List.set_cons_succ]
          refine wpAnyH_take (i := 5) (v := .pointer (some ⟨t, 0, none⟩)) rfl (by kernel_rfl) (by kernel_rfl) (by kernel_rfl) (fun _ _ _ h => h) (Or.inl ⟨by rfl, fun w hSw => by obtain ⟨⟨c0, c1, c2, c3, c4, c5, c6⟩, d0, d1⟩ := hSw; go_simp⟩) (by assumption) ?_
          change wpAnyH _ _ _ _ _ _ _ (Act.put _ (some 39) _) _
          simp only [Act.put, List.setIfInBounds_toArray, List.set_cons_zero, List.set_cons_succ]
          refine wpAnyH_take (i := 6) (v := .pointer (some ⟨t, 0, none⟩)) rfl (by kernel_rfl) (by kernel_rfl) (by kernel_rfl) (fun _ _ _ h => h) (Or.inl ⟨by rfl, fun w hSw => by obtain ⟨⟨c0, c1, c2, c3, c4, c5, c6⟩, d0, d1⟩ := hSw; go_simp⟩) (by assumption) ?_
          change wpAnyH _ _ _ _ _ _ _ (Act.put _ (some 40) _) _
          simp only [Act.put, List.setIfInBounds_toArray, List.set_cons_zero, List.set_cons_succ]
          refine wpAnyH_take (i := 7) (v := .pointer (some ⟨t, 2, none⟩)) rfl (by kernel_rfl) (by kernel_rfl) (by kernel_rfl) (fun _ _ _ h => h) (Or.inl ⟨by rfl, fun w hSw => by obtain ⟨⟨c0, c1, c2, c3, c4, c5, c6⟩, d0, d1⟩ := hSw; go_simp⟩) (by assumption) ?_
          change wpAnyH _ _ _ _ _ _ _ (Act.put _ (some 41) _) _
          simp only [Act.put, List.setIfInBounds_toArray, List.set_cons_zero, List.set_cons_succ]
          refine wpAnyH_take (i := 8) (v := .agg #[.int .i64 W, .int .i64 S, .int .i64 B, .int .i64 T, .slice (some ⟨cb, 0, none⟩) len len]) rfl (by kernel_rfl) (by kernel_rfl) (by kernel_rfl) (fun _ _ _ h => h) (Or.inl ⟨by rfl, fun w hSw => by obtain ⟨⟨c0, c1, c2, c3, c4, c5, c6⟩, d0, d1⟩ := hSw; go_simp⟩) (by assumption) ?_
          change wpAnyH _ _ _ _ _ _ _ (Act.put _ (some 42) _) _
          simp only [Act.put, List.setIfInBounds_toArray, List.set_cons_zero, List.set_cons_succ]
          refine wpAnyH_ready (rs := [9]) (by kernel_rfl) (by simp) ?_
          refine AllReadyH.cons rfl (fun K hK => ?_) AllReadyH.nil
          refine step_enter (F := 22) (vals := #[.agg #[.int .i64 x, .int .i64 y], .agg #[.int .i64 W, .int .i64 S, .int .i64 B, .int .i64 T, .slice (some ⟨cb, 0, none⟩) len len]]) rfl (by kernel_rfl) ?_
          refine (SZ.out _ Bd.out).mono ?_
          rintro e z1 ⟨rfl, hb⟩
          have Be := Lib.hid (Bd.out.trans (hb.mono Bd.out.size))
          have Xe := Lib.hid (Xd.out.next hb)
          have Re := Lib.hid (Rd.out.next hb)
          clear hb
          show K (Act.put _ (some 43) _) z1
          refine hK.out _ _ ⟨HB.out _ Be.out, Xe.out.cells⟩ (fun hHeld1 => ?_)
          clear hK K
          simp only [Act.put, List.setIfInBounds_toArray, List.set_cons_zero, List.set_cons_succ]
          refine wpAnyH_take (i := 10) (v := .agg #[.int .i64 AD, .int .i64 Z]) rfl (by kernel_rfl) (by kernel_rfl) (by kernel_rfl) (fun _ _ _ h => h) (Or.inl ⟨by rfl, fun w hSw => by obtain ⟨⟨c0, c1, c2, c3, c4, c5, c6⟩, d0, d1⟩ := hSw; go_simp⟩) (by assumption) ?_
          change wpAnyH _ _ _ _ _ _ _ (Act.put _ (some 44) _) _
          simp only [Act.put, List.setIfInBounds_toArray, List.set_cons_zero, List.set_cons_succ]
          refine wpAnyH_ready (rs := [11]) (by kernel_rfl) (by simp) ?_
          refine AllReadyH.cons rfl (fun K hK => ?_) AllReadyH.nil
          have hb := box1 z1 (.cells #[.int .i64 AD, .int .i64 Z] 46)
          have Bf := Lib.hid (Be.out.trans (hb.mono Be.out.size))
          have Xf := Lib.hid (Xe.out.next hb)
          have Rf := Lib.hid (Re.out.next hb)
          have Vf := Lib.hid (heap_new z1 (.cells #[.int .i64 AD, .int .i64 Z] 46))
          refine step_value (v := .slice (some ⟨z1.heap.size, 0, none⟩) 1 1) (w' := z1.alloc (.cells #[.int .i64 AD, .int .i64 Z] 46)) rfl (by kernel_rfl) ?_
          clear hb
          generalize z1.alloc (.cells #[.int .i64 AD, .int .i64 Z] 46) = z2 at *
          generalize z1.heap.size = vb at *
          show K (Act.put _ (some 45) _) z2
          refine hK.out _ _ ⟨HB.out _ Bf.out, Xf.out.cells⟩ (fun hHeld2 => ?_)
          clear hK K
          simp only [Act.put, List.setIfInBounds_toArray, List.set_cons_zero, List.set_cons_succ]
          refine wpAnyH_ready (rs := [12]) (by kernel_rfl) (by simp) ?_
          refine AllReadyH.cons rfl (fun K hK => ?_) AllReadyH.nil
          obtain ⟨v', z3, hrun, hrow, hgr, hob, _⟩ := IvR.app (x := (AD, Z)) Rf.out Vf.out few 43
          have Bg : Hid (Below w.heap.size w z3) := Bf.out.grown hgr Bf.out.size (fun q hq => O.out q hq)
          have Og : Hid (∀ q, v'.ownBlock = some q → w.heap.size ≤ q) := fun q hq => by
            rcases hob with e | e
            · exact O.out q (by rw [← e]; exact hq)
            · have : q = z2.heap.size := by rw [e] at hq; exact (Option.some.inj hq).symm
              have := Bf.out.size
              omega
          have Xg : Hid (Two5 z3 nb 35 x y) := (Only.of_grown (l := u3.ownBlock.toList) hgr (fun q hq => by rw [hq]; simp)).at Xf.out (fun hq => O2.out nb (by simpa using hq) rfl)
          have Rg := Lib.hid hrow
          refine step_append_run rfl _ _ 43 43 rfl _ _ (by simp [Act.eval]) (by simp [Act.eval]) hrun ?_
          refine hK.out _ _ ⟨HB.out _ Bg.out, Xg.out.cells⟩ (fun hHeld3 => ?_)
          clear hK K hrun hrow hgr hob
          change wpAnyH _ _ _ _ _ _ _ (Act.put _ (some 46) _) _
          simp only [Act.put, List.setIfInBounds_toArray, List.set_cons_zero, List.set_cons_succ]
          refine wpAnyH_take (i := 13) (v := v') rfl (by kernel_rfl) (by kernel_rfl) (by kernel_rfl) (fun _ _ _ h => h) (Or.inl ⟨by rfl, fun w hSw => by obtain ⟨⟨c0, c1, c2, c3, c4, c5, c6⟩, d0, d1⟩ := hSw; go_simp⟩) (by assumption) ?_
          change wpAnyH _ _ _ _ _ _ _ (Act.put _ (some 3) _) _
          simp only [Act.put, List.setIfInBounds_toArray, List.set_cons_zero, List.set_cons_succ]
          refine ⟨by kernel_rfl, ?_⟩
          refine NoPanic.normal ?_
          go_wp2_with fail
          go_roundw
          case rel => exact ⟨k + 1, by omega, by push_cast; rfl, by rw [E2.out]; exact Rg, Og, Bg⟩
          case measure => simp [intOf]; omega
    · obtain rfl : k = n := by omega
      go_wp2_with fail
      go_ret
      exact ⟨_, rfl, R.out, O.out, Bw.out⟩
end Go.Proofs.YtchkgmknhndccaaDoor
