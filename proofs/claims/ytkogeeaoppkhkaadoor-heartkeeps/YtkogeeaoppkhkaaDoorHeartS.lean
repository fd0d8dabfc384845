/-
  The document's superblocks, in a row; whether a Heart's words stand for them.
-/
import Derived.Test.YtkogeeaoppkhkaaDoorHeart10
import Derived.Test.YtkogeeaoppkhkaaDoorGen1
namespace Go.Proofs.YtkogeeaoppkhkaaDoor
open Go.RowKit Go.Sort Go.Shelf

def supE (s : Sb) : List Value := [.int .i64 (s.k : Int), .int .i64 (s.n : Int), .int .u64 (s.m : Int)]
theorem supEnc : Enc 3 supE := ⟨fun _ => rfl, fun x v hv => by simp [supE] at hv; rcases hv with rfl | rfl | rfl <;> rfl⟩
def RS (w : World) (v : Value) (l : List Sb) : Prop := ORow 99 3 supE w v l
theorem infoS : (Tryd.prog.info? 99).map (fun i => (i.zero, i.size, i.bytes)) = some (some (.agg #[.int .i64 0, .int .i64 0, .int .u64 0]), 3, 24) := by kernel_rfl
theorem made_sup (n : Nat) : (madeCells #[.int .i64 0, .int .i64 0, .int .u64 0] (n * 3)).toList = (List.replicate n Sb.none).flatMap supE := by
  apply List.ext_getElem?
  intro j
  have hl : ((List.replicate n Sb.none).flatMap supE).length = n * 3 := by rw [flat_len supEnc, List.length_replicate]
  by_cases hj : j < n * 3
  · have h1 : (List.replicate n Sb.none)[j / 3]? = some Sb.none := by rw [List.getElem?_replicate, if_pos (by omega)]
    have h2 := flat_at supEnc h1 (j := j % 3) (by omega)
    rw [show j / 3 * 3 + j % 3 = j from by omega] at h2
    rw [h2]
    have h3 : (madeCells #[.int .i64 0, .int .i64 0, .int .u64 0] (n * 3)).toList[j]? = some ((#[Value.int .i64 0, .int .i64 0, .int .u64 0] : Array Value)[j % 3]!) := by
      simp [madeCells, hj]
    rw [h3]
    rcases (by omega : j % 3 = 0 ∨ j % 3 = 1 ∨ j % 3 = 2) with h | h | h <;> rw [h] <;> rfl
  · have hm : (madeCells #[.int .i64 0, .int .i64 0, .int .u64 0] (n * 3)).toList.length = n * 3 := by simp [size_madeCells]
    rw [List.getElem?_eq_none (by omega), List.getElem?_eq_none (by omega)]
set_option maxHeartbeats 1000000 in
theorem rnew11_any (W T : Int) (S B : Nat) (cl : Value) (w : World) (hS : S ≤ 64) :
    Calls Tryd.prog 17 #[.agg #[.int .i64 W, .int .i64 (S : Nat), .int .i64 (B : Nat), .int .i64 T, cl]] w fun e w' => ∃ v, e = .returned v ∧ RS w' v (List.replicate S Sb.none) ∧ Below w.heap.size w w' := by
  obtain ⟨i0, hi, hz0, hz1, hz2⟩ := info_parts infoS
  have B0 := Lib.hid (box1 w (.cells #[.int .i64 W, .int .i64 (S : Nat), .int .i64 (B : Nat), .int .i64 T, cl] 24))
  go_enter Tryd.func17, Tryd.ntmps17
  go_wp2_with (at_make; refine wpList_make_full _ rfl _ _ 31 rfl 0 99 i0 (.agg #[.int .i64 0, .int .i64 0, .int .u64 0]) 3 Tryd.underlying31 hi hz0 hz1 .i64 .i64 _ _ S rfl rfl (by omega) (by omega) (by rw [hz2]; omega) (by unfold maxLen; omega) (Nat.zero_le _) ?_)
  intro w5 ho hg
  have BG := grown_below hg rfl
  have RW : Hid (RS w5 (.slice (some ⟨w.heap.size + 1, 0, none⟩) S S) (List.replicate S Sb.none)) := by
    show ORow _ 3 supE _ _ _
    unfold ORow
    rw [List.length_replicate, ← made_sup]
    exact ho
  have B5 := Lib.hid (B0.out.trans (BG.mono B0.out.size))
  clear ho hg BG
  go_wp2_with fail
  go_ret
  exact ⟨_, rfl, RW.out, B5.out⟩
theorem RS.cells {w : World} {v : Value} {l : List Sb} (h : RS w v l) {i : Nat} {s : Sb} (hi : l[i]? = some s) : ∃ rb cap, v = .slice (some ⟨rb, 0, none⟩) l.length cap ∧ rb < w.heap.size ∧ w.cell? ⟨rb, i * 3, none⟩ = some (.int .i64 (s.k : Int)) ∧ w.cell? ⟨rb, i * 3 + 1, none⟩ = some (.int .i64 (s.n : Int)) ∧ w.cell? ⟨rb, i * 3 + 2, none⟩ = some (.int .u64 (s.m : Int)) := by
  obtain ⟨rb, cap, h1, h2, _⟩ := ORow.at supEnc h hi
  exact ⟨rb, cap, h1, h.lt (q := rb) (by rw [h1]; rfl), h2 0 _ rfl, h2 1 _ rfl, h2 2 _ rfl⟩
theorem RS.next {w w' : World} {v : Value} {l : List Sb} (h : RS w v l) (hb : Below w.heap.size w w') : RS w' v l := ORow.next h hb
theorem belA {w w1 : World} (h : Below w.heap.size w w1) (o : Obj) : Below w.heap.size w (w1.alloc o) := h.alloc h.size o
set_option maxRecDepth 20000 in
set_option maxHeartbeats 4000000 in
theorem same11_yes (b c : Nat) (v : Value) (l : List Sb) (r : List Nat) (w : World) (hW : Hid (HW w b l r)) (hR : Hid (RS w v l)) (hF : Hid (FldAt w)) :
    Calls Tryd.prog 20 #[.slice (some ⟨b, 0, none⟩) (2 * l.length) c, v] w fun e w' => e = .returned (.bool true) ∧ Below w.heap.size w w' := by
  have hf := hW.out.few
  obtain ⟨ra, rc, rfl⟩ := ORow.form hR.out
  go_enter Tryd.func20, Tryd.ntmps20
  go_wp2_with fail
  go_loopw [5] (fun u wr => ∃ j : Int, -1 ≤ j ∧ j ≤ (l.length : Int) + 1 ∧ u = .int .i64 j ∧ Hid (Below w.heap.size w wr)) (fun u _ => (64 + 2 - intOf u).toNat)
  case atStart => exact ⟨-1, by omega, by omega, rfl, Lib.hid (Below.refl _ _)⟩
  case round =>
    obtain ⟨j, h0, h1, rfl, B1⟩ := hrel
    have W1 := Lib.hid (hW.out.next B1.out)
    have F1 := Lib.hid (hF.out.next B1.out)
    have R1 := Lib.hid (hR.out.next B1.out)
    by_cases hj : j ≤ (l.length : Int)
    · have g1 : decide (j ≤ (l.length : Int)) = true := by simpa using hj
      have wj : IntKind.i64.wrap (j + 1) = j + 1 := by rw [IntKind.wrap_i64]; omega
      by_cases hin : 0 ≤ j ∧ j < (l.length : Int)
      · obtain ⟨i, rfl⟩ := Int.eq_ofNat_of_zero_le hin.1
        have hi : i < l.length := by omega
        have hs := Lib.hid (at_of hi)
        have ok := W1.out.ok.at hs.out
        have AT := Lib.hid (at_in b (2 * l.length) c i _ l r wr W1 rfl hs F1)
        obtain ⟨rb, rcap, hv, hrb, r0, r1, r2⟩ := R1.out.cells hs.out
        cases hv
        generalize l.getD i Sb.none = s at *
        obtain ⟨k, n, m⟩ := s
        obtain ⟨hk, _, _⟩ := ok
        simp only at hk r0 r1 r2
        have l3 : (i : Int) < (l.length : Int) := by omega
        rcases (by omega : k = 0 ∨ k = 1 ∨ k = 2 ∨ k = 3) with rfl | rfl | rfl | rfl
        · have Z : supV ⟨0, n, m⟩ = .agg #[.bool true, .int .i64 (-1), .int .i64 0, .int .u64 0] := rfl
          go_wp2_with fail
          refine AT.out.mono ?_
          rintro e w2 ⟨rfl, hb⟩
          have B2 := Lib.hid (B1.out.trans (hb.mono B1.out.size))
          have x2 := Lib.hid (box1 w2 (.cells #[.bool true, .int .i64 (-1), .int .i64 0, .int .u64 0] 88))
          have q0 : _ = some (Value.int .i64 0) := (x2.out.cell (p := ⟨rb, i * 3, none⟩) (Nat.lt_of_lt_of_le hrb hb.size)).trans ((hb.cell (p := ⟨rb, i * 3, none⟩) hrb).trans r0)
          have q1 := (x2.out.cell (p := ⟨rb, i * 3 + 1, none⟩) (Nat.lt_of_lt_of_le hrb hb.size)).trans ((hb.cell (p := ⟨rb, i * 3 + 1, none⟩) hrb).trans r1)
          have q2 := (x2.out.cell (p := ⟨rb, i * 3 + 2, none⟩) (Nat.lt_of_lt_of_le hrb hb.size)).trans ((hb.cell (p := ⟨rb, i * 3 + 2, none⟩) hrb).trans r2)
          clear hb r0 r1 r2
          have B3 := Lib.hid (B2.out.alloc B2.out.size (.cells #[.bool true, .int .i64 (-1), .int .i64 0, .int .u64 0] 88))
          go_wp2_with fail
          go_roundw
          case rel => exact ⟨(i : Int) + 1, by omega, by omega, rfl, Lib.hid (by first | exact belA (belA B3.out _) _ | exact below_set (belA (belA B3.out _) _) (by have := B2.out.size; simp; omega))⟩
          case measure => simp [intOf]; omega
        · have Z : supV ⟨1, n, m⟩ = .agg #[.bool false, .int .i64 (n : Int), .int .i64 0, .int .u64 (m : Int)] := rfl
          go_wp2_with fail
          refine AT.out.mono ?_
          rintro e w2 ⟨rfl, hb⟩
          have B2 := Lib.hid (B1.out.trans (hb.mono B1.out.size))
          have x2 := Lib.hid (box1 w2 (.cells #[.bool false, .int .i64 (n : Int), .int .i64 0, .int .u64 (m : Int)] 88))
          have q0 : _ = some (Value.int .i64 1) := (x2.out.cell (p := ⟨rb, i * 3, none⟩) (Nat.lt_of_lt_of_le hrb hb.size)).trans ((hb.cell (p := ⟨rb, i * 3, none⟩) hrb).trans r0)
          have q1 := (x2.out.cell (p := ⟨rb, i * 3 + 1, none⟩) (Nat.lt_of_lt_of_le hrb hb.size)).trans ((hb.cell (p := ⟨rb, i * 3 + 1, none⟩) hrb).trans r1)
          have q2 := (x2.out.cell (p := ⟨rb, i * 3 + 2, none⟩) (Nat.lt_of_lt_of_le hrb hb.size)).trans ((hb.cell (p := ⟨rb, i * 3 + 2, none⟩) hrb).trans r2)
          clear hb r0 r1 r2
          have B3 := Lib.hid (B2.out.alloc B2.out.size (.cells #[.bool false, .int .i64 (n : Int), .int .i64 0, .int .u64 (m : Int)] 88))
          go_wp2_with fail
          obtain ⟨t0, t1, t2, t3, t4⟩ := three_fresh w2 (.cells #[.bool false, .int .i64 (n : Int), .int .i64 0, .int .u64 (m : Int)] 88) (.cells #[.int .i64 1, .int .i64 (n : Int), .int .u64 (m : Int)] 99) (.cells #[.bool false, .int .i64 (-1), .int .i64 0, .int .u64 0] 88)
          have T0 : Hid (SupBox _ w2.heap.size false (n : Int) 0 (m : Int)) := t0
          have T1 := Lib.hid t1
          have T2 : Hid (SupBox _ (w2.heap.size + 1 + 1) false (-1) 0 0) := t2
          have BY := Lib.hid (B2.out.trans (t3.mono B2.out.size))
          have hN2 : w.heap.size ≤ w2.heap.size := B2.out.size
          clear t0 t1 t2 t3 t4 x2 q0 q1 q2 B3
          generalize ((w2.alloc (.cells #[.bool false, .int .i64 (n : Int), .int .i64 0, .int .u64 (m : Int)] 88)).alloc (.cells #[.int .i64 1, .int .i64 (n : Int), .int .u64 (m : Int)] 99)).alloc (.cells #[.bool false, .int .i64 (-1), .int .i64 0, .int .u64 0] 88) = y at *
          generalize w2.heap.size = N at *
          have s1 : y.cell? ⟨N + 1, 1, none⟩ = some (.int .i64 (n : Int)) := by rw [cell_of T1.out]; rfl
          have s2 : y.cell? ⟨N + 1, 2, none⟩ = some (.int .u64 (m : Int)) := by rw [cell_of T1.out]; rfl
          refine wp_region_noPanic ?_
          refine wp_region_held_drew (S := fun w' => w'.cell? ⟨N + 1, 1, none⟩ = some (.int .i64 (n : Int)) ∧ w'.cell? ⟨N + 1, 2, none⟩ = some (.int .u64 (m : Int))) (by kernel_rfl) ⟨s1, s2⟩ (fun hHeld => ?_)
          have DR := (Below.refl y.heap.size y).drew
          have U0 := Lib.hid (T0.out.next DR)
          have U1 : Hid (y.drew.heap[N + 1]? = _) := T1.out
          have U2 := Lib.hid (T2.out.next DR)
          have BZ := Lib.hid (BY.out.trans (DR.mono BY.out.size))
          clear DR T0 T1 T2 BY s1 s2
          generalize y.drew = z at *
          refine wpAnyH_take (i := 0) (v := .pointer (some ⟨N + 1, 1, none⟩)) rfl (by kernel_rfl) (by kernel_rfl) (by kernel_rfl) (fun _ _ _ h => h) (Or.inl ⟨by rfl, fun w hSw => by obtain ⟨s1, s2⟩ := hSw; go_simp⟩) (by assumption) ?_
          change wpAnyH _ _ _ _ _ _ _ (Act.put _ (some 46) _) _
          simp only [Act.put, List.setIfInBounds_toArray, List.set_cons_zero, List.set_cons_succ]
          refine wpAnyH_take (i := 1) (v := .int .i64 (n : Int)) rfl (by kernel_rfl) (by kernel_rfl) (by kernel_rfl) (fun _ _ _ h => h) (Or.inl ⟨by rfl, fun w hSw => by obtain ⟨s1, s2⟩ := hSw; go_simp⟩) (by assumption) ?_
          change wpAnyH _ _ _ _ _ _ _ (Act.put _ (some 47) _) _
          simp only [Act.put, List.setIfInBounds_toArray, List.set_cons_zero, List.set_cons_succ]
          refine wpAnyH_take (i := 2) (v := .pointer (some ⟨N + 1, 2, none⟩)) rfl (by kernel_rfl) (by kernel_rfl) (by kernel_rfl) (fun _ _ _ h => h) (Or.inl ⟨by rfl, fun w hSw => by obtain ⟨s1, s2⟩ := hSw; go_simp⟩) (by assumption) ?_
          change wpAnyH _ _ _ _ _ _ _ (Act.put _ (some 48) _) _
          simp only [Act.put, List.setIfInBounds_toArray, List.set_cons_zero, List.set_cons_succ]
          refine wpAnyH_take (i := 3) (v := .int .u64 (m : Int)) rfl (by kernel_rfl) (by kernel_rfl) (by kernel_rfl) (fun _ _ _ h => h) (Or.inl ⟨by rfl, fun w hSw => by obtain ⟨s1, s2⟩ := hSw; go_simp⟩) (by assumption) ?_
          change wpAnyH _ _ _ _ _ _ _ (Act.put _ (some 49) _) _
          simp only [Act.put, List.setIfInBounds_toArray, List.set_cons_zero, List.set_cons_succ]
          refine wpAnyH_take (i := 4) (v := .pointer (some ⟨N + 1 + 1, 1, none⟩)) rfl (by kernel_rfl) (by kernel_rfl) (by kernel_rfl) (fun _ _ _ h => h) (Or.inl ⟨by rfl, fun w hSw => by obtain ⟨s1, s2⟩ := hSw; go_simp⟩) (by assumption) ?_
          change wpAnyH _ _ _ _ _ _ _ (Act.put _ (some 50) _) _
          simp only [Act.put, List.setIfInBounds_toArray, List.set_cons_zero, List.set_cons_succ]
          refine wpAnyH_ready (rs := [5]) (by kernel_rfl) (by simp) ?_
          refine AllReadyH.cons rfl (fun K hK => ?_) AllReadyH.nil
          have c1 := U2.out.c1
          have f1 := frozen_of (j := 1) U2.out
          have V0 := Lib.hid (U0.out.keep (g := N + 1 + 1) (j := 1) (.int .i64 (n : Int)) (by omega))
          have V1 : Hid ((z.setCell ⟨N + 1 + 1, 1, none⟩ (.int .i64 (n : Int))).heap[N + 1]? = _) := (set_other (by omega) _).trans U1.out
          have V2 : Hid (SupBox (z.setCell ⟨N + 1 + 1, 1, none⟩ (.int .i64 (n : Int))) (N + 1 + 1) false (n : Int) 0 0) := set_of U2.out _
          have BV := Lib.hid (below_set (N := N + 1 + 1) (j := 1) (v := .int .i64 (n : Int)) BZ.out (by omega))
          go_simp
          refine hK.out _ _ ⟨by rw [cell_of V1.out]; rfl, by rw [cell_of V1.out]; rfl⟩ (fun hHeld2 => ?_)
          clear hK K c1 f1 U0 U1 U2 BZ
          generalize z.setCell ⟨N + 1 + 1, 1, none⟩ (.int .i64 (n : Int)) = z2 at *
          refine wpAnyH_take (i := 6) (v := .pointer (some ⟨N + 1 + 1, 3, none⟩)) rfl (by kernel_rfl) (by kernel_rfl) (by kernel_rfl) (fun _ _ _ h => h) (Or.inl ⟨by rfl, fun w hSw => by obtain ⟨s1, s2⟩ := hSw; go_simp⟩) (by assumption) ?_
          change wpAnyH _ _ _ _ _ _ _ (Act.put _ (some 51) _) _
          simp only [Act.put, List.setIfInBounds_toArray, List.set_cons_zero, List.set_cons_succ]
          refine wpAnyH_ready (rs := [7]) (by kernel_rfl) (by simp) ?_
          refine AllReadyH.cons rfl (fun K hK => ?_) AllReadyH.nil
          have c3 := V2.out.c3
          have f3 := frozen_of (j := 3) V2.out
          have X0 := Lib.hid (V0.out.keep (g := N + 1 + 1) (j := 3) (.int .u64 (m : Int)) (by omega))
          have X1 : Hid ((z2.setCell ⟨N + 1 + 1, 3, none⟩ (.int .u64 (m : Int))).heap[N + 1]? = _) := (set_other (by omega) _).trans V1.out
          have X2 : Hid (SupBox (z2.setCell ⟨N + 1 + 1, 3, none⟩ (.int .u64 (m : Int))) (N + 1 + 1) false (n : Int) 0 (m : Int)) := set_of V2.out _
          have BX := Lib.hid (below_set (N := N + 1 + 1) (j := 3) (v := .int .u64 (m : Int)) BV.out (by omega))
          go_simp
          refine hK.out _ _ ⟨by rw [cell_of X1.out]; rfl, by rw [cell_of X1.out]; rfl⟩ (fun hHeld3 => ?_)
          clear hK K c3 f3 V0 V1 V2 BV
          generalize z2.setCell ⟨N + 1 + 1, 3, none⟩ (.int .u64 (m : Int)) = z3 at *
          refine ⟨by kernel_rfl, ?_⟩
          refine NoPanic.normal ?_
          have a0 := X0.out.c0
          have a1 := X0.out.c1
          have a2 := X0.out.c2
          have a3 := X0.out.c3
          have e0 := X2.out.c0
          have e1 := X2.out.c1
          have e2 := X2.out.c2
          have e3 := X2.out.c3
          go_wp2_with fail
          go_roundw
          case rel => exact ⟨(i : Int) + 1, by omega, by omega, rfl, BX⟩
          case measure => simp [intOf]; omega
        · have Z : supV ⟨2, n, m⟩ = .agg #[.bool false, .int .i64 (-1), .int .i64 (n : Int), .int .u64 0] := rfl
          go_wp2_with fail
          refine AT.out.mono ?_
          rintro e w2 ⟨rfl, hb⟩
          have B2 := Lib.hid (B1.out.trans (hb.mono B1.out.size))
          have x2 := Lib.hid (box1 w2 (.cells #[.bool false, .int .i64 (-1), .int .i64 (n : Int), .int .u64 0] 88))
          have q0 : _ = some (Value.int .i64 2) := (x2.out.cell (p := ⟨rb, i * 3, none⟩) (Nat.lt_of_lt_of_le hrb hb.size)).trans ((hb.cell (p := ⟨rb, i * 3, none⟩) hrb).trans r0)
          have q1 := (x2.out.cell (p := ⟨rb, i * 3 + 1, none⟩) (Nat.lt_of_lt_of_le hrb hb.size)).trans ((hb.cell (p := ⟨rb, i * 3 + 1, none⟩) hrb).trans r1)
          have q2 := (x2.out.cell (p := ⟨rb, i * 3 + 2, none⟩) (Nat.lt_of_lt_of_le hrb hb.size)).trans ((hb.cell (p := ⟨rb, i * 3 + 2, none⟩) hrb).trans r2)
          clear hb r0 r1 r2
          have B3 := Lib.hid (B2.out.alloc B2.out.size (.cells #[.bool false, .int .i64 (-1), .int .i64 (n : Int), .int .u64 0] 88))
          go_wp2_with fail
          go_roundw
          case rel => exact ⟨(i : Int) + 1, by omega, by omega, rfl, Lib.hid (by first | exact belA (belA B3.out _) _ | exact below_set (belA (belA B3.out _) _) (by have := B2.out.size; simp; omega))⟩
          case measure => simp [intOf]; omega
        · have Z : supV ⟨3, n, m⟩ = .agg #[.bool false, .int .i64 (-1), .int .i64 (-1), .int .u64 0] := rfl
          go_wp2_with fail
          refine AT.out.mono ?_
          rintro e w2 ⟨rfl, hb⟩
          have B2 := Lib.hid (B1.out.trans (hb.mono B1.out.size))
          have x2 := Lib.hid (box1 w2 (.cells #[.bool false, .int .i64 (-1), .int .i64 (-1), .int .u64 0] 88))
          have q0 : _ = some (Value.int .i64 3) := (x2.out.cell (p := ⟨rb, i * 3, none⟩) (Nat.lt_of_lt_of_le hrb hb.size)).trans ((hb.cell (p := ⟨rb, i * 3, none⟩) hrb).trans r0)
          have q1 := (x2.out.cell (p := ⟨rb, i * 3 + 1, none⟩) (Nat.lt_of_lt_of_le hrb hb.size)).trans ((hb.cell (p := ⟨rb, i * 3 + 1, none⟩) hrb).trans r1)
          have q2 := (x2.out.cell (p := ⟨rb, i * 3 + 2, none⟩) (Nat.lt_of_lt_of_le hrb hb.size)).trans ((hb.cell (p := ⟨rb, i * 3 + 2, none⟩) hrb).trans r2)
          clear hb r0 r1 r2
          have B3 := Lib.hid (B2.out.alloc B2.out.size (.cells #[.bool false, .int .i64 (-1), .int .i64 (-1), .int .u64 0] 88))
          go_wp2_with fail
          go_roundw
          case rel => exact ⟨(i : Int) + 1, by omega, by omega, rfl, Lib.hid (by first | exact belA (belA B3.out _) _ | exact below_set (belA (belA B3.out _) _) (by have := B2.out.size; simp; omega))⟩
          case measure => simp [intOf]; omega
      · have AT := Lib.hid (at_out b (2 * l.length) c j wr (by omega) (by omega))
        go_wp2_with fail
        refine AT.out.mono ?_
        rintro e w2 ⟨rfl, hb⟩
        have B2 := Lib.hid (B1.out.trans (hb.mono B1.out.size))
        have B3 := Lib.hid (B2.out.alloc B2.out.size (.cells #[.bool false, .int .i64 0, .int .i64 0, .int .u64 0] 88))
        clear hb
        by_cases hj0 : 0 ≤ j
        · have g2 : decide (0 ≤ j) = true := by simpa using hj0
          have g4 : ¬ j < (l.length : Int) := by omega
          have g3 : decide (j < (l.length : Int)) = false := by simpa using g4
          go_wp2_with fail
          go_roundw
          case rel => exact ⟨j + 1, by omega, by omega, rfl, B3⟩
          case measure => simp [intOf]; omega
        · have g2 : decide (0 ≤ j) = false := by simpa using hj0
          go_wp2_with fail
          go_roundw
          case rel => exact ⟨j + 1, by omega, by omega, rfl, B3⟩
          case measure => simp [intOf]; omega
    · have g1 : decide (j ≤ (l.length : Int)) = false := by simpa using hj
      go_wp2_with fail
      go_ret
      exact ⟨rfl, B1.out⟩
end Go.Proofs.YtkogeeaoppkhkaaDoor
