/-
  The document's Fill and Of.
-/
import Derived.Test.YtagacljfpakgnaaDoorStockY
namespace Go.Proofs.YtagacljfpakgnaaDoor
open Go.RowKit Go.Sort
attribute [local go_sem] Oper.semAt_some

/-- The members that are no less than j, the greatest first. -/
def memD (m j : Nat) : List Nat := (((List.range 64).drop j).filter fun i => m.testBit i).reverse
theorem memD_top (m : Nat) : memD m 64 = [] := by unfold memD; rw [List.drop_of_length_le (by simp)]; rfl
theorem memD_all (m : Nat) : memD m 0 = (Ma.mem m).reverse := by simp [memD, Ma.mem]
theorem memD_step (m j : Nat) (h : j < 64) : memD m j = if m.testBit j = true then memD m (j + 1) ++ [j] else memD m (j + 1) := by
  unfold memD
  have e : (List.range 64).drop j = j :: (List.range 64).drop (j + 1) := by
    rw [List.drop_eq_getElem_cons (by simpa using h)]
    simp
  rw [e]
  by_cases hb : m.testBit j = true
  · rw [if_pos hb, List.filter_cons_of_pos (by simpa using hb), List.reverse_cons]
  · rw [if_neg hb, List.filter_cons_of_neg (by simpa using hb)]
theorem pushL_len (S : Int) (len : Nat) (f : Nat → Int) (k : Nat) (l : List (Int × Int)) (x : Int × Int) : (pushL S len f k l x).length ≤ l.length + 1 := by
  unfold pushL; split <;> simp
theorem fillL_len (S : Int) (len : Nat) (f : Nat → Int) (k : Nat) (xs : List (Int × Int)) : ∀ l, (fillL S len f k l xs).length ≤ l.length + xs.length := by
  induction xs with
  | nil => intro l; simp [fillL]
  | cons x xs ih =>
    intro l
    have := ih (pushL S len f k l x)
    have := pushL_len S len f k l x
    show (fillL S len f k (pushL S len f k l x) xs).length ≤ _
    simp
    omega
theorem memD_len (m j : Nat) : (memD m j).length ≤ 64 := by
  unfold memD
  rw [List.length_reverse]
  refine Nat.le_trans (List.length_filter_le _ _) ?_
  simp
/-- The blocks that Fill lays. -/
def bksD (s : Int) (m j : Nat) : List (Int × Int) := (memD m j).map fun i : Nat => (s, (i : Int))
section
variable (W S B T : Int) (ad : Option Addr) (len cap : Nat) (f : Nat → Int)
set_option maxRecDepth 20000 in
set_option maxHeartbeats 4000000 in
theorem rfill_any (k : Nat) (v : Value) (l : List (Int × Int)) (s : Int) (m : Nat) (w : World) (hr : Hid (RowI w ad len f)) (h : Hid (BkRow w v l)) (few : l.length ≤ 900000) (ok : Hid (ClsOk len f)) (s0 : 0 ≤ S) (s1 : S ≤ 1000) (hm : m < 18446744073709551616) :
    Calls Tryd.prog 26 #[.agg #[.int .i64 W, .int .i64 S, .int .i64 B, .int .i64 T, .slice ad len cap], .int .i64 (k : Nat), v, .int .i64 s, .int .u64 (m : Nat)] w fun e w' => ∃ v', e = .returned v' ∧ BkRow w' v' (fillL S len f k l (bksD s m 0)) ∧ Below w.heap.size w w' ∧ (v' = v ∨ ∀ b, v'.ownBlock = some b → w.heap.size ≤ b) := by
  have hb1 := below_alloc w (.cells #[.int .i64 W, .int .i64 S, .int .i64 B, .int .i64 T, .slice ad len cap] 24)
  have HB := Lib.hid hb1
  have HR := Lib.hid (hr.out.next hb1)
  have RW := Lib.hid (ORow.next h.out hb1)
  have C0 := Lib.hid (cfg_new w W S B T (.slice ad len cap))
  clear hb1
  go_enter Tryd.func26, Tryd.ntmps26
  go_wp2_with fail
  generalize w.alloc (.cells #[.int .i64 W, .int .i64 S, .int .i64 B, .int .i64 T, .slice ad len cap] 24) = w0 at *
  go_loopw [2, 11] (fun u2 u11 wr => ∃ j : Nat, j ≤ 64 ∧ u11 = .int .i64 ((j : Int) - 1) ∧ Hid (BkRow wr u2 (fillL S len f k l (bksD s m j))) ∧ Hid (Below w0.heap.size w0 wr) ∧ Hid (u2 = v ∨ ∀ b, u2.ownBlock = some b → w.heap.size ≤ b)) (fun _ u11 _ => (intOf u11 + 1).toNat)
  case atStart => exact ⟨64, by omega, rfl, by simp only [bksD, memD_top]; exact RW, Lib.hid (Below.refl _ _), Lib.hid (.inl rfl)⟩
  case round =>
    obtain ⟨j, hj, rfl, R1, B1, O1⟩ := hrel
    have BF := Lib.hid (HB.out.trans (B1.out.mono HB.out.size))
    cases j with
    | zero =>
      go_wp2_with fail
      go_ret
      exact ⟨_, rfl, R1.out, BF.out, O1.out⟩
    | succ j =>
      have ej : (((j + 1 : Nat) : Int) - 1) = (j : Int) := by omega
      rw [ej]
      have j64 : j < 64 := by omega
      have gj : decide (0 ≤ (j : Int)) = true := by simp
      have wj : IntKind.i64.wrap ((j : Int) - 1) = (j : Int) - 1 := by rw [IntKind.wrap_i64]; omega
      have st := Lib.hid (memD_step m j j64)
      have C1 := Lib.hid (cfg_next C0.out B1.out)
      obtain ⟨c0, c1, c2, c3, c4⟩ := cfg_cells C1.out
      have fl := fillL_len S len f k (bksD s m (j + 1)) l
      have fl2 : (bksD s m (j + 1)).length ≤ 64 := by unfold bksD; rw [List.length_map]; exact memD_len _ _
      by_cases hbit : m.testBit j = true
      · have HAS := Lib.hid (rhas_is m j true wr hm j64 hbit)
        have PU := Lib.hid (rpush_any W S B T ad len cap f k u2 (fillL S len f k l (bksD s m (j + 1))) (s, (j : Int)) wr (Lib.hid (HR.out.next B1.out)) R1 (by omega) ok s0 s1)
        have st2 : Hid (pushL S len f k (fillL S len f k l (bksD s m (j + 1))) (s, (j : Int)) = fillL S len f k l (bksD s m j)) := Lib.hid (by rw [← fillL_app]; unfold bksD; rw [st.out, if_pos hbit, List.map_append]; rfl)
        go_wp2_with fail
        refine HAS.out.mono ?_
        rintro e wz ⟨rfl, rfl⟩
        go_wp2_with fail
        refine PU.out.mono ?_
        rintro e w3 ⟨v', rfl, r1, r2, r3⟩
        rw [st2.out] at r1
        have R2 := Lib.hid r1
        have B2 := Lib.hid (B1.out.trans (r2.mono B1.out.size))
        have O2 : Hid (v' = v ∨ ∀ b, v'.ownBlock = some b → w.heap.size ≤ b) := Lib.hid (by
          rcases r3 with rfl | r3
          · exact O1.out
          · exact .inr (fun b hb => by have := r3 b hb; have := BF.out.size; omega))
        clear r1 r2 r3 PU HAS
        go_wp2_with fail
        go_roundw
        case rel => exact ⟨j, by omega, rfl, R2, B2, O2⟩
        case measure => simp [intOf]
      · have hbit' : m.testBit j = false := by simpa using hbit
        have HAS := Lib.hid (rhas_is m j false wr hm j64 hbit')
        have st2 : Hid (bksD s m j = bksD s m (j + 1)) := Lib.hid (by unfold bksD; rw [st.out, if_neg hbit])
        go_wp2_with fail
        refine HAS.out.mono ?_
        rintro e wz ⟨rfl, rfl⟩
        go_wp2_with fail
        go_roundw
        case rel => exact ⟨j, by omega, rfl, by rw [st2.out]; exact R1, B1, O1⟩
        case measure => simp [intOf]
end
set_option maxRecDepth 20000 in
set_option maxHeartbeats 4000000 in
theorem rof12_any (v : Value) (l : List (Int × Int)) (s : Int) (w : World) (h : Hid (BkRow w v l)) (few : l.length ≤ 1000000) :
    Calls Tryd.prog 42 #[v, .int .i64 s] w fun e w' => ∃ v', e = .returned v' ∧ IRow w' v' ((goes s l).map (·.2)) ∧ Below w.heap.size w w' := by
  obtain ⟨va, vc, rfl⟩ := ORow.form h.out
  have hb1 := box1 w (.cells #[] 3)
  have HB := Lib.hid hb1
  have RW := Lib.hid (ORow.next h.out hb1)
  have EM := Lib.hid (IRow.empty w)
  have LB : Hid (∀ b, (Value.slice va l.length vc).ownBlock = some b → b < w.heap.size) := Lib.hid (fun b hb => h.out.lt' hb)
  clear hb1
  go_enter Tryd.func42, Tryd.ntmps42
  go_wp2_with fail
  have EO : Hid (∀ b, (Value.slice (some ⟨w.heap.size, 0, none⟩) 0 0).ownBlock = some b → w.heap.size ≤ b) := Lib.hid (fun b e => by cases e; exact Nat.le_refl _)
  generalize w.alloc (.cells #[] 3) = w0 at *
  go_loopw [5, 6] (fun u5 u6 wr => ∃ i : Nat, i ≤ l.length ∧ u6 = .int .i64 (i : Nat) ∧ Hid (IRow wr u5 ((goes s (l.take i)).map (·.2))) ∧ Hid (Below w.heap.size w wr) ∧ Hid (∀ b, u5.ownBlock = some b → w.heap.size ≤ b)) (fun _ u6 _ => l.length - (intOf u6).toNat)
  case atStart => exact ⟨0, by omega, rfl, EM, HB, EO⟩
  case round =>
    obtain ⟨i, hi, rfl, R1, B1, O1⟩ := hrel
    have SR := Lib.hid (ORow.next h.out B1.out)
    by_cases hlt : i < l.length
    · have l3 : (i : Int) < (l.length : Int) := by omega
      obtain ⟨y, hy⟩ : ∃ y, l[i]? = some y := ⟨_, List.getElem?_eq_getElem hlt⟩
      obtain ⟨lb, cp, hv2, hcell, _⟩ := ORow.at bkEnc SR.out hy
      simp only [Value.slice.injEq, true_and] at hv2
      obtain ⟨rfl, rfl⟩ := hv2
      have y0 : wr.cell? ⟨lb, i * 2, none⟩ = some (.int .i64 y.1) := hcell 0 _ rfl
      have y1 : wr.cell? ⟨lb, i * 2 + 1, none⟩ = some (.int .i64 y.2) := hcell 1 _ rfl
      have ht : Hid (l.take (i + 1) = l.take i ++ [y]) := Lib.hid (by rw [List.take_add_one, hy]; rfl)
      have tl : (goes s (l.take i)).length ≤ 1000000 := by
        have := goes_len s (l.take i)
        have : (l.take i).length ≤ l.length := by simp; omega
        omega
      clear hcell hy
      by_cases g : y.1 = s
      · have gb : (y.1 == s) = true := by simpa using g
        have hn : Hid ((goes s (l.take (i + 1))).map (·.2) = (goes s (l.take i)).map (·.2) ++ [y.2]) := Lib.hid (by rw [ht.out, goes_app]; simp [g])
        have hb2 := box1 wr (.cells #[.int .i64 y.2] 3)
        have BX := heap_new wr (.cells #[.int .i64 y.2] 3)
        obtain ⟨v', wa, hrun, r1, r2, r3, bq, cq, hvq⟩ := IRow.app (vb := wr.heap.size) (x := y.2) (ORow.next R1.out hb2) BX (by rw [List.length_map]; omega) 22
        have B2 := B1.out.trans (hb2.mono B1.out.size)
        have o := Only.of_grown (l := u5.ownBlock.toList) r2 (fun b hb => by simp [hb])
        have B3 : Hid (Below w.heap.size w wa) := B2.trans (o.below (fun b hb => O1.out b (by simpa using hb)) B2.size)
        have O3 : Hid (∀ b, v'.ownBlock = some b → w.heap.size ≤ b) := Lib.hid (fun b e => by
          rcases r3 with h1 | h1
          · exact O1.out b (by rw [← h1]; exact e)
          · rw [h1] at e; cases e; exact B2.size)
        have R3 : Hid (IRow wa v' ((goes s (l.take (i + 1))).map (·.2))) := by rw [hn.out]; exact r1
        have HR := Lib.hid hrun
        clear hrun r1 r2 r3 o B2 BX hb2 hvq
        go_wp2_with (at_builtin; refine wpList_append_by rfl _ _ 22 22 rfl u5 (.slice (some ⟨wr.heap.size, 0, none⟩) 1 1) (by rfl) (by rfl) HR.out ?_)
        go_roundw
        case rel => exact ⟨i + 1, by omega, by push_cast; rfl, R3, B3, O3⟩
        case measure => simp [intOf]; omega
      · have gb : (y.1 == s) = false := by simpa using g
        have hn : Hid ((goes s (l.take (i + 1))).map (·.2) = (goes s (l.take i)).map (·.2)) := Lib.hid (by rw [ht.out, goes_app]; simp [g])
        go_wp2_with fail
        go_roundw
        case rel => exact ⟨i + 1, by omega, by push_cast; rfl, by rw [hn.out]; exact R1, B1, O1⟩
        case measure => simp [intOf]; omega
    · obtain rfl : i = l.length := by omega
      rw [List.take_length] at R1
      go_wp2_with fail
      go_ret
      exact ⟨_, rfl, R1.out, B1.out⟩
end Go.Proofs.YtagacljfpakgnaaDoor
